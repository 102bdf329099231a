/-
  wire.Reader: seeFlag, seeWide, seeDigest, seeAddress, whatever the bytes.
-/
import Derived.Test.YtfommclhnfcioaaXSee
import Derived.Test.YtfommclhnfcioaaXLaw2
namespace Go.Proofs.Ytfommclhnfcioaa
open Go Go.RowKit
open Sha

/-- What is wrong with a truth. -/
def flE (bs : List (BitVec 8)) (a : Nat) : Int := if bs.length ≤ a then 31 else if 1 < at8 bs a then 32 else 0
/-- What is wrong with so many bytes. -/
def dgE (n : Nat) (bs : List (BitVec 8)) (a : Nat) : Int := if bs.length < a + n then 31 else 0
def byE (bs : List (BitVec 8)) (a : Nat) : Int := if bs.length ≤ a then 31 else 0
/-- Bytes from a place on. -/
def sub (bs : List (BitVec 8)) (a n : Nat) : List (BitVec 8) := (bs.drop a).take n
theorem sub_len (bs : List (BitVec 8)) (a n : Nat) (h : a + n ≤ bs.length) : (sub bs a n).length = n := by
  unfold sub; rw [List.length_take, List.length_drop]; omega
theorem sub_get (bs : List (BitVec 8)) (a n i : Nat) (hi : i < n) : (sub bs a n)[i]? = bs[a + i]? := by
  unfold sub; rw [List.getElem?_take_of_lt hi, List.getElem?_drop]

section
variable {ops : Array Oper} {rest : List Oper} {op : Oper} {a : Act} {w : World} {Q : Exit → Act → World → Prop}
/-- A slice as an array. -/
theorem wpList_s2a (hw : Region.wanted op (yielded ops a.tmps) = true) (t : TypeId) (n : Nat) (x : Operand) (ho : op.op = .sliceToArrayPointer t x) (b o m cap : Nat) (hx : a.eval x = .slice (some ⟨b, o, none⟩) m cap) (hm : n ≤ m) (hu : Try.prog.underlying t = some (.array n 5))
    (h : wpList Try.prog ops Q rest (a.put op.dst (.pointer (some ⟨b, o, none⟩))) w) : wpList Try.prog ops Q (op :: rest) a w :=
  BigFrame.wpList_want hw fun K hK => by
    have hr : (Instr.arrayAt t (.slice (some ⟨b, o, none⟩) m cap)).run Try.prog w = .ok (.pointer (some ⟨b, o, none⟩)) w := by
      unfold Instr.arrayAt
      simp [run_underlying hu, show ¬ m < n by omega]
    unfold Oper.wp execOp
    simp only [ho, hx, Sem.run_bind, hr, Result.andThen_ok, Sem.run_pure, Oper.upon_value]
    exact hK _ _ h
end

set_option maxRecDepth 100000 in
set_option maxHeartbeats 1000000 in
theorem seeDigest_no (P : Nat) (A : Option Addr) (cap : Nat) (bs : List (BitVec 8)) (a : Nat) (f : Int) (hf : dgE 32 bs a = f) (h0 : ¬ f = 0) (w : World) (h : Rg w P A cap bs a) :
    Calls Try.prog 83 #[.pointer (some ⟨P, 0, none⟩)] w fun e w' => e = .panicked (gu f) ∧ Gave w w' P A cap bs := by
  unfold dgE at hf
  by_cases h1 : bs.length < a + 32
  · rw [if_pos h1] at hf
    subst hf
    have b0 : Below w.heap.size w (w.alloc (Obj.cells z32.toArray 23)) := (Below.refl _ _).alloc (Nat.le_refl _) _
    have HN : Hid _ := next_no P A cap bs a 32 h1 _ (h.be b0)
    have H : Hid (Rg _ P A cap bs a) := h.be b0
    have B0 : Hid _ := b0
    clear h h1 b0
    go_enter Try.func83, Try.ntmps83
    go_wp2_with fail
    refine Calls.mono HN.out ?_
    rintro e w1 ⟨rfl, m, hw⟩
    have HW : Hid _ := hw
    clear hw
    go_wp2_with fail
    exact ⟨rfl, rfl, by rw [HW.out]; exact Gave.of (Rg.drewN H.out m) (Gro.drewN (Gro.of_below B0.out) m)⟩
  · rw [if_neg h1] at hf
    exact absurd hf.symm h0

set_option maxRecDepth 100000 in
set_option maxHeartbeats 2000000 in
theorem seeDigest_any (P : Nat) (A : Option Addr) (cap : Nat) (bs : List (BitVec 8)) (a : Nat) (hf : dgE 32 bs a = 0) (w : World) (h : Rg w P A cap bs a) :
    Calls Try.prog 83 #[.pointer (some ⟨P, 0, none⟩)] w fun e w' => e = .returned (.agg (vB (sub bs a 32)).toArray) ∧ Rg w' P A cap bs (a + 32) ∧ Gp P w w' := by
  unfold dgE at hf
  have h1 : ¬ bs.length < a + 32 := fun h1 => by rw [if_pos h1] at hf; cases hf
  have b0 : Below w.heap.size w (w.alloc (Obj.cells z32.toArray 23)) := (Below.refl _ _).alloc (Nat.le_refl _) _
  have R0 : Hid (Row (w.alloc (Obj.cells z32.toArray 23)) w.heap.size z32 23) := Row.new' rfl rfl
  have HN : Hid _ := next_any P A cap bs a 32 (by omega) _ (h.be b0)
  have H : Hid (Rg _ P A cap bs a) := h.be b0
  have HL : Hid ((vB (sub bs a 32)).length = 32) := by show _ = _; rw [vB_length, sub_len bs a 32 (by omega)]
  have HLE : Hid (a + 32 ≤ bs.length) := by show _ ≤ _; omega
  have HO : Hid ((vB (sub bs a 32)).toArray.all (·.oneCell') = true) := all_oneCell_toArray (vB_one _)
  have HP : Hid (P < w.heap.size) := h.row.lt
  have B0 : Hid _ := b0
  clear h h1 b0 hf
  go_enter Try.func83, Try.ntmps83
  go_wp2_with fail
  refine Calls.mono HN.out ?_
  rintro e V ⟨A', c', rfl, hc', _, hA', m, hw⟩
  obtain ⟨g, rfl, rfl⟩ := hA' (by decide)
  have hr : Rg V P (some ⟨g, 0, none⟩) cap bs (a + 32) := by rw [hw]; exact (H.out.move _ HLE.out).drewN m
  have hg : Gp P w V := by rw [hw]; exact (Gp.set (Gro.of_below B0.out) 1 _).drewN m
  have rz : Row V w.heap.size z32 23 := by
    rw [hw]; exact (Row.set_other R0.out P 1 _ (by have := HP.out; omega)).drewN m
  have RNG : Hid (V.rangeAt g a (vB (sub bs a 32))) := fun j v hj => by
    have hjl : j < 32 := by have := (List.getElem?_eq_some_iff.1 hj).1; rw [HL.out] at this; exact this
    obtain ⟨g', e1, gb⟩ := hr.byte (a + j) (by have := HLE.out; omega)
    simp only [Option.some.injEq, Addr.mk.injEq] at e1
    obtain ⟨rfl, _⟩ := e1
    rw [gb, ← hj]
    unfold vB
    rw [List.getElem?_map, sub_get bs a 32 j hjl, List.getElem?_eq_getElem (show a + j < bs.length by have := HLE.out; omega)]
    simp [List.getElem?_eq_getElem (show a + j < bs.length by have := HLE.out; omega)]
  generalize hcs : vB (sub bs a 32) = cs at *
  have T0 := rz.there 0 cs.toArray.size (by rw [List.size_toArray, HL.out]; decide)
  have NF : Hid _ := rz.over (vs := cs) (by rw [HL.out]; rfl)
  have HR : Hid (Rg (V.setCells w.heap.size 0 cs) P (some ⟨g, 0, none⟩) cap bs (a + 32)) := hr.setsNew w.heap.size 0 cs rz (by decide) (by decide)
  have HG : Hid (Gp P w (V.setCells w.heap.size 0 cs)) := by
    have k0 := below_setCells (Below.refl 0 V) (b := w.heap.size) (o := 0) (Nat.zero_le _) cs
    exact ⟨k0.os.trans hg.os, k0.tape.trans hg.tape, k0.output.trans hg.output, Nat.le_trans hg.size k0.size, fun i hi hn => (heap_sets V w.heap.size 0 _ i (by omega)).trans (hg.block i hi hn)⟩
  have HI : Hid ((Try.prog.info? 23).map (·.size) = some cs.length) := by show _ = _; rw [HL.out]; exact info_a32
  have HI' : Hid ((Try.prog.info? 23).map (·.size) = some cs.toArray.size) := by show _ = _; rw [List.size_toArray, HL.out]; exact info_a32
  have HCS : Hid (vB (sub bs a 32) = cs) := hcs
  clear hr hg HN rz R0 hw hA' H hcs
  go_wp2_with (first
    | (refine wpList_s2a rfl 23 32 (.tmp 4) rfl g a 32 c' rfl (Nat.le_refl _) Try.underlying23 ?_; simp only [Act.put, List.setIfInBounds_toArray, List.set_cons_zero, List.set_cons_succ])
    | (refine wpList_load_w rfl 23 (.tmp 5) rfl g a rfl cs _ RNG.out Try.underlying23 rfl HI.out ?_; simp only [Act.put, List.setIfInBounds_toArray, List.set_cons_zero, List.set_cons_succ])
    | (refine wpList_store_mid rfl 23 (.tmp 2) (.tmp 6) rfl w.heap.size 0 cs.toArray rfl rfl T0 HI'.out HO.out ?_; simp only [Act.put]; clear T0; (change wpList _ _ _ _ _ (World.setCells V w.heap.size 0 cs)); (generalize World.setCells V w.heap.size 0 cs = Y at *)))
  exact bodyPost_ret (results_row Try.results83 _ _ w.heap.size 23 cs rfl NF.out Try.underlying23 info_a32 HL.out) rfl ⟨by rw [HCS.out], HR.out, HG.out⟩

end Go.Proofs.Ytfommclhnfcioaa
