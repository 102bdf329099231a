/-
  wire.Reader: seeFlag, seeWide, seeDigest, seeAddress, whatever the bytes.
-/
import Derived.Test.YtdicgenhfmhklaaGreatDoorXSee
import Derived.Test.YtdicgenhfmhklaaGreatDoorXLaw2
namespace Go.Proofs.YtdicgenhfmhklaaGreatDoor
open Go Go.RowKit
open Sha

/-- What is wrong with a truth. -/
def flE (bs : List (BitVec 8)) (a : Nat) : Int := if bs.length ≤ a then 31 else if 1 < at8 bs a then 32 else 0
/-- What is wrong with so many bytes. -/
def dgE (n : Nat) (bs : List (BitVec 8)) (a : Nat) : Int := if bs.length < a + n then 31 else 0
def byE (bs : List (BitVec 8)) (a : Nat) : Int := if bs.length ≤ a then 31 else 0
/-- Bytes from a place on. -/
def sub (bs : List (BitVec 8)) (a n : Nat) : List (BitVec 8) := (bs.drop a).take n
theorem sub_len (bs : List (BitVec 8)) (a n : Nat) (h : a + n ≤ bs.length) : (sub bs a n).length = n := by
  unfold sub; rw [List.length_take, List.length_drop]; omega
theorem sub_get (bs : List (BitVec 8)) (a n i : Nat) (hi : i < n) : (sub bs a n)[i]? = bs[a + i]? := by
  unfold sub; rw [List.getElem?_take_of_lt hi, List.getElem?_drop]

set_option maxRecDepth 100000 in
set_option maxHeartbeats 2000000 in
theorem seeWide_no (P : Nat) (A : Option Addr) (cap : Nat) (bs : List (BitVec 8)) (a : Nat) (f : Int) (hf : hiF 32 bs a = f) (h0 : ¬ f = 0) (w : World) (h : Rg w P A cap bs a) :
    Calls Tryz.prog 81 #[.pointer (some ⟨P, 0, none⟩)] w fun e w' => e = .panicked (gu f) ∧ Gave w w' P A cap bs := by
  have b0 : Below w.heap.size w (w.alloc (Obj.cells q4z.toArray 38)) := (Below.refl _ _).alloc (Nat.le_refl _) _
  have HD : Hid _ := seeDigits_no P A cap bs a 32 f hf h0 _ (h.be b0)
  have B0 : Hid _ := b0
  clear h b0
  go_enter Tryz.func81, Tryz.ntmps81
  go_wp2_with fail
  refine Calls.mono HD.out ?_
  rintro e V ⟨rfl, hr⟩
  have HR : Hid (Gave w V P A cap bs) := ⟨hr.1, (Gro.of_below B0.out).trans hr.2⟩
  clear hr HD
  go_wp2_with fail
  exact ⟨rfl, rfl, HR.out⟩

set_option maxRecDepth 100000 in
set_option maxHeartbeats 2000000 in
theorem seeWide_any (P : Nat) (A : Option Addr) (cap : Nat) (bs : List (BitVec 8)) (a : Nat) (hf : hiF 32 bs a = 0) (w : World) (h : Rg w P A cap bs a) :
    Calls Tryz.prog 81 #[.pointer (some ⟨P, 0, none⟩)] w fun e w' => e = .returned (.agg (qd bs (a + 1 + at8 bs a) (at8 bs a)).toArray) ∧ Rg w' P A cap bs (a + 1 + at8 bs a) ∧ Gp P w w' := by
  have b0 : Below w.heap.size w (w.alloc (Obj.cells q4z.toArray 38)) := (Below.refl _ _).alloc (Nat.le_refl _) _
  have r0 : Row (w.alloc (Obj.cells q4z.toArray 38)) w.heap.size q4z 38 := Row.new' rfl rfl
  have HD : Hid _ := seeDigits_any P A cap bs a 32 (by decide) hf _ rfl _ (h.be b0)
  have HL : Hid ((qd bs (a + 1 + at8 bs a) (at8 bs a)).length = 4) := rfl
  have HO : Hid ((qd bs (a + 1 + at8 bs a) (at8 bs a)).toArray.all (·.oneCell') = true) := all_oneCell_toArray (qd_one _ _ _)
  have B0 : Hid _ := b0
  have R0 : Hid _ := r0
  have HP : Hid (P < w.heap.size) := h.row.lt
  generalize hcs : qd bs (a + 1 + at8 bs a) (at8 bs a) = cs at *
  generalize a + 1 + at8 bs a = a' at *
  clear h b0 r0 hf hcs
  go_enter Tryz.func81, Tryz.ntmps81
  go_wp2_with fail
  refine Calls.mono HD.out ?_
  rintro e V ⟨rfl, hr, hg⟩
  have rz : Row V w.heap.size q4z 38 := hg.row R0.out (by have := HP.out; omega)
  have T0 := rz.there 0 cs.toArray.size (by rw [List.size_toArray, HL.out]; decide)
  have NF : Hid _ := rz.over (vs := cs) (by rw [HL.out]; rfl)
  have HR : Hid (Rg (V.setCells w.heap.size 0 cs) P A cap bs a') := hr.setsNew w.heap.size 0 cs rz (by decide) (by decide)
  have HG : Hid (Gp P w (V.setCells w.heap.size 0 cs)) := by
    have k0 := below_setCells (Below.refl 0 V) (b := w.heap.size) (o := 0) (Nat.zero_le _) cs
    have hg1 := (Gro.of_below (R := fun k => k = P) B0.out).trans hg
    exact ⟨k0.os.trans hg1.os, k0.tape.trans hg1.tape, k0.output.trans hg1.output, Nat.le_trans hg1.size k0.size, fun i hi hn => (heap_sets V w.heap.size 0 _ i (by omega)).trans (hg1.block i hi hn)⟩
  have HI' : Hid ((Tryz.prog.info? 38).map (·.size) = some cs.toArray.size) := by show _ = _; rw [List.size_toArray, HL.out]; exact info_q
  clear hr hg HD rz R0
  go_wp2_with (refine wpList_store_mid rfl 38 (.tmp 2) (.tmp 4) rfl w.heap.size 0 cs.toArray rfl rfl T0 HI'.out HO.out ?_; simp only [Act.put]; clear T0; (change wpList _ _ _ _ _ (World.setCells V w.heap.size 0 cs)); (generalize World.setCells V w.heap.size 0 cs = Y at *))
  exact bodyPost_ret (results_row Tryz.results81 _ _ w.heap.size 38 cs rfl NF.out Tryz.underlying38 info_q HL.out) rfl ⟨rfl, HR.out, HG.out⟩

section
variable {ops : Array Oper} {rest : List Oper} {op : Oper} {a : Act} {w : World} {Q : Exit → Act → World → Prop}
/-- A slice as an array. -/
theorem wpList_s2a (hw : Region.wanted op (yielded ops a.tmps) = true) (t : TypeId) (n : Nat) (x : Operand) (ho : op.op = .sliceToArrayPointer t x) (b o m cap : Nat) (hx : a.eval x = .slice (some ⟨b, o, none⟩) m cap) (hm : n ≤ m) (hu : Tryz.prog.underlying t = some (.array n 5))
    (h : wpList Tryz.prog ops Q rest (a.put op.dst (.pointer (some ⟨b, o, none⟩))) w) : wpList Tryz.prog ops Q (op :: rest) a w :=
  BigFrame.wpList_want hw fun K hK => by
    have hr : (Instr.arrayAt t (.slice (some ⟨b, o, none⟩) m cap)).run Tryz.prog w = .ok (.pointer (some ⟨b, o, none⟩)) w := by
      unfold Instr.arrayAt
      simp [run_underlying hu, show ¬ m < n by omega]
    unfold Oper.wp execOp
    simp only [ho, hx, Sem.run_bind, hr, Result.andThen_ok, Sem.run_pure, Oper.upon_value]
    exact hK _ _ h
end

set_option maxRecDepth 100000 in
set_option maxHeartbeats 1000000 in
theorem seeAddress_no (P : Nat) (A : Option Addr) (cap : Nat) (bs : List (BitVec 8)) (a : Nat) (f : Int) (hf : dgE 20 bs a = f) (h0 : ¬ f = 0) (w : World) (h : Rg w P A cap bs a) :
    Calls Tryz.prog 79 #[.pointer (some ⟨P, 0, none⟩)] w fun e w' => e = .panicked (gu f) ∧ Gave w w' P A cap bs := by
  unfold dgE at hf
  by_cases h1 : bs.length < a + 20
  · rw [if_pos h1] at hf
    subst hf
    have b0 : Below w.heap.size w (w.alloc (Obj.cells z20.toArray 35)) := (Below.refl _ _).alloc (Nat.le_refl _) _
    have HN : Hid _ := next_no P A cap bs a 20 h1 _ (h.be b0)
    have H : Hid (Rg _ P A cap bs a) := h.be b0
    have B0 : Hid _ := b0
    clear h h1 b0
    go_enter Tryz.func79, Tryz.ntmps79
    go_wp2_with fail
    refine Calls.mono HN.out ?_
    rintro e w1 ⟨rfl, m, hw⟩
    have HW : Hid _ := hw
    clear hw
    go_wp2_with fail
    exact ⟨rfl, rfl, by rw [HW.out]; exact Gave.of (Rg.drewN H.out m) (Gro.drewN (Gro.of_below B0.out) m)⟩
  · rw [if_neg h1] at hf
    exact absurd hf.symm h0

set_option maxRecDepth 100000 in
set_option maxHeartbeats 2000000 in
theorem seeAddress_any (P : Nat) (A : Option Addr) (cap : Nat) (bs : List (BitVec 8)) (a : Nat) (hf : dgE 20 bs a = 0) (w : World) (h : Rg w P A cap bs a) :
    Calls Tryz.prog 79 #[.pointer (some ⟨P, 0, none⟩)] w fun e w' => e = .returned (.agg (vB (sub bs a 20)).toArray) ∧ Rg w' P A cap bs (a + 20) ∧ Gp P w w' := by
  unfold dgE at hf
  have h1 : ¬ bs.length < a + 20 := fun h1 => by rw [if_pos h1] at hf; cases hf
  have b0 : Below w.heap.size w (w.alloc (Obj.cells z20.toArray 35)) := (Below.refl _ _).alloc (Nat.le_refl _) _
  have R0 : Hid (Row (w.alloc (Obj.cells z20.toArray 35)) w.heap.size z20 35) := Row.new' rfl rfl
  have HN : Hid _ := next_any P A cap bs a 20 (by omega) _ (h.be b0)
  have H : Hid (Rg _ P A cap bs a) := h.be b0
  have HL : Hid ((vB (sub bs a 20)).length = 20) := by show _ = _; rw [vB_length, sub_len bs a 20 (by omega)]
  have HLE : Hid (a + 20 ≤ bs.length) := by show _ ≤ _; omega
  have HO : Hid ((vB (sub bs a 20)).toArray.all (·.oneCell') = true) := all_oneCell_toArray (vB_one _)
  have HP : Hid (P < w.heap.size) := h.row.lt
  have B0 : Hid _ := b0
  clear h h1 b0 hf
  go_enter Tryz.func79, Tryz.ntmps79
  go_wp2_with fail
  refine Calls.mono HN.out ?_
  rintro e V ⟨A', c', rfl, hc', _, hA', m, hw⟩
  obtain ⟨g, rfl, rfl⟩ := hA' (by decide)
  have hr : Rg V P (some ⟨g, 0, none⟩) cap bs (a + 20) := by rw [hw]; exact (H.out.move _ HLE.out).drewN m
  have hg : Gp P w V := by rw [hw]; exact (Gp.set (Gro.of_below B0.out) 1 _).drewN m
  have rz : Row V w.heap.size z20 35 := by
    rw [hw]; exact (Row.set_other R0.out P 1 _ (by have := HP.out; omega)).drewN m
  have RNG : Hid (V.rangeAt g a (vB (sub bs a 20))) := fun j v hj => by
    have hjl : j < 20 := by have := (List.getElem?_eq_some_iff.1 hj).1; rw [HL.out] at this; exact this
    obtain ⟨g', e1, gb⟩ := hr.byte (a + j) (by have := HLE.out; omega)
    simp only [Option.some.injEq, Addr.mk.injEq] at e1
    obtain ⟨rfl, _⟩ := e1
    rw [gb, ← hj]
    unfold vB
    rw [List.getElem?_map, sub_get bs a 20 j hjl, List.getElem?_eq_getElem (show a + j < bs.length by have := HLE.out; omega)]
    simp [List.getElem?_eq_getElem (show a + j < bs.length by have := HLE.out; omega)]
  generalize hcs : vB (sub bs a 20) = cs at *
  have T0 := rz.there 0 cs.toArray.size (by rw [List.size_toArray, HL.out]; decide)
  have NF : Hid _ := rz.over (vs := cs) (by rw [HL.out]; rfl)
  have HR : Hid (Rg (V.setCells w.heap.size 0 cs) P (some ⟨g, 0, none⟩) cap bs (a + 20)) := hr.setsNew w.heap.size 0 cs rz (by decide) (by decide)
  have HG : Hid (Gp P w (V.setCells w.heap.size 0 cs)) := by
    have k0 := below_setCells (Below.refl 0 V) (b := w.heap.size) (o := 0) (Nat.zero_le _) cs
    exact ⟨k0.os.trans hg.os, k0.tape.trans hg.tape, k0.output.trans hg.output, Nat.le_trans hg.size k0.size, fun i hi hn => (heap_sets V w.heap.size 0 _ i (by omega)).trans (hg.block i hi hn)⟩
  have HI : Hid ((Tryz.prog.info? 35).map (·.size) = some cs.length) := by show _ = _; rw [HL.out]; exact info_a20
  have HI' : Hid ((Tryz.prog.info? 35).map (·.size) = some cs.toArray.size) := by show _ = _; rw [List.size_toArray, HL.out]; exact info_a20
  have HCS : Hid (vB (sub bs a 20) = cs) := hcs
  clear hr hg HN rz R0 hw hA' H hcs
  go_wp2_with (first
    | (refine wpList_s2a rfl 35 20 (.tmp 4) rfl g a 20 c' rfl (Nat.le_refl _) Tryz.underlying35 ?_; simp only [Act.put, List.setIfInBounds_toArray, List.set_cons_zero, List.set_cons_succ])
    | (refine wpList_load_w rfl 35 (.tmp 5) rfl g a rfl cs _ RNG.out Tryz.underlying35 rfl HI.out ?_; simp only [Act.put, List.setIfInBounds_toArray, List.set_cons_zero, List.set_cons_succ])
    | (refine wpList_store_mid rfl 35 (.tmp 2) (.tmp 6) rfl w.heap.size 0 cs.toArray rfl rfl T0 HI'.out HO.out ?_; simp only [Act.put]; clear T0; (change wpList _ _ _ _ _ (World.setCells V w.heap.size 0 cs)); (generalize World.setCells V w.heap.size 0 cs = Y at *)))
  exact bodyPost_ret (results_row Tryz.results79 _ _ w.heap.size 35 cs rfl NF.out Tryz.underlying35 info_a20 HL.out) rfl ⟨by rw [HCS.out], HR.out, HG.out⟩

end Go.Proofs.YtdicgenhfmhklaaGreatDoor
