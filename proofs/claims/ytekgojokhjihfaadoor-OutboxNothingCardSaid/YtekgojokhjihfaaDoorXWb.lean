/-
  wire.Writer, whatever was laid: Byte, Flag, Digest, Address, Bytes.
-/
import Derived.Test.YtekgojokhjihfaaDoorXWa
namespace Go.Proofs.YtekgojokhjihfaaDoor
open Go Go.RowKit
open Sha

/-- What a writer may change. -/
abbrev Rw (P : Nat) (A : Option Addr) (cap : Nat) (bs : List (BitVec 8)) : Nat → Prop := fun g => g = P ∨ (Value.slice A bs.length cap).ownBlock = some g
/-- A writer behind one value more. -/
def Beh (w w' : World) (P : Nat) (A : Option Addr) (cap : Nat) (bs : List (BitVec 8)) (f : Int) (d : List (BitVec 8)) : Prop :=
  (∃ A' cap', Wr w' P A' cap' (wrB bs f d) (wrF bs f d) ∧ Frm (.slice A bs.length cap) w.heap.size (.slice A' (wrB bs f d).length cap')) ∧ Gro (Rw P A cap bs) w w'
theorem Beh.after {w w1 w' : World} {P : Nat} {A : Option Addr} {cap : Nat} {bs d : List (BitVec 8)} {f : Int} (k : Below w.heap.size w w1) (h : Beh w1 w' P A cap bs f d) : Beh w w' P A cap bs f d := by
  obtain ⟨⟨A', cap', h1, h2⟩, h3⟩ := h
  exact ⟨⟨A', cap', h1, fun g e => by rcases h2 g e with q | q; exact .inl q; exact .inr (Nat.le_trans k.size q)⟩, (Gro.of_below k).trans h3⟩
/-- A block that is no writer's. -/
theorem Wr.not {w : World} {P : Nat} {A : Option Addr} {cap : Nat} {bs : List (BitVec 8)} {f : Int} (h : Wr w P A cap bs f) {b : Nat} {cs : List Value} {t : TypeId} (r : Row w b cs t) (h1 : t ≠ 99) (h2 : t ≠ 5) : ¬ Rw P A cap bs b := by
  rintro (e | e)
  · exact row_ne r h.1 h1 e
  · exact Bw.ne h.2 r h2 _ e rfl
theorem one_lays (P : Nat) (A : Option Addr) (cap : Nat) (bs : List (BitVec 8)) (f : Int) (b : Nat) (v : Value) (d : List (BitVec 8)) (hd : d.length ≤ 1099511627776) (hB : bs.length ≤ 4194304) (w : World) (hw : Wr w P A cap bs f) (rb : Row w b [v] 48) (hv : ∀ W, Gro (Rw P A cap bs) w W → SlAt W v d) (hnl : Nl v) :
    Calls Tryd.prog 52 #[.pointer (some ⟨P, 0, none⟩), .slice (some ⟨b, 0, none⟩) 1 1] w fun e w' => e = .returned (.tuple #[]) ∧ Beh w w' P A cap bs f d := by
  have e1 : [d].flatten = d := by simp
  refine (lay_any P A cap bs f b [v] [d] 1 rfl (by decide) (by rw [e1]; exact hd) hB w (Rw P A cap bs) rfl hw (fun W hG => ⟨hG.row rb (hw.not rb (by decide) (by decide)), rfl, fun i hi => ?_⟩)).mono ?_
  · obtain rfl : i = 0 := by simp at hi; omega
    exact ⟨hv W hG, hnl⟩
  · rintro e w' ⟨rfl, h1, h2⟩
    rw [e1] at h1
    exact ⟨rfl, h1, h2⟩
theorem nl_some (g o n c : Nat) : Nl (.slice (some ⟨g, o, none⟩) n c) := fun A _ _ e h => by
  simp only [Value.slice.injEq] at e
  rw [h] at e
  cases e.1
theorem sl_row {w : World} {g : Nat} {d : List (BitVec 8)} {t : TypeId} (r : Row w g (vB d) t) : SlAt w (.slice (some ⟨g, 0, none⟩) d.length d.length) d := .inr ⟨g, 0, d.length, rfl, Nat.le_refl _, r.all⟩

set_option maxRecDepth 100000 in
set_option maxHeartbeats 1000000 in
theorem byte_any (P : Nat) (A : Option Addr) (cap : Nat) (bs : List (BitVec 8)) (f : Int) (hB : bs.length ≤ 4194304) (x : BitVec 8) (y : Int) (hy : y = c x) (w : World) (hw : Wr w P A cap bs f) :
    Calls Tryd.prog 28 #[.pointer (some ⟨P, 0, none⟩), .int .u8 y] w fun e w' => e = .returned (.tuple #[]) ∧ Beh w w' P A cap bs f [x] := by
  have b1 : Below w.heap.size w (w.alloc (Obj.cells #[.int .u8 y] 5)) := (Below.refl _ _).alloc (Nat.le_refl _) _
  have b2 := b1.alloc b1.size (Obj.cells #[.slice (some ⟨w.heap.size, 0, none⟩) 1 1] 48)
  have r1 : Row ((w.alloc (Obj.cells #[.int .u8 y] 5)).alloc (Obj.cells #[.slice (some ⟨w.heap.size, 0, none⟩) 1 1] 48)) w.heap.size [.int .u8 y] 5 := (Row.new' rfl rfl).alloc _
  have r2 : Row ((w.alloc (Obj.cells #[.int .u8 y] 5)).alloc (Obj.cells #[.slice (some ⟨w.heap.size, 0, none⟩) 1 1] 48)) (w.heap.size + 1) [.slice (some ⟨w.heap.size, 0, none⟩) 1 1] 48 := Row.new' (by simp) rfl
  have hno : ¬ Rw P A cap bs w.heap.size := by
    rintro (e | e)
    · have := hw.1.lt; omega
    · have := Bw.lt hw.2 _ e; omega
  have HC : Hid _ := one_lays P A cap bs f (w.heap.size + 1) (.slice (some ⟨w.heap.size, 0, none⟩) 1 1) [x] (by simp) hB _ (hw.be b2) r2 (fun W hG => by
    have := hG.row r1 hno
    rw [hy] at this
    exact sl_row (d := [x]) this) (nl_some _ _ _ _)
  have HB : Hid _ := b2
  clear b1 b2 r1 r2 hno hw hy
  go_enter Tryd.func28, Tryd.ntmps28
  go_wp2_with fail
  refine Calls.mono HC.out ?_
  rintro e w' ⟨rfl, h1⟩
  have H1 : Hid _ := h1.after HB.out
  clear h1
  go_wp2_with fail
  go_end0
  exact ⟨rfl, H1.out⟩

section
variable {P : Program} {ops : Array Oper} {rest : List Oper} {op : Oper} {a : Act} {w : World} {Q : Exit → Act → World → Prop}
theorem wpList_slice_all (hw : Region.wanted op (yielded ops a.tmps) = true) (t e : TypeId) (n : Nat) (x : Operand) (b f : Nat) (ho : op.op = .slice t x none none none) (hx : a.eval x = .pointer (some ⟨b, f, none⟩))
    (hu : P.underlying t = some (.array n e)) (hs : (P.info? e).map (·.size) = some 1) (h : wpList P ops Q rest (a.put op.dst (.slice (some ⟨b, f, none⟩) n n)) w) : wpList P ops Q (op :: rest) a w :=
  BigFrame.wpList_want hw fun K hK => by
    cases hq : P.info? e with
    | none => simp [hq] at hs
    | some i =>
      have h1 : i.size = 1 := by simpa [hq] using hs
      have hr : (Instr.sliceAt t (.pointer (some ⟨b, f, none⟩)) none none none).run P w = .ok (.slice (some ⟨b, f, none⟩) n n) w := by
        simp [Instr.sliceAt, Instr.sureAddr, run_underlying hu, Instr.sliceBounds, sizeOf, typeInfo, hq, Addr.add_mid]
      unfold Oper.wp execOp
      simp only [ho, hx, Option.map_none, Sem.run_bind, hr, Result.andThen_ok, Sem.run_pure, Oper.upon_value]
      exact hK _ _ h
end

set_option maxRecDepth 100000 in
set_option maxHeartbeats 1000000 in
theorem address_lays (P : Nat) (A : Option Addr) (cap : Nat) (bs : List (BitVec 8)) (f : Int) (hB : bs.length ≤ 4194304) (d : List (BitVec 8)) (hd : d.length = 20) (w : World) (hw : Wr w P A cap bs f) :
    Calls Tryd.prog 30 #[.pointer (some ⟨P, 0, none⟩), .agg (vB d).toArray] w fun e w' => e = .returned (.tuple #[]) ∧ Beh w w' P A cap bs f d := by
  have b1 : Below w.heap.size w (w.alloc (Obj.cells (vB d).toArray 27)) := (Below.refl _ _).alloc (Nat.le_refl _) _
  have b2 := b1.alloc b1.size (Obj.cells #[.slice (some ⟨w.heap.size, 0, none⟩) 20 20] 48)
  have r1 : Row ((w.alloc (Obj.cells (vB d).toArray 27)).alloc (Obj.cells #[.slice (some ⟨w.heap.size, 0, none⟩) 20 20] 48)) w.heap.size (vB d) 27 := (Row.new' rfl rfl).alloc _
  have r2 : Row ((w.alloc (Obj.cells (vB d).toArray 27)).alloc (Obj.cells #[.slice (some ⟨w.heap.size, 0, none⟩) 20 20] 48)) (w.heap.size + 1) [.slice (some ⟨w.heap.size, 0, none⟩) 20 20] 48 := Row.new' (by simp) rfl
  have HC : Hid _ := one_lays P A cap bs f (w.heap.size + 1) (.slice (some ⟨w.heap.size, 0, none⟩) 20 20) d (by omega) hB _ (hw.be b2) r2 (fun W hG => by
    have q := sl_row (hG.row r1 ((hw.be b2).not r1 (by decide) (by decide)))
    rw [hd] at q
    exact q) (nl_some _ _ _ _)
  have HB : Hid _ := b2
  clear b1 b2 r1 r2 hw
  go_enter Tryd.func30, Tryd.ntmps30
  go_wp2_with (refine wpList_slice_all rfl 27 5 20 (.tmp 3) w.heap.size 0 rfl rfl Tryd.underlying27 info_u8 ?_; simp only [Act.put, List.setIfInBounds_toArray, List.set_cons_zero, List.set_cons_succ])
  refine Calls.mono HC.out ?_
  rintro e w' ⟨rfl, h1⟩
  have H1 : Hid _ := h1.after HB.out
  clear h1
  go_wp2_with fail
  go_end0
  exact ⟨rfl, H1.out⟩

end Go.Proofs.YtekgojokhjihfaaDoor
