/-
  New, Len, Reset, Copy: a Hasher's memory.
-/
import Derived.Test.YtfdgdmehgbmnkaaDoorHMath
import Derived.Deep.WholeRow
namespace Go.Proofs.YtfdgdmehgbmnkaaDoor
open Go Go.RowKit
open Sha

/-- Block b is a Hasher that has taken bs. -/
def HAt (w : World) (b : Nat) (bs : List (BitVec 8)) : Prop := Row w b (hcells (hst bs) (hwait bs) bs.length) 153

/-- All that was there is as it was, but for block b. -/
structure But (b : Nat) (w w' : World) : Prop where
  os : w'.os = w.os
  tape : w'.tape = w.tape
  output : w'.output = w.output
  size : w.heap.size ≤ w'.heap.size
  block : ∀ k, k < w.heap.size → k ≠ b → w'.heap[k]? = w.heap[k]?

theorem But.refl (b : Nat) (w : World) : But b w w := ⟨rfl, rfl, rfl, Nat.le_refl _, fun _ _ _ => rfl⟩
theorem But.trans {b : Nat} {u v w : World} (h : But b u v) (k : But b v w) : But b u w :=
  ⟨k.os.trans h.os, k.tape.trans h.tape, k.output.trans h.output, Nat.le_trans h.size k.size, fun i hi hb => (k.block i (Nat.lt_of_lt_of_le hi h.size) hb).trans (h.block i hi hb)⟩
theorem But.of_below {b : Nat} {w w' : World} (h : Below w.heap.size w w') : But b w w' := ⟨h.os, h.tape, h.output, h.size, fun k hk _ => h.block k hk⟩
theorem But.drewN (b n : Nat) (w : World) : But b w (w.drewN n) := ⟨rfl, rfl, rfl, Nat.le_refl _, fun _ _ _ => rfl⟩
theorem But.setCell (b i : Nat) (w : World) (v : Value) : But b w (w.setCell ⟨b, i, none⟩ v) := ⟨rfl, rfl, rfl, by simp [World.setCell], fun k _ hb => Below.heap_setCell _ _ _ _ hb⟩
theorem But.setCells (b o : Nat) (w : World) (vs : List Value) : But b w (w.setCells b o vs) := by
  induction vs generalizing w o with
  | nil => exact But.refl _ _
  | cons v r ih => exact (But.setCell b o w v).trans (ih (o + 1) _)
/-- If b is new, nothing old has turned. -/
theorem But.below {b B : Nat} {a w w' : World} (h : Below B a w) (k : But b w w') (hb : B ≤ b) (hB : B ≤ w.heap.size) : Below B a w' :=
  h.trans ⟨k.os, k.tape, k.output, k.size, fun i hi => k.block i (by omega) (by omega)⟩
theorem Row.but {w w' : World} {b c : Nat} {cs : List Value} {t : TypeId} (h : Row w c cs t) (k : But b w w') (hc : c ≠ b) : Row w' c cs t := (k.block c h.lt hc).trans h
theorem Tab.but {w w' : World} {b g : Nat} (h : Tab w g) (k : But b w w') (hc : g ≠ b) : Tab w' g := fun i hi =>
  (World.cell?_of_block (w := w) (a := ⟨g, i, none⟩) (k.block g h.lt hc)).trans (h i hi)
theorem range_but {w w' : World} {b c o : Nat} {cs : List Value} (h : w.rangeAt c o cs) (k : But b w w') (hc : c ≠ b) : w'.rangeAt c o cs := fun j v hv =>
  (World.cell?_of_block (w := w) (a := ⟨c, o + j, none⟩) (k.block c (World.block_lt_of_cell? w _ (h j v hv)) hc)).trans (h j v hv)

theorem firstState_lit (w : World) :
    Calls Tryd.prog 94 #[] w fun e w' => e = .returned (.agg #[Value.int IntKind.u32 1779033703, Value.int IntKind.u32 3144134277, Value.int IntKind.u32 1013904242, Value.int IntKind.u32 2773480762, Value.int IntKind.u32 1359893119, Value.int IntKind.u32 2600822924, Value.int IntKind.u32 528734635, Value.int IntKind.u32 1541459225]) ∧ Below w.heap.size w w' := by
  rw [show (#[Value.int IntKind.u32 1779033703, Value.int IntKind.u32 3144134277, Value.int IntKind.u32 1013904242, Value.int IntKind.u32 2773480762, Value.int IntKind.u32 1359893119, Value.int IntKind.u32 2600822924, Value.int IntKind.u32 528734635, Value.int IntKind.u32 1541459225] : Array Value) = (vW st0.list).toArray from by kernel_rfl]
  exact firstState_any w

theorem zero_hasher : (Tryd.prog.info? 153).map (fun i => (i.zero, i.size)) = some (some (.agg #[.int .u32 0, .int .u32 0, .int .u32 0, .int .u32 0, .int .u32 0, .int .u32 0, .int .u32 0, .int .u32 0, .int .u8 0, .int .u8 0, .int .u8 0, .int .u8 0, .int .u8 0, .int .u8 0, .int .u8 0, .int .u8 0, .int .u8 0, .int .u8 0, .int .u8 0, .int .u8 0, .int .u8 0, .int .u8 0, .int .u8 0, .int .u8 0, .int .u8 0, .int .u8 0, .int .u8 0, .int .u8 0, .int .u8 0, .int .u8 0, .int .u8 0, .int .u8 0, .int .u8 0, .int .u8 0, .int .u8 0, .int .u8 0, .int .u8 0, .int .u8 0, .int .u8 0, .int .u8 0, .int .u8 0, .int .u8 0, .int .u8 0, .int .u8 0, .int .u8 0, .int .u8 0, .int .u8 0, .int .u8 0, .int .u8 0, .int .u8 0, .int .u8 0, .int .u8 0, .int .u8 0, .int .u8 0, .int .u8 0, .int .u8 0, .int .u8 0, .int .u8 0, .int .u8 0, .int .u8 0, .int .u8 0, .int .u8 0, .int .u8 0, .int .u8 0, .int .u8 0, .int .u8 0, .int .u8 0, .int .u8 0, .int .u8 0, .int .u8 0, .int .u8 0, .int .u8 0, .int .i64 0]), 73) := by kernel_rfl
theorem info_hasher : (Tryd.prog.info? 153).map (·.size) = some 73 := by kernel_rfl

set_option maxRecDepth 100000 in
set_option maxHeartbeats 1000000 in
theorem new_any (w : World) :
    Calls Tryd.prog 84 #[] w fun e w' => ∃ b, e = .returned (.pointer (some ⟨b, 0, none⟩)) ∧ w.heap.size ≤ b ∧ HAt w' b [] ∧ Below w.heap.size w w' := by
  have hz := (zero_of_info zero_hasher).1
  go_enter Tryd.func84, Tryd.ntmps84
  go_wp2_with (go_at_call 94; refine (firstState_lit _).mono ?_; rintro e w1 ⟨rfl, hb1⟩)
  go_ret
  exact ⟨w1.heap.size, rfl, hb1.size, Row.new' rfl (by kernel_rfl), hb1.alloc hb1.size _⟩

end Go.Proofs.YtfdgdmehgbmnkaaDoor
