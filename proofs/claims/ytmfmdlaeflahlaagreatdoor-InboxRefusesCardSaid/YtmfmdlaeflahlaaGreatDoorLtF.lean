/-
  Check, write, Bytes at concrete letters; CheckEntry, EntryBytes.
-/
import Derived.Test.YtmfmdlaeflahlaaGreatDoorLtE
import Derived.Deep.CutRange
import Derived.Deep.RegionLaw
import Derived.Handy
import Derived.Carry
namespace Go.Proofs.YtmfmdlaeflahlaaGreatDoor
open Go Go.RowKit
open Sha

theorem used_E2 (w : World) : Calls Tryz.prog 59 #[.int .i64 2] w fun e w' => ∃ U, e = .returned (.slice (some ⟨U, 0, none⟩) 3 3) ∧ Row w' U [.int .i64 0, .int .i64 1, .int .i64 6] 3 ∧ Below w.heap.size w w' :=
  (usedE_2 w).mono (by
    rintro e w' ⟨rfl, rfl⟩
    exact ⟨w.heap.size, rfl, Row.new' rfl rfl, (Below.refl _ _).alloc (Nat.le_refl _) _⟩)
theorem info_ent : (Tryz.prog.info? 46).map (·.size) = some 49 := by kernel_rfl
theorem boxed (L : List Value) (t : TypeId) (w : World) : ∃ W, W = w.alloc (Obj.cells L.toArray t) ∧ Row W w.heap.size L t ∧ Below w.heap.size w W := ⟨_, rfl, Row.new' rfl rfl, (Below.refl _ _).alloc (Nat.le_refl _) _⟩

set_option maxRecDepth 100000 in
set_option maxHeartbeats 1000000 in
theorem check_E (h : Nat) (L : List Value) (hL : L = en 2 258 (.slice (some ⟨h, 0, none⟩) 1 1)) (w : World) : Calls Tryz.prog 56 #[.agg L.toArray] w fun e w' => e = .returned (.int .i64 0) ∧ Below w.heap.size w w' := by
  obtain ⟨W1, hW1, rL, bL⟩ := boxed L tEnt w
  rw [hL] at rL
  have HL : Hid (Row W1 w.heap.size (en 2 258 (.slice (some ⟨h, 0, none⟩) 1 1)) tEnt) := rL
  have HB : Hid (Below w.heap.size w W1) := bL
  have g0 := rL.cell 0 _ rfl
  have HW : Hid (W1 = _) := hW1
  clear hL rL bL hW1
  go_enter Tryz.func56, Tryz.ntmps56
  go_upto_region 1 with fail
  rw [← HW.out]
  go_wp2_with fail
  refine Calls.mono (used_E2 W1) ?_
  rintro e W2 ⟨U, rfl, hU, hB2⟩
  replace HL : Hid (Row W2 w.heap.size (en 2 258 (.slice (some ⟨h, 0, none⟩) 1 1)) tEnt) := Row.below HL.out hB2 HL.out.lt
  replace HB : Hid (Below w.heap.size w W2) := HB.out.trans (hB2.mono HB.out.size)
  have HU : Hid (Row W2 U [.int .i64 0, .int .i64 1, .int .i64 6] 3) := hU
  clear hB2 hU g0 HW
  go_wp2_with fail
  refine Calls.mono (efields_any W2) ?_
  rintro e W3 ⟨T, rfl, hT, hTN, hB2⟩
  replace HL : Hid (Row W3 w.heap.size (en 2 258 (.slice (some ⟨h, 0, none⟩) 1 1)) tEnt) := Row.below HL.out hB2 HL.out.lt
  replace HB : Hid (Below w.heap.size w W3) := HB.out.trans (hB2.mono HB.out.size)
  replace HU : Hid (Row W3 U [.int .i64 0, .int .i64 1, .int .i64 6] 3) := Row.below HU.out hB2 HU.out.lt
  have HT : Hid (Row W3 T etab 134) := hT
  clear hB2 hT hTN
  go_wp2_with fail
  refine Calls.mono (fits_E (some ⟨h, 0, none⟩) 1 T U w.heap.size W3 HT.out HU.out HL.out) ?_
  rintro e W4 ⟨rfl, hB2⟩
  replace HB : Hid (Below w.heap.size w W4) := HB.out.trans (hB2.mono HB.out.size)
  clear hB2
  go_wp2_with fail
  go_ret
  exact ⟨rfl, HB.out⟩

end Go.Proofs.YtmfmdlaeflahlaaGreatDoor
