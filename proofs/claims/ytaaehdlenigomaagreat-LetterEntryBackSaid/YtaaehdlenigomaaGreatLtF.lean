/-
  Check, write, Bytes at concrete letters; CheckEntry, EntryBytes.
-/
import Derived.Test.YtaaehdlenigomaaGreatLtE
import Derived.Deep.CutRange
import Derived.Deep.RegionLaw
import Derived.Handy
import Derived.Carry
namespace Go.Proofs.YtaaehdlenigomaaGreat
open Go Go.RowKit
open Sha

theorem used_5 (w : World) : Calls Tryz.prog 25 #[.int .i64 5] w fun e w' => ∃ U, e = .returned (.slice (some ⟨U, 0, none⟩) 1 1) ∧ Row w' U [.int .i64 4] 3 ∧ Below w.heap.size w w' :=
  (usedBy_5 w).mono (by
    rintro e w' ⟨rfl, rfl⟩
    exact ⟨w.heap.size, rfl, Row.new' rfl rfl, (Below.refl _ _).alloc (Nat.le_refl _) _⟩)
theorem used_8 (w : World) : Calls Tryz.prog 25 #[.int .i64 8] w fun e w' => ∃ U, e = .returned (.slice (some ⟨U, 0, none⟩) 1 1) ∧ Row w' U [.int .i64 0] 3 ∧ Below w.heap.size w w' :=
  (usedBy_8 w).mono (by
    rintro e w' ⟨rfl, rfl⟩
    exact ⟨w.heap.size, rfl, Row.new' rfl rfl, (Below.refl _ _).alloc (Nat.le_refl _) _⟩)
theorem used_E2 (w : World) : Calls Tryz.prog 17 #[.int .i64 2] w fun e w' => ∃ U, e = .returned (.slice (some ⟨U, 0, none⟩) 3 3) ∧ Row w' U [.int .i64 0, .int .i64 1, .int .i64 6] 3 ∧ Below w.heap.size w w' :=
  (usedE_2 w).mono (by
    rintro e w' ⟨rfl, rfl⟩
    exact ⟨w.heap.size, rfl, Row.new' rfl rfl, (Below.refl _ _).alloc (Nat.le_refl _) _⟩)
theorem info_let : (Tryz.prog.info? 50).map (·.size) = some 51 := by kernel_rfl
theorem info_ent : (Tryz.prog.info? 36).map (·.size) = some 49 := by kernel_rfl
theorem boxed (L : List Value) (t : TypeId) (w : World) : ∃ W, W = w.alloc (Obj.cells L.toArray t) ∧ Row W w.heap.size L t ∧ Below w.heap.size w W := ⟨_, rfl, Row.new' rfl rfl, (Below.refl _ _).alloc (Nat.le_refl _) _⟩

set_option maxRecDepth 100000 in
set_option maxHeartbeats 1000000 in
theorem check_5 (L : List Value) (hL : L = lt 5 0 1) (w : World) : Calls Tryz.prog 14 #[.agg L.toArray] w fun e w' => e = .returned (.int .i64 0) ∧ Below w.heap.size w w' := by
  obtain ⟨W1, hW1, rL, bL⟩ := boxed L tLet w
  rw [hL] at rL
  have HL : Hid (Row W1 w.heap.size (lt 5 0 1) tLet) := rL
  have HB : Hid (Below w.heap.size w W1) := bL
  have g0 := rL.cell 0 _ rfl
  have HW : Hid (W1 = _) := hW1
  clear hL rL bL hW1
  go_enter Tryz.func14, Tryz.ntmps14
  go_upto_region 1 with fail
  rw [← HW.out]
  go_wp2_with fail
  refine Calls.mono (used_5 W1) ?_
  rintro e W2 ⟨U, rfl, hU, hB2⟩
  replace HL : Hid (Row W2 w.heap.size (lt 5 0 1) tLet) := Row.below HL.out hB2 HL.out.lt
  replace HB : Hid (Below w.heap.size w W2) := HB.out.trans (hB2.mono HB.out.size)
  have HU : Hid (Row W2 U [.int .i64 4] 3) := hU
  clear hB2 hU g0 HW
  go_wp2_with fail
  refine Calls.mono (fields_any W2) ?_
  rintro e W3 ⟨T, rfl, hT, hTN, hB2⟩
  replace HL : Hid (Row W3 w.heap.size (lt 5 0 1) tLet) := Row.below HL.out hB2 HL.out.lt
  replace HB : Hid (Below w.heap.size w W3) := HB.out.trans (hB2.mono HB.out.size)
  replace HU : Hid (Row W3 U [.int .i64 4] 3) := Row.below HU.out hB2 HU.out.lt
  have HT : Hid (Row W3 T ltab 103) := hT
  clear hB2 hT hTN
  go_wp2_with fail
  refine Calls.mono (fits_5 T U w.heap.size W3 HT.out HU.out HL.out) ?_
  rintro e W4 ⟨rfl, hB2⟩
  replace HB : Hid (Below w.heap.size w W4) := HB.out.trans (hB2.mono HB.out.size)
  clear hB2
  go_wp2_with fail
  go_ret
  exact ⟨rfl, HB.out⟩

set_option maxRecDepth 100000 in
set_option maxHeartbeats 1000000 in
theorem check_8 (L : List Value) (hL : L = lt 8 3 0) (w : World) : Calls Tryz.prog 14 #[.agg L.toArray] w fun e w' => e = .returned (.int .i64 0) ∧ Below w.heap.size w w' := by
  obtain ⟨W1, hW1, rL, bL⟩ := boxed L tLet w
  rw [hL] at rL
  have HL : Hid (Row W1 w.heap.size (lt 8 3 0) tLet) := rL
  have HB : Hid (Below w.heap.size w W1) := bL
  have g0 := rL.cell 0 _ rfl
  have HW : Hid (W1 = _) := hW1
  clear hL rL bL hW1
  go_enter Tryz.func14, Tryz.ntmps14
  go_upto_region 1 with fail
  rw [← HW.out]
  go_wp2_with fail
  refine Calls.mono (used_8 W1) ?_
  rintro e W2 ⟨U, rfl, hU, hB2⟩
  replace HL : Hid (Row W2 w.heap.size (lt 8 3 0) tLet) := Row.below HL.out hB2 HL.out.lt
  replace HB : Hid (Below w.heap.size w W2) := HB.out.trans (hB2.mono HB.out.size)
  have HU : Hid (Row W2 U [.int .i64 0] 3) := hU
  clear hB2 hU g0 HW
  go_wp2_with fail
  refine Calls.mono (fields_any W2) ?_
  rintro e W3 ⟨T, rfl, hT, hTN, hB2⟩
  replace HL : Hid (Row W3 w.heap.size (lt 8 3 0) tLet) := Row.below HL.out hB2 HL.out.lt
  replace HB : Hid (Below w.heap.size w W3) := HB.out.trans (hB2.mono HB.out.size)
  replace HU : Hid (Row W3 U [.int .i64 0] 3) := Row.below HU.out hB2 HU.out.lt
  have HT : Hid (Row W3 T ltab 103) := hT
  clear hB2 hT hTN
  go_wp2_with fail
  refine Calls.mono (fits_8 T U w.heap.size W3 HT.out HU.out HL.out) ?_
  rintro e W4 ⟨rfl, hB2⟩
  replace HB : Hid (Below w.heap.size w W4) := HB.out.trans (hB2.mono HB.out.size)
  clear hB2
  go_wp2_with fail
  go_ret
  exact ⟨rfl, HB.out⟩

set_option maxRecDepth 100000 in
set_option maxHeartbeats 1000000 in
theorem check_E (h : Nat) (L : List Value) (hL : L = en 2 258 (.slice (some ⟨h, 0, none⟩) 1 1)) (w : World) : Calls Tryz.prog 11 #[.agg L.toArray] w fun e w' => e = .returned (.int .i64 0) ∧ Below w.heap.size w w' := by
  obtain ⟨W1, hW1, rL, bL⟩ := boxed L tEnt w
  rw [hL] at rL
  have HL : Hid (Row W1 w.heap.size (en 2 258 (.slice (some ⟨h, 0, none⟩) 1 1)) tEnt) := rL
  have HB : Hid (Below w.heap.size w W1) := bL
  have g0 := rL.cell 0 _ rfl
  have HW : Hid (W1 = _) := hW1
  clear hL rL bL hW1
  go_enter Tryz.func11, Tryz.ntmps11
  go_upto_region 1 with fail
  rw [← HW.out]
  go_wp2_with fail
  refine Calls.mono (used_E2 W1) ?_
  rintro e W2 ⟨U, rfl, hU, hB2⟩
  replace HL : Hid (Row W2 w.heap.size (en 2 258 (.slice (some ⟨h, 0, none⟩) 1 1)) tEnt) := Row.below HL.out hB2 HL.out.lt
  replace HB : Hid (Below w.heap.size w W2) := HB.out.trans (hB2.mono HB.out.size)
  have HU : Hid (Row W2 U [.int .i64 0, .int .i64 1, .int .i64 6] 3) := hU
  clear hB2 hU g0 HW
  go_wp2_with fail
  refine Calls.mono (efields_any W2) ?_
  rintro e W3 ⟨T, rfl, hT, hTN, hB2⟩
  replace HL : Hid (Row W3 w.heap.size (en 2 258 (.slice (some ⟨h, 0, none⟩) 1 1)) tEnt) := Row.below HL.out hB2 HL.out.lt
  replace HB : Hid (Below w.heap.size w W3) := HB.out.trans (hB2.mono HB.out.size)
  replace HU : Hid (Row W3 U [.int .i64 0, .int .i64 1, .int .i64 6] 3) := Row.below HU.out hB2 HU.out.lt
  have HT : Hid (Row W3 T etab 80) := hT
  clear hB2 hT hTN
  go_wp2_with fail
  refine Calls.mono (fits_E (some ⟨h, 0, none⟩) 1 T U w.heap.size W3 HT.out HU.out HL.out) ?_
  rintro e W4 ⟨rfl, hB2⟩
  replace HB : Hid (Below w.heap.size w W4) := HB.out.trans (hB2.mono HB.out.size)
  clear hB2
  go_wp2_with fail
  go_ret
  exact ⟨rfl, HB.out⟩

set_option maxRecDepth 100000 in
set_option maxHeartbeats 1000000 in
theorem check_0 (L : List Value) (hL : L = lt 0 0 0) (w : World) : Calls Tryz.prog 14 #[.agg L.toArray] w fun e w' => e = .returned (.int .i64 61) ∧ Below w.heap.size w w' := by
  obtain ⟨W1, hW1, rL, bL⟩ := boxed L tLet w
  rw [hL] at rL
  have HB : Hid (Below w.heap.size w W1) := bL
  have g0 := rL.cell 0 _ rfl
  have HW : Hid (W1 = _) := hW1
  clear hL rL bL hW1
  go_enter Tryz.func14, Tryz.ntmps14
  go_upto_region 1 with fail
  rw [← HW.out]
  go_wp2_with fail
  refine Calls.mono (usedBy_0 W1) ?_
  rintro e W2 ⟨rfl, hqq⟩
  obtain rfl := hqq.symm
  go_wp2_with fail
  go_ret
  exact ⟨rfl, HB.out⟩

end Go.Proofs.YtaaehdlenigomaaGreat
