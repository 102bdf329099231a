/-
  fits, at concrete letters and entries.
-/
import Derived.Test.YtmfmdlaeflahlaaGreatDoorLtC
namespace Go.Proofs.YtmfmdlaeflahlaaGreatDoor
open Go Go.RowKit
open Sha

theorem info_fldG : (Tryz.prog.info? 134).map (·.size) = some 4 := by kernel_rfl
theorem laidFG (W : World) (fs : List Value) (h : fs.length = 4) : ∃ X, X = (W.alloc (Obj.cells #[.nilFunc, .nilFunc, .nilFunc, .nilFunc] 134)).setCells W.heap.size 0 fs ∧ Row X W.heap.size fs 134 ∧ Below W.heap.size W X :=
  ⟨_, rfl, Row.over (Row.new' (cs := [.nilFunc, .nilFunc, .nilFunc, .nilFunc]) rfl rfl) (vs := fs) (by rw [h]; rfl), below_setCells ((Below.refl W.heap.size W).alloc (Nat.le_refl _) _) (Nat.le_refl _) _⟩

set_option maxRecDepth 100000 in
set_option maxHeartbeats 4000000 in
theorem fits_E (A : Option Addr) (cap : Nat) (T U b : Nat) (w : World) (hT : Row w T etab 134) (hU : Row w U [.int .i64 0, .int .i64 1, .int .i64 6] 3) (hb : Row w b (en 2 258 (.slice A 1 cap)) tEnt) :
    Calls Tryz.prog 67 #[.slice (some ⟨T, 0, none⟩) 7 7, .pointer (some ⟨b, 0, none⟩), .slice (some ⟨U, 0, none⟩) 3 3] w fun e w' => e = .returned (.bool true) ∧ Below w.heap.size w w' := by
  have HT : Hid (Row w T etab 134) := hT
  have HU : Hid (Row w U [.int .i64 0, .int .i64 1, .int .i64 6] 3) := hU
  have HL : Hid (Row w b (en 2 258 (.slice A 1 cap)) tEnt) := hb
  clear hT hU hb
  have B0 : Hid (Below w.heap.size w w) := Below.refl _ _
  go_enter Tryz.func67, Tryz.ntmps67
  go_wp2_with fail
  refine wp_loop_rounds 8 ?_
  rw [rounds_succ]
  obtain ⟨X1, hX, rX, bX⟩ := laidFG w [.func (.func 68) #[] #[], .func (.func 69) #[] #[], .func (.func 70) #[] #[], .func (.func 72) #[] #[]] rfl
  have HX : Hid (X1 = _) := hX
  have R : Hid (w.rangeAt T 0 [.func (.func 68) #[] #[], .func (.func 69) #[] #[], .func (.func 70) #[] #[], .func (.func 72) #[] #[]]) := range_sub (Row.below HT.out B0.out HT.out.lt) 0 4 rfl
  have B1 : Hid (Below w.heap.size w X1) := B0.out.trans (bX.mono B0.out.size)
  have HC : Hid _ := conE_0 U X1 (Row.below HU.out B1.out HU.out.lt)
  have HZ : Hid _ := anyL (.pointer (some ⟨b, 0, none⟩)) X1
  have c0 := rX.cell 0 _ rfl
  have c1 := rX.cell 1 _ rfl
  clear hX rX bX
  go_wp2_with (first
    | (refine wpList_load_w rfl 134 (.tmp 15) rfl T 0 rfl [.func (.func 68) #[] #[], .func (.func 69) #[] #[], .func (.func 70) #[] #[], .func (.func 72) #[] #[]] _ R.out Tryz.underlying134 rfl info_fldG ?_; simp only [Act.put, List.setIfInBounds_toArray, List.set_cons_zero, List.set_cons_succ])
    | (refine wpList_store_mid rfl 134 (.tmp 8) (.tmp 16) rfl w.heap.size 0 [.func (.func 68) #[] #[], .func (.func 69) #[] #[], .func (.func 70) #[] #[], .func (.func 72) #[] #[]].toArray rfl rfl (Row.there (Row.new' (cs := [.nilFunc, .nilFunc, .nilFunc, .nilFunc]) rfl rfl) 0 _ (by decide)) info_fldG (by kernel_rfl) ?_; simp only [Act.put]; change wpList _ _ _ _ _ (World.setCells (World.alloc w (Obj.cells #[.nilFunc, .nilFunc, .nilFunc, .nilFunc] 134)) w.heap.size 0 [.func (.func 68) #[] #[], .func (.func 69) #[] #[], .func (.func 70) #[] #[], .func (.func 72) #[] #[]]); rw [← HX.out])
    | (go_at_call 119; refine Calls.mono HC.out ?_; rintro e Wz ⟨rfl, hqq⟩; obtain rfl := hqq.symm)
    | (go_at_call 68; refine Calls.mono HZ.out ?_; rintro e Wz ⟨rfl, hqq⟩; obtain rfl := hqq.symm))
  clear HC HZ c0 c1 R HX
  rw [rounds_succ]
  obtain ⟨X2, hX, rX, bX⟩ := laidFG X1 [.func (.func 74) #[] #[], .func (.func 76) #[] #[], .func (.func 77) #[] #[], .func (.func 79) #[] #[]] rfl
  have HX : Hid (X2 = _) := hX
  have R : Hid (X1.rangeAt T 4 [.func (.func 74) #[] #[], .func (.func 76) #[] #[], .func (.func 77) #[] #[], .func (.func 79) #[] #[]]) := range_sub (Row.below HT.out B1.out HT.out.lt) 4 4 rfl
  have B2 : Hid (Below w.heap.size w X2) := B1.out.trans (bX.mono B1.out.size)
  have HC : Hid _ := conE_1 U X2 (Row.below HU.out B2.out HU.out.lt)
  have HZ : Hid _ := z_entryFields_4 2 (.slice A 1 cap) b X2 (Row.below HL.out B2.out HL.out.lt)
  have c0 := rX.cell 0 _ rfl
  have c1 := rX.cell 1 _ rfl
  clear hX rX bX
  go_wp2_with (first
    | (refine wpList_load_w rfl 134 (.tmp 15) rfl T 4 rfl [.func (.func 74) #[] #[], .func (.func 76) #[] #[], .func (.func 77) #[] #[], .func (.func 79) #[] #[]] _ R.out Tryz.underlying134 rfl info_fldG ?_; simp only [Act.put, List.setIfInBounds_toArray, List.set_cons_zero, List.set_cons_succ])
    | (refine wpList_store_mid rfl 134 (.tmp 8) (.tmp 16) rfl X1.heap.size 0 [.func (.func 74) #[] #[], .func (.func 76) #[] #[], .func (.func 77) #[] #[], .func (.func 79) #[] #[]].toArray rfl rfl (Row.there (Row.new' (cs := [.nilFunc, .nilFunc, .nilFunc, .nilFunc]) rfl rfl) 0 _ (by decide)) info_fldG (by kernel_rfl) ?_; simp only [Act.put]; change wpList _ _ _ _ _ (World.setCells (World.alloc X1 (Obj.cells #[.nilFunc, .nilFunc, .nilFunc, .nilFunc] 134)) X1.heap.size 0 [.func (.func 74) #[] #[], .func (.func 76) #[] #[], .func (.func 77) #[] #[], .func (.func 79) #[] #[]]); rw [← HX.out])
    | (go_at_call 119; refine Calls.mono HC.out ?_; rintro e Wz ⟨rfl, hqq⟩; obtain rfl := hqq.symm)
    | (go_at_call 74; refine Calls.mono HZ.out ?_; rintro e Wz ⟨rfl, hqq⟩; obtain rfl := hqq.symm))
  clear HC HZ c0 c1 R HX
  rw [rounds_succ]
  obtain ⟨X3, hX, rX, bX⟩ := laidFG X2 [.func (.func 81) #[] #[], .func (.func 83) #[] #[], .func (.func 84) #[] #[], .func (.func 85) #[] #[]] rfl
  have HX : Hid (X3 = _) := hX
  have R : Hid (X2.rangeAt T 8 [.func (.func 81) #[] #[], .func (.func 83) #[] #[], .func (.func 84) #[] #[], .func (.func 85) #[] #[]]) := range_sub (Row.below HT.out B2.out HT.out.lt) 8 4 rfl
  have B3 : Hid (Below w.heap.size w X3) := B2.out.trans (bX.mono B2.out.size)
  have HC : Hid _ := conE_2 U X3 (Row.below HU.out B3.out HU.out.lt)
  have HZ : Hid _ := z_entryFields_9 2 258 (.slice A 1 cap) b X3 (Row.below HL.out B3.out HL.out.lt)
  have c0 := rX.cell 0 _ rfl
  have c1 := rX.cell 1 _ rfl
  clear hX rX bX
  go_wp2_with (first
    | (refine wpList_load_w rfl 134 (.tmp 15) rfl T 8 rfl [.func (.func 81) #[] #[], .func (.func 83) #[] #[], .func (.func 84) #[] #[], .func (.func 85) #[] #[]] _ R.out Tryz.underlying134 rfl info_fldG ?_; simp only [Act.put, List.setIfInBounds_toArray, List.set_cons_zero, List.set_cons_succ])
    | (refine wpList_store_mid rfl 134 (.tmp 8) (.tmp 16) rfl X2.heap.size 0 [.func (.func 81) #[] #[], .func (.func 83) #[] #[], .func (.func 84) #[] #[], .func (.func 85) #[] #[]].toArray rfl rfl (Row.there (Row.new' (cs := [.nilFunc, .nilFunc, .nilFunc, .nilFunc]) rfl rfl) 0 _ (by decide)) info_fldG (by kernel_rfl) ?_; simp only [Act.put]; change wpList _ _ _ _ _ (World.setCells (World.alloc X2 (Obj.cells #[.nilFunc, .nilFunc, .nilFunc, .nilFunc] 134)) X2.heap.size 0 [.func (.func 81) #[] #[], .func (.func 83) #[] #[], .func (.func 84) #[] #[], .func (.func 85) #[] #[]]); rw [← HX.out])
    | (go_at_call 119; refine Calls.mono HC.out ?_; rintro e Wz ⟨rfl, hqq⟩; obtain rfl := hqq.symm)
    | (go_at_call 83; refine Calls.mono HZ.out ?_; rintro e Wz ⟨rfl, hqq⟩; obtain rfl := hqq.symm))
  clear HC HZ c0 c1 R HX
  rw [rounds_succ]
  obtain ⟨X4, hX, rX, bX⟩ := laidFG X3 [.func (.func 68) #[] #[], .func (.func 86) #[] #[], .func (.func 87) #[] #[], .func (.func 88) #[] #[]] rfl
  have HX : Hid (X4 = _) := hX
  have R : Hid (X3.rangeAt T 12 [.func (.func 68) #[] #[], .func (.func 86) #[] #[], .func (.func 87) #[] #[], .func (.func 88) #[] #[]]) := range_sub (Row.below HT.out B3.out HT.out.lt) 12 4 rfl
  have B4 : Hid (Below w.heap.size w X4) := B3.out.trans (bX.mono B3.out.size)
  have HC : Hid _ := conE_3 U X4 (Row.below HU.out B4.out HU.out.lt)
  have HZ : Hid _ := z_entryFields_12 2 258 (.slice A 1 cap) b X4 (Row.below HL.out B4.out HL.out.lt)
  have c0 := rX.cell 0 _ rfl
  have c1 := rX.cell 1 _ rfl
  clear hX rX bX
  go_wp2_with (first
    | (refine wpList_load_w rfl 134 (.tmp 15) rfl T 12 rfl [.func (.func 68) #[] #[], .func (.func 86) #[] #[], .func (.func 87) #[] #[], .func (.func 88) #[] #[]] _ R.out Tryz.underlying134 rfl info_fldG ?_; simp only [Act.put, List.setIfInBounds_toArray, List.set_cons_zero, List.set_cons_succ])
    | (refine wpList_store_mid rfl 134 (.tmp 8) (.tmp 16) rfl X3.heap.size 0 [.func (.func 68) #[] #[], .func (.func 86) #[] #[], .func (.func 87) #[] #[], .func (.func 88) #[] #[]].toArray rfl rfl (Row.there (Row.new' (cs := [.nilFunc, .nilFunc, .nilFunc, .nilFunc]) rfl rfl) 0 _ (by decide)) info_fldG (by kernel_rfl) ?_; simp only [Act.put]; change wpList _ _ _ _ _ (World.setCells (World.alloc X3 (Obj.cells #[.nilFunc, .nilFunc, .nilFunc, .nilFunc] 134)) X3.heap.size 0 [.func (.func 68) #[] #[], .func (.func 86) #[] #[], .func (.func 87) #[] #[], .func (.func 88) #[] #[]]); rw [← HX.out])
    | (go_at_call 119; refine Calls.mono HC.out ?_; rintro e Wz ⟨rfl, hqq⟩; obtain rfl := hqq.symm)
    | (go_at_call 86; refine Calls.mono HZ.out ?_; rintro e Wz ⟨rfl, hqq⟩; obtain rfl := hqq.symm))
  clear HC HZ c0 c1 R HX
  rw [rounds_succ]
  obtain ⟨X5, hX, rX, bX⟩ := laidFG X4 [.func (.func 89) #[] #[], .func (.func 90) #[] #[], .func (.func 91) #[] #[], .func (.func 93) #[] #[]] rfl
  have HX : Hid (X5 = _) := hX
  have R : Hid (X4.rangeAt T 16 [.func (.func 89) #[] #[], .func (.func 90) #[] #[], .func (.func 91) #[] #[], .func (.func 93) #[] #[]]) := range_sub (Row.below HT.out B4.out HT.out.lt) 16 4 rfl
  have B5 : Hid (Below w.heap.size w X5) := B4.out.trans (bX.mono B4.out.size)
  have HC : Hid _ := conE_4 U X5 (Row.below HU.out B5.out HU.out.lt)
  have HZ : Hid _ := z_entryFields_16 2 258 (.slice A 1 cap) b X5 (Row.below HL.out B5.out HL.out.lt)
  have c0 := rX.cell 0 _ rfl
  have c1 := rX.cell 1 _ rfl
  clear hX rX bX
  go_wp2_with (first
    | (refine wpList_load_w rfl 134 (.tmp 15) rfl T 16 rfl [.func (.func 89) #[] #[], .func (.func 90) #[] #[], .func (.func 91) #[] #[], .func (.func 93) #[] #[]] _ R.out Tryz.underlying134 rfl info_fldG ?_; simp only [Act.put, List.setIfInBounds_toArray, List.set_cons_zero, List.set_cons_succ])
    | (refine wpList_store_mid rfl 134 (.tmp 8) (.tmp 16) rfl X4.heap.size 0 [.func (.func 89) #[] #[], .func (.func 90) #[] #[], .func (.func 91) #[] #[], .func (.func 93) #[] #[]].toArray rfl rfl (Row.there (Row.new' (cs := [.nilFunc, .nilFunc, .nilFunc, .nilFunc]) rfl rfl) 0 _ (by decide)) info_fldG (by kernel_rfl) ?_; simp only [Act.put]; change wpList _ _ _ _ _ (World.setCells (World.alloc X4 (Obj.cells #[.nilFunc, .nilFunc, .nilFunc, .nilFunc] 134)) X4.heap.size 0 [.func (.func 89) #[] #[], .func (.func 90) #[] #[], .func (.func 91) #[] #[], .func (.func 93) #[] #[]]); rw [← HX.out])
    | (go_at_call 119; refine Calls.mono HC.out ?_; rintro e Wz ⟨rfl, hqq⟩; obtain rfl := hqq.symm)
    | (go_at_call 90; refine Calls.mono HZ.out ?_; rintro e Wz ⟨rfl, hqq⟩; obtain rfl := hqq.symm))
  clear HC HZ c0 c1 R HX
  rw [rounds_succ]
  obtain ⟨X6, hX, rX, bX⟩ := laidFG X5 [.func (.func 95) #[] #[], .func (.func 96) #[] #[], .func (.func 97) #[] #[], .func (.func 98) #[] #[]] rfl
  have HX : Hid (X6 = _) := hX
  have R : Hid (X5.rangeAt T 20 [.func (.func 95) #[] #[], .func (.func 96) #[] #[], .func (.func 97) #[] #[], .func (.func 98) #[] #[]]) := range_sub (Row.below HT.out B5.out HT.out.lt) 20 4 rfl
  have B6 : Hid (Below w.heap.size w X6) := B5.out.trans (bX.mono B5.out.size)
  have HC : Hid _ := conE_5 U X6 (Row.below HU.out B6.out HU.out.lt)
  have HZ : Hid _ := z_entryFields_20 2 258 (.slice A 1 cap) b X6 (Row.below HL.out B6.out HL.out.lt)
  have c0 := rX.cell 0 _ rfl
  have c1 := rX.cell 1 _ rfl
  clear hX rX bX
  go_wp2_with (first
    | (refine wpList_load_w rfl 134 (.tmp 15) rfl T 20 rfl [.func (.func 95) #[] #[], .func (.func 96) #[] #[], .func (.func 97) #[] #[], .func (.func 98) #[] #[]] _ R.out Tryz.underlying134 rfl info_fldG ?_; simp only [Act.put, List.setIfInBounds_toArray, List.set_cons_zero, List.set_cons_succ])
    | (refine wpList_store_mid rfl 134 (.tmp 8) (.tmp 16) rfl X5.heap.size 0 [.func (.func 95) #[] #[], .func (.func 96) #[] #[], .func (.func 97) #[] #[], .func (.func 98) #[] #[]].toArray rfl rfl (Row.there (Row.new' (cs := [.nilFunc, .nilFunc, .nilFunc, .nilFunc]) rfl rfl) 0 _ (by decide)) info_fldG (by kernel_rfl) ?_; simp only [Act.put]; change wpList _ _ _ _ _ (World.setCells (World.alloc X5 (Obj.cells #[.nilFunc, .nilFunc, .nilFunc, .nilFunc] 134)) X5.heap.size 0 [.func (.func 95) #[] #[], .func (.func 96) #[] #[], .func (.func 97) #[] #[], .func (.func 98) #[] #[]]); rw [← HX.out])
    | (go_at_call 119; refine Calls.mono HC.out ?_; rintro e Wz ⟨rfl, hqq⟩; obtain rfl := hqq.symm)
    | (go_at_call 96; refine Calls.mono HZ.out ?_; rintro e Wz ⟨rfl, hqq⟩; obtain rfl := hqq.symm))
  clear HC HZ c0 c1 R HX
  rw [rounds_succ]
  obtain ⟨X7, hX, rX, bX⟩ := laidFG X6 [.func (.func 99) #[] #[], .func (.func 100) #[] #[], .func (.func 101) #[] #[], .func (.func 103) #[] #[]] rfl
  have HX : Hid (X7 = _) := hX
  have R : Hid (X6.rangeAt T 24 [.func (.func 99) #[] #[], .func (.func 100) #[] #[], .func (.func 101) #[] #[], .func (.func 103) #[] #[]]) := range_sub (Row.below HT.out B6.out HT.out.lt) 24 4 rfl
  have B7 : Hid (Below w.heap.size w X7) := B6.out.trans (bX.mono B6.out.size)
  have HC : Hid _ := conE_6 U X7 (Row.below HU.out B7.out HU.out.lt)
  have HZ : Hid _ := z_entryFields_23 2 258 A cap b X7 (Row.below HL.out B7.out HL.out.lt)
  have c0 := rX.cell 0 _ rfl
  have c1 := rX.cell 1 _ rfl
  clear hX rX bX
  go_wp2_with (first
    | (refine wpList_load_w rfl 134 (.tmp 15) rfl T 24 rfl [.func (.func 99) #[] #[], .func (.func 100) #[] #[], .func (.func 101) #[] #[], .func (.func 103) #[] #[]] _ R.out Tryz.underlying134 rfl info_fldG ?_; simp only [Act.put, List.setIfInBounds_toArray, List.set_cons_zero, List.set_cons_succ])
    | (refine wpList_store_mid rfl 134 (.tmp 8) (.tmp 16) rfl X6.heap.size 0 [.func (.func 99) #[] #[], .func (.func 100) #[] #[], .func (.func 101) #[] #[], .func (.func 103) #[] #[]].toArray rfl rfl (Row.there (Row.new' (cs := [.nilFunc, .nilFunc, .nilFunc, .nilFunc]) rfl rfl) 0 _ (by decide)) info_fldG (by kernel_rfl) ?_; simp only [Act.put]; change wpList _ _ _ _ _ (World.setCells (World.alloc X6 (Obj.cells #[.nilFunc, .nilFunc, .nilFunc, .nilFunc] 134)) X6.heap.size 0 [.func (.func 99) #[] #[], .func (.func 100) #[] #[], .func (.func 101) #[] #[], .func (.func 103) #[] #[]]); rw [← HX.out])
    | (go_at_call 119; refine Calls.mono HC.out ?_; rintro e Wz ⟨rfl, hqq⟩; obtain rfl := hqq.symm)
    | (go_at_call 99; refine Calls.mono HZ.out ?_; rintro e Wz ⟨rfl, hqq⟩; obtain rfl := hqq.symm))
  clear HC HZ c0 c1 R HX
  rw [rounds_succ]
  go_wp2_with fail
  go_ret
  exact ⟨rfl, B7.out⟩

end Go.Proofs.YtmfmdlaeflahlaaGreatDoor
