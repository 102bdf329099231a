/-
  fits, at concrete letters and entries.
-/
import Derived.Test.YtaaehdlenigomaaGreatLtC
namespace Go.Proofs.YtaaehdlenigomaaGreat
open Go Go.RowKit
open Sha

theorem info_fldG : (Tryz.prog.info? 80).map (·.size) = some 4 := by kernel_rfl
theorem info_fldF : (Tryz.prog.info? 103).map (·.size) = some 4 := info_fld
theorem laidF (W : World) (fs : List Value) (h : fs.length = 4) : ∃ X, X = (W.alloc (Obj.cells #[.nilFunc, .nilFunc, .nilFunc, .nilFunc] 103)).setCells W.heap.size 0 fs ∧ Row X W.heap.size fs 103 ∧ Below W.heap.size W X :=
  ⟨_, rfl, Row.over (Row.new' (cs := [.nilFunc, .nilFunc, .nilFunc, .nilFunc]) rfl rfl) (vs := fs) (by rw [h]; rfl), below_setCells ((Below.refl W.heap.size W).alloc (Nat.le_refl _) _) (Nat.le_refl _) _⟩
theorem laidFG (W : World) (fs : List Value) (h : fs.length = 4) : ∃ X, X = (W.alloc (Obj.cells #[.nilFunc, .nilFunc, .nilFunc, .nilFunc] 80)).setCells W.heap.size 0 fs ∧ Row X W.heap.size fs 80 ∧ Below W.heap.size W X :=
  ⟨_, rfl, Row.over (Row.new' (cs := [.nilFunc, .nilFunc, .nilFunc, .nilFunc]) rfl rfl) (vs := fs) (by rw [h]; rfl), below_setCells ((Below.refl W.heap.size W).alloc (Nat.le_refl _) _) (Nat.le_refl _) _⟩

set_option maxRecDepth 100000 in
set_option maxHeartbeats 4000000 in
theorem fits_5  (T U b : Nat) (w : World) (hT : Row w T ltab 103) (hU : Row w U [.int .i64 4] 3) (hb : Row w b (lt 5 0 1) tLet) :
    Calls Tryz.prog 26 #[.slice (some ⟨T, 0, none⟩) 9 9, .pointer (some ⟨b, 0, none⟩), .slice (some ⟨U, 0, none⟩) 1 1] w fun e w' => e = .returned (.bool true) ∧ Below w.heap.size w w' := by
  have HT : Hid (Row w T ltab 103) := hT
  have HU : Hid (Row w U [.int .i64 4] 3) := hU
  have HL : Hid (Row w b (lt 5 0 1) tLet) := hb
  clear hT hU hb
  have B0 : Hid (Below w.heap.size w w) := Below.refl _ _
  go_enter Tryz.func26, Tryz.ntmps26
  go_wp2_with fail
  refine wp_loop_rounds 10 ?_
  rw [rounds_succ]
  obtain ⟨X1, hX, rX, bX⟩ := laidF w [.func (.func 72) #[] #[], .func (.func 73) #[] #[], .func (.func 74) #[] #[], .func (.func 75) #[] #[]] rfl
  have HX : Hid (X1 = _) := hX
  have R : Hid (w.rangeAt T 0 [.func (.func 72) #[] #[], .func (.func 73) #[] #[], .func (.func 74) #[] #[], .func (.func 75) #[] #[]]) := range_sub (Row.below HT.out B0.out HT.out.lt) 0 4 rfl
  have B1 : Hid (Below w.heap.size w X1) := B0.out.trans (bX.mono B0.out.size)
  have HC : Hid _ := con4_0 U X1 (Row.below HU.out B1.out HU.out.lt)
  have HZ : Hid _ := z_fields_2 5 0 1 b X1 (Row.below HL.out B1.out HL.out.lt)
  have c0 := rX.cell 0 _ rfl
  have c1 := rX.cell 1 _ rfl
  clear hX rX bX
  go_wp2_with (first
    | (refine wpList_load_w rfl 103 (.tmp 15) rfl T 0 rfl [.func (.func 72) #[] #[], .func (.func 73) #[] #[], .func (.func 74) #[] #[], .func (.func 75) #[] #[]] _ R.out Tryz.underlying103 rfl info_fld ?_; simp only [Act.put, List.setIfInBounds_toArray, List.set_cons_zero, List.set_cons_succ])
    | (refine wpList_store_mid rfl 103 (.tmp 8) (.tmp 16) rfl w.heap.size 0 [.func (.func 72) #[] #[], .func (.func 73) #[] #[], .func (.func 74) #[] #[], .func (.func 75) #[] #[]].toArray rfl rfl (Row.there (Row.new' (cs := [.nilFunc, .nilFunc, .nilFunc, .nilFunc]) rfl rfl) 0 _ (by decide)) info_fld (by kernel_rfl) ?_; simp only [Act.put]; change wpList _ _ _ _ _ (World.setCells (World.alloc w (Obj.cells #[.nilFunc, .nilFunc, .nilFunc, .nilFunc] 103)) w.heap.size 0 [.func (.func 72) #[] #[], .func (.func 73) #[] #[], .func (.func 74) #[] #[], .func (.func 75) #[] #[]]); rw [← HX.out])
    | (go_at_call 70; refine Calls.mono HC.out ?_; rintro e Wz ⟨rfl, hqq⟩; obtain rfl := hqq.symm)
    | (go_at_call 73; refine Calls.mono HZ.out ?_; rintro e Wz ⟨rfl, hqq⟩; obtain rfl := hqq.symm))
  clear HC HZ c0 c1 R HX
  rw [rounds_succ]
  obtain ⟨X2, hX, rX, bX⟩ := laidF X1 [.func (.func 76) #[] #[], .func (.func 77) #[] #[], .func (.func 78) #[] #[], .func (.func 79) #[] #[]] rfl
  have HX : Hid (X2 = _) := hX
  have R : Hid (X1.rangeAt T 4 [.func (.func 76) #[] #[], .func (.func 77) #[] #[], .func (.func 78) #[] #[], .func (.func 79) #[] #[]]) := range_sub (Row.below HT.out B1.out HT.out.lt) 4 4 rfl
  have B2 : Hid (Below w.heap.size w X2) := B1.out.trans (bX.mono B1.out.size)
  have HC : Hid _ := con4_1 U X2 (Row.below HU.out B2.out HU.out.lt)
  have HZ : Hid _ := z_fields_5 5 0 1 b X2 (Row.below HL.out B2.out HL.out.lt)
  have c0 := rX.cell 0 _ rfl
  have c1 := rX.cell 1 _ rfl
  clear hX rX bX
  go_wp2_with (first
    | (refine wpList_load_w rfl 103 (.tmp 15) rfl T 4 rfl [.func (.func 76) #[] #[], .func (.func 77) #[] #[], .func (.func 78) #[] #[], .func (.func 79) #[] #[]] _ R.out Tryz.underlying103 rfl info_fld ?_; simp only [Act.put, List.setIfInBounds_toArray, List.set_cons_zero, List.set_cons_succ])
    | (refine wpList_store_mid rfl 103 (.tmp 8) (.tmp 16) rfl X1.heap.size 0 [.func (.func 76) #[] #[], .func (.func 77) #[] #[], .func (.func 78) #[] #[], .func (.func 79) #[] #[]].toArray rfl rfl (Row.there (Row.new' (cs := [.nilFunc, .nilFunc, .nilFunc, .nilFunc]) rfl rfl) 0 _ (by decide)) info_fld (by kernel_rfl) ?_; simp only [Act.put]; change wpList _ _ _ _ _ (World.setCells (World.alloc X1 (Obj.cells #[.nilFunc, .nilFunc, .nilFunc, .nilFunc] 103)) X1.heap.size 0 [.func (.func 76) #[] #[], .func (.func 77) #[] #[], .func (.func 78) #[] #[], .func (.func 79) #[] #[]]); rw [← HX.out])
    | (go_at_call 70; refine Calls.mono HC.out ?_; rintro e Wz ⟨rfl, hqq⟩; obtain rfl := hqq.symm)
    | (go_at_call 77; refine Calls.mono HZ.out ?_; rintro e Wz ⟨rfl, hqq⟩; obtain rfl := hqq.symm))
  clear HC HZ c0 c1 R HX
  rw [rounds_succ]
  obtain ⟨X3, hX, rX, bX⟩ := laidF X2 [.func (.func 76) #[] #[], .func (.func 80) #[] #[], .func (.func 81) #[] #[], .func (.func 82) #[] #[]] rfl
  have HX : Hid (X3 = _) := hX
  have R : Hid (X2.rangeAt T 8 [.func (.func 76) #[] #[], .func (.func 80) #[] #[], .func (.func 81) #[] #[], .func (.func 82) #[] #[]]) := range_sub (Row.below HT.out B2.out HT.out.lt) 8 4 rfl
  have B3 : Hid (Below w.heap.size w X3) := B2.out.trans (bX.mono B2.out.size)
  have HC : Hid _ := con4_2 U X3 (Row.below HU.out B3.out HU.out.lt)
  have HZ : Hid _ := z_fields_8 5 0 1 b X3 (Row.below HL.out B3.out HL.out.lt)
  have c0 := rX.cell 0 _ rfl
  have c1 := rX.cell 1 _ rfl
  clear hX rX bX
  go_wp2_with (first
    | (refine wpList_load_w rfl 103 (.tmp 15) rfl T 8 rfl [.func (.func 76) #[] #[], .func (.func 80) #[] #[], .func (.func 81) #[] #[], .func (.func 82) #[] #[]] _ R.out Tryz.underlying103 rfl info_fld ?_; simp only [Act.put, List.setIfInBounds_toArray, List.set_cons_zero, List.set_cons_succ])
    | (refine wpList_store_mid rfl 103 (.tmp 8) (.tmp 16) rfl X2.heap.size 0 [.func (.func 76) #[] #[], .func (.func 80) #[] #[], .func (.func 81) #[] #[], .func (.func 82) #[] #[]].toArray rfl rfl (Row.there (Row.new' (cs := [.nilFunc, .nilFunc, .nilFunc, .nilFunc]) rfl rfl) 0 _ (by decide)) info_fld (by kernel_rfl) ?_; simp only [Act.put]; change wpList _ _ _ _ _ (World.setCells (World.alloc X2 (Obj.cells #[.nilFunc, .nilFunc, .nilFunc, .nilFunc] 103)) X2.heap.size 0 [.func (.func 76) #[] #[], .func (.func 80) #[] #[], .func (.func 81) #[] #[], .func (.func 82) #[] #[]]); rw [← HX.out])
    | (go_at_call 70; refine Calls.mono HC.out ?_; rintro e Wz ⟨rfl, hqq⟩; obtain rfl := hqq.symm)
    | (go_at_call 80; refine Calls.mono HZ.out ?_; rintro e Wz ⟨rfl, hqq⟩; obtain rfl := hqq.symm))
  clear HC HZ c0 c1 R HX
  rw [rounds_succ]
  obtain ⟨X4, hX, rX, bX⟩ := laidF X3 [.func (.func 76) #[] #[], .func (.func 83) #[] #[], .func (.func 84) #[] #[], .func (.func 85) #[] #[]] rfl
  have HX : Hid (X4 = _) := hX
  have R : Hid (X3.rangeAt T 12 [.func (.func 76) #[] #[], .func (.func 83) #[] #[], .func (.func 84) #[] #[], .func (.func 85) #[] #[]]) := range_sub (Row.below HT.out B3.out HT.out.lt) 12 4 rfl
  have B4 : Hid (Below w.heap.size w X4) := B3.out.trans (bX.mono B3.out.size)
  have HC : Hid _ := con4_3 U X4 (Row.below HU.out B4.out HU.out.lt)
  have HZ : Hid _ := z_fields_11 5 0 1 b X4 (Row.below HL.out B4.out HL.out.lt)
  have c0 := rX.cell 0 _ rfl
  have c1 := rX.cell 1 _ rfl
  clear hX rX bX
  go_wp2_with (first
    | (refine wpList_load_w rfl 103 (.tmp 15) rfl T 12 rfl [.func (.func 76) #[] #[], .func (.func 83) #[] #[], .func (.func 84) #[] #[], .func (.func 85) #[] #[]] _ R.out Tryz.underlying103 rfl info_fld ?_; simp only [Act.put, List.setIfInBounds_toArray, List.set_cons_zero, List.set_cons_succ])
    | (refine wpList_store_mid rfl 103 (.tmp 8) (.tmp 16) rfl X3.heap.size 0 [.func (.func 76) #[] #[], .func (.func 83) #[] #[], .func (.func 84) #[] #[], .func (.func 85) #[] #[]].toArray rfl rfl (Row.there (Row.new' (cs := [.nilFunc, .nilFunc, .nilFunc, .nilFunc]) rfl rfl) 0 _ (by decide)) info_fld (by kernel_rfl) ?_; simp only [Act.put]; change wpList _ _ _ _ _ (World.setCells (World.alloc X3 (Obj.cells #[.nilFunc, .nilFunc, .nilFunc, .nilFunc] 103)) X3.heap.size 0 [.func (.func 76) #[] #[], .func (.func 83) #[] #[], .func (.func 84) #[] #[], .func (.func 85) #[] #[]]); rw [← HX.out])
    | (go_at_call 70; refine Calls.mono HC.out ?_; rintro e Wz ⟨rfl, hqq⟩; obtain rfl := hqq.symm)
    | (go_at_call 83; refine Calls.mono HZ.out ?_; rintro e Wz ⟨rfl, hqq⟩; obtain rfl := hqq.symm))
  clear HC HZ c0 c1 R HX
  rw [rounds_succ]
  obtain ⟨X5, hX, rX, bX⟩ := laidF X4 [.func (.func 86) #[] #[], .func (.func 87) #[] #[], .func (.func 88) #[] #[], .func (.func 89) #[] #[]] rfl
  have HX : Hid (X5 = _) := hX
  have R : Hid (X4.rangeAt T 16 [.func (.func 86) #[] #[], .func (.func 87) #[] #[], .func (.func 88) #[] #[], .func (.func 89) #[] #[]]) := range_sub (Row.below HT.out B4.out HT.out.lt) 16 4 rfl
  have B5 : Hid (Below w.heap.size w X5) := B4.out.trans (bX.mono B4.out.size)
  have HC : Hid _ := con4_4 U X5 (Row.below HU.out B5.out HU.out.lt)
  have HZ : Hid _ := z_fields_14 5 0 b X5 (Row.below HL.out B5.out HL.out.lt)
  have c0 := rX.cell 0 _ rfl
  have c1 := rX.cell 1 _ rfl
  clear hX rX bX
  go_wp2_with (first
    | (refine wpList_load_w rfl 103 (.tmp 15) rfl T 16 rfl [.func (.func 86) #[] #[], .func (.func 87) #[] #[], .func (.func 88) #[] #[], .func (.func 89) #[] #[]] _ R.out Tryz.underlying103 rfl info_fld ?_; simp only [Act.put, List.setIfInBounds_toArray, List.set_cons_zero, List.set_cons_succ])
    | (refine wpList_store_mid rfl 103 (.tmp 8) (.tmp 16) rfl X4.heap.size 0 [.func (.func 86) #[] #[], .func (.func 87) #[] #[], .func (.func 88) #[] #[], .func (.func 89) #[] #[]].toArray rfl rfl (Row.there (Row.new' (cs := [.nilFunc, .nilFunc, .nilFunc, .nilFunc]) rfl rfl) 0 _ (by decide)) info_fld (by kernel_rfl) ?_; simp only [Act.put]; change wpList _ _ _ _ _ (World.setCells (World.alloc X4 (Obj.cells #[.nilFunc, .nilFunc, .nilFunc, .nilFunc] 103)) X4.heap.size 0 [.func (.func 86) #[] #[], .func (.func 87) #[] #[], .func (.func 88) #[] #[], .func (.func 89) #[] #[]]); rw [← HX.out])
    | (go_at_call 70; refine Calls.mono HC.out ?_; rintro e Wz ⟨rfl, hqq⟩; obtain rfl := hqq.symm)
    | (go_at_call 86; refine Calls.mono HZ.out ?_; rintro e Wz ⟨rfl, hqq⟩; obtain rfl := hqq.symm))
  clear HC HZ c0 c1 R HX
  rw [rounds_succ]
  obtain ⟨X6, hX, rX, bX⟩ := laidF X5 [.func (.func 90) #[] #[], .func (.func 91) #[] #[], .func (.func 92) #[] #[], .func (.func 93) #[] #[]] rfl
  have HX : Hid (X6 = _) := hX
  have R : Hid (X5.rangeAt T 20 [.func (.func 90) #[] #[], .func (.func 91) #[] #[], .func (.func 92) #[] #[], .func (.func 93) #[] #[]]) := range_sub (Row.below HT.out B5.out HT.out.lt) 20 4 rfl
  have B6 : Hid (Below w.heap.size w X6) := B5.out.trans (bX.mono B5.out.size)
  have HC : Hid _ := con4_5 U X6 (Row.below HU.out B6.out HU.out.lt)
  have HZ : Hid _ := z_fields_19 5 0 1 b X6 (Row.below HL.out B6.out HL.out.lt)
  have c0 := rX.cell 0 _ rfl
  have c1 := rX.cell 1 _ rfl
  clear hX rX bX
  go_wp2_with (first
    | (refine wpList_load_w rfl 103 (.tmp 15) rfl T 20 rfl [.func (.func 90) #[] #[], .func (.func 91) #[] #[], .func (.func 92) #[] #[], .func (.func 93) #[] #[]] _ R.out Tryz.underlying103 rfl info_fld ?_; simp only [Act.put, List.setIfInBounds_toArray, List.set_cons_zero, List.set_cons_succ])
    | (refine wpList_store_mid rfl 103 (.tmp 8) (.tmp 16) rfl X5.heap.size 0 [.func (.func 90) #[] #[], .func (.func 91) #[] #[], .func (.func 92) #[] #[], .func (.func 93) #[] #[]].toArray rfl rfl (Row.there (Row.new' (cs := [.nilFunc, .nilFunc, .nilFunc, .nilFunc]) rfl rfl) 0 _ (by decide)) info_fld (by kernel_rfl) ?_; simp only [Act.put]; change wpList _ _ _ _ _ (World.setCells (World.alloc X5 (Obj.cells #[.nilFunc, .nilFunc, .nilFunc, .nilFunc] 103)) X5.heap.size 0 [.func (.func 90) #[] #[], .func (.func 91) #[] #[], .func (.func 92) #[] #[], .func (.func 93) #[] #[]]); rw [← HX.out])
    | (go_at_call 70; refine Calls.mono HC.out ?_; rintro e Wz ⟨rfl, hqq⟩; obtain rfl := hqq.symm)
    | (go_at_call 91; refine Calls.mono HZ.out ?_; rintro e Wz ⟨rfl, hqq⟩; obtain rfl := hqq.symm))
  clear HC HZ c0 c1 R HX
  rw [rounds_succ]
  obtain ⟨X7, hX, rX, bX⟩ := laidF X6 [.func (.func 114) #[] #[], .func (.func 115) #[] #[], .func (.func 116) #[] #[], .func (.func 118) #[] #[]] rfl
  have HX : Hid (X7 = _) := hX
  have R : Hid (X6.rangeAt T 24 [.func (.func 114) #[] #[], .func (.func 115) #[] #[], .func (.func 116) #[] #[], .func (.func 118) #[] #[]]) := range_sub (Row.below HT.out B6.out HT.out.lt) 24 4 rfl
  have B7 : Hid (Below w.heap.size w X7) := B6.out.trans (bX.mono B6.out.size)
  have HC : Hid _ := con4_6 U X7 (Row.below HU.out B7.out HU.out.lt)
  have HZ : Hid _ := z_argsField_2 5 0 1 b X7 (Row.below HL.out B7.out HL.out.lt)
  have c0 := rX.cell 0 _ rfl
  have c1 := rX.cell 1 _ rfl
  clear hX rX bX
  go_wp2_with (first
    | (refine wpList_load_w rfl 103 (.tmp 15) rfl T 24 rfl [.func (.func 114) #[] #[], .func (.func 115) #[] #[], .func (.func 116) #[] #[], .func (.func 118) #[] #[]] _ R.out Tryz.underlying103 rfl info_fld ?_; simp only [Act.put, List.setIfInBounds_toArray, List.set_cons_zero, List.set_cons_succ])
    | (refine wpList_store_mid rfl 103 (.tmp 8) (.tmp 16) rfl X6.heap.size 0 [.func (.func 114) #[] #[], .func (.func 115) #[] #[], .func (.func 116) #[] #[], .func (.func 118) #[] #[]].toArray rfl rfl (Row.there (Row.new' (cs := [.nilFunc, .nilFunc, .nilFunc, .nilFunc]) rfl rfl) 0 _ (by decide)) info_fld (by kernel_rfl) ?_; simp only [Act.put]; change wpList _ _ _ _ _ (World.setCells (World.alloc X6 (Obj.cells #[.nilFunc, .nilFunc, .nilFunc, .nilFunc] 103)) X6.heap.size 0 [.func (.func 114) #[] #[], .func (.func 115) #[] #[], .func (.func 116) #[] #[], .func (.func 118) #[] #[]]); rw [← HX.out])
    | (go_at_call 70; refine Calls.mono HC.out ?_; rintro e Wz ⟨rfl, hqq⟩; obtain rfl := hqq.symm)
    | (go_at_call 115; refine Calls.mono HZ.out ?_; rintro e Wz ⟨rfl, hqq⟩; obtain rfl := hqq.symm))
  clear HC HZ c0 c1 R HX
  rw [rounds_succ]
  obtain ⟨X8, hX, rX, bX⟩ := laidF X7 [.func (.func 120) #[] #[], .func (.func 121) #[] #[], .func (.func 122) #[] #[], .func (.func 123) #[] #[]] rfl
  have HX : Hid (X8 = _) := hX
  have R : Hid (X7.rangeAt T 28 [.func (.func 120) #[] #[], .func (.func 121) #[] #[], .func (.func 122) #[] #[], .func (.func 123) #[] #[]]) := range_sub (Row.below HT.out B7.out HT.out.lt) 28 4 rfl
  have B8 : Hid (Below w.heap.size w X8) := B7.out.trans (bX.mono B7.out.size)
  have HC : Hid _ := con4_7 U X8 (Row.below HU.out B8.out HU.out.lt)
  have HZ : Hid _ := z_codeField_2 5 0 1 b X8 (Row.below HL.out B8.out HL.out.lt)
  have c0 := rX.cell 0 _ rfl
  have c1 := rX.cell 1 _ rfl
  clear hX rX bX
  go_wp2_with (first
    | (refine wpList_load_w rfl 103 (.tmp 15) rfl T 28 rfl [.func (.func 120) #[] #[], .func (.func 121) #[] #[], .func (.func 122) #[] #[], .func (.func 123) #[] #[]] _ R.out Tryz.underlying103 rfl info_fld ?_; simp only [Act.put, List.setIfInBounds_toArray, List.set_cons_zero, List.set_cons_succ])
    | (refine wpList_store_mid rfl 103 (.tmp 8) (.tmp 16) rfl X7.heap.size 0 [.func (.func 120) #[] #[], .func (.func 121) #[] #[], .func (.func 122) #[] #[], .func (.func 123) #[] #[]].toArray rfl rfl (Row.there (Row.new' (cs := [.nilFunc, .nilFunc, .nilFunc, .nilFunc]) rfl rfl) 0 _ (by decide)) info_fld (by kernel_rfl) ?_; simp only [Act.put]; change wpList _ _ _ _ _ (World.setCells (World.alloc X7 (Obj.cells #[.nilFunc, .nilFunc, .nilFunc, .nilFunc] 103)) X7.heap.size 0 [.func (.func 120) #[] #[], .func (.func 121) #[] #[], .func (.func 122) #[] #[], .func (.func 123) #[] #[]]); rw [← HX.out])
    | (go_at_call 70; refine Calls.mono HC.out ?_; rintro e Wz ⟨rfl, hqq⟩; obtain rfl := hqq.symm)
    | (go_at_call 121; refine Calls.mono HZ.out ?_; rintro e Wz ⟨rfl, hqq⟩; obtain rfl := hqq.symm))
  clear HC HZ c0 c1 R HX
  rw [rounds_succ]
  obtain ⟨X9, hX, rX, bX⟩ := laidF X8 [.func (.func 124) #[] #[], .func (.func 126) #[] #[], .func (.func 127) #[] #[], .func (.func 130) #[] #[]] rfl
  have HX : Hid (X9 = _) := hX
  have R : Hid (X8.rangeAt T 32 [.func (.func 124) #[] #[], .func (.func 126) #[] #[], .func (.func 127) #[] #[], .func (.func 130) #[] #[]]) := range_sub (Row.below HT.out B8.out HT.out.lt) 32 4 rfl
  have B9 : Hid (Below w.heap.size w X9) := B8.out.trans (bX.mono B8.out.size)
  have HC : Hid _ := con4_8 U X9 (Row.below HU.out B9.out HU.out.lt)
  have HZ : Hid _ := z_partsField_2 5 0 1 b X9 (Row.below HL.out B9.out HL.out.lt)
  have c0 := rX.cell 0 _ rfl
  have c1 := rX.cell 1 _ rfl
  clear hX rX bX
  go_wp2_with (first
    | (refine wpList_load_w rfl 103 (.tmp 15) rfl T 32 rfl [.func (.func 124) #[] #[], .func (.func 126) #[] #[], .func (.func 127) #[] #[], .func (.func 130) #[] #[]] _ R.out Tryz.underlying103 rfl info_fld ?_; simp only [Act.put, List.setIfInBounds_toArray, List.set_cons_zero, List.set_cons_succ])
    | (refine wpList_store_mid rfl 103 (.tmp 8) (.tmp 16) rfl X8.heap.size 0 [.func (.func 124) #[] #[], .func (.func 126) #[] #[], .func (.func 127) #[] #[], .func (.func 130) #[] #[]].toArray rfl rfl (Row.there (Row.new' (cs := [.nilFunc, .nilFunc, .nilFunc, .nilFunc]) rfl rfl) 0 _ (by decide)) info_fld (by kernel_rfl) ?_; simp only [Act.put]; change wpList _ _ _ _ _ (World.setCells (World.alloc X8 (Obj.cells #[.nilFunc, .nilFunc, .nilFunc, .nilFunc] 103)) X8.heap.size 0 [.func (.func 124) #[] #[], .func (.func 126) #[] #[], .func (.func 127) #[] #[], .func (.func 130) #[] #[]]); rw [← HX.out])
    | (go_at_call 70; refine Calls.mono HC.out ?_; rintro e Wz ⟨rfl, hqq⟩; obtain rfl := hqq.symm)
    | (go_at_call 126; refine Calls.mono HZ.out ?_; rintro e Wz ⟨rfl, hqq⟩; obtain rfl := hqq.symm))
  clear HC HZ c0 c1 R HX
  rw [rounds_succ]
  go_wp2_with fail
  go_ret
  exact ⟨rfl, B9.out⟩

set_option maxRecDepth 100000 in
set_option maxHeartbeats 4000000 in
theorem fits_8  (T U b : Nat) (w : World) (hT : Row w T ltab 103) (hU : Row w U [.int .i64 0] 3) (hb : Row w b (lt 8 3 0) tLet) :
    Calls Tryz.prog 26 #[.slice (some ⟨T, 0, none⟩) 9 9, .pointer (some ⟨b, 0, none⟩), .slice (some ⟨U, 0, none⟩) 1 1] w fun e w' => e = .returned (.bool true) ∧ Below w.heap.size w w' := by
  have HT : Hid (Row w T ltab 103) := hT
  have HU : Hid (Row w U [.int .i64 0] 3) := hU
  have HL : Hid (Row w b (lt 8 3 0) tLet) := hb
  clear hT hU hb
  have B0 : Hid (Below w.heap.size w w) := Below.refl _ _
  go_enter Tryz.func26, Tryz.ntmps26
  go_wp2_with fail
  refine wp_loop_rounds 10 ?_
  rw [rounds_succ]
  obtain ⟨X1, hX, rX, bX⟩ := laidF w [.func (.func 72) #[] #[], .func (.func 73) #[] #[], .func (.func 74) #[] #[], .func (.func 75) #[] #[]] rfl
  have HX : Hid (X1 = _) := hX
  have R : Hid (w.rangeAt T 0 [.func (.func 72) #[] #[], .func (.func 73) #[] #[], .func (.func 74) #[] #[], .func (.func 75) #[] #[]]) := range_sub (Row.below HT.out B0.out HT.out.lt) 0 4 rfl
  have B1 : Hid (Below w.heap.size w X1) := B0.out.trans (bX.mono B0.out.size)
  have HC : Hid _ := con0_0 U X1 (Row.below HU.out B1.out HU.out.lt)
  have HZ : Hid _ := z_fields_1 8 0 b X1 (Row.below HL.out B1.out HL.out.lt)
  have c0 := rX.cell 0 _ rfl
  have c1 := rX.cell 1 _ rfl
  clear hX rX bX
  go_wp2_with (first
    | (refine wpList_load_w rfl 103 (.tmp 15) rfl T 0 rfl [.func (.func 72) #[] #[], .func (.func 73) #[] #[], .func (.func 74) #[] #[], .func (.func 75) #[] #[]] _ R.out Tryz.underlying103 rfl info_fld ?_; simp only [Act.put, List.setIfInBounds_toArray, List.set_cons_zero, List.set_cons_succ])
    | (refine wpList_store_mid rfl 103 (.tmp 8) (.tmp 16) rfl w.heap.size 0 [.func (.func 72) #[] #[], .func (.func 73) #[] #[], .func (.func 74) #[] #[], .func (.func 75) #[] #[]].toArray rfl rfl (Row.there (Row.new' (cs := [.nilFunc, .nilFunc, .nilFunc, .nilFunc]) rfl rfl) 0 _ (by decide)) info_fld (by kernel_rfl) ?_; simp only [Act.put]; change wpList _ _ _ _ _ (World.setCells (World.alloc w (Obj.cells #[.nilFunc, .nilFunc, .nilFunc, .nilFunc] 103)) w.heap.size 0 [.func (.func 72) #[] #[], .func (.func 73) #[] #[], .func (.func 74) #[] #[], .func (.func 75) #[] #[]]); rw [← HX.out])
    | (go_at_call 70; refine Calls.mono HC.out ?_; rintro e Wz ⟨rfl, hqq⟩; obtain rfl := hqq.symm)
    | (go_at_call 72; refine Calls.mono HZ.out ?_; rintro e Wz ⟨rfl, hqq⟩; obtain rfl := hqq.symm))
  clear HC HZ c0 c1 R HX
  rw [rounds_succ]
  obtain ⟨X2, hX, rX, bX⟩ := laidF X1 [.func (.func 76) #[] #[], .func (.func 77) #[] #[], .func (.func 78) #[] #[], .func (.func 79) #[] #[]] rfl
  have HX : Hid (X2 = _) := hX
  have R : Hid (X1.rangeAt T 4 [.func (.func 76) #[] #[], .func (.func 77) #[] #[], .func (.func 78) #[] #[], .func (.func 79) #[] #[]]) := range_sub (Row.below HT.out B1.out HT.out.lt) 4 4 rfl
  have B2 : Hid (Below w.heap.size w X2) := B1.out.trans (bX.mono B1.out.size)
  have HC : Hid _ := con0_1 U X2 (Row.below HU.out B2.out HU.out.lt)
  have HZ : Hid _ := z_fields_5 8 3 0 b X2 (Row.below HL.out B2.out HL.out.lt)
  have c0 := rX.cell 0 _ rfl
  have c1 := rX.cell 1 _ rfl
  clear hX rX bX
  go_wp2_with (first
    | (refine wpList_load_w rfl 103 (.tmp 15) rfl T 4 rfl [.func (.func 76) #[] #[], .func (.func 77) #[] #[], .func (.func 78) #[] #[], .func (.func 79) #[] #[]] _ R.out Tryz.underlying103 rfl info_fld ?_; simp only [Act.put, List.setIfInBounds_toArray, List.set_cons_zero, List.set_cons_succ])
    | (refine wpList_store_mid rfl 103 (.tmp 8) (.tmp 16) rfl X1.heap.size 0 [.func (.func 76) #[] #[], .func (.func 77) #[] #[], .func (.func 78) #[] #[], .func (.func 79) #[] #[]].toArray rfl rfl (Row.there (Row.new' (cs := [.nilFunc, .nilFunc, .nilFunc, .nilFunc]) rfl rfl) 0 _ (by decide)) info_fld (by kernel_rfl) ?_; simp only [Act.put]; change wpList _ _ _ _ _ (World.setCells (World.alloc X1 (Obj.cells #[.nilFunc, .nilFunc, .nilFunc, .nilFunc] 103)) X1.heap.size 0 [.func (.func 76) #[] #[], .func (.func 77) #[] #[], .func (.func 78) #[] #[], .func (.func 79) #[] #[]]); rw [← HX.out])
    | (go_at_call 70; refine Calls.mono HC.out ?_; rintro e Wz ⟨rfl, hqq⟩; obtain rfl := hqq.symm)
    | (go_at_call 77; refine Calls.mono HZ.out ?_; rintro e Wz ⟨rfl, hqq⟩; obtain rfl := hqq.symm))
  clear HC HZ c0 c1 R HX
  rw [rounds_succ]
  obtain ⟨X3, hX, rX, bX⟩ := laidF X2 [.func (.func 76) #[] #[], .func (.func 80) #[] #[], .func (.func 81) #[] #[], .func (.func 82) #[] #[]] rfl
  have HX : Hid (X3 = _) := hX
  have R : Hid (X2.rangeAt T 8 [.func (.func 76) #[] #[], .func (.func 80) #[] #[], .func (.func 81) #[] #[], .func (.func 82) #[] #[]]) := range_sub (Row.below HT.out B2.out HT.out.lt) 8 4 rfl
  have B3 : Hid (Below w.heap.size w X3) := B2.out.trans (bX.mono B2.out.size)
  have HC : Hid _ := con0_2 U X3 (Row.below HU.out B3.out HU.out.lt)
  have HZ : Hid _ := z_fields_8 8 3 0 b X3 (Row.below HL.out B3.out HL.out.lt)
  have c0 := rX.cell 0 _ rfl
  have c1 := rX.cell 1 _ rfl
  clear hX rX bX
  go_wp2_with (first
    | (refine wpList_load_w rfl 103 (.tmp 15) rfl T 8 rfl [.func (.func 76) #[] #[], .func (.func 80) #[] #[], .func (.func 81) #[] #[], .func (.func 82) #[] #[]] _ R.out Tryz.underlying103 rfl info_fld ?_; simp only [Act.put, List.setIfInBounds_toArray, List.set_cons_zero, List.set_cons_succ])
    | (refine wpList_store_mid rfl 103 (.tmp 8) (.tmp 16) rfl X2.heap.size 0 [.func (.func 76) #[] #[], .func (.func 80) #[] #[], .func (.func 81) #[] #[], .func (.func 82) #[] #[]].toArray rfl rfl (Row.there (Row.new' (cs := [.nilFunc, .nilFunc, .nilFunc, .nilFunc]) rfl rfl) 0 _ (by decide)) info_fld (by kernel_rfl) ?_; simp only [Act.put]; change wpList _ _ _ _ _ (World.setCells (World.alloc X2 (Obj.cells #[.nilFunc, .nilFunc, .nilFunc, .nilFunc] 103)) X2.heap.size 0 [.func (.func 76) #[] #[], .func (.func 80) #[] #[], .func (.func 81) #[] #[], .func (.func 82) #[] #[]]); rw [← HX.out])
    | (go_at_call 70; refine Calls.mono HC.out ?_; rintro e Wz ⟨rfl, hqq⟩; obtain rfl := hqq.symm)
    | (go_at_call 80; refine Calls.mono HZ.out ?_; rintro e Wz ⟨rfl, hqq⟩; obtain rfl := hqq.symm))
  clear HC HZ c0 c1 R HX
  rw [rounds_succ]
  obtain ⟨X4, hX, rX, bX⟩ := laidF X3 [.func (.func 76) #[] #[], .func (.func 83) #[] #[], .func (.func 84) #[] #[], .func (.func 85) #[] #[]] rfl
  have HX : Hid (X4 = _) := hX
  have R : Hid (X3.rangeAt T 12 [.func (.func 76) #[] #[], .func (.func 83) #[] #[], .func (.func 84) #[] #[], .func (.func 85) #[] #[]]) := range_sub (Row.below HT.out B3.out HT.out.lt) 12 4 rfl
  have B4 : Hid (Below w.heap.size w X4) := B3.out.trans (bX.mono B3.out.size)
  have HC : Hid _ := con0_3 U X4 (Row.below HU.out B4.out HU.out.lt)
  have HZ : Hid _ := z_fields_11 8 3 0 b X4 (Row.below HL.out B4.out HL.out.lt)
  have c0 := rX.cell 0 _ rfl
  have c1 := rX.cell 1 _ rfl
  clear hX rX bX
  go_wp2_with (first
    | (refine wpList_load_w rfl 103 (.tmp 15) rfl T 12 rfl [.func (.func 76) #[] #[], .func (.func 83) #[] #[], .func (.func 84) #[] #[], .func (.func 85) #[] #[]] _ R.out Tryz.underlying103 rfl info_fld ?_; simp only [Act.put, List.setIfInBounds_toArray, List.set_cons_zero, List.set_cons_succ])
    | (refine wpList_store_mid rfl 103 (.tmp 8) (.tmp 16) rfl X3.heap.size 0 [.func (.func 76) #[] #[], .func (.func 83) #[] #[], .func (.func 84) #[] #[], .func (.func 85) #[] #[]].toArray rfl rfl (Row.there (Row.new' (cs := [.nilFunc, .nilFunc, .nilFunc, .nilFunc]) rfl rfl) 0 _ (by decide)) info_fld (by kernel_rfl) ?_; simp only [Act.put]; change wpList _ _ _ _ _ (World.setCells (World.alloc X3 (Obj.cells #[.nilFunc, .nilFunc, .nilFunc, .nilFunc] 103)) X3.heap.size 0 [.func (.func 76) #[] #[], .func (.func 83) #[] #[], .func (.func 84) #[] #[], .func (.func 85) #[] #[]]); rw [← HX.out])
    | (go_at_call 70; refine Calls.mono HC.out ?_; rintro e Wz ⟨rfl, hqq⟩; obtain rfl := hqq.symm)
    | (go_at_call 83; refine Calls.mono HZ.out ?_; rintro e Wz ⟨rfl, hqq⟩; obtain rfl := hqq.symm))
  clear HC HZ c0 c1 R HX
  rw [rounds_succ]
  obtain ⟨X5, hX, rX, bX⟩ := laidF X4 [.func (.func 86) #[] #[], .func (.func 87) #[] #[], .func (.func 88) #[] #[], .func (.func 89) #[] #[]] rfl
  have HX : Hid (X5 = _) := hX
  have R : Hid (X4.rangeAt T 16 [.func (.func 86) #[] #[], .func (.func 87) #[] #[], .func (.func 88) #[] #[], .func (.func 89) #[] #[]]) := range_sub (Row.below HT.out B4.out HT.out.lt) 16 4 rfl
  have B5 : Hid (Below w.heap.size w X5) := B4.out.trans (bX.mono B4.out.size)
  have HC : Hid _ := con0_4 U X5 (Row.below HU.out B5.out HU.out.lt)
  have HZ : Hid _ := z_fields_15 8 3 0 b X5 (Row.below HL.out B5.out HL.out.lt)
  have c0 := rX.cell 0 _ rfl
  have c1 := rX.cell 1 _ rfl
  clear hX rX bX
  go_wp2_with (first
    | (refine wpList_load_w rfl 103 (.tmp 15) rfl T 16 rfl [.func (.func 86) #[] #[], .func (.func 87) #[] #[], .func (.func 88) #[] #[], .func (.func 89) #[] #[]] _ R.out Tryz.underlying103 rfl info_fld ?_; simp only [Act.put, List.setIfInBounds_toArray, List.set_cons_zero, List.set_cons_succ])
    | (refine wpList_store_mid rfl 103 (.tmp 8) (.tmp 16) rfl X4.heap.size 0 [.func (.func 86) #[] #[], .func (.func 87) #[] #[], .func (.func 88) #[] #[], .func (.func 89) #[] #[]].toArray rfl rfl (Row.there (Row.new' (cs := [.nilFunc, .nilFunc, .nilFunc, .nilFunc]) rfl rfl) 0 _ (by decide)) info_fld (by kernel_rfl) ?_; simp only [Act.put]; change wpList _ _ _ _ _ (World.setCells (World.alloc X4 (Obj.cells #[.nilFunc, .nilFunc, .nilFunc, .nilFunc] 103)) X4.heap.size 0 [.func (.func 86) #[] #[], .func (.func 87) #[] #[], .func (.func 88) #[] #[], .func (.func 89) #[] #[]]); rw [← HX.out])
    | (go_at_call 70; refine Calls.mono HC.out ?_; rintro e Wz ⟨rfl, hqq⟩; obtain rfl := hqq.symm)
    | (go_at_call 87; refine Calls.mono HZ.out ?_; rintro e Wz ⟨rfl, hqq⟩; obtain rfl := hqq.symm))
  clear HC HZ c0 c1 R HX
  rw [rounds_succ]
  obtain ⟨X6, hX, rX, bX⟩ := laidF X5 [.func (.func 90) #[] #[], .func (.func 91) #[] #[], .func (.func 92) #[] #[], .func (.func 93) #[] #[]] rfl
  have HX : Hid (X6 = _) := hX
  have R : Hid (X5.rangeAt T 20 [.func (.func 90) #[] #[], .func (.func 91) #[] #[], .func (.func 92) #[] #[], .func (.func 93) #[] #[]]) := range_sub (Row.below HT.out B5.out HT.out.lt) 20 4 rfl
  have B6 : Hid (Below w.heap.size w X6) := B5.out.trans (bX.mono B5.out.size)
  have HC : Hid _ := con0_5 U X6 (Row.below HU.out B6.out HU.out.lt)
  have HZ : Hid _ := z_fields_19 8 3 0 b X6 (Row.below HL.out B6.out HL.out.lt)
  have c0 := rX.cell 0 _ rfl
  have c1 := rX.cell 1 _ rfl
  clear hX rX bX
  go_wp2_with (first
    | (refine wpList_load_w rfl 103 (.tmp 15) rfl T 20 rfl [.func (.func 90) #[] #[], .func (.func 91) #[] #[], .func (.func 92) #[] #[], .func (.func 93) #[] #[]] _ R.out Tryz.underlying103 rfl info_fld ?_; simp only [Act.put, List.setIfInBounds_toArray, List.set_cons_zero, List.set_cons_succ])
    | (refine wpList_store_mid rfl 103 (.tmp 8) (.tmp 16) rfl X5.heap.size 0 [.func (.func 90) #[] #[], .func (.func 91) #[] #[], .func (.func 92) #[] #[], .func (.func 93) #[] #[]].toArray rfl rfl (Row.there (Row.new' (cs := [.nilFunc, .nilFunc, .nilFunc, .nilFunc]) rfl rfl) 0 _ (by decide)) info_fld (by kernel_rfl) ?_; simp only [Act.put]; change wpList _ _ _ _ _ (World.setCells (World.alloc X5 (Obj.cells #[.nilFunc, .nilFunc, .nilFunc, .nilFunc] 103)) X5.heap.size 0 [.func (.func 90) #[] #[], .func (.func 91) #[] #[], .func (.func 92) #[] #[], .func (.func 93) #[] #[]]); rw [← HX.out])
    | (go_at_call 70; refine Calls.mono HC.out ?_; rintro e Wz ⟨rfl, hqq⟩; obtain rfl := hqq.symm)
    | (go_at_call 91; refine Calls.mono HZ.out ?_; rintro e Wz ⟨rfl, hqq⟩; obtain rfl := hqq.symm))
  clear HC HZ c0 c1 R HX
  rw [rounds_succ]
  obtain ⟨X7, hX, rX, bX⟩ := laidF X6 [.func (.func 114) #[] #[], .func (.func 115) #[] #[], .func (.func 116) #[] #[], .func (.func 118) #[] #[]] rfl
  have HX : Hid (X7 = _) := hX
  have R : Hid (X6.rangeAt T 24 [.func (.func 114) #[] #[], .func (.func 115) #[] #[], .func (.func 116) #[] #[], .func (.func 118) #[] #[]]) := range_sub (Row.below HT.out B6.out HT.out.lt) 24 4 rfl
  have B7 : Hid (Below w.heap.size w X7) := B6.out.trans (bX.mono B6.out.size)
  have HC : Hid _ := con0_6 U X7 (Row.below HU.out B7.out HU.out.lt)
  have HZ : Hid _ := z_argsField_2 8 3 0 b X7 (Row.below HL.out B7.out HL.out.lt)
  have c0 := rX.cell 0 _ rfl
  have c1 := rX.cell 1 _ rfl
  clear hX rX bX
  go_wp2_with (first
    | (refine wpList_load_w rfl 103 (.tmp 15) rfl T 24 rfl [.func (.func 114) #[] #[], .func (.func 115) #[] #[], .func (.func 116) #[] #[], .func (.func 118) #[] #[]] _ R.out Tryz.underlying103 rfl info_fld ?_; simp only [Act.put, List.setIfInBounds_toArray, List.set_cons_zero, List.set_cons_succ])
    | (refine wpList_store_mid rfl 103 (.tmp 8) (.tmp 16) rfl X6.heap.size 0 [.func (.func 114) #[] #[], .func (.func 115) #[] #[], .func (.func 116) #[] #[], .func (.func 118) #[] #[]].toArray rfl rfl (Row.there (Row.new' (cs := [.nilFunc, .nilFunc, .nilFunc, .nilFunc]) rfl rfl) 0 _ (by decide)) info_fld (by kernel_rfl) ?_; simp only [Act.put]; change wpList _ _ _ _ _ (World.setCells (World.alloc X6 (Obj.cells #[.nilFunc, .nilFunc, .nilFunc, .nilFunc] 103)) X6.heap.size 0 [.func (.func 114) #[] #[], .func (.func 115) #[] #[], .func (.func 116) #[] #[], .func (.func 118) #[] #[]]); rw [← HX.out])
    | (go_at_call 70; refine Calls.mono HC.out ?_; rintro e Wz ⟨rfl, hqq⟩; obtain rfl := hqq.symm)
    | (go_at_call 115; refine Calls.mono HZ.out ?_; rintro e Wz ⟨rfl, hqq⟩; obtain rfl := hqq.symm))
  clear HC HZ c0 c1 R HX
  rw [rounds_succ]
  obtain ⟨X8, hX, rX, bX⟩ := laidF X7 [.func (.func 120) #[] #[], .func (.func 121) #[] #[], .func (.func 122) #[] #[], .func (.func 123) #[] #[]] rfl
  have HX : Hid (X8 = _) := hX
  have R : Hid (X7.rangeAt T 28 [.func (.func 120) #[] #[], .func (.func 121) #[] #[], .func (.func 122) #[] #[], .func (.func 123) #[] #[]]) := range_sub (Row.below HT.out B7.out HT.out.lt) 28 4 rfl
  have B8 : Hid (Below w.heap.size w X8) := B7.out.trans (bX.mono B7.out.size)
  have HC : Hid _ := con0_7 U X8 (Row.below HU.out B8.out HU.out.lt)
  have HZ : Hid _ := z_codeField_2 8 3 0 b X8 (Row.below HL.out B8.out HL.out.lt)
  have c0 := rX.cell 0 _ rfl
  have c1 := rX.cell 1 _ rfl
  clear hX rX bX
  go_wp2_with (first
    | (refine wpList_load_w rfl 103 (.tmp 15) rfl T 28 rfl [.func (.func 120) #[] #[], .func (.func 121) #[] #[], .func (.func 122) #[] #[], .func (.func 123) #[] #[]] _ R.out Tryz.underlying103 rfl info_fld ?_; simp only [Act.put, List.setIfInBounds_toArray, List.set_cons_zero, List.set_cons_succ])
    | (refine wpList_store_mid rfl 103 (.tmp 8) (.tmp 16) rfl X7.heap.size 0 [.func (.func 120) #[] #[], .func (.func 121) #[] #[], .func (.func 122) #[] #[], .func (.func 123) #[] #[]].toArray rfl rfl (Row.there (Row.new' (cs := [.nilFunc, .nilFunc, .nilFunc, .nilFunc]) rfl rfl) 0 _ (by decide)) info_fld (by kernel_rfl) ?_; simp only [Act.put]; change wpList _ _ _ _ _ (World.setCells (World.alloc X7 (Obj.cells #[.nilFunc, .nilFunc, .nilFunc, .nilFunc] 103)) X7.heap.size 0 [.func (.func 120) #[] #[], .func (.func 121) #[] #[], .func (.func 122) #[] #[], .func (.func 123) #[] #[]]); rw [← HX.out])
    | (go_at_call 70; refine Calls.mono HC.out ?_; rintro e Wz ⟨rfl, hqq⟩; obtain rfl := hqq.symm)
    | (go_at_call 121; refine Calls.mono HZ.out ?_; rintro e Wz ⟨rfl, hqq⟩; obtain rfl := hqq.symm))
  clear HC HZ c0 c1 R HX
  rw [rounds_succ]
  obtain ⟨X9, hX, rX, bX⟩ := laidF X8 [.func (.func 124) #[] #[], .func (.func 126) #[] #[], .func (.func 127) #[] #[], .func (.func 130) #[] #[]] rfl
  have HX : Hid (X9 = _) := hX
  have R : Hid (X8.rangeAt T 32 [.func (.func 124) #[] #[], .func (.func 126) #[] #[], .func (.func 127) #[] #[], .func (.func 130) #[] #[]]) := range_sub (Row.below HT.out B8.out HT.out.lt) 32 4 rfl
  have B9 : Hid (Below w.heap.size w X9) := B8.out.trans (bX.mono B8.out.size)
  have HC : Hid _ := con0_8 U X9 (Row.below HU.out B9.out HU.out.lt)
  have HZ : Hid _ := z_partsField_2 8 3 0 b X9 (Row.below HL.out B9.out HL.out.lt)
  have c0 := rX.cell 0 _ rfl
  have c1 := rX.cell 1 _ rfl
  clear hX rX bX
  go_wp2_with (first
    | (refine wpList_load_w rfl 103 (.tmp 15) rfl T 32 rfl [.func (.func 124) #[] #[], .func (.func 126) #[] #[], .func (.func 127) #[] #[], .func (.func 130) #[] #[]] _ R.out Tryz.underlying103 rfl info_fld ?_; simp only [Act.put, List.setIfInBounds_toArray, List.set_cons_zero, List.set_cons_succ])
    | (refine wpList_store_mid rfl 103 (.tmp 8) (.tmp 16) rfl X8.heap.size 0 [.func (.func 124) #[] #[], .func (.func 126) #[] #[], .func (.func 127) #[] #[], .func (.func 130) #[] #[]].toArray rfl rfl (Row.there (Row.new' (cs := [.nilFunc, .nilFunc, .nilFunc, .nilFunc]) rfl rfl) 0 _ (by decide)) info_fld (by kernel_rfl) ?_; simp only [Act.put]; change wpList _ _ _ _ _ (World.setCells (World.alloc X8 (Obj.cells #[.nilFunc, .nilFunc, .nilFunc, .nilFunc] 103)) X8.heap.size 0 [.func (.func 124) #[] #[], .func (.func 126) #[] #[], .func (.func 127) #[] #[], .func (.func 130) #[] #[]]); rw [← HX.out])
    | (go_at_call 70; refine Calls.mono HC.out ?_; rintro e Wz ⟨rfl, hqq⟩; obtain rfl := hqq.symm)
    | (go_at_call 126; refine Calls.mono HZ.out ?_; rintro e Wz ⟨rfl, hqq⟩; obtain rfl := hqq.symm))
  clear HC HZ c0 c1 R HX
  rw [rounds_succ]
  go_wp2_with fail
  go_ret
  exact ⟨rfl, B9.out⟩

set_option maxRecDepth 100000 in
set_option maxHeartbeats 4000000 in
theorem fits_E (A : Option Addr) (cap : Nat) (T U b : Nat) (w : World) (hT : Row w T etab 80) (hU : Row w U [.int .i64 0, .int .i64 1, .int .i64 6] 3) (hb : Row w b (en 2 258 (.slice A 1 cap)) tEnt) :
    Calls Tryz.prog 21 #[.slice (some ⟨T, 0, none⟩) 7 7, .pointer (some ⟨b, 0, none⟩), .slice (some ⟨U, 0, none⟩) 3 3] w fun e w' => e = .returned (.bool true) ∧ Below w.heap.size w w' := by
  have HT : Hid (Row w T etab 80) := hT
  have HU : Hid (Row w U [.int .i64 0, .int .i64 1, .int .i64 6] 3) := hU
  have HL : Hid (Row w b (en 2 258 (.slice A 1 cap)) tEnt) := hb
  clear hT hU hb
  have B0 : Hid (Below w.heap.size w w) := Below.refl _ _
  go_enter Tryz.func21, Tryz.ntmps21
  go_wp2_with fail
  refine wp_loop_rounds 8 ?_
  rw [rounds_succ]
  obtain ⟨X1, hX, rX, bX⟩ := laidFG w [.func (.func 27) #[] #[], .func (.func 28) #[] #[], .func (.func 29) #[] #[], .func (.func 31) #[] #[]] rfl
  have HX : Hid (X1 = _) := hX
  have R : Hid (w.rangeAt T 0 [.func (.func 27) #[] #[], .func (.func 28) #[] #[], .func (.func 29) #[] #[], .func (.func 31) #[] #[]]) := range_sub (Row.below HT.out B0.out HT.out.lt) 0 4 rfl
  have B1 : Hid (Below w.heap.size w X1) := B0.out.trans (bX.mono B0.out.size)
  have HC : Hid _ := conE_0 U X1 (Row.below HU.out B1.out HU.out.lt)
  have HZ : Hid _ := anyL (.pointer (some ⟨b, 0, none⟩)) X1
  have c0 := rX.cell 0 _ rfl
  have c1 := rX.cell 1 _ rfl
  clear hX rX bX
  go_wp2_with (first
    | (refine wpList_load_w rfl 80 (.tmp 15) rfl T 0 rfl [.func (.func 27) #[] #[], .func (.func 28) #[] #[], .func (.func 29) #[] #[], .func (.func 31) #[] #[]] _ R.out Tryz.underlying80 rfl info_fldG ?_; simp only [Act.put, List.setIfInBounds_toArray, List.set_cons_zero, List.set_cons_succ])
    | (refine wpList_store_mid rfl 80 (.tmp 8) (.tmp 16) rfl w.heap.size 0 [.func (.func 27) #[] #[], .func (.func 28) #[] #[], .func (.func 29) #[] #[], .func (.func 31) #[] #[]].toArray rfl rfl (Row.there (Row.new' (cs := [.nilFunc, .nilFunc, .nilFunc, .nilFunc]) rfl rfl) 0 _ (by decide)) info_fldG (by kernel_rfl) ?_; simp only [Act.put]; change wpList _ _ _ _ _ (World.setCells (World.alloc w (Obj.cells #[.nilFunc, .nilFunc, .nilFunc, .nilFunc] 80)) w.heap.size 0 [.func (.func 27) #[] #[], .func (.func 28) #[] #[], .func (.func 29) #[] #[], .func (.func 31) #[] #[]]); rw [← HX.out])
    | (go_at_call 70; refine Calls.mono HC.out ?_; rintro e Wz ⟨rfl, hqq⟩; obtain rfl := hqq.symm)
    | (go_at_call 27; refine Calls.mono HZ.out ?_; rintro e Wz ⟨rfl, hqq⟩; obtain rfl := hqq.symm))
  clear HC HZ c0 c1 R HX
  rw [rounds_succ]
  obtain ⟨X2, hX, rX, bX⟩ := laidFG X1 [.func (.func 33) #[] #[], .func (.func 35) #[] #[], .func (.func 36) #[] #[], .func (.func 38) #[] #[]] rfl
  have HX : Hid (X2 = _) := hX
  have R : Hid (X1.rangeAt T 4 [.func (.func 33) #[] #[], .func (.func 35) #[] #[], .func (.func 36) #[] #[], .func (.func 38) #[] #[]]) := range_sub (Row.below HT.out B1.out HT.out.lt) 4 4 rfl
  have B2 : Hid (Below w.heap.size w X2) := B1.out.trans (bX.mono B1.out.size)
  have HC : Hid _ := conE_1 U X2 (Row.below HU.out B2.out HU.out.lt)
  have HZ : Hid _ := z_entryFields_4 2 (.slice A 1 cap) b X2 (Row.below HL.out B2.out HL.out.lt)
  have c0 := rX.cell 0 _ rfl
  have c1 := rX.cell 1 _ rfl
  clear hX rX bX
  go_wp2_with (first
    | (refine wpList_load_w rfl 80 (.tmp 15) rfl T 4 rfl [.func (.func 33) #[] #[], .func (.func 35) #[] #[], .func (.func 36) #[] #[], .func (.func 38) #[] #[]] _ R.out Tryz.underlying80 rfl info_fldG ?_; simp only [Act.put, List.setIfInBounds_toArray, List.set_cons_zero, List.set_cons_succ])
    | (refine wpList_store_mid rfl 80 (.tmp 8) (.tmp 16) rfl X1.heap.size 0 [.func (.func 33) #[] #[], .func (.func 35) #[] #[], .func (.func 36) #[] #[], .func (.func 38) #[] #[]].toArray rfl rfl (Row.there (Row.new' (cs := [.nilFunc, .nilFunc, .nilFunc, .nilFunc]) rfl rfl) 0 _ (by decide)) info_fldG (by kernel_rfl) ?_; simp only [Act.put]; change wpList _ _ _ _ _ (World.setCells (World.alloc X1 (Obj.cells #[.nilFunc, .nilFunc, .nilFunc, .nilFunc] 80)) X1.heap.size 0 [.func (.func 33) #[] #[], .func (.func 35) #[] #[], .func (.func 36) #[] #[], .func (.func 38) #[] #[]]); rw [← HX.out])
    | (go_at_call 70; refine Calls.mono HC.out ?_; rintro e Wz ⟨rfl, hqq⟩; obtain rfl := hqq.symm)
    | (go_at_call 33; refine Calls.mono HZ.out ?_; rintro e Wz ⟨rfl, hqq⟩; obtain rfl := hqq.symm))
  clear HC HZ c0 c1 R HX
  rw [rounds_succ]
  obtain ⟨X3, hX, rX, bX⟩ := laidFG X2 [.func (.func 40) #[] #[], .func (.func 42) #[] #[], .func (.func 43) #[] #[], .func (.func 44) #[] #[]] rfl
  have HX : Hid (X3 = _) := hX
  have R : Hid (X2.rangeAt T 8 [.func (.func 40) #[] #[], .func (.func 42) #[] #[], .func (.func 43) #[] #[], .func (.func 44) #[] #[]]) := range_sub (Row.below HT.out B2.out HT.out.lt) 8 4 rfl
  have B3 : Hid (Below w.heap.size w X3) := B2.out.trans (bX.mono B2.out.size)
  have HC : Hid _ := conE_2 U X3 (Row.below HU.out B3.out HU.out.lt)
  have HZ : Hid _ := z_entryFields_9 2 258 (.slice A 1 cap) b X3 (Row.below HL.out B3.out HL.out.lt)
  have c0 := rX.cell 0 _ rfl
  have c1 := rX.cell 1 _ rfl
  clear hX rX bX
  go_wp2_with (first
    | (refine wpList_load_w rfl 80 (.tmp 15) rfl T 8 rfl [.func (.func 40) #[] #[], .func (.func 42) #[] #[], .func (.func 43) #[] #[], .func (.func 44) #[] #[]] _ R.out Tryz.underlying80 rfl info_fldG ?_; simp only [Act.put, List.setIfInBounds_toArray, List.set_cons_zero, List.set_cons_succ])
    | (refine wpList_store_mid rfl 80 (.tmp 8) (.tmp 16) rfl X2.heap.size 0 [.func (.func 40) #[] #[], .func (.func 42) #[] #[], .func (.func 43) #[] #[], .func (.func 44) #[] #[]].toArray rfl rfl (Row.there (Row.new' (cs := [.nilFunc, .nilFunc, .nilFunc, .nilFunc]) rfl rfl) 0 _ (by decide)) info_fldG (by kernel_rfl) ?_; simp only [Act.put]; change wpList _ _ _ _ _ (World.setCells (World.alloc X2 (Obj.cells #[.nilFunc, .nilFunc, .nilFunc, .nilFunc] 80)) X2.heap.size 0 [.func (.func 40) #[] #[], .func (.func 42) #[] #[], .func (.func 43) #[] #[], .func (.func 44) #[] #[]]); rw [← HX.out])
    | (go_at_call 70; refine Calls.mono HC.out ?_; rintro e Wz ⟨rfl, hqq⟩; obtain rfl := hqq.symm)
    | (go_at_call 42; refine Calls.mono HZ.out ?_; rintro e Wz ⟨rfl, hqq⟩; obtain rfl := hqq.symm))
  clear HC HZ c0 c1 R HX
  rw [rounds_succ]
  obtain ⟨X4, hX, rX, bX⟩ := laidFG X3 [.func (.func 27) #[] #[], .func (.func 45) #[] #[], .func (.func 46) #[] #[], .func (.func 47) #[] #[]] rfl
  have HX : Hid (X4 = _) := hX
  have R : Hid (X3.rangeAt T 12 [.func (.func 27) #[] #[], .func (.func 45) #[] #[], .func (.func 46) #[] #[], .func (.func 47) #[] #[]]) := range_sub (Row.below HT.out B3.out HT.out.lt) 12 4 rfl
  have B4 : Hid (Below w.heap.size w X4) := B3.out.trans (bX.mono B3.out.size)
  have HC : Hid _ := conE_3 U X4 (Row.below HU.out B4.out HU.out.lt)
  have HZ : Hid _ := z_entryFields_12 2 258 (.slice A 1 cap) b X4 (Row.below HL.out B4.out HL.out.lt)
  have c0 := rX.cell 0 _ rfl
  have c1 := rX.cell 1 _ rfl
  clear hX rX bX
  go_wp2_with (first
    | (refine wpList_load_w rfl 80 (.tmp 15) rfl T 12 rfl [.func (.func 27) #[] #[], .func (.func 45) #[] #[], .func (.func 46) #[] #[], .func (.func 47) #[] #[]] _ R.out Tryz.underlying80 rfl info_fldG ?_; simp only [Act.put, List.setIfInBounds_toArray, List.set_cons_zero, List.set_cons_succ])
    | (refine wpList_store_mid rfl 80 (.tmp 8) (.tmp 16) rfl X3.heap.size 0 [.func (.func 27) #[] #[], .func (.func 45) #[] #[], .func (.func 46) #[] #[], .func (.func 47) #[] #[]].toArray rfl rfl (Row.there (Row.new' (cs := [.nilFunc, .nilFunc, .nilFunc, .nilFunc]) rfl rfl) 0 _ (by decide)) info_fldG (by kernel_rfl) ?_; simp only [Act.put]; change wpList _ _ _ _ _ (World.setCells (World.alloc X3 (Obj.cells #[.nilFunc, .nilFunc, .nilFunc, .nilFunc] 80)) X3.heap.size 0 [.func (.func 27) #[] #[], .func (.func 45) #[] #[], .func (.func 46) #[] #[], .func (.func 47) #[] #[]]); rw [← HX.out])
    | (go_at_call 70; refine Calls.mono HC.out ?_; rintro e Wz ⟨rfl, hqq⟩; obtain rfl := hqq.symm)
    | (go_at_call 45; refine Calls.mono HZ.out ?_; rintro e Wz ⟨rfl, hqq⟩; obtain rfl := hqq.symm))
  clear HC HZ c0 c1 R HX
  rw [rounds_succ]
  obtain ⟨X5, hX, rX, bX⟩ := laidFG X4 [.func (.func 48) #[] #[], .func (.func 49) #[] #[], .func (.func 50) #[] #[], .func (.func 52) #[] #[]] rfl
  have HX : Hid (X5 = _) := hX
  have R : Hid (X4.rangeAt T 16 [.func (.func 48) #[] #[], .func (.func 49) #[] #[], .func (.func 50) #[] #[], .func (.func 52) #[] #[]]) := range_sub (Row.below HT.out B4.out HT.out.lt) 16 4 rfl
  have B5 : Hid (Below w.heap.size w X5) := B4.out.trans (bX.mono B4.out.size)
  have HC : Hid _ := conE_4 U X5 (Row.below HU.out B5.out HU.out.lt)
  have HZ : Hid _ := z_entryFields_16 2 258 (.slice A 1 cap) b X5 (Row.below HL.out B5.out HL.out.lt)
  have c0 := rX.cell 0 _ rfl
  have c1 := rX.cell 1 _ rfl
  clear hX rX bX
  go_wp2_with (first
    | (refine wpList_load_w rfl 80 (.tmp 15) rfl T 16 rfl [.func (.func 48) #[] #[], .func (.func 49) #[] #[], .func (.func 50) #[] #[], .func (.func 52) #[] #[]] _ R.out Tryz.underlying80 rfl info_fldG ?_; simp only [Act.put, List.setIfInBounds_toArray, List.set_cons_zero, List.set_cons_succ])
    | (refine wpList_store_mid rfl 80 (.tmp 8) (.tmp 16) rfl X4.heap.size 0 [.func (.func 48) #[] #[], .func (.func 49) #[] #[], .func (.func 50) #[] #[], .func (.func 52) #[] #[]].toArray rfl rfl (Row.there (Row.new' (cs := [.nilFunc, .nilFunc, .nilFunc, .nilFunc]) rfl rfl) 0 _ (by decide)) info_fldG (by kernel_rfl) ?_; simp only [Act.put]; change wpList _ _ _ _ _ (World.setCells (World.alloc X4 (Obj.cells #[.nilFunc, .nilFunc, .nilFunc, .nilFunc] 80)) X4.heap.size 0 [.func (.func 48) #[] #[], .func (.func 49) #[] #[], .func (.func 50) #[] #[], .func (.func 52) #[] #[]]); rw [← HX.out])
    | (go_at_call 70; refine Calls.mono HC.out ?_; rintro e Wz ⟨rfl, hqq⟩; obtain rfl := hqq.symm)
    | (go_at_call 49; refine Calls.mono HZ.out ?_; rintro e Wz ⟨rfl, hqq⟩; obtain rfl := hqq.symm))
  clear HC HZ c0 c1 R HX
  rw [rounds_succ]
  obtain ⟨X6, hX, rX, bX⟩ := laidFG X5 [.func (.func 54) #[] #[], .func (.func 55) #[] #[], .func (.func 56) #[] #[], .func (.func 57) #[] #[]] rfl
  have HX : Hid (X6 = _) := hX
  have R : Hid (X5.rangeAt T 20 [.func (.func 54) #[] #[], .func (.func 55) #[] #[], .func (.func 56) #[] #[], .func (.func 57) #[] #[]]) := range_sub (Row.below HT.out B5.out HT.out.lt) 20 4 rfl
  have B6 : Hid (Below w.heap.size w X6) := B5.out.trans (bX.mono B5.out.size)
  have HC : Hid _ := conE_5 U X6 (Row.below HU.out B6.out HU.out.lt)
  have HZ : Hid _ := z_entryFields_20 2 258 (.slice A 1 cap) b X6 (Row.below HL.out B6.out HL.out.lt)
  have c0 := rX.cell 0 _ rfl
  have c1 := rX.cell 1 _ rfl
  clear hX rX bX
  go_wp2_with (first
    | (refine wpList_load_w rfl 80 (.tmp 15) rfl T 20 rfl [.func (.func 54) #[] #[], .func (.func 55) #[] #[], .func (.func 56) #[] #[], .func (.func 57) #[] #[]] _ R.out Tryz.underlying80 rfl info_fldG ?_; simp only [Act.put, List.setIfInBounds_toArray, List.set_cons_zero, List.set_cons_succ])
    | (refine wpList_store_mid rfl 80 (.tmp 8) (.tmp 16) rfl X5.heap.size 0 [.func (.func 54) #[] #[], .func (.func 55) #[] #[], .func (.func 56) #[] #[], .func (.func 57) #[] #[]].toArray rfl rfl (Row.there (Row.new' (cs := [.nilFunc, .nilFunc, .nilFunc, .nilFunc]) rfl rfl) 0 _ (by decide)) info_fldG (by kernel_rfl) ?_; simp only [Act.put]; change wpList _ _ _ _ _ (World.setCells (World.alloc X5 (Obj.cells #[.nilFunc, .nilFunc, .nilFunc, .nilFunc] 80)) X5.heap.size 0 [.func (.func 54) #[] #[], .func (.func 55) #[] #[], .func (.func 56) #[] #[], .func (.func 57) #[] #[]]); rw [← HX.out])
    | (go_at_call 70; refine Calls.mono HC.out ?_; rintro e Wz ⟨rfl, hqq⟩; obtain rfl := hqq.symm)
    | (go_at_call 55; refine Calls.mono HZ.out ?_; rintro e Wz ⟨rfl, hqq⟩; obtain rfl := hqq.symm))
  clear HC HZ c0 c1 R HX
  rw [rounds_succ]
  obtain ⟨X7, hX, rX, bX⟩ := laidFG X6 [.func (.func 58) #[] #[], .func (.func 59) #[] #[], .func (.func 60) #[] #[], .func (.func 62) #[] #[]] rfl
  have HX : Hid (X7 = _) := hX
  have R : Hid (X6.rangeAt T 24 [.func (.func 58) #[] #[], .func (.func 59) #[] #[], .func (.func 60) #[] #[], .func (.func 62) #[] #[]]) := range_sub (Row.below HT.out B6.out HT.out.lt) 24 4 rfl
  have B7 : Hid (Below w.heap.size w X7) := B6.out.trans (bX.mono B6.out.size)
  have HC : Hid _ := conE_6 U X7 (Row.below HU.out B7.out HU.out.lt)
  have HZ : Hid _ := z_entryFields_23 2 258 A cap b X7 (Row.below HL.out B7.out HL.out.lt)
  have c0 := rX.cell 0 _ rfl
  have c1 := rX.cell 1 _ rfl
  clear hX rX bX
  go_wp2_with (first
    | (refine wpList_load_w rfl 80 (.tmp 15) rfl T 24 rfl [.func (.func 58) #[] #[], .func (.func 59) #[] #[], .func (.func 60) #[] #[], .func (.func 62) #[] #[]] _ R.out Tryz.underlying80 rfl info_fldG ?_; simp only [Act.put, List.setIfInBounds_toArray, List.set_cons_zero, List.set_cons_succ])
    | (refine wpList_store_mid rfl 80 (.tmp 8) (.tmp 16) rfl X6.heap.size 0 [.func (.func 58) #[] #[], .func (.func 59) #[] #[], .func (.func 60) #[] #[], .func (.func 62) #[] #[]].toArray rfl rfl (Row.there (Row.new' (cs := [.nilFunc, .nilFunc, .nilFunc, .nilFunc]) rfl rfl) 0 _ (by decide)) info_fldG (by kernel_rfl) ?_; simp only [Act.put]; change wpList _ _ _ _ _ (World.setCells (World.alloc X6 (Obj.cells #[.nilFunc, .nilFunc, .nilFunc, .nilFunc] 80)) X6.heap.size 0 [.func (.func 58) #[] #[], .func (.func 59) #[] #[], .func (.func 60) #[] #[], .func (.func 62) #[] #[]]); rw [← HX.out])
    | (go_at_call 70; refine Calls.mono HC.out ?_; rintro e Wz ⟨rfl, hqq⟩; obtain rfl := hqq.symm)
    | (go_at_call 58; refine Calls.mono HZ.out ?_; rintro e Wz ⟨rfl, hqq⟩; obtain rfl := hqq.symm))
  clear HC HZ c0 c1 R HX
  rw [rounds_succ]
  go_wp2_with fail
  go_ret
  exact ⟨rfl, B7.out⟩

end Go.Proofs.YtaaehdlenigomaaGreat
