/-
  an entry of a kind that there is, that may not be: it does not fit.
-/
import Derived.Test.YtknabkoddickaaaGreatDoorIbP
namespace Go.Proofs.YtknabkoddickaaaGreatDoor
open Go Go.RowKit
open Sha

theorem f_entryFields_4 (k tm tk gs : Int) (sd rc : List (BitVec 8)) (am : List Nat) (v : Value) (b : Nat) (w : World) (hc : (decide (0 ≤ tm) && decide (tm ≤ 4611686018427387904)) = false) (h : En w b k sd tm tk rc am gs v) : Calls Tryz.prog 67 #[.pointer (some ⟨b, 0, none⟩)] w fun e w' => e = .returned (.bool false) ∧ w' = w := by
  have q := e_entryFields_4 k tm tk gs sd rc am v b w h
  rw [hc] at q
  exact q
theorem f_entryFields_8 (k tm tk gs : Int) (sd rc : List (BitVec 8)) (am : List Nat) (v : Value) (b : Nat) (w : World) (hc : (decide (0 ≤ tk) && decide (tk ≤ 63)) = false) (h : En w b k sd tm tk rc am gs v) : Calls Tryz.prog 74 #[.pointer (some ⟨b, 0, none⟩)] w fun e w' => e = .returned (.bool false) ∧ w' = w := by
  have q := e_entryFields_8 k tm tk gs sd rc am v b w h
  rw [hc] at q
  exact q
theorem f_entryFields_15 (k tm tk gs : Int) (sd rc : List (BitVec 8)) (am : List Nat) (v : Value) (b : Nat) (w : World) (hc : (!decide (am = (List.replicate 4 0))) = false) (h : En w b k sd tm tk rc am gs v) : Calls Tryz.prog 82 #[.pointer (some ⟨b, 0, none⟩)] w fun e w' => e = .returned (.bool false) ∧ w' = w := by
  have q := e_entryFields_15 k tm tk gs sd rc am v b w h
  rw [hc] at q
  exact q
theorem f_entryFields_19 (k tm tk gs : Int) (sd rc : List (BitVec 8)) (am : List Nat) (v : Value) (b : Nat) (w : World) (hc : (decide (0 ≤ gs) && decide (gs ≤ 1099511627776)) = false) (h : En w b k sd tm tk rc am gs v) : Calls Tryz.prog 88 #[.pointer (some ⟨b, 0, none⟩)] w fun e w' => e = .returned (.bool false) ∧ w' = w := by
  have q := e_entryFields_19 k tm tk gs sd rc am v b w h
  rw [hc] at q
  exact q
theorem f_entryFields_9 (k tm tk gs : Int) (sd rc : List (BitVec 8)) (am : List Nat) (v : Value) (b : Nat) (w : World) (hc : (tk == 0) = false) (h : En w b k sd tm tk rc am gs v) : Calls Tryz.prog 76 #[.pointer (some ⟨b, 0, none⟩)] w fun e w' => e = .returned (.bool false) ∧ w' = w := by
  have q := e_entryFields_9 k tm tk gs sd rc am v b w h
  rw [hc] at q
  exact q
theorem f_entryFields_12 (k tm tk gs : Int) (sd rc : List (BitVec 8)) (am : List Nat) (v : Value) (b : Nat) (w : World) (hc : (decide (rc = (List.replicate 20 0#8))) = false) (h : En w b k sd tm tk rc am gs v) : Calls Tryz.prog 79 #[.pointer (some ⟨b, 0, none⟩)] w fun e w' => e = .returned (.bool false) ∧ w' = w := by
  have q := e_entryFields_12 k tm tk gs sd rc am v b w h
  rw [hc] at q
  exact q
theorem f_entryFields_16 (k tm tk gs : Int) (sd rc : List (BitVec 8)) (am : List Nat) (v : Value) (b : Nat) (w : World) (hc : (decide (am = (List.replicate 4 0))) = false) (h : En w b k sd tm tk rc am gs v) : Calls Tryz.prog 83 #[.pointer (some ⟨b, 0, none⟩)] w fun e w' => e = .returned (.bool false) ∧ w' = w := by
  have q := e_entryFields_16 k tm tk gs sd rc am v b w h
  rw [hc] at q
  exact q
theorem f_entryFields_20 (k tm tk gs : Int) (sd rc : List (BitVec 8)) (am : List Nat) (v : Value) (b : Nat) (w : World) (hc : (gs == 0) = false) (h : En w b k sd tm tk rc am gs v) : Calls Tryz.prog 89 #[.pointer (some ⟨b, 0, none⟩)] w fun e w' => e = .returned (.bool false) ∧ w' = w := by
  have q := e_entryFields_20 k tm tk gs sd rc am v b w h
  rw [hc] at q
  exact q
theorem f_entryFields_23 (k tm tk gs : Int) (sd rc : List (BitVec 8)) (am : List Nat) (A : Option Addr) (n cap : Nat) (b : Nat) (w : World) (hc : (decide ((n : Int) ≤ 4096)) = false) (h : En w b k sd tm tk rc am gs (.slice A n cap)) : Calls Tryz.prog 92 #[.pointer (some ⟨b, 0, none⟩)] w fun e w' => e = .returned (.bool false) ∧ w' = w := by
  have q := e_entryFields_23 k tm tk gs sd rc am A n cap b w h
  rw [hc] at q
  exact q
theorem f_entryFields_24 (k tm tk gs : Int) (sd rc : List (BitVec 8)) (am : List Nat) (A : Option Addr) (n cap : Nat) (b : Nat) (w : World) (hc : ((n : Int) == 0) = false) (h : En w b k sd tm tk rc am gs (.slice A n cap)) : Calls Tryz.prog 93 #[.pointer (some ⟨b, 0, none⟩)] w fun e w' => e = .returned (.bool false) ∧ w' = w := by
  have q := e_entryFields_24 k tm tk gs sd rc am A n cap b w h
  rw [hc] at q
  exact q
set_option maxRecDepth 100000 in
set_option maxHeartbeats 8000000 in
theorem fitsN_1 (k tm tk gs : Int) (sd rc : List (BitVec 8)) (am : List Nat) (A : Option Addr) (n cap : Nat) (hn : ¬ ((decide (0 ≤ tm) && decide (tm ≤ 4611686018427387904)) = true ∧ (decide (0 ≤ tk) && decide (tk ≤ 63)) = true ∧ (!decide (am = (List.replicate 4 0))) = true ∧ (decide (0 ≤ gs) && decide (gs ≤ 1099511627776)) = true ∧ ((n : Int) == 0) = true)) (T U b : Nat) (w : World) (hT : Row w T etab 123) (hU : Row w U [.int .i64 0, .int .i64 1, .int .i64 2, .int .i64 3, .int .i64 4, .int .i64 5] 3) (hb : En w b k sd tm tk rc am gs (.slice A n cap)) :
    Calls Tryz.prog 60 #[.slice (some ⟨T, 0, none⟩) 7 7, .pointer (some ⟨b, 0, none⟩), .slice (some ⟨U, 0, none⟩) 6 6] w fun e w' => e = .returned (.bool false) ∧ Below w.heap.size w w' := by
  have HNF : Hid (¬ ((decide (0 ≤ tm) && decide (tm ≤ 4611686018427387904)) = true ∧ (decide (0 ≤ tk) && decide (tk ≤ 63)) = true ∧ (!decide (am = (List.replicate 4 0))) = true ∧ (decide (0 ≤ gs) && decide (gs ≤ 1099511627776)) = true ∧ ((n : Int) == 0) = true)) := hn
  have HT : Hid (Row w T etab 123) := hT
  have HU : Hid (Row w U [.int .i64 0, .int .i64 1, .int .i64 2, .int .i64 3, .int .i64 4, .int .i64 5] 3) := hU
  have HL : Hid (En w b k sd tm tk rc am gs (.slice A n cap)) := hb
  clear hT hU hb hn
  have B0 : Hid (Below w.heap.size w w) := Below.refl _ _
  go_enter Tryz.func60, Tryz.ntmps60
  go_wp2_with fail
  refine wp_loop_rounds 8 ?_
  rw [rounds_succ]
  obtain ⟨X1, hX, rX, bX⟩ := laidFG w [.func (.func 61) #[] #[], .func (.func 62) #[] #[], .func (.func 63) #[] #[], .func (.func 65) #[] #[]] rfl
  have HX : Hid (X1 = _) := hX
  have R : Hid (w.rangeAt T 0 [.func (.func 61) #[] #[], .func (.func 62) #[] #[], .func (.func 63) #[] #[], .func (.func 65) #[] #[]]) := range_sub (Row.below HT.out B0.out HT.out.lt) 0 4 rfl
  have B1 : Hid (Below w.heap.size w X1) := B0.out.trans (bX.mono B0.out.size)
  have HC : Hid _ := con1_0 U X1 (Row.below HU.out B1.out HU.out.lt)
  have HZ : Hid _ := anyL (.pointer (some ⟨b, 0, none⟩)) X1
  have c0 := rX.cell 0 _ rfl
  have c1 := rX.cell 1 _ rfl
  clear hX rX bX
  go_wp2_with (first
    | (refine wpList_load_w rfl 123 (.tmp 15) rfl T 0 rfl [.func (.func 61) #[] #[], .func (.func 62) #[] #[], .func (.func 63) #[] #[], .func (.func 65) #[] #[]] _ R.out Tryz.underlying123 rfl info_fldG ?_; simp only [Act.put, List.setIfInBounds_toArray, List.set_cons_zero, List.set_cons_succ])
    | (refine wpList_store_mid rfl 123 (.tmp 8) (.tmp 16) rfl w.heap.size 0 [.func (.func 61) #[] #[], .func (.func 62) #[] #[], .func (.func 63) #[] #[], .func (.func 65) #[] #[]].toArray rfl rfl (Row.there (Row.new' (cs := [.nilFunc, .nilFunc, .nilFunc, .nilFunc]) rfl rfl) 0 _ (by decide)) info_fldG (by kernel_rfl) ?_; simp only [Act.put]; change wpList _ _ _ _ _ (World.setCells (World.alloc w (Obj.cells #[.nilFunc, .nilFunc, .nilFunc, .nilFunc] 123)) w.heap.size 0 [.func (.func 61) #[] #[], .func (.func 62) #[] #[], .func (.func 63) #[] #[], .func (.func 65) #[] #[]]); rw [← HX.out])
    | (go_at_call 112; refine Calls.mono HC.out ?_; rintro e Wz ⟨rfl, hqq⟩; obtain rfl := hqq.symm)
    | (go_at_call 61; refine Calls.mono HZ.out ?_; rintro e Wz ⟨rfl, hqq⟩; obtain rfl := hqq.symm))
  clear HC HZ c0 c1 R HX
  rw [rounds_succ]
  obtain ⟨X2, hX, rX, bX⟩ := laidFG X1 [.func (.func 67) #[] #[], .func (.func 69) #[] #[], .func (.func 70) #[] #[], .func (.func 72) #[] #[]] rfl
  have HX : Hid (X2 = _) := hX
  have R : Hid (X1.rangeAt T 4 [.func (.func 67) #[] #[], .func (.func 69) #[] #[], .func (.func 70) #[] #[], .func (.func 72) #[] #[]]) := range_sub (Row.below HT.out B1.out HT.out.lt) 4 4 rfl
  have B2 : Hid (Below w.heap.size w X2) := B1.out.trans (bX.mono B1.out.size)
  have HC : Hid _ := con1_1 U X2 (Row.below HU.out B2.out HU.out.lt)
  rcases Bool.eq_false_or_eq_true ((decide (0 ≤ tm) && decide (tm ≤ 4611686018427387904))) with hz4 | hz4
  rotate_left
  · have CF : Hid ((decide (0 ≤ tm) && decide (tm ≤ 4611686018427387904)) = false) := hz4
    have HZ : Hid _ := f_entryFields_4 k tm tk gs sd rc am (.slice A n cap) b X2 CF.out (HL.out.below B2.out)
    clear hz4 CF HNF
    have c0 := rX.cell 0 _ rfl
    have c1 := rX.cell 1 _ rfl
    clear hX rX bX
    go_wp2_with (first
      | (refine wpList_load_w rfl 123 (.tmp 15) rfl T 4 rfl [.func (.func 67) #[] #[], .func (.func 69) #[] #[], .func (.func 70) #[] #[], .func (.func 72) #[] #[]] _ R.out Tryz.underlying123 rfl info_fldG ?_; simp only [Act.put, List.setIfInBounds_toArray, List.set_cons_zero, List.set_cons_succ])
      | (refine wpList_store_mid rfl 123 (.tmp 8) (.tmp 16) rfl X1.heap.size 0 [.func (.func 67) #[] #[], .func (.func 69) #[] #[], .func (.func 70) #[] #[], .func (.func 72) #[] #[]].toArray rfl rfl (Row.there (Row.new' (cs := [.nilFunc, .nilFunc, .nilFunc, .nilFunc]) rfl rfl) 0 _ (by decide)) info_fldG (by kernel_rfl) ?_; simp only [Act.put]; change wpList _ _ _ _ _ (World.setCells (World.alloc X1 (Obj.cells #[.nilFunc, .nilFunc, .nilFunc, .nilFunc] 123)) X1.heap.size 0 [.func (.func 67) #[] #[], .func (.func 69) #[] #[], .func (.func 70) #[] #[], .func (.func 72) #[] #[]]); rw [← HX.out])
      | (go_at_call 112; refine Calls.mono HC.out ?_; rintro e Wz ⟨rfl, hqq⟩; obtain rfl := hqq.symm)
      | (go_at_call 67; refine Calls.mono HZ.out ?_; rintro e Wz ⟨rfl, hqq⟩; obtain rfl := hqq.symm))
    go_ret
    exact ⟨rfl, B2.out⟩
  have C4 : Hid ((decide (0 ≤ tm) && decide (tm ≤ 4611686018427387904)) = true) := hz4
  clear hz4
  have HZ : Hid _ := t_entryFields_4 k tm tk gs sd rc am (.slice A n cap) b X2 C4.out (HL.out.below B2.out)
  have c0 := rX.cell 0 _ rfl
  have c1 := rX.cell 1 _ rfl
  clear hX rX bX
  go_wp2_with (first
    | (refine wpList_load_w rfl 123 (.tmp 15) rfl T 4 rfl [.func (.func 67) #[] #[], .func (.func 69) #[] #[], .func (.func 70) #[] #[], .func (.func 72) #[] #[]] _ R.out Tryz.underlying123 rfl info_fldG ?_; simp only [Act.put, List.setIfInBounds_toArray, List.set_cons_zero, List.set_cons_succ])
    | (refine wpList_store_mid rfl 123 (.tmp 8) (.tmp 16) rfl X1.heap.size 0 [.func (.func 67) #[] #[], .func (.func 69) #[] #[], .func (.func 70) #[] #[], .func (.func 72) #[] #[]].toArray rfl rfl (Row.there (Row.new' (cs := [.nilFunc, .nilFunc, .nilFunc, .nilFunc]) rfl rfl) 0 _ (by decide)) info_fldG (by kernel_rfl) ?_; simp only [Act.put]; change wpList _ _ _ _ _ (World.setCells (World.alloc X1 (Obj.cells #[.nilFunc, .nilFunc, .nilFunc, .nilFunc] 123)) X1.heap.size 0 [.func (.func 67) #[] #[], .func (.func 69) #[] #[], .func (.func 70) #[] #[], .func (.func 72) #[] #[]]); rw [← HX.out])
    | (go_at_call 112; refine Calls.mono HC.out ?_; rintro e Wz ⟨rfl, hqq⟩; obtain rfl := hqq.symm)
    | (go_at_call 67; refine Calls.mono HZ.out ?_; rintro e Wz ⟨rfl, hqq⟩; obtain rfl := hqq.symm))
  clear HC HZ c0 c1 R HX
  rw [rounds_succ]
  obtain ⟨X3, hX, rX, bX⟩ := laidFG X2 [.func (.func 74) #[] #[], .func (.func 76) #[] #[], .func (.func 77) #[] #[], .func (.func 78) #[] #[]] rfl
  have HX : Hid (X3 = _) := hX
  have R : Hid (X2.rangeAt T 8 [.func (.func 74) #[] #[], .func (.func 76) #[] #[], .func (.func 77) #[] #[], .func (.func 78) #[] #[]]) := range_sub (Row.below HT.out B2.out HT.out.lt) 8 4 rfl
  have B3 : Hid (Below w.heap.size w X3) := B2.out.trans (bX.mono B2.out.size)
  have HC : Hid _ := con1_2 U X3 (Row.below HU.out B3.out HU.out.lt)
  rcases Bool.eq_false_or_eq_true ((decide (0 ≤ tk) && decide (tk ≤ 63))) with hz8 | hz8
  rotate_left
  · have CF : Hid ((decide (0 ≤ tk) && decide (tk ≤ 63)) = false) := hz8
    have HZ : Hid _ := f_entryFields_8 k tm tk gs sd rc am (.slice A n cap) b X3 CF.out (HL.out.below B3.out)
    clear hz8 CF HNF
    have c0 := rX.cell 0 _ rfl
    have c1 := rX.cell 1 _ rfl
    clear hX rX bX
    go_wp2_with (first
      | (refine wpList_load_w rfl 123 (.tmp 15) rfl T 8 rfl [.func (.func 74) #[] #[], .func (.func 76) #[] #[], .func (.func 77) #[] #[], .func (.func 78) #[] #[]] _ R.out Tryz.underlying123 rfl info_fldG ?_; simp only [Act.put, List.setIfInBounds_toArray, List.set_cons_zero, List.set_cons_succ])
      | (refine wpList_store_mid rfl 123 (.tmp 8) (.tmp 16) rfl X2.heap.size 0 [.func (.func 74) #[] #[], .func (.func 76) #[] #[], .func (.func 77) #[] #[], .func (.func 78) #[] #[]].toArray rfl rfl (Row.there (Row.new' (cs := [.nilFunc, .nilFunc, .nilFunc, .nilFunc]) rfl rfl) 0 _ (by decide)) info_fldG (by kernel_rfl) ?_; simp only [Act.put]; change wpList _ _ _ _ _ (World.setCells (World.alloc X2 (Obj.cells #[.nilFunc, .nilFunc, .nilFunc, .nilFunc] 123)) X2.heap.size 0 [.func (.func 74) #[] #[], .func (.func 76) #[] #[], .func (.func 77) #[] #[], .func (.func 78) #[] #[]]); rw [← HX.out])
      | (go_at_call 112; refine Calls.mono HC.out ?_; rintro e Wz ⟨rfl, hqq⟩; obtain rfl := hqq.symm)
      | (go_at_call 74; refine Calls.mono HZ.out ?_; rintro e Wz ⟨rfl, hqq⟩; obtain rfl := hqq.symm))
    go_ret
    exact ⟨rfl, B3.out⟩
  have C8 : Hid ((decide (0 ≤ tk) && decide (tk ≤ 63)) = true) := hz8
  clear hz8
  have HZ : Hid _ := t_entryFields_8 k tm tk gs sd rc am (.slice A n cap) b X3 C8.out (HL.out.below B3.out)
  have c0 := rX.cell 0 _ rfl
  have c1 := rX.cell 1 _ rfl
  clear hX rX bX
  go_wp2_with (first
    | (refine wpList_load_w rfl 123 (.tmp 15) rfl T 8 rfl [.func (.func 74) #[] #[], .func (.func 76) #[] #[], .func (.func 77) #[] #[], .func (.func 78) #[] #[]] _ R.out Tryz.underlying123 rfl info_fldG ?_; simp only [Act.put, List.setIfInBounds_toArray, List.set_cons_zero, List.set_cons_succ])
    | (refine wpList_store_mid rfl 123 (.tmp 8) (.tmp 16) rfl X2.heap.size 0 [.func (.func 74) #[] #[], .func (.func 76) #[] #[], .func (.func 77) #[] #[], .func (.func 78) #[] #[]].toArray rfl rfl (Row.there (Row.new' (cs := [.nilFunc, .nilFunc, .nilFunc, .nilFunc]) rfl rfl) 0 _ (by decide)) info_fldG (by kernel_rfl) ?_; simp only [Act.put]; change wpList _ _ _ _ _ (World.setCells (World.alloc X2 (Obj.cells #[.nilFunc, .nilFunc, .nilFunc, .nilFunc] 123)) X2.heap.size 0 [.func (.func 74) #[] #[], .func (.func 76) #[] #[], .func (.func 77) #[] #[], .func (.func 78) #[] #[]]); rw [← HX.out])
    | (go_at_call 112; refine Calls.mono HC.out ?_; rintro e Wz ⟨rfl, hqq⟩; obtain rfl := hqq.symm)
    | (go_at_call 74; refine Calls.mono HZ.out ?_; rintro e Wz ⟨rfl, hqq⟩; obtain rfl := hqq.symm))
  clear HC HZ c0 c1 R HX
  rw [rounds_succ]
  obtain ⟨X4, hX, rX, bX⟩ := laidFG X3 [.func (.func 61) #[] #[], .func (.func 79) #[] #[], .func (.func 80) #[] #[], .func (.func 81) #[] #[]] rfl
  have HX : Hid (X4 = _) := hX
  have R : Hid (X3.rangeAt T 12 [.func (.func 61) #[] #[], .func (.func 79) #[] #[], .func (.func 80) #[] #[], .func (.func 81) #[] #[]]) := range_sub (Row.below HT.out B3.out HT.out.lt) 12 4 rfl
  have B4 : Hid (Below w.heap.size w X4) := B3.out.trans (bX.mono B3.out.size)
  have HC : Hid _ := con1_3 U X4 (Row.below HU.out B4.out HU.out.lt)
  have HZ : Hid _ := anyL (.pointer (some ⟨b, 0, none⟩)) X4
  have c0 := rX.cell 0 _ rfl
  have c1 := rX.cell 1 _ rfl
  clear hX rX bX
  go_wp2_with (first
    | (refine wpList_load_w rfl 123 (.tmp 15) rfl T 12 rfl [.func (.func 61) #[] #[], .func (.func 79) #[] #[], .func (.func 80) #[] #[], .func (.func 81) #[] #[]] _ R.out Tryz.underlying123 rfl info_fldG ?_; simp only [Act.put, List.setIfInBounds_toArray, List.set_cons_zero, List.set_cons_succ])
    | (refine wpList_store_mid rfl 123 (.tmp 8) (.tmp 16) rfl X3.heap.size 0 [.func (.func 61) #[] #[], .func (.func 79) #[] #[], .func (.func 80) #[] #[], .func (.func 81) #[] #[]].toArray rfl rfl (Row.there (Row.new' (cs := [.nilFunc, .nilFunc, .nilFunc, .nilFunc]) rfl rfl) 0 _ (by decide)) info_fldG (by kernel_rfl) ?_; simp only [Act.put]; change wpList _ _ _ _ _ (World.setCells (World.alloc X3 (Obj.cells #[.nilFunc, .nilFunc, .nilFunc, .nilFunc] 123)) X3.heap.size 0 [.func (.func 61) #[] #[], .func (.func 79) #[] #[], .func (.func 80) #[] #[], .func (.func 81) #[] #[]]); rw [← HX.out])
    | (go_at_call 112; refine Calls.mono HC.out ?_; rintro e Wz ⟨rfl, hqq⟩; obtain rfl := hqq.symm)
    | (go_at_call 61; refine Calls.mono HZ.out ?_; rintro e Wz ⟨rfl, hqq⟩; obtain rfl := hqq.symm))
  clear HC HZ c0 c1 R HX
  rw [rounds_succ]
  obtain ⟨X5, hX, rX, bX⟩ := laidFG X4 [.func (.func 82) #[] #[], .func (.func 83) #[] #[], .func (.func 84) #[] #[], .func (.func 86) #[] #[]] rfl
  have HX : Hid (X5 = _) := hX
  have R : Hid (X4.rangeAt T 16 [.func (.func 82) #[] #[], .func (.func 83) #[] #[], .func (.func 84) #[] #[], .func (.func 86) #[] #[]]) := range_sub (Row.below HT.out B4.out HT.out.lt) 16 4 rfl
  have B5 : Hid (Below w.heap.size w X5) := B4.out.trans (bX.mono B4.out.size)
  have HC : Hid _ := con1_4 U X5 (Row.below HU.out B5.out HU.out.lt)
  rcases Bool.eq_false_or_eq_true ((!decide (am = (List.replicate 4 0)))) with hz15 | hz15
  rotate_left
  · have CF : Hid ((!decide (am = (List.replicate 4 0))) = false) := hz15
    have HZ : Hid _ := f_entryFields_15 k tm tk gs sd rc am (.slice A n cap) b X5 CF.out (HL.out.below B5.out)
    clear hz15 CF HNF
    have c0 := rX.cell 0 _ rfl
    have c1 := rX.cell 1 _ rfl
    clear hX rX bX
    go_wp2_with (first
      | (refine wpList_load_w rfl 123 (.tmp 15) rfl T 16 rfl [.func (.func 82) #[] #[], .func (.func 83) #[] #[], .func (.func 84) #[] #[], .func (.func 86) #[] #[]] _ R.out Tryz.underlying123 rfl info_fldG ?_; simp only [Act.put, List.setIfInBounds_toArray, List.set_cons_zero, List.set_cons_succ])
      | (refine wpList_store_mid rfl 123 (.tmp 8) (.tmp 16) rfl X4.heap.size 0 [.func (.func 82) #[] #[], .func (.func 83) #[] #[], .func (.func 84) #[] #[], .func (.func 86) #[] #[]].toArray rfl rfl (Row.there (Row.new' (cs := [.nilFunc, .nilFunc, .nilFunc, .nilFunc]) rfl rfl) 0 _ (by decide)) info_fldG (by kernel_rfl) ?_; simp only [Act.put]; change wpList _ _ _ _ _ (World.setCells (World.alloc X4 (Obj.cells #[.nilFunc, .nilFunc, .nilFunc, .nilFunc] 123)) X4.heap.size 0 [.func (.func 82) #[] #[], .func (.func 83) #[] #[], .func (.func 84) #[] #[], .func (.func 86) #[] #[]]); rw [← HX.out])
      | (go_at_call 112; refine Calls.mono HC.out ?_; rintro e Wz ⟨rfl, hqq⟩; obtain rfl := hqq.symm)
      | (go_at_call 82; refine Calls.mono HZ.out ?_; rintro e Wz ⟨rfl, hqq⟩; obtain rfl := hqq.symm))
    go_ret
    exact ⟨rfl, B5.out⟩
  have C15 : Hid ((!decide (am = (List.replicate 4 0))) = true) := hz15
  clear hz15
  have HZ : Hid _ := t_entryFields_15 k tm tk gs sd rc am (.slice A n cap) b X5 C15.out (HL.out.below B5.out)
  have c0 := rX.cell 0 _ rfl
  have c1 := rX.cell 1 _ rfl
  clear hX rX bX
  go_wp2_with (first
    | (refine wpList_load_w rfl 123 (.tmp 15) rfl T 16 rfl [.func (.func 82) #[] #[], .func (.func 83) #[] #[], .func (.func 84) #[] #[], .func (.func 86) #[] #[]] _ R.out Tryz.underlying123 rfl info_fldG ?_; simp only [Act.put, List.setIfInBounds_toArray, List.set_cons_zero, List.set_cons_succ])
    | (refine wpList_store_mid rfl 123 (.tmp 8) (.tmp 16) rfl X4.heap.size 0 [.func (.func 82) #[] #[], .func (.func 83) #[] #[], .func (.func 84) #[] #[], .func (.func 86) #[] #[]].toArray rfl rfl (Row.there (Row.new' (cs := [.nilFunc, .nilFunc, .nilFunc, .nilFunc]) rfl rfl) 0 _ (by decide)) info_fldG (by kernel_rfl) ?_; simp only [Act.put]; change wpList _ _ _ _ _ (World.setCells (World.alloc X4 (Obj.cells #[.nilFunc, .nilFunc, .nilFunc, .nilFunc] 123)) X4.heap.size 0 [.func (.func 82) #[] #[], .func (.func 83) #[] #[], .func (.func 84) #[] #[], .func (.func 86) #[] #[]]); rw [← HX.out])
    | (go_at_call 112; refine Calls.mono HC.out ?_; rintro e Wz ⟨rfl, hqq⟩; obtain rfl := hqq.symm)
    | (go_at_call 82; refine Calls.mono HZ.out ?_; rintro e Wz ⟨rfl, hqq⟩; obtain rfl := hqq.symm))
  clear HC HZ c0 c1 R HX
  rw [rounds_succ]
  obtain ⟨X6, hX, rX, bX⟩ := laidFG X5 [.func (.func 88) #[] #[], .func (.func 89) #[] #[], .func (.func 90) #[] #[], .func (.func 91) #[] #[]] rfl
  have HX : Hid (X6 = _) := hX
  have R : Hid (X5.rangeAt T 20 [.func (.func 88) #[] #[], .func (.func 89) #[] #[], .func (.func 90) #[] #[], .func (.func 91) #[] #[]]) := range_sub (Row.below HT.out B5.out HT.out.lt) 20 4 rfl
  have B6 : Hid (Below w.heap.size w X6) := B5.out.trans (bX.mono B5.out.size)
  have HC : Hid _ := con1_5 U X6 (Row.below HU.out B6.out HU.out.lt)
  rcases Bool.eq_false_or_eq_true ((decide (0 ≤ gs) && decide (gs ≤ 1099511627776))) with hz19 | hz19
  rotate_left
  · have CF : Hid ((decide (0 ≤ gs) && decide (gs ≤ 1099511627776)) = false) := hz19
    have HZ : Hid _ := f_entryFields_19 k tm tk gs sd rc am (.slice A n cap) b X6 CF.out (HL.out.below B6.out)
    clear hz19 CF HNF
    have c0 := rX.cell 0 _ rfl
    have c1 := rX.cell 1 _ rfl
    clear hX rX bX
    go_wp2_with (first
      | (refine wpList_load_w rfl 123 (.tmp 15) rfl T 20 rfl [.func (.func 88) #[] #[], .func (.func 89) #[] #[], .func (.func 90) #[] #[], .func (.func 91) #[] #[]] _ R.out Tryz.underlying123 rfl info_fldG ?_; simp only [Act.put, List.setIfInBounds_toArray, List.set_cons_zero, List.set_cons_succ])
      | (refine wpList_store_mid rfl 123 (.tmp 8) (.tmp 16) rfl X5.heap.size 0 [.func (.func 88) #[] #[], .func (.func 89) #[] #[], .func (.func 90) #[] #[], .func (.func 91) #[] #[]].toArray rfl rfl (Row.there (Row.new' (cs := [.nilFunc, .nilFunc, .nilFunc, .nilFunc]) rfl rfl) 0 _ (by decide)) info_fldG (by kernel_rfl) ?_; simp only [Act.put]; change wpList _ _ _ _ _ (World.setCells (World.alloc X5 (Obj.cells #[.nilFunc, .nilFunc, .nilFunc, .nilFunc] 123)) X5.heap.size 0 [.func (.func 88) #[] #[], .func (.func 89) #[] #[], .func (.func 90) #[] #[], .func (.func 91) #[] #[]]); rw [← HX.out])
      | (go_at_call 112; refine Calls.mono HC.out ?_; rintro e Wz ⟨rfl, hqq⟩; obtain rfl := hqq.symm)
      | (go_at_call 88; refine Calls.mono HZ.out ?_; rintro e Wz ⟨rfl, hqq⟩; obtain rfl := hqq.symm))
    go_ret
    exact ⟨rfl, B6.out⟩
  have C19 : Hid ((decide (0 ≤ gs) && decide (gs ≤ 1099511627776)) = true) := hz19
  clear hz19
  have HZ : Hid _ := t_entryFields_19 k tm tk gs sd rc am (.slice A n cap) b X6 C19.out (HL.out.below B6.out)
  have c0 := rX.cell 0 _ rfl
  have c1 := rX.cell 1 _ rfl
  clear hX rX bX
  go_wp2_with (first
    | (refine wpList_load_w rfl 123 (.tmp 15) rfl T 20 rfl [.func (.func 88) #[] #[], .func (.func 89) #[] #[], .func (.func 90) #[] #[], .func (.func 91) #[] #[]] _ R.out Tryz.underlying123 rfl info_fldG ?_; simp only [Act.put, List.setIfInBounds_toArray, List.set_cons_zero, List.set_cons_succ])
    | (refine wpList_store_mid rfl 123 (.tmp 8) (.tmp 16) rfl X5.heap.size 0 [.func (.func 88) #[] #[], .func (.func 89) #[] #[], .func (.func 90) #[] #[], .func (.func 91) #[] #[]].toArray rfl rfl (Row.there (Row.new' (cs := [.nilFunc, .nilFunc, .nilFunc, .nilFunc]) rfl rfl) 0 _ (by decide)) info_fldG (by kernel_rfl) ?_; simp only [Act.put]; change wpList _ _ _ _ _ (World.setCells (World.alloc X5 (Obj.cells #[.nilFunc, .nilFunc, .nilFunc, .nilFunc] 123)) X5.heap.size 0 [.func (.func 88) #[] #[], .func (.func 89) #[] #[], .func (.func 90) #[] #[], .func (.func 91) #[] #[]]); rw [← HX.out])
    | (go_at_call 112; refine Calls.mono HC.out ?_; rintro e Wz ⟨rfl, hqq⟩; obtain rfl := hqq.symm)
    | (go_at_call 88; refine Calls.mono HZ.out ?_; rintro e Wz ⟨rfl, hqq⟩; obtain rfl := hqq.symm))
  clear HC HZ c0 c1 R HX
  rw [rounds_succ]
  obtain ⟨X7, hX, rX, bX⟩ := laidFG X6 [.func (.func 92) #[] #[], .func (.func 93) #[] #[], .func (.func 94) #[] #[], .func (.func 96) #[] #[]] rfl
  have HX : Hid (X7 = _) := hX
  have R : Hid (X6.rangeAt T 24 [.func (.func 92) #[] #[], .func (.func 93) #[] #[], .func (.func 94) #[] #[], .func (.func 96) #[] #[]]) := range_sub (Row.below HT.out B6.out HT.out.lt) 24 4 rfl
  have B7 : Hid (Below w.heap.size w X7) := B6.out.trans (bX.mono B6.out.size)
  have HC : Hid _ := con1_6 U X7 (Row.below HU.out B7.out HU.out.lt)
  rcases Bool.eq_false_or_eq_true (((n : Int) == 0)) with hz24 | hz24
  rotate_left
  · have CF : Hid (((n : Int) == 0) = false) := hz24
    have HZ : Hid _ := f_entryFields_24 k tm tk gs sd rc am A n cap b X7 CF.out (HL.out.below B7.out)
    clear hz24 CF HNF
    have c0 := rX.cell 0 _ rfl
    have c1 := rX.cell 1 _ rfl
    clear hX rX bX
    go_wp2_with (first
      | (refine wpList_load_w rfl 123 (.tmp 15) rfl T 24 rfl [.func (.func 92) #[] #[], .func (.func 93) #[] #[], .func (.func 94) #[] #[], .func (.func 96) #[] #[]] _ R.out Tryz.underlying123 rfl info_fldG ?_; simp only [Act.put, List.setIfInBounds_toArray, List.set_cons_zero, List.set_cons_succ])
      | (refine wpList_store_mid rfl 123 (.tmp 8) (.tmp 16) rfl X6.heap.size 0 [.func (.func 92) #[] #[], .func (.func 93) #[] #[], .func (.func 94) #[] #[], .func (.func 96) #[] #[]].toArray rfl rfl (Row.there (Row.new' (cs := [.nilFunc, .nilFunc, .nilFunc, .nilFunc]) rfl rfl) 0 _ (by decide)) info_fldG (by kernel_rfl) ?_; simp only [Act.put]; change wpList _ _ _ _ _ (World.setCells (World.alloc X6 (Obj.cells #[.nilFunc, .nilFunc, .nilFunc, .nilFunc] 123)) X6.heap.size 0 [.func (.func 92) #[] #[], .func (.func 93) #[] #[], .func (.func 94) #[] #[], .func (.func 96) #[] #[]]); rw [← HX.out])
      | (go_at_call 112; refine Calls.mono HC.out ?_; rintro e Wz ⟨rfl, hqq⟩; obtain rfl := hqq.symm)
      | (go_at_call 93; refine Calls.mono HZ.out ?_; rintro e Wz ⟨rfl, hqq⟩; obtain rfl := hqq.symm))
    go_ret
    exact ⟨rfl, B7.out⟩
  have C24 : Hid (((n : Int) == 0) = true) := hz24
  clear hz24
  exact absurd ⟨C4.out, C8.out, C15.out, C19.out, C24.out⟩ HNF.out
set_option maxRecDepth 100000 in
set_option maxHeartbeats 8000000 in
theorem fitsN_2 (k tm tk gs : Int) (sd rc : List (BitVec 8)) (am : List Nat) (A : Option Addr) (n cap : Nat) (hn : ¬ ((decide (0 ≤ tm) && decide (tm ≤ 4611686018427387904)) = true ∧ (tk == 0) = true ∧ (decide (rc = (List.replicate 20 0#8))) = true ∧ (decide (am = (List.replicate 4 0))) = true ∧ (gs == 0) = true ∧ (decide ((n : Int) ≤ 4096)) = true)) (T U b : Nat) (w : World) (hT : Row w T etab 123) (hU : Row w U [.int .i64 0, .int .i64 1, .int .i64 6] 3) (hb : En w b k sd tm tk rc am gs (.slice A n cap)) :
    Calls Tryz.prog 60 #[.slice (some ⟨T, 0, none⟩) 7 7, .pointer (some ⟨b, 0, none⟩), .slice (some ⟨U, 0, none⟩) 3 3] w fun e w' => e = .returned (.bool false) ∧ Below w.heap.size w w' := by
  have HNF : Hid (¬ ((decide (0 ≤ tm) && decide (tm ≤ 4611686018427387904)) = true ∧ (tk == 0) = true ∧ (decide (rc = (List.replicate 20 0#8))) = true ∧ (decide (am = (List.replicate 4 0))) = true ∧ (gs == 0) = true ∧ (decide ((n : Int) ≤ 4096)) = true)) := hn
  have HT : Hid (Row w T etab 123) := hT
  have HU : Hid (Row w U [.int .i64 0, .int .i64 1, .int .i64 6] 3) := hU
  have HL : Hid (En w b k sd tm tk rc am gs (.slice A n cap)) := hb
  clear hT hU hb hn
  have B0 : Hid (Below w.heap.size w w) := Below.refl _ _
  go_enter Tryz.func60, Tryz.ntmps60
  go_wp2_with fail
  refine wp_loop_rounds 8 ?_
  rw [rounds_succ]
  obtain ⟨X1, hX, rX, bX⟩ := laidFG w [.func (.func 61) #[] #[], .func (.func 62) #[] #[], .func (.func 63) #[] #[], .func (.func 65) #[] #[]] rfl
  have HX : Hid (X1 = _) := hX
  have R : Hid (w.rangeAt T 0 [.func (.func 61) #[] #[], .func (.func 62) #[] #[], .func (.func 63) #[] #[], .func (.func 65) #[] #[]]) := range_sub (Row.below HT.out B0.out HT.out.lt) 0 4 rfl
  have B1 : Hid (Below w.heap.size w X1) := B0.out.trans (bX.mono B0.out.size)
  have HC : Hid _ := conE_0 U X1 (Row.below HU.out B1.out HU.out.lt)
  have HZ : Hid _ := anyL (.pointer (some ⟨b, 0, none⟩)) X1
  have c0 := rX.cell 0 _ rfl
  have c1 := rX.cell 1 _ rfl
  clear hX rX bX
  go_wp2_with (first
    | (refine wpList_load_w rfl 123 (.tmp 15) rfl T 0 rfl [.func (.func 61) #[] #[], .func (.func 62) #[] #[], .func (.func 63) #[] #[], .func (.func 65) #[] #[]] _ R.out Tryz.underlying123 rfl info_fldG ?_; simp only [Act.put, List.setIfInBounds_toArray, List.set_cons_zero, List.set_cons_succ])
    | (refine wpList_store_mid rfl 123 (.tmp 8) (.tmp 16) rfl w.heap.size 0 [.func (.func 61) #[] #[], .func (.func 62) #[] #[], .func (.func 63) #[] #[], .func (.func 65) #[] #[]].toArray rfl rfl (Row.there (Row.new' (cs := [.nilFunc, .nilFunc, .nilFunc, .nilFunc]) rfl rfl) 0 _ (by decide)) info_fldG (by kernel_rfl) ?_; simp only [Act.put]; change wpList _ _ _ _ _ (World.setCells (World.alloc w (Obj.cells #[.nilFunc, .nilFunc, .nilFunc, .nilFunc] 123)) w.heap.size 0 [.func (.func 61) #[] #[], .func (.func 62) #[] #[], .func (.func 63) #[] #[], .func (.func 65) #[] #[]]); rw [← HX.out])
    | (go_at_call 112; refine Calls.mono HC.out ?_; rintro e Wz ⟨rfl, hqq⟩; obtain rfl := hqq.symm)
    | (go_at_call 61; refine Calls.mono HZ.out ?_; rintro e Wz ⟨rfl, hqq⟩; obtain rfl := hqq.symm))
  clear HC HZ c0 c1 R HX
  rw [rounds_succ]
  obtain ⟨X2, hX, rX, bX⟩ := laidFG X1 [.func (.func 67) #[] #[], .func (.func 69) #[] #[], .func (.func 70) #[] #[], .func (.func 72) #[] #[]] rfl
  have HX : Hid (X2 = _) := hX
  have R : Hid (X1.rangeAt T 4 [.func (.func 67) #[] #[], .func (.func 69) #[] #[], .func (.func 70) #[] #[], .func (.func 72) #[] #[]]) := range_sub (Row.below HT.out B1.out HT.out.lt) 4 4 rfl
  have B2 : Hid (Below w.heap.size w X2) := B1.out.trans (bX.mono B1.out.size)
  have HC : Hid _ := conE_1 U X2 (Row.below HU.out B2.out HU.out.lt)
  rcases Bool.eq_false_or_eq_true ((decide (0 ≤ tm) && decide (tm ≤ 4611686018427387904))) with hz4 | hz4
  rotate_left
  · have CF : Hid ((decide (0 ≤ tm) && decide (tm ≤ 4611686018427387904)) = false) := hz4
    have HZ : Hid _ := f_entryFields_4 k tm tk gs sd rc am (.slice A n cap) b X2 CF.out (HL.out.below B2.out)
    clear hz4 CF HNF
    have c0 := rX.cell 0 _ rfl
    have c1 := rX.cell 1 _ rfl
    clear hX rX bX
    go_wp2_with (first
      | (refine wpList_load_w rfl 123 (.tmp 15) rfl T 4 rfl [.func (.func 67) #[] #[], .func (.func 69) #[] #[], .func (.func 70) #[] #[], .func (.func 72) #[] #[]] _ R.out Tryz.underlying123 rfl info_fldG ?_; simp only [Act.put, List.setIfInBounds_toArray, List.set_cons_zero, List.set_cons_succ])
      | (refine wpList_store_mid rfl 123 (.tmp 8) (.tmp 16) rfl X1.heap.size 0 [.func (.func 67) #[] #[], .func (.func 69) #[] #[], .func (.func 70) #[] #[], .func (.func 72) #[] #[]].toArray rfl rfl (Row.there (Row.new' (cs := [.nilFunc, .nilFunc, .nilFunc, .nilFunc]) rfl rfl) 0 _ (by decide)) info_fldG (by kernel_rfl) ?_; simp only [Act.put]; change wpList _ _ _ _ _ (World.setCells (World.alloc X1 (Obj.cells #[.nilFunc, .nilFunc, .nilFunc, .nilFunc] 123)) X1.heap.size 0 [.func (.func 67) #[] #[], .func (.func 69) #[] #[], .func (.func 70) #[] #[], .func (.func 72) #[] #[]]); rw [← HX.out])
      | (go_at_call 112; refine Calls.mono HC.out ?_; rintro e Wz ⟨rfl, hqq⟩; obtain rfl := hqq.symm)
      | (go_at_call 67; refine Calls.mono HZ.out ?_; rintro e Wz ⟨rfl, hqq⟩; obtain rfl := hqq.symm))
    go_ret
    exact ⟨rfl, B2.out⟩
  have C4 : Hid ((decide (0 ≤ tm) && decide (tm ≤ 4611686018427387904)) = true) := hz4
  clear hz4
  have HZ : Hid _ := t_entryFields_4 k tm tk gs sd rc am (.slice A n cap) b X2 C4.out (HL.out.below B2.out)
  have c0 := rX.cell 0 _ rfl
  have c1 := rX.cell 1 _ rfl
  clear hX rX bX
  go_wp2_with (first
    | (refine wpList_load_w rfl 123 (.tmp 15) rfl T 4 rfl [.func (.func 67) #[] #[], .func (.func 69) #[] #[], .func (.func 70) #[] #[], .func (.func 72) #[] #[]] _ R.out Tryz.underlying123 rfl info_fldG ?_; simp only [Act.put, List.setIfInBounds_toArray, List.set_cons_zero, List.set_cons_succ])
    | (refine wpList_store_mid rfl 123 (.tmp 8) (.tmp 16) rfl X1.heap.size 0 [.func (.func 67) #[] #[], .func (.func 69) #[] #[], .func (.func 70) #[] #[], .func (.func 72) #[] #[]].toArray rfl rfl (Row.there (Row.new' (cs := [.nilFunc, .nilFunc, .nilFunc, .nilFunc]) rfl rfl) 0 _ (by decide)) info_fldG (by kernel_rfl) ?_; simp only [Act.put]; change wpList _ _ _ _ _ (World.setCells (World.alloc X1 (Obj.cells #[.nilFunc, .nilFunc, .nilFunc, .nilFunc] 123)) X1.heap.size 0 [.func (.func 67) #[] #[], .func (.func 69) #[] #[], .func (.func 70) #[] #[], .func (.func 72) #[] #[]]); rw [← HX.out])
    | (go_at_call 112; refine Calls.mono HC.out ?_; rintro e Wz ⟨rfl, hqq⟩; obtain rfl := hqq.symm)
    | (go_at_call 67; refine Calls.mono HZ.out ?_; rintro e Wz ⟨rfl, hqq⟩; obtain rfl := hqq.symm))
  clear HC HZ c0 c1 R HX
  rw [rounds_succ]
  obtain ⟨X3, hX, rX, bX⟩ := laidFG X2 [.func (.func 74) #[] #[], .func (.func 76) #[] #[], .func (.func 77) #[] #[], .func (.func 78) #[] #[]] rfl
  have HX : Hid (X3 = _) := hX
  have R : Hid (X2.rangeAt T 8 [.func (.func 74) #[] #[], .func (.func 76) #[] #[], .func (.func 77) #[] #[], .func (.func 78) #[] #[]]) := range_sub (Row.below HT.out B2.out HT.out.lt) 8 4 rfl
  have B3 : Hid (Below w.heap.size w X3) := B2.out.trans (bX.mono B2.out.size)
  have HC : Hid _ := conE_2 U X3 (Row.below HU.out B3.out HU.out.lt)
  rcases Bool.eq_false_or_eq_true ((tk == 0)) with hz9 | hz9
  rotate_left
  · have CF : Hid ((tk == 0) = false) := hz9
    have HZ : Hid _ := f_entryFields_9 k tm tk gs sd rc am (.slice A n cap) b X3 CF.out (HL.out.below B3.out)
    clear hz9 CF HNF
    have c0 := rX.cell 0 _ rfl
    have c1 := rX.cell 1 _ rfl
    clear hX rX bX
    go_wp2_with (first
      | (refine wpList_load_w rfl 123 (.tmp 15) rfl T 8 rfl [.func (.func 74) #[] #[], .func (.func 76) #[] #[], .func (.func 77) #[] #[], .func (.func 78) #[] #[]] _ R.out Tryz.underlying123 rfl info_fldG ?_; simp only [Act.put, List.setIfInBounds_toArray, List.set_cons_zero, List.set_cons_succ])
      | (refine wpList_store_mid rfl 123 (.tmp 8) (.tmp 16) rfl X2.heap.size 0 [.func (.func 74) #[] #[], .func (.func 76) #[] #[], .func (.func 77) #[] #[], .func (.func 78) #[] #[]].toArray rfl rfl (Row.there (Row.new' (cs := [.nilFunc, .nilFunc, .nilFunc, .nilFunc]) rfl rfl) 0 _ (by decide)) info_fldG (by kernel_rfl) ?_; simp only [Act.put]; change wpList _ _ _ _ _ (World.setCells (World.alloc X2 (Obj.cells #[.nilFunc, .nilFunc, .nilFunc, .nilFunc] 123)) X2.heap.size 0 [.func (.func 74) #[] #[], .func (.func 76) #[] #[], .func (.func 77) #[] #[], .func (.func 78) #[] #[]]); rw [← HX.out])
      | (go_at_call 112; refine Calls.mono HC.out ?_; rintro e Wz ⟨rfl, hqq⟩; obtain rfl := hqq.symm)
      | (go_at_call 76; refine Calls.mono HZ.out ?_; rintro e Wz ⟨rfl, hqq⟩; obtain rfl := hqq.symm))
    go_ret
    exact ⟨rfl, B3.out⟩
  have C9 : Hid ((tk == 0) = true) := hz9
  clear hz9
  have HZ : Hid _ := t_entryFields_9 k tm tk gs sd rc am (.slice A n cap) b X3 C9.out (HL.out.below B3.out)
  have c0 := rX.cell 0 _ rfl
  have c1 := rX.cell 1 _ rfl
  clear hX rX bX
  go_wp2_with (first
    | (refine wpList_load_w rfl 123 (.tmp 15) rfl T 8 rfl [.func (.func 74) #[] #[], .func (.func 76) #[] #[], .func (.func 77) #[] #[], .func (.func 78) #[] #[]] _ R.out Tryz.underlying123 rfl info_fldG ?_; simp only [Act.put, List.setIfInBounds_toArray, List.set_cons_zero, List.set_cons_succ])
    | (refine wpList_store_mid rfl 123 (.tmp 8) (.tmp 16) rfl X2.heap.size 0 [.func (.func 74) #[] #[], .func (.func 76) #[] #[], .func (.func 77) #[] #[], .func (.func 78) #[] #[]].toArray rfl rfl (Row.there (Row.new' (cs := [.nilFunc, .nilFunc, .nilFunc, .nilFunc]) rfl rfl) 0 _ (by decide)) info_fldG (by kernel_rfl) ?_; simp only [Act.put]; change wpList _ _ _ _ _ (World.setCells (World.alloc X2 (Obj.cells #[.nilFunc, .nilFunc, .nilFunc, .nilFunc] 123)) X2.heap.size 0 [.func (.func 74) #[] #[], .func (.func 76) #[] #[], .func (.func 77) #[] #[], .func (.func 78) #[] #[]]); rw [← HX.out])
    | (go_at_call 112; refine Calls.mono HC.out ?_; rintro e Wz ⟨rfl, hqq⟩; obtain rfl := hqq.symm)
    | (go_at_call 76; refine Calls.mono HZ.out ?_; rintro e Wz ⟨rfl, hqq⟩; obtain rfl := hqq.symm))
  clear HC HZ c0 c1 R HX
  rw [rounds_succ]
  obtain ⟨X4, hX, rX, bX⟩ := laidFG X3 [.func (.func 61) #[] #[], .func (.func 79) #[] #[], .func (.func 80) #[] #[], .func (.func 81) #[] #[]] rfl
  have HX : Hid (X4 = _) := hX
  have R : Hid (X3.rangeAt T 12 [.func (.func 61) #[] #[], .func (.func 79) #[] #[], .func (.func 80) #[] #[], .func (.func 81) #[] #[]]) := range_sub (Row.below HT.out B3.out HT.out.lt) 12 4 rfl
  have B4 : Hid (Below w.heap.size w X4) := B3.out.trans (bX.mono B3.out.size)
  have HC : Hid _ := conE_3 U X4 (Row.below HU.out B4.out HU.out.lt)
  rcases Bool.eq_false_or_eq_true ((decide (rc = (List.replicate 20 0#8)))) with hz12 | hz12
  rotate_left
  · have CF : Hid ((decide (rc = (List.replicate 20 0#8))) = false) := hz12
    have HZ : Hid _ := f_entryFields_12 k tm tk gs sd rc am (.slice A n cap) b X4 CF.out (HL.out.below B4.out)
    clear hz12 CF HNF
    have c0 := rX.cell 0 _ rfl
    have c1 := rX.cell 1 _ rfl
    clear hX rX bX
    go_wp2_with (first
      | (refine wpList_load_w rfl 123 (.tmp 15) rfl T 12 rfl [.func (.func 61) #[] #[], .func (.func 79) #[] #[], .func (.func 80) #[] #[], .func (.func 81) #[] #[]] _ R.out Tryz.underlying123 rfl info_fldG ?_; simp only [Act.put, List.setIfInBounds_toArray, List.set_cons_zero, List.set_cons_succ])
      | (refine wpList_store_mid rfl 123 (.tmp 8) (.tmp 16) rfl X3.heap.size 0 [.func (.func 61) #[] #[], .func (.func 79) #[] #[], .func (.func 80) #[] #[], .func (.func 81) #[] #[]].toArray rfl rfl (Row.there (Row.new' (cs := [.nilFunc, .nilFunc, .nilFunc, .nilFunc]) rfl rfl) 0 _ (by decide)) info_fldG (by kernel_rfl) ?_; simp only [Act.put]; change wpList _ _ _ _ _ (World.setCells (World.alloc X3 (Obj.cells #[.nilFunc, .nilFunc, .nilFunc, .nilFunc] 123)) X3.heap.size 0 [.func (.func 61) #[] #[], .func (.func 79) #[] #[], .func (.func 80) #[] #[], .func (.func 81) #[] #[]]); rw [← HX.out])
      | (go_at_call 112; refine Calls.mono HC.out ?_; rintro e Wz ⟨rfl, hqq⟩; obtain rfl := hqq.symm)
      | (go_at_call 79; refine Calls.mono HZ.out ?_; rintro e Wz ⟨rfl, hqq⟩; obtain rfl := hqq.symm))
    go_ret
    exact ⟨rfl, B4.out⟩
  have C12 : Hid ((decide (rc = (List.replicate 20 0#8))) = true) := hz12
  clear hz12
  have HZ : Hid _ := t_entryFields_12 k tm tk gs sd rc am (.slice A n cap) b X4 C12.out (HL.out.below B4.out)
  have c0 := rX.cell 0 _ rfl
  have c1 := rX.cell 1 _ rfl
  clear hX rX bX
  go_wp2_with (first
    | (refine wpList_load_w rfl 123 (.tmp 15) rfl T 12 rfl [.func (.func 61) #[] #[], .func (.func 79) #[] #[], .func (.func 80) #[] #[], .func (.func 81) #[] #[]] _ R.out Tryz.underlying123 rfl info_fldG ?_; simp only [Act.put, List.setIfInBounds_toArray, List.set_cons_zero, List.set_cons_succ])
    | (refine wpList_store_mid rfl 123 (.tmp 8) (.tmp 16) rfl X3.heap.size 0 [.func (.func 61) #[] #[], .func (.func 79) #[] #[], .func (.func 80) #[] #[], .func (.func 81) #[] #[]].toArray rfl rfl (Row.there (Row.new' (cs := [.nilFunc, .nilFunc, .nilFunc, .nilFunc]) rfl rfl) 0 _ (by decide)) info_fldG (by kernel_rfl) ?_; simp only [Act.put]; change wpList _ _ _ _ _ (World.setCells (World.alloc X3 (Obj.cells #[.nilFunc, .nilFunc, .nilFunc, .nilFunc] 123)) X3.heap.size 0 [.func (.func 61) #[] #[], .func (.func 79) #[] #[], .func (.func 80) #[] #[], .func (.func 81) #[] #[]]); rw [← HX.out])
    | (go_at_call 112; refine Calls.mono HC.out ?_; rintro e Wz ⟨rfl, hqq⟩; obtain rfl := hqq.symm)
    | (go_at_call 79; refine Calls.mono HZ.out ?_; rintro e Wz ⟨rfl, hqq⟩; obtain rfl := hqq.symm))
  clear HC HZ c0 c1 R HX
  rw [rounds_succ]
  obtain ⟨X5, hX, rX, bX⟩ := laidFG X4 [.func (.func 82) #[] #[], .func (.func 83) #[] #[], .func (.func 84) #[] #[], .func (.func 86) #[] #[]] rfl
  have HX : Hid (X5 = _) := hX
  have R : Hid (X4.rangeAt T 16 [.func (.func 82) #[] #[], .func (.func 83) #[] #[], .func (.func 84) #[] #[], .func (.func 86) #[] #[]]) := range_sub (Row.below HT.out B4.out HT.out.lt) 16 4 rfl
  have B5 : Hid (Below w.heap.size w X5) := B4.out.trans (bX.mono B4.out.size)
  have HC : Hid _ := conE_4 U X5 (Row.below HU.out B5.out HU.out.lt)
  rcases Bool.eq_false_or_eq_true ((decide (am = (List.replicate 4 0)))) with hz16 | hz16
  rotate_left
  · have CF : Hid ((decide (am = (List.replicate 4 0))) = false) := hz16
    have HZ : Hid _ := f_entryFields_16 k tm tk gs sd rc am (.slice A n cap) b X5 CF.out (HL.out.below B5.out)
    clear hz16 CF HNF
    have c0 := rX.cell 0 _ rfl
    have c1 := rX.cell 1 _ rfl
    clear hX rX bX
    go_wp2_with (first
      | (refine wpList_load_w rfl 123 (.tmp 15) rfl T 16 rfl [.func (.func 82) #[] #[], .func (.func 83) #[] #[], .func (.func 84) #[] #[], .func (.func 86) #[] #[]] _ R.out Tryz.underlying123 rfl info_fldG ?_; simp only [Act.put, List.setIfInBounds_toArray, List.set_cons_zero, List.set_cons_succ])
      | (refine wpList_store_mid rfl 123 (.tmp 8) (.tmp 16) rfl X4.heap.size 0 [.func (.func 82) #[] #[], .func (.func 83) #[] #[], .func (.func 84) #[] #[], .func (.func 86) #[] #[]].toArray rfl rfl (Row.there (Row.new' (cs := [.nilFunc, .nilFunc, .nilFunc, .nilFunc]) rfl rfl) 0 _ (by decide)) info_fldG (by kernel_rfl) ?_; simp only [Act.put]; change wpList _ _ _ _ _ (World.setCells (World.alloc X4 (Obj.cells #[.nilFunc, .nilFunc, .nilFunc, .nilFunc] 123)) X4.heap.size 0 [.func (.func 82) #[] #[], .func (.func 83) #[] #[], .func (.func 84) #[] #[], .func (.func 86) #[] #[]]); rw [← HX.out])
      | (go_at_call 112; refine Calls.mono HC.out ?_; rintro e Wz ⟨rfl, hqq⟩; obtain rfl := hqq.symm)
      | (go_at_call 83; refine Calls.mono HZ.out ?_; rintro e Wz ⟨rfl, hqq⟩; obtain rfl := hqq.symm))
    go_ret
    exact ⟨rfl, B5.out⟩
  have C16 : Hid ((decide (am = (List.replicate 4 0))) = true) := hz16
  clear hz16
  have HZ : Hid _ := t_entryFields_16 k tm tk gs sd rc am (.slice A n cap) b X5 C16.out (HL.out.below B5.out)
  have c0 := rX.cell 0 _ rfl
  have c1 := rX.cell 1 _ rfl
  clear hX rX bX
  go_wp2_with (first
    | (refine wpList_load_w rfl 123 (.tmp 15) rfl T 16 rfl [.func (.func 82) #[] #[], .func (.func 83) #[] #[], .func (.func 84) #[] #[], .func (.func 86) #[] #[]] _ R.out Tryz.underlying123 rfl info_fldG ?_; simp only [Act.put, List.setIfInBounds_toArray, List.set_cons_zero, List.set_cons_succ])
    | (refine wpList_store_mid rfl 123 (.tmp 8) (.tmp 16) rfl X4.heap.size 0 [.func (.func 82) #[] #[], .func (.func 83) #[] #[], .func (.func 84) #[] #[], .func (.func 86) #[] #[]].toArray rfl rfl (Row.there (Row.new' (cs := [.nilFunc, .nilFunc, .nilFunc, .nilFunc]) rfl rfl) 0 _ (by decide)) info_fldG (by kernel_rfl) ?_; simp only [Act.put]; change wpList _ _ _ _ _ (World.setCells (World.alloc X4 (Obj.cells #[.nilFunc, .nilFunc, .nilFunc, .nilFunc] 123)) X4.heap.size 0 [.func (.func 82) #[] #[], .func (.func 83) #[] #[], .func (.func 84) #[] #[], .func (.func 86) #[] #[]]); rw [← HX.out])
    | (go_at_call 112; refine Calls.mono HC.out ?_; rintro e Wz ⟨rfl, hqq⟩; obtain rfl := hqq.symm)
    | (go_at_call 83; refine Calls.mono HZ.out ?_; rintro e Wz ⟨rfl, hqq⟩; obtain rfl := hqq.symm))
  clear HC HZ c0 c1 R HX
  rw [rounds_succ]
  obtain ⟨X6, hX, rX, bX⟩ := laidFG X5 [.func (.func 88) #[] #[], .func (.func 89) #[] #[], .func (.func 90) #[] #[], .func (.func 91) #[] #[]] rfl
  have HX : Hid (X6 = _) := hX
  have R : Hid (X5.rangeAt T 20 [.func (.func 88) #[] #[], .func (.func 89) #[] #[], .func (.func 90) #[] #[], .func (.func 91) #[] #[]]) := range_sub (Row.below HT.out B5.out HT.out.lt) 20 4 rfl
  have B6 : Hid (Below w.heap.size w X6) := B5.out.trans (bX.mono B5.out.size)
  have HC : Hid _ := conE_5 U X6 (Row.below HU.out B6.out HU.out.lt)
  rcases Bool.eq_false_or_eq_true ((gs == 0)) with hz20 | hz20
  rotate_left
  · have CF : Hid ((gs == 0) = false) := hz20
    have HZ : Hid _ := f_entryFields_20 k tm tk gs sd rc am (.slice A n cap) b X6 CF.out (HL.out.below B6.out)
    clear hz20 CF HNF
    have c0 := rX.cell 0 _ rfl
    have c1 := rX.cell 1 _ rfl
    clear hX rX bX
    go_wp2_with (first
      | (refine wpList_load_w rfl 123 (.tmp 15) rfl T 20 rfl [.func (.func 88) #[] #[], .func (.func 89) #[] #[], .func (.func 90) #[] #[], .func (.func 91) #[] #[]] _ R.out Tryz.underlying123 rfl info_fldG ?_; simp only [Act.put, List.setIfInBounds_toArray, List.set_cons_zero, List.set_cons_succ])
      | (refine wpList_store_mid rfl 123 (.tmp 8) (.tmp 16) rfl X5.heap.size 0 [.func (.func 88) #[] #[], .func (.func 89) #[] #[], .func (.func 90) #[] #[], .func (.func 91) #[] #[]].toArray rfl rfl (Row.there (Row.new' (cs := [.nilFunc, .nilFunc, .nilFunc, .nilFunc]) rfl rfl) 0 _ (by decide)) info_fldG (by kernel_rfl) ?_; simp only [Act.put]; change wpList _ _ _ _ _ (World.setCells (World.alloc X5 (Obj.cells #[.nilFunc, .nilFunc, .nilFunc, .nilFunc] 123)) X5.heap.size 0 [.func (.func 88) #[] #[], .func (.func 89) #[] #[], .func (.func 90) #[] #[], .func (.func 91) #[] #[]]); rw [← HX.out])
      | (go_at_call 112; refine Calls.mono HC.out ?_; rintro e Wz ⟨rfl, hqq⟩; obtain rfl := hqq.symm)
      | (go_at_call 89; refine Calls.mono HZ.out ?_; rintro e Wz ⟨rfl, hqq⟩; obtain rfl := hqq.symm))
    go_ret
    exact ⟨rfl, B6.out⟩
  have C20 : Hid ((gs == 0) = true) := hz20
  clear hz20
  have HZ : Hid _ := t_entryFields_20 k tm tk gs sd rc am (.slice A n cap) b X6 C20.out (HL.out.below B6.out)
  have c0 := rX.cell 0 _ rfl
  have c1 := rX.cell 1 _ rfl
  clear hX rX bX
  go_wp2_with (first
    | (refine wpList_load_w rfl 123 (.tmp 15) rfl T 20 rfl [.func (.func 88) #[] #[], .func (.func 89) #[] #[], .func (.func 90) #[] #[], .func (.func 91) #[] #[]] _ R.out Tryz.underlying123 rfl info_fldG ?_; simp only [Act.put, List.setIfInBounds_toArray, List.set_cons_zero, List.set_cons_succ])
    | (refine wpList_store_mid rfl 123 (.tmp 8) (.tmp 16) rfl X5.heap.size 0 [.func (.func 88) #[] #[], .func (.func 89) #[] #[], .func (.func 90) #[] #[], .func (.func 91) #[] #[]].toArray rfl rfl (Row.there (Row.new' (cs := [.nilFunc, .nilFunc, .nilFunc, .nilFunc]) rfl rfl) 0 _ (by decide)) info_fldG (by kernel_rfl) ?_; simp only [Act.put]; change wpList _ _ _ _ _ (World.setCells (World.alloc X5 (Obj.cells #[.nilFunc, .nilFunc, .nilFunc, .nilFunc] 123)) X5.heap.size 0 [.func (.func 88) #[] #[], .func (.func 89) #[] #[], .func (.func 90) #[] #[], .func (.func 91) #[] #[]]); rw [← HX.out])
    | (go_at_call 112; refine Calls.mono HC.out ?_; rintro e Wz ⟨rfl, hqq⟩; obtain rfl := hqq.symm)
    | (go_at_call 89; refine Calls.mono HZ.out ?_; rintro e Wz ⟨rfl, hqq⟩; obtain rfl := hqq.symm))
  clear HC HZ c0 c1 R HX
  rw [rounds_succ]
  obtain ⟨X7, hX, rX, bX⟩ := laidFG X6 [.func (.func 92) #[] #[], .func (.func 93) #[] #[], .func (.func 94) #[] #[], .func (.func 96) #[] #[]] rfl
  have HX : Hid (X7 = _) := hX
  have R : Hid (X6.rangeAt T 24 [.func (.func 92) #[] #[], .func (.func 93) #[] #[], .func (.func 94) #[] #[], .func (.func 96) #[] #[]]) := range_sub (Row.below HT.out B6.out HT.out.lt) 24 4 rfl
  have B7 : Hid (Below w.heap.size w X7) := B6.out.trans (bX.mono B6.out.size)
  have HC : Hid _ := conE_6 U X7 (Row.below HU.out B7.out HU.out.lt)
  rcases Bool.eq_false_or_eq_true ((decide ((n : Int) ≤ 4096))) with hz23 | hz23
  rotate_left
  · have CF : Hid ((decide ((n : Int) ≤ 4096)) = false) := hz23
    have HZ : Hid _ := f_entryFields_23 k tm tk gs sd rc am A n cap b X7 CF.out (HL.out.below B7.out)
    clear hz23 CF HNF
    have c0 := rX.cell 0 _ rfl
    have c1 := rX.cell 1 _ rfl
    clear hX rX bX
    go_wp2_with (first
      | (refine wpList_load_w rfl 123 (.tmp 15) rfl T 24 rfl [.func (.func 92) #[] #[], .func (.func 93) #[] #[], .func (.func 94) #[] #[], .func (.func 96) #[] #[]] _ R.out Tryz.underlying123 rfl info_fldG ?_; simp only [Act.put, List.setIfInBounds_toArray, List.set_cons_zero, List.set_cons_succ])
      | (refine wpList_store_mid rfl 123 (.tmp 8) (.tmp 16) rfl X6.heap.size 0 [.func (.func 92) #[] #[], .func (.func 93) #[] #[], .func (.func 94) #[] #[], .func (.func 96) #[] #[]].toArray rfl rfl (Row.there (Row.new' (cs := [.nilFunc, .nilFunc, .nilFunc, .nilFunc]) rfl rfl) 0 _ (by decide)) info_fldG (by kernel_rfl) ?_; simp only [Act.put]; change wpList _ _ _ _ _ (World.setCells (World.alloc X6 (Obj.cells #[.nilFunc, .nilFunc, .nilFunc, .nilFunc] 123)) X6.heap.size 0 [.func (.func 92) #[] #[], .func (.func 93) #[] #[], .func (.func 94) #[] #[], .func (.func 96) #[] #[]]); rw [← HX.out])
      | (go_at_call 112; refine Calls.mono HC.out ?_; rintro e Wz ⟨rfl, hqq⟩; obtain rfl := hqq.symm)
      | (go_at_call 92; refine Calls.mono HZ.out ?_; rintro e Wz ⟨rfl, hqq⟩; obtain rfl := hqq.symm))
    go_ret
    exact ⟨rfl, B7.out⟩
  have C23 : Hid ((decide ((n : Int) ≤ 4096)) = true) := hz23
  clear hz23
  exact absurd ⟨C4.out, C9.out, C12.out, C16.out, C20.out, C23.out⟩ HNF.out

end Go.Proofs.YtknabkoddickaaaGreatDoor
