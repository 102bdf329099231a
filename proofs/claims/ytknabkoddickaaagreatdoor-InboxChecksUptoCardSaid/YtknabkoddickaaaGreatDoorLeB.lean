/-
  entries of any values that may be: fits, CheckEntry.
-/
import Derived.Test.YtknabkoddickaaaGreatDoorLeA
import Derived.Test.YtknabkoddickaaaGreatDoorLtD
import Derived.Deep.CutRange
namespace Go.Proofs.YtknabkoddickaaaGreatDoor
open Go Go.RowKit
open Sha

theorem t_entryFields_4 (k tm tk gs : Int) (sd rc : List (BitVec 8)) (am : List Nat) (v : Value) (b : Nat) (w : World) (hc : (decide (0 ≤ tm) && decide (tm ≤ 4611686018427387904)) = true) (h : En w b k sd tm tk rc am gs v) : Calls Tryz.prog 67 #[.pointer (some ⟨b, 0, none⟩)] w fun e w' => e = .returned (.bool true) ∧ w' = w := by
  have q := e_entryFields_4 k tm tk gs sd rc am v b w h
  rw [hc] at q
  exact q
theorem t_entryFields_8 (k tm tk gs : Int) (sd rc : List (BitVec 8)) (am : List Nat) (v : Value) (b : Nat) (w : World) (hc : (decide (0 ≤ tk) && decide (tk ≤ 63)) = true) (h : En w b k sd tm tk rc am gs v) : Calls Tryz.prog 74 #[.pointer (some ⟨b, 0, none⟩)] w fun e w' => e = .returned (.bool true) ∧ w' = w := by
  have q := e_entryFields_8 k tm tk gs sd rc am v b w h
  rw [hc] at q
  exact q
theorem t_entryFields_15 (k tm tk gs : Int) (sd rc : List (BitVec 8)) (am : List Nat) (v : Value) (b : Nat) (w : World) (hc : (!decide (am = (List.replicate 4 0))) = true) (h : En w b k sd tm tk rc am gs v) : Calls Tryz.prog 82 #[.pointer (some ⟨b, 0, none⟩)] w fun e w' => e = .returned (.bool true) ∧ w' = w := by
  have q := e_entryFields_15 k tm tk gs sd rc am v b w h
  rw [hc] at q
  exact q
theorem t_entryFields_19 (k tm tk gs : Int) (sd rc : List (BitVec 8)) (am : List Nat) (v : Value) (b : Nat) (w : World) (hc : (decide (0 ≤ gs) && decide (gs ≤ 1099511627776)) = true) (h : En w b k sd tm tk rc am gs v) : Calls Tryz.prog 88 #[.pointer (some ⟨b, 0, none⟩)] w fun e w' => e = .returned (.bool true) ∧ w' = w := by
  have q := e_entryFields_19 k tm tk gs sd rc am v b w h
  rw [hc] at q
  exact q
theorem t_entryFields_9 (k tm tk gs : Int) (sd rc : List (BitVec 8)) (am : List Nat) (v : Value) (b : Nat) (w : World) (hc : (tk == 0) = true) (h : En w b k sd tm tk rc am gs v) : Calls Tryz.prog 76 #[.pointer (some ⟨b, 0, none⟩)] w fun e w' => e = .returned (.bool true) ∧ w' = w := by
  have q := e_entryFields_9 k tm tk gs sd rc am v b w h
  rw [hc] at q
  exact q
theorem t_entryFields_12 (k tm tk gs : Int) (sd rc : List (BitVec 8)) (am : List Nat) (v : Value) (b : Nat) (w : World) (hc : (decide (rc = (List.replicate 20 0#8))) = true) (h : En w b k sd tm tk rc am gs v) : Calls Tryz.prog 79 #[.pointer (some ⟨b, 0, none⟩)] w fun e w' => e = .returned (.bool true) ∧ w' = w := by
  have q := e_entryFields_12 k tm tk gs sd rc am v b w h
  rw [hc] at q
  exact q
theorem t_entryFields_16 (k tm tk gs : Int) (sd rc : List (BitVec 8)) (am : List Nat) (v : Value) (b : Nat) (w : World) (hc : (decide (am = (List.replicate 4 0))) = true) (h : En w b k sd tm tk rc am gs v) : Calls Tryz.prog 83 #[.pointer (some ⟨b, 0, none⟩)] w fun e w' => e = .returned (.bool true) ∧ w' = w := by
  have q := e_entryFields_16 k tm tk gs sd rc am v b w h
  rw [hc] at q
  exact q
theorem t_entryFields_20 (k tm tk gs : Int) (sd rc : List (BitVec 8)) (am : List Nat) (v : Value) (b : Nat) (w : World) (hc : (gs == 0) = true) (h : En w b k sd tm tk rc am gs v) : Calls Tryz.prog 89 #[.pointer (some ⟨b, 0, none⟩)] w fun e w' => e = .returned (.bool true) ∧ w' = w := by
  have q := e_entryFields_20 k tm tk gs sd rc am v b w h
  rw [hc] at q
  exact q
theorem t_entryFields_23 (k tm tk gs : Int) (sd rc : List (BitVec 8)) (am : List Nat) (A : Option Addr) (n cap : Nat) (b : Nat) (w : World) (hc : (decide ((n : Int) ≤ 4096)) = true) (h : En w b k sd tm tk rc am gs (.slice A n cap)) : Calls Tryz.prog 92 #[.pointer (some ⟨b, 0, none⟩)] w fun e w' => e = .returned (.bool true) ∧ w' = w := by
  have q := e_entryFields_23 k tm tk gs sd rc am A n cap b w h
  rw [hc] at q
  exact q
theorem t_entryFields_24 (k tm tk gs : Int) (sd rc : List (BitVec 8)) (am : List Nat) (A : Option Addr) (n cap : Nat) (b : Nat) (w : World) (hc : ((n : Int) == 0) = true) (h : En w b k sd tm tk rc am gs (.slice A n cap)) : Calls Tryz.prog 93 #[.pointer (some ⟨b, 0, none⟩)] w fun e w' => e = .returned (.bool true) ∧ w' = w := by
  have q := e_entryFields_24 k tm tk gs sd rc am A n cap b w h
  rw [hc] at q
  exact q

set_option maxRecDepth 100000 in
theorem con1_0 (b : Nat) (w : World) (h : Row w b [.int .i64 0, .int .i64 1, .int .i64 2, .int .i64 3, .int .i64 4, .int .i64 5] 3) : Calls Tryz.prog 112 #[.slice (some ⟨b, 0, none⟩) 6 6, .int .i64 0] w fun e w' => e = .returned (.bool true) ∧ w' = w := by
  have g0 := h.cell 0 _ rfl
  have g1 := h.cell 1 _ rfl
  have g2 := h.cell 2 _ rfl
  have g3 := h.cell 3 _ rfl
  have g4 := h.cell 4 _ rfl
  have g5 := h.cell 5 _ rfl
  have HI : Hid (Calls Tryz.prog 134 #[.slice (some ⟨b, 0, none⟩) 6 6, .int .i64 0] w fun e w' => e = .returned (.int .i64 (0)) ∧ w' = w) := by
    show Calls _ _ _ _ _
    go_enter Tryz.func134, Tryz.ntmps134
    go_wp2_with fail
    refine wp_loop_rounds 1 ?_
    rw [rounds_succ]
    go_wp2_with fail
    go_ret
    exact ⟨rfl, rfl⟩
  clear h
  go_enter Tryz.func112, Tryz.ntmps112
  go_wp2_with (go_at_call 134; refine Calls.mono HI.out ?_; rintro e W ⟨rfl, rfl⟩)
  go_ret
  exact ⟨rfl, rfl⟩

set_option maxRecDepth 100000 in
theorem con1_1 (b : Nat) (w : World) (h : Row w b [.int .i64 0, .int .i64 1, .int .i64 2, .int .i64 3, .int .i64 4, .int .i64 5] 3) : Calls Tryz.prog 112 #[.slice (some ⟨b, 0, none⟩) 6 6, .int .i64 1] w fun e w' => e = .returned (.bool true) ∧ w' = w := by
  have g0 := h.cell 0 _ rfl
  have g1 := h.cell 1 _ rfl
  have g2 := h.cell 2 _ rfl
  have g3 := h.cell 3 _ rfl
  have g4 := h.cell 4 _ rfl
  have g5 := h.cell 5 _ rfl
  have HI : Hid (Calls Tryz.prog 134 #[.slice (some ⟨b, 0, none⟩) 6 6, .int .i64 1] w fun e w' => e = .returned (.int .i64 (1)) ∧ w' = w) := by
    show Calls _ _ _ _ _
    go_enter Tryz.func134, Tryz.ntmps134
    go_wp2_with fail
    refine wp_loop_rounds 2 ?_
    rw [rounds_succ]
    go_wp2_with fail
    rw [rounds_succ]
    go_wp2_with fail
    go_ret
    exact ⟨rfl, rfl⟩
  clear h
  go_enter Tryz.func112, Tryz.ntmps112
  go_wp2_with (go_at_call 134; refine Calls.mono HI.out ?_; rintro e W ⟨rfl, rfl⟩)
  go_ret
  exact ⟨rfl, rfl⟩

set_option maxRecDepth 100000 in
theorem con1_2 (b : Nat) (w : World) (h : Row w b [.int .i64 0, .int .i64 1, .int .i64 2, .int .i64 3, .int .i64 4, .int .i64 5] 3) : Calls Tryz.prog 112 #[.slice (some ⟨b, 0, none⟩) 6 6, .int .i64 2] w fun e w' => e = .returned (.bool true) ∧ w' = w := by
  have g0 := h.cell 0 _ rfl
  have g1 := h.cell 1 _ rfl
  have g2 := h.cell 2 _ rfl
  have g3 := h.cell 3 _ rfl
  have g4 := h.cell 4 _ rfl
  have g5 := h.cell 5 _ rfl
  have HI : Hid (Calls Tryz.prog 134 #[.slice (some ⟨b, 0, none⟩) 6 6, .int .i64 2] w fun e w' => e = .returned (.int .i64 (2)) ∧ w' = w) := by
    show Calls _ _ _ _ _
    go_enter Tryz.func134, Tryz.ntmps134
    go_wp2_with fail
    refine wp_loop_rounds 3 ?_
    rw [rounds_succ]
    go_wp2_with fail
    rw [rounds_succ]
    go_wp2_with fail
    rw [rounds_succ]
    go_wp2_with fail
    go_ret
    exact ⟨rfl, rfl⟩
  clear h
  go_enter Tryz.func112, Tryz.ntmps112
  go_wp2_with (go_at_call 134; refine Calls.mono HI.out ?_; rintro e W ⟨rfl, rfl⟩)
  go_ret
  exact ⟨rfl, rfl⟩

set_option maxRecDepth 100000 in
theorem con1_3 (b : Nat) (w : World) (h : Row w b [.int .i64 0, .int .i64 1, .int .i64 2, .int .i64 3, .int .i64 4, .int .i64 5] 3) : Calls Tryz.prog 112 #[.slice (some ⟨b, 0, none⟩) 6 6, .int .i64 3] w fun e w' => e = .returned (.bool true) ∧ w' = w := by
  have g0 := h.cell 0 _ rfl
  have g1 := h.cell 1 _ rfl
  have g2 := h.cell 2 _ rfl
  have g3 := h.cell 3 _ rfl
  have g4 := h.cell 4 _ rfl
  have g5 := h.cell 5 _ rfl
  have HI : Hid (Calls Tryz.prog 134 #[.slice (some ⟨b, 0, none⟩) 6 6, .int .i64 3] w fun e w' => e = .returned (.int .i64 (3)) ∧ w' = w) := by
    show Calls _ _ _ _ _
    go_enter Tryz.func134, Tryz.ntmps134
    go_wp2_with fail
    refine wp_loop_rounds 4 ?_
    rw [rounds_succ]
    go_wp2_with fail
    rw [rounds_succ]
    go_wp2_with fail
    rw [rounds_succ]
    go_wp2_with fail
    rw [rounds_succ]
    go_wp2_with fail
    go_ret
    exact ⟨rfl, rfl⟩
  clear h
  go_enter Tryz.func112, Tryz.ntmps112
  go_wp2_with (go_at_call 134; refine Calls.mono HI.out ?_; rintro e W ⟨rfl, rfl⟩)
  go_ret
  exact ⟨rfl, rfl⟩

set_option maxRecDepth 100000 in
theorem con1_4 (b : Nat) (w : World) (h : Row w b [.int .i64 0, .int .i64 1, .int .i64 2, .int .i64 3, .int .i64 4, .int .i64 5] 3) : Calls Tryz.prog 112 #[.slice (some ⟨b, 0, none⟩) 6 6, .int .i64 4] w fun e w' => e = .returned (.bool true) ∧ w' = w := by
  have g0 := h.cell 0 _ rfl
  have g1 := h.cell 1 _ rfl
  have g2 := h.cell 2 _ rfl
  have g3 := h.cell 3 _ rfl
  have g4 := h.cell 4 _ rfl
  have g5 := h.cell 5 _ rfl
  have HI : Hid (Calls Tryz.prog 134 #[.slice (some ⟨b, 0, none⟩) 6 6, .int .i64 4] w fun e w' => e = .returned (.int .i64 (4)) ∧ w' = w) := by
    show Calls _ _ _ _ _
    go_enter Tryz.func134, Tryz.ntmps134
    go_wp2_with fail
    refine wp_loop_rounds 5 ?_
    rw [rounds_succ]
    go_wp2_with fail
    rw [rounds_succ]
    go_wp2_with fail
    rw [rounds_succ]
    go_wp2_with fail
    rw [rounds_succ]
    go_wp2_with fail
    rw [rounds_succ]
    go_wp2_with fail
    go_ret
    exact ⟨rfl, rfl⟩
  clear h
  go_enter Tryz.func112, Tryz.ntmps112
  go_wp2_with (go_at_call 134; refine Calls.mono HI.out ?_; rintro e W ⟨rfl, rfl⟩)
  go_ret
  exact ⟨rfl, rfl⟩

set_option maxRecDepth 100000 in
theorem con1_5 (b : Nat) (w : World) (h : Row w b [.int .i64 0, .int .i64 1, .int .i64 2, .int .i64 3, .int .i64 4, .int .i64 5] 3) : Calls Tryz.prog 112 #[.slice (some ⟨b, 0, none⟩) 6 6, .int .i64 5] w fun e w' => e = .returned (.bool true) ∧ w' = w := by
  have g0 := h.cell 0 _ rfl
  have g1 := h.cell 1 _ rfl
  have g2 := h.cell 2 _ rfl
  have g3 := h.cell 3 _ rfl
  have g4 := h.cell 4 _ rfl
  have g5 := h.cell 5 _ rfl
  have HI : Hid (Calls Tryz.prog 134 #[.slice (some ⟨b, 0, none⟩) 6 6, .int .i64 5] w fun e w' => e = .returned (.int .i64 (5)) ∧ w' = w) := by
    show Calls _ _ _ _ _
    go_enter Tryz.func134, Tryz.ntmps134
    go_wp2_with fail
    refine wp_loop_rounds 6 ?_
    rw [rounds_succ]
    go_wp2_with fail
    rw [rounds_succ]
    go_wp2_with fail
    rw [rounds_succ]
    go_wp2_with fail
    rw [rounds_succ]
    go_wp2_with fail
    rw [rounds_succ]
    go_wp2_with fail
    rw [rounds_succ]
    go_wp2_with fail
    go_ret
    exact ⟨rfl, rfl⟩
  clear h
  go_enter Tryz.func112, Tryz.ntmps112
  go_wp2_with (go_at_call 134; refine Calls.mono HI.out ?_; rintro e W ⟨rfl, rfl⟩)
  go_ret
  exact ⟨rfl, rfl⟩

set_option maxRecDepth 100000 in
theorem con1_6 (b : Nat) (w : World) (h : Row w b [.int .i64 0, .int .i64 1, .int .i64 2, .int .i64 3, .int .i64 4, .int .i64 5] 3) : Calls Tryz.prog 112 #[.slice (some ⟨b, 0, none⟩) 6 6, .int .i64 6] w fun e w' => e = .returned (.bool false) ∧ w' = w := by
  have g0 := h.cell 0 _ rfl
  have g1 := h.cell 1 _ rfl
  have g2 := h.cell 2 _ rfl
  have g3 := h.cell 3 _ rfl
  have g4 := h.cell 4 _ rfl
  have g5 := h.cell 5 _ rfl
  have HI : Hid (Calls Tryz.prog 134 #[.slice (some ⟨b, 0, none⟩) 6 6, .int .i64 6] w fun e w' => e = .returned (.int .i64 (-1)) ∧ w' = w) := by
    show Calls _ _ _ _ _
    go_enter Tryz.func134, Tryz.ntmps134
    go_wp2_with fail
    refine wp_loop_rounds 7 ?_
    rw [rounds_succ]
    go_wp2_with fail
    rw [rounds_succ]
    go_wp2_with fail
    rw [rounds_succ]
    go_wp2_with fail
    rw [rounds_succ]
    go_wp2_with fail
    rw [rounds_succ]
    go_wp2_with fail
    rw [rounds_succ]
    go_wp2_with fail
    rw [rounds_succ]
    go_wp2_with fail
    go_ret
    exact ⟨rfl, rfl⟩
  clear h
  go_enter Tryz.func112, Tryz.ntmps112
  go_wp2_with (go_at_call 134; refine Calls.mono HI.out ?_; rintro e W ⟨rfl, rfl⟩)
  go_ret
  exact ⟨rfl, rfl⟩

set_option maxRecDepth 100000 in
theorem usedE_1 (w : World) : Calls Tryz.prog 52 #[.int .i64 1] w fun e w' => ∃ U, e = .returned (.slice (some ⟨U, 0, none⟩) 6 6) ∧ Row w' U [.int .i64 0, .int .i64 1, .int .i64 2, .int .i64 3, .int .i64 4, .int .i64 5] 3 ∧ Below w.heap.size w w' := by
  go_enter Tryz.func52, Tryz.ntmps52
  go_wp2
  go_ret
  exact ⟨w.heap.size, rfl, Row.new' rfl rfl, (Below.refl _ _).alloc (Nat.le_refl _) _⟩
theorem En.below {k tm tk gs : Int} {sd rc : List (BitVec 8)} {am : List Nat} {v : Value} {b : Nat} {w : World} {w' : World} (h : En w b k sd tm tk rc am gs v) (q : Below w.heap.size w w') : En w' b k sd tm tk rc am gs v := h.be q

set_option maxRecDepth 100000 in
set_option maxHeartbeats 4000000 in
theorem fitsE_1 (k tm tk gs : Int) (sd rc : List (BitVec 8)) (am : List Nat) (A : Option Addr) (n cap : Nat) (c4 : (decide (0 ≤ tm) && decide (tm ≤ 4611686018427387904)) = true) (c8 : (decide (0 ≤ tk) && decide (tk ≤ 63)) = true) (c15 : (!decide (am = (List.replicate 4 0))) = true) (c19 : (decide (0 ≤ gs) && decide (gs ≤ 1099511627776)) = true) (c24 : ((n : Int) == 0) = true) (T U b : Nat) (w : World) (hT : Row w T etab 123) (hU : Row w U [.int .i64 0, .int .i64 1, .int .i64 2, .int .i64 3, .int .i64 4, .int .i64 5] 3) (hb : En w b k sd tm tk rc am gs (.slice A n cap)) :
    Calls Tryz.prog 60 #[.slice (some ⟨T, 0, none⟩) 7 7, .pointer (some ⟨b, 0, none⟩), .slice (some ⟨U, 0, none⟩) 6 6] w fun e w' => e = .returned (.bool true) ∧ Below w.heap.size w w' := by
  have HT : Hid (Row w T etab 123) := hT
  have HU : Hid (Row w U [.int .i64 0, .int .i64 1, .int .i64 2, .int .i64 3, .int .i64 4, .int .i64 5] 3) := hU
  have HL : Hid (En w b k sd tm tk rc am gs (.slice A n cap)) := hb
  have C4 : Hid ((decide (0 ≤ tm) && decide (tm ≤ 4611686018427387904)) = true) := c4
  have C8 : Hid ((decide (0 ≤ tk) && decide (tk ≤ 63)) = true) := c8
  have C15 : Hid ((!decide (am = (List.replicate 4 0))) = true) := c15
  have C19 : Hid ((decide (0 ≤ gs) && decide (gs ≤ 1099511627776)) = true) := c19
  have C24 : Hid (((n : Int) == 0) = true) := c24
  clear hT hU hb c4 c8 c15 c19 c24
  have B0 : Hid (Below w.heap.size w w) := Below.refl _ _
  go_enter Tryz.func60, Tryz.ntmps60
  go_wp2_with fail
  refine wp_loop_rounds 8 ?_
  rw [rounds_succ]
  obtain ⟨X1, hX, rX, bX⟩ := laidFG w [.func (.func 61) #[] #[], .func (.func 62) #[] #[], .func (.func 63) #[] #[], .func (.func 65) #[] #[]] rfl
  have HX : Hid (X1 = _) := hX
  have R : Hid (w.rangeAt T 0 [.func (.func 61) #[] #[], .func (.func 62) #[] #[], .func (.func 63) #[] #[], .func (.func 65) #[] #[]]) := range_sub (Row.below HT.out B0.out HT.out.lt) 0 4 rfl
  have B1 : Hid (Below w.heap.size w X1) := B0.out.trans (bX.mono B0.out.size)
  have HC : Hid _ := con1_0 U X1 (Row.below HU.out B1.out HU.out.lt)
  have HZ : Hid _ := anyL (.pointer (some ⟨b, 0, none⟩)) X1
  have c0 := rX.cell 0 _ rfl
  have c1 := rX.cell 1 _ rfl
  clear hX rX bX
  go_wp2_with (first
    | (refine wpList_load_w rfl 123 (.tmp 15) rfl T 0 rfl [.func (.func 61) #[] #[], .func (.func 62) #[] #[], .func (.func 63) #[] #[], .func (.func 65) #[] #[]] _ R.out Tryz.underlying123 rfl info_fldG ?_; simp only [Act.put, List.setIfInBounds_toArray, List.set_cons_zero, List.set_cons_succ])
    | (refine wpList_store_mid rfl 123 (.tmp 8) (.tmp 16) rfl w.heap.size 0 [.func (.func 61) #[] #[], .func (.func 62) #[] #[], .func (.func 63) #[] #[], .func (.func 65) #[] #[]].toArray rfl rfl (Row.there (Row.new' (cs := [.nilFunc, .nilFunc, .nilFunc, .nilFunc]) rfl rfl) 0 _ (by decide)) info_fldG (by kernel_rfl) ?_; simp only [Act.put]; change wpList _ _ _ _ _ (World.setCells (World.alloc w (Obj.cells #[.nilFunc, .nilFunc, .nilFunc, .nilFunc] 123)) w.heap.size 0 [.func (.func 61) #[] #[], .func (.func 62) #[] #[], .func (.func 63) #[] #[], .func (.func 65) #[] #[]]); rw [← HX.out])
    | (go_at_call 112; refine Calls.mono HC.out ?_; rintro e Wz ⟨rfl, hqq⟩; obtain rfl := hqq.symm)
    | (go_at_call 61; refine Calls.mono HZ.out ?_; rintro e Wz ⟨rfl, hqq⟩; obtain rfl := hqq.symm))
  clear HC HZ c0 c1 R HX
  rw [rounds_succ]
  obtain ⟨X2, hX, rX, bX⟩ := laidFG X1 [.func (.func 67) #[] #[], .func (.func 69) #[] #[], .func (.func 70) #[] #[], .func (.func 72) #[] #[]] rfl
  have HX : Hid (X2 = _) := hX
  have R : Hid (X1.rangeAt T 4 [.func (.func 67) #[] #[], .func (.func 69) #[] #[], .func (.func 70) #[] #[], .func (.func 72) #[] #[]]) := range_sub (Row.below HT.out B1.out HT.out.lt) 4 4 rfl
  have B2 : Hid (Below w.heap.size w X2) := B1.out.trans (bX.mono B1.out.size)
  have HC : Hid _ := con1_1 U X2 (Row.below HU.out B2.out HU.out.lt)
  have HZ : Hid _ := t_entryFields_4 k tm tk gs sd rc am (.slice A n cap) b X2 C4.out (HL.out.below B2.out)
  have c0 := rX.cell 0 _ rfl
  have c1 := rX.cell 1 _ rfl
  clear hX rX bX
  go_wp2_with (first
    | (refine wpList_load_w rfl 123 (.tmp 15) rfl T 4 rfl [.func (.func 67) #[] #[], .func (.func 69) #[] #[], .func (.func 70) #[] #[], .func (.func 72) #[] #[]] _ R.out Tryz.underlying123 rfl info_fldG ?_; simp only [Act.put, List.setIfInBounds_toArray, List.set_cons_zero, List.set_cons_succ])
    | (refine wpList_store_mid rfl 123 (.tmp 8) (.tmp 16) rfl X1.heap.size 0 [.func (.func 67) #[] #[], .func (.func 69) #[] #[], .func (.func 70) #[] #[], .func (.func 72) #[] #[]].toArray rfl rfl (Row.there (Row.new' (cs := [.nilFunc, .nilFunc, .nilFunc, .nilFunc]) rfl rfl) 0 _ (by decide)) info_fldG (by kernel_rfl) ?_; simp only [Act.put]; change wpList _ _ _ _ _ (World.setCells (World.alloc X1 (Obj.cells #[.nilFunc, .nilFunc, .nilFunc, .nilFunc] 123)) X1.heap.size 0 [.func (.func 67) #[] #[], .func (.func 69) #[] #[], .func (.func 70) #[] #[], .func (.func 72) #[] #[]]); rw [← HX.out])
    | (go_at_call 112; refine Calls.mono HC.out ?_; rintro e Wz ⟨rfl, hqq⟩; obtain rfl := hqq.symm)
    | (go_at_call 67; refine Calls.mono HZ.out ?_; rintro e Wz ⟨rfl, hqq⟩; obtain rfl := hqq.symm))
  clear HC HZ c0 c1 R HX
  rw [rounds_succ]
  obtain ⟨X3, hX, rX, bX⟩ := laidFG X2 [.func (.func 74) #[] #[], .func (.func 76) #[] #[], .func (.func 77) #[] #[], .func (.func 78) #[] #[]] rfl
  have HX : Hid (X3 = _) := hX
  have R : Hid (X2.rangeAt T 8 [.func (.func 74) #[] #[], .func (.func 76) #[] #[], .func (.func 77) #[] #[], .func (.func 78) #[] #[]]) := range_sub (Row.below HT.out B2.out HT.out.lt) 8 4 rfl
  have B3 : Hid (Below w.heap.size w X3) := B2.out.trans (bX.mono B2.out.size)
  have HC : Hid _ := con1_2 U X3 (Row.below HU.out B3.out HU.out.lt)
  have HZ : Hid _ := t_entryFields_8 k tm tk gs sd rc am (.slice A n cap) b X3 C8.out (HL.out.below B3.out)
  have c0 := rX.cell 0 _ rfl
  have c1 := rX.cell 1 _ rfl
  clear hX rX bX
  go_wp2_with (first
    | (refine wpList_load_w rfl 123 (.tmp 15) rfl T 8 rfl [.func (.func 74) #[] #[], .func (.func 76) #[] #[], .func (.func 77) #[] #[], .func (.func 78) #[] #[]] _ R.out Tryz.underlying123 rfl info_fldG ?_; simp only [Act.put, List.setIfInBounds_toArray, List.set_cons_zero, List.set_cons_succ])
    | (refine wpList_store_mid rfl 123 (.tmp 8) (.tmp 16) rfl X2.heap.size 0 [.func (.func 74) #[] #[], .func (.func 76) #[] #[], .func (.func 77) #[] #[], .func (.func 78) #[] #[]].toArray rfl rfl (Row.there (Row.new' (cs := [.nilFunc, .nilFunc, .nilFunc, .nilFunc]) rfl rfl) 0 _ (by decide)) info_fldG (by kernel_rfl) ?_; simp only [Act.put]; change wpList _ _ _ _ _ (World.setCells (World.alloc X2 (Obj.cells #[.nilFunc, .nilFunc, .nilFunc, .nilFunc] 123)) X2.heap.size 0 [.func (.func 74) #[] #[], .func (.func 76) #[] #[], .func (.func 77) #[] #[], .func (.func 78) #[] #[]]); rw [← HX.out])
    | (go_at_call 112; refine Calls.mono HC.out ?_; rintro e Wz ⟨rfl, hqq⟩; obtain rfl := hqq.symm)
    | (go_at_call 74; refine Calls.mono HZ.out ?_; rintro e Wz ⟨rfl, hqq⟩; obtain rfl := hqq.symm))
  clear HC HZ c0 c1 R HX
  rw [rounds_succ]
  obtain ⟨X4, hX, rX, bX⟩ := laidFG X3 [.func (.func 61) #[] #[], .func (.func 79) #[] #[], .func (.func 80) #[] #[], .func (.func 81) #[] #[]] rfl
  have HX : Hid (X4 = _) := hX
  have R : Hid (X3.rangeAt T 12 [.func (.func 61) #[] #[], .func (.func 79) #[] #[], .func (.func 80) #[] #[], .func (.func 81) #[] #[]]) := range_sub (Row.below HT.out B3.out HT.out.lt) 12 4 rfl
  have B4 : Hid (Below w.heap.size w X4) := B3.out.trans (bX.mono B3.out.size)
  have HC : Hid _ := con1_3 U X4 (Row.below HU.out B4.out HU.out.lt)
  have HZ : Hid _ := anyL (.pointer (some ⟨b, 0, none⟩)) X4
  have c0 := rX.cell 0 _ rfl
  have c1 := rX.cell 1 _ rfl
  clear hX rX bX
  go_wp2_with (first
    | (refine wpList_load_w rfl 123 (.tmp 15) rfl T 12 rfl [.func (.func 61) #[] #[], .func (.func 79) #[] #[], .func (.func 80) #[] #[], .func (.func 81) #[] #[]] _ R.out Tryz.underlying123 rfl info_fldG ?_; simp only [Act.put, List.setIfInBounds_toArray, List.set_cons_zero, List.set_cons_succ])
    | (refine wpList_store_mid rfl 123 (.tmp 8) (.tmp 16) rfl X3.heap.size 0 [.func (.func 61) #[] #[], .func (.func 79) #[] #[], .func (.func 80) #[] #[], .func (.func 81) #[] #[]].toArray rfl rfl (Row.there (Row.new' (cs := [.nilFunc, .nilFunc, .nilFunc, .nilFunc]) rfl rfl) 0 _ (by decide)) info_fldG (by kernel_rfl) ?_; simp only [Act.put]; change wpList _ _ _ _ _ (World.setCells (World.alloc X3 (Obj.cells #[.nilFunc, .nilFunc, .nilFunc, .nilFunc] 123)) X3.heap.size 0 [.func (.func 61) #[] #[], .func (.func 79) #[] #[], .func (.func 80) #[] #[], .func (.func 81) #[] #[]]); rw [← HX.out])
    | (go_at_call 112; refine Calls.mono HC.out ?_; rintro e Wz ⟨rfl, hqq⟩; obtain rfl := hqq.symm)
    | (go_at_call 61; refine Calls.mono HZ.out ?_; rintro e Wz ⟨rfl, hqq⟩; obtain rfl := hqq.symm))
  clear HC HZ c0 c1 R HX
  rw [rounds_succ]
  obtain ⟨X5, hX, rX, bX⟩ := laidFG X4 [.func (.func 82) #[] #[], .func (.func 83) #[] #[], .func (.func 84) #[] #[], .func (.func 86) #[] #[]] rfl
  have HX : Hid (X5 = _) := hX
  have R : Hid (X4.rangeAt T 16 [.func (.func 82) #[] #[], .func (.func 83) #[] #[], .func (.func 84) #[] #[], .func (.func 86) #[] #[]]) := range_sub (Row.below HT.out B4.out HT.out.lt) 16 4 rfl
  have B5 : Hid (Below w.heap.size w X5) := B4.out.trans (bX.mono B4.out.size)
  have HC : Hid _ := con1_4 U X5 (Row.below HU.out B5.out HU.out.lt)
  have HZ : Hid _ := t_entryFields_15 k tm tk gs sd rc am (.slice A n cap) b X5 C15.out (HL.out.below B5.out)
  have c0 := rX.cell 0 _ rfl
  have c1 := rX.cell 1 _ rfl
  clear hX rX bX
  go_wp2_with (first
    | (refine wpList_load_w rfl 123 (.tmp 15) rfl T 16 rfl [.func (.func 82) #[] #[], .func (.func 83) #[] #[], .func (.func 84) #[] #[], .func (.func 86) #[] #[]] _ R.out Tryz.underlying123 rfl info_fldG ?_; simp only [Act.put, List.setIfInBounds_toArray, List.set_cons_zero, List.set_cons_succ])
    | (refine wpList_store_mid rfl 123 (.tmp 8) (.tmp 16) rfl X4.heap.size 0 [.func (.func 82) #[] #[], .func (.func 83) #[] #[], .func (.func 84) #[] #[], .func (.func 86) #[] #[]].toArray rfl rfl (Row.there (Row.new' (cs := [.nilFunc, .nilFunc, .nilFunc, .nilFunc]) rfl rfl) 0 _ (by decide)) info_fldG (by kernel_rfl) ?_; simp only [Act.put]; change wpList _ _ _ _ _ (World.setCells (World.alloc X4 (Obj.cells #[.nilFunc, .nilFunc, .nilFunc, .nilFunc] 123)) X4.heap.size 0 [.func (.func 82) #[] #[], .func (.func 83) #[] #[], .func (.func 84) #[] #[], .func (.func 86) #[] #[]]); rw [← HX.out])
    | (go_at_call 112; refine Calls.mono HC.out ?_; rintro e Wz ⟨rfl, hqq⟩; obtain rfl := hqq.symm)
    | (go_at_call 82; refine Calls.mono HZ.out ?_; rintro e Wz ⟨rfl, hqq⟩; obtain rfl := hqq.symm))
  clear HC HZ c0 c1 R HX
  rw [rounds_succ]
  obtain ⟨X6, hX, rX, bX⟩ := laidFG X5 [.func (.func 88) #[] #[], .func (.func 89) #[] #[], .func (.func 90) #[] #[], .func (.func 91) #[] #[]] rfl
  have HX : Hid (X6 = _) := hX
  have R : Hid (X5.rangeAt T 20 [.func (.func 88) #[] #[], .func (.func 89) #[] #[], .func (.func 90) #[] #[], .func (.func 91) #[] #[]]) := range_sub (Row.below HT.out B5.out HT.out.lt) 20 4 rfl
  have B6 : Hid (Below w.heap.size w X6) := B5.out.trans (bX.mono B5.out.size)
  have HC : Hid _ := con1_5 U X6 (Row.below HU.out B6.out HU.out.lt)
  have HZ : Hid _ := t_entryFields_19 k tm tk gs sd rc am (.slice A n cap) b X6 C19.out (HL.out.below B6.out)
  have c0 := rX.cell 0 _ rfl
  have c1 := rX.cell 1 _ rfl
  clear hX rX bX
  go_wp2_with (first
    | (refine wpList_load_w rfl 123 (.tmp 15) rfl T 20 rfl [.func (.func 88) #[] #[], .func (.func 89) #[] #[], .func (.func 90) #[] #[], .func (.func 91) #[] #[]] _ R.out Tryz.underlying123 rfl info_fldG ?_; simp only [Act.put, List.setIfInBounds_toArray, List.set_cons_zero, List.set_cons_succ])
    | (refine wpList_store_mid rfl 123 (.tmp 8) (.tmp 16) rfl X5.heap.size 0 [.func (.func 88) #[] #[], .func (.func 89) #[] #[], .func (.func 90) #[] #[], .func (.func 91) #[] #[]].toArray rfl rfl (Row.there (Row.new' (cs := [.nilFunc, .nilFunc, .nilFunc, .nilFunc]) rfl rfl) 0 _ (by decide)) info_fldG (by kernel_rfl) ?_; simp only [Act.put]; change wpList _ _ _ _ _ (World.setCells (World.alloc X5 (Obj.cells #[.nilFunc, .nilFunc, .nilFunc, .nilFunc] 123)) X5.heap.size 0 [.func (.func 88) #[] #[], .func (.func 89) #[] #[], .func (.func 90) #[] #[], .func (.func 91) #[] #[]]); rw [← HX.out])
    | (go_at_call 112; refine Calls.mono HC.out ?_; rintro e Wz ⟨rfl, hqq⟩; obtain rfl := hqq.symm)
    | (go_at_call 88; refine Calls.mono HZ.out ?_; rintro e Wz ⟨rfl, hqq⟩; obtain rfl := hqq.symm))
  clear HC HZ c0 c1 R HX
  rw [rounds_succ]
  obtain ⟨X7, hX, rX, bX⟩ := laidFG X6 [.func (.func 92) #[] #[], .func (.func 93) #[] #[], .func (.func 94) #[] #[], .func (.func 96) #[] #[]] rfl
  have HX : Hid (X7 = _) := hX
  have R : Hid (X6.rangeAt T 24 [.func (.func 92) #[] #[], .func (.func 93) #[] #[], .func (.func 94) #[] #[], .func (.func 96) #[] #[]]) := range_sub (Row.below HT.out B6.out HT.out.lt) 24 4 rfl
  have B7 : Hid (Below w.heap.size w X7) := B6.out.trans (bX.mono B6.out.size)
  have HC : Hid _ := con1_6 U X7 (Row.below HU.out B7.out HU.out.lt)
  have HZ : Hid _ := t_entryFields_24 k tm tk gs sd rc am A n cap b X7 C24.out (HL.out.below B7.out)
  have c0 := rX.cell 0 _ rfl
  have c1 := rX.cell 1 _ rfl
  clear hX rX bX
  go_wp2_with (first
    | (refine wpList_load_w rfl 123 (.tmp 15) rfl T 24 rfl [.func (.func 92) #[] #[], .func (.func 93) #[] #[], .func (.func 94) #[] #[], .func (.func 96) #[] #[]] _ R.out Tryz.underlying123 rfl info_fldG ?_; simp only [Act.put, List.setIfInBounds_toArray, List.set_cons_zero, List.set_cons_succ])
    | (refine wpList_store_mid rfl 123 (.tmp 8) (.tmp 16) rfl X6.heap.size 0 [.func (.func 92) #[] #[], .func (.func 93) #[] #[], .func (.func 94) #[] #[], .func (.func 96) #[] #[]].toArray rfl rfl (Row.there (Row.new' (cs := [.nilFunc, .nilFunc, .nilFunc, .nilFunc]) rfl rfl) 0 _ (by decide)) info_fldG (by kernel_rfl) ?_; simp only [Act.put]; change wpList _ _ _ _ _ (World.setCells (World.alloc X6 (Obj.cells #[.nilFunc, .nilFunc, .nilFunc, .nilFunc] 123)) X6.heap.size 0 [.func (.func 92) #[] #[], .func (.func 93) #[] #[], .func (.func 94) #[] #[], .func (.func 96) #[] #[]]); rw [← HX.out])
    | (go_at_call 112; refine Calls.mono HC.out ?_; rintro e Wz ⟨rfl, hqq⟩; obtain rfl := hqq.symm)
    | (go_at_call 93; refine Calls.mono HZ.out ?_; rintro e Wz ⟨rfl, hqq⟩; obtain rfl := hqq.symm))
  clear HC HZ c0 c1 R HX
  rw [rounds_succ]
  go_wp2_with fail
  go_ret
  exact ⟨rfl, B7.out⟩

set_option maxRecDepth 100000 in
set_option maxHeartbeats 4000000 in
theorem fitsE_2 (k tm tk gs : Int) (sd rc : List (BitVec 8)) (am : List Nat) (A : Option Addr) (n cap : Nat) (c4 : (decide (0 ≤ tm) && decide (tm ≤ 4611686018427387904)) = true) (c9 : (tk == 0) = true) (c12 : (decide (rc = (List.replicate 20 0#8))) = true) (c16 : (decide (am = (List.replicate 4 0))) = true) (c20 : (gs == 0) = true) (c23 : (decide ((n : Int) ≤ 4096)) = true) (T U b : Nat) (w : World) (hT : Row w T etab 123) (hU : Row w U [.int .i64 0, .int .i64 1, .int .i64 6] 3) (hb : En w b k sd tm tk rc am gs (.slice A n cap)) :
    Calls Tryz.prog 60 #[.slice (some ⟨T, 0, none⟩) 7 7, .pointer (some ⟨b, 0, none⟩), .slice (some ⟨U, 0, none⟩) 3 3] w fun e w' => e = .returned (.bool true) ∧ Below w.heap.size w w' := by
  have HT : Hid (Row w T etab 123) := hT
  have HU : Hid (Row w U [.int .i64 0, .int .i64 1, .int .i64 6] 3) := hU
  have HL : Hid (En w b k sd tm tk rc am gs (.slice A n cap)) := hb
  have C4 : Hid ((decide (0 ≤ tm) && decide (tm ≤ 4611686018427387904)) = true) := c4
  have C9 : Hid ((tk == 0) = true) := c9
  have C12 : Hid ((decide (rc = (List.replicate 20 0#8))) = true) := c12
  have C16 : Hid ((decide (am = (List.replicate 4 0))) = true) := c16
  have C20 : Hid ((gs == 0) = true) := c20
  have C23 : Hid ((decide ((n : Int) ≤ 4096)) = true) := c23
  clear hT hU hb c4 c9 c12 c16 c20 c23
  have B0 : Hid (Below w.heap.size w w) := Below.refl _ _
  go_enter Tryz.func60, Tryz.ntmps60
  go_wp2_with fail
  refine wp_loop_rounds 8 ?_
  rw [rounds_succ]
  obtain ⟨X1, hX, rX, bX⟩ := laidFG w [.func (.func 61) #[] #[], .func (.func 62) #[] #[], .func (.func 63) #[] #[], .func (.func 65) #[] #[]] rfl
  have HX : Hid (X1 = _) := hX
  have R : Hid (w.rangeAt T 0 [.func (.func 61) #[] #[], .func (.func 62) #[] #[], .func (.func 63) #[] #[], .func (.func 65) #[] #[]]) := range_sub (Row.below HT.out B0.out HT.out.lt) 0 4 rfl
  have B1 : Hid (Below w.heap.size w X1) := B0.out.trans (bX.mono B0.out.size)
  have HC : Hid _ := conE_0 U X1 (Row.below HU.out B1.out HU.out.lt)
  have HZ : Hid _ := anyL (.pointer (some ⟨b, 0, none⟩)) X1
  have c0 := rX.cell 0 _ rfl
  have c1 := rX.cell 1 _ rfl
  clear hX rX bX
  go_wp2_with (first
    | (refine wpList_load_w rfl 123 (.tmp 15) rfl T 0 rfl [.func (.func 61) #[] #[], .func (.func 62) #[] #[], .func (.func 63) #[] #[], .func (.func 65) #[] #[]] _ R.out Tryz.underlying123 rfl info_fldG ?_; simp only [Act.put, List.setIfInBounds_toArray, List.set_cons_zero, List.set_cons_succ])
    | (refine wpList_store_mid rfl 123 (.tmp 8) (.tmp 16) rfl w.heap.size 0 [.func (.func 61) #[] #[], .func (.func 62) #[] #[], .func (.func 63) #[] #[], .func (.func 65) #[] #[]].toArray rfl rfl (Row.there (Row.new' (cs := [.nilFunc, .nilFunc, .nilFunc, .nilFunc]) rfl rfl) 0 _ (by decide)) info_fldG (by kernel_rfl) ?_; simp only [Act.put]; change wpList _ _ _ _ _ (World.setCells (World.alloc w (Obj.cells #[.nilFunc, .nilFunc, .nilFunc, .nilFunc] 123)) w.heap.size 0 [.func (.func 61) #[] #[], .func (.func 62) #[] #[], .func (.func 63) #[] #[], .func (.func 65) #[] #[]]); rw [← HX.out])
    | (go_at_call 112; refine Calls.mono HC.out ?_; rintro e Wz ⟨rfl, hqq⟩; obtain rfl := hqq.symm)
    | (go_at_call 61; refine Calls.mono HZ.out ?_; rintro e Wz ⟨rfl, hqq⟩; obtain rfl := hqq.symm))
  clear HC HZ c0 c1 R HX
  rw [rounds_succ]
  obtain ⟨X2, hX, rX, bX⟩ := laidFG X1 [.func (.func 67) #[] #[], .func (.func 69) #[] #[], .func (.func 70) #[] #[], .func (.func 72) #[] #[]] rfl
  have HX : Hid (X2 = _) := hX
  have R : Hid (X1.rangeAt T 4 [.func (.func 67) #[] #[], .func (.func 69) #[] #[], .func (.func 70) #[] #[], .func (.func 72) #[] #[]]) := range_sub (Row.below HT.out B1.out HT.out.lt) 4 4 rfl
  have B2 : Hid (Below w.heap.size w X2) := B1.out.trans (bX.mono B1.out.size)
  have HC : Hid _ := conE_1 U X2 (Row.below HU.out B2.out HU.out.lt)
  have HZ : Hid _ := t_entryFields_4 k tm tk gs sd rc am (.slice A n cap) b X2 C4.out (HL.out.below B2.out)
  have c0 := rX.cell 0 _ rfl
  have c1 := rX.cell 1 _ rfl
  clear hX rX bX
  go_wp2_with (first
    | (refine wpList_load_w rfl 123 (.tmp 15) rfl T 4 rfl [.func (.func 67) #[] #[], .func (.func 69) #[] #[], .func (.func 70) #[] #[], .func (.func 72) #[] #[]] _ R.out Tryz.underlying123 rfl info_fldG ?_; simp only [Act.put, List.setIfInBounds_toArray, List.set_cons_zero, List.set_cons_succ])
    | (refine wpList_store_mid rfl 123 (.tmp 8) (.tmp 16) rfl X1.heap.size 0 [.func (.func 67) #[] #[], .func (.func 69) #[] #[], .func (.func 70) #[] #[], .func (.func 72) #[] #[]].toArray rfl rfl (Row.there (Row.new' (cs := [.nilFunc, .nilFunc, .nilFunc, .nilFunc]) rfl rfl) 0 _ (by decide)) info_fldG (by kernel_rfl) ?_; simp only [Act.put]; change wpList _ _ _ _ _ (World.setCells (World.alloc X1 (Obj.cells #[.nilFunc, .nilFunc, .nilFunc, .nilFunc] 123)) X1.heap.size 0 [.func (.func 67) #[] #[], .func (.func 69) #[] #[], .func (.func 70) #[] #[], .func (.func 72) #[] #[]]); rw [← HX.out])
    | (go_at_call 112; refine Calls.mono HC.out ?_; rintro e Wz ⟨rfl, hqq⟩; obtain rfl := hqq.symm)
    | (go_at_call 67; refine Calls.mono HZ.out ?_; rintro e Wz ⟨rfl, hqq⟩; obtain rfl := hqq.symm))
  clear HC HZ c0 c1 R HX
  rw [rounds_succ]
  obtain ⟨X3, hX, rX, bX⟩ := laidFG X2 [.func (.func 74) #[] #[], .func (.func 76) #[] #[], .func (.func 77) #[] #[], .func (.func 78) #[] #[]] rfl
  have HX : Hid (X3 = _) := hX
  have R : Hid (X2.rangeAt T 8 [.func (.func 74) #[] #[], .func (.func 76) #[] #[], .func (.func 77) #[] #[], .func (.func 78) #[] #[]]) := range_sub (Row.below HT.out B2.out HT.out.lt) 8 4 rfl
  have B3 : Hid (Below w.heap.size w X3) := B2.out.trans (bX.mono B2.out.size)
  have HC : Hid _ := conE_2 U X3 (Row.below HU.out B3.out HU.out.lt)
  have HZ : Hid _ := t_entryFields_9 k tm tk gs sd rc am (.slice A n cap) b X3 C9.out (HL.out.below B3.out)
  have c0 := rX.cell 0 _ rfl
  have c1 := rX.cell 1 _ rfl
  clear hX rX bX
  go_wp2_with (first
    | (refine wpList_load_w rfl 123 (.tmp 15) rfl T 8 rfl [.func (.func 74) #[] #[], .func (.func 76) #[] #[], .func (.func 77) #[] #[], .func (.func 78) #[] #[]] _ R.out Tryz.underlying123 rfl info_fldG ?_; simp only [Act.put, List.setIfInBounds_toArray, List.set_cons_zero, List.set_cons_succ])
    | (refine wpList_store_mid rfl 123 (.tmp 8) (.tmp 16) rfl X2.heap.size 0 [.func (.func 74) #[] #[], .func (.func 76) #[] #[], .func (.func 77) #[] #[], .func (.func 78) #[] #[]].toArray rfl rfl (Row.there (Row.new' (cs := [.nilFunc, .nilFunc, .nilFunc, .nilFunc]) rfl rfl) 0 _ (by decide)) info_fldG (by kernel_rfl) ?_; simp only [Act.put]; change wpList _ _ _ _ _ (World.setCells (World.alloc X2 (Obj.cells #[.nilFunc, .nilFunc, .nilFunc, .nilFunc] 123)) X2.heap.size 0 [.func (.func 74) #[] #[], .func (.func 76) #[] #[], .func (.func 77) #[] #[], .func (.func 78) #[] #[]]); rw [← HX.out])
    | (go_at_call 112; refine Calls.mono HC.out ?_; rintro e Wz ⟨rfl, hqq⟩; obtain rfl := hqq.symm)
    | (go_at_call 76; refine Calls.mono HZ.out ?_; rintro e Wz ⟨rfl, hqq⟩; obtain rfl := hqq.symm))
  clear HC HZ c0 c1 R HX
  rw [rounds_succ]
  obtain ⟨X4, hX, rX, bX⟩ := laidFG X3 [.func (.func 61) #[] #[], .func (.func 79) #[] #[], .func (.func 80) #[] #[], .func (.func 81) #[] #[]] rfl
  have HX : Hid (X4 = _) := hX
  have R : Hid (X3.rangeAt T 12 [.func (.func 61) #[] #[], .func (.func 79) #[] #[], .func (.func 80) #[] #[], .func (.func 81) #[] #[]]) := range_sub (Row.below HT.out B3.out HT.out.lt) 12 4 rfl
  have B4 : Hid (Below w.heap.size w X4) := B3.out.trans (bX.mono B3.out.size)
  have HC : Hid _ := conE_3 U X4 (Row.below HU.out B4.out HU.out.lt)
  have HZ : Hid _ := t_entryFields_12 k tm tk gs sd rc am (.slice A n cap) b X4 C12.out (HL.out.below B4.out)
  have c0 := rX.cell 0 _ rfl
  have c1 := rX.cell 1 _ rfl
  clear hX rX bX
  go_wp2_with (first
    | (refine wpList_load_w rfl 123 (.tmp 15) rfl T 12 rfl [.func (.func 61) #[] #[], .func (.func 79) #[] #[], .func (.func 80) #[] #[], .func (.func 81) #[] #[]] _ R.out Tryz.underlying123 rfl info_fldG ?_; simp only [Act.put, List.setIfInBounds_toArray, List.set_cons_zero, List.set_cons_succ])
    | (refine wpList_store_mid rfl 123 (.tmp 8) (.tmp 16) rfl X3.heap.size 0 [.func (.func 61) #[] #[], .func (.func 79) #[] #[], .func (.func 80) #[] #[], .func (.func 81) #[] #[]].toArray rfl rfl (Row.there (Row.new' (cs := [.nilFunc, .nilFunc, .nilFunc, .nilFunc]) rfl rfl) 0 _ (by decide)) info_fldG (by kernel_rfl) ?_; simp only [Act.put]; change wpList _ _ _ _ _ (World.setCells (World.alloc X3 (Obj.cells #[.nilFunc, .nilFunc, .nilFunc, .nilFunc] 123)) X3.heap.size 0 [.func (.func 61) #[] #[], .func (.func 79) #[] #[], .func (.func 80) #[] #[], .func (.func 81) #[] #[]]); rw [← HX.out])
    | (go_at_call 112; refine Calls.mono HC.out ?_; rintro e Wz ⟨rfl, hqq⟩; obtain rfl := hqq.symm)
    | (go_at_call 79; refine Calls.mono HZ.out ?_; rintro e Wz ⟨rfl, hqq⟩; obtain rfl := hqq.symm))
  clear HC HZ c0 c1 R HX
  rw [rounds_succ]
  obtain ⟨X5, hX, rX, bX⟩ := laidFG X4 [.func (.func 82) #[] #[], .func (.func 83) #[] #[], .func (.func 84) #[] #[], .func (.func 86) #[] #[]] rfl
  have HX : Hid (X5 = _) := hX
  have R : Hid (X4.rangeAt T 16 [.func (.func 82) #[] #[], .func (.func 83) #[] #[], .func (.func 84) #[] #[], .func (.func 86) #[] #[]]) := range_sub (Row.below HT.out B4.out HT.out.lt) 16 4 rfl
  have B5 : Hid (Below w.heap.size w X5) := B4.out.trans (bX.mono B4.out.size)
  have HC : Hid _ := conE_4 U X5 (Row.below HU.out B5.out HU.out.lt)
  have HZ : Hid _ := t_entryFields_16 k tm tk gs sd rc am (.slice A n cap) b X5 C16.out (HL.out.below B5.out)
  have c0 := rX.cell 0 _ rfl
  have c1 := rX.cell 1 _ rfl
  clear hX rX bX
  go_wp2_with (first
    | (refine wpList_load_w rfl 123 (.tmp 15) rfl T 16 rfl [.func (.func 82) #[] #[], .func (.func 83) #[] #[], .func (.func 84) #[] #[], .func (.func 86) #[] #[]] _ R.out Tryz.underlying123 rfl info_fldG ?_; simp only [Act.put, List.setIfInBounds_toArray, List.set_cons_zero, List.set_cons_succ])
    | (refine wpList_store_mid rfl 123 (.tmp 8) (.tmp 16) rfl X4.heap.size 0 [.func (.func 82) #[] #[], .func (.func 83) #[] #[], .func (.func 84) #[] #[], .func (.func 86) #[] #[]].toArray rfl rfl (Row.there (Row.new' (cs := [.nilFunc, .nilFunc, .nilFunc, .nilFunc]) rfl rfl) 0 _ (by decide)) info_fldG (by kernel_rfl) ?_; simp only [Act.put]; change wpList _ _ _ _ _ (World.setCells (World.alloc X4 (Obj.cells #[.nilFunc, .nilFunc, .nilFunc, .nilFunc] 123)) X4.heap.size 0 [.func (.func 82) #[] #[], .func (.func 83) #[] #[], .func (.func 84) #[] #[], .func (.func 86) #[] #[]]); rw [← HX.out])
    | (go_at_call 112; refine Calls.mono HC.out ?_; rintro e Wz ⟨rfl, hqq⟩; obtain rfl := hqq.symm)
    | (go_at_call 83; refine Calls.mono HZ.out ?_; rintro e Wz ⟨rfl, hqq⟩; obtain rfl := hqq.symm))
  clear HC HZ c0 c1 R HX
  rw [rounds_succ]
  obtain ⟨X6, hX, rX, bX⟩ := laidFG X5 [.func (.func 88) #[] #[], .func (.func 89) #[] #[], .func (.func 90) #[] #[], .func (.func 91) #[] #[]] rfl
  have HX : Hid (X6 = _) := hX
  have R : Hid (X5.rangeAt T 20 [.func (.func 88) #[] #[], .func (.func 89) #[] #[], .func (.func 90) #[] #[], .func (.func 91) #[] #[]]) := range_sub (Row.below HT.out B5.out HT.out.lt) 20 4 rfl
  have B6 : Hid (Below w.heap.size w X6) := B5.out.trans (bX.mono B5.out.size)
  have HC : Hid _ := conE_5 U X6 (Row.below HU.out B6.out HU.out.lt)
  have HZ : Hid _ := t_entryFields_20 k tm tk gs sd rc am (.slice A n cap) b X6 C20.out (HL.out.below B6.out)
  have c0 := rX.cell 0 _ rfl
  have c1 := rX.cell 1 _ rfl
  clear hX rX bX
  go_wp2_with (first
    | (refine wpList_load_w rfl 123 (.tmp 15) rfl T 20 rfl [.func (.func 88) #[] #[], .func (.func 89) #[] #[], .func (.func 90) #[] #[], .func (.func 91) #[] #[]] _ R.out Tryz.underlying123 rfl info_fldG ?_; simp only [Act.put, List.setIfInBounds_toArray, List.set_cons_zero, List.set_cons_succ])
    | (refine wpList_store_mid rfl 123 (.tmp 8) (.tmp 16) rfl X5.heap.size 0 [.func (.func 88) #[] #[], .func (.func 89) #[] #[], .func (.func 90) #[] #[], .func (.func 91) #[] #[]].toArray rfl rfl (Row.there (Row.new' (cs := [.nilFunc, .nilFunc, .nilFunc, .nilFunc]) rfl rfl) 0 _ (by decide)) info_fldG (by kernel_rfl) ?_; simp only [Act.put]; change wpList _ _ _ _ _ (World.setCells (World.alloc X5 (Obj.cells #[.nilFunc, .nilFunc, .nilFunc, .nilFunc] 123)) X5.heap.size 0 [.func (.func 88) #[] #[], .func (.func 89) #[] #[], .func (.func 90) #[] #[], .func (.func 91) #[] #[]]); rw [← HX.out])
    | (go_at_call 112; refine Calls.mono HC.out ?_; rintro e Wz ⟨rfl, hqq⟩; obtain rfl := hqq.symm)
    | (go_at_call 89; refine Calls.mono HZ.out ?_; rintro e Wz ⟨rfl, hqq⟩; obtain rfl := hqq.symm))
  clear HC HZ c0 c1 R HX
  rw [rounds_succ]
  obtain ⟨X7, hX, rX, bX⟩ := laidFG X6 [.func (.func 92) #[] #[], .func (.func 93) #[] #[], .func (.func 94) #[] #[], .func (.func 96) #[] #[]] rfl
  have HX : Hid (X7 = _) := hX
  have R : Hid (X6.rangeAt T 24 [.func (.func 92) #[] #[], .func (.func 93) #[] #[], .func (.func 94) #[] #[], .func (.func 96) #[] #[]]) := range_sub (Row.below HT.out B6.out HT.out.lt) 24 4 rfl
  have B7 : Hid (Below w.heap.size w X7) := B6.out.trans (bX.mono B6.out.size)
  have HC : Hid _ := conE_6 U X7 (Row.below HU.out B7.out HU.out.lt)
  have HZ : Hid _ := t_entryFields_23 k tm tk gs sd rc am A n cap b X7 C23.out (HL.out.below B7.out)
  have c0 := rX.cell 0 _ rfl
  have c1 := rX.cell 1 _ rfl
  clear hX rX bX
  go_wp2_with (first
    | (refine wpList_load_w rfl 123 (.tmp 15) rfl T 24 rfl [.func (.func 92) #[] #[], .func (.func 93) #[] #[], .func (.func 94) #[] #[], .func (.func 96) #[] #[]] _ R.out Tryz.underlying123 rfl info_fldG ?_; simp only [Act.put, List.setIfInBounds_toArray, List.set_cons_zero, List.set_cons_succ])
    | (refine wpList_store_mid rfl 123 (.tmp 8) (.tmp 16) rfl X6.heap.size 0 [.func (.func 92) #[] #[], .func (.func 93) #[] #[], .func (.func 94) #[] #[], .func (.func 96) #[] #[]].toArray rfl rfl (Row.there (Row.new' (cs := [.nilFunc, .nilFunc, .nilFunc, .nilFunc]) rfl rfl) 0 _ (by decide)) info_fldG (by kernel_rfl) ?_; simp only [Act.put]; change wpList _ _ _ _ _ (World.setCells (World.alloc X6 (Obj.cells #[.nilFunc, .nilFunc, .nilFunc, .nilFunc] 123)) X6.heap.size 0 [.func (.func 92) #[] #[], .func (.func 93) #[] #[], .func (.func 94) #[] #[], .func (.func 96) #[] #[]]); rw [← HX.out])
    | (go_at_call 112; refine Calls.mono HC.out ?_; rintro e Wz ⟨rfl, hqq⟩; obtain rfl := hqq.symm)
    | (go_at_call 92; refine Calls.mono HZ.out ?_; rintro e Wz ⟨rfl, hqq⟩; obtain rfl := hqq.symm))
  clear HC HZ c0 c1 R HX
  rw [rounds_succ]
  go_wp2_with fail
  go_ret
  exact ⟨rfl, B7.out⟩

end Go.Proofs.YtknabkoddickaaaGreatDoor
