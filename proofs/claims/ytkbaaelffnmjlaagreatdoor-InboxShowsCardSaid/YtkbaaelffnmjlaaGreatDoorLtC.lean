/-
  the tables of fields as lists; Contains; fits.
-/
import Derived.Test.YtkbaaelffnmjlaaGreatDoorLtB
namespace Go.Proofs.YtkbaaelffnmjlaaGreatDoor
open Go Go.RowKit
open Sha


set_option maxRecDepth 100000 in
set_option maxHeartbeats 1000000 in
theorem efields_any (w : World) : Calls Tryz.prog 57 #[] w fun e w' => ∃ N, e = .returned (.slice (some ⟨N, 0, none⟩) 7 7) ∧ Row w' N etab 134 ∧ w.heap.size ≤ N ∧ Below w.heap.size w w' := by
  go_enter Tryz.func57, Tryz.ntmps57
  go_wp2_with fail
  go_ret
  exact ⟨w.heap.size, rfl, Row.new' rfl rfl, Nat.le_refl _, (Below.refl _ _).alloc (Nat.le_refl _) _⟩

set_option maxRecDepth 100000 in
theorem con4_0 (b : Nat) (w : World) (h : Row w b [.int .i64 4] 3) : Calls Tryz.prog 119 #[.slice (some ⟨b, 0, none⟩) 1 1, .int .i64 0] w fun e w' => e = .returned (.bool false) ∧ w' = w := by
  have g0 := h.cell 0 _ rfl
  have HI : Hid (Calls Tryz.prog 141 #[.slice (some ⟨b, 0, none⟩) 1 1, .int .i64 0] w fun e w' => e = .returned (.int .i64 (-1)) ∧ w' = w) := by
    show Calls _ _ _ _ _
    go_enter Tryz.func141, Tryz.ntmps141
    go_wp2_with fail
    refine wp_loop_rounds 2 ?_
    rw [rounds_succ]
    go_wp2_with fail
    rw [rounds_succ]
    go_wp2_with fail
    go_ret
    exact ⟨rfl, rfl⟩
  clear h
  go_enter Tryz.func119, Tryz.ntmps119
  go_wp2_with (go_at_call 141; refine Calls.mono HI.out ?_; rintro e W ⟨rfl, rfl⟩)
  go_ret
  exact ⟨rfl, rfl⟩

set_option maxRecDepth 100000 in
theorem con4_1 (b : Nat) (w : World) (h : Row w b [.int .i64 4] 3) : Calls Tryz.prog 119 #[.slice (some ⟨b, 0, none⟩) 1 1, .int .i64 1] w fun e w' => e = .returned (.bool false) ∧ w' = w := by
  have g0 := h.cell 0 _ rfl
  have HI : Hid (Calls Tryz.prog 141 #[.slice (some ⟨b, 0, none⟩) 1 1, .int .i64 1] w fun e w' => e = .returned (.int .i64 (-1)) ∧ w' = w) := by
    show Calls _ _ _ _ _
    go_enter Tryz.func141, Tryz.ntmps141
    go_wp2_with fail
    refine wp_loop_rounds 2 ?_
    rw [rounds_succ]
    go_wp2_with fail
    rw [rounds_succ]
    go_wp2_with fail
    go_ret
    exact ⟨rfl, rfl⟩
  clear h
  go_enter Tryz.func119, Tryz.ntmps119
  go_wp2_with (go_at_call 141; refine Calls.mono HI.out ?_; rintro e W ⟨rfl, rfl⟩)
  go_ret
  exact ⟨rfl, rfl⟩

set_option maxRecDepth 100000 in
theorem con4_2 (b : Nat) (w : World) (h : Row w b [.int .i64 4] 3) : Calls Tryz.prog 119 #[.slice (some ⟨b, 0, none⟩) 1 1, .int .i64 2] w fun e w' => e = .returned (.bool false) ∧ w' = w := by
  have g0 := h.cell 0 _ rfl
  have HI : Hid (Calls Tryz.prog 141 #[.slice (some ⟨b, 0, none⟩) 1 1, .int .i64 2] w fun e w' => e = .returned (.int .i64 (-1)) ∧ w' = w) := by
    show Calls _ _ _ _ _
    go_enter Tryz.func141, Tryz.ntmps141
    go_wp2_with fail
    refine wp_loop_rounds 2 ?_
    rw [rounds_succ]
    go_wp2_with fail
    rw [rounds_succ]
    go_wp2_with fail
    go_ret
    exact ⟨rfl, rfl⟩
  clear h
  go_enter Tryz.func119, Tryz.ntmps119
  go_wp2_with (go_at_call 141; refine Calls.mono HI.out ?_; rintro e W ⟨rfl, rfl⟩)
  go_ret
  exact ⟨rfl, rfl⟩

set_option maxRecDepth 100000 in
theorem con4_3 (b : Nat) (w : World) (h : Row w b [.int .i64 4] 3) : Calls Tryz.prog 119 #[.slice (some ⟨b, 0, none⟩) 1 1, .int .i64 3] w fun e w' => e = .returned (.bool false) ∧ w' = w := by
  have g0 := h.cell 0 _ rfl
  have HI : Hid (Calls Tryz.prog 141 #[.slice (some ⟨b, 0, none⟩) 1 1, .int .i64 3] w fun e w' => e = .returned (.int .i64 (-1)) ∧ w' = w) := by
    show Calls _ _ _ _ _
    go_enter Tryz.func141, Tryz.ntmps141
    go_wp2_with fail
    refine wp_loop_rounds 2 ?_
    rw [rounds_succ]
    go_wp2_with fail
    rw [rounds_succ]
    go_wp2_with fail
    go_ret
    exact ⟨rfl, rfl⟩
  clear h
  go_enter Tryz.func119, Tryz.ntmps119
  go_wp2_with (go_at_call 141; refine Calls.mono HI.out ?_; rintro e W ⟨rfl, rfl⟩)
  go_ret
  exact ⟨rfl, rfl⟩

set_option maxRecDepth 100000 in
theorem con4_4 (b : Nat) (w : World) (h : Row w b [.int .i64 4] 3) : Calls Tryz.prog 119 #[.slice (some ⟨b, 0, none⟩) 1 1, .int .i64 4] w fun e w' => e = .returned (.bool true) ∧ w' = w := by
  have g0 := h.cell 0 _ rfl
  have HI : Hid (Calls Tryz.prog 141 #[.slice (some ⟨b, 0, none⟩) 1 1, .int .i64 4] w fun e w' => e = .returned (.int .i64 (0)) ∧ w' = w) := by
    show Calls _ _ _ _ _
    go_enter Tryz.func141, Tryz.ntmps141
    go_wp2_with fail
    refine wp_loop_rounds 1 ?_
    rw [rounds_succ]
    go_wp2_with fail
    go_ret
    exact ⟨rfl, rfl⟩
  clear h
  go_enter Tryz.func119, Tryz.ntmps119
  go_wp2_with (go_at_call 141; refine Calls.mono HI.out ?_; rintro e W ⟨rfl, rfl⟩)
  go_ret
  exact ⟨rfl, rfl⟩

set_option maxRecDepth 100000 in
theorem con4_5 (b : Nat) (w : World) (h : Row w b [.int .i64 4] 3) : Calls Tryz.prog 119 #[.slice (some ⟨b, 0, none⟩) 1 1, .int .i64 5] w fun e w' => e = .returned (.bool false) ∧ w' = w := by
  have g0 := h.cell 0 _ rfl
  have HI : Hid (Calls Tryz.prog 141 #[.slice (some ⟨b, 0, none⟩) 1 1, .int .i64 5] w fun e w' => e = .returned (.int .i64 (-1)) ∧ w' = w) := by
    show Calls _ _ _ _ _
    go_enter Tryz.func141, Tryz.ntmps141
    go_wp2_with fail
    refine wp_loop_rounds 2 ?_
    rw [rounds_succ]
    go_wp2_with fail
    rw [rounds_succ]
    go_wp2_with fail
    go_ret
    exact ⟨rfl, rfl⟩
  clear h
  go_enter Tryz.func119, Tryz.ntmps119
  go_wp2_with (go_at_call 141; refine Calls.mono HI.out ?_; rintro e W ⟨rfl, rfl⟩)
  go_ret
  exact ⟨rfl, rfl⟩

set_option maxRecDepth 100000 in
theorem con4_6 (b : Nat) (w : World) (h : Row w b [.int .i64 4] 3) : Calls Tryz.prog 119 #[.slice (some ⟨b, 0, none⟩) 1 1, .int .i64 6] w fun e w' => e = .returned (.bool false) ∧ w' = w := by
  have g0 := h.cell 0 _ rfl
  have HI : Hid (Calls Tryz.prog 141 #[.slice (some ⟨b, 0, none⟩) 1 1, .int .i64 6] w fun e w' => e = .returned (.int .i64 (-1)) ∧ w' = w) := by
    show Calls _ _ _ _ _
    go_enter Tryz.func141, Tryz.ntmps141
    go_wp2_with fail
    refine wp_loop_rounds 2 ?_
    rw [rounds_succ]
    go_wp2_with fail
    rw [rounds_succ]
    go_wp2_with fail
    go_ret
    exact ⟨rfl, rfl⟩
  clear h
  go_enter Tryz.func119, Tryz.ntmps119
  go_wp2_with (go_at_call 141; refine Calls.mono HI.out ?_; rintro e W ⟨rfl, rfl⟩)
  go_ret
  exact ⟨rfl, rfl⟩

set_option maxRecDepth 100000 in
theorem con4_7 (b : Nat) (w : World) (h : Row w b [.int .i64 4] 3) : Calls Tryz.prog 119 #[.slice (some ⟨b, 0, none⟩) 1 1, .int .i64 7] w fun e w' => e = .returned (.bool false) ∧ w' = w := by
  have g0 := h.cell 0 _ rfl
  have HI : Hid (Calls Tryz.prog 141 #[.slice (some ⟨b, 0, none⟩) 1 1, .int .i64 7] w fun e w' => e = .returned (.int .i64 (-1)) ∧ w' = w) := by
    show Calls _ _ _ _ _
    go_enter Tryz.func141, Tryz.ntmps141
    go_wp2_with fail
    refine wp_loop_rounds 2 ?_
    rw [rounds_succ]
    go_wp2_with fail
    rw [rounds_succ]
    go_wp2_with fail
    go_ret
    exact ⟨rfl, rfl⟩
  clear h
  go_enter Tryz.func119, Tryz.ntmps119
  go_wp2_with (go_at_call 141; refine Calls.mono HI.out ?_; rintro e W ⟨rfl, rfl⟩)
  go_ret
  exact ⟨rfl, rfl⟩

set_option maxRecDepth 100000 in
theorem con4_8 (b : Nat) (w : World) (h : Row w b [.int .i64 4] 3) : Calls Tryz.prog 119 #[.slice (some ⟨b, 0, none⟩) 1 1, .int .i64 8] w fun e w' => e = .returned (.bool false) ∧ w' = w := by
  have g0 := h.cell 0 _ rfl
  have HI : Hid (Calls Tryz.prog 141 #[.slice (some ⟨b, 0, none⟩) 1 1, .int .i64 8] w fun e w' => e = .returned (.int .i64 (-1)) ∧ w' = w) := by
    show Calls _ _ _ _ _
    go_enter Tryz.func141, Tryz.ntmps141
    go_wp2_with fail
    refine wp_loop_rounds 2 ?_
    rw [rounds_succ]
    go_wp2_with fail
    rw [rounds_succ]
    go_wp2_with fail
    go_ret
    exact ⟨rfl, rfl⟩
  clear h
  go_enter Tryz.func119, Tryz.ntmps119
  go_wp2_with (go_at_call 141; refine Calls.mono HI.out ?_; rintro e W ⟨rfl, rfl⟩)
  go_ret
  exact ⟨rfl, rfl⟩

set_option maxRecDepth 100000 in
theorem con0_0 (b : Nat) (w : World) (h : Row w b [.int .i64 0] 3) : Calls Tryz.prog 119 #[.slice (some ⟨b, 0, none⟩) 1 1, .int .i64 0] w fun e w' => e = .returned (.bool true) ∧ w' = w := by
  have g0 := h.cell 0 _ rfl
  have HI : Hid (Calls Tryz.prog 141 #[.slice (some ⟨b, 0, none⟩) 1 1, .int .i64 0] w fun e w' => e = .returned (.int .i64 (0)) ∧ w' = w) := by
    show Calls _ _ _ _ _
    go_enter Tryz.func141, Tryz.ntmps141
    go_wp2_with fail
    refine wp_loop_rounds 1 ?_
    rw [rounds_succ]
    go_wp2_with fail
    go_ret
    exact ⟨rfl, rfl⟩
  clear h
  go_enter Tryz.func119, Tryz.ntmps119
  go_wp2_with (go_at_call 141; refine Calls.mono HI.out ?_; rintro e W ⟨rfl, rfl⟩)
  go_ret
  exact ⟨rfl, rfl⟩

set_option maxRecDepth 100000 in
theorem con0_1 (b : Nat) (w : World) (h : Row w b [.int .i64 0] 3) : Calls Tryz.prog 119 #[.slice (some ⟨b, 0, none⟩) 1 1, .int .i64 1] w fun e w' => e = .returned (.bool false) ∧ w' = w := by
  have g0 := h.cell 0 _ rfl
  have HI : Hid (Calls Tryz.prog 141 #[.slice (some ⟨b, 0, none⟩) 1 1, .int .i64 1] w fun e w' => e = .returned (.int .i64 (-1)) ∧ w' = w) := by
    show Calls _ _ _ _ _
    go_enter Tryz.func141, Tryz.ntmps141
    go_wp2_with fail
    refine wp_loop_rounds 2 ?_
    rw [rounds_succ]
    go_wp2_with fail
    rw [rounds_succ]
    go_wp2_with fail
    go_ret
    exact ⟨rfl, rfl⟩
  clear h
  go_enter Tryz.func119, Tryz.ntmps119
  go_wp2_with (go_at_call 141; refine Calls.mono HI.out ?_; rintro e W ⟨rfl, rfl⟩)
  go_ret
  exact ⟨rfl, rfl⟩

set_option maxRecDepth 100000 in
theorem con0_2 (b : Nat) (w : World) (h : Row w b [.int .i64 0] 3) : Calls Tryz.prog 119 #[.slice (some ⟨b, 0, none⟩) 1 1, .int .i64 2] w fun e w' => e = .returned (.bool false) ∧ w' = w := by
  have g0 := h.cell 0 _ rfl
  have HI : Hid (Calls Tryz.prog 141 #[.slice (some ⟨b, 0, none⟩) 1 1, .int .i64 2] w fun e w' => e = .returned (.int .i64 (-1)) ∧ w' = w) := by
    show Calls _ _ _ _ _
    go_enter Tryz.func141, Tryz.ntmps141
    go_wp2_with fail
    refine wp_loop_rounds 2 ?_
    rw [rounds_succ]
    go_wp2_with fail
    rw [rounds_succ]
    go_wp2_with fail
    go_ret
    exact ⟨rfl, rfl⟩
  clear h
  go_enter Tryz.func119, Tryz.ntmps119
  go_wp2_with (go_at_call 141; refine Calls.mono HI.out ?_; rintro e W ⟨rfl, rfl⟩)
  go_ret
  exact ⟨rfl, rfl⟩

set_option maxRecDepth 100000 in
theorem con0_3 (b : Nat) (w : World) (h : Row w b [.int .i64 0] 3) : Calls Tryz.prog 119 #[.slice (some ⟨b, 0, none⟩) 1 1, .int .i64 3] w fun e w' => e = .returned (.bool false) ∧ w' = w := by
  have g0 := h.cell 0 _ rfl
  have HI : Hid (Calls Tryz.prog 141 #[.slice (some ⟨b, 0, none⟩) 1 1, .int .i64 3] w fun e w' => e = .returned (.int .i64 (-1)) ∧ w' = w) := by
    show Calls _ _ _ _ _
    go_enter Tryz.func141, Tryz.ntmps141
    go_wp2_with fail
    refine wp_loop_rounds 2 ?_
    rw [rounds_succ]
    go_wp2_with fail
    rw [rounds_succ]
    go_wp2_with fail
    go_ret
    exact ⟨rfl, rfl⟩
  clear h
  go_enter Tryz.func119, Tryz.ntmps119
  go_wp2_with (go_at_call 141; refine Calls.mono HI.out ?_; rintro e W ⟨rfl, rfl⟩)
  go_ret
  exact ⟨rfl, rfl⟩

set_option maxRecDepth 100000 in
theorem con0_4 (b : Nat) (w : World) (h : Row w b [.int .i64 0] 3) : Calls Tryz.prog 119 #[.slice (some ⟨b, 0, none⟩) 1 1, .int .i64 4] w fun e w' => e = .returned (.bool false) ∧ w' = w := by
  have g0 := h.cell 0 _ rfl
  have HI : Hid (Calls Tryz.prog 141 #[.slice (some ⟨b, 0, none⟩) 1 1, .int .i64 4] w fun e w' => e = .returned (.int .i64 (-1)) ∧ w' = w) := by
    show Calls _ _ _ _ _
    go_enter Tryz.func141, Tryz.ntmps141
    go_wp2_with fail
    refine wp_loop_rounds 2 ?_
    rw [rounds_succ]
    go_wp2_with fail
    rw [rounds_succ]
    go_wp2_with fail
    go_ret
    exact ⟨rfl, rfl⟩
  clear h
  go_enter Tryz.func119, Tryz.ntmps119
  go_wp2_with (go_at_call 141; refine Calls.mono HI.out ?_; rintro e W ⟨rfl, rfl⟩)
  go_ret
  exact ⟨rfl, rfl⟩

set_option maxRecDepth 100000 in
theorem con0_5 (b : Nat) (w : World) (h : Row w b [.int .i64 0] 3) : Calls Tryz.prog 119 #[.slice (some ⟨b, 0, none⟩) 1 1, .int .i64 5] w fun e w' => e = .returned (.bool false) ∧ w' = w := by
  have g0 := h.cell 0 _ rfl
  have HI : Hid (Calls Tryz.prog 141 #[.slice (some ⟨b, 0, none⟩) 1 1, .int .i64 5] w fun e w' => e = .returned (.int .i64 (-1)) ∧ w' = w) := by
    show Calls _ _ _ _ _
    go_enter Tryz.func141, Tryz.ntmps141
    go_wp2_with fail
    refine wp_loop_rounds 2 ?_
    rw [rounds_succ]
    go_wp2_with fail
    rw [rounds_succ]
    go_wp2_with fail
    go_ret
    exact ⟨rfl, rfl⟩
  clear h
  go_enter Tryz.func119, Tryz.ntmps119
  go_wp2_with (go_at_call 141; refine Calls.mono HI.out ?_; rintro e W ⟨rfl, rfl⟩)
  go_ret
  exact ⟨rfl, rfl⟩

set_option maxRecDepth 100000 in
theorem con0_6 (b : Nat) (w : World) (h : Row w b [.int .i64 0] 3) : Calls Tryz.prog 119 #[.slice (some ⟨b, 0, none⟩) 1 1, .int .i64 6] w fun e w' => e = .returned (.bool false) ∧ w' = w := by
  have g0 := h.cell 0 _ rfl
  have HI : Hid (Calls Tryz.prog 141 #[.slice (some ⟨b, 0, none⟩) 1 1, .int .i64 6] w fun e w' => e = .returned (.int .i64 (-1)) ∧ w' = w) := by
    show Calls _ _ _ _ _
    go_enter Tryz.func141, Tryz.ntmps141
    go_wp2_with fail
    refine wp_loop_rounds 2 ?_
    rw [rounds_succ]
    go_wp2_with fail
    rw [rounds_succ]
    go_wp2_with fail
    go_ret
    exact ⟨rfl, rfl⟩
  clear h
  go_enter Tryz.func119, Tryz.ntmps119
  go_wp2_with (go_at_call 141; refine Calls.mono HI.out ?_; rintro e W ⟨rfl, rfl⟩)
  go_ret
  exact ⟨rfl, rfl⟩

set_option maxRecDepth 100000 in
theorem con0_7 (b : Nat) (w : World) (h : Row w b [.int .i64 0] 3) : Calls Tryz.prog 119 #[.slice (some ⟨b, 0, none⟩) 1 1, .int .i64 7] w fun e w' => e = .returned (.bool false) ∧ w' = w := by
  have g0 := h.cell 0 _ rfl
  have HI : Hid (Calls Tryz.prog 141 #[.slice (some ⟨b, 0, none⟩) 1 1, .int .i64 7] w fun e w' => e = .returned (.int .i64 (-1)) ∧ w' = w) := by
    show Calls _ _ _ _ _
    go_enter Tryz.func141, Tryz.ntmps141
    go_wp2_with fail
    refine wp_loop_rounds 2 ?_
    rw [rounds_succ]
    go_wp2_with fail
    rw [rounds_succ]
    go_wp2_with fail
    go_ret
    exact ⟨rfl, rfl⟩
  clear h
  go_enter Tryz.func119, Tryz.ntmps119
  go_wp2_with (go_at_call 141; refine Calls.mono HI.out ?_; rintro e W ⟨rfl, rfl⟩)
  go_ret
  exact ⟨rfl, rfl⟩

set_option maxRecDepth 100000 in
theorem con0_8 (b : Nat) (w : World) (h : Row w b [.int .i64 0] 3) : Calls Tryz.prog 119 #[.slice (some ⟨b, 0, none⟩) 1 1, .int .i64 8] w fun e w' => e = .returned (.bool false) ∧ w' = w := by
  have g0 := h.cell 0 _ rfl
  have HI : Hid (Calls Tryz.prog 141 #[.slice (some ⟨b, 0, none⟩) 1 1, .int .i64 8] w fun e w' => e = .returned (.int .i64 (-1)) ∧ w' = w) := by
    show Calls _ _ _ _ _
    go_enter Tryz.func141, Tryz.ntmps141
    go_wp2_with fail
    refine wp_loop_rounds 2 ?_
    rw [rounds_succ]
    go_wp2_with fail
    rw [rounds_succ]
    go_wp2_with fail
    go_ret
    exact ⟨rfl, rfl⟩
  clear h
  go_enter Tryz.func119, Tryz.ntmps119
  go_wp2_with (go_at_call 141; refine Calls.mono HI.out ?_; rintro e W ⟨rfl, rfl⟩)
  go_ret
  exact ⟨rfl, rfl⟩

set_option maxRecDepth 100000 in
theorem conE_0 (b : Nat) (w : World) (h : Row w b [.int .i64 0, .int .i64 1, .int .i64 6] 3) : Calls Tryz.prog 119 #[.slice (some ⟨b, 0, none⟩) 3 3, .int .i64 0] w fun e w' => e = .returned (.bool true) ∧ w' = w := by
  have g0 := h.cell 0 _ rfl
  have g1 := h.cell 1 _ rfl
  have g2 := h.cell 2 _ rfl
  have HI : Hid (Calls Tryz.prog 141 #[.slice (some ⟨b, 0, none⟩) 3 3, .int .i64 0] w fun e w' => e = .returned (.int .i64 (0)) ∧ w' = w) := by
    show Calls _ _ _ _ _
    go_enter Tryz.func141, Tryz.ntmps141
    go_wp2_with fail
    refine wp_loop_rounds 1 ?_
    rw [rounds_succ]
    go_wp2_with fail
    go_ret
    exact ⟨rfl, rfl⟩
  clear h
  go_enter Tryz.func119, Tryz.ntmps119
  go_wp2_with (go_at_call 141; refine Calls.mono HI.out ?_; rintro e W ⟨rfl, rfl⟩)
  go_ret
  exact ⟨rfl, rfl⟩

set_option maxRecDepth 100000 in
theorem conE_1 (b : Nat) (w : World) (h : Row w b [.int .i64 0, .int .i64 1, .int .i64 6] 3) : Calls Tryz.prog 119 #[.slice (some ⟨b, 0, none⟩) 3 3, .int .i64 1] w fun e w' => e = .returned (.bool true) ∧ w' = w := by
  have g0 := h.cell 0 _ rfl
  have g1 := h.cell 1 _ rfl
  have g2 := h.cell 2 _ rfl
  have HI : Hid (Calls Tryz.prog 141 #[.slice (some ⟨b, 0, none⟩) 3 3, .int .i64 1] w fun e w' => e = .returned (.int .i64 (1)) ∧ w' = w) := by
    show Calls _ _ _ _ _
    go_enter Tryz.func141, Tryz.ntmps141
    go_wp2_with fail
    refine wp_loop_rounds 2 ?_
    rw [rounds_succ]
    go_wp2_with fail
    rw [rounds_succ]
    go_wp2_with fail
    go_ret
    exact ⟨rfl, rfl⟩
  clear h
  go_enter Tryz.func119, Tryz.ntmps119
  go_wp2_with (go_at_call 141; refine Calls.mono HI.out ?_; rintro e W ⟨rfl, rfl⟩)
  go_ret
  exact ⟨rfl, rfl⟩

set_option maxRecDepth 100000 in
theorem conE_2 (b : Nat) (w : World) (h : Row w b [.int .i64 0, .int .i64 1, .int .i64 6] 3) : Calls Tryz.prog 119 #[.slice (some ⟨b, 0, none⟩) 3 3, .int .i64 2] w fun e w' => e = .returned (.bool false) ∧ w' = w := by
  have g0 := h.cell 0 _ rfl
  have g1 := h.cell 1 _ rfl
  have g2 := h.cell 2 _ rfl
  have HI : Hid (Calls Tryz.prog 141 #[.slice (some ⟨b, 0, none⟩) 3 3, .int .i64 2] w fun e w' => e = .returned (.int .i64 (-1)) ∧ w' = w) := by
    show Calls _ _ _ _ _
    go_enter Tryz.func141, Tryz.ntmps141
    go_wp2_with fail
    refine wp_loop_rounds 4 ?_
    rw [rounds_succ]
    go_wp2_with fail
    rw [rounds_succ]
    go_wp2_with fail
    rw [rounds_succ]
    go_wp2_with fail
    rw [rounds_succ]
    go_wp2_with fail
    go_ret
    exact ⟨rfl, rfl⟩
  clear h
  go_enter Tryz.func119, Tryz.ntmps119
  go_wp2_with (go_at_call 141; refine Calls.mono HI.out ?_; rintro e W ⟨rfl, rfl⟩)
  go_ret
  exact ⟨rfl, rfl⟩

set_option maxRecDepth 100000 in
theorem conE_3 (b : Nat) (w : World) (h : Row w b [.int .i64 0, .int .i64 1, .int .i64 6] 3) : Calls Tryz.prog 119 #[.slice (some ⟨b, 0, none⟩) 3 3, .int .i64 3] w fun e w' => e = .returned (.bool false) ∧ w' = w := by
  have g0 := h.cell 0 _ rfl
  have g1 := h.cell 1 _ rfl
  have g2 := h.cell 2 _ rfl
  have HI : Hid (Calls Tryz.prog 141 #[.slice (some ⟨b, 0, none⟩) 3 3, .int .i64 3] w fun e w' => e = .returned (.int .i64 (-1)) ∧ w' = w) := by
    show Calls _ _ _ _ _
    go_enter Tryz.func141, Tryz.ntmps141
    go_wp2_with fail
    refine wp_loop_rounds 4 ?_
    rw [rounds_succ]
    go_wp2_with fail
    rw [rounds_succ]
    go_wp2_with fail
    rw [rounds_succ]
    go_wp2_with fail
    rw [rounds_succ]
    go_wp2_with fail
    go_ret
    exact ⟨rfl, rfl⟩
  clear h
  go_enter Tryz.func119, Tryz.ntmps119
  go_wp2_with (go_at_call 141; refine Calls.mono HI.out ?_; rintro e W ⟨rfl, rfl⟩)
  go_ret
  exact ⟨rfl, rfl⟩

set_option maxRecDepth 100000 in
theorem conE_4 (b : Nat) (w : World) (h : Row w b [.int .i64 0, .int .i64 1, .int .i64 6] 3) : Calls Tryz.prog 119 #[.slice (some ⟨b, 0, none⟩) 3 3, .int .i64 4] w fun e w' => e = .returned (.bool false) ∧ w' = w := by
  have g0 := h.cell 0 _ rfl
  have g1 := h.cell 1 _ rfl
  have g2 := h.cell 2 _ rfl
  have HI : Hid (Calls Tryz.prog 141 #[.slice (some ⟨b, 0, none⟩) 3 3, .int .i64 4] w fun e w' => e = .returned (.int .i64 (-1)) ∧ w' = w) := by
    show Calls _ _ _ _ _
    go_enter Tryz.func141, Tryz.ntmps141
    go_wp2_with fail
    refine wp_loop_rounds 4 ?_
    rw [rounds_succ]
    go_wp2_with fail
    rw [rounds_succ]
    go_wp2_with fail
    rw [rounds_succ]
    go_wp2_with fail
    rw [rounds_succ]
    go_wp2_with fail
    go_ret
    exact ⟨rfl, rfl⟩
  clear h
  go_enter Tryz.func119, Tryz.ntmps119
  go_wp2_with (go_at_call 141; refine Calls.mono HI.out ?_; rintro e W ⟨rfl, rfl⟩)
  go_ret
  exact ⟨rfl, rfl⟩

set_option maxRecDepth 100000 in
theorem conE_5 (b : Nat) (w : World) (h : Row w b [.int .i64 0, .int .i64 1, .int .i64 6] 3) : Calls Tryz.prog 119 #[.slice (some ⟨b, 0, none⟩) 3 3, .int .i64 5] w fun e w' => e = .returned (.bool false) ∧ w' = w := by
  have g0 := h.cell 0 _ rfl
  have g1 := h.cell 1 _ rfl
  have g2 := h.cell 2 _ rfl
  have HI : Hid (Calls Tryz.prog 141 #[.slice (some ⟨b, 0, none⟩) 3 3, .int .i64 5] w fun e w' => e = .returned (.int .i64 (-1)) ∧ w' = w) := by
    show Calls _ _ _ _ _
    go_enter Tryz.func141, Tryz.ntmps141
    go_wp2_with fail
    refine wp_loop_rounds 4 ?_
    rw [rounds_succ]
    go_wp2_with fail
    rw [rounds_succ]
    go_wp2_with fail
    rw [rounds_succ]
    go_wp2_with fail
    rw [rounds_succ]
    go_wp2_with fail
    go_ret
    exact ⟨rfl, rfl⟩
  clear h
  go_enter Tryz.func119, Tryz.ntmps119
  go_wp2_with (go_at_call 141; refine Calls.mono HI.out ?_; rintro e W ⟨rfl, rfl⟩)
  go_ret
  exact ⟨rfl, rfl⟩

set_option maxRecDepth 100000 in
theorem conE_6 (b : Nat) (w : World) (h : Row w b [.int .i64 0, .int .i64 1, .int .i64 6] 3) : Calls Tryz.prog 119 #[.slice (some ⟨b, 0, none⟩) 3 3, .int .i64 6] w fun e w' => e = .returned (.bool true) ∧ w' = w := by
  have g0 := h.cell 0 _ rfl
  have g1 := h.cell 1 _ rfl
  have g2 := h.cell 2 _ rfl
  have HI : Hid (Calls Tryz.prog 141 #[.slice (some ⟨b, 0, none⟩) 3 3, .int .i64 6] w fun e w' => e = .returned (.int .i64 (2)) ∧ w' = w) := by
    show Calls _ _ _ _ _
    go_enter Tryz.func141, Tryz.ntmps141
    go_wp2_with fail
    refine wp_loop_rounds 3 ?_
    rw [rounds_succ]
    go_wp2_with fail
    rw [rounds_succ]
    go_wp2_with fail
    rw [rounds_succ]
    go_wp2_with fail
    go_ret
    exact ⟨rfl, rfl⟩
  clear h
  go_enter Tryz.func119, Tryz.ntmps119
  go_wp2_with (go_at_call 141; refine Calls.mono HI.out ?_; rintro e W ⟨rfl, rfl⟩)
  go_ret
  exact ⟨rfl, rfl⟩

end Go.Proofs.YtkbaaelffnmjlaaGreatDoor
