/-
  causewayref10.Size, by cases.
-/
import Derived.Test.YtclbiophgnkggaaGreatDoorMkA
import Derived.BigQuiet
namespace Go.Proofs.YtclbiophgnkggaaGreatDoor
open Go Go.RowKit
open Sha

set_option maxRecDepth 100000 in
set_option maxHeartbeats 4000000 in
theorem size_big (g o n cap p c : Nat) (hp : p < n) (_hn : n ≤ 1024) (w : World) (c0 : w.cell? ⟨g, o + p, none⟩ = some (.int .u8 (c : Int))) (hc : 28 ≤ c) (hc2 : c < 256) : Calls Tryz.prog 24 #[.slice (some ⟨g, o, none⟩) n cap, .int .i64 (p : Int)] w fun e w' => e = .returned (.int .i64 0) ∧ w' = w := by
  have e28 : (28 : Int) ≤ (c : Int) := by omega
  go_enter Tryz.func24, Tryz.ntmps24
  go_wp2
  go_ret
  exact ⟨rfl, rfl⟩
set_option maxRecDepth 100000 in
set_option maxHeartbeats 4000000 in
theorem size_one (g o n cap p c : Nat) (hp : p < n) (hn : n ≤ 1024) (w : World) (c0 : w.cell? ⟨g, o + p, none⟩ = some (.int .u8 (c : Int))) (hc : c < 28) (h2 : c ≠ 2) (h4 : c ≠ 4) (h5 : c ≠ 5) (h16 : c ≠ 16) (h14 : c ≠ 14) (h15 : c ≠ 15) : Calls Tryz.prog 24 #[.slice (some ⟨g, o, none⟩) n cap, .int .i64 (p : Int)] w fun e w' => e = .returned (.int .i64 1) ∧ w' = w := by
  have e28 : ¬ ((28 : Int) ≤ (c : Int)) := by omega
  have el : ¬ ((n : Int) < (p : Int) + 1) := by omega
  have e2 : ((c : Int) == 2) = false := by simp; omega
  have e4 : ((c : Int) == 4) = false := by simp; omega
  have e5 : ((c : Int) == 5) = false := by simp; omega
  have e16 : ((c : Int) == 16) = false := by simp; omega
  have e14 : ((c : Int) == 14) = false := by simp; omega
  have e15 : ((c : Int) == 15) = false := by simp; omega
  clear h2 h4 h5 h16 h14 h15 hc
  go_enter Tryz.func24, Tryz.ntmps24
  go_wp2
  go_ret
  exact ⟨rfl, rfl⟩
set_option maxRecDepth 100000 in
set_option maxHeartbeats 4000000 in
theorem size_push_end (g o n cap p c : Nat) (hp : p < n) (hn : n ≤ 1024) (w : World) (c0 : w.cell? ⟨g, o + p, none⟩ = some (.int .u8 (c : Int))) (hc : c = 2) (h1 : p + 1 = n) : Calls Tryz.prog 24 #[.slice (some ⟨g, o, none⟩) n cap, .int .i64 (p : Int)] w fun e w' => e = .returned (.int .i64 0) ∧ w' = w := by
  subst hc
  have el : (n : Int) ≤ (p : Int) + 1 := by omega
  go_enter Tryz.func24, Tryz.ntmps24
  go_wp2
  go_ret
  exact ⟨rfl, rfl⟩
set_option maxRecDepth 100000 in
set_option maxHeartbeats 4000000 in
theorem size_push_low (g o n cap p c : Nat) (hp : p < n) (hn : n ≤ 1024) (w : World) (c0 : w.cell? ⟨g, o + p, none⟩ = some (.int .u8 (c : Int))) (hc : c = 2) (y : Nat) (h1 : p + 1 < n) (c1 : w.cell? ⟨g, o + (p + 1), none⟩ = some (.int .u8 (y : Int))) (hy : y < 1) : Calls Tryz.prog 24 #[.slice (some ⟨g, o, none⟩) n cap, .int .i64 (p : Int)] w fun e w' => e = .returned (.int .i64 0) ∧ w' = w := by
  subst hc
  have el : ¬ ((n : Int) ≤ (p : Int) + 1) := by omega
  have el2 : (p : Int) + 1 < (n : Int) := by omega
  have ey : (y : Int) < 1 := by omega
  go_enter Tryz.func24, Tryz.ntmps24
  go_wp2
  go_ret
  exact ⟨rfl, rfl⟩
set_option maxRecDepth 100000 in
set_option maxHeartbeats 4000000 in
theorem size_push_high (g o n cap p c : Nat) (hp : p < n) (hn : n ≤ 1024) (w : World) (c0 : w.cell? ⟨g, o + p, none⟩ = some (.int .u8 (c : Int))) (hc : c = 2) (y : Nat) (h1 : p + 1 < n) (c1 : w.cell? ⟨g, o + (p + 1), none⟩ = some (.int .u8 (y : Int))) (hy : 32 < y) : Calls Tryz.prog 24 #[.slice (some ⟨g, o, none⟩) n cap, .int .i64 (p : Int)] w fun e w' => e = .returned (.int .i64 0) ∧ w' = w := by
  subst hc
  have el : ¬ ((n : Int) ≤ (p : Int) + 1) := by omega
  have el2 : (p : Int) + 1 < (n : Int) := by omega
  have ey : ¬ ((y : Int) < 1) := by omega
  have ez : (32 : Int) < (y : Int) := by omega
  go_enter Tryz.func24, Tryz.ntmps24
  go_wp2
  go_ret
  exact ⟨rfl, rfl⟩
set_option maxRecDepth 100000 in
set_option maxHeartbeats 4000000 in
theorem size_push_cut (g o n cap p c : Nat) (hp : p < n) (hn : n ≤ 1024) (w : World) (c0 : w.cell? ⟨g, o + p, none⟩ = some (.int .u8 (c : Int))) (hc : c = 2) (y : Nat) (h1 : p + 1 < n) (c1 : w.cell? ⟨g, o + (p + 1), none⟩ = some (.int .u8 (y : Int))) (hy : 1 ≤ y) (hz : y ≤ 32) (hl : n < p + (2 + y)) : Calls Tryz.prog 24 #[.slice (some ⟨g, o, none⟩) n cap, .int .i64 (p : Int)] w fun e w' => e = .returned (.int .i64 0) ∧ w' = w := by
  subst hc
  have el : ¬ ((n : Int) ≤ (p : Int) + 1) := by omega
  have el2 : (p : Int) + 1 < (n : Int) := by omega
  have ey : ¬ ((y : Int) < 1) := by omega
  have ez : ¬ ((32 : Int) < (y : Int)) := by omega
  have el3 : (n : Int) < (p : Int) + (2 + (y : Int)) := by omega
  go_enter Tryz.func24, Tryz.ntmps24
  go_wp2
  go_ret
  exact ⟨rfl, rfl⟩
set_option maxRecDepth 100000 in
set_option maxHeartbeats 4000000 in
theorem size_push (g o n cap p c : Nat) (hp : p < n) (hn : n ≤ 1024) (w : World) (c0 : w.cell? ⟨g, o + p, none⟩ = some (.int .u8 (c : Int))) (hc : c = 2) (y : Nat) (h1 : p + 1 < n) (c1 : w.cell? ⟨g, o + (p + 1), none⟩ = some (.int .u8 (y : Int))) (hy : 1 ≤ y) (hz : y ≤ 32) (hl : p + (2 + y) ≤ n) : Calls Tryz.prog 24 #[.slice (some ⟨g, o, none⟩) n cap, .int .i64 (p : Int)] w fun e w' => e = .returned (.int .i64 ((2 + y : Nat) : Int)) ∧ w' = w := by
  subst hc
  have el : ¬ ((n : Int) ≤ (p : Int) + 1) := by omega
  have el2 : (p : Int) + 1 < (n : Int) := by omega
  have ey : ¬ ((y : Int) < 1) := by omega
  have ez : ¬ ((32 : Int) < (y : Int)) := by omega
  have el3 : ¬ ((n : Int) < (p : Int) + (2 + (y : Int))) := by omega
  go_enter Tryz.func24, Tryz.ntmps24
  go_wp2
  go_ret
  exact ⟨rfl, rfl⟩
set_option maxRecDepth 100000 in
set_option maxHeartbeats 4000000 in
theorem size_dup_end (g o n cap p c : Nat) (hp : p < n) (hn : n ≤ 1024) (w : World) (c0 : w.cell? ⟨g, o + p, none⟩ = some (.int .u8 (c : Int))) (hc : c = 4) (h1 : p + 1 = n) : Calls Tryz.prog 24 #[.slice (some ⟨g, o, none⟩) n cap, .int .i64 (p : Int)] w fun e w' => e = .returned (.int .i64 0) ∧ w' = w := by
  subst hc
  have el : ¬ ((p : Int) + 1 < (n : Int)) := by omega
  have el3 : (n : Int) < (p : Int) + 2 := by omega
  go_enter Tryz.func24, Tryz.ntmps24
  go_wp2
  go_ret
  exact ⟨rfl, rfl⟩
set_option maxRecDepth 100000 in
set_option maxHeartbeats 4000000 in
theorem size_swap_end (g o n cap p c : Nat) (hp : p < n) (hn : n ≤ 1024) (w : World) (c0 : w.cell? ⟨g, o + p, none⟩ = some (.int .u8 (c : Int))) (hc : c = 5) (h1 : p + 1 = n) : Calls Tryz.prog 24 #[.slice (some ⟨g, o, none⟩) n cap, .int .i64 (p : Int)] w fun e w' => e = .returned (.int .i64 0) ∧ w' = w := by
  subst hc
  have el : ¬ ((p : Int) + 1 < (n : Int)) := by omega
  have el3 : (n : Int) < (p : Int) + 2 := by omega
  go_enter Tryz.func24, Tryz.ntmps24
  go_wp2
  go_ret
  exact ⟨rfl, rfl⟩
set_option maxRecDepth 100000 in
set_option maxHeartbeats 4000000 in
theorem size_arg_end (g o n cap p c : Nat) (hp : p < n) (hn : n ≤ 1024) (w : World) (c0 : w.cell? ⟨g, o + p, none⟩ = some (.int .u8 (c : Int))) (hc : c = 16) (h1 : p + 1 = n) : Calls Tryz.prog 24 #[.slice (some ⟨g, o, none⟩) n cap, .int .i64 (p : Int)] w fun e w' => e = .returned (.int .i64 0) ∧ w' = w := by
  subst hc
  have el : ¬ ((p : Int) + 1 < (n : Int)) := by omega
  have el3 : (n : Int) < (p : Int) + 2 := by omega
  go_enter Tryz.func24, Tryz.ntmps24
  go_wp2
  go_ret
  exact ⟨rfl, rfl⟩
set_option maxRecDepth 100000 in
set_option maxHeartbeats 4000000 in
theorem size_dup_no (g o n cap p c : Nat) (hp : p < n) (hn : n ≤ 1024) (w : World) (c0 : w.cell? ⟨g, o + p, none⟩ = some (.int .u8 (c : Int))) (hc : c = 4) (y : Nat) (h1 : p + 1 < n) (c1 : w.cell? ⟨g, o + (p + 1), none⟩ = some (.int .u8 (y : Int))) (hy : 15 < y) : Calls Tryz.prog 24 #[.slice (some ⟨g, o, none⟩) n cap, .int .i64 (p : Int)] w fun e w' => e = .returned (.int .i64 0) ∧ w' = w := by
  subst hc
  have el : ¬ ((n : Int) ≤ (p : Int) + 1) := by omega
  have el2 : (p : Int) + 1 < (n : Int) := by omega
  have ey : (15 : Int) < (y : Int) := by omega
  go_enter Tryz.func24, Tryz.ntmps24
  go_wp2
  go_ret
  exact ⟨rfl, rfl⟩
set_option maxRecDepth 100000 in
set_option maxHeartbeats 4000000 in
theorem size_dup (g o n cap p c : Nat) (hp : p < n) (hn : n ≤ 1024) (w : World) (c0 : w.cell? ⟨g, o + p, none⟩ = some (.int .u8 (c : Int))) (hc : c = 4) (y : Nat) (h1 : p + 1 < n) (c1 : w.cell? ⟨g, o + (p + 1), none⟩ = some (.int .u8 (y : Int))) (hy : y ≤ 15) : Calls Tryz.prog 24 #[.slice (some ⟨g, o, none⟩) n cap, .int .i64 (p : Int)] w fun e w' => e = .returned (.int .i64 2) ∧ w' = w := by
  subst hc
  have el : ¬ ((n : Int) ≤ (p : Int) + 1) := by omega
  have el2 : (p : Int) + 1 < (n : Int) := by omega
  have el3 : ¬ ((n : Int) < (p : Int) + 2) := by omega
  have ey : ¬ ((15 : Int) < (y : Int)) := by omega
  go_enter Tryz.func24, Tryz.ntmps24
  go_wp2
  go_ret
  exact ⟨rfl, rfl⟩
set_option maxRecDepth 100000 in
set_option maxHeartbeats 4000000 in
theorem size_swap_low (g o n cap p c : Nat) (hp : p < n) (hn : n ≤ 1024) (w : World) (c0 : w.cell? ⟨g, o + p, none⟩ = some (.int .u8 (c : Int))) (hc : c = 5) (y : Nat) (h1 : p + 1 < n) (c1 : w.cell? ⟨g, o + (p + 1), none⟩ = some (.int .u8 (y : Int))) (hy : y < 1) : Calls Tryz.prog 24 #[.slice (some ⟨g, o, none⟩) n cap, .int .i64 (p : Int)] w fun e w' => e = .returned (.int .i64 0) ∧ w' = w := by
  subst hc
  have el : ¬ ((n : Int) ≤ (p : Int) + 1) := by omega
  have el2 : (p : Int) + 1 < (n : Int) := by omega
  have ey : (y : Int) < 1 := by omega
  go_enter Tryz.func24, Tryz.ntmps24
  go_wp2
  go_ret
  exact ⟨rfl, rfl⟩
set_option maxRecDepth 100000 in
set_option maxHeartbeats 4000000 in
theorem size_swap_high (g o n cap p c : Nat) (hp : p < n) (hn : n ≤ 1024) (w : World) (c0 : w.cell? ⟨g, o + p, none⟩ = some (.int .u8 (c : Int))) (hc : c = 5) (y : Nat) (h1 : p + 1 < n) (c1 : w.cell? ⟨g, o + (p + 1), none⟩ = some (.int .u8 (y : Int))) (hy : 15 < y) : Calls Tryz.prog 24 #[.slice (some ⟨g, o, none⟩) n cap, .int .i64 (p : Int)] w fun e w' => e = .returned (.int .i64 0) ∧ w' = w := by
  subst hc
  have el : ¬ ((n : Int) ≤ (p : Int) + 1) := by omega
  have el2 : (p : Int) + 1 < (n : Int) := by omega
  have ex : ¬ ((y : Int) < 1) := by omega
  have ey : (15 : Int) < (y : Int) := by omega
  go_enter Tryz.func24, Tryz.ntmps24
  go_wp2
  go_ret
  exact ⟨rfl, rfl⟩
set_option maxRecDepth 100000 in
set_option maxHeartbeats 4000000 in
theorem size_swap (g o n cap p c : Nat) (hp : p < n) (hn : n ≤ 1024) (w : World) (c0 : w.cell? ⟨g, o + p, none⟩ = some (.int .u8 (c : Int))) (hc : c = 5) (y : Nat) (h1 : p + 1 < n) (c1 : w.cell? ⟨g, o + (p + 1), none⟩ = some (.int .u8 (y : Int))) (hx : 1 ≤ y) (hy : y ≤ 15) : Calls Tryz.prog 24 #[.slice (some ⟨g, o, none⟩) n cap, .int .i64 (p : Int)] w fun e w' => e = .returned (.int .i64 2) ∧ w' = w := by
  subst hc
  have el : ¬ ((n : Int) ≤ (p : Int) + 1) := by omega
  have el2 : (p : Int) + 1 < (n : Int) := by omega
  have el3 : ¬ ((n : Int) < (p : Int) + 2) := by omega
  have ex : ¬ ((y : Int) < 1) := by omega
  have ey : ¬ ((15 : Int) < (y : Int)) := by omega
  go_enter Tryz.func24, Tryz.ntmps24
  go_wp2
  go_ret
  exact ⟨rfl, rfl⟩
set_option maxRecDepth 100000 in
set_option maxHeartbeats 4000000 in
theorem size_arg (g o n cap p c : Nat) (hp : p < n) (hn : n ≤ 1024) (w : World) (c0 : w.cell? ⟨g, o + p, none⟩ = some (.int .u8 (c : Int))) (hc : c = 16) (h1 : p + 1 < n) : Calls Tryz.prog 24 #[.slice (some ⟨g, o, none⟩) n cap, .int .i64 (p : Int)] w fun e w' => e = .returned (.int .i64 2) ∧ w' = w := by
  subst hc
  have el : ¬ ((n : Int) ≤ (p : Int) + 1) := by omega
  have el2 : (p : Int) + 1 < (n : Int) := by omega
  have el3 : ¬ ((n : Int) < (p : Int) + 2) := by omega
  go_enter Tryz.func24, Tryz.ntmps24
  go_wp2
  go_ret
  exact ⟨rfl, rfl⟩
set_option maxRecDepth 100000 in
set_option maxHeartbeats 4000000 in
theorem size_j14_end (g o n cap p c : Nat) (hp : p < n) (hn : n ≤ 1024) (w : World) (c0 : w.cell? ⟨g, o + p, none⟩ = some (.int .u8 (c : Int))) (hc : c = 14) (h1 : n < p + 3) : Calls Tryz.prog 24 #[.slice (some ⟨g, o, none⟩) n cap, .int .i64 (p : Int)] w fun e w' => e = .returned (.int .i64 0) ∧ w' = w := by
  subst hc
  have el3 : (n : Int) < (p : Int) + 3 := by omega
  go_enter Tryz.func24, Tryz.ntmps24
  go_wp2
  go_ret
  exact ⟨rfl, rfl⟩
set_option maxRecDepth 100000 in
set_option maxHeartbeats 4000000 in
theorem size_j14 (g o n cap p c : Nat) (hp : p < n) (hn : n ≤ 1024) (w : World) (c0 : w.cell? ⟨g, o + p, none⟩ = some (.int .u8 (c : Int))) (hc : c = 14) (h1 : p + 3 ≤ n) : Calls Tryz.prog 24 #[.slice (some ⟨g, o, none⟩) n cap, .int .i64 (p : Int)] w fun e w' => e = .returned (.int .i64 3) ∧ w' = w := by
  subst hc
  have el3 : ¬ ((n : Int) < (p : Int) + 3) := by omega
  go_enter Tryz.func24, Tryz.ntmps24
  go_wp2
  go_ret
  exact ⟨rfl, rfl⟩
set_option maxRecDepth 100000 in
set_option maxHeartbeats 4000000 in
theorem size_j15_end (g o n cap p c : Nat) (hp : p < n) (hn : n ≤ 1024) (w : World) (c0 : w.cell? ⟨g, o + p, none⟩ = some (.int .u8 (c : Int))) (hc : c = 15) (h1 : n < p + 3) : Calls Tryz.prog 24 #[.slice (some ⟨g, o, none⟩) n cap, .int .i64 (p : Int)] w fun e w' => e = .returned (.int .i64 0) ∧ w' = w := by
  subst hc
  have el3 : (n : Int) < (p : Int) + 3 := by omega
  go_enter Tryz.func24, Tryz.ntmps24
  go_wp2
  go_ret
  exact ⟨rfl, rfl⟩
set_option maxRecDepth 100000 in
set_option maxHeartbeats 4000000 in
theorem size_j15 (g o n cap p c : Nat) (hp : p < n) (hn : n ≤ 1024) (w : World) (c0 : w.cell? ⟨g, o + p, none⟩ = some (.int .u8 (c : Int))) (hc : c = 15) (h1 : p + 3 ≤ n) : Calls Tryz.prog 24 #[.slice (some ⟨g, o, none⟩) n cap, .int .i64 (p : Int)] w fun e w' => e = .returned (.int .i64 3) ∧ w' = w := by
  subst hc
  have el3 : ¬ ((n : Int) < (p : Int) + 3) := by omega
  go_enter Tryz.func24, Tryz.ntmps24
  go_wp2
  go_ret
  exact ⟨rfl, rfl⟩

end Go.Proofs.YtclbiophgnkggaaGreatDoor
