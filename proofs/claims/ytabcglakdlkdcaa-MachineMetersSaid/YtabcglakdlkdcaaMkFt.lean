import Derived.BigQuiet
import Derived.ChangeMaps5
import Derived.ChangeOld
import Derived.Deep.DeepHandedRow
import Derived.Deep.Matrix
import Derived.Lib.LaidTab
import Derived.OpenShut
import Derived.ProofKit
import Derived.ShutString
import Derived.SizedLaws
import Derived.Test.YtabcglakdlkdcaaRows
import Derived.Test.YtabcglakdlkdcaaMkFm
/-
  causewayref10.Size, by cases.
-/
namespace Go.Proofs.Ytabcglakdlkdcaa
open Go Go.RowKit
open Sha

set_option maxRecDepth 100000 in
set_option maxHeartbeats 4000000 in
theorem size_big (g o n cap p c : Nat) (hp : p < n) (_hn : n ≤ 1024) (w : World) (c0 : w.cell? ⟨g, o + p, none⟩ = some (.int .u8 (c : Int))) (hc : 28 ≤ c) (hc2 : c < 256) : Calls Try.prog 11 #[.slice (some ⟨g, o, none⟩) n cap, .int .i64 (p : Int)] w fun e w' => e = .returned (.int .i64 0) ∧ w' = w := by
  have e28 : (28 : Int) ≤ (c : Int) := by omega
  go_enter Try.func11, Try.ntmps11
  go_wp2
  go_ret
  exact ⟨rfl, rfl⟩
set_option maxRecDepth 100000 in
set_option maxHeartbeats 4000000 in
theorem size_one (g o n cap p c : Nat) (hp : p < n) (hn : n ≤ 1024) (w : World) (c0 : w.cell? ⟨g, o + p, none⟩ = some (.int .u8 (c : Int))) (hc : c < 28) (h2 : c ≠ 2) (h4 : c ≠ 4) (h5 : c ≠ 5) (h16 : c ≠ 16) (h14 : c ≠ 14) (h15 : c ≠ 15) : Calls Try.prog 11 #[.slice (some ⟨g, o, none⟩) n cap, .int .i64 (p : Int)] w fun e w' => e = .returned (.int .i64 1) ∧ w' = w := by
  have e28 : ¬ ((28 : Int) ≤ (c : Int)) := by omega
  have el : ¬ ((n : Int) < (p : Int) + 1) := by omega
  have e2 : ((c : Int) == 2) = false := by simp; omega
  have e4 : ((c : Int) == 4) = false := by simp; omega
  have e5 : ((c : Int) == 5) = false := by simp; omega
  have e16 : ((c : Int) == 16) = false := by simp; omega
  have e14 : ((c : Int) == 14) = false := by simp; omega
  have e15 : ((c : Int) == 15) = false := by simp; omega
  clear h2 h4 h5 h16 h14 h15 hc
  go_enter Try.func11, Try.ntmps11
  go_wp2
  go_ret
  exact ⟨rfl, rfl⟩
set_option maxRecDepth 100000 in
set_option maxHeartbeats 4000000 in
theorem size_push_end (g o n cap p c : Nat) (hp : p < n) (hn : n ≤ 1024) (w : World) (c0 : w.cell? ⟨g, o + p, none⟩ = some (.int .u8 (c : Int))) (hc : c = 2) (h1 : p + 1 = n) : Calls Try.prog 11 #[.slice (some ⟨g, o, none⟩) n cap, .int .i64 (p : Int)] w fun e w' => e = .returned (.int .i64 0) ∧ w' = w := by
  subst hc
  have el : (n : Int) ≤ (p : Int) + 1 := by omega
  go_enter Try.func11, Try.ntmps11
  go_wp2
  go_ret
  exact ⟨rfl, rfl⟩
set_option maxRecDepth 100000 in
set_option maxHeartbeats 4000000 in
theorem size_push_low (g o n cap p c : Nat) (hp : p < n) (hn : n ≤ 1024) (w : World) (c0 : w.cell? ⟨g, o + p, none⟩ = some (.int .u8 (c : Int))) (hc : c = 2) (y : Nat) (h1 : p + 1 < n) (c1 : w.cell? ⟨g, o + (p + 1), none⟩ = some (.int .u8 (y : Int))) (hy : y < 1) : Calls Try.prog 11 #[.slice (some ⟨g, o, none⟩) n cap, .int .i64 (p : Int)] w fun e w' => e = .returned (.int .i64 0) ∧ w' = w := by
  subst hc
  have el : ¬ ((n : Int) ≤ (p : Int) + 1) := by omega
  have el2 : (p : Int) + 1 < (n : Int) := by omega
  have ey : (y : Int) < 1 := by omega
  go_enter Try.func11, Try.ntmps11
  go_wp2
  go_ret
  exact ⟨rfl, rfl⟩
set_option maxRecDepth 100000 in
set_option maxHeartbeats 4000000 in
theorem size_push_high (g o n cap p c : Nat) (hp : p < n) (hn : n ≤ 1024) (w : World) (c0 : w.cell? ⟨g, o + p, none⟩ = some (.int .u8 (c : Int))) (hc : c = 2) (y : Nat) (h1 : p + 1 < n) (c1 : w.cell? ⟨g, o + (p + 1), none⟩ = some (.int .u8 (y : Int))) (hy : 32 < y) : Calls Try.prog 11 #[.slice (some ⟨g, o, none⟩) n cap, .int .i64 (p : Int)] w fun e w' => e = .returned (.int .i64 0) ∧ w' = w := by
  subst hc
  have el : ¬ ((n : Int) ≤ (p : Int) + 1) := by omega
  have el2 : (p : Int) + 1 < (n : Int) := by omega
  have ey : ¬ ((y : Int) < 1) := by omega
  have ez : (32 : Int) < (y : Int) := by omega
  go_enter Try.func11, Try.ntmps11
  go_wp2
  go_ret
  exact ⟨rfl, rfl⟩
set_option maxRecDepth 100000 in
set_option maxHeartbeats 4000000 in
theorem size_push_cut (g o n cap p c : Nat) (hp : p < n) (hn : n ≤ 1024) (w : World) (c0 : w.cell? ⟨g, o + p, none⟩ = some (.int .u8 (c : Int))) (hc : c = 2) (y : Nat) (h1 : p + 1 < n) (c1 : w.cell? ⟨g, o + (p + 1), none⟩ = some (.int .u8 (y : Int))) (hy : 1 ≤ y) (hz : y ≤ 32) (hl : n < p + (2 + y)) : Calls Try.prog 11 #[.slice (some ⟨g, o, none⟩) n cap, .int .i64 (p : Int)] w fun e w' => e = .returned (.int .i64 0) ∧ w' = w := by
  subst hc
  have el : ¬ ((n : Int) ≤ (p : Int) + 1) := by omega
  have el2 : (p : Int) + 1 < (n : Int) := by omega
  have ey : ¬ ((y : Int) < 1) := by omega
  have ez : ¬ ((32 : Int) < (y : Int)) := by omega
  have el3 : (n : Int) < (p : Int) + (2 + (y : Int)) := by omega
  go_enter Try.func11, Try.ntmps11
  go_wp2
  go_ret
  exact ⟨rfl, rfl⟩
set_option maxRecDepth 100000 in
set_option maxHeartbeats 4000000 in
theorem size_push (g o n cap p c : Nat) (hp : p < n) (hn : n ≤ 1024) (w : World) (c0 : w.cell? ⟨g, o + p, none⟩ = some (.int .u8 (c : Int))) (hc : c = 2) (y : Nat) (h1 : p + 1 < n) (c1 : w.cell? ⟨g, o + (p + 1), none⟩ = some (.int .u8 (y : Int))) (hy : 1 ≤ y) (hz : y ≤ 32) (hl : p + (2 + y) ≤ n) : Calls Try.prog 11 #[.slice (some ⟨g, o, none⟩) n cap, .int .i64 (p : Int)] w fun e w' => e = .returned (.int .i64 ((2 + y : Nat) : Int)) ∧ w' = w := by
  subst hc
  have el : ¬ ((n : Int) ≤ (p : Int) + 1) := by omega
  have el2 : (p : Int) + 1 < (n : Int) := by omega
  have ey : ¬ ((y : Int) < 1) := by omega
  have ez : ¬ ((32 : Int) < (y : Int)) := by omega
  have el3 : ¬ ((n : Int) < (p : Int) + (2 + (y : Int))) := by omega
  go_enter Try.func11, Try.ntmps11
  go_wp2
  go_ret
  exact ⟨rfl, rfl⟩
set_option maxRecDepth 100000 in
set_option maxHeartbeats 4000000 in
theorem size_dup_end (g o n cap p c : Nat) (hp : p < n) (hn : n ≤ 1024) (w : World) (c0 : w.cell? ⟨g, o + p, none⟩ = some (.int .u8 (c : Int))) (hc : c = 4) (h1 : p + 1 = n) : Calls Try.prog 11 #[.slice (some ⟨g, o, none⟩) n cap, .int .i64 (p : Int)] w fun e w' => e = .returned (.int .i64 0) ∧ w' = w := by
  subst hc
  have el : ¬ ((p : Int) + 1 < (n : Int)) := by omega
  have el3 : (n : Int) < (p : Int) + 2 := by omega
  go_enter Try.func11, Try.ntmps11
  go_wp2
  go_ret
  exact ⟨rfl, rfl⟩
set_option maxRecDepth 100000 in
set_option maxHeartbeats 4000000 in
theorem size_swap_end (g o n cap p c : Nat) (hp : p < n) (hn : n ≤ 1024) (w : World) (c0 : w.cell? ⟨g, o + p, none⟩ = some (.int .u8 (c : Int))) (hc : c = 5) (h1 : p + 1 = n) : Calls Try.prog 11 #[.slice (some ⟨g, o, none⟩) n cap, .int .i64 (p : Int)] w fun e w' => e = .returned (.int .i64 0) ∧ w' = w := by
  subst hc
  have el : ¬ ((p : Int) + 1 < (n : Int)) := by omega
  have el3 : (n : Int) < (p : Int) + 2 := by omega
  go_enter Try.func11, Try.ntmps11
  go_wp2
  go_ret
  exact ⟨rfl, rfl⟩
set_option maxRecDepth 100000 in
set_option maxHeartbeats 4000000 in
theorem size_arg_end (g o n cap p c : Nat) (hp : p < n) (hn : n ≤ 1024) (w : World) (c0 : w.cell? ⟨g, o + p, none⟩ = some (.int .u8 (c : Int))) (hc : c = 16) (h1 : p + 1 = n) : Calls Try.prog 11 #[.slice (some ⟨g, o, none⟩) n cap, .int .i64 (p : Int)] w fun e w' => e = .returned (.int .i64 0) ∧ w' = w := by
  subst hc
  have el : ¬ ((p : Int) + 1 < (n : Int)) := by omega
  have el3 : (n : Int) < (p : Int) + 2 := by omega
  go_enter Try.func11, Try.ntmps11
  go_wp2
  go_ret
  exact ⟨rfl, rfl⟩
set_option maxRecDepth 100000 in
set_option maxHeartbeats 4000000 in
theorem size_dup_no (g o n cap p c : Nat) (hp : p < n) (hn : n ≤ 1024) (w : World) (c0 : w.cell? ⟨g, o + p, none⟩ = some (.int .u8 (c : Int))) (hc : c = 4) (y : Nat) (h1 : p + 1 < n) (c1 : w.cell? ⟨g, o + (p + 1), none⟩ = some (.int .u8 (y : Int))) (hy : 15 < y) : Calls Try.prog 11 #[.slice (some ⟨g, o, none⟩) n cap, .int .i64 (p : Int)] w fun e w' => e = .returned (.int .i64 0) ∧ w' = w := by
  subst hc
  have el : ¬ ((n : Int) ≤ (p : Int) + 1) := by omega
  have el2 : (p : Int) + 1 < (n : Int) := by omega
  have ey : (15 : Int) < (y : Int) := by omega
  go_enter Try.func11, Try.ntmps11
  go_wp2
  go_ret
  exact ⟨rfl, rfl⟩
set_option maxRecDepth 100000 in
set_option maxHeartbeats 4000000 in
theorem size_dup (g o n cap p c : Nat) (hp : p < n) (hn : n ≤ 1024) (w : World) (c0 : w.cell? ⟨g, o + p, none⟩ = some (.int .u8 (c : Int))) (hc : c = 4) (y : Nat) (h1 : p + 1 < n) (c1 : w.cell? ⟨g, o + (p + 1), none⟩ = some (.int .u8 (y : Int))) (hy : y ≤ 15) : Calls Try.prog 11 #[.slice (some ⟨g, o, none⟩) n cap, .int .i64 (p : Int)] w fun e w' => e = .returned (.int .i64 2) ∧ w' = w := by
  subst hc
  have el : ¬ ((n : Int) ≤ (p : Int) + 1) := by omega
  have el2 : (p : Int) + 1 < (n : Int) := by omega
  have el3 : ¬ ((n : Int) < (p : Int) + 2) := by omega
  have ey : ¬ ((15 : Int) < (y : Int)) := by omega
  go_enter Try.func11, Try.ntmps11
  go_wp2
  go_ret
  exact ⟨rfl, rfl⟩
set_option maxRecDepth 100000 in
set_option maxHeartbeats 4000000 in
theorem size_swap_low (g o n cap p c : Nat) (hp : p < n) (hn : n ≤ 1024) (w : World) (c0 : w.cell? ⟨g, o + p, none⟩ = some (.int .u8 (c : Int))) (hc : c = 5) (y : Nat) (h1 : p + 1 < n) (c1 : w.cell? ⟨g, o + (p + 1), none⟩ = some (.int .u8 (y : Int))) (hy : y < 1) : Calls Try.prog 11 #[.slice (some ⟨g, o, none⟩) n cap, .int .i64 (p : Int)] w fun e w' => e = .returned (.int .i64 0) ∧ w' = w := by
  subst hc
  have el : ¬ ((n : Int) ≤ (p : Int) + 1) := by omega
  have el2 : (p : Int) + 1 < (n : Int) := by omega
  have ey : (y : Int) < 1 := by omega
  go_enter Try.func11, Try.ntmps11
  go_wp2
  go_ret
  exact ⟨rfl, rfl⟩
set_option maxRecDepth 100000 in
set_option maxHeartbeats 4000000 in
theorem size_swap_high (g o n cap p c : Nat) (hp : p < n) (hn : n ≤ 1024) (w : World) (c0 : w.cell? ⟨g, o + p, none⟩ = some (.int .u8 (c : Int))) (hc : c = 5) (y : Nat) (h1 : p + 1 < n) (c1 : w.cell? ⟨g, o + (p + 1), none⟩ = some (.int .u8 (y : Int))) (hy : 15 < y) : Calls Try.prog 11 #[.slice (some ⟨g, o, none⟩) n cap, .int .i64 (p : Int)] w fun e w' => e = .returned (.int .i64 0) ∧ w' = w := by
  subst hc
  have el : ¬ ((n : Int) ≤ (p : Int) + 1) := by omega
  have el2 : (p : Int) + 1 < (n : Int) := by omega
  have ex : ¬ ((y : Int) < 1) := by omega
  have ey : (15 : Int) < (y : Int) := by omega
  go_enter Try.func11, Try.ntmps11
  go_wp2
  go_ret
  exact ⟨rfl, rfl⟩
set_option maxRecDepth 100000 in
set_option maxHeartbeats 4000000 in
theorem size_swap (g o n cap p c : Nat) (hp : p < n) (hn : n ≤ 1024) (w : World) (c0 : w.cell? ⟨g, o + p, none⟩ = some (.int .u8 (c : Int))) (hc : c = 5) (y : Nat) (h1 : p + 1 < n) (c1 : w.cell? ⟨g, o + (p + 1), none⟩ = some (.int .u8 (y : Int))) (hx : 1 ≤ y) (hy : y ≤ 15) : Calls Try.prog 11 #[.slice (some ⟨g, o, none⟩) n cap, .int .i64 (p : Int)] w fun e w' => e = .returned (.int .i64 2) ∧ w' = w := by
  subst hc
  have el : ¬ ((n : Int) ≤ (p : Int) + 1) := by omega
  have el2 : (p : Int) + 1 < (n : Int) := by omega
  have el3 : ¬ ((n : Int) < (p : Int) + 2) := by omega
  have ex : ¬ ((y : Int) < 1) := by omega
  have ey : ¬ ((15 : Int) < (y : Int)) := by omega
  go_enter Try.func11, Try.ntmps11
  go_wp2
  go_ret
  exact ⟨rfl, rfl⟩
set_option maxRecDepth 100000 in
set_option maxHeartbeats 4000000 in
theorem size_arg (g o n cap p c : Nat) (hp : p < n) (hn : n ≤ 1024) (w : World) (c0 : w.cell? ⟨g, o + p, none⟩ = some (.int .u8 (c : Int))) (hc : c = 16) (h1 : p + 1 < n) : Calls Try.prog 11 #[.slice (some ⟨g, o, none⟩) n cap, .int .i64 (p : Int)] w fun e w' => e = .returned (.int .i64 2) ∧ w' = w := by
  subst hc
  have el : ¬ ((n : Int) ≤ (p : Int) + 1) := by omega
  have el2 : (p : Int) + 1 < (n : Int) := by omega
  have el3 : ¬ ((n : Int) < (p : Int) + 2) := by omega
  go_enter Try.func11, Try.ntmps11
  go_wp2
  go_ret
  exact ⟨rfl, rfl⟩
set_option maxRecDepth 100000 in
set_option maxHeartbeats 4000000 in
theorem size_j14_end (g o n cap p c : Nat) (hp : p < n) (hn : n ≤ 1024) (w : World) (c0 : w.cell? ⟨g, o + p, none⟩ = some (.int .u8 (c : Int))) (hc : c = 14) (h1 : n < p + 3) : Calls Try.prog 11 #[.slice (some ⟨g, o, none⟩) n cap, .int .i64 (p : Int)] w fun e w' => e = .returned (.int .i64 0) ∧ w' = w := by
  subst hc
  have el3 : (n : Int) < (p : Int) + 3 := by omega
  go_enter Try.func11, Try.ntmps11
  go_wp2
  go_ret
  exact ⟨rfl, rfl⟩
set_option maxRecDepth 100000 in
set_option maxHeartbeats 4000000 in
theorem size_j14 (g o n cap p c : Nat) (hp : p < n) (hn : n ≤ 1024) (w : World) (c0 : w.cell? ⟨g, o + p, none⟩ = some (.int .u8 (c : Int))) (hc : c = 14) (h1 : p + 3 ≤ n) : Calls Try.prog 11 #[.slice (some ⟨g, o, none⟩) n cap, .int .i64 (p : Int)] w fun e w' => e = .returned (.int .i64 3) ∧ w' = w := by
  subst hc
  have el3 : ¬ ((n : Int) < (p : Int) + 3) := by omega
  go_enter Try.func11, Try.ntmps11
  go_wp2
  go_ret
  exact ⟨rfl, rfl⟩
set_option maxRecDepth 100000 in
set_option maxHeartbeats 4000000 in
theorem size_j15_end (g o n cap p c : Nat) (hp : p < n) (hn : n ≤ 1024) (w : World) (c0 : w.cell? ⟨g, o + p, none⟩ = some (.int .u8 (c : Int))) (hc : c = 15) (h1 : n < p + 3) : Calls Try.prog 11 #[.slice (some ⟨g, o, none⟩) n cap, .int .i64 (p : Int)] w fun e w' => e = .returned (.int .i64 0) ∧ w' = w := by
  subst hc
  have el3 : (n : Int) < (p : Int) + 3 := by omega
  go_enter Try.func11, Try.ntmps11
  go_wp2
  go_ret
  exact ⟨rfl, rfl⟩
set_option maxRecDepth 100000 in
set_option maxHeartbeats 4000000 in
theorem size_j15 (g o n cap p c : Nat) (hp : p < n) (hn : n ≤ 1024) (w : World) (c0 : w.cell? ⟨g, o + p, none⟩ = some (.int .u8 (c : Int))) (hc : c = 15) (h1 : p + 3 ≤ n) : Calls Try.prog 11 #[.slice (some ⟨g, o, none⟩) n cap, .int .i64 (p : Int)] w fun e w' => e = .returned (.int .i64 3) ∧ w' = w := by
  subst hc
  have el3 : ¬ ((n : Int) < (p : Int) + 3) := by omega
  go_enter Try.func11, Try.ntmps11
  go_wp2
  go_ret
  exact ⟨rfl, rfl⟩

end Go.Proofs.Ytabcglakdlkdcaa
/-
  causewayref10: Size, places, among, target, Check.
-/
namespace Go.Proofs.Ytabcglakdlkdcaa
open Go Go.RowKit
open Sha
open Wd

/-- The size of what stands at a place; nought: nothing. -/
def sz (d : List (BitVec 8)) (p : Nat) : Nat := match ri (d.drop p) with | none => 0 | some (_, _, _, s) => s
theorem sz_val {d : List (BitVec 8)} {p : Nat} {x : BitVec 8} {r : List (BitVec 8)} (hx : d.drop p = x :: r) : sz d p = if 28 ≤ x.toNat then 0 else if r.length < ow (oper x.toNat) r then 0 else if (ro (oper x.toNat) (r.take (ow (oper x.toNat) r))).isNone then 0 else 1 + ow (oper x.toNat) r := by
  unfold sz
  rw [hx, ri]
  by_cases h1 : 28 ≤ x.toNat
  · rw [if_pos h1, if_pos h1]
  · rw [if_neg h1, if_neg h1]
    by_cases h2 : r.length < ow (oper x.toNat) r
    · rw [if_pos h2, if_pos h2]
    · rw [if_neg h2, if_neg h2]
      cases hro : ro (oper x.toNat) (r.take (ow (oper x.toNat) r)) with
      | none => rfl
      | some y => rfl
theorem oper_one (c : Nat) (hc : c < 28) (h2 : c ≠ 2) (h4 : c ≠ 4) (h5 : c ≠ 5) (h16 : c ≠ 16) (h14 : c ≠ 14) (h15 : c ≠ 15) : oper c = 0 := by
  have h : ∀ c < 28, (c = 2 ∨ c = 4 ∨ c = 5 ∨ c = 16 ∨ c = 14 ∨ c = 15) ∨ oper c = 0 := by decide
  rcases h c hc with h | h
  · omega
  · exact h
theorem sz_big {d : List (BitVec 8)} {p : Nat} {x : BitVec 8} {r : List (BitVec 8)} (hx : d.drop p = x :: r) (h : 28 ≤ x.toNat) : sz d p = 0 := by rw [sz_val hx, if_pos h]
theorem sz_end {d : List (BitVec 8)} {p : Nat} {x : BitVec 8} {r : List (BitVec 8)} (hx : d.drop p = x :: r) (h : r.length < ow (oper x.toNat) r) : sz d p = 0 := by
  rw [sz_val hx, if_pos h]
  exact ite_self 0
theorem sz_no {d : List (BitVec 8)} {p : Nat} {x : BitVec 8} {r : List (BitVec 8)} (hx : d.drop p = x :: r) (h : ro (oper x.toNat) (r.take (ow (oper x.toNat) r)) = none) : sz d p = 0 := by
  rw [sz_val hx, h]
  simp
theorem sz_yes {d : List (BitVec 8)} {p : Nat} {x : BitVec 8} {r : List (BitVec 8)} (hx : d.drop p = x :: r) (h0 : x.toNat < 28) (h1 : ow (oper x.toNat) r ≤ r.length) (y : Nat × Nat) (h : ro (oper x.toNat) (r.take (ow (oper x.toNat) r)) = some y) : sz d p = 1 + ow (oper x.toNat) r := by
  rw [sz_val hx, h, if_neg (by omega), if_neg (by omega)]
  rfl
theorem take_head (y : BitVec 8) (r : List (BitVec 8)) (k : Nat) (h : 1 ≤ k) : ((y :: r).take k).getD 0 0#8 = y := by
  obtain ⟨k, rfl⟩ : ∃ j, k = j + 1 := ⟨k - 1, by omega⟩
  rfl
theorem szr_no (k : Nat) (hk : k ≠ 0) (b : List (BitVec 8)) (h : (b.getD 0 0#8).toNat < lo k ∨ hi k < (b.getD 0 0#8).toNat) : ro k b = none := by
  unfold ro
  rw [if_neg hk, if_pos h]
theorem szr_yes (k : Nat) (b : List (BitVec 8)) (h : k ≠ 0 → lo k ≤ (b.getD 0 0#8).toNat ∧ (b.getD 0 0#8).toNat ≤ hi k) : ∃ y, ro k b = some y := by
  unfold ro
  split
  · exact ⟨_, rfl⟩
  · rename_i h0
    have := h h0
    rw [if_neg (by omega)]
    split
    · exact ⟨_, rfl⟩
    · split <;> exact ⟨_, rfl⟩
theorem drop_cell {w : World} {g o : Nat} {d : List (BitVec 8)} {p : Nat} {x : BitVec 8} {r : List (BitVec 8)} (hx : d.drop p = x :: r) (hr : w.rangeAt g o (vB d)) : w.cell? ⟨g, o + p, none⟩ = some (.int .u8 ((x.toNat : Nat) : Int)) := by
  have := range_drop hr p
  rw [hx] at this
  exact cons_cell this
theorem drop_next {d : List (BitVec 8)} {p : Nat} {x : BitVec 8} {r : List (BitVec 8)} (hx : d.drop p = x :: r) : d.drop (p + 1) = r := by
  rw [← List.drop_drop, hx]
  rfl
theorem size_any (g o n cap p : Nat) (d : List (BitVec 8)) (hd : d.length = n) (hp : p < n) (hn : n ≤ 1024) (w : World) (hr : w.rangeAt g o (vB d)) : Calls Try.prog 11 #[.slice (some ⟨g, o, none⟩) n cap, .int .i64 (p : Int)] w fun e w' => e = .returned (.int .i64 (sz d p : Int)) ∧ w' = w := by
  obtain ⟨x, r, hx⟩ : ∃ x r, d.drop p = x :: r := by
    cases h : d.drop p with
    | nil => have := congrArg List.length h; rw [List.length_drop] at this; simp at this; omega
    | cons x r => exact ⟨x, r, rfl⟩
  have hl : r.length + 1 = n - p := by
    have := congrArg List.length hx
    rw [List.length_drop, List.length_cons] at this
    omega
  have c0 := drop_cell hx hr
  have hxl := x.isLt
  by_cases h28 : 28 ≤ x.toNat
  · rw [sz_big hx h28]
    exact size_big g o n cap p _ hp hn w c0 h28 hxl
  have lt28 : x.toNat < 28 := by omega
  by_cases h2 : x.toNat = 2
  · have ho : oper x.toNat = 1 := by rw [h2]; rfl
    cases r with
    | nil =>
      rw [sz_end hx (by rw [ho]; decide)]
      exact size_push_end g o n cap p _ hp hn w c0 h2 (by simp at hl; omega)
    | cons y r =>
      have c1 := drop_cell (drop_next hx) hr
      have hw : ow (oper x.toNat) (y :: r) = 1 + y.toNat := by rw [ho]; rfl
      have hl' : r.length + 2 = n - p := by simpa using hl
      have hh : ((y :: r).take (ow (oper x.toNat) (y :: r))).getD 0 0#8 = y := take_head y r _ (by rw [hw]; omega)
      by_cases y1 : y.toNat < 1
      · rw [sz_no hx (szr_no _ (by rw [ho]; decide) _ (.inl (by rw [hh, ho]; exact y1)))]
        exact size_push_low g o n cap p _ hp hn w c0 h2 _ (by omega) c1 y1
      by_cases y2 : 32 < y.toNat
      · rw [sz_no hx (szr_no _ (by rw [ho]; decide) _ (.inr (by rw [hh, ho]; exact y2)))]
        exact size_push_high g o n cap p _ hp hn w c0 h2 _ (by omega) c1 y2
      by_cases y3 : n < p + (2 + y.toNat)
      · rw [sz_end hx (by rw [hw, List.length_cons]; omega)]
        exact size_push_cut g o n cap p _ hp hn w c0 h2 _ (by omega) c1 (by omega) (by omega) y3
      · obtain ⟨z, hz⟩ := szr_yes (oper x.toNat) ((y :: r).take (ow (oper x.toNat) (y :: r))) (fun _ => by rw [hh, ho]; exact ⟨by show 1 ≤ _; omega, by show _ ≤ 32; omega⟩)
        rw [sz_yes hx lt28 (by rw [hw, List.length_cons]; omega) z hz, hw, show 1 + (1 + y.toNat) = 2 + y.toNat by omega]
        exact size_push g o n cap p _ hp hn w c0 h2 _ (by omega) c1 (by omega) (by omega) (by omega)
  by_cases h4 : x.toNat = 4
  · have ho : oper x.toNat = 2 := by rw [h4]; rfl
    cases r with
    | nil =>
      rw [sz_end hx (by rw [ho]; decide)]
      exact size_dup_end g o n cap p _ hp hn w c0 h4 (by simp at hl; omega)
    | cons y r =>
      have c1 := drop_cell (drop_next hx) hr
      have hw : ow (oper x.toNat) (y :: r) = 1 := by rw [ho]; rfl
      have hl' : r.length + 2 = n - p := by simpa using hl
      have hyl := y.isLt
      have hh : ((y :: r).take (ow (oper x.toNat) (y :: r))).getD 0 0#8 = y := take_head y r _ (by rw [hw]; omega)
      by_cases y2 : 15 < y.toNat
      · rw [sz_no hx (szr_no _ (by rw [ho]; decide) _ (.inr (by rw [hh, ho]; exact y2)))]
        exact size_dup_no g o n cap p _ hp hn w c0 h4 _ (by omega) c1 y2
      obtain ⟨z, hz⟩ := szr_yes (oper x.toNat) ((y :: r).take (ow (oper x.toNat) (y :: r))) (fun _ => by rw [hh, ho]; exact ⟨by show 0 ≤ _; omega, by show _ ≤ 15; omega⟩)
      rw [sz_yes hx lt28 (by rw [hw, List.length_cons]; omega) z hz, hw]
      exact size_dup g o n cap p _ hp hn w c0 h4 _ (by omega) c1 (by omega)
  by_cases h5 : x.toNat = 5
  · have ho : oper x.toNat = 3 := by rw [h5]; rfl
    cases r with
    | nil =>
      rw [sz_end hx (by rw [ho]; decide)]
      exact size_swap_end g o n cap p _ hp hn w c0 h5 (by simp at hl; omega)
    | cons y r =>
      have c1 := drop_cell (drop_next hx) hr
      have hw : ow (oper x.toNat) (y :: r) = 1 := by rw [ho]; rfl
      have hl' : r.length + 2 = n - p := by simpa using hl
      have hyl := y.isLt
      have hh : ((y :: r).take (ow (oper x.toNat) (y :: r))).getD 0 0#8 = y := take_head y r _ (by rw [hw]; omega)
      by_cases y1 : y.toNat < 1
      · rw [sz_no hx (szr_no _ (by rw [ho]; decide) _ (.inl (by rw [hh, ho]; exact y1)))]
        exact size_swap_low g o n cap p _ hp hn w c0 h5 _ (by omega) c1 y1
      by_cases y2 : 15 < y.toNat
      · rw [sz_no hx (szr_no _ (by rw [ho]; decide) _ (.inr (by rw [hh, ho]; exact y2)))]
        exact size_swap_high g o n cap p _ hp hn w c0 h5 _ (by omega) c1 y2
      obtain ⟨z, hz⟩ := szr_yes (oper x.toNat) ((y :: r).take (ow (oper x.toNat) (y :: r))) (fun _ => by rw [hh, ho]; exact ⟨by show 1 ≤ _; omega, by show _ ≤ 15; omega⟩)
      rw [sz_yes hx lt28 (by rw [hw, List.length_cons]; omega) z hz, hw]
      exact size_swap g o n cap p _ hp hn w c0 h5 _ (by omega) c1 (by omega) (by omega)
  by_cases h16 : x.toNat = 16
  · have ho : oper x.toNat = 4 := by rw [h16]; rfl
    cases r with
    | nil =>
      rw [sz_end hx (by rw [ho]; decide)]
      exact size_arg_end g o n cap p _ hp hn w c0 h16 (by simp at hl; omega)
    | cons y r =>
      have c1 := drop_cell (drop_next hx) hr
      have hw : ow (oper x.toNat) (y :: r) = 1 := by rw [ho]; rfl
      have hl' : r.length + 2 = n - p := by simpa using hl
      have hyl := y.isLt
      have hh : ((y :: r).take (ow (oper x.toNat) (y :: r))).getD 0 0#8 = y := take_head y r _ (by rw [hw]; omega)
      obtain ⟨z, hz⟩ := szr_yes (oper x.toNat) ((y :: r).take (ow (oper x.toNat) (y :: r))) (fun _ => by rw [hh, ho]; exact ⟨by show 0 ≤ _; omega, by show _ ≤ 255; omega⟩)
      rw [sz_yes hx lt28 (by rw [hw, List.length_cons]; omega) z hz, hw]
      exact size_arg g o n cap p _ hp hn w c0 h16 (by omega)
  by_cases h14 : x.toNat = 14
  · have ho : oper x.toNat = 5 := by rw [h14]; rfl
    have hw : ow (oper x.toNat) r = 2 := by rw [ho]; rfl
    by_cases y1 : n < p + 3
    · rw [sz_end hx (by rw [hw]; omega)]
      exact size_j14_end g o n cap p _ hp hn w c0 h14 y1
    · obtain ⟨z, hz⟩ := szr_yes (oper x.toNat) (r.take (ow (oper x.toNat) r)) (fun _ => by rw [ho]; exact ⟨Nat.zero_le _, by show _ ≤ 255; have := ((r.take (ow 5 r)).getD 0 0#8).isLt; omega⟩)
      rw [sz_yes hx lt28 (by rw [hw]; omega) z hz, hw]
      exact size_j14 g o n cap p _ hp hn w c0 h14 (by omega)
  by_cases h15 : x.toNat = 15
  · have ho : oper x.toNat = 5 := by rw [h15]; rfl
    have hw : ow (oper x.toNat) r = 2 := by rw [ho]; rfl
    by_cases y1 : n < p + 3
    · rw [sz_end hx (by rw [hw]; omega)]
      exact size_j15_end g o n cap p _ hp hn w c0 h15 y1
    · obtain ⟨z, hz⟩ := szr_yes (oper x.toNat) (r.take (ow (oper x.toNat) r)) (fun _ => by rw [ho]; exact ⟨Nat.zero_le _, by show _ ≤ 255; have := ((r.take (ow 5 r)).getD 0 0#8).isLt; omega⟩)
      rw [sz_yes hx lt28 (by rw [hw]; omega) z hz, hw]
      exact size_j15 g o n cap p _ hp hn w c0 h15 (by omega)
  have ho : oper x.toNat = 0 := oper_one _ lt28 h2 h4 h5 h16 h14 h15
  obtain ⟨z, hz⟩ := szr_yes (oper x.toNat) (r.take (ow (oper x.toNat) r)) (fun h => absurd ho h)
  rw [sz_yes hx lt28 (by rw [ho]; exact Nat.zero_le _) z hz, ho]
  exact size_one g o n cap p _ hp hn w c0 lt28 h2 h4 h5 h16 h14 h15

end Go.Proofs.Ytabcglakdlkdcaa
/-
  what gas does.
-/
namespace Go.Proofs.Ytabcglakdlkdcaa
open Go Go.RowKit
open Sha
open Wd

theorem exi_gas (cl : Cl) (ags : List Nat) (ls : List Ins) (c a ni : Nat) (h : c ≠ 23) (st : List Nat) (l l' nx : Nat) : exi cl ags ls c a ni st l nx = exi cl ags ls c a ni st l' nx := by
  by_cases h24 : c < 24
  · rcases (show c = 0 ∨ c = 1 ∨ c = 2 ∨ c = 3 ∨ c = 4 ∨ c = 5 ∨ c = 6 ∨ c = 7 ∨ c = 8 ∨ c = 9 ∨ c = 10 ∨ c = 11 ∨ c = 12 ∨ c = 13 ∨ c = 14 ∨ c = 15 ∨ c = 16 ∨ c = 17 ∨ c = 18 ∨ c = 19 ∨ c = 20 ∨ c = 21 ∨ c = 22 by omega) with rfl | rfl | rfl | rfl | rfl | rfl | rfl | rfl | rfl | rfl | rfl | rfl | rfl | rfl | rfl | rfl | rfl | rfl | rfl | rfl | rfl | rfl | rfl <;> rfl
  · obtain ⟨k, rfl⟩ : ∃ k, c = k + 24 := ⟨c - 24, by omega⟩
    rfl
section
variable {cl : Cl} {ags : List Nat} {ls : List Ins} {rs : List (Nat × Int)} {x : Ins} {st : List Nat} {l l' nx nq : Nat}
theorem stU_same (h : x.c ≠ 23) (h1 : gT x.c ≤ l) (h2 : gT x.c ≤ l') : stU cl ags ls rs x st l' nx nq = stU cl ags ls rs x st l nx nq := by
  unfold stU
  rw [if_neg (show ¬ l' < gT x.c by omega), if_neg (show ¬ l < gT x.c by omega), exi_gas cl ags ls x.c x.a x.n h st (l' - gT x.c) (l - gT x.c)]
theorem stU_out (h : l < gT x.c) : stU cl ags ls rs x st l nx nq = (.error 102, []) := by
  unfold stU
  rw [if_pos h]
end
theorem ev2_gas (cl : Cl) (ags : List Nat) (ls : List Ins) (rs : List (Nat × Int)) (hls : ∀ y ∈ ls, y.c ≠ 23) : ∀ (f : Nat) (st : List Nat) (l nx nq v l1 : Nat), (ev2 cl ags ls rs f st l nx nq).1 = .ok (v, l1) → l1 ≤ l ∧ (∀ l', l - l1 ≤ l' → ev2 cl ags ls rs f st l' nx nq = (.ok (v, l' - (l - l1)), (ev2 cl ags ls rs f st l nx nq).2)) ∧ ∀ l', l' < l - l1 → (ev2 cl ags ls rs f st l' nx nq).1 = .error 102 := by
  intro f
  induction f with
  | zero => intro st l nx nq v l1 h; cases h
  | succ f ih =>
    intro st l nx nq v l1 h
    cases hx : ls[nx]? with
    | none =>
      unfold ev2 at h
      rw [hx] at h
      cases h
    | some x =>
      have hn := hls x (List.mem_of_getElem? hx)
      have U : ∀ l', ev2 cl ags ls rs (f + 1) st l' nx nq = (match stU cl ags ls rs x st l' nx nq with
        | (.error E, q) => (.error E, q)
        | (.ok (st', nx'), q) => if x.c = 1 then (.ok (st.getD 0 0, l' - 1), q) else
          ((ev2 cl ags ls rs f st' (l' - gT x.c) nx' (nq + q.length)).1, q ++ (ev2 cl ags ls rs f st' (l' - gT x.c) nx' (nq + q.length)).2)) := fun l' => by
        rw [ev2, hx]
        rfl
      have hg : ∀ y, (stU cl ags ls rs x st l nx nq).1 = .ok y → gT x.c ≤ l := fun y e => stU_gas e
      have hs : ∀ l', gT x.c ≤ l → gT x.c ≤ l' → stU cl ags ls rs x st l' nx nq = stU cl ags ls rs x st l nx nq := fun l' h1 h2 => stU_same hn h1 h2
      have ho : ∀ l', l' < gT x.c → stU cl ags ls rs x st l' nx nq = (.error 102, []) := fun l' h1 => stU_out h1
      rw [U l] at h
      rcases hst : stU cl ags ls rs x st l nx nq with ⟨r1, q⟩
      rw [hst] at h hg hs
      cases r1 with
      | error E => cases h
      | ok y =>
        obtain ⟨st', nx'⟩ := y
        have g0 := hg _ rfl
        by_cases h1 : x.c = 1
        · simp only [if_pos h1, Except.ok.injEq, Prod.mk.injEq] at h
          obtain ⟨rfl, rfl⟩ := h
          have g1 : gT x.c = 1 := by rw [h1]; rfl
          refine ⟨by omega, fun l' hl => ?_, fun l' hl => ?_⟩
          · rw [U l', U l, hs l' g0 (by omega), hst]
            simp only [if_pos h1]
            rw [show l' - 1 = l' - (l - (l - 1)) by omega]
          · rw [U l', ho l' (by omega)]
        · simp only [if_neg h1] at h
          obtain ⟨i1, i2, i3⟩ := ih st' (l - gT x.c) nx' (nq + q.length) v l1 h
          refine ⟨by omega, fun l' hl => ?_, fun l' hl => ?_⟩
          · rw [U l', U l, hs l' g0 (by omega), hst]
            simp only [if_neg h1]
            rw [i2 (l' - gT x.c) (by omega)]
            rw [show l' - gT x.c - (l - gT x.c - l1) = l' - (l - l1) by omega]
          · rw [U l']
            by_cases hlt : l' < gT x.c
            · rw [ho l' hlt]
            · rw [hs l' g0 (by omega)]
              simp only [if_neg h1]
              exact i3 (l' - gT x.c) (by omega)
/-- What a run ends with: no error 0; some gas used. -/
theorem ev2_ends {B : Nat} {cl : Cl} {ags : List Nat} {ls : List Ins} {rs : List (Nat × Int)} (V : Vals B cl ags ls rs) (hc : ∀ y ∈ ls, y.c < 28) : ∀ (f : Nat) (st : List Nat) (l nx nq : Nat), l < f → l ≤ 10000 → (∀ a ∈ st, a < B) → (ev2 cl ags ls rs f st l nx nq).1 ≠ .error 0 ∧ ∀ v l1, (ev2 cl ags ls rs f st l nx nq).1 = .ok (v, l1) → l1 < l := by
  intro f
  induction f with
  | zero => intro st l nx nq h; omega
  | succ f ih =>
    intro st l nx nq hf hl hst
    unfold ev2
    cases hx : ls[nx]? with
    | none => exact ⟨fun e => by simp at e, fun v l1 e => by cases e⟩
    | some x =>
      simp only
      have hm := List.mem_of_getElem? hx
      have hnx : nx + 1 ≤ ls.length := (List.getElem?_eq_some_iff.1 hx).1
      have hi := stU_inv V x hm (hc x hm) st hst l nx nq hl hnx
      have hg : ∀ y, (stU cl ags ls rs x st l nx nq).1 = .ok y → gT x.c ≤ l := fun y e => stU_gas e
      rcases hst2 : stU cl ags ls rs x st l nx nq with ⟨r1, q⟩
      rw [hst2] at hi hg
      cases r1 with
      | error E =>
        refine ⟨fun e => ?_, fun v l1 e => by cases e⟩
        simp only [Except.error.injEq] at e
        exact hi.2 E rfl e
      | ok y =>
        obtain ⟨st', nx'⟩ := y
        have g0 := hg _ rfl
        have g1 := gT_pos _ (hc x hm)
        simp only
        split
        · refine ⟨fun e => (by cases e), fun v l1 e => ?_⟩
          simp only [Except.ok.injEq, Prod.mk.injEq] at e
          omega
        · obtain ⟨i1, i2⟩ := ih st' (l - gT x.c) nx' (nq + q.length) (by omega) (by omega) (hi.1 _ _ rfl).1
          exact ⟨i1, fun v l1 e => Nat.lt_of_lt_of_le (i2 v l1 e) (Nat.sub_le _ _)⟩
/-- The call with another gas. -/
def Ca.gs (c : Ca) (g : Int) : Ca := ⟨c.sf, c.cr, c.tok, c.amt, c.tm, g⟩
theorem Ca.gs_wf {c : Ca} (h : c.Wf) (g : Int) : (c.gs g).Wf := ⟨h.l1, h.l2, h.amt⟩
/-- A run that went well: its gas, and what it does with other gas. -/
theorem mrun_gas (pd : List (BitVec 8)) (c : Ca) (hc : c.Wf) (ags : List Nat) (rs : List (Nat × Int)) (hag : ∀ a ∈ ags, a < 2 ^ 256) (hrs : ∀ p ∈ rs, p.1 < 2 ^ 256) (RV : List Value) (Q : List (List Value)) (h : mrun pd c ags rs = ((RV, 0), Q)) :
    ∃ (v u : Nat) (ls : List Ins), RV = wq v ++ [.int .i64 (u : Int)] ∧ 1 ≤ u ∧ (u : Int) ≤ c.gas ∧ c.gas ≤ 10000 ∧ chk pd = some ls ∧ ((∀ y ∈ ls, y.c ≠ 23) → (∀ t : Nat, u + t ≤ 10000 → mrun pd (c.gs ((u + t : Nat) : Int)) ags rs = ((RV, 0), Q)) ∧ ∃ Q', mrun pd (c.gs ((u : Int) - 1)) ags rs = ((zR, if u = 1 then 101 else 102), Q')) := by
  unfold mrun at h
  cases hck : chk pd with
  | none =>
    rw [hck] at h
    simp at h
  | some ls =>
    rw [hck] at h
    simp only at h
    split at h
    case isFalse => simp at h
    case isTrue hmy =>
      have hok := chk_ok hck
      have hbig : 4611686018427387905 < 2 ^ 256 := Nat.lt_of_lt_of_le (by decide : 4611686018427387905 < 2 ^ 63) (Nat.pow_le_pow_right (by decide) (by decide))
      have V : Vals (2 ^ 256) c.cl ags ls rs := ⟨Nat.lt_trans (by decide) hbig, fun h1 h2 h3 => (bin_lt h1 h2 h3).1, hag, by omega, nb_lt, (by show c.tok.toNat < _; exact Nat.lt_trans (by omega : c.tok.toNat < 4611686018427387905) hbig), hc.amt, (by show c.tm.toNat < _; exact Nat.lt_trans (by omega : c.tm.toNat < 4611686018427387905) hbig), hok.2.2.2.1, hrs, hok.2.2.2.2.1⟩
      have hne := ev2_ends V (fun y hy => (hok.2.2.1 y hy).1) 10001 [] c.gas.toNat 0 0 (by omega) (by omega) (fun a ha => by cases ha)
      have hgs := fun hls => ev2_gas c.cl ags ls rs hls 10001 [] c.gas.toNat 0 0
      simp only [Prod.mk.injEq] at h
      obtain ⟨h1, h2⟩ := h
      cases hR : (ev2 c.cl ags ls rs 10001 [] c.gas.toNat 0 0).1 with
      | error E =>
        rw [hR] at h1 hne
        have : E = 0 := (Prod.mk.inj h1).2
        exact absurd (by rw [this]) hne.1
      | ok y =>
        obtain ⟨v, l1⟩ := y
        have hlt := hne.2 v l1 hR
        rw [hR] at h1
        have hRV : RV = wq v ++ [.int .i64 ((c.gas.toNat - l1 : Nat) : Int)] := (Prod.mk.inj h1).1.symm
        refine ⟨v, c.gas.toNat - l1, ls, hRV, by omega, by omega, by omega, rfl, fun hls => ?_⟩
        obtain ⟨_, g2, g3⟩ := hgs hls v l1 hR
        refine ⟨fun t ht => ?_, ?_⟩
        · unfold mrun
          rw [hck]
          simp only
          rw [if_pos (show _ by refine ⟨hmy.1, hmy.2.1, hmy.2.2.1, hmy.2.2.2.1, hmy.2.2.2.2.1, ?_, ?_⟩ <;> (unfold Ca.gs; simp only; omega))]
          have e1 : (c.gs ((c.gas.toNat - l1 + t : Nat) : Int)).gas.toNat = c.gas.toNat - l1 + t := Int.toNat_natCast _
          rw [e1, show (c.gs ((c.gas.toNat - l1 + t : Nat) : Int)).cl = c.cl from rfl, g2 _ (Nat.le_add_right _ _), h2, hRV]
          simp only [rans2]
          rw [show c.gas.toNat - l1 + t - (c.gas.toNat - l1 + t - (c.gas.toNat - l1)) = c.gas.toNat - l1 by omega]
        · unfold mrun
          rw [hck]
          simp only
          by_cases hu : c.gas.toNat - l1 = 1
          · rw [if_neg (show ¬ _ by rintro ⟨_, _, _, _, _, q, _⟩; unfold Ca.gs at q; simp only at q; omega), if_pos hu]
            exact ⟨[], rfl⟩
          · rw [if_pos (show _ by refine ⟨hmy.1, hmy.2.1, hmy.2.2.1, hmy.2.2.2.1, hmy.2.2.2.2.1, ?_, ?_⟩ <;> (unfold Ca.gs; simp only; omega)), if_neg hu]
            have e1 : (c.gs (((c.gas.toNat - l1 : Nat) : Int) - 1)).gas.toNat = c.gas.toNat - l1 - 1 := by unfold Ca.gs; simp only; omega
            rw [e1, show (c.gs (((c.gas.toNat - l1 : Nat) : Int) - 1)).cl = c.cl from rfl, g3 (c.gas.toNat - l1 - 1) (by omega)]
            exact ⟨_, rfl⟩

end Go.Proofs.Ytabcglakdlkdcaa
/-
  looks.
-/
namespace Go.Proofs.Ytabcglakdlkdcaa
open Go Go.RowKit
open Sha
open Wd

theorem szn {d : List (BitVec 8)} {p c a m s : Nat} (h : ri (d.drop p) = some (c, a, m, s)) : sz d p = s := by unfold sz; rw [h]
theorem ri_head {b : List (BitVec 8)} {c a m s : Nat} (h : ri b = some (c, a, m, s)) : ∃ x r, b = x :: r ∧ x.toNat = c := by
  cases b with
  | nil => cases h
  | cons x r =>
    refine ⟨x, r, rfl, ?_⟩
    unfold ri at h
    simp only at h
    split at h
    · cases h
    · split at h
      · cases h
      · split at h
        · cases h
        · simp only [Option.some.injEq, Prod.mk.injEq] at h
          exact h.1
set_option maxRecDepth 100000 in
set_option maxHeartbeats 4000000 in
theorem looks_any (g o n cap : Nat) (d : List (BitVec 8)) (hd : d.length = n) (h1 : n ≤ 1024) (ls : List Ins) (hp : pg d (n + 1) 0 = some ls) (w : World) (hr : w.rangeAt g o (vB d)) : Calls Try.prog 8 #[.slice (some ⟨g, o, none⟩) n cap] w fun e w' => e = .returned (.bool (ls.any (·.c == 23))) ∧ w' = w := by
  have HR : Hid (w.rangeAt g o (vB d)) := hr
  have HDL : Hid (d.length = n) := hd
  have HP0 : Hid (pg d (n + 1) 0 = some ls) := hp
  clear hr hd hp
  go_enter Try.func8, Try.ntmps8
  go_wp2_with fail
  go_loopw [3] (fun v3 wr => ∃ (p f : Nat) (pre : List Ins), p ≤ n ∧ v3 = .int .i64 (p : Int) ∧ wr = w ∧ Hid (n ≤ p + f ∧ pg d (n + 1) 0 = (pg d (f + 1) p).map (pre ++ ·)) ∧ Hid (∀ y ∈ pre, y.c ≠ 23)) (fun v3 _ => n - (intOf v3).toNat)
  case atStart => exact ⟨0, n, [], Nat.zero_le _, rfl, rfl, by show _ ∧ _; exact ⟨by omega, by simp⟩, fun y hy => by cases hy⟩
  case round =>
    obtain ⟨p, f, pre, hpn, rfl, hw, HPG, HPR⟩ := hrel
    subst hw
    by_cases hlt : p < n
    · have HSZ : Hid _ := size_any g o n cap p d HDL.out hlt h1 wr HR.out
      obtain ⟨f', rfl⟩ : ∃ f', f = f' + 1 := ⟨f - 1, by have := HPG.out.1; omega⟩
      cases hri : ri (d.drop p) with
      | none =>
        have := HP0.out
        rw [HPG.out.2, pg_none (by rw [HDL.out]; exact hlt) hri] at this
        cases this
      | some y =>
        obtain ⟨c, a, m, z⟩ := y
        have hz := ri_size hri
        have hzn : p + z ≤ n := by have h1 := hz.2.2.2; rw [List.length_drop, HDL.out] at h1; omega
        have hz1 : 1 ≤ z := hz.2.1
        have ez0 : ((z : Int) == 0) = false := by simp; omega
        have hz257 : z ≤ 257 := hz.2.2.1
        obtain ⟨x, r, hx, hxc⟩ := ri_head hri
        have c0 := drop_cell hx HR.out
        rw [hxc] at c0
        have HPG2 : Hid (n ≤ p + z + f' ∧ pg d (n + 1) 0 = (pg d (f' + 1) (p + z)).map ((pre ++ [⟨c, p, a, m⟩]) ++ ·)) := by
          refine ⟨by have := HPG.out.1; omega, ?_⟩
          rw [HPG.out.2, pg_some (by rw [HDL.out]; exact hlt) hri, Option.map_map]
          congr 1
          funext r
          simp
        rw [szn hri] at HSZ
        clear hri HPG hz hx hxc
        by_cases h23 : c = 23
        · have e23 : ((c : Int) == 23) = true := by simp; omega
          have HT : Hid (ls.any (·.c == 23) = true) := by
            have q := HP0.out
            rw [HPG2.out.2] at q
            cases hq : pg d (f' + 1) (p + z) with
            | none => rw [hq] at q; cases q
            | some l2 =>
              rw [hq] at q
              simp only [Option.map_some, Option.some.injEq] at q
              show _ = _
              rw [← q]
              simp [h23]
          go_wp2_with (go_at_call 11; refine Calls.mono HSZ.out ?_; rintro e X1 ⟨rfl, rfl⟩)
          go_ret
          exact ⟨by rw [HT.out]; rfl, rfl⟩
        · have e23 : ((c : Int) == 23) = false := by simp; omega
          have HPR2 : Hid (∀ y ∈ pre ++ [(⟨c, p, a, m⟩ : Ins)], y.c ≠ 23) := fun y hy => by
            rcases List.mem_append.1 hy with q | q
            · exact HPR.out y q
            · obtain rfl := List.mem_singleton.1 q
              exact h23
          go_wp2_with (go_at_call 11; refine Calls.mono HSZ.out ?_; rintro e X1 ⟨rfl, rfl⟩)
          exact ⟨⟨p + z, f', _, hzn, by go_num, trivial, HPG2, HPR2⟩, by simp [intOf]; omega⟩
    · have HPS : Hid (∀ y ∈ ls, y.c ≠ 23) := by
        have := HP0.out
        rw [HPG.out.2, pg_end (by rw [HDL.out]; omega)] at this
        simp only [Option.map_some, List.append_nil, Option.some.injEq] at this
        rw [← this]
        exact HPR.out
      have e4 : (p : Int) = (n : Int) := by omega
      rw [e4]
      clear e4 hlt hpn HPG
      go_wp2
      go_ret
      have HF : ls.any (·.c == 23) = false := by
        rw [List.any_eq_false]
        intro y hy
        have := HPS.out y hy
        simpa using this
      exact ⟨by rw [HF]; rfl, rfl⟩

end Go.Proofs.Ytabcglakdlkdcaa
/-
  MachineMeters: what its walk keeps.
-/
namespace Go.Proofs.Ytabcglakdlkdcaa
open Go Go.RowKit
open Sha
open Wd

abbrev zPl : List Value := Value.slice none 0 0 :: (List.replicate 40 (Value.int .u8 0) ++ [Value.int .i64 0, .int .u64 0, .int .u64 0, .int .u64 0, .int .u64 0, .slice none 0 0, .int .i64 0, .int .i64 0, .slice none 0 0])
section
variable {ops : Array Oper} {rest : List Oper} {op : Oper} {a : Act} {w : World} {Q : Exit → Act → World → Prop}
theorem wpList_eqRnV (hw : Region.wanted op (yielded ops a.tmps) = true) (x y : Operand) (yt : TypeId) (ho : op.op = .binOp .eql 35 x y yt) (L : List Value) (m : Nat) (g : Int) (hL : L = wq m ++ [.int .i64 g]) (hx : a.eval x = .agg L.toArray) (hy : a.eval y = .agg L.toArray) (h : wpList Try.prog ops Q rest (a.put op.dst (.bool true)) w) : wpList Try.prog ops Q (op :: rest) a w :=
  BigFrame.wpList_want hw fun _ hK => by
    have hr : (binOp .eql 35 (.agg L.toArray) (.agg L.toArray)).run Try.prog w = .ok (.bool true) w := by rw [run_eql_struct, selfRn w 9996 m g L hL]; rfl
    unfold Oper.wp execOp
    simp only [ho, hx, hy, Sem.run_bind, run_eqGuard_agg w .eql 35 x y _ _ guardRn, Result.andThen_ok, hr, Sem.run_pure, Oper.upon_value]
    exact hK _ _ h
theorem wpList_neRnV (hw : Region.wanted op (yielded ops a.tmps) = true) (x y : Operand) (yt : TypeId) (ho : op.op = .binOp .neq 35 x y yt) (L : List Value) (m : Nat) (g : Int) (hL : L = wq m ++ [.int .i64 g]) (hx : a.eval x = .agg L.toArray) (hy : a.eval y = .agg L.toArray) (h : wpList Try.prog ops Q rest (a.put op.dst (.bool false)) w) : wpList Try.prog ops Q (op :: rest) a w :=
  BigFrame.wpList_want hw fun _ hK => by
    have hr : (binOp .neq 35 (.agg L.toArray) (.agg L.toArray)).run Try.prog w = .ok (.bool false) w := by rw [run_neq_struct, selfRn w 9996 m g L hL]; rfl
    unfold Oper.wp execOp
    simp only [ho, hx, hy, Sem.run_bind, run_eqGuard_agg w .neq 35 x y _ _ guardRn, Result.andThen_ok, hr, Sem.run_pure, Oper.upon_value]
    exact hK _ _ h
theorem wpList_ldRV (hw : Region.wanted op (yielded ops a.tmps) = true) (x : Operand) (ho : op.op = .load 35 x) (b : Nat) (hx : a.eval x = .pointer (some ⟨b, 0, none⟩)) (L : List Value) (hL : L.length = 5) (r : Row w b L 35) (h : wpList Try.prog ops Q rest (a.put op.dst (.agg L.toArray)) w) : wpList Try.prog ops Q (op :: rest) a w :=
  BigFrame.wpList_want hw fun _ hK => wp_load_mid 35 x ho b 0 hx L _ r.all Try.underlying35 rfl (by rw [hL]; exact info_Ran) (hK _ _ h)
theorem wpList_bldRV (hw : Region.wanted op (yielded ops a.tmps) = true) (ho : op.op = .build 35 #[]) (h : wpList Try.prog ops Q rest (a.put op.dst (.agg zR.toArray)) w) : wpList Try.prog ops Q (op :: rest) a w :=
  BigFrame.wpList_want hw fun _ hK => by
    unfold Oper.wp execOp
    simp only [ho]
    go_simp
    exact hK _ _ h
theorem wpList_allocPl (hgd : op.guard = none) (ho : op.op = .alloc 33) (h : ∀ X, Row X w.heap.size zPl 33 → Below w.heap.size w X → wpList Try.prog ops Q rest (a.put op.dst (.pointer (some ⟨w.heap.size, 0, none⟩))) X) : wpList Try.prog ops Q (op :: rest) a w :=
  wpList_plain hgd fun _ hK => by
    unfold Oper.wp execOp
    simp only [ho]
    go_simp
    exact hK _ _ (h _ (Row.new' (cs := zPl) rfl rfl) ((Below.refl _ _).alloc (Nat.le_refl _) _))
end
theorem Ca.set47 {c : Ca} (h : c.Wf) (v : Value) (g : Int) : (c.cs v).set 47 (.int .i64 g) = (c.gs g).cs v := by
  unfold Ca.cs Ca.gs
  rw [List.set_append, if_neg (by rw [vB_len, h.l1]; decide), List.set_append, if_neg (by rw [vB_len, vB_len, h.l1, h.l2]; decide), vB_len, vB_len, h.l1, h.l2, show 47 - 20 - 20 = 6 + 1 by decide, List.set_cons_succ, List.set_append, if_neg (by rw [wq_len]; decide), wq_len]
  rfl
/-- A play's cells. -/
def plc (kv av rv : Value) (c : Ca) : List Value := kv :: (c.cs av ++ [rv])
theorem plc_len {c : Ca} (h : c.Wf) (kv av rv : Value) : (plc kv av rv c).length = 50 := by
  unfold plc
  rw [List.length_cons, List.length_append, Ca.len h]
  rfl
theorem plc_gas {c : Ca} (h : c.Wf) (kv av rv : Value) : (plc kv av rv c)[48]? = some (.int .i64 c.gas) := by
  unfold plc
  rw [List.getElem?_cons_succ, List.getElem?_append_left (by rw [Ca.len h]; decide), Ca.at47 h]
theorem plc_set {c : Ca} (h : c.Wf) (kv av rv : Value) (g : Int) : (plc kv av rv c).set 48 (.int .i64 g) = plc kv av rv (c.gs g) := by
  unfold plc
  rw [List.set_cons_succ, List.set_append, if_pos (by rw [Ca.len h]; decide), Ca.set47 h]
theorem plc_one {c : Ca} (kv av rv : Value) (h1 : kv.oneCell' = true) (h2 : av.oneCell' = true) (h3 : rv.oneCell' = true) : (plc kv av rv c).toArray.all (·.oneCell') = true := by
  have := Ca.one (c := c) av h2
  rw [← Array.all_toList] at this ⊢
  unfold plc
  rw [List.all_cons, List.all_append]
  simp only at this
  rw [this, h1]
  simp [h3]
/-- What the walk keeps. -/
structure Mt (w : World) (b5 b8 b9 : Nat) (RV P8 L9 : List Value) (v7 : Value) (n7 : Nat) (F : List Value) (X : World) : Prop where
  be : Below w.heap.size w X
  r5 : Row X b5 RV 35
  r8 : Row X b8 P8 33
  r9 : Row X b9 L9 35
  l7 : Lw X tAk 30 v7 n7 F
  i8 : w.heap.size ≤ b8
  i9 : w.heap.size ≤ b9
  ne : b5 ≠ b9
section
variable {w X Y : World} {b5 b8 b9 n7 : Nat} {RV P8 L9 F : List Value} {v7 : Value}
theorem Mt.below (h : Mt w b5 b8 b9 RV P8 L9 v7 n7 F X) (k : Below X.heap.size X Y) : Mt w b5 b8 b9 RV P8 L9 v7 n7 F Y :=
  ⟨h.be.trans (k.mono h.be.size), Row.below h.r5 k h.r5.lt, Row.below h.r8 k h.r8.lt, Row.below h.r9 k h.r9.lt, Lw.be h.l7 k, h.i8, h.i9, h.ne⟩
theorem Mt.put8 {P8' : List Value} (h : Mt w b5 b8 b9 RV P8 L9 v7 n7 F X) (r : Row Y b8 P8' 33) (k : Gro (· = b8) X Y) : Mt w b5 b8 b9 RV P8' L9 v7 n7 F Y :=
  ⟨((Gro.of_below h.be : Gro (fun g => w.heap.size ≤ g) w X).trans (k.mono fun g e => by subst e; exact h.i8)).to_below (Nat.le_refl _) (fun _ h => h), k.row h.r5 (fun e => row_ne2 h.r5 h.r8 (by decide) e), r, k.row h.r9 (fun e => row_ne2 h.r9 h.r8 (by decide) e), Lw.gro h.l7 k (Lw.ne h.l7 h.r8 (by decide)), h.i8, h.i9, h.ne⟩
theorem Mt.put9 {L9' : List Value} (h : Mt w b5 b8 b9 RV P8 L9 v7 n7 F X) (r : Row Y b9 L9' 35) (k : Gro (· = b9) X Y) : Mt w b5 b8 b9 RV P8 L9' v7 n7 F Y :=
  ⟨((Gro.of_below h.be : Gro (fun g => w.heap.size ≤ g) w X).trans (k.mono fun g e => by subst e; exact h.i9)).to_below (Nat.le_refl _) (fun _ h => h), k.row h.r5 h.ne, k.row h.r8 (fun e => row_ne2 h.r8 h.r9 (by decide) e), r, Lw.gro h.l7 k (Lw.ne h.l7 h.r9 (by decide)), h.i8, h.i9, h.ne⟩
end
theorem chk_pg {d : List (BitVec 8)} {ls : List Ins} (h : chk d = some ls) : pg d (d.length + 1) 0 = some ls := by
  unfold chk at h
  split at h
  · cases h
  cases hp : pg d (d.length + 1) 0 with
  | none => rw [hp] at h; cases h
  | some l =>
    rw [hp] at h
    simp only at h
    split at h
    · exact h
    · cases h
theorem Sin.some_of {w : World} {s n c : Nat} {A : Option Addr} {xs : List Value} (h : Sin w s A n c xs) (hn : 0 < n) : ∃ g o, A = some ⟨g, o, none⟩ ∧ w.rangeAt g o xs := by
  rcases h with ⟨h, _⟩ | ⟨g, o, h1, _, h2⟩
  · omega
  · exact ⟨g, o, h1, h2⟩

end Go.Proofs.Ytabcglakdlkdcaa
