/-
  pathLen.
-/
import Derived.Test.YtkgfaioinajkjaaDoorTRoot
namespace Go.Proofs.YtkgfaioinajkjaaDoor
open Go Go.RowKit
open Sha

/-- How many digests a path has, by fuel. -/
def plF : Nat → Nat → Nat → Nat
  | 0, _, _ => 0
  | f + 1, n, i => if n = 1 then 0 else if i < fpart n then plF f (fpart n) i + 1 else plF f (n - fpart n) (i - fpart n) + 1
/-- How many digests the path of leaf i of n has. -/
def pl (n i : Nat) : Nat := plF n n i
theorem plF_fuel : ∀ (f g n i : Nat), 1 ≤ n → n ≤ f → n ≤ g → n < 4611686018427387904 → plF f n i = plF g n i
  | 0, _, _, _, h1, h, _, _ => by omega
  | _ + 1, 0, _, _, h1, _, h, _ => by omega
  | f + 1, g + 1, n, i, h1, hf, hg, hl => by
    unfold plF
    split
    · rfl
    · have hb := fpart_bounds n (by omega) hl
      have hp := fpart_pos n
      rw [plF_fuel f g (fpart n) i (by omega) (by omega) (by omega) (by omega), plF_fuel f g (n - fpart n) (i - fpart n) (by omega) (by omega) (by omega) (by omega)]
theorem pl_one (i : Nat) : pl 1 i = 0 := rfl
theorem pl_many (n i : Nat) (h2 : 2 ≤ n) (hl : n < 4611686018427387904) : pl n i = if i < fpart n then pl (fpart n) i + 1 else pl (n - fpart n) (i - fpart n) + 1 := by
  have hb := fpart_bounds n h2 hl
  have hp := fpart_pos n
  have e : pl n i = plF (n + 1) n i := plF_fuel _ _ n i (by omega) (Nat.le_refl _) (by omega) hl
  rw [e]
  unfold plF
  rw [if_neg (by omega), plF_fuel n (fpart n) (fpart n) i (by omega) (by omega) (Nat.le_refl _) (by omega), plF_fuel n (n - fpart n) (n - fpart n) (i - fpart n) (by omega) (by omega) (Nat.le_refl _) (by omega)]
  rfl
theorem pl_left (n i : Nat) (h2 : 2 ≤ n) (hl : n < 4611686018427387904) (h : i < fpart n) : pl n i = pl (fpart n) i + 1 := by rw [pl_many n i h2 hl, if_pos h]
theorem pl_right (n i : Nat) (h2 : 2 ≤ n) (hl : n < 4611686018427387904) (h : ¬ i < fpart n) : pl n i = pl (n - fpart n) (i - fpart n) + 1 := by rw [pl_many n i h2 hl, if_neg h]
theorem pl_lt (n : Nat) : ∀ i, 1 ≤ n → n < 4611686018427387904 → pl n i < n := by
  induction n using Nat.strongRecOn with
  | ind n ih =>
    intro i h1 hl
    by_cases e : n = 1
    · subst e; rw [pl_one]; omega
    · have hb := fpart_bounds n (by omega) hl
      have hp := fpart_pos n
      have := ih (fpart n) (by omega) i (by omega) (by omega)
      have := ih (n - fpart n) (by omega) (i - fpart n) (by omega) (by omega)
      rw [pl_many n i (by omega) hl]
      split <;> omega

set_option maxRecDepth 100000 in
set_option maxHeartbeats 1000000 in
theorem plen_one (i : Int) (w : World) :
    Calls Tryd.prog 38 #[.int .i64 1, .int .i64 i] w fun e w' => e = .returned (.int .i64 0) ∧ w' = w := by
  go_enter Tryd.func38, Tryd.ntmps38
  go_wp2_with fail
  go_ret
  exact ⟨rfl, rfl⟩
end Go.Proofs.YtkgfaioinajkjaaDoor
