/-
  The frontier of a log: perfect parts from the greatest to the least; what it becomes with one more; the root over them.
-/
import Derived.Test.YtkgfaioinajkjaaDoorTLs
namespace Go.Proofs.YtkgfaioinajkjaaDoor
open Go Go.RowKit
open Sha

/-- Two parts together. -/
def nd (l r : List (BitVec 8)) : List (BitVec 8) := dig ([1#8] ++ (l ++ r))

theorem fpart_two_pow (n j : Nat) (h2 : 2 ≤ n) (hn : n < 4611686018427387904) (ha : 2 ^ j < n) (hb : n ≤ 2 * 2 ^ j) : fpart n = 2 ^ j := by
  have hf := fpart_bounds n h2 hn
  have hp : fpart n = 2 ^ (Lib.bitLen (n - 1) - 1) := rfl
  generalize Lib.bitLen (n - 1) - 1 = i at hp
  rw [hp] at hf ⊢
  rcases Nat.lt_trichotomy i j with h | h | h
  · exfalso
    have : 2 * 2 ^ i ≤ 2 ^ j := by
      rw [Nat.mul_comm, ← Nat.pow_succ]; exact Nat.pow_le_pow_right (by decide) h
    omega
  · rw [h]
  · exfalso
    have : 2 * 2 ^ j ≤ 2 ^ i := by
      rw [Nat.mul_comm, ← Nat.pow_succ]; exact Nat.pow_le_pow_right (by decide) h
    omega

/-- A part of two halves, of which the left one is whole. -/
theorem rt_two (k : Nat) (x y : List (List (BitVec 8))) (hx : x.length = 2 ^ k) (h1 : 1 ≤ y.length) (hy : y.length ≤ 2 ^ k) (hl : (x ++ y).length < 4611686018427387904) : rt (x ++ y) = nd (rt x) (rt y) := by
  have hp : 1 ≤ 2 ^ k := Nat.pow_pos (by decide)
  have hxy : (x ++ y).length = 2 ^ k + y.length := by rw [List.length_append, hx]
  have hf : fpart (x ++ y).length = 2 ^ k := fpart_two_pow _ k (by omega) hl (by omega) (by omega)
  rw [rt_many (x ++ y) (by omega) hl, hf, ← hx, List.take_left', List.drop_left'] <;> first | rfl | skip

/-- The frontier at a level: m parts of 2^k leaves, as few as can be. -/
def fr (k m : Nat) (ps : List (List (BitVec 8))) : List (List (BitVec 8)) :=
  if _h : m = 0 then [] else if m % 2 = 1 then fr (k + 1) (m / 2) (ps.take ((m - 1) * 2 ^ k)) ++ [rt (ps.drop ((m - 1) * 2 ^ k))] else fr (k + 1) (m / 2) ps
termination_by m
decreasing_by all_goals omega
theorem fr_zero (k : Nat) (ps : List (List (BitVec 8))) : fr k 0 ps = [] := by rw [fr, dif_pos rfl]
theorem fr_odd (k m : Nat) (ps : List (List (BitVec 8))) (h : m % 2 = 1) : fr k m ps = fr (k + 1) (m / 2) (ps.take ((m - 1) * 2 ^ k)) ++ [rt (ps.drop ((m - 1) * 2 ^ k))] := by
  rw [fr, dif_neg (by omega), if_pos h]
theorem fr_even (k m : Nat) (ps : List (List (BitVec 8))) (h : m % 2 = 0) (h0 : m ≠ 0) : fr k m ps = fr (k + 1) (m / 2) ps := by
  rw [fr, dif_neg h0, if_neg (by omega)]

theorem half_pow (k m : Nat) (h : m % 2 = 1) : (m - 1) * 2 ^ k = m / 2 * 2 ^ (k + 1) := by
  rw [Nat.pow_succ, show m - 1 = m / 2 * 2 by omega, Nat.mul_assoc, Nat.mul_comm 2 (2 ^ k)]
theorem even_pow (k m : Nat) (h : m % 2 = 0) : m * 2 ^ k = m / 2 * 2 ^ (k + 1) := by
  rw [Nat.pow_succ, show m = m / 2 * 2 by omega, Nat.mul_div_cancel _ (by decide), Nat.mul_assoc, Nat.mul_comm 2 (2 ^ k)]
theorem odd_rest (k m : Nat) (ps : List (List (BitVec 8))) (h : m % 2 = 1) (hl : ps.length = m * 2 ^ k) : (ps.take ((m - 1) * 2 ^ k)).length = m / 2 * 2 ^ (k + 1) ∧ (ps.drop ((m - 1) * 2 ^ k)).length = 2 ^ k := by
  have e : m * 2 ^ k = (m - 1) * 2 ^ k + 2 ^ k := by
    rw [show m * 2 ^ k = ((m - 1) + 1) * 2 ^ k by rw [Nat.sub_add_cancel (by omega)], Nat.add_mul, Nat.one_mul]
  rw [← half_pow k m h]
  generalize (m - 1) * 2 ^ k = a at *
  exact ⟨by rw [List.length_take, hl, e]; exact Nat.min_eq_left (Nat.le_add_right _ _), by rw [List.length_drop, hl, e]; exact Nat.add_sub_cancel_left _ _⟩

theorem fr_fold (m : Nat) : ∀ (k : Nat) (ps y : List (List (BitVec 8))), ps.length = m * 2 ^ k → 1 ≤ y.length → y.length ≤ 2 ^ k → (ps ++ y).length < 4611686018427387904 → (fr k m ps).foldr nd (rt y) = rt (ps ++ y) := by
  induction m using Nat.strongRecOn with
  | ind m ih =>
    intro k ps y hl h1 hy hs
    by_cases h0 : m = 0
    · subst h0
      rw [Nat.zero_mul] at hl
      rw [fr_zero, List.length_eq_zero_iff.1 hl]
      rfl
    · by_cases ho : m % 2 = 1
      · obtain ⟨e1, e2⟩ := odd_rest k m ps ho hl
        have e3 := List.take_append_drop ((m - 1) * 2 ^ k) ps
        rw [fr_odd k m ps ho, List.foldr_append]
        generalize ps.take ((m - 1) * 2 ^ k) = A at *
        generalize ps.drop ((m - 1) * 2 ^ k) = x at *
        subst e3
        have hs' : (x ++ y).length < 4611686018427387904 := by
          rw [List.length_append, List.length_append] at hs
          rw [List.length_append]; omega
        rw [List.append_assoc] at hs ⊢
        show List.foldr nd (nd (rt x) (rt y)) _ = _
        rw [← rt_two k x y e2 h1 hy hs']
        exact ih (m / 2) (by omega) (k + 1) A (x ++ y) e1 (by rw [List.length_append]; omega) (by rw [List.length_append, Nat.pow_succ]; omega) hs
      · rw [fr_even k m ps (by omega) h0]
        exact ih (m / 2) (by omega) (k + 1) ps y (by rw [hl]; exact even_pow k m (by omega)) h1 (by rw [Nat.pow_succ]; omega) hs

/-- The root of a frontier. -/
theorem fr_root (m : Nat) : ∀ (k : Nat) (ps : List (List (BitVec 8))), 1 ≤ m → ps.length = m * 2 ^ k → ps.length < 4611686018427387904 → ∃ F z, fr k m ps = F ++ [z] ∧ F.foldr nd z = rt ps := by
  induction m using Nat.strongRecOn with
  | ind m ih =>
    intro k ps h1 hl hs
    by_cases ho : m % 2 = 1
    · obtain ⟨e1, e2⟩ := odd_rest k m ps ho hl
      have e3 := List.take_append_drop ((m - 1) * 2 ^ k) ps
      refine ⟨_, _, fr_odd k m ps ho, ?_⟩
      generalize ps.take ((m - 1) * 2 ^ k) = A at *
      generalize ps.drop ((m - 1) * 2 ^ k) = x at *
      subst e3
      have hp : 1 ≤ 2 ^ k := Nat.pow_pos (by decide)
      exact fr_fold (m / 2) (k + 1) A x e1 (by omega) (by rw [Nat.pow_succ]; omega) hs
    · rw [fr_even k m ps (by omega) (by omega)]
      exact ih (m / 2) (by omega) (k + 1) ps (by omega) (by rw [hl]; exact even_pow k m (by omega)) hs

/-- How many bits of 1 stand at a number's end. -/
def t1 (m : Nat) : Nat := if _h : m % 2 = 1 then t1 (m / 2) + 1 else 0
termination_by m
decreasing_by omega
theorem t1_odd (m : Nat) (h : m % 2 = 1) : t1 m = t1 (m / 2) + 1 := by rw [t1, dif_pos h]
theorem t1_even (m : Nat) (h : m % 2 = 0) : t1 m = 0 := by rw [t1, dif_neg (by omega)]

/-- A part that is added, with so many carries. -/
def addF : Nat → List (List (BitVec 8)) → List (BitVec 8) → List (List (BitVec 8))
  | 0, F, p => F ++ [p]
  | t + 1, F, p => addF t F.dropLast (nd (F.getLastD []) p)
theorem fr_add (m : Nat) : ∀ (k : Nat) (ps x : List (List (BitVec 8))), ps.length = m * 2 ^ k → x.length = 2 ^ k → (ps ++ x).length < 4611686018427387904 → addF (t1 m) (fr k m ps) (rt x) = fr k (m + 1) (ps ++ x) := by
  induction m using Nat.strongRecOn with
  | ind m ih =>
    intro k ps x hl hx hs
    have hp : 1 ≤ 2 ^ k := Nat.pow_pos (by decide)
    by_cases ho : m % 2 = 1
    · obtain ⟨e1, e2⟩ := odd_rest k m ps ho hl
      have e3 := List.take_append_drop ((m - 1) * 2 ^ k) ps
      rw [fr_odd k m ps ho, t1_odd m ho, fr_even k (m + 1) _ (by omega) (by omega)]
      generalize ps.take ((m - 1) * 2 ^ k) = A at *
      generalize ps.drop ((m - 1) * 2 ^ k) = y at *
      subst e3
      have hs' : (y ++ x).length < 4611686018427387904 := by
        rw [List.length_append, List.length_append] at hs
        rw [List.length_append]; omega
      rw [addF, List.dropLast_concat, List.getLastD_concat, ← rt_two k y x e2 (by omega) (by omega) hs', show (m + 1) / 2 = m / 2 + 1 by omega, List.append_assoc]
      exact ih (m / 2) (by omega) (k + 1) A (y ++ x) e1 (by rw [List.length_append, Nat.pow_succ]; omega) (by rw [← List.append_assoc]; exact hs)
    · rw [t1_even m (by omega), fr_odd k (m + 1) _ (by omega), show (m + 1) / 2 = m / 2 by omega, show m + 1 - 1 = m by omega, ← hl, List.take_left', List.drop_left', addF]
      · by_cases h0 : m = 0
        · subst h0
          rw [fr_zero, Nat.zero_div, fr_zero]
        · rw [fr_even k m ps (by omega) h0]
      all_goals rfl

/-- The frontier's digests. -/
theorem fr_dl (m : Nat) : ∀ (k : Nat) (ps : List (List (BitVec 8))), ∀ d ∈ fr k m ps, d.length = 32 := by
  induction m using Nat.strongRecOn with
  | ind m ih =>
    intro k ps d hd
    by_cases h0 : m = 0
    · subst h0; rw [fr_zero] at hd; cases hd
    · by_cases ho : m % 2 = 1
      · rw [fr_odd k m ps ho] at hd
        rcases List.mem_append.1 hd with h | h
        · exact ih (m / 2) (by omega) _ _ d h
        · rw [List.mem_singleton.1 h]; exact rt_length _
      · rw [fr_even k m ps (by omega) h0] at hd
        exact ih (m / 2) (by omega) _ _ d hd
/-- How many bits of 1 a number has. -/
def pc (m : Nat) : Nat := if _h : m = 0 then 0 else m % 2 + pc (m / 2)
termination_by m
decreasing_by omega
theorem fr_len (m : Nat) : ∀ (k : Nat) (ps : List (List (BitVec 8))), (fr k m ps).length = pc m := by
  induction m using Nat.strongRecOn with
  | ind m ih =>
    intro k ps
    by_cases h0 : m = 0
    · subst h0; rw [fr_zero, pc, dif_pos rfl]; rfl
    · rw [pc, dif_neg h0]
      by_cases ho : m % 2 = 1
      · rw [fr_odd k m ps ho, List.length_append, ih (m / 2) (by omega), ho]
        simp; omega
      · rw [fr_even k m ps (by omega) h0, ih (m / 2) (by omega), show m % 2 = 0 by omega, Nat.zero_add]
/-- So many carries there are parts for. -/
theorem t1_le (m : Nat) : t1 m ≤ pc m := by
  induction m using Nat.strongRecOn with
  | ind m ih =>
    by_cases ho : m % 2 = 1
    · rw [t1_odd m ho, pc, dif_neg (by omega), ho]
      have := ih (m / 2) (by omega)
      omega
    · rw [t1_even m (by omega)]; exact Nat.zero_le _

end Go.Proofs.YtkgfaioinajkjaaDoor
