/-
  Reading numbers off bytes: mathematics.
-/
import Derived.Test.YtekgojokhjihfaaDoorXMem
namespace Go.Proofs.YtekgojokhjihfaaDoor
open Go Go.RowKit
open Sha

--MATH
def at8 (bs : List (BitVec 8)) (i : Nat) : Nat := (bs.getD i 0).toNat
theorem at8_lt (bs : List (BitVec 8)) (i : Nat) : at8 bs i < 256 := (bs.getD i 0).isLt
/-- What is wrong with a number of at most so many bytes at a place (0: nothing). -/
def hiF (most : Nat) (bs : List (BitVec 8)) (a : Nat) : Int :=
  if bs.length ≤ a then 31 else if most < at8 bs a then 32 else if bs.length < a + 1 + at8 bs a then 31 else if 0 < at8 bs a ∧ at8 bs (a + 1) = 0 then 32 else 0
/-- Part j of the number whose last byte stands ahead of e, by its last t bytes. -/
def lb (bs : List (BitVec 8)) (e : Nat) (j : Nat) : Nat → Nat
  | 0 => 0
  | t + 1 => if t / 8 = j then lb bs e j t + at8 bs (e - 1 - t) * 256 ^ (t % 8) else lb bs e j t
/-- The number by its first i bytes, from s on. -/
def hv (bs : List (BitVec 8)) (s : Nat) : Nat → Nat
  | 0 => 0
  | i + 1 => 256 * hv bs s i + at8 bs (s + i)
theorem lb_none (bs : List (BitVec 8)) (e j : Nat) : ∀ t, t ≤ 8 * j → lb bs e j t = 0
  | 0, _ => rfl
  | t + 1, h => by
    have ih := lb_none bs e j t (by omega)
    simp only [lb]
    rw [if_neg (by omega), ih]
theorem lb_lt (bs : List (BitVec 8)) (e j : Nat) : ∀ t, 8 * j ≤ t → t ≤ 8 * j + 8 → lb bs e j t < 256 ^ (t - 8 * j)
  | 0, h1, _ => by simp [lb]
  | t + 1, h1, h2 => by
    by_cases ht : t + 1 = 8 * j
    · rw [lb_none bs e j (t + 1) (by omega)]; exact Nat.pow_pos (by decide)
    have ih := lb_lt bs e j t (by omega) (by omega)
    have h8 : t / 8 = j := by omega
    simp only [lb]
    rw [if_pos h8]
    have hm : t % 8 = t - 8 * j := by omega
    rw [hm, show t + 1 - 8 * j = (t - 8 * j) + 1 by omega, Nat.pow_succ]
    have hd := at8_lt bs (e - 1 - t)
    have : at8 bs (e - 1 - t) * 256 ^ (t - 8 * j) ≤ 255 * 256 ^ (t - 8 * j) := Nat.mul_le_mul_right _ (by omega)
    omega
theorem lb_stay (bs : List (BitVec 8)) (e j : Nat) : ∀ t, 8 * j + 8 ≤ t → lb bs e j t = lb bs e j (8 * j + 8)
  | 0, h => by omega
  | t + 1, h => by
    by_cases ht : t + 1 = 8 * j + 8
    · rw [ht]
    · have ih := lb_stay bs e j t (by omega)
      have e1 : lb bs e j (t + 1) = if t / 8 = j then lb bs e j t + at8 bs (e - 1 - t) * 256 ^ (t % 8) else lb bs e j t := rfl
      rw [e1, if_neg (by omega), ih]
theorem lb_64 (bs : List (BitVec 8)) (e j t : Nat) : lb bs e j t < 18446744073709551616 := by
  by_cases h1 : t ≤ 8 * j
  · rw [lb_none bs e j t h1]; decide
  · by_cases h2 : t ≤ 8 * j + 8
    · have := lb_lt bs e j t (by omega) h2
      have h3 : 256 ^ (t - 8 * j) ≤ 256 ^ 8 := Nat.pow_le_pow_right (by decide) (by omega)
      have h4 : (256 : Nat) ^ 8 = 18446744073709551616 := by decide
      omega
    · rw [lb_stay bs e j t (by omega)]
      have := lb_lt bs e j (8 * j + 8) (by omega) (by omega)
      rw [show 8 * j + 8 - 8 * j = 8 by omega] at this
      have h4 : (256 : Nat) ^ 8 = 18446744073709551616 := by decide
      omega
/-- Or is plus. -/
theorem lb_or (bs : List (BitVec 8)) (e j t : Nat) (h : t / 8 = j) : lb bs e j t ||| (at8 bs (e - 1 - t) * 2 ^ (t % 8 * 8)) = lb bs e j (t + 1) := by
  have h1 := lb_lt bs e j t (by omega) (by omega)
  have e1 : (2 : Nat) ^ (t % 8 * 8) = 256 ^ (t % 8) := by rw [Nat.mul_comm, Nat.pow_mul]
  simp only [lb]
  rw [if_pos h]
  have h2 : lb bs e j t < 2 ^ (t % 8 * 8) := by rw [e1, show t % 8 = t - 8 * j by omega]; exact h1
  have := Nat.shiftLeft_add_eq_or_of_lt h2 (at8 bs (e - 1 - t))
  rw [Nat.shiftLeft_eq] at this
  rw [Nat.or_comm, ← this, e1, Nat.add_comm]
theorem hv_front (bs : List (BitVec 8)) (s : Nat) : ∀ k, hv bs s (k + 1) = at8 bs s * 256 ^ k + hv bs (s + 1) k
  | 0 => by simp [hv]
  | k + 1 => by
    have ih := hv_front bs s k
    rw [show hv bs s (k + 1 + 1) = 256 * hv bs s (k + 1) + at8 bs (s + (k + 1)) from rfl, ih, show hv bs (s + 1) (k + 1) = 256 * hv bs (s + 1) k + at8 bs (s + 1 + k) from rfl]
    rw [Nat.pow_succ, Nat.mul_add, show s + (k + 1) = s + 1 + k by omega]
    have : 256 * (at8 bs s * 256 ^ k) = at8 bs s * (256 ^ k * 256) := by rw [Nat.mul_comm 256, Nat.mul_assoc]
    omega
theorem hv_lb (bs : List (BitVec 8)) : ∀ k s, k ≤ 8 → hv bs s k = lb bs (s + k) 0 k
  | 0, s, _ => rfl
  | k + 1, s, h => by
    have ih := hv_lb bs k (s + 1) (by omega)
    rw [hv_front, ih]
    simp only [lb]
    rw [if_pos (by omega), show s + (k + 1) - 1 - k = s by omega, show s + 1 + k = s + (k + 1) by omega, Nat.mod_eq_of_lt (show k < 8 by omega)]
    omega
/-- What is wrong with a number; its worth. -/
def nuW (bs : List (BitVec 8)) (a : Nat) : Nat := lb bs (a + 1 + at8 bs a) 0 (at8 bs a)
def nuE (bs : List (BitVec 8)) (a : Nat) : Int := if hiF 8 bs a = 0 then (if 9223372036854775807 < nuW bs a then 32 else 0) else hiF 8 bs a
theorem nu_top (bs : List (BitVec 8)) (a : Nat) (h8 : at8 bs a ≤ 8) : (9223372036854775807 < nuW bs a) ↔ (at8 bs a = 8 ∧ 127 < at8 bs (a + 1)) := by
  unfold nuW
  generalize hk : at8 bs a = k at *
  by_cases h : k = 8
  · subst h
    have h1 := lb_lt bs (a + 1 + 8) 0 7 (by omega) (by omega)
    rw [show lb bs (a + 1 + 8) 0 8 = lb bs (a + 1 + 8) 0 7 + at8 bs (a + 1) * 256 ^ 7 from by
      show (if 7 / 8 = 0 then _ else _) = _
      rw [if_pos (by decide), show a + 1 + 8 - 1 - 7 = a + 1 by omega]]
    have e7 : (256 : Nat) ^ 7 = 72057594037927936 := by decide
    rw [show 7 - 8 * 0 = 7 by omega, e7] at h1
    rw [e7]
    omega
  · have h1 := lb_lt bs (a + 1 + k) 0 k (by omega) (by omega)
    have h2 : 256 ^ (k - 8 * 0) ≤ 256 ^ 7 := Nat.pow_le_pow_right (by decide) (by omega)
    have e7 : (256 : Nat) ^ 7 = 72057594037927936 := by decide
    omega
--END

end Go.Proofs.YtekgojokhjihfaaDoor
