/-
  Mathematics of wide.divide: how many parts the divisor has, and what holds from digit to digit. Nothing of the program.
-/
import Derived.Test.YtclbiophgnkggaaGreatDoorWDvM
import Derived.Lib.ItoaNum
namespace Go.Proofs.YtclbiophgnkggaaGreatDoor
open Go
namespace Wd
/-- The highest part that is not nought (or the lowest). -/
def topi (b : Nat) : Nat := if lim b 3 ≠ 0 then 3 else if lim b 2 ≠ 0 then 2 else if lim b 1 ≠ 0 then 1 else 0
def bitsR (b : Nat) : Nat := 64 * topi b + Lib.bitLen (lim b (topi b))
theorem topi_le (b : Nat) : topi b ≤ 3 := by unfold topi; (repeat' split) <;> decide
theorem four_sum (b : Nat) (hb : b < 2 ^ 256) : b = lim b 0 + lim b 1 * 18446744073709551616 + lim b 2 * 340282366920938463463374607431768211456 + lim b 3 * 6277101735386680763835789423207666416102355444464034512896 := by
  simp only [lim, Nat.reduceMul, Nat.reducePow] at *; omega
theorem topi_spec (b : Nat) (hb : b < 2 ^ 256) (h0 : 0 < b) : 0 < lim b (topi b) ∧ b / 18446744073709551616 ^ topi b = lim b (topi b) := by
  have h := four_sum b hb
  have l0 := lim_lt b 0
  have l1 := lim_lt b 1
  have l2 := lim_lt b 2
  have l3 := lim_lt b 3
  unfold topi
  by_cases h3 : lim b 3 ≠ 0
  · rw [if_pos h3]
    refine ⟨by omega, ?_⟩
    generalize lim b 0 = x0 at *
    generalize lim b 1 = x1 at *
    generalize lim b 2 = x2 at *
    generalize lim b 3 = x3 at *
    simp only [Nat.reducePow]; omega
  rw [if_neg h3]
  by_cases h2 : lim b 2 ≠ 0
  · rw [if_pos h2]
    refine ⟨by omega, ?_⟩
    generalize lim b 0 = x0 at *
    generalize lim b 1 = x1 at *
    generalize lim b 2 = x2 at *
    generalize lim b 3 = x3 at *
    simp only [Nat.reducePow]; omega
  rw [if_neg h2]
  by_cases h1 : lim b 1 ≠ 0
  · rw [if_pos h1]
    refine ⟨by omega, ?_⟩
    generalize lim b 0 = x0 at *
    generalize lim b 1 = x1 at *
    generalize lim b 2 = x2 at *
    generalize lim b 3 = x3 at *
    simp only [Nat.reducePow]; omega
  rw [if_neg h1]
  refine ⟨by omega, ?_⟩
  generalize lim b 0 = x0 at *
  generalize lim b 1 = x1 at *
  generalize lim b 2 = x2 at *
  generalize lim b 3 = x3 at *
  simp only [Nat.reducePow]; omega
theorem topi_bits (b : Nat) (hb : b < 2 ^ 256) (h0 : 0 < b) : (bitsR b + 63) / 64 = topi b + 1 := by
  have h := (topi_spec b hb h0).1
  have hl := lim_lt b (topi b)
  have h1 := (Lib.bitLenAux_bounds 64 (lim b (topi b)) hl (by omega)).1
  change 1 ≤ Lib.bitLen (lim b (topi b)) at h1
  have h2 := Lib.bitLen_le (lim b (topi b)) 64 (by decide) hl
  unfold bitsR
  omega
/-- How far it is moved up. -/
def shf (b : Nat) : Nat := 64 - Lib.bitLen (lim b (topi b))
theorem shf_spec (b : Nat) (hb : b < 2 ^ 256) (h0 : 0 < b) : shf b ≤ 63 ∧ b * 2 ^ shf b < 18446744073709551616 ^ (topi b + 1) ∧ 9223372036854775808 ≤ lim (b * 2 ^ shf b) (topi b) ∧ 9223372036854775808 * 18446744073709551616 ^ topi b ≤ b * 2 ^ shf b := by
  obtain ⟨t1, t2⟩ := topi_spec b hb h0
  have hl := lim_lt b (topi b)
  obtain ⟨b1, b2, b3⟩ := Lib.bitLenAux_bounds 64 (lim b (topi b)) hl (by omega)
  have hbl := Lib.bitLen_le (lim b (topi b)) 64 (by decide) hl
  change 1 ≤ Lib.bitLen (lim b (topi b)) at b1
  change 2 ^ (Lib.bitLen (lim b (topi b)) - 1) ≤ lim b (topi b) at b2
  change lim b (topi b) < 2 ^ Lib.bitLen (lim b (topi b)) at b3
  unfold shf
  generalize Lib.bitLen (lim b (topi b)) = k at *
  generalize hy : lim b (topi b) = y at *
  generalize topi b = i at *
  have hP := pB i
  have c1 : 9223372036854775808 ≤ y * 2 ^ (64 - k) := by
    have : 2 ^ (k - 1) * 2 ^ (64 - k) ≤ y * 2 ^ (64 - k) := Nat.mul_le_mul_right _ b2
    rw [← Nat.pow_add, show k - 1 + (64 - k) = 63 by omega] at this
    exact this
  have c2 : (y + 1) * 2 ^ (64 - k) ≤ 18446744073709551616 := by
    have : (y + 1) * 2 ^ (64 - k) ≤ 2 ^ k * 2 ^ (64 - k) := Nat.mul_le_mul_right _ b3
    rw [← Nat.pow_add, show k + (64 - k) = 64 by omega] at this
    exact this
  have d1 : y * 18446744073709551616 ^ i ≤ b := by rw [← t2]; exact Nat.div_mul_le_self _ _
  have d2 : b < (y + 1) * 18446744073709551616 ^ i := by
    have := Nat.lt_div_mul_add (a := b) hP
    rw [t2] at this
    rw [Nat.add_mul]; omega
  have e1 : 9223372036854775808 * 18446744073709551616 ^ i ≤ b * 2 ^ (64 - k) := by
    refine Nat.le_trans (Nat.mul_le_mul_right _ c1) ?_
    refine Nat.le_trans (Nat.le_of_eq ?_) (Nat.mul_le_mul_right (2 ^ (64 - k)) d1)
    grind
  have e2 : b * 2 ^ (64 - k) < 18446744073709551616 ^ (i + 1) := by
    have h1 : b * 2 ^ (64 - k) < (y + 1) * 18446744073709551616 ^ i * 2 ^ (64 - k) := Nat.mul_lt_mul_of_pos_right d2 (Nat.two_pow_pos _)
    refine Nat.lt_of_lt_of_le h1 ?_
    have h2 := Nat.mul_le_mul_right (18446744073709551616 ^ i) c2
    rw [Nat.pow_succ]
    refine Nat.le_trans (Nat.le_of_eq ?_) (Nat.le_trans h2 (Nat.le_of_eq (Nat.mul_comm _ _)))
    grind
  refine ⟨by omega, e2, ?_, e1⟩
  rw [lim_pow, Nat.mod_eq_of_lt (Nat.div_lt_of_lt_mul (by rw [Nat.pow_succ] at e2; exact e2)), Nat.le_div_iff_mul_le hP]
  exact e1

/-- From digit to digit. -/
structure Dv (A Y R Q t : Nat) : Prop where
  lt : R < Y * 18446744073709551616 ^ t
  sum : R + Y * Q = A
  mul : ∃ q, Q = q * 18446744073709551616 ^ t
  top : Q < 18446744073709551616 ^ 8
theorem Dv.start (A b : Nat) (hb : b < 2 ^ 256) (h0 : 0 < b) (hA : A < 18446744073709551616 ^ 8) : Dv (A * 2 ^ shf b) (b * 2 ^ shf b) (A * 2 ^ shf b) 0 (9 - (topi b + 1)) := by
  obtain ⟨s1, s2, s3, s4⟩ := shf_spec b hb h0
  have ht := topi_le b
  refine ⟨?_, by simp, ⟨0, by simp⟩, pB 8⟩
  have h1 := s63 (shf b) s1
  have h2 : A * 2 ^ shf b < 18446744073709551616 ^ 8 * 9223372036854775808 := Nat.lt_of_le_of_lt (Nat.mul_le_mul_left _ h1) (Nat.mul_lt_mul_of_pos_right hA (by decide))
  refine Nat.lt_of_lt_of_le h2 ?_
  refine Nat.le_trans (Nat.le_of_eq ?_) (Nat.mul_le_mul_right (18446744073709551616 ^ (9 - (topi b + 1))) s4)
  rw [Nat.mul_assoc, ← Nat.pow_add, show topi b + (9 - (topi b + 1)) = 8 by omega, Nat.mul_comm]
theorem Dv.zero {A Y R Q t : Nat} (h : Dv A Y R Q (t + 1)) : lim Q t = 0 := by
  obtain ⟨q, hq⟩ := h.mul
  rw [lim_pow, hq, Nat.pow_succ, show q * (18446744073709551616 ^ t * 18446744073709551616) = (q * 18446744073709551616) * 18446744073709551616 ^ t by grind, Nat.mul_div_cancel _ (pB t)]
  omega
theorem Dv.next {A Y R Q t d : Nat} (h : Dv A Y R Q (t + 1)) (ht : t < 8) (hY : 0 < Y) (hd : R / (Y * 18446744073709551616 ^ t) ≤ d) (he : d * Y * 18446744073709551616 ^ t ≤ R) (hdl : d < 18446744073709551616) (hA : A / Y < 18446744073709551616 ^ 8) :
    Dv A Y (R - d * Y * 18446744073709551616 ^ t) (Q + d * 18446744073709551616 ^ t) t ∧ (dgs Q 8).set t d = dgs (Q + d * 18446744073709551616 ^ t) 8 := by
  have hZ : 0 < Y * 18446744073709551616 ^ t := Nat.mul_pos hY (pB t)
  rw [Nat.mul_assoc] at he ⊢
  obtain ⟨_, d2⟩ := digit_is R (Y * 18446744073709551616 ^ t) _ d hZ hd he rfl
  have hsum : R - d * (Y * 18446744073709551616 ^ t) + Y * (Q + d * 18446744073709551616 ^ t) = A := by
    have := h.sum
    have e : Y * (Q + d * 18446744073709551616 ^ t) = Y * Q + d * (Y * 18446744073709551616 ^ t) := by grind
    rw [e]
    generalize d * (Y * 18446744073709551616 ^ t) = z at *
    omega
  have htop : Q + d * 18446744073709551616 ^ t < 18446744073709551616 ^ 8 := by
    refine Nat.lt_of_le_of_lt ?_ hA
    rw [Nat.le_div_iff_mul_le hY, Nat.mul_comm]
    omega
  refine ⟨⟨d2, hsum, ?_, htop⟩, dgs_put Q 8 t d ht h.zero hdl h.top⟩
  obtain ⟨q, hq⟩ := h.mul
  exact ⟨q * 18446744073709551616 + d, by rw [hq, Nat.pow_succ]; grind⟩
theorem Dv.done {A Y R Q : Nat} (h : Dv A Y R Q 0) : Q = A / Y ∧ R = A % Y := by
  have h1 := h.lt
  have h2 := h.sum
  rw [Nat.pow_zero, Nat.mul_one] at h1
  have hY : 0 < Y := by omega
  constructor
  · rw [← h2, Nat.add_mul_div_left _ _ hY, Nat.div_eq_of_lt h1, Nat.zero_add]
  · rw [← h2, Nat.add_mul_mod_self_left, Nat.mod_eq_of_lt h1]

end Wd
end Go.Proofs.YtclbiophgnkggaaGreatDoor
