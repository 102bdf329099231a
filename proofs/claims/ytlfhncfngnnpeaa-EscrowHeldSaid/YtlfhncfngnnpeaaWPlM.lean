/-
  Mathematics of a sum of binary digits. Nothing of the program.
-/
import Derived.Test.YtlfhncfngnnpeaaWDgM
namespace Go.Proofs.Ytlfhncfngnnpeaa
open Go
namespace Wd
def cry (a b t : Nat) : Nat := (a % 2 ^ t + b % 2 ^ t) / 2 ^ t
theorem cry_zero (a b : Nat) : cry a b 0 = 0 := by simp [cry, Nat.mod_one]
theorem cry_eq (a b t : Nat) : (a + b) / 2 ^ t = a / 2 ^ t + b / 2 ^ t + cry a b t := by
  unfold cry
  have hp : 0 < 2 ^ t := Nat.two_pow_pos t
  have h1 := Nat.div_add_mod a (2 ^ t)
  have h2 := Nat.div_add_mod b (2 ^ t)
  have e : a + b = (a % 2 ^ t + b % 2 ^ t) + 2 ^ t * (a / 2 ^ t + b / 2 ^ t) := by rw [Nat.mul_add]; omega
  have h3 : (a + b) / 2 ^ t = ((a % 2 ^ t + b % 2 ^ t) + 2 ^ t * (a / 2 ^ t + b / 2 ^ t)) / 2 ^ t := by rw [← e]
  rw [h3, Nat.add_mul_div_left _ _ hp]
  omega
theorem cry_le (a b t : Nat) : cry a b t ≤ 1 := by
  unfold cry
  have hp : 0 < 2 ^ t := Nat.two_pow_pos t
  have h1 := Nat.mod_lt a hp
  have h2 := Nat.mod_lt b hp
  have : (a % 2 ^ t + b % 2 ^ t) / 2 ^ t < 2 := Nat.div_lt_of_lt_mul (by omega)
  omega
theorem plus_step (a b t : Nat) : bt a t + bt b t + cry a b t = bt (a + b) t + 2 * cry a b (t + 1) := by
  have h1 := cry_eq a b t
  have h2 := cry_eq a b (t + 1)
  unfold bt
  rw [Nat.pow_succ, ← Nat.div_div_eq_div_mul, ← Nat.div_div_eq_div_mul, ← Nat.div_div_eq_div_mul] at h2
  generalize (a + b) / 2 ^ t = s at *
  generalize a / 2 ^ t = u at *
  generalize b / 2 ^ t = v at *
  generalize cry a b t = c at *
  generalize cry a b (t + 1) = d at *
  omega
theorem plus_done (a b n1 n2 t : Nat) (ha : a < 2 ^ n1) (hb : b < 2 ^ n2) (h1 : n1 ≤ t) (h2 : n2 ≤ t) (hc : cry a b t = 0) : a + b < 2 ^ t := by
  have hp : 0 < 2 ^ t := Nat.two_pow_pos t
  have e := cry_eq a b t
  rw [Nat.div_eq_of_lt (Nat.lt_of_lt_of_le ha (Nat.pow_le_pow_right (by decide) h1)), Nat.div_eq_of_lt (Nat.lt_of_lt_of_le hb (Nat.pow_le_pow_right (by decide) h2)), hc] at e
  exact (Nat.div_eq_zero_iff_lt hp).1 e
theorem cry_big (a b n1 n2 t : Nat) (ha : a < 2 ^ n1) (hb : b < 2 ^ n2) (h1 : n1 < t) (h2 : n2 < t) : cry a b t = 0 := by
  have e := cry_eq a b t
  obtain ⟨k, rfl⟩ : ∃ k, t = k + 1 := ⟨t - 1, by omega⟩
  have p1 := Nat.pow_le_pow_right (n := 2) (by decide) (show n1 ≤ k by omega)
  have p2 := Nat.pow_le_pow_right (n := 2) (by decide) (show n2 ≤ k by omega)
  have : a + b < 2 ^ (k + 1) := by rw [Nat.pow_succ]; omega
  rw [Nat.div_eq_of_lt this] at e
  generalize a / 2 ^ (k + 1) = u at e
  generalize b / 2 ^ (k + 1) = v at e
  omega
theorem bt_none (a n t : Nat) (ha : a < 2 ^ n) (h : n ≤ t) : bt a t = 0 := bt_zero a t (Nat.le_trans (blen_le a n ha) h)
end Wd
end Go.Proofs.Ytlfhncfngnnpeaa
