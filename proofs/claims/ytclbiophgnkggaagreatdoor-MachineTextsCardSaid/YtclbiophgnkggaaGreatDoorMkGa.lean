/-
  Mathematics of digits of base 256: sums, differences, products, quotients; and parts of 64 bits. Nothing of the program.
-/
import Derived.Test.YtclbiophgnkggaaGreatDoorWRdM
namespace Go.Proofs.YtclbiophgnkggaaGreatDoor
open Go
namespace Wd
/-- Digit i of base 256. -/
def ht (a i : Nat) : Nat := a / 256 ^ i % 256
theorem ht_lt (a i : Nat) : ht a i < 256 := Nat.mod_lt _ (by decide)
theorem p256 (i : Nat) : 0 < 256 ^ i := Nat.pow_pos (by decide)
theorem ht_mod (a i : Nat) : a % 256 ^ (i + 1) = a % 256 ^ i + ht a i * 256 ^ i := by
  unfold ht
  rw [Nat.pow_succ, Nat.mod_mul, Nat.mul_comm]
theorem ht_zero (a n i : Nat) (h : a < 256 ^ n) (hi : n ≤ i) : ht a i = 0 := by
  unfold ht
  rw [Nat.div_eq_of_lt (Nat.lt_of_lt_of_le h (Nat.pow_le_pow_right (by decide) hi))]
theorem ht_cong (a b i : Nat) (h : a % 256 ^ (i + 1) = b % 256 ^ (i + 1)) : ht a i = ht b i := by
  have key : ∀ x : Nat, ht x i = x % 256 ^ (i + 1) / 256 ^ i := fun x => by
    unfold ht
    rw [Nat.pow_succ, Nat.mod_mul_right_div_self]
  rw [key, key, h]
theorem ht_top (a i : Nat) (h : a < 256 ^ (i + 1)) : ht a i = a / 256 ^ i := by
  unfold ht
  refine Nat.mod_eq_of_lt (Nat.div_lt_of_lt_mul ?_)
  rw [← Nat.pow_succ]; exact h
/-! ### plus -/
def cr (a b t : Nat) : Nat := (a % 256 ^ t + b % 256 ^ t) / 256 ^ t
theorem cr_zero (a b : Nat) : cr a b 0 = 0 := by simp [cr, Nat.mod_one]
theorem cr_eq (a b t : Nat) : (a + b) / 256 ^ t = a / 256 ^ t + b / 256 ^ t + cr a b t := by
  unfold cr
  have hp : 0 < 256 ^ t := p256 t
  have h1 := Nat.div_add_mod a (256 ^ t)
  have h2 := Nat.div_add_mod b (256 ^ t)
  have e : a + b = (a % 256 ^ t + b % 256 ^ t) + 256 ^ t * (a / 256 ^ t + b / 256 ^ t) := by rw [Nat.mul_add]; omega
  have h3 : (a + b) / 256 ^ t = ((a % 256 ^ t + b % 256 ^ t) + 256 ^ t * (a / 256 ^ t + b / 256 ^ t)) / 256 ^ t := by rw [← e]
  rw [h3, Nat.add_mul_div_left _ _ hp]
  omega
theorem cr_le (a b t : Nat) : cr a b t ≤ 1 := by
  unfold cr
  have hp : 0 < 256 ^ t := p256 t
  have h1 := Nat.mod_lt a hp
  have h2 := Nat.mod_lt b hp
  have : (a % 256 ^ t + b % 256 ^ t) / 256 ^ t < 2 := Nat.div_lt_of_lt_mul (by omega)
  omega
theorem cr_step (a b t : Nat) : ht a t + ht b t + cr a b t = ht (a + b) t + 256 * cr a b (t + 1) := by
  have h1 := cr_eq a b t
  have h2 := cr_eq a b (t + 1)
  unfold ht
  rw [Nat.pow_succ, ← Nat.div_div_eq_div_mul, ← Nat.div_div_eq_div_mul, ← Nat.div_div_eq_div_mul] at h2
  generalize (a + b) / 256 ^ t = s at *
  generalize a / 256 ^ t = u at *
  generalize b / 256 ^ t = v at *
  generalize cr a b t = c at *
  generalize cr a b (t + 1) = d at *
  omega
theorem cr_top (a b n : Nat) (ha : a < 256 ^ n) (hb : b < 256 ^ n) : cr a b n = ht (a + b) n := by
  have h1 := cr_eq a b n
  rw [Nat.div_eq_of_lt ha, Nat.div_eq_of_lt hb] at h1
  have h2 := cr_le a b n
  unfold ht
  rw [h1]
  omega
/-! ### less -/
def bw (a b t : Nat) : Nat := if a % 256 ^ t < b % 256 ^ t then 1 else 0
theorem bw_zero (a b : Nat) : bw a b 0 = 0 := by simp [bw, Nat.mod_one]
theorem bw_le (a b t : Nat) : bw a b t ≤ 1 := by unfold bw; split <;> omega
theorem bw_step (a b t : Nat) (h : b ≤ a) : ht a t + 256 * bw a b (t + 1) = ht b t + bw a b t + ht (a - b) t := by
  have hp : 0 < 256 ^ t := p256 t
  have ha := ht_mod a t
  have hb := ht_mod b t
  have hd := ht_mod (a - b) t
  have h1 := Nat.mod_lt a hp
  have h2 := Nat.mod_lt b hp
  have h3 := Nat.mod_lt (a - b) hp
  have x1 := ht_lt a t
  have x2 := ht_lt b t
  have x3 := ht_lt (a - b) t
  have key : ∀ s, (a - b) % 256 ^ s + b % 256 ^ s = a % 256 ^ s + bw a b s * 256 ^ s := fun s => by
    have hps : 0 < 256 ^ s := p256 s
    have e : ((a - b) % 256 ^ s + b % 256 ^ s) % 256 ^ s = a % 256 ^ s := by
      rw [← Nat.add_mod, Nat.sub_add_cancel h]
    have y1 := Nat.mod_lt (a - b) hps
    have y2 := Nat.mod_lt b hps
    have y3 := Nat.mod_lt a hps
    unfold bw
    generalize (a - b) % 256 ^ s = u at *
    generalize b % 256 ^ s = v at *
    generalize a % 256 ^ s = z at *
    generalize 256 ^ s = p at *
    rcases Nat.lt_or_ge (u + v) p with hlt | hge
    · rw [Nat.mod_eq_of_lt hlt] at e
      rw [if_neg (by omega)]; omega
    · have e2 : (u + v) % p = u + v - p := by
        rw [Nat.mod_eq_sub_mod hge, Nat.mod_eq_of_lt (by omega)]
      rw [e2] at e
      rw [if_pos (by omega)]; omega
  have k0 := key t
  have k1 := key (t + 1)
  rw [ha, hb, hd, Nat.pow_succ] at k1
  have b0 := bw_le a b t
  have b1 := bw_le a b (t + 1)
  generalize bw a b (t + 1) = B1 at *
  generalize bw a b t = B0 at *
  generalize ht a t = A at *
  generalize ht b t = Bb at *
  generalize ht (a - b) t = Dd at *
  generalize 256 ^ t = p at *
  have e1 : (Dd + Bb + B0) * p = (A + 256 * B1) * p := by grind
  have := Nat.eq_of_mul_eq_mul_right hp e1
  omega
/-! ### compared -/
theorem ht_half (a t : Nat) : a / 256 ^ t = 256 * (a / 256 ^ (t + 1)) + ht a t := by
  unfold ht
  rw [Nat.pow_succ, ← Nat.div_div_eq_div_mul]
  omega
theorem ht_less (a b t : Nat) (h : a / 256 ^ (t + 1) = b / 256 ^ (t + 1)) (hl : ht a t < ht b t) : a < b := by
  have h1 := ht_half a t
  have h2 := ht_half b t
  have h3 : a / 256 ^ t < b / 256 ^ t := by omega
  exact Nat.lt_of_not_le (fun h4 => by have := Nat.div_le_div_right (c := 256 ^ t) h4; omega)
theorem ht_same (a b t : Nat) (h : a / 256 ^ (t + 1) = b / 256 ^ (t + 1)) (he : ht a t = ht b t) : a / 256 ^ t = b / 256 ^ t := by
  rw [ht_half a t, ht_half b t, h, he]
/-! ### times -/
/-- What stands behind m of b's digits: P, and x times them from digit s on. -/
def tm (P x s b m : Nat) : Nat := P % 256 ^ (s + m) + x * 256 ^ s * (b % 256 ^ m)
theorem tm_zero (P x s b : Nat) : tm P x s b 0 / 256 ^ (s + 0) = 0 := by
  unfold tm
  rw [Nat.pow_zero, Nat.mod_one, Nat.mul_zero, Nat.add_zero, Nat.add_zero]
  exact Nat.div_eq_of_lt (Nat.mod_lt _ (p256 s))
theorem tm_succ (P x s b m : Nat) : tm P x s b (m + 1) = tm P x s b m + (ht P (s + m) + x * ht b m) * 256 ^ (s + m) := by
  unfold tm
  rw [show s + (m + 1) = (s + m) + 1 by omega, ht_mod P (s + m), ht_mod b m, Nat.pow_add 256 s m]
  generalize ht P (s + m) = u
  generalize ht b m = v
  generalize 256 ^ s = p
  generalize 256 ^ m = q
  generalize P % (p * q) = y
  generalize b % q = z
  grind
theorem tm_step (P x s b m : Nat) : (ht P (s + m) + x * ht b m + tm P x s b m / 256 ^ (s + m)) % 256 = ht (P + x * 256 ^ s * b) (s + m) ∧ (ht P (s + m) + x * ht b m + tm P x s b m / 256 ^ (s + m)) / 256 = tm P x s b (m + 1) / 256 ^ (s + (m + 1)) := by
  have hp := p256 (s + m)
  have e : tm P x s b (m + 1) / 256 ^ (s + m) = ht P (s + m) + x * ht b m + tm P x s b m / 256 ^ (s + m) := by
    rw [tm_succ, Nat.add_mul_div_right _ _ hp]; omega
  rw [← e]
  constructor
  · refine ht_cong (tm P x s b (m + 1)) _ (s + m) ?_
    have h1 := Nat.div_add_mod P (256 ^ (s + m + 1))
    have h2 := Nat.div_add_mod b (256 ^ (m + 1))
    have e2 : P + x * 256 ^ s * b = tm P x s b (m + 1) + 256 ^ (s + m + 1) * (P / 256 ^ (s + m + 1) + x * (b / 256 ^ (m + 1))) := by
      unfold tm
      rw [show s + (m + 1) = s + m + 1 by omega]
      have e3 : 256 ^ (s + m + 1) = 256 ^ s * 256 ^ (m + 1) := by rw [← Nat.pow_add]; rfl
      generalize P / 256 ^ (s + m + 1) = u at *
      generalize P % 256 ^ (s + m + 1) = v at *
      generalize b / 256 ^ (m + 1) = y at *
      generalize b % 256 ^ (m + 1) = z at *
      rw [← h1, ← h2, e3]
      generalize 256 ^ s = p
      generalize 256 ^ (m + 1) = q
      grind
    rw [e2, Nat.add_mul_mod_self_left]
  · rw [show s + (m + 1) = (s + m) + 1 by omega, Nat.pow_succ, ← Nat.div_div_eq_div_mul]
theorem tm_bound (P x s b m : Nat) (hx : x < 256) : tm P x s b m / 256 ^ (s + m) < 256 := by
  refine Nat.div_lt_of_lt_mul ?_
  unfold tm
  have h1 := Nat.mod_lt P (p256 (s + m))
  have h2 := Nat.mod_lt b (p256 m)
  rw [Nat.pow_add] at *
  generalize P % (256 ^ s * 256 ^ m) = u at *
  generalize b % 256 ^ m = v at *
  have h3 : x * 256 ^ s * v ≤ 255 * 256 ^ s * v := Nat.mul_le_mul_right _ (Nat.mul_le_mul_right _ (by omega))
  have h4 : 255 * 256 ^ s * v ≤ 255 * 256 ^ s * 256 ^ m := Nat.mul_le_mul_left _ (by omega)
  have h5 : 255 * 256 ^ s * 256 ^ m = 255 * (256 ^ s * 256 ^ m) := by rw [Nat.mul_assoc]
  omega
theorem tm_end (P x s b : Nat) (hP : P < 256 ^ (s + 32)) (hb : b < 256 ^ 32) (hx : x < 256) : tm P x s b 32 / 256 ^ (s + 32) = ht (P + x * 256 ^ s * b) (s + 32) ∧ P + x * 256 ^ s * b < 256 ^ (s + 32 + 1) := by
  have e : tm P x s b 32 = P + x * 256 ^ s * b := by unfold tm; rw [Nat.mod_eq_of_lt hP, Nat.mod_eq_of_lt hb]
  have h := tm_bound P x s b 32 hx
  rw [e] at h ⊢
  have h2 : P + x * 256 ^ s * b < 256 ^ (s + 32) * 256 := by
    rcases Nat.lt_or_ge (P + x * 256 ^ s * b) (256 ^ (s + 32) * 256) with q | q
    · exact q
    · have := Nat.div_le_div_right (c := 256 ^ (s + 32)) q
      rw [Nat.mul_div_cancel_left _ (p256 _)] at this
      omega
  rw [← Nat.pow_succ] at h2
  exact ⟨(ht_top _ _ h2).symm, h2⟩
theorem tm_next (a b s : Nat) : a % 256 ^ s * b + ht a s * 256 ^ s * b = a % 256 ^ (s + 1) * b := by
  rw [ht_mod, Nat.add_mul]
theorem tm_small (a b s : Nat) (hb : b < 256 ^ 32) : a % 256 ^ s * b < 256 ^ (s + 32) := by
  rw [Nat.pow_add]
  exact Nat.mul_lt_mul_of_lt_of_lt (Nat.mod_lt _ (p256 s)) hb
/-! ### parts -/
theorem sh_zero (R e : Nat) (he : e < 2) : ht (2 * R + e) 0 = ht R 0 % 128 * 2 + e := by
  unfold ht; rw [Nat.pow_zero, Nat.div_one, Nat.div_one]; omega
theorem sh_succ (R e p : Nat) (he : e < 2) : ht (2 * R + e) (p + 1) = ht R (p + 1) % 128 * 2 + ht R p / 128 := by
  have hp := p256 p
  have h1 : (2 * R + e) / 256 ^ p = 2 * (R / 256 ^ p) + (2 * (R % 256 ^ p) + e) / 256 ^ p := by
    have h := Nat.div_add_mod R (256 ^ p)
    have e2 : 2 * R + e = (2 * (R % 256 ^ p) + e) + 256 ^ p * (2 * (R / 256 ^ p)) := by
      generalize R / 256 ^ p = u at *
      generalize R % 256 ^ p = v at *
      rw [← h]
      grind
    rw [e2, Nat.add_mul_div_left _ _ hp]
    omega
  have h2 : (2 * (R % 256 ^ p) + e) / 256 ^ p ≤ 1 := by
    have := Nat.mod_lt R hp
    have h3 : (2 * (R % 256 ^ p) + e) / 256 ^ p < 2 := Nat.div_lt_of_lt_mul (by omega)
    omega
  unfold ht
  rw [Nat.pow_succ, ← Nat.div_div_eq_div_mul, ← Nat.div_div_eq_div_mul, h1]
  generalize R / 256 ^ p = U at *
  generalize (2 * (R % 256 ^ p) + e) / 256 ^ p = f at *
  omega
/-- Bit i of 256, the highest first. -/
def hbit (a i : Nat) : Nat := a / 2 ^ (255 - i) % 2
theorem hbit_lt (a i : Nat) : hbit a i < 2 := Nat.mod_lt _ (by decide)
theorem hbit_ht (a i : Nat) (hi : i < 256) : ht a (31 - i / 8) / 2 ^ (7 - i % 8) % 2 = hbit a i := by
  unfold ht hbit
  have e1 : 256 ^ (31 - i / 8) = 2 ^ (8 * (31 - i / 8)) := by rw [show (256 : Nat) = 2 ^ 8 by decide, ← Nat.pow_mul]
  have e2 : 255 - i = 8 * (31 - i / 8) + (7 - i % 8) := by omega
  rw [e1, e2, Nat.pow_add, ← Nat.div_div_eq_div_mul]
  generalize a / 2 ^ (8 * (31 - i / 8)) = U
  have hs : 7 - i % 8 ≤ 7 := by omega
  generalize 7 - i % 8 = s at *
  have e3 : 256 = 2 ^ s * (2 * 2 ^ (7 - s)) := by
    rw [← Nat.pow_succ', ← Nat.pow_add, show s + (7 - s + 1) = 8 by omega]
  rw [e3, Nat.mod_mul_right_div_self, Nat.mod_mul_right_mod]
theorem hbit_next (a i : Nat) (hi : i < 256) : a / 2 ^ (256 - (i + 1)) = 2 * (a / 2 ^ (256 - i)) + hbit a i := by
  unfold hbit
  have e : 256 - i = (255 - i) + 1 := by omega
  rw [show 256 - (i + 1) = 255 - i by omega, e, Nat.pow_succ, ← Nat.div_div_eq_div_mul]
  omega
theorem or_bit : ∀ x : Fin 256, ∀ s : Fin 8, x.1 % 2 ^ (s.1 + 1) = 0 → x.1 ||| 2 ^ s.1 = x.1 + 2 ^ s.1 ∧ x.1 + 2 ^ s.1 < 256 := by decide +kernel
theorem q_low (Q i : Nat) (hi : i < 256) : ht (Q * 2 ^ (256 - i)) (31 - i / 8) % 2 ^ (7 - i % 8 + 1) = 0 := by
  unfold ht
  have e1 : 256 ^ (31 - i / 8) = 2 ^ (8 * (31 - i / 8)) := by rw [show (256 : Nat) = 2 ^ 8 by decide, ← Nat.pow_mul]
  have e2 : 256 - i = (7 - i % 8 + 1) + 8 * (31 - i / 8) := by omega
  rw [e1, e2, Nat.pow_add, ← Nat.mul_assoc, Nat.mul_div_cancel _ (Nat.two_pow_pos _)]
  have hs : 7 - i % 8 + 1 ≤ 8 := by omega
  generalize 7 - i % 8 + 1 = s at *
  have e3 : 256 = 2 ^ s * 2 ^ (8 - s) := by
    rw [← Nat.pow_add, show s + (8 - s) = 8 by omega]
  rw [e3, Nat.mod_mul_right_mod, Nat.mul_mod_left]
theorem ht_add (a x p j : Nat) (h : ht a p + x < 256) : ht (a + x * 256 ^ p) j = if j = p then ht a p + x else ht a j := by
  unfold ht at *
  rcases Nat.lt_trichotomy j p with hj | hj | hj
  · rw [if_neg (by omega)]
    have e : x * 256 ^ p = 256 ^ j * (256 * (256 ^ (p - j - 1) * x)) := by
      rw [← Nat.mul_assoc, ← Nat.pow_succ, ← Nat.mul_assoc, ← Nat.pow_add, show j + 1 + (p - j - 1) = p by omega, Nat.mul_comm]
    rw [e, Nat.add_mul_div_left _ _ (p256 j), Nat.add_mul_mod_self_left]
  · subst hj
    rw [if_pos rfl, Nat.add_mul_div_right _ _ (p256 j)]
    omega
  · rw [if_neg (by omega)]
    have e : 256 ^ j = 256 ^ p * (256 * 256 ^ (j - p - 1)) := by
      rw [← Nat.mul_assoc, ← Nat.pow_succ, ← Nat.pow_add, show p + 1 + (j - p - 1) = j by omega]
    rw [e, ← Nat.div_div_eq_div_mul, ← Nat.div_div_eq_div_mul, ← Nat.div_div_eq_div_mul, ← Nat.div_div_eq_div_mul, Nat.add_mul_div_right _ _ (p256 p)]
    generalize a / 256 ^ p = U at *
    rw [show (U + x) / 256 = U / 256 by omega]
/-- One bit more of the quotient. -/
theorem q_put (Q i j : Nat) (hi : i < 256) (hj : j < 32) : (if j = i / 8 then ht (Q * 2 ^ (256 - i)) (31 - i / 8) + 2 ^ (7 - i % 8) else ht (Q * 2 ^ (256 - i)) (31 - j)) = ht ((2 * Q + 1) * 2 ^ (256 - (i + 1))) (31 - j) := by
  have h0 := q_low Q i hi
  have h1 := ht_lt (Q * 2 ^ (256 - i)) (31 - i / 8)
  have h2 := (or_bit ⟨_, h1⟩ ⟨7 - i % 8, by omega⟩ h0).2
  simp only at h2
  have e : (2 * Q + 1) * 2 ^ (256 - (i + 1)) = Q * 2 ^ (256 - i) + 2 ^ (7 - i % 8) * 256 ^ (31 - i / 8) := by
    have e1 : 256 ^ (31 - i / 8) = 2 ^ (8 * (31 - i / 8)) := by rw [show (256 : Nat) = 2 ^ 8 by decide, ← Nat.pow_mul]
    rw [e1, ← Nat.pow_add, show 7 - i % 8 + 8 * (31 - i / 8) = 256 - (i + 1) by omega, show 256 - i = (256 - (i + 1)) + 1 by omega, Nat.pow_succ]
    generalize 2 ^ (256 - (i + 1)) = p
    grind
  rw [e, ht_add _ _ _ _ h2]
  by_cases h : j = i / 8
  · rw [if_pos h, if_pos (by omega)]
  · rw [if_neg h, if_neg (by omega)]
theorem q_zero (Q i : Nat) (hi : i < 256) : Q * 2 ^ (256 - i) = (2 * Q) * 2 ^ (256 - (i + 1)) := by
  rw [show 256 - i = (256 - (i + 1)) + 1 by omega, Nat.pow_succ]
  generalize 2 ^ (256 - (i + 1)) = p
  grind
theorem div_one_more (A b e : Nat) (hb : 0 < b) (he : e < 2) : (2 * A + e) / b = (if b ≤ 2 * (A % b) + e then 2 * (A / b) + 1 else 2 * (A / b)) ∧ (2 * A + e) % b = (if b ≤ 2 * (A % b) + e then 2 * (A % b) + e - b else 2 * (A % b) + e) := by
  have h1 := Nat.div_add_mod A b
  have h2 := Nat.mod_lt A hb
  generalize A / b = q at *
  generalize A % b = r at *
  have key : ∀ q' r', 2 * A + e = b * q' + r' → r' < b → (2 * A + e) / b = q' ∧ (2 * A + e) % b = r' := fun q' r' h hr => by
    rw [h, Nat.mul_add_div hb, Nat.mul_add_mod, Nat.div_eq_of_lt hr, Nat.mod_eq_of_lt hr]
    exact ⟨rfl, rfl⟩
  by_cases h : b ≤ 2 * r + e
  · rw [if_pos h, if_pos h]
    refine key _ _ ?_ (by omega)
    rw [Nat.mul_add, Nat.mul_one, ← h1]
    have : b * (2 * q) = 2 * (b * q) := by grind
    omega
  · rw [if_neg h, if_neg h]
    refine key _ _ ?_ (by omega)
    have : b * (2 * q) = 2 * (b * q) := by grind
    omega

/-! ### Parts of 64 bits -/
theorem ht_by8 (a i : Nat) : ht a i = by8 a i := by
  unfold ht by8
  rw [show (256 : Nat) = 2 ^ 8 by decide, ← Nat.pow_mul]
theorem ht_lim (a p : Nat) : lim a (p / 8) / 2 ^ (p % 8 * 8) % 256 = ht a p := by rw [by8_lim, ht_by8]
/-- All but the first k digits. -/
def hiG (a k : Nat) : Nat := a / 256 ^ k * 256 ^ k
theorem hiG_zero (a : Nat) : hiG a 0 = a := by unfold hiG; rw [Nat.pow_zero, Nat.div_one, Nat.mul_one]
theorem hiG_top (a n : Nat) (h : a < 256 ^ n) : hiG a n = 0 := by unfold hiG; rw [Nat.div_eq_of_lt h, Nat.zero_mul]
theorem hiG_le (a k : Nat) : hiG a k ≤ a := Nat.div_mul_le_self _ _
theorem hiG_step (a k : Nat) : hiG a k = hiG a (k + 1) + ht a k * 256 ^ k := by
  unfold hiG
  rw [ht_half a k, Nat.add_mul, Nat.pow_succ]
  generalize a / (256 ^ k * 256) = u
  grind
/-- One byte more of a number in parts, the highest first. -/
theorem put_hiG (a k : Nat) (h : k < 32) (ha : a < 2 ^ 256) : lim (hiG a (k + 1)) (k / 8) ||| ht a k * 2 ^ (k % 8 * 8) = lim (hiG a (k + 1)) (k / 8) + ht a k * 2 ^ (k % 8 * 8) ∧ (dgs (hiG a (k + 1)) 4).set (k / 8) (lim (hiG a (k + 1)) (k / 8) + ht a k * 2 ^ (k % 8 * 8)) = dgs (hiG a k) 4 ∧ ht a k * 2 ^ (k % 8 * 8) < 18446744073709551616 := by
  have hq : k / 8 < 4 := by omega
  have hk : 256 ^ k = 18446744073709551616 ^ (k / 8) * 2 ^ (k % 8 * 8) := by
    rw [← pow64, ← Nat.pow_add, show (256 : Nat) = 2 ^ 8 by decide, ← Nat.pow_mul, show 64 * (k / 8) + k % 8 * 8 = 8 * k by omega]
  have hb := ht_lt a k
  have hr2 : 2 ^ (k % 8 * 8) ≤ 72057594037927936 := Nat.pow_le_pow_right (n := 2) (by decide) (show k % 8 * 8 ≤ 56 by omega)
  have hd : ht a k * 2 ^ (k % 8 * 8) ≤ 255 * 2 ^ (k % 8 * 8) := Nat.mul_le_mul_right _ (by omega)
  have p3 : ht a k * 2 ^ (k % 8 * 8) < 18446744073709551616 := by omega
  have hM4 : hiG a (k + 1) < 18446744073709551616 ^ 4 := Nat.lt_of_le_of_lt (hiG_le _ _) (by rw [← pow64]; exact ha)
  -- the part, ahead of it
  have e64 : (18446744073709551616 : Nat) = 2 ^ (k % 8 * 8 + 8) * 2 ^ (56 - k % 8 * 8) := by
    rw [← Nat.pow_add, show k % 8 * 8 + 8 + (56 - k % 8 * 8) = 64 by omega]
  obtain ⟨c, hc⟩ : ∃ c, lim (hiG a (k + 1)) (k / 8) = 2 ^ (k % 8 * 8 + 8) * c := by
    rw [lim_pow]
    have e1 : hiG a (k + 1) = 18446744073709551616 ^ (k / 8) * (2 ^ (k % 8 * 8 + 8) * (a / 256 ^ (k + 1))) := by
      unfold hiG
      rw [Nat.pow_succ, hk, show 2 ^ (k % 8 * 8 + 8) = 2 ^ (k % 8 * 8) * 256 by rw [Nat.pow_add]]
      generalize a / (18446744073709551616 ^ (k / 8) * 2 ^ (k % 8 * 8) * 256) = u
      grind
    rw [e1, Nat.mul_div_cancel_left _ (pB _)]
    generalize a / 256 ^ (k + 1) = u
    rw [e64, Nat.mul_mod_mul_left]
    exact ⟨_, rfl⟩
  have hor : lim (hiG a (k + 1)) (k / 8) ||| ht a k * 2 ^ (k % 8 * 8) = lim (hiG a (k + 1)) (k / 8) + ht a k * 2 ^ (k % 8 * 8) := by
    rw [hc]
    refine (Nat.two_pow_add_eq_or_of_lt ?_ c).symm
    rw [Nat.pow_add]
    have := Nat.two_pow_pos (k % 8 * 8)
    have h2 : ht a k * 2 ^ (k % 8 * 8) < 256 * 2 ^ (k % 8 * 8) := Nat.mul_lt_mul_of_pos_right hb this
    omega
  have hlt : lim (hiG a (k + 1)) (k / 8) + ht a k * 2 ^ (k % 8 * 8) < 18446744073709551616 := by
    rw [← hor]
    exact Nat.or_lt_two_pow (n := 64) (lim_lt _ _) p3
  refine ⟨hor, ?_, p3⟩
  have n1 := nset (dgs (hiG a (k + 1)) 4) (k / 8) (lim (hiG a (k + 1)) (k / 8) + ht a k * 2 ^ (k % 8 * 8)) (by rw [dgs_length]; exact hq)
  rw [dgs_getD _ _ _ hq, num_dgs' _ _ hM4] at n1
  have hs := dgs_num ((dgs (hiG a (k + 1)) 4).set (k / 8) (lim (hiG a (k + 1)) (k / 8) + ht a k * 2 ^ (k % 8 * 8))) (set_all _ _ _ (all_dgs _ _) hlt)
  rw [List.length_set, dgs_length] at hs
  have e : (lim (hiG a (k + 1)) (k / 8) + ht a k * 2 ^ (k % 8 * 8)) * 18446744073709551616 ^ (k / 8) = lim (hiG a (k + 1)) (k / 8) * 18446744073709551616 ^ (k / 8) + ht a k * 256 ^ k := by
    rw [hk]; grind
  rw [e] at n1
  have hv : num ((dgs (hiG a (k + 1)) 4).set (k / 8) (lim (hiG a (k + 1)) (k / 8) + ht a k * 2 ^ (k % 8 * 8))) = hiG a k := by
    rw [hiG_step a k]; omega
  rw [hv] at hs
  exact hs.symm
theorem p32 : (256 : Nat) ^ 32 = 2 ^ 256 := by rw [show (256 : Nat) = 2 ^ 8 by decide, ← Nat.pow_mul]
/-- A number's first n digits, the highest first; t of them. -/
def hts (a n t : Nat) : List Nat := (List.range t).map (fun j => ht a (n - 1 - j))
theorem hts_length (a n t : Nat) : (hts a n t).length = t := by simp [hts]
theorem hts_succ (a n t : Nat) : hts a n (t + 1) = hts a n t ++ [ht a (n - 1 - t)] := by simp [hts, List.range_succ]
theorem hts_getD (a n t j : Nat) (h : j < t) : (hts a n t).getD j 0 = ht a (n - 1 - j) := by simp [hts, h]

end Wd
end Go.Proofs.YtclbiophgnkggaaGreatDoor
