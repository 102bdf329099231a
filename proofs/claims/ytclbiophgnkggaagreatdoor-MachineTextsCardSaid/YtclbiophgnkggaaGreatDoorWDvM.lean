/-
  Mathematics of wide.divide: moved up and down, one digit's product taken away, the guess. Nothing of the program.
-/
import Derived.Test.YtclbiophgnkggaaGreatDoorWNum
namespace Go.Proofs.YtclbiophgnkggaaGreatDoor
open Go
namespace Wd

theorem nset : ∀ (l : List Nat) (k v : Nat), k < l.length → num (l.set k v) + l.getD k 0 * 18446744073709551616 ^ k = num l + v * 18446744073709551616 ^ k
  | [], k, v, h => by simp at h
  | x :: r, 0, v, _ => by simp [num]; omega
  | x :: r, k + 1, v, h => by
    have ih := nset r k v (by simpa using h)
    simp only [List.set_cons_succ, num, List.getD_cons_succ, Nat.pow_succ]
    generalize num (r.set k v) = A at *
    generalize num r = C at *
    generalize r.getD k 0 = p at *
    generalize 18446744073709551616 ^ k = q at *
    grind
theorem pow64 (t : Nat) : 2 ^ (64 * t) = 18446744073709551616 ^ t := by rw [Nat.pow_mul]
theorem lim_pow (n i : Nat) : lim n i = n / 18446744073709551616 ^ i % 18446744073709551616 := by unfold lim; rw [pow64]
theorem pB (t : Nat) : 0 < 18446744073709551616 ^ t := Nat.pow_pos (by decide)
theorem modm (a t : Nat) : a % 18446744073709551616 ^ (t + 1) = a % 18446744073709551616 ^ t + lim a t * 18446744073709551616 ^ t := by
  rw [lim_pow, Nat.pow_succ, Nat.mod_mul, Nat.mul_comm]
theorem all_dgs (n k : Nat) : ∀ x ∈ dgs n k, x < 18446744073709551616 := by
  intro x hx
  simp only [dgs, List.mem_map] at hx
  obtain ⟨i, _, rfl⟩ := hx
  exact lim_lt n i
theorem set_all (l : List Nat) (k v : Nat) (h : ∀ x ∈ l, x < 18446744073709551616) (hv : v < 18446744073709551616) : ∀ x ∈ l.set k v, x < 18446744073709551616 := by
  intro x hx
  rcases List.mem_or_eq_of_mem_set hx with h1 | h1
  · exact h x h1
  · omega
theorem num_dgs' (n k : Nat) (h : n < 18446744073709551616 ^ k) : num (dgs n k) = n := by
  rw [num_dgs, pow64, Nat.mod_eq_of_lt h]
/-- A part put where a nought stood. -/
theorem dgs_put (Q k m d : Nat) (hm : m < k) (hz : lim Q m = 0) (hd : d < 18446744073709551616) (hQ : Q < 18446744073709551616 ^ k) : (dgs Q k).set m d = dgs (Q + d * 18446744073709551616 ^ m) k := by
  have h1 := nset (dgs Q k) m d (by rw [dgs_length]; exact hm)
  rw [dgs_getD _ _ _ hm, hz, num_dgs' _ _ hQ, Nat.zero_mul, Nat.add_zero] at h1
  have h2 := dgs_num ((dgs Q k).set m d) (set_all _ _ _ (all_dgs Q k) hd)
  rw [h1, List.length_set, dgs_length] at h2
  exact h2.symm

/-! ### Moved up -/
/-- The parts at round t of shiftUp. -/
def upl (D s t : Nat) : List Nat := dgs (D % 18446744073709551616 ^ t * 2 ^ s) (t + 1) ++ List.replicate (8 - t) 0
theorem upl_zero (D s : Nat) : upl D s 0 = List.replicate 9 0 := by simp [upl, Nat.mod_one, dgs_zero]
theorem upl_length (D s t : Nat) (h : t ≤ 8) : (upl D s t).length = 9 := by simp [upl, dgs_length]; omega
theorem psplit (s : Nat) (hs : s ≤ 63) : 2 ^ s * 2 ^ (64 - s) = 18446744073709551616 := by
  rw [← Nat.pow_add, show s + (64 - s) = 64 by omega]
theorem upl_end (D s : Nat) (hD : D < 18446744073709551616 ^ 8) : upl D s 8 = dgs (D * 2 ^ s) 9 := by
  simp [upl, Nat.mod_eq_of_lt hD]
/-- What stood at part t ahead of the round. -/
theorem upl_at (D s t : Nat) : (upl D s t).getD t 0 = (D % 18446744073709551616 ^ t) * 2 ^ s / 18446744073709551616 ^ t % 18446744073709551616 := by
  unfold upl
  rw [List.getD_eq_getElem?_getD, List.getElem?_append_left (by rw [dgs_length]; omega), dgs_get _ _ _ (by omega), lim_pow]; rfl
theorem top_lt (D s t : Nat) : (D % 18446744073709551616 ^ t) * 2 ^ s / 18446744073709551616 ^ t < 2 ^ s := by
  refine Nat.div_lt_of_lt_mul ?_
  exact Nat.mul_lt_mul_of_pos_right (Nat.mod_lt _ (pB t)) (Nat.two_pow_pos _)
theorem s63 (s : Nat) (hs : s ≤ 63) : 2 ^ s ≤ 9223372036854775808 := Nat.pow_le_pow_right (n := 2) (by decide) hs
theorem upl_at' (D s t : Nat) (hs : s ≤ 63) : (upl D s t).getD t 0 = (D % 18446744073709551616 ^ t) * 2 ^ s / 18446744073709551616 ^ t := by
  rw [upl_at, Nat.mod_eq_of_lt]
  have := top_lt D s t
  have := s63 s hs
  omega
/-- The next round: part t is the sum, part t + 1 what is above. -/
theorem upl_step (D s t : Nat) (hs : s ≤ 63) (ht : t < 8) :
    ((upl D s t).set t ((upl D s t).getD t 0 + lim D t * 2 ^ s % 18446744073709551616)).set (t + 1) (lim D t / 2 ^ (64 - s)) = upl D s (t + 1) := by
  obtain ⟨p, hp⟩ : ∃ p, p = (D % 18446744073709551616 ^ t) * 2 ^ s / 18446744073709551616 ^ t := ⟨_, rfl⟩
  obtain ⟨N, hN⟩ : ∃ N, N = D % 18446744073709551616 ^ t * 2 ^ s := ⟨_, rfl⟩
  have hpl : p < 2 ^ s := by rw [hp]; exact top_lt D s t
  rw [upl_at' D s t hs, ← hp]
  have hx := lim_lt D t
  have hsp := psplit s hs
  have e1 : lim D t * 2 ^ s % 18446744073709551616 = 2 ^ s * (lim D t % 2 ^ (64 - s)) := by
    rw [← hsp, Nat.mul_comm (lim D t), Nat.mul_mod_mul_left]
  have hlt1 : p + lim D t * 2 ^ s % 18446744073709551616 < 18446744073709551616 := by
    have h2 : lim D t % 2 ^ (64 - s) + 1 ≤ 2 ^ (64 - s) := Nat.mod_lt _ (Nat.two_pow_pos _)
    have h3 := Nat.mul_le_mul_left (2 ^ s) h2
    rw [Nat.mul_add, Nat.mul_one, hsp] at h3
    omega
  have hlt2 : lim D t / 2 ^ (64 - s) < 18446744073709551616 := Nat.lt_of_le_of_lt (Nat.div_le_self _ _) hx
  have hN1 : N < 18446744073709551616 ^ (t + 1) := by
    rw [hN, Nat.pow_succ]
    have h2 := s63 s hs
    calc D % 18446744073709551616 ^ t * 2 ^ s ≤ D % 18446744073709551616 ^ t * 9223372036854775808 := Nat.mul_le_mul_left _ h2
      _ < 18446744073709551616 ^ t * 18446744073709551616 := by
        have := Nat.mod_lt D (pB t)
        generalize D % 18446744073709551616 ^ t = r at *
        generalize 18446744073709551616 ^ t = q at *
        omega
  -- the number of the parts
  have hl : (upl D s t).length = 9 := upl_length D s t (by omega)
  have hall : ∀ x ∈ upl D s t, x < 18446744073709551616 := by
    intro x hx
    rcases List.mem_append.1 hx with h | h
    · exact all_dgs _ _ x h
    · rw [List.eq_of_mem_replicate h]; decide
  have hnr : ∀ k, num (List.replicate k 0) = 0 := fun k => by induction k with
    | zero => rfl
    | succ k ih => rw [List.replicate_succ]; simp [num, ih]
  have hap : ∀ (a b : List Nat), num (a ++ b) = num a + 18446744073709551616 ^ a.length * num b := fun a b => by
    induction a with
    | nil => simp [num]
    | cons x r ih => rw [List.cons_append]; simp only [num]; rw [ih, List.length_cons, Nat.pow_succ]; grind
  have hnum : num (upl D s t) = N := by
    unfold upl; rw [hap, hnr, Nat.mul_zero, Nat.add_zero, ← hN, num_dgs' _ _ hN1]
  have hnum2 : num (upl D s (t + 1)) = D % 18446744073709551616 ^ (t + 1) * 2 ^ s := by
    unfold upl; rw [hap, hnr, Nat.mul_zero, Nat.add_zero, num_dgs']
    rw [Nat.pow_succ]
    have h2 := s63 s hs
    calc D % 18446744073709551616 ^ (t + 1) * 2 ^ s ≤ D % 18446744073709551616 ^ (t + 1) * 9223372036854775808 := Nat.mul_le_mul_left _ h2
      _ < 18446744073709551616 ^ (t + 1) * 18446744073709551616 := by
        have := Nat.mod_lt D (pB (t + 1))
        generalize D % 18446744073709551616 ^ (t + 1) = r at *
        generalize 18446744073709551616 ^ (t + 1) = q at *
        omega
  have hg1 : (upl D s t).getD (t + 1) 0 = 0 := by
    unfold upl
    rw [List.getD_eq_getElem?_getD, List.getElem?_append_right (by rw [dgs_length]; exact Nat.le_refl _), dgs_length, Nat.sub_self, List.getElem?_replicate]
    split <;> rfl
  obtain ⟨v, hv⟩ : ∃ v, v = p + lim D t * 2 ^ s % 18446744073709551616 := ⟨_, rfl⟩
  obtain ⟨z, hz⟩ : ∃ z, z = lim D t / 2 ^ (64 - s) := ⟨_, rfl⟩
  rw [← hv] at hlt1 ⊢
  rw [← hz] at hlt2 ⊢
  have n1 := nset (upl D s t) t v (by omega)
  have n2 := nset ((upl D s t).set t v) (t + 1) z (by rw [List.length_set]; omega)
  have hg2 : ((upl D s t).set t v).getD (t + 1) 0 = 0 := by
    rw [List.getD_eq_getElem?_getD, List.getElem?_set_ne (by omega), ← List.getD_eq_getElem?_getD, hg1]
  rw [hg2, Nat.zero_mul, Nat.add_zero] at n2
  rw [upl_at' D s t hs, ← hp, hnum] at n1
  have e2 := Nat.div_add_mod (lim D t) (2 ^ (64 - s))
  have hfin : num (((upl D s t).set t v).set (t + 1) z) = num (upl D s (t + 1)) := by
    rw [hnum2, modm, n2, Nat.add_mul, ← hN, Nat.pow_succ]
    rw [← hz] at e2
    have e3 : lim D t * 2 ^ s = z * 18446744073709551616 + lim D t * 2 ^ s % 18446744073709551616 := by
      rw [e1, ← hsp]
      generalize lim D t % 2 ^ (64 - s) = r at *
      rw [← e2]; grind
    generalize lim D t * 2 ^ s % 18446744073709551616 = r at *
    have e4 : lim D t * 18446744073709551616 ^ t * 2 ^ s = (z * 18446744073709551616 + r) * 18446744073709551616 ^ t := by rw [← e3]; grind
    rw [e4]
    generalize 18446744073709551616 ^ t = q at *
    have e5 : v * q = p * q + r * q := by rw [hv]; grind
    have e6 : (z * 18446744073709551616 + r) * q = z * (q * 18446744073709551616) + r * q := by grind
    omega
  have d1 := dgs_num (((upl D s t).set t v).set (t + 1) z) (set_all _ _ _ (set_all _ _ _ hall hlt1) hlt2)
  have d2 := dgs_num (upl D s (t + 1)) (by
    intro x hx
    rcases List.mem_append.1 hx with h | h
    · exact all_dgs _ _ x h
    · rw [List.eq_of_mem_replicate h]; decide)
  rw [List.length_set, List.length_set, hl, hfin] at d1
  rw [upl_length D s (t + 1) (by omega)] at d2
  exact d1.symm.trans d2
/-- The sum, as the program makes it. -/
theorem upl_or (p x s : Nat) (hp : p < 2 ^ s) (hs : s ≤ 63) : p ||| (x * 2 ^ s % 18446744073709551616) = p + x * 2 ^ s % 18446744073709551616 := by
  have e1 : x * 2 ^ s % 18446744073709551616 = 2 ^ s * (x % 2 ^ (64 - s)) := by
    rw [← psplit s hs, Nat.mul_comm x, Nat.mul_mod_mul_left]
  rw [e1, Nat.or_comm, ← Nat.two_pow_add_eq_or_of_lt hp, Nat.add_comm]

/-! ### Moved down -/
theorem down_part (R s i : Nat) (hs : s ≤ 63) : lim R i / 2 ^ s ||| (lim R (i + 1) * 2 ^ (64 - s) % 18446744073709551616) = lim (R / 2 ^ s) i := by
  have hsp := psplit s hs
  have h1 : lim R i / 2 ^ s < 2 ^ (64 - s) := Nat.div_lt_of_lt_mul (by rw [hsp]; exact lim_lt R i)
  have e1 : lim R (i + 1) * 2 ^ (64 - s) % 18446744073709551616 = 2 ^ (64 - s) * (lim R (i + 1) % 2 ^ s) := by
    rw [← hsp, Nat.mul_comm (2 ^ s), Nat.mul_comm (lim R (i + 1)), Nat.mul_mod_mul_left]
  rw [e1, Nat.or_comm, ← Nat.two_pow_add_eq_or_of_lt h1]
  simp only [lim_pow]
  rw [Nat.div_div_eq_div_mul R (2 ^ s), Nat.mul_comm (2 ^ s) (18446744073709551616 ^ i), ← Nat.div_div_eq_div_mul, Nat.pow_succ, ← Nat.div_div_eq_div_mul R]
  generalize R / 18446744073709551616 ^ i = A
  -- A / 2^s % B = 2^(64-s) * (A / B % B % 2^s) + A % B / 2^s
  have hd : A / 18446744073709551616 % 18446744073709551616 % 2 ^ s = A / 18446744073709551616 % 2 ^ s :=
    Nat.mod_mod_of_dvd _ ⟨2 ^ (64 - s), hsp.symm⟩
  rw [hd]
  have hA := Nat.div_add_mod A 18446744073709551616
  generalize hA1 : A / 18446744073709551616 = A1 at *
  generalize hA0 : A % 18446744073709551616 = A0 at *
  have hp : 0 < 2 ^ s := Nat.two_pow_pos _
  have e2 : A / 2 ^ s = 2 ^ (64 - s) * A1 + A0 / 2 ^ s := by
    rw [← hA, ← hsp, Nat.mul_assoc, Nat.mul_add_div hp]
  rw [e2]
  have e3 := Nat.div_add_mod A1 (2 ^ s)
  generalize A1 / 2 ^ s = u at *
  generalize hv : A1 % 2 ^ s = v at *
  have hvl : v < 2 ^ s := by rw [← hv]; exact Nat.mod_lt _ hp
  have e4 : 2 ^ (64 - s) * A1 + A0 / 2 ^ s = 18446744073709551616 * u + (2 ^ (64 - s) * v + A0 / 2 ^ s) := by
    rw [← e3, ← hsp]; grind
  rw [e4, Nat.mul_add_mod]
  refine (Nat.mod_eq_of_lt ?_).symm
  have h5 : 2 ^ (64 - s) * (v + 1) ≤ 2 ^ (64 - s) * 2 ^ s := Nat.mul_le_mul_left _ hvl
  rw [Nat.mul_comm (2 ^ (64 - s)) (2 ^ s), hsp, Nat.mul_add, Nat.mul_one] at h5
  have h6 : A0 / 2 ^ s < 2 ^ (64 - s) := Nat.div_lt_of_lt_mul (by rw [hsp, ← hA0]; exact Nat.mod_lt _ (by decide))
  omega

/-! ### One digit's product taken away -/
/-- A round: the parts behind it. -/
theorem take_step (l : List Nat) (R Y q c b at' i x hi lo v b' : Nat) (hl : at' + i < l.length) (hx : l.getD (at' + i) 0 = x)
    (hI : num l + q * (Y % 18446744073709551616 ^ i) * 18446744073709551616 ^ at' = R + (c + b) * 18446744073709551616 ^ (at' + i))
    (hm : lim Y i * q + c = hi * 18446744073709551616 + lo) (hs : v + lo + b = x + b' * 18446744073709551616) :
    num (l.set (at' + i) v) + q * (Y % 18446744073709551616 ^ (i + 1)) * 18446744073709551616 ^ at' = R + (hi + b') * 18446744073709551616 ^ (at' + (i + 1)) := by
  have n1 := nset l (at' + i) v hl
  rw [hx] at n1
  rw [modm]
  rw [show at' + (i + 1) = at' + i + 1 by omega, Nat.pow_succ]
  have e0 : 18446744073709551616 ^ (at' + i) = 18446744073709551616 ^ i * 18446744073709551616 ^ at' := by rw [Nat.pow_add, Nat.mul_comm]
  have e1 : q * (Y % 18446744073709551616 ^ i + lim Y i * 18446744073709551616 ^ i) * 18446744073709551616 ^ at' = q * (Y % 18446744073709551616 ^ i) * 18446744073709551616 ^ at' + lim Y i * q * 18446744073709551616 ^ (at' + i) := by
    rw [e0]; grind
  rw [e1]
  generalize q * (Y % 18446744073709551616 ^ i) * 18446744073709551616 ^ at' = Z at *
  generalize lim Y i * q = m at *
  generalize num (l.set (at' + i) v) = X at *
  generalize num l = L at *
  generalize 18446744073709551616 ^ (at' + i) = P at *
  have e2 : m * P + c * P = hi * (P * 18446744073709551616) + lo * P := by rw [← Nat.add_mul, hm]; grind
  have e3 : v * P + lo * P + b * P = x * P + b' * (P * 18446744073709551616) := by rw [← Nat.add_mul, ← Nat.add_mul, hs]; grind
  have e4 : (c + b) * P = c * P + b * P := Nat.add_mul _ _ _
  have e5 : (hi + b') * (P * 18446744073709551616) = hi * (P * 18446744073709551616) + b' * (P * 18446744073709551616) := Nat.add_mul _ _ _
  omega
/-- The last part. -/
theorem take_last (l : List Nat) (R Y q c b at' n x v b' : Nat) (hl : at' + n < l.length) (hx : l.getD (at' + n) 0 = x) (hY : Y < 18446744073709551616 ^ n)
    (hI : num l + q * (Y % 18446744073709551616 ^ n) * 18446744073709551616 ^ at' = R + (c + b) * 18446744073709551616 ^ (at' + n))
    (hs : v + c + b = x + b' * 18446744073709551616) :
    num (l.set (at' + n) v) + q * Y * 18446744073709551616 ^ at' = R + b' * 18446744073709551616 ^ (at' + n + 1) := by
  have n1 := nset l (at' + n) v hl
  rw [hx] at n1
  rw [Nat.mod_eq_of_lt hY] at hI
  rw [Nat.pow_succ]
  generalize q * Y * 18446744073709551616 ^ at' = Z at *
  generalize num (l.set (at' + n) v) = X at *
  generalize num l = L at *
  generalize 18446744073709551616 ^ (at' + n) = P at *
  have e3 : v * P + c * P + b * P = x * P + b' * (P * 18446744073709551616) := by rw [← Nat.add_mul, ← Nat.add_mul, hs]; grind
  have e4 : (c + b) * P = c * P + b * P := Nat.add_mul _ _ _
  omega
/-- Parts above at' + n: noughts still; so the number is below. -/
theorem num_top : ∀ (l : List Nat) (k : Nat), (∀ x ∈ l, x < 18446744073709551616) → (∀ j, k ≤ j → l.getD j 0 = 0) → num l < 18446744073709551616 ^ k
  | [], k, _, _ => by simpa [num] using pB k
  | x :: r, 0, h, hz => by
    have h0 : x = 0 := by simpa using hz 0 (Nat.le_refl _)
    have ih := num_top r 0 (fun y hy => h y (List.mem_cons_of_mem _ hy)) (fun j _ => by simpa using hz (j + 1) (by omega))
    simp [num, h0] at ih ⊢
    omega
  | x :: r, k + 1, h, hz => by
    have ih := num_top r k (fun y hy => h y (List.mem_cons_of_mem _ hy)) (fun j hj => by simpa using hz (j + 1) (by omega))
    have hx := h x List.mem_cons_self
    simp only [num, Nat.pow_succ]
    generalize num r = A at *
    generalize 18446744073709551616 ^ k = P at *
    omega
/-- Was there so much? -/
theorem take_enough (X R Z b at' n : Nat) (hb : b ≤ 1) (hX : X < 18446744073709551616 ^ (at' + n + 1)) (hI : X + Z = R + b * 18446744073709551616 ^ (at' + n + 1)) : (b = 0 ↔ Z ≤ R) ∧ (b = 0 → X = R - Z) := by
  generalize 18446744073709551616 ^ (at' + n + 1) = P at *
  rcases (show b = 0 ∨ b = 1 by omega) with h | h <;> subst h <;> simp at * <;> omega

/-! ### The guess -/
/-- The digit as the highest parts tell it. -/
def gss (hi lo by' : Nat) : Nat := if hi = by' then 18446744073709551615 else (hi * 18446744073709551616 + lo) / by'
theorem gss_lt (hi lo y : Nat) (hh : hi ≤ y) (hl : lo < 18446744073709551616) : gss hi lo y < 18446744073709551616 := by
  unfold gss
  split
  · decide
  · refine Nat.div_lt_of_lt_mul ?_
    have h1 : hi + 1 ≤ y := by omega
    have := Nat.mul_le_mul_right 18446744073709551616 h1
    omega
theorem div_top (R k : Nat) (h : R < 18446744073709551616 ^ (k + 2)) : R / 18446744073709551616 ^ k = lim R (k + 1) * 18446744073709551616 + lim R k := by
  simp only [lim_pow]
  rw [Nat.pow_succ 18446744073709551616 k, ← Nat.div_div_eq_div_mul]
  have h1 : R / 18446744073709551616 ^ k < 18446744073709551616 * 18446744073709551616 := by
    refine Nat.div_lt_of_lt_mul ?_
    rw [show k + 2 = k + 1 + 1 by omega, Nat.pow_succ, Nat.pow_succ, Nat.mul_assoc] at h
    exact h
  generalize R / 18446744073709551616 ^ k = A at *
  omega
/-- The quotient's digit is below, and the guess is not too small. -/
theorem guess_ge (R Y at' n : Nat) (hn : 1 ≤ n) (hY : Y < 18446744073709551616 ^ n) (hyt : 0 < lim Y (n - 1)) (hR : R < Y * 18446744073709551616 ^ (at' + 1)) :
    lim R (at' + n) ≤ lim Y (n - 1) ∧ R / (Y * 18446744073709551616 ^ at') ≤ gss (lim R (at' + n)) (lim R (at' + n - 1)) (lim Y (n - 1)) ∧ R < 18446744073709551616 ^ (at' + n + 1) := by
  obtain ⟨m, rfl⟩ : ∃ m, n = m + 1 := ⟨n - 1, by omega⟩
  simp only [Nat.add_sub_cancel] at *
  have hRt : R < 18446744073709551616 ^ (at' + (m + 1) + 1) := by
    refine Nat.lt_of_lt_of_le hR ?_
    rw [show at' + (m + 1) + 1 = (m + 1) + (at' + 1) by omega, Nat.pow_add _ (m + 1)]
    exact Nat.mul_le_mul_right _ (Nat.le_of_lt hY)
  have hYd : Y / 18446744073709551616 ^ m = lim Y m := by
    rw [lim_pow, Nat.mod_eq_of_lt]
    refine Nat.div_lt_of_lt_mul ?_
    rw [Nat.pow_succ] at hY; exact hY
  have hYge : lim Y m * 18446744073709551616 ^ m ≤ Y := by rw [← hYd]; exact Nat.div_mul_le_self _ _
  have hYlt : Y < (lim Y m + 1) * 18446744073709551616 ^ m := by
    have := Nat.lt_div_mul_add (a := Y) (pB m)
    rw [hYd] at this
    rw [Nat.add_mul]; omega
  have hdt := div_top R (at' + m) (by rw [show at' + m + 2 = at' + (m + 1) + 1 by omega]; exact hRt)
  rw [show at' + m + 1 = at' + (m + 1) by omega] at hdt
  have hsub : at' + (m + 1) - 1 = at' + m := by omega
  rw [hsub]
  have hlo := lim_lt R (at' + m)
  have hple : R / 18446744073709551616 ^ (at' + m) < (lim Y m + 1) * 18446744073709551616 := by
    refine Nat.div_lt_of_lt_mul ?_
    refine Nat.lt_of_lt_of_le hR ?_
    have h1 : Y * 18446744073709551616 ^ (at' + 1) ≤ (lim Y m + 1) * 18446744073709551616 ^ m * 18446744073709551616 ^ (at' + 1) := Nat.mul_le_mul_right _ (Nat.le_of_lt hYlt)
    refine Nat.le_trans h1 (Nat.le_of_eq ?_)
    rw [Nat.pow_add _ at' m, Nat.pow_succ _ at']; grind
  have hhi : lim R (at' + (m + 1)) ≤ lim Y m := by
    rw [hdt] at hple
    generalize lim R (at' + (m + 1)) = h at *
    generalize lim Y m = y at *
    omega
  refine ⟨hhi, ?_, hRt⟩
  have hYp : 0 < Y := Nat.lt_of_lt_of_le (Nat.mul_pos hyt (pB m)) hYge
  have hq : R / (Y * 18446744073709551616 ^ at') < 18446744073709551616 := by
    refine Nat.div_lt_of_lt_mul ?_
    rw [Nat.pow_succ] at hR
    rw [Nat.mul_assoc]; exact hR
  unfold gss
  split
  · omega
  · rw [Nat.le_div_iff_mul_le hyt, ← hdt, Nat.le_div_iff_mul_le (pB _)]
    refine Nat.le_trans ?_ (Nat.div_mul_le_self R (Y * 18446744073709551616 ^ at'))
    generalize R / (Y * 18446744073709551616 ^ at') = q
    have h1 := Nat.mul_le_mul_left q (Nat.mul_le_mul_right (18446744073709551616 ^ at') hYge)
    refine Nat.le_trans (Nat.le_of_eq ?_) h1
    rw [Nat.pow_add]; grind
/-- Behind a digit that is taken. -/
theorem digit_is (R Z q d : Nat) (hZ : 0 < Z) (hq : R / Z ≤ d) (hd : d * Z ≤ R) (hd' : q = R / Z) : d = q ∧ R - d * Z < Z := by
  have h1 : d ≤ R / Z := (Nat.le_div_iff_mul_le hZ).2 hd
  have e : d = R / Z := by omega
  subst e
  refine ⟨hd'.symm, ?_⟩
  have := Nat.lt_div_mul_add (a := R) hZ
  omega

end Wd
end Go.Proofs.YtclbiophgnkggaaGreatDoor
