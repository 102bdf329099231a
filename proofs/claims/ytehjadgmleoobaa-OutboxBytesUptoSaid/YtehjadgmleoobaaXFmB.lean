/-
  A form is read as the number that it is of: mathematics.
-/
import Derived.Test.YtehjadgmleoobaaXSeeB
import Derived.Test.YtehjadgmleoobaaXFm
namespace Go.Proofs.Ytehjadgmleoobaa
open Go Go.RowKit
open Sha

theorem bits_in : ∀ m x : Nat, x < 2 ^ m → m ≤ 64 → x ≠ 0 → 2 ^ (Lib.bitLen x - 1) ≤ x ∧ x < 2 ^ Lib.bitLen x ∧ 1 ≤ Lib.bitLen x
  | 0, x, h, _, h0 => by simp at h; omega
  | m + 1, x, h, hm, h0 => by
    have h64 : x < 2 ^ 64 := Nat.lt_of_lt_of_le h (Nat.pow_le_pow_right (by decide) hm)
    have e := Lib.bitLen_half x h0 h64
    by_cases h1 : x / 2 = 0
    · have hx : x = 1 := by omega
      subst hx
      decide
    · have h2 : x / 2 < 2 ^ m := by rw [Nat.pow_succ] at h; omega
      obtain ⟨i1, i2, i3⟩ := bits_in m (x / 2) h2 (by omega) h1
      rw [e]
      have e1 : 1 + Lib.bitLen (x / 2) - 1 = (Lib.bitLen (x / 2) - 1) + 1 := by omega
      rw [e1, Nat.pow_succ, show 1 + Lib.bitLen (x / 2) = Lib.bitLen (x / 2) + 1 by omega, Nat.pow_succ]
      exact ⟨by omega, by omega, by omega⟩
theorem bl_in (x : Nat) (h : x < 18446744073709551616) (h0 : x ≠ 0) : 1 ≤ bl x ∧ bl x ≤ 8 ∧ 256 ^ (bl x - 1) ≤ x ∧ x < 256 ^ bl x := by
  obtain ⟨i1, i2, i3⟩ := bits_in 64 x h (Nat.le_refl _) h0
  have h8 : bl x ≤ 8 := bl_le x
  have e1 : ∀ m, (256 : Nat) ^ m = 2 ^ (8 * m) := fun m => by rw [Nat.pow_mul]
  have hb : 1 ≤ bl x := by unfold bl; omega
  refine ⟨hb, h8, ?_, ?_⟩
  · rw [e1]
    exact Nat.le_trans (Nat.pow_le_pow_right (by decide) (by unfold bl; omega)) i1
  · rw [e1]
    exact Nat.lt_of_lt_of_le i2 (Nat.pow_le_pow_right (by decide) (by unfold bl; omega))
/-- A part against the number of bytes. -/
theorem nb_parts (a b c d : Nat) (ha : a < 18446744073709551616) (hb : b < 18446744073709551616) (hc : c < 18446744073709551616) (hd : d < 18446744073709551616) (j : Nat) (hj : j < 4) :
    8 * j + 8 ≤ nb a b c d ∨ [a, b, c, d].getD j 0 < 256 ^ (nb a b c d - 8 * j) := by
  unfold nb
  by_cases h3 : d ≠ 0
  · rw [if_pos h3]
    obtain ⟨q1, q2, _, q4⟩ := bl_in d hd h3
    rcases (show j = 0 ∨ j = 1 ∨ j = 2 ∨ j = 3 by omega) with rfl | rfl | rfl | rfl
    · exact .inl (by omega)
    · exact .inl (by omega)
    · exact .inl (by omega)
    · exact .inr (by show d < _; rw [show 24 + bl d - 8 * 3 = bl d by omega]; exact q4)
  rw [if_neg h3]
  have d0 : d = 0 := by omega
  by_cases h2 : c ≠ 0
  · rw [if_pos h2]
    obtain ⟨q1, q2, _, q4⟩ := bl_in c hc h2
    rcases (show j = 0 ∨ j = 1 ∨ j = 2 ∨ j = 3 by omega) with rfl | rfl | rfl | rfl
    · exact .inl (by omega)
    · exact .inl (by omega)
    · exact .inr (by show c < _; rw [show 16 + bl c - 8 * 2 = bl c by omega]; exact q4)
    · exact .inr (by show d < _; rw [d0]; exact Nat.pow_pos (by decide))
  rw [if_neg h2]
  have c0 : c = 0 := by omega
  by_cases h1 : b ≠ 0
  · rw [if_pos h1]
    obtain ⟨q1, q2, _, q4⟩ := bl_in b hb h1
    rcases (show j = 0 ∨ j = 1 ∨ j = 2 ∨ j = 3 by omega) with rfl | rfl | rfl | rfl
    · exact .inl (by omega)
    · exact .inr (by show b < _; rw [show 8 + bl b - 8 * 1 = bl b by omega]; exact q4)
    · exact .inr (by show c < _; rw [c0]; exact Nat.pow_pos (by decide))
    · exact .inr (by show d < _; rw [d0]; exact Nat.pow_pos (by decide))
  rw [if_neg h1]
  have b0 : b = 0 := by omega
  by_cases h0 : a ≠ 0
  · rw [if_pos h0]
    obtain ⟨q1, q2, _, q4⟩ := bl_in a ha h0
    rcases (show j = 0 ∨ j = 1 ∨ j = 2 ∨ j = 3 by omega) with rfl | rfl | rfl | rfl
    · exact .inr (by show a < _; rw [show bl a - 8 * 0 = bl a by omega]; exact q4)
    · exact .inr (by show b < _; rw [b0]; exact Nat.pow_pos (by decide))
    · exact .inr (by show c < _; rw [c0]; exact Nat.pow_pos (by decide))
    · exact .inr (by show d < _; rw [d0]; exact Nat.pow_pos (by decide))
  · rw [if_neg h0]
    have a0 : a = 0 := by omega
    rcases (show j = 0 ∨ j = 1 ∨ j = 2 ∨ j = 3 by omega) with rfl | rfl | rfl | rfl
    · exact .inr (by show a < _; rw [a0]; exact Nat.pow_pos (by decide))
    · exact .inr (by show b < _; rw [b0]; exact Nat.pow_pos (by decide))
    · exact .inr (by show c < _; rw [c0]; exact Nat.pow_pos (by decide))
    · exact .inr (by show d < _; rw [d0]; exact Nat.pow_pos (by decide))
/-- The first byte is no nought. -/
theorem nb_top (a b c d : Nat) (ha : a < 18446744073709551616) (hb : b < 18446744073709551616) (hc : c < 18446744073709551616) (hd : d < 18446744073709551616) (h : 0 < nb a b c d) : (fb [a, b, c, d] (nb a b c d - 1)).toNat ≠ 0 := by
  have key : ∀ (x J m : Nat), x < 18446744073709551616 → x ≠ 0 → m = 8 * J + bl x → [a, b, c, d].getD J 0 = x → (fb [a, b, c, d] (m - 1)).toNat ≠ 0 := fun x J m hx h0 hm hg => by
    obtain ⟨q1, q2, q3, q4⟩ := bl_in x hx h0
    unfold fb
    rw [BitVec.toNat_ofNat, show (m - 1) / 8 = J by omega, hg, show (m - 1) % 8 * 8 = 8 * (bl x - 1) by omega, Nat.pow_mul, show (2 : Nat) ^ 8 = 256 from rfl]
    have hp : 0 < (256 : Nat) ^ (bl x - 1) := Nat.pow_pos (by decide)
    have e1 : (256 : Nat) ^ bl x = 256 ^ (bl x - 1) * 256 := by rw [← Nat.pow_succ]; congr 1; omega
    have h1 : 1 ≤ x / 256 ^ (bl x - 1) := (Nat.le_div_iff_mul_le hp).2 (by omega)
    have h2 : x / 256 ^ (bl x - 1) < 256 := Nat.div_lt_of_lt_mul (by rw [← e1]; exact q4)
    rw [Nat.mod_eq_of_lt h2]
    omega
  have hnb := h
  unfold nb at hnb ⊢
  by_cases h3 : d ≠ 0
  · rw [if_pos h3]; exact key d 3 _ hd h3 (by omega) rfl
  rw [if_neg h3] at hnb ⊢
  by_cases h2 : c ≠ 0
  · rw [if_pos h2]; exact key c 2 _ hc h2 (by omega) rfl
  rw [if_neg h2] at hnb ⊢
  by_cases h1 : b ≠ 0
  · rw [if_pos h1]; exact key b 1 _ hb h1 (by omega) rfl
  rw [if_neg h1] at hnb ⊢
  by_cases h0 : a ≠ 0
  · rw [if_pos h0]; exact key a 0 _ ha h0 (by omega) rfl
  · rw [if_neg h0] at hnb; omega
theorem lb_of (bs : List (BitVec 8)) (e j x : Nat) : ∀ t, 8 * j ≤ t → t ≤ 8 * j + 8 → (∀ i, 8 * j ≤ i → i < t → at8 bs (e - 1 - i) = x / 256 ^ (i - 8 * j) % 256) → lb bs e j t = x % 256 ^ (t - 8 * j)
  | 0, h1, _, _ => by simp [lb, Nat.mod_one]
  | t + 1, h1, h2, hd => by
    by_cases q : t + 1 = 8 * j
    · rw [lb_none bs e j (t + 1) (by omega), q, Nat.sub_self, Nat.pow_zero, Nat.mod_one]
    have ih := lb_of bs e j x t (by omega) (by omega) (fun i h h' => hd i h (by omega))
    have e1 : lb bs e j (t + 1) = lb bs e j t + at8 bs (e - 1 - t) * 256 ^ (t - 8 * j) := by
      show (if t / 8 = j then _ else _) = _
      rw [if_pos (by omega), show t % 8 = t - 8 * j by omega]
    rw [e1, ih, hd t (by omega) (by omega), show t + 1 - 8 * j = (t - 8 * j) + 1 by omega, Nat.pow_succ, Nat.mod_mul, Nat.mul_comm (256 ^ (t - 8 * j))]
/-- A form that stands there is read. -/
theorem read_form (a b c d : Nat) (ha : a < 18446744073709551616) (hb : b < 18446744073709551616) (hc : c < 18446744073709551616) (hd : d < 18446744073709551616) (most : Nat) (bs : List (BitVec 8)) (p : Nat) (k : Nat) (hk : k = nb a b c d) (hm : k ≤ most) (hl : p + (1 + k) ≤ bs.length) (hs : sub bs p (1 + k) = fm [a, b, c, d] k) :
    at8 bs p = k ∧ hiF most bs p = 0 ∧ ∀ j, j < 4 → lb bs (p + 1 + k) j k = [a, b, c, d].getD j 0 := by
  have k32 : k ≤ 32 := by rw [hk]; exact nb_le a b c d
  have hat : ∀ i (hi : i < 1 + k), at8 bs (p + i) = ((fm [a, b, c, d] k)[i]'(by rw [fm_len]; omega)).toNat := fun i hi => by
    have h1 := sub_get bs p (1 + k) i hi
    rw [hs, List.getElem?_eq_getElem (by rw [fm_len]; omega)] at h1
    unfold at8
    rw [List.getD_eq_getElem?_getD, ← h1]
    rfl
  have h0 : at8 bs p = k := by
    have := hat 0 (by omega)
    rw [Nat.add_zero] at this
    rw [this]
    simp only [fm, List.getElem_cons_zero, BitVec.toNat_ofNat]
    exact Nat.mod_eq_of_lt (by omega)
  have hi : ∀ i, i < k → at8 bs (p + 1 + k - 1 - i) = (fb [a, b, c, d] i).toNat := fun i hi => by
    have := hat (k - i) (by omega)
    rw [show p + 1 + k - 1 - i = p + (k - i) by omega, this]
    have e : k - i = (k - 1 - i) + 1 := by omega
    simp only [e]
    simp only [fm, List.getElem_cons_succ, List.getElem_map, List.getElem_range]
    rw [show k - 1 - (k - 1 - i) = i by omega]
  refine ⟨h0, ?_, fun j hj => ?_⟩
  · unfold hiF
    rw [h0, if_neg (by omega), if_neg (by omega), if_neg (by omega), if_neg]
    rintro ⟨q1, q2⟩
    have := hi (k - 1) (by omega)
    rw [show p + 1 + k - 1 - (k - 1) = p + 1 by omega, q2] at this
    have ht := nb_top a b c d ha hb hc hd (by rw [← hk]; exact q1)
    rw [← hk] at ht
    exact ht this.symm
  · have hdig : ∀ i, 8 * j ≤ i → i < 8 * j + 8 → i < k → at8 bs (p + 1 + k - 1 - i) = [a, b, c, d].getD j 0 / 256 ^ (i - 8 * j) % 256 := fun i h1 h2 h3 => by
      rw [hi i h3]
      unfold fb
      rw [BitVec.toNat_ofNat, show i / 8 = j by omega, show i % 8 * 8 = 8 * (i - 8 * j) by omega, Nat.pow_mul]
    rcases nb_parts a b c d ha hb hc hd j hj with q | q
    · rw [← hk] at q
      rw [lb_stay bs _ j k (by omega), lb_of bs _ j ([a, b, c, d].getD j 0) (8 * j + 8) (by omega) (Nat.le_refl _) (fun i h1 h2 => hdig i h1 (by omega) (by omega))]
      rw [show 8 * j + 8 - 8 * j = 8 by omega]
      apply Nat.mod_eq_of_lt
      have e8 : (256 : Nat) ^ 8 = 18446744073709551616 := by decide
      rw [e8]
      rcases (show j = 0 ∨ j = 1 ∨ j = 2 ∨ j = 3 by omega) with rfl | rfl | rfl | rfl
      · exact ha
      · exact hb
      · exact hc
      · exact hd
    · rw [← hk] at q
      by_cases q2 : k ≤ 8 * j
      · rw [lb_none bs _ j k q2]
        rw [show k - 8 * j = 0 by omega, Nat.pow_zero] at q
        omega
      · by_cases q3 : k ≤ 8 * j + 8
        · rw [lb_of bs _ j ([a, b, c, d].getD j 0) k (by omega) q3 (fun i h1 h2 => hdig i h1 (by omega) h2)]
          exact Nat.mod_eq_of_lt q
        · rw [lb_stay bs _ j k (by omega), lb_of bs _ j ([a, b, c, d].getD j 0) (8 * j + 8) (by omega) (Nat.le_refl _) (fun i h1 h2 => hdig i h1 (by omega) (by omega))]
          rw [show 8 * j + 8 - 8 * j = 8 by omega]
          apply Nat.mod_eq_of_lt
          have e8 : (256 : Nat) ^ 8 = 18446744073709551616 := by decide
          rw [e8]
          rcases (show j = 0 ∨ j = 1 ∨ j = 2 ∨ j = 3 by omega) with rfl | rfl | rfl | rfl
          · exact ha
          · exact hb
          · exact hc
          · exact hd
theorem read_num (n : Nat) (hn : n ≤ 9223372036854775807) (bs : List (BitVec 8)) (p k : Nat) (hk : k = nb n 0 0 0) (hl : p + (1 + k) ≤ bs.length) (hs : sub bs p (1 + k) = fm [n, 0, 0, 0] k) : at8 bs p = k ∧ nuE bs p = 0 ∧ nuW bs p = n := by
  have k8 : k ≤ 8 := by
    rw [hk]; unfold nb
    rw [if_neg (by simp), if_neg (by simp), if_neg (by simp)]
    split
    · exact bl_le n
    · omega
  obtain ⟨h1, h2, h3⟩ := read_form n 0 0 0 (by omega) (by decide) (by decide) (by decide) 8 bs p k hk k8 hl hs
  have e : nuW bs p = n := by
    unfold nuW
    rw [h1]; exact h3 0 (by decide)
  refine ⟨h1, ?_, e⟩
  unfold nuE
  rw [if_pos h2, e, if_neg (by omega)]

end Go.Proofs.Ytehjadgmleoobaa
