/-
  Forms of unlike values: mathematics.
-/
import Derived.Test.YtmkmdbpibpbcjabXApart2
namespace Go.Proofs.Ytmkmdbpibpbcjab
open Go Go.RowKit
open Sha

theorem lt_bits : ∀ f x : Nat, x < 2 ^ f → x < 2 ^ Lib.bitLenAux f x
  | 0, x, h => by simpa [Lib.bitLenAux] using h
  | f + 1, x, h => by
    simp only [Lib.bitLenAux]
    by_cases h0 : x = 0
    · subst h0; simp
    · rw [if_neg h0]
      have h1 : x / 2 < 2 ^ f := by rw [Nat.pow_succ] at h; omega
      have := lt_bits f (x / 2) h1
      rw [Nat.add_comm 1, Nat.pow_succ]
      omega
theorem lt_bl (x : Nat) (h : x < 18446744073709551616) (t : Nat) (ht : bl x ≤ t) : x / 2 ^ (t * 8) = 0 := by
  apply Nat.div_eq_of_lt
  have h1 : x < 2 ^ Lib.bitLen x := lt_bits 64 x h
  refine Nat.lt_of_lt_of_le h1 (Nat.pow_le_pow_right (by decide) ?_)
  unfold bl at ht
  omega
theorem fb_zero (a b c d : Nat) (ha : a < 18446744073709551616) (hb : b < 18446744073709551616) (hc : c < 18446744073709551616) (hd : d < 18446744073709551616) (i : Nat) (hi : nb a b c d ≤ i) (h32 : i < 32) : fb [a, b, c, d] i = 0#8 := by
  unfold fb
  have key : [a, b, c, d].getD (i / 8) 0 / 2 ^ (i % 8 * 8) = 0 := by
    unfold nb at hi
    rcases (show i / 8 = 0 ∨ i / 8 = 1 ∨ i / 8 = 2 ∨ i / 8 = 3 by omega) with e | e | e | e
    · rw [e]; show a / _ = 0
      by_cases h3 : d ≠ 0
      · rw [if_pos h3] at hi; omega
      · rw [if_neg h3] at hi
        by_cases h2 : c ≠ 0
        · rw [if_pos h2] at hi; omega
        · rw [if_neg h2] at hi
          by_cases h1 : b ≠ 0
          · rw [if_pos h1] at hi; omega
          · rw [if_neg h1] at hi
            by_cases h0 : a ≠ 0
            · rw [if_pos h0] at hi; exact lt_bl a ha _ (by omega)
            · rw [Classical.not_not.1 h0, Nat.zero_div]
    · rw [e]; show b / _ = 0
      by_cases h3 : d ≠ 0
      · rw [if_pos h3] at hi; omega
      · rw [if_neg h3] at hi
        by_cases h2 : c ≠ 0
        · rw [if_pos h2] at hi; omega
        · rw [if_neg h2] at hi
          by_cases h1 : b ≠ 0
          · rw [if_pos h1] at hi; exact lt_bl b hb _ (by omega)
          · rw [Classical.not_not.1 h1, Nat.zero_div]
    · rw [e]; show c / _ = 0
      by_cases h3 : d ≠ 0
      · rw [if_pos h3] at hi; omega
      · rw [if_neg h3] at hi
        by_cases h2 : c ≠ 0
        · rw [if_pos h2] at hi; exact lt_bl c hc _ (by omega)
        · rw [Classical.not_not.1 h2, Nat.zero_div]
    · rw [e]; show d / _ = 0
      by_cases h3 : d ≠ 0
      · rw [if_pos h3] at hi; exact lt_bl d hd _ (by omega)
      · rw [Classical.not_not.1 h3, Nat.zero_div]
  rw [key]
theorem word_eq (x y : Nat) (hx : x < 18446744073709551616) (hy : y < 18446744073709551616) (h : ∀ t, t < 8 → BitVec.ofNat 8 (x / 2 ^ (t * 8)) = BitVec.ofNat 8 (y / 2 ^ (t * 8))) : x = y := by
  have q : ∀ t, t < 8 → x / 2 ^ (t * 8) % 256 = y / 2 ^ (t * 8) % 256 := fun t ht => by
    have := congrArg BitVec.toNat (h t ht)
    rwa [BitVec.toNat_ofNat, BitVec.toNat_ofNat] at this
  have q0 := q 0 (by decide)
  have q1 := q 1 (by decide)
  have q2 := q 2 (by decide)
  have q3 := q 3 (by decide)
  have q4' := q 4 (by decide)
  have q5 := q 5 (by decide)
  have q6 := q 6 (by decide)
  have q7 := q 7 (by decide)
  simp only [Nat.reduceMul, Nat.reducePow] at q0 q1 q2 q3 q4' q5 q6 q7
  omega
theorem fm_inj (a b c d a' b' c' d' k : Nat) (ha : a < 18446744073709551616) (hb : b < 18446744073709551616) (hc : c < 18446744073709551616) (hd : d < 18446744073709551616) (ha' : a' < 18446744073709551616) (hb' : b' < 18446744073709551616) (hc' : c' < 18446744073709551616) (hd' : d' < 18446744073709551616) (hk : nb a b c d = k) (hk' : nb a' b' c' d' = k) (h : fm [a, b, c, d] k = fm [a', b', c', d'] k) : a = a' ∧ b = b' ∧ c = c' ∧ d = d' := by
  have hf : ∀ i, i < 32 → fb [a, b, c, d] i = fb [a', b', c', d'] i := fun i hi => by
    by_cases hik : i < k
    · unfold fm at h
      simp only [List.cons.injEq, true_and] at h
      have h2 := congrArg (fun l => l[k - 1 - i]?) h
      simp only [List.getElem?_map, List.getElem?_range (show k - 1 - i < k by omega), Option.map_some, Option.some.injEq] at h2
      rwa [show k - 1 - (k - 1 - i) = i by omega] at h2
    · rw [fb_zero a b c d ha hb hc hd i (by omega) hi, fb_zero a' b' c' d' ha' hb' hc' hd' i (by omega) hi]
  have w : ∀ j, j < 4 → ∀ t, t < 8 → BitVec.ofNat 8 ([a, b, c, d].getD j 0 / 2 ^ (t * 8)) = BitVec.ofNat 8 ([a', b', c', d'].getD j 0 / 2 ^ (t * 8)) := fun j hj t ht => by
    have := hf (8 * j + t) (by omega)
    unfold fb at this
    rwa [show (8 * j + t) / 8 = j by omega, show (8 * j + t) % 8 = t by omega] at this
  exact ⟨word_eq a a' ha ha' (w 0 (by decide)), word_eq b b' hb hb' (w 1 (by decide)), word_eq c c' hc hc' (w 2 (by decide)), word_eq d d' hd hd' (w 3 (by decide))⟩
/-- A form ahead of a form and more. -/
theorem fm_pre (l l' : List Nat) (k k' : Nat) (hk : k ≤ 32) (hk' : k' ≤ 32) (e x : List (BitVec 8)) (h : fm l k ++ x = (fm l' k' ++ e).take (fm l k ++ x).length) : k = k' ∧ fm l k = fm l' k' := by
  have h0 := congrArg (fun z => z[0]?) h
  have e0 : k = k' := by
    simp only [fm, List.cons_append, List.length_cons, List.getElem?_cons_zero, List.take_succ_cons, Option.some.injEq] at h0
    have := congrArg BitVec.toNat h0
    rw [BitVec.toNat_ofNat, BitVec.toNat_ofNat] at this
    omega
  subst e0
  refine ⟨rfl, ?_⟩
  have h1 := congrArg (fun z => z.take (k + 1)) h
  rw [List.take_append_of_le_length (by rw [fm_len]; exact Nat.le_refl _), List.take_of_length_le (by rw [fm_len]; exact Nat.le_refl _), List.take_take, List.length_append, fm_len, show min (k + 1) (k + 1 + x.length) = k + 1 by omega, List.take_append_of_le_length (by rw [fm_len]; exact Nat.le_refl _), List.take_of_length_le (by rw [fm_len]; exact Nat.le_refl _)] at h1
  exact h1

theorem take_eq {x y : List (BitVec 8)} (hl : x.length = y.length) (h : x = y.take x.length) : x = y := by rw [hl, List.take_length] at h; exact h
/-- Of unlike values neither's form begins the other's. -/
theorem fo_apart (k : Nat) (N N' : Int) (d d' : List (BitVec 8)) (hd : d.length ≤ 4194304) (hd' : d'.length ≤ 4194304) (a b c1 d1 a' b' c' e' : Nat) (ha : a < 18446744073709551616) (hb : b < 18446744073709551616) (hc : c1 < 18446744073709551616) (hd1 : d1 < 18446744073709551616) (ha' : a' < 18446744073709551616) (hb' : b' < 18446744073709551616) (hc' : c' < 18446744073709551616) (he' : e' < 18446744073709551616)
    (h : ap k N N' d d' [a, b, c1, d1] [a', b', c', e'] = true) : ¬ ((fo k N d a b c1 d1).length ≤ (fo k N' d' a' b' c' e').length ∧ fo k N d a b c1 d1 = (fo k N' d' a' b' c' e').take (fo k N d a b c1 d1).length) := by
  rintro ⟨_, hp⟩
  unfold ap at h
  unfold fo at hp
  split at h
  · simp only at hp
    have := take_eq (by simp) hp
    simp only [List.cons.injEq, and_true] at this
    have := congrArg c this
    rw [c_ofInt, c_ofInt] at this
    simp [this] at h
  · simp only at hp
    have := take_eq (by simp) hp
    simp only [List.cons.injEq, and_true] at this
    revert h this
    cases (!(N.tmod 2 == 0)) <;> cases (!(N'.tmod 2 == 0)) <;> simp
  · simp only at hp
    have r1 := pk_range N mx (by decide)
    have r2 := pk_range N' mx (by decide)
    have u1 : pk N mx < 9223372036854775807 := r1.2
    have u2 : pk N' mx < 9223372036854775807 := r2.2
    obtain ⟨ek, ef⟩ := fm_pre _ _ _ _ (nb_le _ _ _ _) (nb_le _ _ _ _) [] [] (by simpa using hp)
    rw [← ek] at ef
    obtain ⟨q, _⟩ := fm_inj _ _ _ _ _ _ _ _ _ (by omega) (by omega) (by omega) (by omega) (by omega) (by omega) (by omega) (by omega) rfl ek.symm ef
    have : pk N mx = pk N' mx := by omega
    simp [this] at h
  · simp only at hp
    obtain ⟨ek, ef⟩ := fm_pre _ _ _ _ (nb_le _ _ _ _) (nb_le _ _ _ _) d' d hp
    rw [← ek] at ef
    obtain ⟨q, _⟩ := fm_inj _ _ _ _ _ _ _ _ _ (by omega) (by omega) (by omega) (by omega) (by omega) (by omega) (by omega) (by omega) rfl ek.symm ef
    have e2 := take_eq (by rw [List.length_append, List.length_append, fm_len, fm_len, ek, q]) hp
    rw [← ek, ef] at e2
    have := List.append_cancel_left e2
    simp [this] at h
  · simp only at hp
    obtain ⟨ek, ef⟩ := fm_pre _ _ _ _ (nb_le _ _ _ _) (nb_le _ _ _ _) [] [] (by simpa using hp)
    rw [← ek] at ef
    obtain ⟨q1, q2, q3, q4'⟩ := fm_inj _ _ _ _ _ _ _ _ _ ha hb hc hd1 ha' hb' hc' he' rfl ek.symm ef
    simp [q1, q2, q3, q4'] at h
  · simp only at hp
    have := take_eq (by rw [dgN_len, dgN_len]) hp
    simp [this] at h
  · rename_i k' h0 h1 h2 h3 h4 h5
    split at hp
    all_goals first | (exact (h0 rfl).elim) | (exact (h1 rfl).elim) | (exact (h2 rfl).elim) | (exact (h3 rfl).elim) | (exact (h4 rfl).elim) | (exact (h5 rfl).elim) | (have := take_eq (by rw [dgN_len, dgN_len]) hp; simp [this] at h)
/-- Of values that are alike the forms are. -/
theorem fo_alike (k : Nat) (N N' : Int) (d d' : List (BitVec 8)) (a b c1 d1 a' b' c' e' : Nat) (h : ap k N N' d d' [a, b, c1, d1] [a', b', c', e'] = false) : fo k N d a b c1 d1 = fo k N' d' a' b' c' e' := by
  unfold ap at h
  unfold fo
  split at h
  · simp only
    simp at h
    congr 1
    exact c_inj (by rw [c_ofInt, c_ofInt]; exact h)
  · simp only
    simp only [Bool.not_eq_false', beq_iff_eq] at h
    rw [h]
  · simp only
    simp only [Bool.not_eq_false', beq_iff_eq] at h
    rw [h]
  · simp only
    simp only [Bool.not_eq_false', decide_eq_true_eq] at h
    rw [h]
  · simp only
    simp only [Bool.not_eq_false', decide_eq_true_eq, List.cons.injEq, and_true] at h
    rw [h.1, h.2.1, h.2.2.1, h.2.2.2]
  · simp only
    simp only [Bool.not_eq_false', decide_eq_true_eq] at h
    rw [h]
  · rename_i k' h0 h1 h2 h3 h4 h5
    simp only [Bool.not_eq_false', decide_eq_true_eq] at h
    split
    all_goals first | (exact (h0 rfl).elim) | (exact (h1 rfl).elim) | (exact (h2 rfl).elim) | (exact (h3 rfl).elim) | (exact (h4 rfl).elim) | (exact (h5 rfl).elim) | (rw [h])

end Go.Proofs.Ytmkmdbpibpbcjab
