/-
  A number that was read has the form that was read: mathematics.
-/
import Derived.Test.YtmkmdbpibpbcjaaXSeeB
import Derived.Test.YtmkmdbpibpbcjaaXFm
namespace Go.Proofs.Ytmkmdbpibpbcjaa
open Go Go.RowKit
open Sha

theorem bl_of (x m : Nat) (h1 : 1 ≤ m) (h8 : m ≤ 8) (hl : 256 ^ (m - 1) ≤ x) (hu : x < 256 ^ m) : bl x = m := by
  have e1 : (256 : Nat) ^ (m - 1) = 2 ^ (8 * (m - 1)) := by rw [Nat.pow_mul]
  have h64 : x < 2 ^ 64 := by
    have : (256 : Nat) ^ m ≤ 256 ^ 8 := Nat.pow_le_pow_right (by decide) h8
    have e8 : (256 : Nat) ^ 8 = 2 ^ 64 := by decide
    omega
  have hs := Lib.bitLen_shift (8 * (m - 1)) x (by rw [← e1]; exact hl) h64
  have hq : x / 2 ^ (8 * (m - 1)) < 256 := by
    rw [← e1]
    apply Nat.div_lt_of_lt_mul
    have : (256 : Nat) ^ m = 256 ^ (m - 1) * 256 := by rw [← Nat.pow_succ]; congr 1; omega
    rw [← this]; exact hu
  have hp : 1 ≤ x / 2 ^ (8 * (m - 1)) := by
    rw [← e1]
    exact (Nat.le_div_iff_mul_le (Nat.pow_pos (by decide))).2 (by omega)
  generalize x / 2 ^ (8 * (m - 1)) = q at *
  have h9 := Lib.bitLen_le8 ⟨q, hq⟩
  simp only at h9
  have h10 := Lib.bitLen_half q (by omega) (by omega)
  unfold bl
  omega
theorem lb_digit (bs : List (BitVec 8)) (e j i : Nat) (hi : 8 * j ≤ i) (hi8 : i < 8 * j + 8) : ∀ t, i < t → t ≤ 8 * j + 8 → lb bs e j t / 256 ^ (i - 8 * j) % 256 = at8 bs (e - 1 - i)
  | 0, h, _ => by omega
  | t + 1, h, h8 => by
    have e1 : lb bs e j (t + 1) = lb bs e j t + at8 bs (e - 1 - t) * 256 ^ (t - 8 * j) := by
      show (if t / 8 = j then _ else _) = _
      rw [if_pos (by omega), show t % 8 = t - 8 * j by omega]
    rw [e1]
    have hd := at8_lt bs (e - 1 - t)
    by_cases q : i = t
    · subst q
      have hl := lb_lt bs e j i (by omega) (by omega)
      rw [Nat.add_mul_div_right _ _ (Nat.pow_pos (by decide)), Nat.div_eq_of_lt hl, Nat.zero_add]
      exact Nat.mod_eq_of_lt hd
    · have ih := lb_digit bs e j i hi hi8 t (by omega) (by omega)
      have e2 : (256 : Nat) ^ (t - 8 * j) = 256 ^ (t - i - 1) * 256 * 256 ^ (i - 8 * j) := by
        rw [← Nat.pow_succ, ← Nat.pow_add]; congr 1; omega
      rw [e2, ← Nat.mul_assoc, Nat.add_mul_div_right _ _ (Nat.pow_pos (by decide)), ← Nat.mul_assoc, Nat.add_mul_mod_self_right]
      exact ih
theorem lb_dig (bs : List (BitVec 8)) (e k i : Nat) (hi : i < k) : lb bs e (i / 8) k / 2 ^ (i % 8 * 8) % 256 = at8 bs (e - 1 - i) := by
  have e1 : (2 : Nat) ^ (i % 8 * 8) = 256 ^ (i - 8 * (i / 8)) := by rw [Nat.mul_comm, Nat.pow_mul]; congr 1; omega
  rw [e1]
  by_cases h : k ≤ 8 * (i / 8) + 8
  · exact lb_digit bs e (i / 8) i (by omega) (by omega) k hi h
  · rw [lb_stay bs e (i / 8) k (by omega)]
    exact lb_digit bs e (i / 8) i (by omega) (by omega) (8 * (i / 8) + 8) (by omega) (Nat.le_refl _)
theorem lb_bl (bs : List (BitVec 8)) (e k j : Nat) (h1 : 8 * j < k) (h2 : k ≤ 8 * j + 8) (ht : at8 bs (e - 1 - (k - 1)) ≠ 0) : lb bs e j k ≠ 0 ∧ bl (lb bs e j k) = k - 8 * j := by
  have hu := lb_lt bs e j k (by omega) h2
  have e1 : lb bs e j k = lb bs e j (k - 1) + at8 bs (e - 1 - (k - 1)) * 256 ^ (k - 1 - 8 * j) := by
    obtain ⟨t, rfl⟩ : ∃ t, k = t + 1 := ⟨k - 1, by omega⟩
    show (if t / 8 = j then _ else _) = _
    rw [if_pos (by omega), show t % 8 = t - 8 * j by omega]
    rfl
  have hl : 256 ^ (k - 8 * j - 1) ≤ lb bs e j k := by
    rw [e1, show k - 8 * j - 1 = k - 1 - 8 * j by omega]
    have : 1 * 256 ^ (k - 1 - 8 * j) ≤ at8 bs (e - 1 - (k - 1)) * 256 ^ (k - 1 - 8 * j) := Nat.mul_le_mul_right _ (by omega)
    omega
  refine ⟨?_, bl_of _ _ (by omega) (by omega) hl hu⟩
  have : 0 < (256 : Nat) ^ (k - 8 * j - 1) := Nat.pow_pos (by decide)
  omega
theorem lb_nb (bs : List (BitVec 8)) (e k : Nat) (hk : k ≤ 32) (ht : 0 < k → at8 bs (e - 1 - (k - 1)) ≠ 0) : nb (lb bs e 0 k) (lb bs e 1 k) (lb bs e 2 k) (lb bs e 3 k) = k := by
  unfold nb
  by_cases c3 : 24 < k
  · obtain ⟨n3, b3⟩ := lb_bl bs e k 3 (by omega) (by omega) (ht (by omega))
    rw [if_pos n3, b3]; omega
  rw [lb_none bs e 3 k (by omega), if_neg (by simp)]
  by_cases c2 : 16 < k
  · obtain ⟨n2, b2⟩ := lb_bl bs e k 2 (by omega) (by omega) (ht (by omega))
    rw [if_pos n2, b2]; omega
  rw [lb_none bs e 2 k (by omega), if_neg (by simp)]
  by_cases c1 : 8 < k
  · obtain ⟨n1, b1⟩ := lb_bl bs e k 1 (by omega) (by omega) (ht (by omega))
    rw [if_pos n1, b1]; omega
  rw [lb_none bs e 1 k (by omega), if_neg (by simp)]
  by_cases c0 : 0 < k
  · obtain ⟨n0, b0⟩ := lb_bl bs e k 0 (by omega) (by omega) (ht (by omega))
    rw [if_pos n0, b0]; omega
  · obtain rfl : k = 0 := by omega
    simp [lb]
/-- What was read off is the form of what was read. -/
theorem form_read {most : Nat} {bs : List (BitVec 8)} {a : Nat} (hm : most ≤ 32) (h : hiF most bs a = 0) (k : Nat) (hk : at8 bs a = k) :
    nb (lb bs (a + 1 + k) 0 k) (lb bs (a + 1 + k) 1 k) (lb bs (a + 1 + k) 2 k) (lb bs (a + 1 + k) 3 k) = k ∧ fm [lb bs (a + 1 + k) 0 k, lb bs (a + 1 + k) 1 k, lb bs (a + 1 + k) 2 k, lb bs (a + 1 + k) 3 k] k = sub bs a (1 + k) := by
  obtain ⟨h1, h2, h3, h4⟩ := hiF_ok h
  rw [hk] at h2 h3 h4
  refine ⟨lb_nb bs _ k (by omega) (fun h0 => by rw [show a + 1 + k - 1 - (k - 1) = a + 1 by omega]; exact h4 h0), ?_⟩
  have hsl := sub_len bs a (1 + k) (by omega)
  apply List.ext_getElem (by rw [fm_len, hsl]; omega)
  intro p hp1 hp2
  rw [hsl] at hp2
  have e2 : (sub bs a (1 + k))[p]'(by rw [hsl]; exact hp2) = bs[a + p]'(by omega) := by
    have := sub_get bs a (1 + k) p hp2
    rw [List.getElem?_eq_getElem (by rw [hsl]; exact hp2), List.getElem?_eq_getElem (by omega)] at this
    exact Option.some.inj this
  rw [e2]
  have hb : ∀ i (hi : i < bs.length), (bs[i]'hi).toNat = at8 bs i := fun i hi => by unfold at8; rw [List.getD_eq_getElem?_getD, List.getElem?_eq_getElem hi]; rfl
  apply BitVec.eq_of_toNat_eq
  rw [hb]
  cases p with
  | zero =>
    simp only [fm, List.getElem_cons_zero, BitVec.toNat_ofNat, Nat.add_zero]
    rw [hk]
    exact Nat.mod_eq_of_lt (by omega)
  | succ q =>
    simp only [fm, List.getElem_cons_succ, List.getElem_map, List.getElem_range, fb, BitVec.toNat_ofNat]
    have hq : q < k := by omega
    have hi : k - 1 - q < k := by omega
    have ed : [lb bs (a + 1 + k) 0 k, lb bs (a + 1 + k) 1 k, lb bs (a + 1 + k) 2 k, lb bs (a + 1 + k) 3 k].getD ((k - 1 - q) / 8) 0 = lb bs (a + 1 + k) ((k - 1 - q) / 8) k := by
      have : (k - 1 - q) / 8 < 4 := by omega
      generalize (k - 1 - q) / 8 = j at *
      rcases (show j = 0 ∨ j = 1 ∨ j = 2 ∨ j = 3 by omega) with rfl | rfl | rfl | rfl <;> rfl
    rw [ed, show (2 : Nat) ^ 8 = 256 from rfl, lb_dig bs (a + 1 + k) k (k - 1 - q) hi]
    congr 1
    omega
theorem lb_high (bs : List (BitVec 8)) (e k : Nat) (hk : k ≤ 8) : lb bs e 1 k = 0 ∧ lb bs e 2 k = 0 ∧ lb bs e 3 k = 0 := ⟨lb_none bs e 1 k (by omega), lb_none bs e 2 k (by omega), lb_none bs e 3 k (by omega)⟩
/-- Of a number. -/
theorem form_num {bs : List (BitVec 8)} {a : Nat} (h : nuE bs a = 0) : nb (nuW bs a) 0 0 0 = at8 bs a ∧ fm [nuW bs a, 0, 0, 0] (at8 bs a) = sub bs a (1 + at8 bs a) := by
  obtain ⟨h1, _⟩ := nuE_ok h
  obtain ⟨_, h2, _, _⟩ := hiF_ok h1
  obtain ⟨q1, q2⟩ := form_read (by decide) h1 _ rfl
  obtain ⟨e1, e2, e3⟩ := lb_high bs (a + 1 + at8 bs a) (at8 bs a) h2
  rw [e1, e2, e3] at q1 q2
  exact ⟨q1, q2⟩
theorem sub_add (bs : List (BitVec 8)) (a m n : Nat) : sub bs a m ++ sub bs (a + m) n = sub bs a (m + n) := by
  unfold sub
  rw [List.take_add, List.drop_drop]
theorem take_sub (bs : List (BitVec 8)) (a n : Nat) : bs.take a ++ sub bs a n = bs.take (a + n) := by
  unfold sub
  rw [List.take_add]

end Go.Proofs.Ytmkmdbpibpbcjaa
