/-
  laws of the walk, and the writer's laws: of no law's own.
-/
import Derived.Test.YtfommclhnfcioaaXSeeB
import Derived.Test.YtfommclhnfcioaaXFm
import Derived.Test.YtfommclhnfcioaaLeA
import Derived.Test.YtfommclhnfcioaaLtD
import Derived.Deep.CutRange
import Derived.Test.YtfommclhnfcioaaLtE
import Derived.Test.YtfommclhnfcioaaLtF
import Derived.Test.YtfommclhnfcioaaXStp
import Derived.Deep.RegionLaw
import Derived.Test.YtfommclhnfcioaaLeI
import Derived.Test.YtfommclhnfcioaaXOwn
import Derived.Test.YtfommclhnfcioaaXRe
import Derived.BigQuiet

namespace Go.Proofs.Ytfommclhnfcioaa
open Go Go.RowKit
open Sha

theorem bits_in : ∀ m x : Nat, x < 2 ^ m → m ≤ 64 → x ≠ 0 → 2 ^ (Lib.bitLen x - 1) ≤ x ∧ x < 2 ^ Lib.bitLen x ∧ 1 ≤ Lib.bitLen x
  | 0, x, h, _, h0 => by simp at h; omega
  | m + 1, x, h, hm, h0 => by
    have h64 : x < 2 ^ 64 := Nat.lt_of_lt_of_le h (Nat.pow_le_pow_right (by decide) hm)
    have e := Lib.bitLen_half x h0 h64
    by_cases h1 : x / 2 = 0
    · have hx : x = 1 := by omega
      subst hx
      decide
    · have h2 : x / 2 < 2 ^ m := by rw [Nat.pow_succ] at h; omega
      obtain ⟨i1, i2, i3⟩ := bits_in m (x / 2) h2 (by omega) h1
      rw [e]
      have e1 : 1 + Lib.bitLen (x / 2) - 1 = (Lib.bitLen (x / 2) - 1) + 1 := by omega
      rw [e1, Nat.pow_succ, show 1 + Lib.bitLen (x / 2) = Lib.bitLen (x / 2) + 1 by omega, Nat.pow_succ]
      exact ⟨by omega, by omega, by omega⟩
theorem bl_in (x : Nat) (h : x < 18446744073709551616) (h0 : x ≠ 0) : 1 ≤ bl x ∧ bl x ≤ 8 ∧ 256 ^ (bl x - 1) ≤ x ∧ x < 256 ^ bl x := by
  obtain ⟨i1, i2, i3⟩ := bits_in 64 x h (Nat.le_refl _) h0
  have h8 : bl x ≤ 8 := bl_le x
  have e1 : ∀ m, (256 : Nat) ^ m = 2 ^ (8 * m) := fun m => by rw [Nat.pow_mul]
  have hb : 1 ≤ bl x := by unfold bl; omega
  refine ⟨hb, h8, ?_, ?_⟩
  · rw [e1]
    exact Nat.le_trans (Nat.pow_le_pow_right (by decide) (by unfold bl; omega)) i1
  · rw [e1]
    exact Nat.lt_of_lt_of_le i2 (Nat.pow_le_pow_right (by decide) (by unfold bl; omega))
/-- A part against the number of bytes. -/
theorem nb_parts (a b c d : Nat) (ha : a < 18446744073709551616) (hb : b < 18446744073709551616) (hc : c < 18446744073709551616) (hd : d < 18446744073709551616) (j : Nat) (hj : j < 4) :
    8 * j + 8 ≤ nb a b c d ∨ [a, b, c, d].getD j 0 < 256 ^ (nb a b c d - 8 * j) := by
  unfold nb
  by_cases h3 : d ≠ 0
  · rw [if_pos h3]
    obtain ⟨q1, q2, _, q4⟩ := bl_in d hd h3
    rcases (show j = 0 ∨ j = 1 ∨ j = 2 ∨ j = 3 by omega) with rfl | rfl | rfl | rfl
    · exact .inl (by omega)
    · exact .inl (by omega)
    · exact .inl (by omega)
    · exact .inr (by show d < _; rw [show 24 + bl d - 8 * 3 = bl d by omega]; exact q4)
  rw [if_neg h3]
  have d0 : d = 0 := by omega
  by_cases h2 : c ≠ 0
  · rw [if_pos h2]
    obtain ⟨q1, q2, _, q4⟩ := bl_in c hc h2
    rcases (show j = 0 ∨ j = 1 ∨ j = 2 ∨ j = 3 by omega) with rfl | rfl | rfl | rfl
    · exact .inl (by omega)
    · exact .inl (by omega)
    · exact .inr (by show c < _; rw [show 16 + bl c - 8 * 2 = bl c by omega]; exact q4)
    · exact .inr (by show d < _; rw [d0]; exact Nat.pow_pos (by decide))
  rw [if_neg h2]
  have c0 : c = 0 := by omega
  by_cases h1 : b ≠ 0
  · rw [if_pos h1]
    obtain ⟨q1, q2, _, q4⟩ := bl_in b hb h1
    rcases (show j = 0 ∨ j = 1 ∨ j = 2 ∨ j = 3 by omega) with rfl | rfl | rfl | rfl
    · exact .inl (by omega)
    · exact .inr (by show b < _; rw [show 8 + bl b - 8 * 1 = bl b by omega]; exact q4)
    · exact .inr (by show c < _; rw [c0]; exact Nat.pow_pos (by decide))
    · exact .inr (by show d < _; rw [d0]; exact Nat.pow_pos (by decide))
  rw [if_neg h1]
  have b0 : b = 0 := by omega
  by_cases h0 : a ≠ 0
  · rw [if_pos h0]
    obtain ⟨q1, q2, _, q4⟩ := bl_in a ha h0
    rcases (show j = 0 ∨ j = 1 ∨ j = 2 ∨ j = 3 by omega) with rfl | rfl | rfl | rfl
    · exact .inr (by show a < _; rw [show bl a - 8 * 0 = bl a by omega]; exact q4)
    · exact .inr (by show b < _; rw [b0]; exact Nat.pow_pos (by decide))
    · exact .inr (by show c < _; rw [c0]; exact Nat.pow_pos (by decide))
    · exact .inr (by show d < _; rw [d0]; exact Nat.pow_pos (by decide))
  · rw [if_neg h0]
    have a0 : a = 0 := by omega
    rcases (show j = 0 ∨ j = 1 ∨ j = 2 ∨ j = 3 by omega) with rfl | rfl | rfl | rfl
    · exact .inr (by show a < _; rw [a0]; exact Nat.pow_pos (by decide))
    · exact .inr (by show b < _; rw [b0]; exact Nat.pow_pos (by decide))
    · exact .inr (by show c < _; rw [c0]; exact Nat.pow_pos (by decide))
    · exact .inr (by show d < _; rw [d0]; exact Nat.pow_pos (by decide))
/-- The first byte is no nought. -/
theorem nb_top (a b c d : Nat) (ha : a < 18446744073709551616) (hb : b < 18446744073709551616) (hc : c < 18446744073709551616) (hd : d < 18446744073709551616) (h : 0 < nb a b c d) : (fb [a, b, c, d] (nb a b c d - 1)).toNat ≠ 0 := by
  have key : ∀ (x J m : Nat), x < 18446744073709551616 → x ≠ 0 → m = 8 * J + bl x → [a, b, c, d].getD J 0 = x → (fb [a, b, c, d] (m - 1)).toNat ≠ 0 := fun x J m hx h0 hm hg => by
    obtain ⟨q1, q2, q3, q4⟩ := bl_in x hx h0
    unfold fb
    rw [BitVec.toNat_ofNat, show (m - 1) / 8 = J by omega, hg, show (m - 1) % 8 * 8 = 8 * (bl x - 1) by omega, Nat.pow_mul, show (2 : Nat) ^ 8 = 256 from rfl]
    have hp : 0 < (256 : Nat) ^ (bl x - 1) := Nat.pow_pos (by decide)
    have e1 : (256 : Nat) ^ bl x = 256 ^ (bl x - 1) * 256 := by rw [← Nat.pow_succ]; congr 1; omega
    have h1 : 1 ≤ x / 256 ^ (bl x - 1) := (Nat.le_div_iff_mul_le hp).2 (by omega)
    have h2 : x / 256 ^ (bl x - 1) < 256 := Nat.div_lt_of_lt_mul (by rw [← e1]; exact q4)
    rw [Nat.mod_eq_of_lt h2]
    omega
  have hnb := h
  unfold nb at hnb ⊢
  by_cases h3 : d ≠ 0
  · rw [if_pos h3]; exact key d 3 _ hd h3 (by omega) rfl
  rw [if_neg h3] at hnb ⊢
  by_cases h2 : c ≠ 0
  · rw [if_pos h2]; exact key c 2 _ hc h2 (by omega) rfl
  rw [if_neg h2] at hnb ⊢
  by_cases h1 : b ≠ 0
  · rw [if_pos h1]; exact key b 1 _ hb h1 (by omega) rfl
  rw [if_neg h1] at hnb ⊢
  by_cases h0 : a ≠ 0
  · rw [if_pos h0]; exact key a 0 _ ha h0 (by omega) rfl
  · rw [if_neg h0] at hnb; omega
theorem lb_of (bs : List (BitVec 8)) (e j x : Nat) : ∀ t, 8 * j ≤ t → t ≤ 8 * j + 8 → (∀ i, 8 * j ≤ i → i < t → at8 bs (e - 1 - i) = x / 256 ^ (i - 8 * j) % 256) → lb bs e j t = x % 256 ^ (t - 8 * j)
  | 0, h1, _, _ => by simp [lb, Nat.mod_one]
  | t + 1, h1, h2, hd => by
    by_cases q : t + 1 = 8 * j
    · rw [lb_none bs e j (t + 1) (by omega), q, Nat.sub_self, Nat.pow_zero, Nat.mod_one]
    have ih := lb_of bs e j x t (by omega) (by omega) (fun i h h' => hd i h (by omega))
    have e1 : lb bs e j (t + 1) = lb bs e j t + at8 bs (e - 1 - t) * 256 ^ (t - 8 * j) := by
      show (if t / 8 = j then _ else _) = _
      rw [if_pos (by omega), show t % 8 = t - 8 * j by omega]
    rw [e1, ih, hd t (by omega) (by omega), show t + 1 - 8 * j = (t - 8 * j) + 1 by omega, Nat.pow_succ, Nat.mod_mul, Nat.mul_comm (256 ^ (t - 8 * j))]
/-- A form that stands there is read. -/
theorem read_form (a b c d : Nat) (ha : a < 18446744073709551616) (hb : b < 18446744073709551616) (hc : c < 18446744073709551616) (hd : d < 18446744073709551616) (most : Nat) (bs : List (BitVec 8)) (p : Nat) (k : Nat) (hk : k = nb a b c d) (hm : k ≤ most) (hl : p + (1 + k) ≤ bs.length) (hs : sub bs p (1 + k) = fm [a, b, c, d] k) :
    at8 bs p = k ∧ hiF most bs p = 0 ∧ ∀ j, j < 4 → lb bs (p + 1 + k) j k = [a, b, c, d].getD j 0 := by
  have k32 : k ≤ 32 := by rw [hk]; exact nb_le a b c d
  have hat : ∀ i (hi : i < 1 + k), at8 bs (p + i) = ((fm [a, b, c, d] k)[i]'(by rw [fm_len]; omega)).toNat := fun i hi => by
    have h1 := sub_get bs p (1 + k) i hi
    rw [hs, List.getElem?_eq_getElem (by rw [fm_len]; omega)] at h1
    unfold at8
    rw [List.getD_eq_getElem?_getD, ← h1]
    rfl
  have h0 : at8 bs p = k := by
    have := hat 0 (by omega)
    rw [Nat.add_zero] at this
    rw [this]
    simp only [fm, List.getElem_cons_zero, BitVec.toNat_ofNat]
    exact Nat.mod_eq_of_lt (by omega)
  have hi : ∀ i, i < k → at8 bs (p + 1 + k - 1 - i) = (fb [a, b, c, d] i).toNat := fun i hi => by
    have := hat (k - i) (by omega)
    rw [show p + 1 + k - 1 - i = p + (k - i) by omega, this]
    have e : k - i = (k - 1 - i) + 1 := by omega
    simp only [e]
    simp only [fm, List.getElem_cons_succ, List.getElem_map, List.getElem_range]
    rw [show k - 1 - (k - 1 - i) = i by omega]
  refine ⟨h0, ?_, fun j hj => ?_⟩
  · unfold hiF
    rw [h0, if_neg (by omega), if_neg (by omega), if_neg (by omega), if_neg]
    rintro ⟨q1, q2⟩
    have := hi (k - 1) (by omega)
    rw [show p + 1 + k - 1 - (k - 1) = p + 1 by omega, q2] at this
    have ht := nb_top a b c d ha hb hc hd (by rw [← hk]; exact q1)
    rw [← hk] at ht
    exact ht this.symm
  · have hdig : ∀ i, 8 * j ≤ i → i < 8 * j + 8 → i < k → at8 bs (p + 1 + k - 1 - i) = [a, b, c, d].getD j 0 / 256 ^ (i - 8 * j) % 256 := fun i h1 h2 h3 => by
      rw [hi i h3]
      unfold fb
      rw [BitVec.toNat_ofNat, show i / 8 = j by omega, show i % 8 * 8 = 8 * (i - 8 * j) by omega, Nat.pow_mul]
    rcases nb_parts a b c d ha hb hc hd j hj with q | q
    · rw [← hk] at q
      rw [lb_stay bs _ j k (by omega), lb_of bs _ j ([a, b, c, d].getD j 0) (8 * j + 8) (by omega) (Nat.le_refl _) (fun i h1 h2 => hdig i h1 (by omega) (by omega))]
      rw [show 8 * j + 8 - 8 * j = 8 by omega]
      apply Nat.mod_eq_of_lt
      have e8 : (256 : Nat) ^ 8 = 18446744073709551616 := by decide
      rw [e8]
      rcases (show j = 0 ∨ j = 1 ∨ j = 2 ∨ j = 3 by omega) with rfl | rfl | rfl | rfl
      · exact ha
      · exact hb
      · exact hc
      · exact hd
    · rw [← hk] at q
      by_cases q2 : k ≤ 8 * j
      · rw [lb_none bs _ j k q2]
        rw [show k - 8 * j = 0 by omega, Nat.pow_zero] at q
        omega
      · by_cases q3 : k ≤ 8 * j + 8
        · rw [lb_of bs _ j ([a, b, c, d].getD j 0) k (by omega) q3 (fun i h1 h2 => hdig i h1 (by omega) h2)]
          exact Nat.mod_eq_of_lt q
        · rw [lb_stay bs _ j k (by omega), lb_of bs _ j ([a, b, c, d].getD j 0) (8 * j + 8) (by omega) (Nat.le_refl _) (fun i h1 h2 => hdig i h1 (by omega) (by omega))]
          rw [show 8 * j + 8 - 8 * j = 8 by omega]
          apply Nat.mod_eq_of_lt
          have e8 : (256 : Nat) ^ 8 = 18446744073709551616 := by decide
          rw [e8]
          rcases (show j = 0 ∨ j = 1 ∨ j = 2 ∨ j = 3 by omega) with rfl | rfl | rfl | rfl
          · exact ha
          · exact hb
          · exact hc
          · exact hd
theorem read_num (n : Nat) (hn : n ≤ 9223372036854775807) (bs : List (BitVec 8)) (p k : Nat) (hk : k = nb n 0 0 0) (hl : p + (1 + k) ≤ bs.length) (hs : sub bs p (1 + k) = fm [n, 0, 0, 0] k) : at8 bs p = k ∧ nuE bs p = 0 ∧ nuW bs p = n := by
  have k8 : k ≤ 8 := by
    rw [hk]; unfold nb
    rw [if_neg (by simp), if_neg (by simp), if_neg (by simp)]
    split
    · exact bl_le n
    · omega
  obtain ⟨h1, h2, h3⟩ := read_form n 0 0 0 (by omega) (by decide) (by decide) (by decide) 8 bs p k hk k8 hl hs
  have e : nuW bs p = n := by
    unfold nuW
    rw [h1]; exact h3 0 (by decide)
  refine ⟨h1, ?_, e⟩
  unfold nuE
  rw [if_pos h2, e, if_neg (by omega)]

end Go.Proofs.Ytfommclhnfcioaa

namespace Go.Proofs.Ytfommclhnfcioaa
open Go Go.RowKit
open Sha

end Go.Proofs.Ytfommclhnfcioaa

namespace Go.Proofs.Ytfommclhnfcioaa
open Go Go.RowKit
open Sha

/-- A number's form. -/
def nf (n : Int) : List (BitVec 8) := fm [n.toNat, 0, 0, 0] (nb n.toNat 0 0 0)
/-- Four parts' form. -/
def wf (am : List Nat) : List (BitVec 8) := fm am (nb (am.getD 0 0) (am.getD 1 0) (am.getD 2 0) (am.getD 3 0))
theorem nf_len (n : Int) : (nf n).length ≤ 33 := by
  have := nb_le n.toNat 0 0 0
  unfold nf
  rw [fm_len]
  omega
theorem wf_len (am : List Nat) : (wf am).length ≤ 33 := by
  have := nb_le (am.getD 0 0) (am.getD 1 0) (am.getD 2 0) (am.getD 3 0)
  unfold wf
  rw [fm_len]
  omega
theorem wrB_in (bs d : List (BitVec 8)) (h : bs.length + d.length ≤ 4194304) : wrB bs 0 d = bs ++ d := by
  unfold wrB
  rw [if_pos rfl, if_pos h]
theorem wrF_in (bs d : List (BitVec 8)) (h : bs.length + d.length ≤ 4194304) : wrF bs 0 d = 0 := by
  unfold wrF
  rw [if_pos rfl, if_pos h]
theorem nuB_in (bs : List (BitVec 8)) (n : Int) (h0 : 0 ≤ n) (h : bs.length + (nf n).length ≤ 4194304) : nuB bs 0 n = bs ++ nf n := by
  unfold nuB
  rw [if_pos rfl, if_neg (by omega)]
  exact wrB_in bs (nf n) h
theorem nuF_in (bs : List (BitVec 8)) (n : Int) (h0 : 0 ≤ n) (h : bs.length + (nf n).length ≤ 4194304) : nuF bs 0 n = 0 := by
  unfold nuF
  rw [if_pos rfl, if_neg (by omega)]
  exact wrF_in bs (nf n) h

end Go.Proofs.Ytfommclhnfcioaa

namespace Go.Proofs.Ytfommclhnfcioaa
open Go Go.RowKit
open Sha

/-- A deposit's bytes. -/
def eb1 (sd : List (BitVec 8)) (tm tk : Int) (rc : List (BitVec 8)) (am : List Nat) (gs : Int) : List (BitVec 8) := [1#8] ++ sd ++ nf tm ++ nf tk ++ rc ++ wf am ++ nf gs
/-- A call's bytes. -/
def eb2 (sd : List (BitVec 8)) (tm : Int) (n : Nat) (d : List (BitVec 8)) : List (BitVec 8) := [2#8] ++ sd ++ nf tm ++ (fm [n, 0, 0, 0] (nb n 0 0 0) ++ d)

end Go.Proofs.Ytfommclhnfcioaa

namespace Go.Proofs.Ytfommclhnfcioaa
open Go Go.RowKit
open Sha

theorem sub_mid (p q r bs : List (BitVec 8)) (a n : Nat) (hb : bs = p ++ (q ++ r)) (ha : p.length = a) (hq : q.length = n) : sub bs a n = q ∧ a + n ≤ bs.length := by
  subst hb ha hq
  refine ⟨?_, by simp only [List.length_append]; omega⟩
  unfold sub
  rw [List.drop_left' rfl, List.take_left' rfl]
theorem at_adr (p r x bs : List (BitVec 8)) (a : Nat) (hb : bs = p ++ (x ++ r)) (ha : p.length = a) (hx : x.length = 20) : dgE 20 bs a = 0 ∧ sub bs a 20 = x := by
  obtain ⟨h1, h2⟩ := sub_mid p x r bs a 20 hb ha hx
  exact ⟨by unfold dgE; rw [if_neg (by omega)], h1⟩
theorem nf_size (n : Int) : (nf n).length = 1 + nb n.toNat 0 0 0 := by
  unfold nf
  rw [fm_len]
  omega
theorem at_num (p r bs : List (BitVec 8)) (n : Int) (a : Nat) (h0 : 0 ≤ n) (h1 : n < 9223372036854775808) (hb : bs = p ++ (nf n ++ r)) (ha : p.length = a) : nuE bs a = 0 ∧ ((nuW bs a : Nat) : Int) = n ∧ a + 1 + at8 bs a = a + (nf n).length := by
  have hl := nf_size n
  obtain ⟨s1, s2⟩ := sub_mid p (nf n) r bs a _ hb ha hl
  obtain ⟨k1, k2, k3⟩ := read_num n.toNat (by omega) bs a _ rfl s2 s1
  exact ⟨k2, by rw [k3]; omega, by rw [k1, hl]; omega⟩
theorem at_wide (p r bs : List (BitVec 8)) (am : List Nat) (a : Nat) (h4 : am.length = 4) (hq : ∀ x ∈ am, x < 18446744073709551616) (hb : bs = p ++ (wf am ++ r)) (ha : p.length = a) : hiF 32 bs a = 0 ∧ qd bs (a + 1 + at8 bs a) (at8 bs a) = vQ am ∧ a + 1 + at8 bs a = a + (wf am).length := by
  obtain ⟨m0, m1, m2, m3, rfl⟩ : ∃ m0 m1 m2 m3, am = [m0, m1, m2, m3] := by
    rcases am with _ | ⟨m0, _ | ⟨m1, _ | ⟨m2, _ | ⟨m3, _ | ⟨m4, r⟩⟩⟩⟩⟩
    all_goals first | exact ⟨_, _, _, _, rfl⟩ | (simp at h4)
  have hl : (wf [m0, m1, m2, m3]).length = 1 + nb m0 m1 m2 m3 := by
    show (fm [m0, m1, m2, m3] (nb m0 m1 m2 m3)).length = _
    rw [fm_len]
    omega
  obtain ⟨s1, s2⟩ := sub_mid p (wf [m0, m1, m2, m3]) r bs a _ hb ha hl
  obtain ⟨k1, k2, k3⟩ := read_form m0 m1 m2 m3 (hq _ (by simp)) (hq _ (by simp)) (hq _ (by simp)) (hq _ (by simp)) 32 bs a _ rfl (nb_le _ _ _ _) s2 s1
  refine ⟨k2, ?_, by rw [k1, hl]; omega⟩
  rw [k1]
  unfold qd
  rw [k3 0 (by decide), k3 1 (by decide), k3 2 (by decide), k3 3 (by decide)]
  rfl
theorem at_body (p r d bs : List (BitVec 8)) (n a : Nat) (hd : d.length = n) (hn : n ≤ 4096) (hb : bs = p ++ (fm [n, 0, 0, 0] (nb n 0 0 0) ++ d ++ r)) (ha : p.length = a) : cnE bs a 4096 = 0 ∧ nuW bs a = n ∧ sub bs (a + 1 + at8 bs a) n = d ∧ a + 1 + at8 bs a + n = a + (fm [n, 0, 0, 0] (nb n 0 0 0) ++ d).length := by
  have hl : (fm [n, 0, 0, 0] (nb n 0 0 0)).length = 1 + nb n 0 0 0 := by
    rw [fm_len]
    omega
  obtain ⟨s1, s2⟩ := sub_mid p (fm [n, 0, 0, 0] (nb n 0 0 0)) (d ++ r) bs a _ (by rw [hb, List.append_assoc]) ha hl
  obtain ⟨k1, k2, k3⟩ := read_num n (by omega) bs a _ rfl s2 s1
  obtain ⟨t1, t2⟩ := sub_mid (p ++ fm [n, 0, 0, 0] (nb n 0 0 0)) d r bs (a + 1 + nb n 0 0 0) n (by rw [hb, List.append_assoc, List.append_assoc]) (by rw [List.length_append, hl, ha]; omega) hd
  rw [k1, k3]
  refine ⟨?_, rfl, t1, by rw [List.length_append, hl, hd]; omega⟩
  unfold cnE
  rw [if_pos k2, k3, k1, if_neg (by omega), if_neg (by omega)]
theorem nuE_short {bs : List (BitVec 8)} {a : Nat} (h : nuE bs a = 0) : a < bs.length ∧ a + 1 + at8 bs a ≤ bs.length := by
  have h1 : hiF 8 bs a = 0 := by
    unfold nuE at h
    by_cases q : hiF 8 bs a = 0
    · exact q
    · rw [if_neg q] at h
      exact h
  unfold hiF at h1
  by_cases q1 : bs.length ≤ a
  · rw [if_pos q1] at h1
    cases h1
  by_cases q2 : 8 < at8 bs a
  · rw [if_neg q1, if_pos q2] at h1
    cases h1
  by_cases q3 : bs.length < a + 1 + at8 bs a
  · rw [if_neg q1, if_neg q2, if_pos q3] at h1
    cases h1
  omega
theorem cut_num (p bs : List (BitVec 8)) (n : Int) (a : Nat) (hb : bs = p ++ (nf n).take ((nf n).length - 1)) (ha : p.length = a) : ¬ nuE bs a = 0 := by
  intro h
  obtain ⟨h1, h2⟩ := nuE_short h
  have hl := nf_size n
  have hn := nb_le n.toNat 0 0 0
  have hbl : bs.length = a + nb n.toNat 0 0 0 := by
    rw [hb, List.length_append, List.length_take, ha, hl]
    omega
  have h8 : at8 bs a = nb n.toNat 0 0 0 := by
    obtain ⟨k, hk⟩ : ∃ k, nb n.toNat 0 0 0 = k + 1 := ⟨nb n.toNat 0 0 0 - 1, by omega⟩
    have e : (nf n).take ((nf n).length - 1) = BitVec.ofNat 8 (nb n.toNat 0 0 0) :: ((nf n).drop 1).take k := by
      rw [hl, show 1 + nb n.toNat 0 0 0 - 1 = k + 1 by omega]
      rfl
    unfold at8
    rw [hb, e, ← ha, List.getD_eq_getElem?_getD, List.getElem?_append_right (Nat.le_refl _), Nat.sub_self]
    show (BitVec.ofNat 8 (nb n.toNat 0 0 0)).toNat = _
    rw [BitVec.toNat_ofNat]
    exact Nat.mod_eq_of_lt (by omega)
  omega
theorem cut_body (p d bs : List (BitVec 8)) (n a : Nat) (hd : d.length = n) (hn : n ≤ 4096) (hb : bs = p ++ (fm [n, 0, 0, 0] (nb n 0 0 0) ++ d).take ((fm [n, 0, 0, 0] (nb n 0 0 0) ++ d).length - 1)) (ha : p.length = a) : ¬ cnE bs a 4096 = 0 := by
  intro h
  obtain ⟨h1, h2, h3⟩ := cnE_ok h
  have hl : (fm [n, 0, 0, 0] (nb n 0 0 0)).length = 1 + nb n 0 0 0 := by
    rw [fm_len]
    omega
  by_cases h0 : n = 0
  · subst h0
    obtain rfl := List.length_eq_zero_iff.1 hd
    refine cut_num p bs 0 a ?_ ha h1
    rw [hb, List.append_nil]
    rfl
  · have hbl : bs.length = a + nb n 0 0 0 + n := by
      rw [hb, List.length_append, List.length_take, List.length_append, ha, hl, hd]
      omega
    have e : (fm [n, 0, 0, 0] (nb n 0 0 0) ++ d).take ((fm [n, 0, 0, 0] (nb n 0 0 0) ++ d).length - 1) = fm [n, 0, 0, 0] (nb n 0 0 0) ++ d.take (n - 1) := by
      rw [List.take_append, List.length_append, hl, hd]
      congr 1
      · exact List.take_of_length_le (by rw [hl]; omega)
      · congr 1
        omega
    rw [e] at hb
    obtain ⟨s1, s2⟩ := sub_mid p _ _ bs a _ hb ha hl
    obtain ⟨k1, k2, k3⟩ := read_num n (by omega) bs a _ rfl s2 s1
    rw [k1, k3] at h3
    omega

end Go.Proofs.Ytfommclhnfcioaa

namespace Go.Proofs.Ytfommclhnfcioaa
open Go Go.RowKit
open Sha

section
variable {P : Program} {ops : Array Oper} {rest : List Oper} {op : Oper} {a : Act} {w : World} {Q : Exit → Act → World → Prop}
theorem wpList_storeL (hgd : op.guard = none) (ty : TypeId) (x y : Operand) (ho : op.op = .store ty x y) (b : Nat) (L M : List Value) (t : TypeId) (hx : a.eval x = .pointer (some ⟨b, 0, none⟩)) (hy : a.eval y = .agg L.toArray) (r : Row w b M t) (hl : L.length = M.length) (hi : (P.info? ty).map (·.size) = some L.length) (h1 : L.toArray.all (·.oneCell') = true)
    (h : ∀ X, X = w.setCells b 0 L → Row X b L t → wpList P ops Q rest (a.put op.dst undef) X) : wpList P ops Q (op :: rest) a w :=
  wpList_store_mid hgd ty x y ho b 0 L.toArray hx hy (r.there 0 _ (by rw [List.size_toArray, hl, Nat.zero_add]; exact Nat.le_refl _)) (by rw [hi, List.size_toArray]) h1 (h _ rfl (r.over hl))
theorem wpList_boxG (ty : TypeId) (hgd : op.guard = none) (x : Operand) (ho : op.op = .box ty x) (L : List Value) (hx : a.eval x = .agg L.toArray) (h : ∀ X, Row X w.heap.size L ty → Below w.heap.size w X → X.heap.size = w.heap.size + 1 → wpList P ops Q rest (a.put op.dst (.pointer (some ⟨w.heap.size, 0, none⟩))) X) : wpList P ops Q (op :: rest) a w :=
  wpList_plain hgd fun _ hK => by
    unfold Oper.wp execOp
    simp only [ho, hx]
    go_simp
    exact hK _ _ (h _ (Row.new' rfl rfl) ((Below.refl _ _).alloc (Nat.le_refl _) _) (by simp))
theorem wpList_set1 (hgd : op.guard = none) (ty : TypeId) (x y : Operand) (ho : op.op = .store ty x y)
    (b i : Nat) (v : Value) (cs : List Value) (t : TypeId) (hx : a.eval x = .pointer (some ⟨b, i, none⟩)) (hy : a.eval y = v) (hcs : v.cells = #[v]) (r : Row w b cs t) (hl : i < cs.length) (hi : (Try.prog.info? ty).map (·.size) = some 1) (h1 : v.oneCell' = true)
    (h : ∀ X, Row X b (cs.set i v) t → Gro (· = b) w X → X.heap.size = w.heap.size → wpList Try.prog ops Q rest (a.put op.dst undef) X) : wpList Try.prog ops Q (op :: rest) a w :=
  wpList_store1 hgd ty x y ho b i v hx hy hcs (r.there i 1 (by omega)) hi h1 (h _ (r.set i v) ((Gro.refl _ _).set b i v rfl) (by simp))
theorem gro_over {R : Nat → Prop} {w W : World} (h : Gro R w W) (b o : Nat) (vs : List Value) (hb : R b) : Gro R w (W.setCells b o vs) := by
  have q := below_setCells (Below.refl 0 W) (b := b) (o := o) (Nat.zero_le _) vs
  exact ⟨q.os.trans h.os, q.tape.trans h.tape, q.output.trans h.output, Nat.le_trans h.size q.size, fun k hk hn => (heap_sets W b o vs k (fun e => hn (e ▸ hb))).trans (h.block k hk hn)⟩
/-- Part of a struct, stored. -/
theorem wpList_storeM (hgd : op.guard = none) (ty : TypeId) (x y : Operand) (ho : op.op = .store ty x y) (b o : Nat) (vs cs : List Value) (t : TypeId) (hx : a.eval x = .pointer (some ⟨b, o, none⟩)) (hy : a.eval y = .agg vs.toArray) (r : Row w b cs t) (hl : o + vs.length ≤ cs.length) (hi : (Try.prog.info? ty).map (·.size) = some vs.length) (h1 : vs.toArray.all (·.oneCell') = true)
    (h : ∀ X, Row X b (cs.take o ++ vs ++ cs.drop (o + vs.length)) t → Gro (· = b) w X → wpList Try.prog ops Q rest (a.put op.dst undef) X) : wpList Try.prog ops Q (op :: rest) a w :=
  wpList_store_mid hgd ty x y ho b o vs.toArray hx hy (r.there o _ (by rw [List.size_toArray]; exact hl)) (by rw [hi, List.size_toArray]) h1 (h _ (Row.setCells o vs r hl) (gro_over (Gro.refl _ _) b o vs rfl))
end
theorem wm_new (w : World) : Calls Try.prog 35 #[] w fun e w' => e = .returned (.pointer (some ⟨w.heap.size, 0, none⟩)) ∧ Wm w w' w.heap.size [] :=
  (newWriter_any w).mono (fun _ _ ⟨q1, q2, q3⟩ => ⟨q1, none, 0, q2, (fun g e => by cases e), Nat.le_refl _, q3⟩)
theorem wm_byte (w0 : World) (P : Nat) (bs : List (BitVec 8)) (hl : bs.length ≤ 1000000) (x : BitVec 8) (y : Int) (hy : y = c x) (w : World) (hm : Wm w0 w P bs) : Calls Try.prog 36 #[.pointer (some ⟨P, 0, none⟩), .int .u8 y] w fun e w' => e = .returned (.tuple #[]) ∧ Wm w0 w' P (bs ++ [x]) := by
  obtain ⟨A, cap, hw, hf, hP, hB⟩ := hm
  refine (byte_any P A cap bs 0 (by omega) x y hy w hw).mono ?_
  rintro e w' ⟨rfl, hq⟩
  exact ⟨rfl, Wm.lays hf hP hB hq (wrB_in _ _ (by simp; omega)) (wrF_in _ _ (by simp; omega))⟩
theorem wm_number (w0 : World) (P : Nat) (bs : List (BitVec 8)) (hl : bs.length ≤ 1000000) (n : Int) (h0 : 0 ≤ n) (h1 : n < 9223372036854775808) (w : World) (hm : Wm w0 w P bs) : Calls Try.prog 37 #[.pointer (some ⟨P, 0, none⟩), .int .i64 n] w fun e w' => e = .returned (.tuple #[]) ∧ Wm w0 w' P (bs ++ nf n) := by
  obtain ⟨A, cap, hw, hf, hP, hB⟩ := hm
  refine (number_any P A cap bs 0 n h1 (by omega) w _ rfl hw).mono ?_
  rintro e w' ⟨rfl, ⟨A', cap', hw', hff⟩, hG⟩
  have hS : bs.length + (nf n).length ≤ 4194304 := by have := nf_len n; omega
  rw [nuB_in bs n h0 hS, nuF_in bs n h0 hS] at hw'
  rw [nuB_in bs n h0 hS] at hff
  exact ⟨rfl, Wm.on hf hP hB hw' hff hG⟩
theorem wm_wide (w0 : World) (P : Nat) (bs : List (BitVec 8)) (hl : bs.length ≤ 1000000) (am : List Nat) (ham : am.length = 4) (hq4 : ∀ x ∈ am, x < 18446744073709551616) (w : World) (hm : Wm w0 w P bs) : Calls Try.prog 75 #[.pointer (some ⟨P, 0, none⟩), .agg (vQ am).toArray] w fun e w' => e = .returned (.tuple #[]) ∧ Wm w0 w' P (bs ++ wf am) := by
  obtain ⟨A, cap, hw, hf, hP, hB⟩ := hm
  obtain ⟨m0, m1, m2, m3, rfl⟩ : ∃ m0 m1 m2 m3, am = [m0, m1, m2, m3] := by
    rcases am with _ | ⟨m0, _ | ⟨m1, _ | ⟨m2, _ | ⟨m3, _ | ⟨m4, r⟩⟩⟩⟩⟩
    all_goals first | exact ⟨_, _, _, _, rfl⟩ | (simp at ham)
  have hS : bs.length + (wf [m0, m1, m2, m3]).length ≤ 4194304 := by have := wf_len [m0, m1, m2, m3]; omega
  refine (wide_any P A cap bs 0 m0 m1 m2 m3 (hq4 _ (by simp)) (hq4 _ (by simp)) (hq4 _ (by simp)) (hq4 _ (by simp)) _ rfl (by omega) w _ rfl hw).mono ?_
  rintro e w' ⟨rfl, hq, hG⟩
  exact ⟨rfl, Wm.lays hf hP hB (d := wf [m0, m1, m2, m3]) ⟨hq, hG⟩ (wrB_in _ _ hS) (wrF_in _ _ hS)⟩
theorem wm_done (w0 : World) (P : Nat) (bs : List (BitVec 8)) (hl : bs.length ≤ 1000000) (w : World) (hm : Wm w0 w P bs) : Calls Try.prog 39 #[.pointer (some ⟨P, 0, none⟩)] w fun e w' => ∃ A cap, e = .returned (.tuple #[.slice A bs.length cap, .int .i64 0]) ∧ Bw w' (.slice A bs.length cap) bs ∧ Fresh w0.heap.size (.slice A bs.length cap) ∧ Below w0.heap.size w0 w' := by
  obtain ⟨A, cap, hw, hf, hP, hB⟩ := hm
  refine (done_ok P A cap bs (by omega) w hw).mono ?_
  rintro e w' ⟨A', cap', q1, q2, q3, q4⟩
  exact ⟨A', cap', q1, q2, q3.more hB.size, hB.trans (q4.mono hB.size)⟩
theorem Wm.be {w0 w w' : World} {P : Nat} {bs : List (BitVec 8)} (h : Wm w0 w P bs) (k : Below w.heap.size w w') : Wm w0 w' P bs := by
  obtain ⟨A, cap, hw, hf, hP, hB⟩ := h
  exact ⟨A, cap, hw.be k, hf, hP, hB.trans (k.mono hB.size)⟩

end Go.Proofs.Ytfommclhnfcioaa
