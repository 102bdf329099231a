/-
  wide.takeAway.
-/
import Derived.Test.YtlfhncfngnnpeaaWCut
import Derived.Test.YtlfhncfngnnpeaaWShf
import Derived.Test.YtlfhncfngnnpeaaWDvN

namespace Go.Proofs.Ytlfhncfngnnpeaa
open Go Go.RowKit
open Wd

end Go.Proofs.Ytlfhncfngnnpeaa

namespace Go.Proofs.Ytlfhncfngnnpeaa
open Go Go.RowKit
open Wd
namespace Wd
/-- What holds at round t. -/
structure Tk (R Y q k n t : Nat) (l : List Nat) (c b : Nat) : Prop where
  len : l.length = 9
  lt : ∀ x ∈ l, x < 18446744073709551616
  cl : c < 18446744073709551616
  bl : b ≤ 1
  top : ∀ j, k + n + 1 ≤ j → l.getD j 0 = 0
  sum : num l + q * (Y % 18446744073709551616 ^ t) * 18446744073709551616 ^ k = R + (c + b) * 18446744073709551616 ^ (k + t)
theorem get_lt (l : List Nat) (k : Nat) (h : ∀ x ∈ l, x < 18446744073709551616) : l.getD k 0 < 18446744073709551616 := by
  by_cases hk : k < l.length
  · rw [List.getD_eq_getElem?_getD, List.getElem?_eq_getElem hk]; exact h _ (List.getElem_mem _)
  · rw [List.getD_eq_getElem?_getD, List.getElem?_eq_none (by omega)]; decide
theorem pow_le (a b : Nat) (h : a ≤ b) : 18446744073709551616 ^ a ≤ 18446744073709551616 ^ b := Nat.pow_le_pow_right (by decide) h
theorem lim_above (R j m : Nat) (h : R < 18446744073709551616 ^ m) (hj : m ≤ j) : lim R j = 0 := by
  rw [lim_pow, Nat.div_eq_of_lt (Nat.lt_of_lt_of_le h (pow_le _ _ hj))]
theorem Tk.start (R Y q k n : Nat) (hk : k + n ≤ 8) (hR : R < 18446744073709551616 ^ (k + n + 1)) : Tk R Y q k n 0 (dgs R 9) 0 0 := by
  refine ⟨dgs_length _ _, all_dgs _ _, by decide, by decide, fun j hj => ?_, ?_⟩
  · by_cases h9 : j < 9
    · rw [dgs_getD _ _ _ h9, lim_above R j _ hR hj]
    · rw [List.getD_eq_getElem?_getD, List.getElem?_eq_none (by rw [dgs_length]; omega)]; rfl
  · rw [num_dgs' R 9 (Nat.lt_of_lt_of_le hR (pow_le _ _ (by omega)))]; simp [Nat.mod_one]
theorem sub_eq (x lo b : Nat) (hx : x < 18446744073709551616) (hl : lo < 18446744073709551616) (hb : b ≤ 1) : (x + 18446744073709551616 - lo - b) % 18446744073709551616 + lo + b = x + (if x < lo + b then 1 else 0) * 18446744073709551616 := by
  split <;> omega
theorem set_top (l : List Nat) (i v m : Nat) (hi : i < m) (h : ∀ j, m ≤ j → l.getD j 0 = 0) : ∀ j, m ≤ j → (l.set i v).getD j 0 = 0 := fun j hj => by
  rw [List.getD_eq_getElem?_getD, List.getElem?_set_ne (by omega), ← List.getD_eq_getElem?_getD]; exact h j hj
theorem Tk.step {R Y q k n t : Nat} {l : List Nat} {c b : Nat} (h : Tk R Y q k n t l c b) (hq : q < 18446744073709551616) (ht : t < n) (hk : k + n ≤ 8) :
    Tk R Y q k n (t + 1) (l.set (k + t) ((l.getD (k + t) 0 + 18446744073709551616 - (lim Y t * q + c) % 18446744073709551616 - b) % 18446744073709551616)) ((lim Y t * q + c) / 18446744073709551616) (if l.getD (k + t) 0 < (lim Y t * q + c) % 18446744073709551616 + b then 1 else 0) := by
  have hy := lim_lt Y t
  refine ⟨by rw [List.length_set]; exact h.len, set_all _ _ _ h.lt (Nat.mod_lt _ (by decide)), ?_, by split <;> omega, set_top _ _ _ _ (by omega) h.top, ?_⟩
  · have := h.cl
    have h1 : lim Y t * q ≤ 18446744073709551615 * 18446744073709551615 := Nat.mul_le_mul (by omega) (by omega)
    refine Nat.div_lt_of_lt_mul ?_
    omega
  · exact take_step l R Y q c b k t _ _ _ _ _ (by rw [h.len]; omega) rfl h.sum (by rw [Nat.mul_comm (_ / _)]; exact (Nat.div_add_mod _ _).symm) (sub_eq _ _ _ (get_lt _ _ h.lt) (Nat.mod_lt _ (by decide)) h.bl)
theorem Tk.last {R Y q k n : Nat} {l : List Nat} {c b : Nat} (h : Tk R Y q k n n l c b) (hY : Y < 18446744073709551616 ^ n) (hk : k + n ≤ 8) :
    ((if l.getD (k + n) 0 < c + b then 1 else 0 : Nat) = 0 ↔ q * Y * 18446744073709551616 ^ k ≤ R) ∧ (q * Y * 18446744073709551616 ^ k ≤ R → l.set (k + n) ((l.getD (k + n) 0 + 18446744073709551616 - c - b) % 18446744073709551616) = dgs (R - q * Y * 18446744073709551616 ^ k) 9) := by
  have hs := take_last l R Y q c b k n _ _ _ (by rw [h.len]; omega) rfl hY h.sum (sub_eq _ _ _ (get_lt _ _ h.lt) h.cl h.bl)
  have hall := set_all l (k + n) ((l.getD (k + n) 0 + 18446744073709551616 - c - b) % 18446744073709551616) h.lt (Nat.mod_lt _ (by decide))
  have hX := num_top _ (k + n + 1) hall (set_top l (k + n) _ (k + n + 1) (by omega) h.top)
  have he := take_enough _ R (q * Y * 18446744073709551616 ^ k) _ k n (by split <;> omega) hX hs
  refine ⟨he.1, fun hle => ?_⟩
  have hd := dgs_num _ hall
  rw [List.length_set, h.len, he.2 (he.1.2 hle)] at hd
  exact hd.symm
end Wd

end Go.Proofs.Ytlfhncfngnnpeaa
