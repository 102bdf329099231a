/-
  A number's decimal digits, the lowest first, and how they are doubled by hand.
-/
import Derived.Test.YtehccmlbnfhhmabDoorWOM
import Derived.Test.YtehccmlbnfhhmabDoorWCutM
namespace Go.Proofs.YtehccmlbnfhhmabDoor
open Go
namespace Wd
open Go.Lib (decDigits nDigits dg)

def dt (v k : Nat) : Nat := v / 10 ^ k % 10
def dts (v n : Nat) : List Nat := (List.range n).map (dt v)
theorem dts_length (v n : Nat) : (dts v n).length = n := by simp [dts]
theorem dts_getD (v n i : Nat) (h : i < n) : (dts v n).getD i 0 = dt v i := by simp [dts, h]
theorem dts_succ (v n : Nat) : dts v (n + 1) = dts v n ++ [dt v n] := by simp [dts, List.range_succ]
theorem dt_lt (v k : Nat) : dt v k < 10 := Nat.mod_lt _ (by decide)

/-- The list on the way: its first k digits are doubled. -/
def mix (v u k n : Nat) : List Nat := dts u k ++ (dts v n).drop k
theorem mix_length (v u k n : Nat) (h : k ≤ n) : (mix v u k n).length = n := by simp [mix, dts_length]; omega
theorem mix_getD (v u k n : Nat) (h : k < n) : (mix v u k n).getD k 0 = dt v k := by
  unfold mix
  rw [List.getD_eq_getElem?_getD, List.getElem?_append_right (by rw [dts_length]; exact Nat.le_refl _), dts_length, Nat.sub_self, List.getElem?_drop, Nat.add_zero, ← List.getD_eq_getElem?_getD, dts_getD v n k h]
theorem mix_zero (v u n : Nat) : mix v u 0 n = dts v n := by simp [mix, dts]
theorem mix_all (v u n : Nat) : mix v u n n = dts u n := by simp [mix, dts]
theorem mix_set (v u k n : Nat) (h : k < n) : (mix v u k n).set k (dt u k) = mix v u (k + 1) n := by
  unfold mix
  rw [List.set_append_right _ _ (by rw [dts_length]; exact Nat.le_refl _), dts_length, Nat.sub_self, dts_succ, List.append_assoc]
  congr 1
  have e := List.drop_eq_getElem_cons (l := dts v n) (i := k) (by rw [dts_length]; exact h)
  rw [e]
  rfl

/-- What is carried to the k-th digit. -/
def cy (v b k : Nat) : Nat := (2 * (v % 10 ^ k) + b) / 10 ^ k
theorem cy_zero (v b : Nat) : cy v b 0 = b := by simp [cy, Nat.mod_one]
theorem cy_le (v b k : Nat) (hb : b < 2) : cy v b k ≤ 1 := by
  unfold cy
  have hp : 0 < 10 ^ k := Nat.pow_pos (by decide)
  have := Nat.mod_lt v hp
  exact Nat.le_of_lt_succ ((Nat.div_lt_iff_lt_mul hp).2 (by omega))
theorem cy_div (v b k : Nat) : (2 * v + b) / 10 ^ k = 2 * (v / 10 ^ k) + cy v b k := by
  unfold cy
  have hp : 0 < 10 ^ k := Nat.pow_pos (by decide)
  have e : 2 * v + b = 10 ^ k * (2 * (v / 10 ^ k)) + (2 * (v % 10 ^ k) + b) := by
    have := Nat.div_add_mod v (10 ^ k)
    have h2 : 10 ^ k * (2 * (v / 10 ^ k)) = 2 * (10 ^ k * (v / 10 ^ k)) := by grind
    omega
  rw [e, Nat.mul_add_div hp]
theorem cy_digit (v b k : Nat) : (2 * dt v k + cy v b k) % 10 = dt (2 * v + b) k := by
  unfold dt
  rw [cy_div]
  omega
theorem cy_succ (v b k : Nat) : (2 * dt v k + cy v b k) / 10 = cy v b (k + 1) := by
  have h1 := cy_div v b (k + 1)
  rw [Nat.pow_succ, ← Nat.div_div_eq_div_mul, ← Nat.div_div_eq_div_mul, cy_div v b k] at h1
  unfold dt
  generalize v / 10 ^ k = x at *
  generalize cy v b k = c at *
  generalize cy v b (k + 1) = c1 at *
  omega
theorem cy_end (v b n : Nat) (h : v < 10 ^ n) : cy v b n = (2 * v + b) / 10 ^ n := by
  unfold cy
  rw [Nat.mod_eq_of_lt h]

theorem pow_le_nDigits (u : Nat) : nDigits u = 1 ∨ 10 ^ (nDigits u - 1) ≤ u := by
  induction u using Nat.strongRecOn with
  | _ u ih =>
    by_cases h : u < 10
    · exact .inl (Lib.nDigits_small h)
    · right
      rw [Lib.nDigits_big h, Nat.add_sub_cancel]
      rcases ih (u / 10) (by omega) with h1 | h1
      · rw [h1]; omega
      · have hp := Lib.nDigits_pos (u / 10)
        rw [show nDigits (u / 10) = nDigits (u / 10) - 1 + 1 by omega, Nat.pow_succ]
        omega
/-- As many digits as before, or one more. -/
theorem nd_same (v b : Nat) (h : cy v b (nDigits v) = 0) : nDigits (2 * v + b) = nDigits v := by
  rw [cy_end v b _ (Lib.lt_pow_nDigits v)] at h
  have hp : 0 < 10 ^ nDigits v := Nat.pow_pos (by decide)
  have hu : 2 * v + b < 10 ^ nDigits v := by
    rcases Nat.div_eq_zero_iff.1 h with h0 | h0
    · omega
    · exact h0
  rcases pow_le_nDigits v with h1 | h1
  · rw [h1] at hu ⊢
    exact Lib.nDigits_small (by simpa using hu)
  · have hd := Lib.nDigits_pos v
    obtain ⟨k, hk⟩ : ∃ k, nDigits v = k + 1 := ⟨nDigits v - 1, by omega⟩
    rw [hk] at hu h1 ⊢
    exact Lib.nDigits_unique k _ (by rw [Nat.add_sub_cancel] at h1; omega) hu
theorem nd_more (v b : Nat) (hb : b < 2) (h : cy v b (nDigits v) ≠ 0) : nDigits (2 * v + b) = nDigits v + 1 ∧ dt (2 * v + b) (nDigits v) = cy v b (nDigits v) := by
  have hc := cy_le v b (nDigits v) hb
  have hv := Lib.lt_pow_nDigits v
  have e := cy_end v b _ hv
  have hp : 0 < 10 ^ nDigits v := Nat.pow_pos (by decide)
  refine ⟨Lib.nDigits_unique _ _ ?_ ?_, ?_⟩
  · refine Nat.le_of_not_lt fun hlt => ?_
    rw [e, Nat.div_eq_of_lt hlt] at h
    exact h rfl
  · rw [Nat.pow_succ]; omega
  · unfold dt
    rw [← e]
    omega
theorem half_step (a t : Nat) : a / 2 ^ t = 2 * (a / 2 ^ (t + 1)) + bt a t := by
  unfold bt
  rw [Nat.pow_succ, ← Nat.div_div_eq_div_mul]
  omega
theorem nd_few (v : Nat) (h : v < 2 ^ 256) : nDigits v ≤ 78 := nDigits_le 78 v (by decide) (Nat.lt_trans h (by decide))

/-- The text's bytes, from the last one on. -/
def tx (a k : Nat) : List Nat := ((dts a k).map (48 + ·)).reverse
theorem tx_length (a k : Nat) : (tx a k).length = k := by simp [tx, dts_length]
theorem tx_succ (a k : Nat) : tx a (k + 1) = (48 + dt a k) :: tx a k := by simp [tx, dts_succ]
theorem tx_fill (a k n : Nat) (h : k < n) : (List.replicate (n - k) 0 ++ tx a k).set (n - 1 - k) (48 + dt a k) = List.replicate (n - (k + 1)) 0 ++ tx a (k + 1) := by
  rw [tx_succ, show n - k = (n - (k + 1)) + 1 by omega, List.replicate_succ', List.append_assoc, List.set_append_right _ _ (by simp; omega)]
  rw [show n - 1 - k - (List.replicate (n - (k + 1)) 0).length = 0 by simp; omega]
  rfl
theorem tx_text (a : Nat) : (decDigits a).map UInt8.toNat = tx a (nDigits a) := by
  rw [Lib.decDigits_eq]
  apply List.ext_getElem
  · simp [tx_length]
  · intro i h1 h2
    simp only [List.length_map, List.length_range] at h1
    simp only [tx, List.getElem_map, List.getElem_range, List.getElem_reverse, List.length_map, List.length_range, dts]
    unfold dg dt
    rw [UInt8.toNat_ofNat']
    have := Nat.mod_lt (a / 10 ^ (nDigits a - 1 - i)) (show 0 < 10 by decide)
    rw [Nat.mod_eq_of_lt (by omega)]
end Wd

end Go.Proofs.YtehccmlbnfhhmabDoor
