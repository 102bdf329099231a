/-
  Mathematics of wide.cutDigits and wide.Text: the last nineteen digits, and those ahead of them. Nothing of the program.
-/
import Derived.Test.YtclbiophgnkggaaGreatDoorWNum
import Derived.Lib.ItoaNum
namespace Go.Proofs.YtclbiophgnkggaaGreatDoor
open Go
namespace Wd
open Go.Lib (decDigits nDigits dg)

/-- What Div64 is handed above part t. -/
def lw (a t : Nat) : Nat := a / 2 ^ (64 * t) % 10000000000000000000
theorem lw_lt (a t : Nat) : lw a t < 10000000000000000000 := Nat.mod_lt _ (by decide)
theorem lw_four (a : Nat) (ha : a < 2 ^ 256) : lw a 4 = 0 := by
  unfold lw; rw [Nat.div_eq_of_lt (by simpa using ha)]
theorem lw_zero (a : Nat) : lw a 0 = a % 10000000000000000000 := by simp [lw]
theorem cut_step (a t : Nat) : (lw a (t + 1) * 18446744073709551616 + lim a t) / 10000000000000000000 = lim (a / 10000000000000000000) t ∧ (lw a (t + 1) * 18446744073709551616 + lim a t) % 10000000000000000000 = lw a t := by
  unfold lw lim
  rw [Nat.div_div_eq_div_mul a 10000000000000000000, Nat.mul_comm 10000000000000000000 (2 ^ (64 * t)), ← Nat.div_div_eq_div_mul a (2 ^ (64 * t)) 10000000000000000000]
  rw [show 64 * (t + 1) = 64 * t + 64 by omega, Nat.pow_add, ← Nat.div_div_eq_div_mul, show (2 : Nat) ^ 64 = 18446744073709551616 from rfl]
  generalize a / 2 ^ (64 * t) = A
  omega
theorem down_get (q a t : Nat) : (dgs a (t + 1) ++ (dgs q 4).drop (t + 1)).getD t 0 = lim a t := by
  rw [List.getD_eq_getElem?_getD, List.getElem?_append_left (by rw [dgs_length]; omega), dgs_get a (t + 1) t (by omega)]; rfl
theorem down_set (q a t : Nat) (h : t < 4) : (dgs a (t + 1) ++ (dgs q 4).drop (t + 1)).set t (lim q t) = dgs a t ++ (dgs q 4).drop t := by
  rw [dgs_succ a t, List.append_assoc, List.set_append_right _ _ (by rw [dgs_length]; exact Nat.le_refl _), dgs_length, Nat.sub_self, List.singleton_append, List.set_cons_zero, List.drop_eq_getElem_cons (l := dgs q 4) (i := t) (by rw [dgs_length]; exact h)]
  congr 2
  simp [dgs]
theorem down_length (q a t : Nat) (h : t ≤ 4) : (dgs a t ++ (dgs q 4).drop t).length = 4 := by
  rw [List.length_append, List.length_drop, dgs_length, dgs_length]; omega

/-! ### The numeral -/
/-- The digits of v in k places. -/
def padk (k v : Nat) : List UInt8 := (List.range k).map fun t => dg v (k - 1 - t)
theorem padk_succ (k v : Nat) : padk (k + 1) v = padk k (v / 10) ++ [UInt8.ofNat (48 + v % 10)] := by
  unfold padk
  rw [List.range_succ, List.map_append]
  congr 1
  · apply List.map_congr_left
    intro t ht
    have := List.mem_range.1 ht
    rw [show k + 1 - 1 - t = (k - 1 - t) + 1 by omega, Lib.dg_succ]
  · simp [dg]
theorem decDigits_big {u : Nat} (h : ¬ u < 10) : decDigits u = decDigits (u / 10) ++ [UInt8.ofNat (48 + u % 10)] := by rw [decDigits, dif_neg h]
/-- A numeral of more than k digits: those ahead, and the last k. -/
theorem dec_cut : ∀ (k u : Nat), 10 ^ k ≤ u → decDigits u = decDigits (u / 10 ^ k) ++ padk k (u % 10 ^ k)
  | 0, u, _ => by simp [padk]
  | k + 1, u, h => by
    have hp : 1 ≤ 10 ^ k := Nat.pow_pos (by decide)
    rw [Nat.pow_succ] at h
    have h10 : ¬ u < 10 := by omega
    have hk : 10 ^ k ≤ u / 10 := by omega
    rw [decDigits_big h10, dec_cut k (u / 10) hk, padk_succ, List.append_assoc]
    have e1 : u / 10 / 10 ^ k = u / 10 ^ (k + 1) := by rw [Nat.div_div_eq_div_mul, Nat.pow_succ, Nat.mul_comm]
    have e2 : u % 10 ^ (k + 1) / 10 = u / 10 % 10 ^ k := by
      rw [Nat.pow_succ, Nat.mul_comm, Nat.mod_mul, Nat.add_mul_div_left _ _ (by decide)]
      omega
    have e3 : u % 10 ^ (k + 1) % 10 = u % 10 := Nat.mod_mod_of_dvd _ ⟨10 ^ k, by rw [Nat.pow_succ, Nat.mul_comm]⟩
    rw [e1, e2, e3]
theorem dg_zero (u j : Nat) (h : u < 10 ^ j) : dg u j = 48 := by
  unfold dg; rw [Nat.div_eq_of_lt h]; rfl
/-- Noughts ahead of a numeral fill it up. -/
theorem pad_eq (k v : Nat) (h : nDigits v ≤ k) : List.replicate (k - nDigits v) 48 ++ decDigits v = padk k v := by
  rw [Lib.decDigits_eq]
  unfold padk
  apply List.ext_getElem?
  intro i
  by_cases h1 : i < k - nDigits v
  · rw [List.getElem?_append_left (by simpa using h1)]
    have h2 : i < k := by omega
    simp only [List.getElem?_replicate, h1, if_true, List.getElem?_map, List.getElem?_range h2, Option.map_some]
    rw [dg_zero v _ (Nat.lt_of_lt_of_le (Lib.lt_pow_nDigits v) (Nat.pow_le_pow_right (by decide) (by omega)))]
  · rw [List.getElem?_append_right (by simpa using h1)]
    rw [List.length_replicate]
    by_cases h2 : i < k
    · rw [List.getElem?_map, List.getElem?_map, List.getElem?_range (by omega), List.getElem?_range h2]
      simp only [Option.map_some]
      rw [show nDigits v - 1 - (i - (k - nDigits v)) = k - 1 - i by omega]
    · rw [List.getElem?_eq_none (by simp; omega), List.getElem?_eq_none (by simp; omega)]
theorem nDigits_le (k v : Nat) (hk : 1 ≤ k) (h : v < 10 ^ k) : nDigits v ≤ k := by
  induction k generalizing v with
  | zero => omega
  | succ k ih =>
    by_cases h10 : v < 10
    · rw [Lib.nDigits_small h10]; omega
    · rw [Lib.nDigits_big h10]
      rw [Nat.pow_succ] at h
      have h1 : v / 10 < 10 ^ k := by omega
      have hk1 : 1 ≤ k := by
        rcases Nat.eq_zero_or_pos k with e | e
        · subst e; simp at h; omega
        · exact e
      have := ih (v / 10) hk1 h1
      omega
/-- One step of Text. -/
theorem text_cut (u : Nat) (h : 10000000000000000000 ≤ u) : decDigits u = decDigits (u / 10000000000000000000) ++ (List.replicate (19 - (decDigits (u % 10000000000000000000)).length) 48 ++ decDigits (u % 10000000000000000000)) := by
  have e := dec_cut 19 u (by simpa using h)
  rw [Lib.decDigits_length, pad_eq 19 _ (nDigits_le 19 _ (by decide) (by have := Nat.mod_lt u (show 0 < 10000000000000000000 by decide); simpa using this))]
  simpa using e

end Wd
end Go.Proofs.YtclbiophgnkggaaGreatDoor
