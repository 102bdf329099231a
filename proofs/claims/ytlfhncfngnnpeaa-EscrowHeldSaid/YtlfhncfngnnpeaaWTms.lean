/-
  causewayref02.times.
-/
import Derived.Test.YtlfhncfngnnpeaaWDgM
import Derived.Test.YtlfhncfngnnpeaaWLess

namespace Go.Proofs.Ytlfhncfngnnpeaa
open Go
namespace Wd
/-- The number of a list of columns. -/
def bnum : List Nat → Nat
  | [] => 0
  | x :: r => x + 2 * bnum r
theorem bset : ∀ (l : List Nat) (k v : Nat), k < l.length → bnum (l.set k v) + l.getD k 0 * 2 ^ k = bnum l + v * 2 ^ k
  | [], k, v, h => by simp at h
  | x :: r, 0, v, _ => by simp [bnum]; omega
  | x :: r, k + 1, v, h => by
    have ih := bset r k v (by simpa using h)
    simp only [List.set_cons_succ, bnum, List.getD_cons_succ, Nat.pow_succ]
    generalize bnum (r.set k v) = A at *
    generalize bnum r = C at *
    generalize r.getD k 0 = p at *
    generalize 2 ^ k = q at *
    grind
theorem bnum_zero (n : Nat) : bnum (List.replicate n 0) = 0 := by
  induction n with
  | zero => rfl
  | succ n ih => rw [List.replicate_succ]; simp [bnum, ih]
theorem bt_cons (x n i : Nat) (h : x < 2) : bt (x + 2 * n) (i + 1) = bt n i := by
  unfold bt
  rw [show i + 1 = 1 + i by omega, Nat.pow_add, ← Nat.div_div_eq_div_mul, show (x + 2 * n) / 2 ^ 1 = n by omega]
theorem bits_of : ∀ (l : List Nat), (∀ k, l.getD k 0 < 2) → bts (bnum l) l.length = l
  | [], _ => rfl
  | x :: r, h => by
    have hx : x < 2 := by simpa using h 0
    have ih := bits_of r (fun k => by simpa using h (k + 1))
    unfold bts at ih ⊢
    rw [List.length_cons, List.range_succ_eq_map, List.map_cons, List.map_map]
    simp only [bnum]
    congr 1
    · unfold bt; simp; omega
    · rw [← ih]
      rw [List.length_map, List.length_range]
      apply List.map_congr_left
      intro i _
      rw [ih]
      exact bt_cons x (bnum r) i hx
theorem col_le : ∀ (l : List Nat) (k : Nat), l.getD k 0 * 2 ^ k ≤ bnum l
  | [], k => by simp
  | x :: r, 0 => by simp [bnum]
  | x :: r, k + 1 => by
    have ih := col_le r k
    simp only [List.getD_cons_succ, bnum, Nat.pow_succ]
    generalize r.getD k 0 = p at *
    generalize bnum r = C at *
    generalize 2 ^ k = q at *
    have : p * (q * 2) = 2 * (p * q) := by grind
    omega
theorem getD_set_same (l : List Nat) (k v : Nat) (h : k < l.length) : (l.set k v).getD k 0 = v := by simp [h]
theorem getD_set_ne (l : List Nat) (k j v : Nat) (h : k ≠ j) : (l.set k v).getD j 0 = l.getD j 0 := by
  rw [List.getD_eq_getElem?_getD, List.getElem?_set_ne h, ← List.getD_eq_getElem?_getD]
/-- While columns are counted. -/
structure Tm (L P Bd : Nat) (l : List Nat) : Prop where
  len : l.length = L
  sum : bnum l = P
  bd : ∀ k, l.getD k 0 ≤ Bd
theorem Tm.start (L : Nat) : Tm L 0 0 (List.replicate L 0) :=
  ⟨by simp, bnum_zero L, fun k => by
    rw [List.getD_eq_getElem?_getD, List.getElem?_replicate]; split <;> simp⟩
theorem Tm.more {L P Bd : Nat} {l : List Nat} (h : Tm L P Bd l) (Bd' : Nat) (hb : Bd ≤ Bd') : Tm L P Bd' l := ⟨h.len, h.sum, fun k => Nat.le_trans (h.bd k) hb⟩
theorem Tm.add {L P Bd : Nat} {l : List Nat} (h : Tm L P Bd l) (k y : Nat) (hk : k < L) (hy : y ≤ 1) : Tm L (P + y * 2 ^ k) (Bd + 1) (l.set k (l.getD k 0 + y)) := by
  refine ⟨by rw [List.length_set]; exact h.len, ?_, fun j => ?_⟩
  · have := bset l k (l.getD k 0 + y) (by rw [h.len]; exact hk)
    rw [h.sum, Nat.add_mul] at this
    omega
  · by_cases e : k = j
    · subst e
      rw [getD_set_same _ _ _ (by rw [h.len]; exact hk)]
      have := h.bd k; omega
    · rw [getD_set_ne _ _ _ _ e]; have := h.bd j; omega
theorem inner_sum (P b i j : Nat) : P + 2 ^ i * (b % 2 ^ j) + bt b j * 2 ^ (i + j) = P + 2 ^ i * (b % 2 ^ (j + 1)) := by
  rw [mod_bit, Nat.pow_add]; grind
theorem outer_zero (a b i : Nat) (h : bt a i = 0) : (a % 2 ^ (i + 1)) * b = (a % 2 ^ i) * b := by
  rw [mod_bit, h]; simp
theorem outer_one (a b i : Nat) (h : bt a i = 1) : (a % 2 ^ (i + 1)) * b = (a % 2 ^ i) * b + 2 ^ i * b := by
  rw [mod_bit, h]; grind
/-- While they are carried on. -/
structure Cy (L m Bd t : Nat) (l : List Nat) : Prop where
  len : l.length = L
  sum : bnum l = m
  bd : ∀ k, l.getD k 0 ≤ 2 * Bd
  up : ∀ k, t < k → l.getD k 0 ≤ Bd
  lo : ∀ k, k < t → l.getD k 0 < 2
theorem Cy.start {L m Bd : Nat} {l : List Nat} (h : Tm L m Bd l) : Cy L m Bd 0 l := ⟨h.len, h.sum, fun k => by have := h.bd k; omega, fun k _ => h.bd k, fun k hk => by omega⟩
theorem Cy.step {L m Bd t : Nat} {l : List Nat} (h : Cy L m Bd t l) (ht : t + 1 < L) :
    Cy L m Bd (t + 1) ((l.set (t + 1) (l.getD (t + 1) 0 + l.getD t 0 / 2)).set t (l.getD t 0 % 2)) := by
  have hl := h.len
  have b1 := h.bd t
  have b2 := h.up (t + 1) (by omega)
  refine ⟨by rw [List.length_set, List.length_set]; exact hl, ?_, fun k => ?_, fun k hk => ?_, fun k hk => ?_⟩
  · have e1 := bset l (t + 1) (l.getD (t + 1) 0 + l.getD t 0 / 2) (by omega)
    have e2 := bset (l.set (t + 1) (l.getD (t + 1) 0 + l.getD t 0 / 2)) t (l.getD t 0 % 2) (by rw [List.length_set]; omega)
    rw [getD_set_ne _ _ _ _ (by omega)] at e2
    rw [← h.sum]
    have e3 := Nat.div_add_mod (l.getD t 0) 2
    generalize bnum ((l.set (t + 1) (l.getD (t + 1) 0 + l.getD t 0 / 2)).set t (l.getD t 0 % 2)) = X at *
    generalize bnum (l.set (t + 1) (l.getD (t + 1) 0 + l.getD t 0 / 2)) = Y at *
    generalize bnum l = Z at *
    generalize l.getD (t + 1) 0 = u at *
    generalize l.getD t 0 = v at *
    rw [Nat.pow_succ] at e1
    generalize 2 ^ t = q at *
    have e4 : (u + v / 2) * (q * 2) = u * (q * 2) + 2 * (v / 2) * q := by grind
    have e5 : v * q = 2 * (v / 2) * q + v % 2 * q := by rw [← Nat.add_mul]; rw [e3]
    omega
  · by_cases e : t = k
    · subst e
      rw [getD_set_same _ _ _ (by rw [List.length_set]; omega)]
      have := Nat.mod_le (l.getD t 0) 2; omega
    · rw [getD_set_ne _ _ _ _ e]
      by_cases e' : t + 1 = k
      · subst e'; rw [getD_set_same _ _ _ (by omega)]; omega
      · rw [getD_set_ne _ _ _ _ e']; exact h.bd k
  · rw [getD_set_ne _ _ _ _ (by omega), getD_set_ne _ _ _ _ (by omega)]
    exact h.up k (by omega)
  · by_cases e : t = k
    · subst e
      rw [getD_set_same _ _ _ (by rw [List.length_set]; omega)]
      exact Nat.mod_lt _ (by decide)
    · rw [getD_set_ne _ _ _ _ e, getD_set_ne _ _ _ _ (by omega)]
      exact h.lo k (by omega)
theorem Cy.done {L m Bd t : Nat} {l : List Nat} (h : Cy L m Bd t l) (ht : t + 1 = L) (hm : m < 2 ^ t) : l = bts m L := by
  have h1 := bits_of l (fun k => by
    rcases Nat.lt_or_ge k t with hk | hk
    · exact h.lo k hk
    · rcases Nat.eq_or_lt_of_le hk with e | hk
      · subst e
        have := col_le l t
        rw [h.sum] at this
        have h2 : l.getD t 0 * 2 ^ t < 1 * 2 ^ t := by omega
        have := Nat.lt_of_mul_lt_mul_right h2
        omega
      · rw [List.getD_eq_getElem?_getD, List.getElem?_eq_none (by rw [h.len]; omega)]; decide)
  rw [h.sum, h.len] at h1
  exact h1.symm
end Wd
end Go.Proofs.Ytlfhncfngnnpeaa

namespace Go.Proofs.Ytlfhncfngnnpeaa
open Go Go.RowKit
open Wd

end Go.Proofs.Ytlfhncfngnnpeaa
