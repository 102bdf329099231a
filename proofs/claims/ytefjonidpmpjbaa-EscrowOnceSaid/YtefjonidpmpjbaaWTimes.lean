/-
  wide.times.
-/
import Derived.Test.YtefjonidpmpjbaaWMul0
namespace Go.Proofs.Ytefjonidpmpjbaa
open Go Go.RowKit
open Wd
namespace Wd

theorem num_set : ∀ (l : List Nat) (k v : Nat), k < l.length → num (l.set k v) + l.getD k 0 * 18446744073709551616 ^ k = num l + v * 18446744073709551616 ^ k
  | [], k, v, h => by simp at h
  | x :: r, 0, v, _ => by simp [num]; omega
  | x :: r, k + 1, v, h => by
    have ih := num_set r k v (by simpa using h)
    simp only [List.set_cons_succ, num, List.getD_cons_succ, Nat.pow_succ]
    generalize num (r.set k v) = A at *
    generalize num r = C at *
    generalize r.getD k 0 = p at *
    generalize 18446744073709551616 ^ k = q at *
    grind
/-- Eight parts, those from t on noughts. -/
structure Pt (l : List Nat) (t : Nat) : Prop where
  len : l.length = 8
  lt : ∀ x ∈ l, x < 18446744073709551616
  top : ∀ k, t ≤ k → l.getD k 0 = 0
theorem mod_more (a t : Nat) : a % 18446744073709551616 ^ (t + 1) = a % 18446744073709551616 ^ t + lim a t * 18446744073709551616 ^ t := by
  unfold lim
  rw [show 2 ^ (64 * t) = 18446744073709551616 ^ t by rw [Nat.pow_mul], Nat.pow_succ, Nat.mod_mul]
  rw [Nat.mul_comm]
theorem mem_set_lt (l : List Nat) (k v : Nat) (h : ∀ x ∈ l, x < 18446744073709551616) (hv : v < 18446744073709551616) : ∀ x ∈ l.set k v, x < 18446744073709551616 := by
  intro x hx
  rcases List.mem_or_eq_of_mem_set hx with h1 | h1
  · exact h x h1
  · omega
theorem Pt.set {l : List Nat} {t : Nat} (h : Pt l t) (k v : Nat) (hk : k < t) (hv : v < 18446744073709551616) : Pt (l.set k v) t :=
  ⟨by rw [List.length_set]; exact h.len, mem_set_lt l k v h.lt hv, fun j hj => by
    rw [List.getD_eq_getElem?_getD, List.getElem?_set_ne (by omega), ← List.getD_eq_getElem?_getD]; exact h.top j hj⟩
theorem getD_lt (l : List Nat) (k : Nat) (h : ∀ x ∈ l, x < 18446744073709551616) : l.getD k 0 < 18446744073709551616 := by
  by_cases hk : k < l.length
  · rw [List.getD_eq_getElem?_getD, List.getElem?_eq_getElem hk]; exact h _ (List.getElem_mem _)
  · rw [List.getD_eq_getElem?_getD, List.getElem?_eq_none (by omega)]; decide

/-- One product more. -/
theorem times_step (l : List Nat) (c x y S k : Nat) (hl : k < l.length) (hlt : ∀ x ∈ l, x < 18446744073709551616) (hx : x < 18446744073709551616) (hy : y < 18446744073709551616) (hc : c < 18446744073709551616) (hS : num l + c * 18446744073709551616 ^ k = S) :
    (x * y + c) / 18446744073709551616 + (l.getD k 0 + (x * y + c) % 18446744073709551616) / 18446744073709551616 < 18446744073709551616 ∧
    num (l.set k ((l.getD k 0 + (x * y + c) % 18446744073709551616) % 18446744073709551616)) + ((x * y + c) / 18446744073709551616 + (l.getD k 0 + (x * y + c) % 18446744073709551616) / 18446744073709551616) * 18446744073709551616 ^ (k + 1) = S + x * y * 18446744073709551616 ^ k := by
  have hp := getD_lt l k hlt
  have hm : x * y ≤ 18446744073709551615 * 18446744073709551615 := Nat.mul_le_mul (by omega) (by omega)
  have hs := num_set l k ((l.getD k 0 + (x * y + c) % 18446744073709551616) % 18446744073709551616) hl
  generalize l.getD k 0 = p at *
  generalize hm' : x * y = m at *
  obtain ⟨hi, hhi⟩ : ∃ hi, hi = (m + c) / 18446744073709551616 := ⟨_, rfl⟩
  obtain ⟨lo, hlo⟩ : ∃ lo, lo = (m + c) % 18446744073709551616 := ⟨_, rfl⟩
  obtain ⟨ov, hov⟩ : ∃ ov, ov = (p + (m + c) % 18446744073709551616) / 18446744073709551616 := ⟨_, rfl⟩
  obtain ⟨sm, hsm⟩ : ∃ sm, sm = (p + (m + c) % 18446744073709551616) % 18446744073709551616 := ⟨_, rfl⟩
  have e1 : hi + ov < 18446744073709551616 := by omega
  have e2 : sm + (hi + ov) * 18446744073709551616 = p + m + c := by omega
  rw [← hsm] at hs
  rw [← hhi, ← hov, ← hsm]
  refine ⟨e1, ?_⟩
  rw [Nat.pow_succ]
  generalize num (l.set k sm) = A at *
  generalize num l = C at *
  generalize 18446744073709551616 ^ k = q at *
  generalize hi + ov = h at *
  have e3 : sm * q + h * (q * 18446744073709551616) = (p + m + c) * q := by rw [← e2]; grind
  have e4 : (p + m + c) * q = p * q + m * q + c * q := by grind
  omega
theorem Pt.zero : Pt (List.replicate 8 0) 4 := ⟨rfl, fun x hx => by rw [List.eq_of_mem_replicate hx]; decide, fun k _ => by
  rw [List.getD_eq_getElem?_getD, List.getElem?_replicate]; split <;> rfl⟩
theorem Pt.more {l : List Nat} {t : Nat} (h : Pt l t) : Pt l (t + 1) := ⟨h.len, h.lt, fun k hk => h.top k (by omega)⟩
theorem num_zero8 : num (List.replicate 8 0) = 0 := by decide
end Wd

end Go.Proofs.Ytefjonidpmpjbaa
