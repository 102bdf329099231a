/-
  What a text of decimal digits says, without a bound on the way.
-/
import Derived.Test.YtehccmlbnfhhmabDoorWRtM
import Derived.Test.YtehccmlbnfhhmabDoorWText
namespace Go.Proofs.YtehccmlbnfhhmabDoor
open Go
namespace Wd
open Go.Lib (decDigits nDigits dg)

def val : List Nat → Nat → Nat
  | [], a => a
  | c :: r, a => val r (10 * a + (c - 48))
theorem val_append : ∀ (l r : List Nat) (a : Nat), val (l ++ r) a = val r (val l a)
  | [], _, _ => rfl
  | _ :: l, r, _ => val_append l r _
theorem val_ge : ∀ (l : List Nat) (a : Nat), a ≤ val l a
  | [], _ => Nat.le_refl _
  | c :: l, a => Nat.le_trans (by omega) (val_ge l (10 * a + (c - 48)))
theorem pars_val : ∀ (l : List Nat) (a : Nat), (∀ c ∈ l, ¬ (c < 48 ∨ 57 < c)) → a < 2 ^ 256 → pars l a = if val l a < 2 ^ 256 then some (val l a) else none
  | [], _, _, ha => (if_pos ha).symm
  | c :: r, a, h, ha => by
    rw [show pars (c :: r) a = if c < 48 ∨ 57 < c then none else if 10 * a + (c - 48) < 2 ^ 256 then pars r (10 * a + (c - 48)) else none from rfl, show val (c :: r) a = val r (10 * a + (c - 48)) from rfl]
    rw [if_neg (h c List.mem_cons_self)]
    by_cases h1 : 10 * a + (c - 48) < 2 ^ 256
    · rw [if_pos h1]
      exact pars_val r _ (fun x hx => h x (List.mem_cons_of_mem _ hx)) h1
    · have := val_ge r (10 * a + (c - 48))
      rw [if_neg h1, if_neg (by omega)]
theorem pars_bad : ∀ (l : List Nat) (a : Nat), (∃ c ∈ l, c < 48 ∨ 57 < c) → pars l a = none
  | [], _, h => by obtain ⟨c, hc, _⟩ := h; cases hc
  | x :: r, a, h => by
    simp only [pars]
    by_cases hx : x < 48 ∨ 57 < x
    · rw [if_pos hx]
    · rw [if_neg hx]
      split
      · obtain ⟨c, hc, hb⟩ := h
        rcases List.mem_cons.1 hc with rfl | hc
        · exact absurd hb hx
        · exact pars_bad r _ ⟨c, hc, hb⟩
      · rfl
theorem parse_long (l : List Nat) (h : 78 < l.length) : parse l = none := by
  cases hp : parse l with
  | none => rfl
  | some m =>
    obtain ⟨h1, h2⟩ := parse_back l m hp
    have h3 : (nums m).length = nDigits m := by unfold nums; rw [List.length_map, Lib.decDigits_length]
    rw [h2] at h3
    have := nd_few m h1
    omega
theorem val_lt : ∀ (l : List Nat) (a : Nat), (∀ c ∈ l, ¬ (c < 48 ∨ 57 < c)) → val l a < (a + 1) * 10 ^ l.length
  | [], a, _ => by simp [val]
  | c :: r, a, h => by
    have hc := h c List.mem_cons_self
    have h1 := val_lt r (10 * a + (c - 48)) (fun x hx => h x (List.mem_cons_of_mem _ hx))
    simp only [val]
    refine Nat.lt_of_lt_of_le h1 ?_
    rw [List.length_cons, Nat.pow_succ, Nat.mul_comm (10 ^ r.length) 10, ← Nat.mul_assoc]
    exact Nat.mul_le_mul_right _ (by omega)
theorem blen_val (l : List Nat) (t : Nat) (ht : t ≤ 78) (hl : t ≤ l.length) (h : ∀ c ∈ l.take t, ¬ (c < 48 ∨ 57 < c)) : blen (val (l.take t) 0) ≤ 260 := by
  have h1 := val_lt (l.take t) 0 h
  rw [Nat.zero_add, Nat.one_mul, List.length_take, Nat.min_eq_left hl] at h1
  exact blen_le _ 260 (Nat.lt_of_lt_of_le h1 (Nat.le_trans (Nat.pow_le_pow_right (by decide) ht) (by decide +kernel)))
theorem blen_ten (m : Nat) : blen (m * 10) ≤ blen m + 4 := by
  refine blen_le _ _ ?_
  rw [Nat.pow_add]
  have := blen_lt m
  omega
theorem take_more (l : List Nat) (t : Nat) (h : t < l.length) : l.take (t + 1) = l.take t ++ [l.getD t 0] := by
  rw [List.take_succ_eq_append_getElem h]
  simp [h]
theorem val_more (l : List Nat) (t : Nat) (h : t < l.length) : val (l.take (t + 1)) 0 = val (l.take t) 0 * 10 + (l.getD t 0 - 48) := by
  rw [take_more l t h, val_append]
  simp only [val]
  omega
theorem ok_more (l : List Nat) (t : Nat) (h : t < l.length) (h1 : ∀ c ∈ l.take t, ¬ (c < 48 ∨ 57 < c)) (h2 : ¬ (l.getD t 0 < 48 ∨ 57 < l.getD t 0)) : ∀ c ∈ l.take (t + 1), ¬ (c < 48 ∨ 57 < c) := by
  intro c hc
  rw [take_more l t h] at hc
  rcases List.mem_append.1 hc with hc | hc
  · exact h1 c hc
  · rw [List.mem_singleton.1 hc]; exact h2
end Wd

end Go.Proofs.YtehccmlbnfhhmabDoor
