/-
  Plain mathematics: numbers by parts of 64 bits. Nothing of the program.
-/
import Derived.WalkKit
namespace Go.Proofs.YtclbiophgnkggaaGreatDoor
open Go
namespace Wd

/-- Part i of a number. -/
def lim (n i : Nat) : Nat := n / 2 ^ (64 * i) % 18446744073709551616
/-- Its first k parts, the lowest first. -/
def dgs (n k : Nat) : List Nat := (List.range k).map (lim n)
/-- The number of parts. -/
def num : List Nat → Nat
  | [] => 0
  | x :: r => x + 18446744073709551616 * num r

theorem lim_lt (n i : Nat) : lim n i < 18446744073709551616 := Nat.mod_lt _ (by decide)
theorem dgs_length (n k : Nat) : (dgs n k).length = k := by simp [dgs]
theorem dgs_succ (n k : Nat) : dgs n (k + 1) = dgs n k ++ [lim n k] := by simp [dgs, List.range_succ]
theorem dgs_get (n k i : Nat) (h : i < k) : (dgs n k)[i]? = some (lim n i) := by simp [dgs, h]
theorem dgs_getD (n k i : Nat) (h : i < k) : (dgs n k).getD i 0 = lim n i := by simp [dgs, h]
theorem dgs_zero (k : Nat) : dgs 0 k = List.replicate k 0 := by
  induction k with
  | zero => rfl
  | succ k ih => rw [dgs_succ, ih, List.replicate_succ']; simp [lim]

theorem lim_cons (x n i : Nat) (hx : x < 18446744073709551616) : lim (x + 18446744073709551616 * n) (i + 1) = lim n i := by
  unfold lim
  rw [show 64 * (i + 1) = 64 + 64 * i by omega, Nat.pow_add, ← Nat.div_div_eq_div_mul]
  rw [show (2 : Nat) ^ 64 = 18446744073709551616 from rfl, show (x + 18446744073709551616 * n) / 18446744073709551616 = n by omega]
theorem lim_zero (x n : Nat) (hx : x < 18446744073709551616) : lim (x + 18446744073709551616 * n) 0 = x := by
  unfold lim; simp; omega
theorem dgs_cons (x n k : Nat) (hx : x < 18446744073709551616) : dgs (x + 18446744073709551616 * n) (k + 1) = x :: dgs n k := by
  unfold dgs
  rw [List.range_succ_eq_map, List.map_cons, List.map_map, lim_zero x n hx]
  congr 1
  apply List.map_congr_left
  intro i _
  exact lim_cons x n i hx
theorem dgs_num : ∀ (l : List Nat), (∀ x ∈ l, x < 18446744073709551616) → dgs (num l) l.length = l
  | [], _ => rfl
  | x :: r, h => by
    have ih := dgs_num r (fun y hy => h y (List.mem_cons_of_mem _ hy))
    rw [List.length_cons]
    simp only [num]
    rw [dgs_cons x _ _ (h x List.mem_cons_self), ih]
theorem num_lt : ∀ (l : List Nat), (∀ x ∈ l, x < 18446744073709551616) → num l < 2 ^ (64 * l.length)
  | [], _ => by simp [num]
  | x :: r, h => by
    have hx := h x List.mem_cons_self
    have ih := num_lt r (fun y hy => h y (List.mem_cons_of_mem _ hy))
    rw [List.length_cons, show 64 * (r.length + 1) = 64 + 64 * r.length by omega, Nat.pow_add]
    simp only [num]
    rw [show (2 : Nat) ^ 64 = 18446744073709551616 from rfl]
    have : num r + 1 ≤ 2 ^ (64 * r.length) := ih
    have := Nat.mul_le_mul_left 18446744073709551616 this
    omega
theorem num_dgs (n k : Nat) : num (dgs n k) = n % 2 ^ (64 * k) := by
  induction k generalizing n with
  | zero => simp [dgs, num, Nat.mod_one]
  | succ k ih =>
    have e : dgs n (k + 1) = lim n 0 :: dgs (n / 18446744073709551616) k := by
      unfold dgs
      rw [List.range_succ_eq_map, List.map_cons, List.map_map]
      congr 1
      apply List.map_congr_left
      intro i _
      show lim n (i + 1) = lim (n / 18446744073709551616) i
      unfold lim
      rw [show 64 * (i + 1) = 64 + 64 * i by omega, Nat.pow_add, ← Nat.div_div_eq_div_mul]
    rw [e]
    simp only [num]
    rw [ih, show 64 * (k + 1) = 64 + 64 * k by omega, Nat.pow_add, Nat.mod_mul]
    unfold lim
    simp

/-! ### Sums and differences -/
def car (a b t : Nat) : Nat := (a % 2 ^ (64 * t) + b % 2 ^ (64 * t)) / 2 ^ (64 * t)
def bor (a b t : Nat) : Nat := if a % 2 ^ (64 * t) < b % 2 ^ (64 * t) then 1 else 0
theorem car_zero (a b : Nat) : car a b 0 = 0 := by simp [car, Nat.mod_one]
theorem bor_zero (a b : Nat) : bor a b 0 = 0 := by simp [bor, Nat.mod_one]
theorem car_le (a b t : Nat) : car a b t ≤ 1 := by
  unfold car
  have hp : 0 < 2 ^ (64 * t) := Nat.two_pow_pos _
  have h1 := Nat.mod_lt a hp
  have h2 := Nat.mod_lt b hp
  exact Nat.le_of_lt_succ (Nat.div_lt_of_lt_mul (by omega))
theorem bor_le (a b t : Nat) : bor a b t ≤ 1 := by unfold bor; split <;> omega
theorem add_step (a b t : Nat) (h : t < 4) : (lim a t + lim b t + car a b t) % 18446744073709551616 = lim (a + b) t ∧ (lim a t + lim b t + car a b t) / 18446744073709551616 = car a b (t + 1) := by
  match t, h with
  | 0, _ => simp only [lim, car, Nat.reduceMul, Nat.reducePow, Nat.reduceAdd]; omega
  | 1, _ => simp only [lim, car, Nat.reduceMul, Nat.reducePow, Nat.reduceAdd]; omega
  | 2, _ => simp only [lim, car, Nat.reduceMul, Nat.reducePow, Nat.reduceAdd]; omega
  | 3, _ => simp only [lim, car, Nat.reduceMul, Nat.reducePow, Nat.reduceAdd]; omega
theorem car_four (a b : Nat) (ha : a < 2 ^ 256) (hb : b < 2 ^ 256) : car a b 4 = if a + b < 2 ^ 256 then 0 else 1 := by
  simp only [car, Nat.reduceMul, Nat.reducePow] at *; split <;> omega
theorem sub_step (a b t : Nat) (h : t < 4) : (lim a t + 18446744073709551616 - lim b t - bor a b t) % 18446744073709551616 = lim (a + 2 ^ 256 - b % 2 ^ 256) t ∧ (if lim a t < lim b t + bor a b t then 1 else 0) = bor a b (t + 1) := by
  match t, h with
  | 0, _ => simp only [lim, bor, Nat.reduceMul, Nat.reducePow, Nat.reduceAdd, Nat.mod_one, Nat.lt_irrefl, if_false]; constructor <;> (repeat' split) <;> omega
  | 1, _ => simp only [lim, bor, Nat.reduceMul, Nat.reducePow, Nat.reduceAdd]; constructor <;> (repeat' split) <;> omega
  | 2, _ => simp only [lim, bor, Nat.reduceMul, Nat.reducePow, Nat.reduceAdd]; constructor <;> (repeat' split) <;> omega
  | 3, _ => simp only [lim, bor, Nat.reduceMul, Nat.reducePow, Nat.reduceAdd]; constructor <;> (repeat' split) <;> omega
theorem bor_four (a b : Nat) (ha : a < 2 ^ 256) (hb : b < 2 ^ 256) : bor a b 4 = if a < b then 1 else 0 := by
  simp only [bor, Nat.reduceMul, Nat.reducePow] at *
  rw [Nat.mod_eq_of_lt ha, Nat.mod_eq_of_lt hb]

theorem dgs_top (n : Nat) : dgs (n + 2 ^ 256) 4 = dgs n 4 := by
  have e : ∀ i, i < 4 → lim (n + 2 ^ 256) i = lim n i := fun i hi => by
    match i, hi with
    | 0, _ => simp only [lim, Nat.reduceMul, Nat.reducePow]; omega
    | 1, _ => simp only [lim, Nat.reduceMul, Nat.reducePow]; omega
    | 2, _ => simp only [lim, Nat.reduceMul, Nat.reducePow]; omega
    | 3, _ => simp only [lim, Nat.reduceMul, Nat.reducePow]; omega
  unfold dgs
  apply List.map_congr_left
  intro i hi
  exact e i (List.mem_range.1 hi)
/-- What the calls answer. -/
def addR (a b : Nat) : Nat := if a + b < 2 ^ 256 then a + b else 0
def addE (a b : Nat) : Int := if a + b < 2 ^ 256 then 0 else 22
def subR (a b : Nat) : Nat := if a < b then 0 else a - b
def subE (a b : Nat) : Int := if a < b then 23 else 0
def mulR (a b : Nat) : Nat := if a * b < 2 ^ 256 then a * b else 0
def mulE (a b : Nat) : Int := if a * b < 2 ^ 256 then 0 else 22
def cmpR (a b : Nat) : Int := if a = b then 0 else if a < b then -1 else 1

/-! ### In slots and cells -/
def vQ (l : List Nat) : List Value := l.map (fun (x : Nat) => Value.int .u64 (x : Int))
theorem vQ_length (l : List Nat) : (vQ l).length = l.length := by simp [vQ]
theorem vQ_append (l r : List Nat) : vQ (l ++ r) = vQ l ++ vQ r := by simp [vQ]
theorem vQ_get (l : List Nat) (i : Nat) (h : i < l.length) : (vQ l)[i]? = some (.int .u64 ((l.getD i 0 : Nat) : Int)) := by
  simp [vQ, h]
theorem vQ_set (l : List Nat) (i : Nat) (x : Nat) : (vQ l).set i (.int .u64 (x : Int)) = vQ (l.set i x) := by simp [vQ, List.map_set]
theorem vQ_one (l : List Nat) : ∀ v ∈ vQ l, v.oneCell' = true := by
  intro v hv; simp only [vQ, List.mem_map] at hv; obtain ⟨x, _, rfl⟩ := hv; rfl
theorem fill (l : List Nat) (k n x : Nat) (hl : l.length = k) (h : k < n) : (l ++ List.replicate (n - k) 0).set k x = (l ++ [x]) ++ List.replicate (n - (k + 1)) 0 := by
  rw [List.set_append_right _ _ (by omega), show n - k = (n - (k + 1)) + 1 by omega, List.replicate_succ]
  simp [hl]

end Wd
end Go.Proofs.YtclbiophgnkggaaGreatDoor
