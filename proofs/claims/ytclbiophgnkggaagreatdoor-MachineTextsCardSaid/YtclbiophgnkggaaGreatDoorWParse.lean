/-
  wide.Parse.
-/
import Derived.Test.YtclbiophgnkggaaGreatDoorWCmp
import Derived.Lib.Strings

namespace Go.Proofs.YtclbiophgnkggaaGreatDoor
open Go Go.RowKit
open Wd
namespace Wd
def pc (a d t : Nat) : Nat := (10 * (a % 2 ^ (64 * t)) + d) / 2 ^ (64 * t)
theorem pc_zero (a d : Nat) : pc a d 0 = d := by simp [pc, Nat.mod_one]
theorem pc_lt (a d t : Nat) (hd : d < 256) : pc a d t < 18446744073709551616 := by
  unfold pc
  have hp : 0 < 2 ^ (64 * t) := Nat.two_pow_pos _
  have h1 := Nat.mod_lt a hp
  refine Nat.div_lt_of_lt_mul ?_
  have h2 : 2 ^ (64 * t) * 266 ≤ 2 ^ (64 * t) * 18446744073709551616 := Nat.mul_le_mul_left _ (by decide)
  have h3 : 1 ≤ 2 ^ (64 * t) := hp
  have h4 : 256 ≤ 2 ^ (64 * t) * 256 := Nat.le_mul_of_pos_left _ hp
  generalize 2 ^ (64 * t) = q at *
  generalize a % q = r at *
  omega
theorem put_step (a d t : Nat) (h : t < 4) : (lim a t * 10 + pc a d t) % 18446744073709551616 = lim (10 * a + d) t ∧ (lim a t * 10 + pc a d t) / 18446744073709551616 = pc a d (t + 1) := by
  match t, h with
  | 0, _ => simp only [lim, pc, Nat.reduceMul, Nat.reducePow, Nat.reduceAdd]; omega
  | 1, _ => simp only [lim, pc, Nat.reduceMul, Nat.reducePow, Nat.reduceAdd]; omega
  | 2, _ => simp only [lim, pc, Nat.reduceMul, Nat.reducePow, Nat.reduceAdd]; omega
  | 3, _ => simp only [lim, pc, Nat.reduceMul, Nat.reducePow, Nat.reduceAdd]; omega
theorem pc_four (a d : Nat) (ha : a < 2 ^ 256) : pc a d 4 = (10 * a + d) / 2 ^ 256 := by
  simp only [pc, Nat.reduceMul]; rw [Nat.mod_eq_of_lt ha]
theorem mid_set (n a t : Nat) (h : t < 4) : (dgs n t ++ (dgs a 4).drop t).set t (lim n t) = dgs n (t + 1) ++ (dgs a 4).drop (t + 1) := by
  rw [List.set_append_right _ _ (by rw [dgs_length]; exact Nat.le_refl _), dgs_length, Nat.sub_self, List.drop_eq_getElem_cons (by rw [dgs_length]; exact h), List.set_cons_zero, dgs_succ n t, List.append_assoc]
  rfl
theorem mid_get (n a t : Nat) (h : t < 4) : (dgs n t ++ (dgs a 4).drop t).getD t 0 = lim a t := by
  rw [List.getD_eq_getElem?_getD, List.getElem?_append_right (by rw [dgs_length]; exact Nat.le_refl _), dgs_length, Nat.sub_self, List.getElem?_drop, Nat.add_zero, dgs_get a 4 t h]; rfl
theorem mid_length (n a t : Nat) (h : t ≤ 4) : (dgs n t ++ (dgs a 4).drop t).length = 4 := by
  rw [List.length_append, List.length_drop, dgs_length, dgs_length]; omega
end Wd

end Go.Proofs.YtclbiophgnkggaaGreatDoor

namespace Go.Proofs.YtclbiophgnkggaaGreatDoor
open Go Go.RowKit
open Wd
namespace Wd
/-- Digits behind a number. -/
def pars : List Nat → Nat → Option Nat
  | [], a => some a
  | c :: r, a => if c < 48 ∨ 57 < c then none else if 10 * a + (c - 48) < 2 ^ 256 then pars r (10 * a + (c - 48)) else none
/-- What a text says. -/
def parse (l : List Nat) : Option Nat := if l = [] ∨ (l.getD 0 0 = 48 ∧ 1 < l.length) then none else pars l 0
def ansR (o : Option Nat) : Nat := o.getD 0
def ansE (o : Option Nat) : Int := if o.isSome then 0 else 21
end Wd

/-- s has the bytes l. -/
structure StrN (s : ByteArray) (l : List Nat) : Prop where
  size : s.size = l.length
  lt : ∀ x ∈ l, x < 256
  at' : ∀ i (h : i < s.size), s[i].toNat = l.getD i 0

theorem idx_run {s : ByteArray} {l : List Nat} (hs : StrN s l) (i : Nat) (hi : i < l.length) (w : World) : (Instr.index 9 (.string s) (.int .i64 (i : Int))).run Tryz.prog w = .ok (.int .u8 ((l.getD i 0 : Nat) : Int)) w := by
  have hr := run_index_string (P := Tryz.prog) w 9 s .i64 (i : Int) Tryz.underlying9
  have hsz := hs.size
  rw [dif_pos (by omega)] at hr
  rw [hr]
  have := hs.at' i (by omega)
  simp only [Int.toNat_natCast]
  rw [← this]

theorem four (n : Nat) : dgs n 4 = [lim n 0, lim n 1, lim n 2, lim n 3] := rfl

end Go.Proofs.YtclbiophgnkggaaGreatDoor
