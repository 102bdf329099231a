/-
  Roots, paths and checks of three leaves; what a path comes to.
-/
import Derived.Test.YtnogjhbohljjnabDoorTPthA
namespace Go.Proofs.YtnogjhbohljjnabDoor
open Go Go.RowKit
open Sha

theorem fpart_two : fpart 2 = 1 := by decide
theorem fpart_three : fpart 3 = 2 := by decide

/-- A leaf's own path leads to the root. -/
theorem rb_pt (n : Nat) : ∀ (i : Nat) (ps : List (List (BitVec 8))), ps.length = n → i < n → n < 4611686018427387904 → rb n i (ps.getD i []) (pt i ps) = rt ps := by
  induction n using Nat.strongRecOn with
  | ind n ih =>
    intro i ps hn hi hl
    by_cases e : n = 1
    · subst e
      obtain rfl : i = 0 := by omega
      rw [rb_one, rt_one ps hn]
    · have h2 : 2 ≤ n := by omega
      have hb := fpart_bounds n h2 hl
      have hp := fpart_pos n
      have t1 : (ps.take (fpart n)).length = fpart n := by rw [List.length_take]; omega
      have t2 : (ps.drop (fpart n)).length = n - fpart n := by rw [List.length_drop]; omega
      have hr := rt_many ps (by omega) (by omega)
      rw [hn] at hr
      by_cases hk : i < fpart n
      · have e2 : (ps.take (fpart n)).getD i [] = ps.getD i [] := by simp [List.getD_eq_getElem?_getD, hk]
        rw [pt_left i n ps hn h2 hl hk, rb_left n i _ _ _ h2 hl hk, hr, ← e2, ih (fpart n) hb.1 i _ t1 hk (by omega)]
      · have e2 : (ps.drop (fpart n)).getD (i - fpart n) [] = ps.getD i [] := by
          simp only [List.getD_eq_getElem?_getD, List.getElem?_drop]
          rw [show fpart n + (i - fpart n) = i by omega]
        rw [pt_right i n ps hn h2 hl hk, rb_right n i _ _ _ h2 hl hk, hr, ← e2, ih (n - fpart n) (by omega) (i - fpart n) _ t2 (by omega) (by omega)]

theorem rt_1 (a : List (BitVec 8)) : rt [a] = dig ([0#8] ++ a) := rt_one [a] rfl
theorem rt_2 (a b : List (BitVec 8)) : rt [a, b] = dig ([1#8] ++ (dig ([0#8] ++ a) ++ dig ([0#8] ++ b))) := by
  rw [rt_many [a, b] (by simp) (by simp)]
  simp only [List.length_cons, List.length_nil, Nat.zero_add, Nat.reduceAdd, fpart_two, List.take_succ_cons, List.take_zero, List.drop_succ_cons, List.drop_zero]
  rw [rt_1, rt_1]
theorem rt_3 (a b c : List (BitVec 8)) : rt [a, b, c] = dig ([1#8] ++ (dig ([1#8] ++ (dig ([0#8] ++ a) ++ dig ([0#8] ++ b))) ++ dig ([0#8] ++ c))) := by
  rw [rt_many [a, b, c] (by simp) (by simp)]
  simp only [List.length_cons, List.length_nil, Nat.zero_add, Nat.reduceAdd, fpart_three, List.take_succ_cons, List.take_zero, List.drop_succ_cons, List.drop_zero]
  rw [rt_1, rt_2]
theorem pt_2 (a b : List (BitVec 8)) : pt 1 [a, b] = [dig ([0#8] ++ a)] := by
  rw [pt_right 1 2 [a, b] rfl (by decide) (by decide) (by rw [fpart_two]; decide)]
  simp only [fpart_two, List.take_succ_cons, List.take_zero, List.drop_succ_cons, List.drop_zero, Nat.sub_self]
  rw [pt_one 0 [b] rfl, rt_1]
  rfl
theorem pt_3 (a b c : List (BitVec 8)) : pt 1 [a, b, c] = [dig ([0#8] ++ a), dig ([0#8] ++ c)] := by
  rw [pt_left 1 3 [a, b, c] rfl (by decide) (by decide) (by rw [fpart_three]; decide)]
  simp only [fpart_three, List.take_succ_cons, List.take_zero, List.drop_succ_cons, List.drop_zero]
  rw [pt_2, rt_1]
  rfl
theorem rb_3 (lf d e : List (BitVec 8)) : rb 3 1 lf [d, e] = dig ([1#8] ++ (dig ([1#8] ++ (d ++ dig ([0#8] ++ lf))) ++ e)) := by
  rw [show [d, e] = [d] ++ [e] from rfl, rb_left 3 1 lf e [d] (by decide) (by decide) (by rw [fpart_three]; decide), fpart_three, show [d] = [] ++ [d] from rfl, rb_right 2 1 lf d [] (by decide) (by decide) (by rw [fpart_two]; decide), fpart_two]
  rw [show 2 - 1 = 1 from rfl, rb_one]
theorem pl_3 : pl 3 1 = 2 := by
  rw [pl_left 3 1 (by decide) (by decide) (by rw [fpart_three]; decide), fpart_three, pl_right 2 1 (by decide) (by decide) (by rw [fpart_two]; decide), fpart_two, show 2 - 1 = 1 from rfl, pl_one]
/-- Another leaf does not lead to the root of three. -/
theorem other_ne : dig ([1#8] ++ (dig ([1#8] ++ (dig [0#8, 97#8] ++ dig [0#8, 120#8])) ++ dig [0#8, 99#8])) ≠ dig ([1#8] ++ (dig ([1#8] ++ (dig [0#8, 97#8] ++ dig [0#8, 98#8])) ++ dig [0#8, 99#8])) := by decide +kernel
theorem three_b : rb 3 1 [98#8] (pt 1 [[97#8], [98#8], [99#8]]) = rt [[97#8], [98#8], [99#8]] := rb_pt 3 1 [[97#8], [98#8], [99#8]] rfl (by decide) (by decide)
theorem three_x : rb 3 1 [120#8] (pt 1 [[97#8], [98#8], [99#8]]) ≠ rt [[97#8], [98#8], [99#8]] := by
  rw [pt_3, rb_3, rt_3]
  exact other_ne

end Go.Proofs.YtnogjhbohljjnabDoor
