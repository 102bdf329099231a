/-
  Path; three leaves; awake.
-/
import Derived.Test.YtdicgenhfmhklaaGreatDoorTPthA
import Derived.Lib.SlBytesConst

namespace Go.Proofs.YtdicgenhfmhklaaGreatDoor
open Go Go.RowKit
open Sha

theorem fpart_two : fpart 2 = 1 := by decide
theorem fpart_three : fpart 3 = 2 := by decide

/-- A leaf's own path leads to the root. -/
theorem rb_pt (n : Nat) : ∀ (i : Nat) (ps : List (List (BitVec 8))), ps.length = n → i < n → n < 4611686018427387904 → rb n i (ps.getD i []) (pt i ps) = rt ps := by
  induction n using Nat.strongRecOn with
  | ind n ih =>
    intro i ps hn hi hl
    by_cases e : n = 1
    · subst e
      obtain rfl : i = 0 := by omega
      rw [rb_one, rt_one ps hn]
    · have h2 : 2 ≤ n := by omega
      have hb := fpart_bounds n h2 hl
      have hp := fpart_pos n
      have t1 : (ps.take (fpart n)).length = fpart n := by rw [List.length_take]; omega
      have t2 : (ps.drop (fpart n)).length = n - fpart n := by rw [List.length_drop]; omega
      have hr := rt_many ps (by omega) (by omega)
      rw [hn] at hr
      by_cases hk : i < fpart n
      · have e2 : (ps.take (fpart n)).getD i [] = ps.getD i [] := by simp [List.getD_eq_getElem?_getD, hk]
        rw [pt_left i n ps hn h2 hl hk, rb_left n i _ _ _ h2 hl hk, hr, ← e2, ih (fpart n) hb.1 i _ t1 hk (by omega)]
      · have e2 : (ps.drop (fpart n)).getD (i - fpart n) [] = ps.getD i [] := by
          simp only [List.getD_eq_getElem?_getD, List.getElem?_drop]
          rw [show fpart n + (i - fpart n) = i by omega]
        rw [pt_right i n ps hn h2 hl hk, rb_right n i _ _ _ h2 hl hk, hr, ← e2, ih (n - fpart n) (by omega) (i - fpart n) _ t2 (by omega) (by omega)]

theorem rt_1 (a : List (BitVec 8)) : rt [a] = dig ([0#8] ++ a) := rt_one [a] rfl
theorem rt_2 (a b : List (BitVec 8)) : rt [a, b] = dig ([1#8] ++ (dig ([0#8] ++ a) ++ dig ([0#8] ++ b))) := by
  rw [rt_many [a, b] (by simp) (by simp)]
  simp only [List.length_cons, List.length_nil, Nat.zero_add, Nat.reduceAdd, fpart_two, List.take_succ_cons, List.take_zero, List.drop_succ_cons, List.drop_zero]
  rw [rt_1, rt_1]
theorem rt_3 (a b c : List (BitVec 8)) : rt [a, b, c] = dig ([1#8] ++ (dig ([1#8] ++ (dig ([0#8] ++ a) ++ dig ([0#8] ++ b))) ++ dig ([0#8] ++ c))) := by
  rw [rt_many [a, b, c] (by simp) (by simp)]
  simp only [List.length_cons, List.length_nil, Nat.zero_add, Nat.reduceAdd, fpart_three, List.take_succ_cons, List.take_zero, List.drop_succ_cons, List.drop_zero]
  rw [rt_1, rt_2]
theorem pt_2 (a b : List (BitVec 8)) : pt 1 [a, b] = [dig ([0#8] ++ a)] := by
  rw [pt_right 1 2 [a, b] rfl (by decide) (by decide) (by rw [fpart_two]; decide)]
  simp only [fpart_two, List.take_succ_cons, List.take_zero, List.drop_succ_cons, List.drop_zero, Nat.sub_self]
  rw [pt_one 0 [b] rfl, rt_1]
  rfl
theorem pt_3 (a b c : List (BitVec 8)) : pt 1 [a, b, c] = [dig ([0#8] ++ a), dig ([0#8] ++ c)] := by
  rw [pt_left 1 3 [a, b, c] rfl (by decide) (by decide) (by rw [fpart_three]; decide)]
  simp only [fpart_three, List.take_succ_cons, List.take_zero, List.drop_succ_cons, List.drop_zero]
  rw [pt_2, rt_1]
  rfl
theorem rb_3 (lf d e : List (BitVec 8)) : rb 3 1 lf [d, e] = dig ([1#8] ++ (dig ([1#8] ++ (d ++ dig ([0#8] ++ lf))) ++ e)) := by
  rw [show [d, e] = [d] ++ [e] from rfl, rb_left 3 1 lf e [d] (by decide) (by decide) (by rw [fpart_three]; decide), fpart_three, show [d] = [] ++ [d] from rfl, rb_right 2 1 lf d [] (by decide) (by decide) (by rw [fpart_two]; decide), fpart_two]
  rw [show 2 - 1 = 1 from rfl, rb_one]
theorem pl_3 : pl 3 1 = 2 := by
  rw [pl_left 3 1 (by decide) (by decide) (by rw [fpart_three]; decide), fpart_three, pl_right 2 1 (by decide) (by decide) (by rw [fpart_two]; decide), fpart_two, show 2 - 1 = 1 from rfl, pl_one]
/-- Another leaf does not lead to the root of three. -/
theorem other_ne : dig ([1#8] ++ (dig ([1#8] ++ (dig [0#8, 97#8] ++ dig [0#8, 120#8])) ++ dig [0#8, 99#8])) ≠ dig ([1#8] ++ (dig ([1#8] ++ (dig [0#8, 97#8] ++ dig [0#8, 98#8])) ++ dig [0#8, 99#8])) := by decide +kernel
theorem three_b : rb 3 1 [98#8] (pt 1 [[97#8], [98#8], [99#8]]) = rt [[97#8], [98#8], [99#8]] := rb_pt 3 1 [[97#8], [98#8], [99#8]] rfl (by decide) (by decide)
theorem three_x : rb 3 1 [120#8] (pt 1 [[97#8], [98#8], [99#8]]) ≠ rt [[97#8], [98#8], [99#8]] := by
  rw [pt_3, rb_3, rt_3]
  exact other_ne

end Go.Proofs.YtdicgenhfmhklaaGreatDoor

namespace Go.Proofs.YtdicgenhfmhklaaGreatDoor
open Go Go.RowKit
open Sha

set_option maxRecDepth 100000 in
set_option maxHeartbeats 1000000 in
theorem path_out (A : Option Addr) (n cap : Nat) (i : Int) (h : i < 0 ∨ (n : Int) ≤ i) (w : World) :
    Calls Tryz.prog 39 #[.slice A n cap, .int .i64 i] w fun e w' => e = .returned (.tuple #[.slice none 0 0, .int .i64 41]) ∧ Below w.heap.size w w' := by
  have hb1 : Below w.heap.size w w := Below.refl _ _
  by_cases h0 : i < 0
  · clear h
    go_enter Tryz.func39, Tryz.ntmps39
    go_wp2_with fail
    go_ret2
    exact ⟨rfl, hb1⟩
  · have h1 : (n : Int) ≤ i := by omega
    clear h
    go_enter Tryz.func39, Tryz.ntmps39
    go_wp2_with fail
    go_ret2
    exact ⟨rfl, hb1⟩

set_option maxRecDepth 100000 in
set_option maxHeartbeats 1000000 in
theorem path_in (n i : Nat) (ps : List (List (BitVec 8))) (hn : ps.length = n) (hi : i < n) (hl : n < 4398046511104) (hm : ∀ j, j < ps.length → (ps.getD j []).length < 1152921504606846975) (b o cap : Nat) (hc : n ≤ cap) (w : World) (hK : Tab w 2) (hv : LsAt w b o ps) :
    Calls Tryz.prog 39 #[.slice (some ⟨b, o, none⟩) n cap, .int .i64 (i : Int)] w fun e w' => ∃ v, e = .returned (.tuple #[v, .int .i64 0]) ∧ w'.ownsRow w.heap.size 44 32 v (pt i ps).length ((pt i ps).flatMap vB) ∧ Below w.heap.size w w' := by
  have HP : Hid (Calls _ _ _ _ _) := pathOf_any n i ps hn hi hl hm b o cap hc w hK hv
  have c1 : ¬ (i : Int) < 0 := by omega
  have c2 : ¬ (n : Int) ≤ (i : Int) := by omega
  clear hm hK hv hn
  go_enter Tryz.func39, Tryz.ntmps39
  go_wp2_with (go_at_call 61; refine HP.out.mono ?_; rintro e w2 ⟨v2, rfl, hO, hB⟩)
  go_ret2
  exact ⟨v2, rfl, hO, hB⟩

/-- The bytes of a constant text. -/
theorem run_const (w w0 : World) (t e : TypeId) (B : Nat) (C : Array Value) (n c : Nat) (hB : B = w0.heap.size) (hw : w = w0.alloc (.cells C e)) (ht : Tryz.prog.underlying t = some (.slice e)) (he : Tryz.prog.underlying e = some (.int .u8)) :
    (convert t t (.slice (some ⟨B, 0, none⟩) n c)).run Tryz.prog w = .ok (.slice (some ⟨B, 0, none⟩) n c) (w0.alloc (.cells C e (C.size, C.size + 1))) := by
  subst hB hw
  exact Lib.run_convert_bytes_const w0 t e C n c ht he
theorem slat_const (w : World) (x : BitVec 8) (fr : Nat × Nat) (t : TypeId) : SlAtT (w.alloc (.cells #[Value.int .u8 (c x)] t fr)) (.slice (some ⟨w.heap.size, 0, none⟩) 1 1) [x] :=
  .inr ⟨w.heap.size, 0, 1, rfl, Nat.le_refl _, fun j v hv => by
    rw [cell_of_row _ _ _ _ _ fr (heap_alloc_last w _), Nat.zero_add]
    match j, hv with
    | 0, hv => exact hv⟩
theorem LsAt.mk3 {w : World} {b : Nat} {v0 v1 v2 : Value} {t : TypeId} {d0 d1 d2 : List (BitVec 8)} (h : Row w b [v0, v1, v2] t) (h0 : SlAtT w v0 d0) (h1 : SlAtT w v1 d1) (h2 : SlAtT w v2 d2) : LsAt w b 0 [d0, d1, d2] :=
  ⟨[v0, v1, v2], rfl, h.all, fun i hi => by
    rcases (show i = 0 ∨ i = 1 ∨ i = 2 by simp at hi; omega) with rfl | rfl | rfl
    · exact h0
    · exact h1
    · exact h2⟩

theorem PAt.of_own {w : World} {M : Nat} {v : Value} {ds : List (List (BitVec 8))} (h : w.ownsRow M 44 32 v ds.length (ds.flatMap vB)) (h32 : ∀ d ∈ ds, d.length = 32) : PAt w v ds := by
  obtain ⟨h1, h2⟩ := h
  refine ⟨h32, ?_⟩
  rcases h2 with ⟨h2, h3⟩ | ⟨g, cap, cur, hv, hg, hh, hn, hm, hz, ht⟩
  · exact ⟨none, 0, by rw [h2, h3], by omega, .inl (List.length_eq_zero_iff.1 h3)⟩
  · refine ⟨_, cap, hv, hn, .inr ⟨g, 0, rfl, fun j x hx => ?_⟩⟩
    rw [cell_of_row w g (0 + j) cur _ (0, 0) hh, Nat.zero_add]
    rw [← ht, List.getElem?_take] at hx
    split at hx
    · simpa using hx
    · cases hx

theorem pt3_each : ∀ d ∈ pt 1 [[97#8], [98#8], [99#8]], d.length = 32 := pt_each 3 1 _ rfl (by decide) (by decide)
theorem pt3_len : (pt 1 [[97#8], [98#8], [99#8]]).length = 2 := by rw [pt_length 3 1 _ rfl (by decide) (by decide), pl_3]
theorem short3 : ∀ j, j < ([[97#8], [98#8], [99#8]] : List (List (BitVec 8))).length → (([[97#8], [98#8], [99#8]] : List (List (BitVec 8))).getD j []).length < 1152921504606846975 := by
  intro j hj
  rcases (show j = 0 ∨ j = 1 ∨ j = 2 by simp at hj; omega) with rfl | rfl | rfl <;> decide

end Go.Proofs.YtdicgenhfmhklaaGreatDoor
