/-
  Path; three leaves; awake.
-/
import Derived.Test.YtkgfaioinajkjaaDoorTPath
import Derived.Lib.SlBytesConst

namespace Go.Proofs.YtkgfaioinajkjaaDoor
open Go Go.RowKit
open Sha

/-- The path of leaf i, bottom first. -/
def pt (i : Nat) (ps : List (List (BitVec 8))) : List (List (BitVec 8)) :=
  if _h : 2 ≤ ps.length ∧ ps.length < 4611686018427387904 then
    if i < fpart ps.length then pt i (ps.take (fpart ps.length)) ++ [rt (ps.drop (fpart ps.length))]
    else pt (i - fpart ps.length) (ps.drop (fpart ps.length)) ++ [rt (ps.take (fpart ps.length))]
  else []
termination_by ps.length
decreasing_by
  · have := (fpart_bounds ps.length (by omega) (by omega)).1
    rw [List.length_take]; omega
  · have := fpart_pos ps.length
    rw [List.length_drop]; omega
theorem pt_one (i : Nat) (ps : List (List (BitVec 8))) (h : ps.length = 1) : pt i ps = [] := by
  rw [pt, dif_neg (by omega)]
theorem pt_left (i n : Nat) (ps : List (List (BitVec 8))) (hn : ps.length = n) (h2 : 2 ≤ n) (hl : n < 4611686018427387904) (h : i < fpart n) : pt i ps = pt i (ps.take (fpart n)) ++ [rt (ps.drop (fpart n))] := by
  subst hn
  rw [pt, dif_pos ⟨h2, hl⟩, if_pos h]
theorem pt_right (i n : Nat) (ps : List (List (BitVec 8))) (hn : ps.length = n) (h2 : 2 ≤ n) (hl : n < 4611686018427387904) (h : ¬ i < fpart n) : pt i ps = pt (i - fpart n) (ps.drop (fpart n)) ++ [rt (ps.take (fpart n))] := by
  subst hn
  rw [pt, dif_pos ⟨h2, hl⟩, if_neg h]
theorem pt_length (n : Nat) : ∀ (i : Nat) (ps : List (List (BitVec 8))), ps.length = n → 1 ≤ n → n < 4611686018427387904 → (pt i ps).length = pl n i := by
  induction n using Nat.strongRecOn with
  | ind n ih =>
    intro i ps hn h1 hl
    by_cases e : n = 1
    · subst e; rw [pt_one i ps hn, pl_one]; rfl
    · have hb := fpart_bounds n (by omega) hl
      have hp := fpart_pos n
      by_cases hk : i < fpart n
      · rw [pt_left i n ps hn (by omega) hl hk, pl_left n i (by omega) hl hk, List.length_append, ih (fpart n) hb.1 i (ps.take (fpart n)) (by rw [List.length_take]; omega) (by omega) (by omega)]
        rfl
      · rw [pt_right i n ps hn (by omega) hl hk, pl_right n i (by omega) hl hk, List.length_append, ih (n - fpart n) (by omega) (i - fpart n) (ps.drop (fpart n)) (by rw [List.length_drop]; omega) (by omega) (by omega)]
        rfl
theorem pt_each (n : Nat) : ∀ (i : Nat) (ps : List (List (BitVec 8))), ps.length = n → 1 ≤ n → n < 4611686018427387904 → ∀ d ∈ pt i ps, d.length = 32 := by
  induction n using Nat.strongRecOn with
  | ind n ih =>
    intro i ps hn h1 hl d hd
    by_cases e : n = 1
    · subst e; rw [pt_one i ps hn] at hd; cases hd
    · have hb := fpart_bounds n (by omega) hl
      have hp := fpart_pos n
      by_cases hk : i < fpart n
      · rw [pt_left i n ps hn (by omega) hl hk] at hd
        rcases List.mem_append.1 hd with hd | hd
        · exact ih (fpart n) hb.1 i _ (by rw [List.length_take]; omega) (by omega) (by omega) d hd
        · rw [List.mem_singleton.1 hd]; exact rt_length _
      · rw [pt_right i n ps hn (by omega) hl hk] at hd
        rcases List.mem_append.1 hd with hd | hd
        · exact ih (n - fpart n) (by omega) (i - fpart n) _ (by rw [List.length_drop]; omega) (by omega) (by omega) d hd
        · rw [List.mem_singleton.1 hd]; exact rt_length _

/-- pathOf of any list of leaves. -/
theorem pathOf_any (n : Nat) : ∀ (i : Nat) (ps : List (List (BitVec 8))), ps.length = n → i < n → n < 4398046511104 → (∀ j, j < ps.length → (ps.getD j []).length < 1152921504606846975) → ∀ (b o cap : Nat), n ≤ cap → ∀ w : World, Tab w 4 → LsAt w b o ps →
    Calls Tryd.prog 35 #[.slice (some ⟨b, o, none⟩) n cap, .int .i64 (i : Int)] w fun e w' => ∃ v, e = .returned v ∧ w'.ownsRow w.heap.size 42 32 v (pt i ps).length ((pt i ps).flatMap vB) ∧ Below w.heap.size w w' := by
  induction n using Nat.strongRecOn with
  | ind n ih =>
    intro i ps hn hi hlt hm b o cap hc w hK hv
    by_cases e : n = 1
    · subst e
      rw [pt_one i ps hn]
      exact pathOf_one _ cap _ w
    · have h2 : 2 ≤ n := by omega
      have hl : n < 4611686018427387904 := by omega
      have hb := fpart_bounds n h2 hl
      have hp := fpart_pos n
      have t1 : (ps.take (fpart n)).length = fpart n := by rw [List.length_take]; omega
      have t2 : (ps.drop (fpart n)).length = n - fpart n := by rw [List.length_drop]; omega
      have m1 : ∀ j, j < (ps.take (fpart n)).length → ((ps.take (fpart n)).getD j []).length < 1152921504606846975 := fun j hj => by
        have hj2 : j < fpart n := by omega
        have e2 : (ps.take (fpart n)).getD j [] = ps.getD j [] := by simp [List.getD_eq_getElem?_getD, hj2]
        rw [e2]
        exact hm j (by omega)
      have m2 : ∀ j, j < (ps.drop (fpart n)).length → ((ps.drop (fpart n)).getD j []).length < 1152921504606846975 := fun j hj => by
        have e2 : (ps.drop (fpart n)).getD j [] = ps.getD (fpart n + j) [] := by simp [List.getD_eq_getElem?_getD, List.getElem?_drop]
        rw [e2]
        exact hm (fpart n + j) (by omega)
      by_cases hk : i < fpart n
      · have q := pt_length (fpart n) i _ t1 (by omega) (by omega)
        have := pl_lt (fpart n) i (by omega) (by omega)
        rw [pt_left i n ps hn h2 hl hk, List.length_append, List.flatMap_append, List.length_singleton, List.flatMap_singleton]
        exact pathOf_left n i (fpart n) _ cap b o h2 hl hi rfl hk _ _ (rt_length _) (by omega) hc w
          (fun W hB => ih (fpart n) hb.1 i _ t1 hk (by omega) m1 b o cap (by omega) W (hK.below hB hK.lt) ((hv.below hB).take _))
          (fun W hB => root_any (n - fpart n) _ t2 (by omega) m2 _ rfl b (o + fpart n) (cap - fpart n) (by omega) W (hK.below hB hK.lt) ((hv.below hB).drop _))
      · have q := pt_length (n - fpart n) (i - fpart n) _ t2 (by omega) (by omega)
        have := pl_lt (n - fpart n) (i - fpart n) (by omega) (by omega)
        rw [pt_right i n ps hn h2 hl hk, List.length_append, List.flatMap_append, List.length_singleton, List.flatMap_singleton]
        exact pathOf_right n i (fpart n) _ cap b o h2 hl hi rfl hk _ _ (rt_length _) (by omega) hc w
          (fun W hB => ih (n - fpart n) (by omega) (i - fpart n) _ t2 (by omega) (by omega) m2 b (o + fpart n) (cap - fpart n) (by omega) W (hK.below hB hK.lt) ((hv.below hB).drop _))
          (fun W hB => root_any (fpart n) _ t1 (by omega) m1 _ rfl b o cap (by omega) W (hK.below hB hK.lt) ((hv.below hB).take _))

end Go.Proofs.YtkgfaioinajkjaaDoor

namespace Go.Proofs.YtkgfaioinajkjaaDoor
open Go Go.RowKit
open Sha

theorem fpart_two : fpart 2 = 1 := by decide
theorem fpart_three : fpart 3 = 2 := by decide

/-- A leaf's own path leads to the root. -/
theorem rb_pt (n : Nat) : ∀ (i : Nat) (ps : List (List (BitVec 8))), ps.length = n → i < n → n < 4611686018427387904 → rb n i (ps.getD i []) (pt i ps) = rt ps := by
  induction n using Nat.strongRecOn with
  | ind n ih =>
    intro i ps hn hi hl
    by_cases e : n = 1
    · subst e
      obtain rfl : i = 0 := by omega
      rw [rb_one, rt_one ps hn]
    · have h2 : 2 ≤ n := by omega
      have hb := fpart_bounds n h2 hl
      have hp := fpart_pos n
      have t1 : (ps.take (fpart n)).length = fpart n := by rw [List.length_take]; omega
      have t2 : (ps.drop (fpart n)).length = n - fpart n := by rw [List.length_drop]; omega
      have hr := rt_many ps (by omega) (by omega)
      rw [hn] at hr
      by_cases hk : i < fpart n
      · have e2 : (ps.take (fpart n)).getD i [] = ps.getD i [] := by simp [List.getD_eq_getElem?_getD, hk]
        rw [pt_left i n ps hn h2 hl hk, rb_left n i _ _ _ h2 hl hk, hr, ← e2, ih (fpart n) hb.1 i _ t1 hk (by omega)]
      · have e2 : (ps.drop (fpart n)).getD (i - fpart n) [] = ps.getD i [] := by
          simp only [List.getD_eq_getElem?_getD, List.getElem?_drop]
          rw [show fpart n + (i - fpart n) = i by omega]
        rw [pt_right i n ps hn h2 hl hk, rb_right n i _ _ _ h2 hl hk, hr, ← e2, ih (n - fpart n) (by omega) (i - fpart n) _ t2 (by omega) (by omega)]

theorem rt_1 (a : List (BitVec 8)) : rt [a] = dig ([0#8] ++ a) := rt_one [a] rfl
theorem rt_2 (a b : List (BitVec 8)) : rt [a, b] = dig ([1#8] ++ (dig ([0#8] ++ a) ++ dig ([0#8] ++ b))) := by
  rw [rt_many [a, b] (by simp) (by simp)]
  simp only [List.length_cons, List.length_nil, Nat.zero_add, Nat.reduceAdd, fpart_two, List.take_succ_cons, List.take_zero, List.drop_succ_cons, List.drop_zero]
  rw [rt_1, rt_1]
theorem rt_3 (a b c : List (BitVec 8)) : rt [a, b, c] = dig ([1#8] ++ (dig ([1#8] ++ (dig ([0#8] ++ a) ++ dig ([0#8] ++ b))) ++ dig ([0#8] ++ c))) := by
  rw [rt_many [a, b, c] (by simp) (by simp)]
  simp only [List.length_cons, List.length_nil, Nat.zero_add, Nat.reduceAdd, fpart_three, List.take_succ_cons, List.take_zero, List.drop_succ_cons, List.drop_zero]
  rw [rt_1, rt_2]
theorem pt_2 (a b : List (BitVec 8)) : pt 1 [a, b] = [dig ([0#8] ++ a)] := by
  rw [pt_right 1 2 [a, b] rfl (by decide) (by decide) (by rw [fpart_two]; decide)]
  simp only [fpart_two, List.take_succ_cons, List.take_zero, List.drop_succ_cons, List.drop_zero, Nat.sub_self]
  rw [pt_one 0 [b] rfl, rt_1]
  rfl
theorem pt_3 (a b c : List (BitVec 8)) : pt 1 [a, b, c] = [dig ([0#8] ++ a), dig ([0#8] ++ c)] := by
  rw [pt_left 1 3 [a, b, c] rfl (by decide) (by decide) (by rw [fpart_three]; decide)]
  simp only [fpart_three, List.take_succ_cons, List.take_zero, List.drop_succ_cons, List.drop_zero]
  rw [pt_2, rt_1]
  rfl
theorem rb_3 (lf d e : List (BitVec 8)) : rb 3 1 lf [d, e] = dig ([1#8] ++ (dig ([1#8] ++ (d ++ dig ([0#8] ++ lf))) ++ e)) := by
  rw [show [d, e] = [d] ++ [e] from rfl, rb_left 3 1 lf e [d] (by decide) (by decide) (by rw [fpart_three]; decide), fpart_three, show [d] = [] ++ [d] from rfl, rb_right 2 1 lf d [] (by decide) (by decide) (by rw [fpart_two]; decide), fpart_two]
  rw [show 2 - 1 = 1 from rfl, rb_one]
theorem pl_3 : pl 3 1 = 2 := by
  rw [pl_left 3 1 (by decide) (by decide) (by rw [fpart_three]; decide), fpart_three, pl_right 2 1 (by decide) (by decide) (by rw [fpart_two]; decide), fpart_two, show 2 - 1 = 1 from rfl, pl_one]
/-- Another leaf does not lead to the root of three. -/
theorem other_ne : dig ([1#8] ++ (dig ([1#8] ++ (dig [0#8, 97#8] ++ dig [0#8, 120#8])) ++ dig [0#8, 99#8])) ≠ dig ([1#8] ++ (dig ([1#8] ++ (dig [0#8, 97#8] ++ dig [0#8, 98#8])) ++ dig [0#8, 99#8])) := by decide +kernel
theorem three_b : rb 3 1 [98#8] (pt 1 [[97#8], [98#8], [99#8]]) = rt [[97#8], [98#8], [99#8]] := rb_pt 3 1 [[97#8], [98#8], [99#8]] rfl (by decide) (by decide)
theorem three_x : rb 3 1 [120#8] (pt 1 [[97#8], [98#8], [99#8]]) ≠ rt [[97#8], [98#8], [99#8]] := by
  rw [pt_3, rb_3, rt_3]
  exact other_ne

end Go.Proofs.YtkgfaioinajkjaaDoor

namespace Go.Proofs.YtkgfaioinajkjaaDoor
open Go Go.RowKit
open Sha

set_option maxRecDepth 100000 in
set_option maxHeartbeats 1000000 in
theorem path_out (A : Option Addr) (n cap : Nat) (i : Int) (h : i < 0 ∨ (n : Int) ≤ i) (w : World) :
    Calls Tryd.prog 22 #[.slice A n cap, .int .i64 i] w fun e w' => e = .returned (.tuple #[.slice none 0 0, .int .i64 41]) ∧ Below w.heap.size w w' := by
  have hb1 : Below w.heap.size w w := Below.refl _ _
  by_cases h0 : i < 0
  · clear h
    go_enter Tryd.func22, Tryd.ntmps22
    go_wp2_with fail
    go_ret2
    exact ⟨rfl, hb1⟩
  · have h1 : (n : Int) ≤ i := by omega
    clear h
    go_enter Tryd.func22, Tryd.ntmps22
    go_wp2_with fail
    go_ret2
    exact ⟨rfl, hb1⟩

set_option maxRecDepth 100000 in
set_option maxHeartbeats 1000000 in
theorem path_in (n i : Nat) (ps : List (List (BitVec 8))) (hn : ps.length = n) (hi : i < n) (hl : n < 4398046511104) (hm : ∀ j, j < ps.length → (ps.getD j []).length < 1152921504606846975) (b o cap : Nat) (hc : n ≤ cap) (w : World) (hK : Tab w 4) (hv : LsAt w b o ps) :
    Calls Tryd.prog 22 #[.slice (some ⟨b, o, none⟩) n cap, .int .i64 (i : Int)] w fun e w' => ∃ v, e = .returned (.tuple #[v, .int .i64 0]) ∧ w'.ownsRow w.heap.size 42 32 v (pt i ps).length ((pt i ps).flatMap vB) ∧ Below w.heap.size w w' := by
  have HP : Hid (Calls _ _ _ _ _) := pathOf_any n i ps hn hi hl hm b o cap hc w hK hv
  have c1 : ¬ (i : Int) < 0 := by omega
  have c2 : ¬ (n : Int) ≤ (i : Int) := by omega
  clear hm hK hv hn
  go_enter Tryd.func22, Tryd.ntmps22
  go_wp2_with (go_at_call 35; refine HP.out.mono ?_; rintro e w2 ⟨v2, rfl, hO, hB⟩)
  go_ret2
  exact ⟨v2, rfl, hO, hB⟩

/-- The bytes of a constant text. -/
theorem run_const (w w0 : World) (t e : TypeId) (B : Nat) (C : Array Value) (n c : Nat) (hB : B = w0.heap.size) (hw : w = w0.alloc (.cells C e)) (ht : Tryd.prog.underlying t = some (.slice e)) (he : Tryd.prog.underlying e = some (.int .u8)) :
    (convert t t (.slice (some ⟨B, 0, none⟩) n c)).run Tryd.prog w = .ok (.slice (some ⟨B, 0, none⟩) n c) (w0.alloc (.cells C e (C.size, C.size + 1))) := by
  subst hB hw
  exact Lib.run_convert_bytes_const w0 t e C n c ht he
theorem slat_const (w : World) (x : BitVec 8) (fr : Nat × Nat) (t : TypeId) : SlAt (w.alloc (.cells #[Value.int .u8 (c x)] t fr)) (.slice (some ⟨w.heap.size, 0, none⟩) 1 1) [x] :=
  .inr ⟨w.heap.size, 0, 1, rfl, Nat.le_refl _, fun j v hv => by
    rw [cell_of_row _ _ _ _ _ fr (heap_alloc_last w _), Nat.zero_add]
    match j, hv with
    | 0, hv => exact hv⟩
theorem LsAt.mk3 {w : World} {b : Nat} {v0 v1 v2 : Value} {t : TypeId} {d0 d1 d2 : List (BitVec 8)} (h : Row w b [v0, v1, v2] t) (h0 : SlAt w v0 d0) (h1 : SlAt w v1 d1) (h2 : SlAt w v2 d2) : LsAt w b 0 [d0, d1, d2] :=
  ⟨[v0, v1, v2], rfl, h.all, fun i hi => by
    rcases (show i = 0 ∨ i = 1 ∨ i = 2 by simp at hi; omega) with rfl | rfl | rfl
    · exact h0
    · exact h1
    · exact h2⟩

set_option maxRecDepth 100000 in
set_option maxHeartbeats 1000000 in
theorem row_any (w : World) :
    Calls Tryd.prog 21 #[] w fun e w' => e = .returned (.slice (some ⟨w.heap.size + 3, 0, none⟩) 3 3) ∧ LsAt w' (w.heap.size + 3) 0 [[97#8], [98#8], [99#8]] ∧ Below w.heap.size w w' := by
  have kc := fun (w : World) (C : Array Value) (n c : Nat) => Lib.run_convert_bytes_const (P := Tryd.prog) w 31 5 C n c Tryd.underlying31 Tryd.underlying5
  have k2 := fun (o : Obj) (C : Array Value) (n c : Nat) => run_const ((w.alloc o).alloc (.cells C 5)) (w.alloc o) 31 5 (w.heap.size + 1) C n c (by simp) rfl Tryd.underlying31 Tryd.underlying5
  have k3 := fun (o u : Obj) (C : Array Value) (n c : Nat) => run_const (((w.alloc o).alloc u).alloc (.cells C 5)) ((w.alloc o).alloc u) 31 5 (w.heap.size + 2) C n c (by simp) rfl Tryd.underlying31 Tryd.underlying5
  go_enter Tryd.func21, Tryd.ntmps21
  go_wp2_with fail
  go_ret
  have b1 : Below w.heap.size w (w.alloc (Obj.cells #[Value.int IntKind.u8 97] 5 (1, 2))) := (Below.refl _ _).alloc (Nat.le_refl _) _
  have b2 := b1.alloc (by simp) (Obj.cells #[Value.int IntKind.u8 98] 5 (1, 2))
  have b3 := b2.alloc (by simp; omega) (Obj.cells #[Value.int IntKind.u8 99] 5 (1, 2))
  refine ⟨rfl, LsAt.mk3 (Row.new' (by simp) rfl) ?_ ?_ ?_, b3.alloc (by simp; omega) _⟩
  · exact (slat_const w 97#8 (1, 2) 5).below ((((Below.refl _ _).alloc (Nat.le_refl _) _).alloc (by simp) _).alloc (by simp) _) (Nat.le_refl _)
  · have := slat_const (w.alloc (Obj.cells #[Value.int IntKind.u8 97] 5 (1, 2))) 98#8 (1, 2) 5
    rw [show (w.alloc (Obj.cells #[Value.int IntKind.u8 97] 5 (1, 2))).heap.size = w.heap.size + 1 by simp] at this
    exact this.below (((Below.refl _ _).alloc (Nat.le_refl _) _).alloc (by simp) _) (Nat.le_refl _)
  · have := slat_const ((w.alloc (Obj.cells #[Value.int IntKind.u8 97] 5 (1, 2))).alloc (Obj.cells #[Value.int IntKind.u8 98] 5 (1, 2))) 99#8 (1, 2) 5
    rw [show ((w.alloc (Obj.cells #[Value.int IntKind.u8 97] 5 (1, 2))).alloc (Obj.cells #[Value.int IntKind.u8 98] 5 (1, 2))).heap.size = w.heap.size + 2 by simp] at this
    exact this.below ((Below.refl _ _).alloc (Nat.le_refl _) _) (Nat.le_refl _)

theorem PAt.of_own {w : World} {M : Nat} {v : Value} {ds : List (List (BitVec 8))} (h : w.ownsRow M 42 32 v ds.length (ds.flatMap vB)) (h32 : ∀ d ∈ ds, d.length = 32) : PAt w v ds := by
  obtain ⟨h1, h2⟩ := h
  refine ⟨h32, ?_⟩
  rcases h2 with ⟨h2, h3⟩ | ⟨g, cap, cur, hv, hg, hh, hn, hm, hz, ht⟩
  · exact ⟨none, 0, by rw [h2, h3], by omega, .inl (List.length_eq_zero_iff.1 h3)⟩
  · refine ⟨_, cap, hv, hn, .inr ⟨g, 0, rfl, fun j x hx => ?_⟩⟩
    rw [cell_of_row w g (0 + j) cur _ (0, 0) hh, Nat.zero_add]
    rw [← ht, List.getElem?_take] at hx
    split at hx
    · simpa using hx
    · cases hx

theorem pt3_each : ∀ d ∈ pt 1 [[97#8], [98#8], [99#8]], d.length = 32 := pt_each 3 1 _ rfl (by decide) (by decide)
theorem pt3_len : (pt 1 [[97#8], [98#8], [99#8]]).length = 2 := by rw [pt_length 3 1 _ rfl (by decide) (by decide), pl_3]
theorem check_3b (root : List (BitVec 8)) (hr : root = rt [[97#8], [98#8], [99#8]]) (v lv : Value) (w : World) (hK : Tab w 4) (hp : PAt w v (pt 1 [[97#8], [98#8], [99#8]])) (hv : SlAt w lv [98#8]) :
    Calls Tryd.prog 24 #[.agg (vB root).toArray, .int .i64 3, .int .i64 1, lv, v] w fun e w' => e = .returned (.int .i64 0) ∧ Below w.heap.size w w' := by
  have h := check_len 3 1 (by decide) (by decide) root [98#8] _ (by rw [pt3_len, pl_3]) (by rw [hr]; exact rt_length _) (by decide) v lv w hK hp hv
  rw [three_b, if_pos hr.symm] at h
  exact h
theorem check_3x (root : List (BitVec 8)) (hr : root = rt [[97#8], [98#8], [99#8]]) (v lv : Value) (w : World) (hK : Tab w 4) (hp : PAt w v (pt 1 [[97#8], [98#8], [99#8]])) (hv : SlAt w lv [120#8]) :
    Calls Tryd.prog 24 #[.agg (vB root).toArray, .int .i64 3, .int .i64 1, lv, v] w fun e w' => e = .returned (.int .i64 43) ∧ Below w.heap.size w w' := by
  have h := check_len 3 1 (by decide) (by decide) root [120#8] _ (by rw [pt3_len, pl_3]) (by rw [hr]; exact rt_length _) (by decide) v lv w hK hp hv
  rw [if_neg (by rw [hr]; exact three_x)] at h
  exact h
theorem short3 : ∀ j, j < ([[97#8], [98#8], [99#8]] : List (List (BitVec 8))).length → (([[97#8], [98#8], [99#8]] : List (List (BitVec 8))).getD j []).length < 1152921504606846975 := by
  intro j hj
  rcases (show j = 0 ∨ j = 1 ∨ j = 2 by simp at hj; omega) with rfl | rfl | rfl <;> decide

set_option maxRecDepth 100000 in
set_option maxHeartbeats 1000000 in
theorem awake_any (w : World) (hK : Tab w 4) :
    Calls Tryd.prog 4 #[] w fun e w' => e = .returned (.bool true) ∧ Below w.heap.size w w' := by
  obtain ⟨root, hroot⟩ : ∃ root, root = rt [[97#8], [98#8], [99#8]] := ⟨_, rfl⟩
  have HR : Hid (root = rt [[97#8], [98#8], [99#8]]) := hroot
  have HRL : Hid (root.length = 32) := by rw [hroot]; exact rt_length _
  have hi5 : (Tryd.prog.info? 42).map (·.size) = some (vB root).toArray.size := by rw [info_dig]; simp [vB_length, HRL.out]
  have hi6 : (Tryd.prog.info? 42).map (·.size) = some (vB root).length := by rw [info_dig, vB_length, HRL.out]
  have HK : Hid (Tab w 4) := hK
  have kc := fun (w : World) (C : Array Value) (n c : Nat) => Lib.run_convert_bytes_const (P := Tryd.prog) w 31 5 C n c Tryd.underlying31 Tryd.underlying5
  clear hroot hK
  go_enter Tryd.func4, Tryd.ntmps4
  go_wp2_with (first
    | (go_at_call 21; refine (row_any w).mono ?_; rintro e w1 ⟨rfl, hL1, hB1⟩)
    | (go_at_call 22; refine (path_in 3 1 _ rfl (by decide) (by decide) short3 (w.heap.size + 3) 0 3 (by decide) w1 (HK.out.below hB1 HK.out.lt) hL1).mono ?_; rintro e w2 ⟨v2, rfl, hO, hB2⟩; (have hP2 := PAt.of_own hO pt3_each); clear hO; (have hL2 := hL1.below hB2); (replace hB2 := hB1.trans (hB2.mono hB1.size)); clear hL1 hB1; (have HP2 : Hid (PAt w2 v2 _) := hP2); (obtain ⟨_, A2, c2, e2, _, _⟩ := hP2); rw [pt3_len] at e2; subst e2)
    | (go_at_call 23; refine (root_any 3 _ rfl (by decide) short3 root HR.out (w.heap.size + 3) 0 3 (by decide) w2 (HK.out.below hB2 HK.out.lt) hL2).mono ?_; rintro e w3 ⟨rfl, hB3⟩; (have HP3 : Hid (PAt w3 _ _) := HP2.out.below hB3); (replace hB3 := hB2.trans (hB3.mono hB2.size)); clear HP2 hL2 hB2)
    | (refine wpList_store_mid rfl 42 (.tmp 4) (.tmp 14) rfl w3.heap.size 0 (vB root).toArray rfl rfl (Row.there (Row.new' (cs := vB (List.replicate 32 0#8)) rfl rfl) 0 _ (by simp [vB_length, HRL.out])) hi5 (all_oneCell_toArray (vB_one root)) ?_; simp only [Act.put]; (have r4 := Row.over (Row.new w3 (vB (List.replicate 32 0#8)) 42) (vs := vB root) (by rw [vB_length, HRL.out]; rfl)); (have hB4 := below_setCells (hB3.alloc hB3.size (Obj.cells (vB (List.replicate 32 0#8)).toArray 42)) (b := w3.heap.size) (o := 0) hB3.size (vB root)); (have HP4 : Hid (PAt _ _ _) := HP3.out.below (below_setCells ((Below.refl _ _).alloc (Nat.le_refl _) (Obj.cells (vB (List.replicate 32 0#8)).toArray 42)) (b := w3.heap.size) (o := 0) (Nat.le_refl _) (vB root))); (change wpList _ _ _ _ _ (World.setCells (w3.alloc (Obj.cells (vB (List.replicate 32 0#8)).toArray 42)) w3.heap.size 0 (vB root))); (generalize World.setCells (w3.alloc (Obj.cells (vB (List.replicate 32 0#8)).toArray 42)) w3.heap.size 0 (vB root) = w4 at *); clear HP3)
    | (refine wpList_load_mid rfl 42 (.tmp 4) rfl w3.heap.size 0 rfl (vB root) _ r4.all Tryd.underlying42 rfl hi6 ?_; simp only [Act.put, List.setIfInBounds_toArray, List.set_cons_zero, List.set_cons_succ])
    | (go_at_call 24; refine (check_3b root HR.out _ _ _ ((HK.out.below hB4 HK.out.lt).below ((Below.refl _ _).alloc (Nat.le_refl _) _) (Nat.lt_of_lt_of_le HK.out.lt hB4.size)) (HP4.out.below ((Below.refl _ _).alloc (Nat.le_refl _) _)) (slat_const w4 98#8 _ _)).mono ?_; rintro e w5 ⟨rfl, hB5⟩; (replace hB5 := ((Below.refl _ _).alloc (Nat.le_refl _) _).trans (hB5.mono (by simp))); (have HP5 : Hid (PAt w5 _ _) := HP4.out.below hB5); (have r5 := r4.below hB5 r4.lt); (replace hB5 := hB4.trans (hB5.mono hB4.size)); clear HP4 hB4 r4)
    | (refine wpList_load_mid rfl 42 (.tmp 4) rfl w3.heap.size 0 rfl (vB root) _ r5.all Tryd.underlying42 rfl hi6 ?_; simp only [Act.put, List.setIfInBounds_toArray, List.set_cons_zero, List.set_cons_succ])
    | (go_at_call 24; refine (check_3x root HR.out _ _ _ ((HK.out.below hB5 HK.out.lt).below ((Below.refl _ _).alloc (Nat.le_refl _) _) (Nat.lt_of_lt_of_le HK.out.lt hB5.size)) (HP5.out.below ((Below.refl _ _).alloc (Nat.le_refl _) _)) (slat_const w5 120#8 _ _)).mono ?_; rintro e w6 ⟨rfl, hB6⟩; (replace hB6 := ((Below.refl _ _).alloc (Nat.le_refl _) _).trans (hB6.mono (by simp))); (replace hB6 := hB5.trans (hB6.mono hB5.size)); clear HP5 hB5 r5))
  go_ret
  exact ⟨rfl, hB6⟩
end Go.Proofs.YtkgfaioinajkjaaDoor
