/-
  Path of the program and of the document, at any number.
-/
import Derived.Test.YtflllmhefehpgaaDoorTMark
import Derived.Test.YtflllmhefehpgaaDoorTSome
import Derived.Test.YtflllmhefehpgaaDoorTPthA

namespace Go.Proofs.YtflllmhefehpgaaDoor
open Go Go.RowKit
open Sha

theorem own_of {w : World} {N n : Nat} {v : Value} {xs : List Value} (h : Ow w v n xs) (hf : Fresh N v) : w.ownsRow N 24 32 v n xs := by
  refine ⟨h.1, ?_⟩
  rcases h.2 with q | ⟨g, cap, cur, hv, hg, r⟩
  · exact .inl q
  · exact .inr ⟨g, cap, cur, hv, hf g (by rw [hv]; rfl), r⟩

set_option maxRecDepth 100000 in
set_option maxHeartbeats 1000000 in
theorem rpath_one (A : Option Addr) (cap : Nat) (i : Int) (w : World) :
    Calls Tryd.prog 57 #[.slice A 1 cap, .int .i64 i] w fun e w' => ∃ v, e = .returned v ∧ w'.ownsRow w.heap.size 24 32 v 0 [] ∧ Below w.heap.size w w' := by
  go_enter Tryd.func57, Tryd.ntmps57
  go_wp2_with fail
  go_ret
  exact ⟨.slice none 0 0, rfl, ⟨rfl, .inl ⟨rfl, rfl⟩⟩, Below.refl _ _⟩

set_option maxRecDepth 100000 in
set_option maxHeartbeats 4000000 in
theorem rpath_left (n i k p cap b o : Nat) (hik : i < k) (h2 : 2 ≤ n) (hn : n < 4611686018427387904) (hk : fpart n = k) (l : List Value) (r : List (BitVec 8)) (hr : Dl r) (hp : (p + 1) * 32 ≤ 140737488355328) (hc : n ≤ cap) (w : World)
    (hS : ∀ W, Below w.heap.size w W → Calls Tryd.prog 57 #[.slice (some ⟨b, o, none⟩) k cap, .int .i64 (i : Int)] W fun e w' => ∃ v, e = .returned v ∧ w'.ownsRow W.heap.size 24 32 v p l ∧ Below W.heap.size W w')
    (hR : ∀ W, Below w.heap.size w W → Calls Tryd.prog 22 #[.slice (some ⟨b, o + k, none⟩) (n - k) (cap - k)] W fun e w' => e = .returned (.agg (vB r).toArray) ∧ Below W.heap.size W w') :
    Calls Tryd.prog 57 #[.slice (some ⟨b, o, none⟩) n cap, .int .i64 (i : Int)] w fun e w' => ∃ v, e = .returned v ∧ w'.ownsRow w.heap.size 24 32 v (p + 1) (l ++ vB r) ∧ Below w.heap.size w w' := by
  have HS : Hid (∀ W, _ → _) := hS
  have HR : Hid (∀ W, _ → _) := hR
  have HP : Hid ((p + 1) * 32 ≤ 140737488355328) := hp
  have HF : Hid (∀ w, _) := fun w => rbelow_any n h2 hn w
  rw [hk] at HF
  have HKN : Hid (k < n) := by show _ < _; rw [← hk]; exact (fpart_bounds n h2 hn).1
  have HC : Hid (n ≤ cap) := hc
  have n1 : ¬ (n : Int) = 1 := by omega
  have c1 : (i : Int) < (k : Int) := by omega
  clear hS hR hk h2 hn hc hp hik
  have hb : Below w.heap.size w w := Below.refl _ _
  go_enter Tryd.func57, Tryd.ntmps57
  go_wp2_with fail
  refine (HF.out w).mono ?_
  rintro e w2 ⟨rfl, rfl⟩
  go_wp2_with (refine wpList_slice_to rfl 25 22 (.tmp 19) (.tmp 20) b o n cap k rfl rfl rfl (Nat.le_trans (Nat.le_of_lt HKN.out) HC.out) Tryd.underlying25 info_slb ?_; simp only [Act.put, List.setIfInBounds_toArray, List.set_cons_zero, List.set_cons_succ])
  refine (HS.out _ hb).mono ?_
  rintro e V0 ⟨v0, rfl, hO, hB⟩
  replace hb := hb.trans (hB.mono hb.size)
  replace hO := own_less hO (Nat.le_refl _)
  have hFr := fresh_of hO
  have oO := ow_of hO
  clear hB hO
  obtain ⟨Av, cv, ev, _⟩ := oO.form
  subst ev
  go_wp2_with (refine wpList_slice_on rfl 25 22 (.tmp 24) (.tmp 25) b o n cap k rfl rfl rfl (Nat.le_of_lt HKN.out) (Nat.lt_of_lt_of_le HKN.out HC.out) Tryd.underlying25 info_slb ?_; simp only [Act.put, List.setIfInBounds_toArray, List.set_cons_zero, List.set_cons_succ])
  refine (HR.out V0 hb).mono ?_
  rintro e V1 ⟨rfl, hB⟩
  replace hb := hb.trans (hB.mono hb.size)
  replace oO := oO.be hB
  clear hB
  have n0 : Row (V1.alloc (Obj.cells z32.toArray 24)) V1.heap.size z32 24 := Row.new' rfl rfl
  have T0 := hr.there n0 rfl
  replace n0 := n0.over (vs := vB r) (hr.over rfl)
  have hB : Below V1.heap.size V1 ((V1.alloc (Obj.cells z32.toArray 24)).setCells V1.heap.size 0 (vB r)) := below_setCells ((Below.refl _ _).alloc (Nat.le_refl _) (Obj.cells z32.toArray 24)) (b := V1.heap.size) (o := 0) (Nat.le_refl _) (vB r)
  replace hb := hb.trans (hB.mono hb.size)
  replace oO := oO.be hB
  clear hB
  go_wp2_with (first
    | (refine wpList_store_mid rfl 24 (.tmp 7) (.tmp 27) rfl V1.heap.size 0 (vB r).toArray rfl rfl T0 hr.info' hr.one ?_; simp only [Act.put]; clear T0; (change wpList _ _ _ _ _ ((V1.alloc (Obj.cells z32.toArray 24)).setCells V1.heap.size 0 (vB r))); (generalize ((V1.alloc (Obj.cells z32.toArray 24)).setCells V1.heap.size 0 (vB r)) = X1 at *); (generalize hN : V1.heap.size = N4 at *; clear hN))
    | (refine wpList_load_w rfl 24 (.tmp 7) rfl N4 0 rfl (vB r) _ n0.all Tryd.underlying24 rfl hr.info ?_; simp only [Act.put, List.setIfInBounds_toArray, List.set_cons_zero, List.set_cons_succ])
    | (refine wpList_build_dd rfl (.tmp 29) rfl r hr rfl ?_; simp only [Act.put, List.setIfInBounds_toArray, List.set_cons_zero, List.set_cons_succ])
    | (refine wpList_append_still rfl (.tmp 28) (.tmp 30) rfl X1.heap.size p _ l r hr rfl (oO.be ((Below.refl _ _).alloc (Nat.le_refl _) (Obj.cells (vB r).toArray 24))) rfl (Row.new' rfl rfl) HP.out ?_; intro v' w' q1 q2 q3 q4; obtain ⟨Ax, cx, ex, _⟩ := q1.form; subst ex; simp only [Act.put, List.setIfInBounds_toArray, List.set_cons_zero, List.set_cons_succ]; have Q1 : Hid _ := q1; have Q2 : Hid _ := q2; have Q3 : Hid _ := q3; clear q1 q2 q3 q4))
  go_ret
  have hb2 := hb.alloc hb.size (Obj.cells (vB r).toArray 24)
  refine ⟨.slice Ax (p + 1) cx, rfl, own_of Q1.out (fun g e => ?_), hb2.grown Q2.out hb2.size hFr⟩
  rcases Q3.out with q | q
  · exact hFr g (q ▸ e)
  · rw [q] at e
    simp only [Option.some.injEq] at e
    rw [← e]; exact hb2.size

set_option maxRecDepth 100000 in
set_option maxHeartbeats 4000000 in
theorem rpath_right (n i k p cap b o : Nat) (hin : i < n) (hik : ¬ i < k) (h2 : 2 ≤ n) (hn : n < 4611686018427387904) (hk : fpart n = k) (l : List Value) (r : List (BitVec 8)) (hr : Dl r) (hp : (p + 1) * 32 ≤ 140737488355328) (hc : n ≤ cap) (w : World)
    (hS : ∀ W, Below w.heap.size w W → Calls Tryd.prog 57 #[.slice (some ⟨b, o + k, none⟩) (n - k) (cap - k), .int .i64 ((i - k : Nat) : Int)] W fun e w' => ∃ v, e = .returned v ∧ w'.ownsRow W.heap.size 24 32 v p l ∧ Below W.heap.size W w')
    (hR : ∀ W, Below w.heap.size w W → Calls Tryd.prog 22 #[.slice (some ⟨b, o, none⟩) k cap] W fun e w' => e = .returned (.agg (vB r).toArray) ∧ Below W.heap.size W w') :
    Calls Tryd.prog 57 #[.slice (some ⟨b, o, none⟩) n cap, .int .i64 (i : Int)] w fun e w' => ∃ v, e = .returned v ∧ w'.ownsRow w.heap.size 24 32 v (p + 1) (l ++ vB r) ∧ Below w.heap.size w w' := by
  have HS : Hid (∀ W, _ → _) := hS
  have HR : Hid (∀ W, _ → _) := hR
  have HP : Hid ((p + 1) * 32 ≤ 140737488355328) := hp
  have HF : Hid (∀ w, _) := fun w => rbelow_any n h2 hn w
  rw [hk] at HF
  have HKN : Hid (k < n) := by show _ < _; rw [← hk]; exact (fpart_bounds n h2 hn).1
  have HC : Hid (n ≤ cap) := hc
  have n1 : ¬ (n : Int) = 1 := by omega
  have c1 : ¬ (i : Int) < (k : Int) := by omega
  have ES : Hid ((i : Int) - (k : Int) = ((i - k : Nat) : Int)) := by show _ = _; omega
  rw [← ES.out] at HS
  have b1 : -9223372036854775808 ≤ (i : Int) - (k : Int) := by omega
  have b2 : (i : Int) - (k : Int) < 9223372036854775808 := by omega
  clear hS hR hk h2 hn hc hp hik hin
  have hb : Below w.heap.size w w := Below.refl _ _
  go_enter Tryd.func57, Tryd.ntmps57
  go_wp2_with fail
  refine (HF.out w).mono ?_
  rintro e w2 ⟨rfl, rfl⟩
  go_wp2_with (refine wpList_slice_on rfl 25 22 (.tmp 32) (.tmp 33) b o n cap k rfl rfl rfl (Nat.le_of_lt HKN.out) (Nat.lt_of_lt_of_le HKN.out HC.out) Tryd.underlying25 info_slb ?_; simp only [Act.put, List.setIfInBounds_toArray, List.set_cons_zero, List.set_cons_succ])
  refine (HS.out _ hb).mono ?_
  rintro e V0 ⟨v0, rfl, hO, hB⟩
  replace hb := hb.trans (hB.mono hb.size)
  replace hO := own_less hO (Nat.le_refl _)
  have hFr := fresh_of hO
  have oO := ow_of hO
  clear hB hO
  obtain ⟨Av, cv, ev, _⟩ := oO.form
  subst ev
  go_wp2_with (refine wpList_slice_to rfl 25 22 (.tmp 39) (.tmp 40) b o n cap k rfl rfl rfl (Nat.le_trans (Nat.le_of_lt HKN.out) HC.out) Tryd.underlying25 info_slb ?_; simp only [Act.put, List.setIfInBounds_toArray, List.set_cons_zero, List.set_cons_succ])
  refine (HR.out V0 hb).mono ?_
  rintro e V1 ⟨rfl, hB⟩
  replace hb := hb.trans (hB.mono hb.size)
  replace oO := oO.be hB
  clear hB
  have n0 : Row (V1.alloc (Obj.cells z32.toArray 24)) V1.heap.size z32 24 := Row.new' rfl rfl
  have T0 := hr.there n0 rfl
  replace n0 := n0.over (vs := vB r) (hr.over rfl)
  have hB : Below V1.heap.size V1 ((V1.alloc (Obj.cells z32.toArray 24)).setCells V1.heap.size 0 (vB r)) := below_setCells ((Below.refl _ _).alloc (Nat.le_refl _) (Obj.cells z32.toArray 24)) (b := V1.heap.size) (o := 0) (Nat.le_refl _) (vB r)
  replace hb := hb.trans (hB.mono hb.size)
  replace oO := oO.be hB
  clear hB
  go_wp2_with (first
    | (refine wpList_store_mid rfl 24 (.tmp 9) (.tmp 42) rfl V1.heap.size 0 (vB r).toArray rfl rfl T0 hr.info' hr.one ?_; simp only [Act.put]; clear T0; (change wpList _ _ _ _ _ ((V1.alloc (Obj.cells z32.toArray 24)).setCells V1.heap.size 0 (vB r))); (generalize ((V1.alloc (Obj.cells z32.toArray 24)).setCells V1.heap.size 0 (vB r)) = X1 at *); (generalize hN : V1.heap.size = N4 at *; clear hN))
    | (refine wpList_load_w rfl 24 (.tmp 9) rfl N4 0 rfl (vB r) _ n0.all Tryd.underlying24 rfl hr.info ?_; simp only [Act.put, List.setIfInBounds_toArray, List.set_cons_zero, List.set_cons_succ])
    | (refine wpList_build_dd rfl (.tmp 44) rfl r hr rfl ?_; simp only [Act.put, List.setIfInBounds_toArray, List.set_cons_zero, List.set_cons_succ])
    | (refine wpList_append_still rfl (.tmp 43) (.tmp 45) rfl X1.heap.size p _ l r hr rfl (oO.be ((Below.refl _ _).alloc (Nat.le_refl _) (Obj.cells (vB r).toArray 24))) rfl (Row.new' rfl rfl) HP.out ?_; intro v' w' q1 q2 q3 q4; obtain ⟨Ax, cx, ex, _⟩ := q1.form; subst ex; simp only [Act.put, List.setIfInBounds_toArray, List.set_cons_zero, List.set_cons_succ]; have Q1 : Hid _ := q1; have Q2 : Hid _ := q2; have Q3 : Hid _ := q3; clear q1 q2 q3 q4))
  go_ret
  have hb2 := hb.alloc hb.size (Obj.cells (vB r).toArray 24)
  refine ⟨.slice Ax (p + 1) cx, rfl, own_of Q1.out (fun g e => ?_), hb2.grown Q2.out hb2.size hFr⟩
  rcases Q3.out with q | q
  · exact hFr g (q ▸ e)
  · rw [q] at e
    simp only [Option.some.injEq] at e
    rw [← e]; exact hb2.size

/-- The document's path of any list of leaves. -/
theorem rpath_any (n : Nat) : ∀ (i : Nat) (ps : List (List (BitVec 8))), ps.length = n → i < n → n < 4398046511104 → (∀ j, j < ps.length → (ps.getD j []).length + 1 ≤ 140737488355000) → ∀ (b o cap : Nat), n ≤ cap → ∀ w : World, Given w → LnAt w b o ps →
    Calls Tryd.prog 57 #[.slice (some ⟨b, o, none⟩) n cap, .int .i64 (i : Int)] w fun e w' => ∃ v, e = .returned v ∧ w'.ownsRow w.heap.size 24 32 v (pt i ps).length ((pt i ps).flatMap vB) ∧ Below w.heap.size w w' := by
  induction n using Nat.strongRecOn with
  | ind n ih =>
    intro i ps hn hi hlt hm b o cap hc w hK hv
    by_cases e : n = 1
    · subst e
      rw [pt_one i ps hn]
      exact rpath_one _ cap _ w
    · have h2 : 2 ≤ n := by omega
      have hl : n < 4611686018427387904 := by omega
      have hb := fpart_bounds n h2 hl
      have hp := fpart_pos n
      have t1 : (ps.take (fpart n)).length = fpart n := by rw [List.length_take]; omega
      have t2 : (ps.drop (fpart n)).length = n - fpart n := by rw [List.length_drop]; omega
      have m1 : ∀ j, j < (ps.take (fpart n)).length → ((ps.take (fpart n)).getD j []).length + 1 ≤ 140737488355000 := fun j hj => by
        have hj2 : j < fpart n := by omega
        have e2 : (ps.take (fpart n)).getD j [] = ps.getD j [] := by simp [List.getD_eq_getElem?_getD, hj2]
        rw [e2]
        exact hm j (by omega)
      have m2 : ∀ j, j < (ps.drop (fpart n)).length → ((ps.drop (fpart n)).getD j []).length + 1 ≤ 140737488355000 := fun j hj => by
        have e2 : (ps.drop (fpart n)).getD j [] = ps.getD (fpart n + j) [] := by simp [List.getD_eq_getElem?_getD, List.getElem?_drop]
        rw [e2]
        exact hm (fpart n + j) (by omega)
      by_cases hk : i < fpart n
      · have q := pt_length (fpart n) i _ t1 (by omega) (by omega)
        have := pl_lt (fpart n) i (by omega) (by omega)
        rw [pt_left i n ps hn h2 hl hk, List.length_append, List.flatMap_append, List.length_singleton, List.flatMap_singleton]
        exact rpath_left n i (fpart n) _ cap b o hk h2 hl rfl _ _ (rt_length _) (by omega) hc w
          (fun W hB => ih (fpart n) hb.1 i _ t1 hk (by omega) m1 b o cap (by omega) W (hK.low hB) ((hv.below hB).take _))
          (fun W hB => rroot_any (n - fpart n) _ t2 (by omega) m2 _ rfl b (o + fpart n) (cap - fpart n) (by omega) W (hK.low hB) ((hv.below hB).drop _))
      · have q := pt_length (n - fpart n) (i - fpart n) _ t2 (by omega) (by omega)
        have := pl_lt (n - fpart n) (i - fpart n) (by omega) (by omega)
        rw [pt_right i n ps hn h2 hl hk, List.length_append, List.flatMap_append, List.length_singleton, List.flatMap_singleton]
        exact rpath_right n i (fpart n) _ cap b o hi hk h2 hl rfl _ _ (rt_length _) (by omega) hc w
          (fun W hB => ih (n - fpart n) (by omega) (i - fpart n) _ t2 (by omega) (by omega) m2 b (o + fpart n) (cap - fpart n) (by omega) W (hK.low hB) ((hv.below hB).drop _))
          (fun W hB => rroot_any (fpart n) _ t1 (by omega) m1 _ rfl b o cap (by omega) W (hK.low hB) ((hv.below hB).take _))

set_option maxRecDepth 100000 in
set_option maxHeartbeats 1000000 in
theorem rPath_out (A : Option Addr) (n cap : Nat) (i : Int) (h : i < 0 ∨ (n : Int) ≤ i) (w : World) :
    Calls Tryd.prog 24 #[.slice A n cap, .int .i64 i] w fun e w' => e = .returned (.tuple #[.slice none 0 0, .int .i64 41]) ∧ Below w.heap.size w w' := by
  have hb1 : Below w.heap.size w w := Below.refl _ _
  by_cases h0 : i < 0
  · clear h
    go_enter Tryd.func24, Tryd.ntmps24
    go_wp2_with fail
    go_ret2
    exact ⟨rfl, hb1⟩
  · have h1 : (n : Int) ≤ i := by omega
    clear h
    go_enter Tryd.func24, Tryd.ntmps24
    go_wp2_with fail
    go_ret2
    exact ⟨rfl, hb1⟩

set_option maxRecDepth 100000 in
set_option maxHeartbeats 1000000 in
theorem rPath_in (n i : Nat) (ps : List (List (BitVec 8))) (hn : ps.length = n) (hi : i < n) (hl : n < 4398046511104) (hm : ∀ j, j < ps.length → (ps.getD j []).length + 1 ≤ 140737488355000) (b o cap : Nat) (hc : n ≤ cap) (w : World) (hK : Given w) (hv : LnAt w b o ps) :
    Calls Tryd.prog 24 #[.slice (some ⟨b, o, none⟩) n cap, .int .i64 (i : Int)] w fun e w' => ∃ v, e = .returned (.tuple #[v, .int .i64 0]) ∧ w'.ownsRow w.heap.size 24 32 v (pt i ps).length ((pt i ps).flatMap vB) ∧ Below w.heap.size w w' := by
  have HP : Hid (Calls _ _ _ _ _) := rpath_any n i ps hn hi hl hm b o cap hc w hK hv
  have c1 : ¬ (i : Int) < 0 := by omega
  have c2 : ¬ (n : Int) ≤ (i : Int) := by omega
  clear hm hK hv hn
  go_enter Tryd.func24, Tryd.ntmps24
  go_wp2_with fail
  refine HP.out.mono ?_
  rintro e w2 ⟨v2, rfl, hO, hB⟩
  go_wp2_with fail
  go_ret2
  exact ⟨v2, rfl, hO, hB⟩

end Go.Proofs.YtflllmhefehpgaaDoor

namespace Go.Proofs.YtflllmhefehpgaaDoor
open Go Go.RowKit
open Sha

theorem Ow.patp {w : World} {v : Value} {p : Nat} {ds : List (List (BitVec 8))} (h : Ow w v p (vB ds.flatten)) (hp : ds.length = p) (h32 : ∀ d ∈ ds, d.length = 32) : PAt w v ds := by
  subst hp
  exact Ow.pat h h32
theorem Ow.rows {w w' : World} {v : Value} {n : Nat} {xs : List Value} (h : Ow w v n xs) (k : ∀ b cs t, Row w b cs t → t ≠ 5 → Row w' b cs t) : Ow w' v n xs := by
  refine h.block fun g e => ?_
  rcases h.2 with ⟨q, _⟩ | ⟨g', cap, cur, hv, _, hh, _⟩
  · rw [q] at e; simp [Value.ownBlock] at e
  · rw [hv] at e
    simp only [Value.ownBlock, Option.some.injEq] at e
    subst e
    have q : Row w g' cur.toList 24 := by unfold Row; rw [hh]
    have q2 := k _ _ _ q (by decide)
    unfold Row at q2
    rw [q2, hh]
/-- What Path tells of a number, and its error. -/
def pq (i : Int) (ps : List (List (BitVec 8))) : List (List (BitVec 8)) := if 0 ≤ i ∧ i < (ps.length : Int) then pt i.toNat ps else []
def pe (i : Int) (n : Nat) : Int := if 0 ≤ i ∧ i < (n : Int) then 0 else 41
theorem pq_fact (ps : List (List (BitVec 8))) (n : Nat) (hn : ps.length = n) (hs : n ≤ 1048576) (i : Int) : (∀ d ∈ pq i ps, d.length = 32) ∧ (pq i ps).length ≤ 1048576 := by
  unfold pq
  by_cases h : 0 ≤ i ∧ i < (ps.length : Int)
  · rw [if_pos h]
    refine ⟨pt_each n i.toNat ps hn (by omega) (by omega), ?_⟩
    rw [pt_length n i.toNat ps hn (by omega) (by omega)]
    have := pl_lt n i.toNat (by omega) (by omega)
    omega
  · rw [if_neg h]
    exact ⟨(fun d hd => nomatch hd), Nat.zero_le _⟩
theorem pathU (ps : List (List (BitVec 8))) (n : Nat) (hn : ps.length = n) (hs : n ≤ 1048576) (hl : ∀ i, i < n → (ps.getD i []).length ≤ 140737488351232) (i ec : Int) (he : ec = pe i n) (ds : List (List (BitVec 8))) (hd : ds = pq i ps) (b cap : Nat) (hc : n ≤ cap) (w : World) (fG : Given w) (hv : LsAt w b 0 ps) :
    Calls Tryd.prog 23 #[.slice (some ⟨b, 0, none⟩) n cap, .int .i64 i] w fun e w' => ∃ v, e = .returned (.tuple #[v, .int .i64 ec]) ∧ w'.ownsRow w.heap.size 24 32 v ds.length (vB ds.flatten) ∧ Below w.heap.size w w' := by
  subst he hd
  unfold pq pe
  by_cases h : 0 ≤ i ∧ i < (n : Int)
  · rw [hn, if_pos h, if_pos h, ← fl_flatten]
    obtain ⟨j, rfl⟩ : ∃ j : Nat, i = (j : Int) := ⟨i.toNat, by omega⟩
    exact path_in n j ps hn (by omega) (by omega) (fun k hk => by have := hl k (by omega); omega) b 0 cap hc w fG.cub hv
  · rw [hn, if_neg h, if_neg h]
    refine (path_out (some ⟨b, 0, none⟩) n cap i (by omega) w).mono ?_
    rintro e w' ⟨rfl, hB⟩
    exact ⟨_, rfl, World.ownsRow_nil _ _ _ _, hB⟩
theorem rPathU (ps : List (List (BitVec 8))) (n : Nat) (hn : ps.length = n) (hs : n ≤ 1048576) (hl : ∀ i, i < n → (ps.getD i []).length ≤ 140737488351232) (i ec : Int) (he : ec = pe i n) (ds : List (List (BitVec 8))) (hd : ds = pq i ps) (A : Option Addr) (cap : Nat) (hc : n ≤ cap) (w : World) (fG : Given w) (hv : Lv w A ps) :
    Calls Tryd.prog 24 #[.slice A n cap, .int .i64 i] w fun e w' => ∃ v, e = .returned (.tuple #[v, .int .i64 ec]) ∧ w'.ownsRow w.heap.size 24 32 v ds.length (vB ds.flatten) ∧ Below w.heap.size w w' := by
  subst he hd
  unfold pq pe
  by_cases h : 0 ≤ i ∧ i < (n : Int)
  · rw [hn, if_pos h, if_pos h, ← fl_flatten]
    obtain ⟨j, rfl⟩ : ∃ j : Nat, i = (j : Int) := ⟨i.toNat, by omega⟩
    rcases hv with h0 | ⟨b, o, rfl, hv⟩
    · subst h0; simp at hn; omega
    · exact rPath_in n j ps hn (by omega) (by omega) (fun k hk => by have := hl k (by omega); omega) b o cap hc w fG hv
  · rw [hn, if_neg h, if_neg h]
    refine (rPath_out A n cap i (by omega) w).mono ?_
    rintro e w' ⟨rfl, hB⟩
    exact ⟨_, rfl, World.ownsRow_nil _ _ _ _, hB⟩

end Go.Proofs.YtflllmhefehpgaaDoor
