/-
  The document's growth, Growth.
-/
import Derived.Test.YtflllmhefehpgaaDoorTGro
namespace Go.Proofs.YtflllmhefehpgaaDoor
open Go Go.RowKit
open Sha

set_option maxRecDepth 100000 in
set_option maxHeartbeats 1000000 in
theorem rgrowth_known (A : Option Addr) (n cap : Nat) (w : World) :
    Calls Tryd.prog 64 #[.int .i64 (n : Int), .slice A n cap, .bool true] w fun e w' => ∃ v, e = .returned v ∧ w'.ownsRow w.heap.size 24 32 v 0 [] ∧ Below w.heap.size w w' := by
  go_enter Tryd.func64, Tryd.ntmps64
  go_wp2_with fail
  go_ret
  exact ⟨.slice none 0 0, rfl, ⟨rfl, .inl ⟨rfl, rfl⟩⟩, Below.refl _ _⟩
set_option maxRecDepth 100000 in
set_option maxHeartbeats 1000000 in
theorem rgrowth_new (A : Option Addr) (n cap : Nat) (r : List (BitVec 8)) (hr : Dl r) (w : World)
    (hR : Calls Tryd.prog 22 #[.slice A n cap] w fun e w' => e = .returned (.agg (vB r).toArray) ∧ Below w.heap.size w w') :
    Calls Tryd.prog 64 #[.int .i64 (n : Int), .slice A n cap, .bool false] w fun e w' => ∃ v, e = .returned v ∧ w'.ownsRow w.heap.size 24 32 v 1 (vB r) ∧ Below w.heap.size w w' := by
  have HR : Hid (Calls _ _ _ _ _) := hR
  clear hR
  go_enter Tryd.func64, Tryd.ntmps64
  go_wp2_with fail
  refine HR.out.mono ?_
  rintro e V1 ⟨rfl, hb⟩
  have n0 : Row (V1.alloc (Obj.cells z32.toArray 24)) V1.heap.size z32 24 := Row.new' rfl rfl
  have T0 := hr.there n0 rfl
  replace n0 := n0.over (vs := vB r) (hr.over rfl)
  have hB : Below V1.heap.size V1 ((V1.alloc (Obj.cells z32.toArray 24)).setCells V1.heap.size 0 (vB r)) := below_setCells ((Below.refl _ _).alloc (Nat.le_refl _) (Obj.cells z32.toArray 24)) (b := V1.heap.size) (o := 0) (Nat.le_refl _) (vB r)
  replace hb := hb.trans (hB.mono hb.size)
  clear hB
  go_wp2_with (first
    | (refine wpList_store_mid rfl 24 (.tmp 7) (.tmp 19) rfl V1.heap.size 0 (vB r).toArray rfl rfl T0 hr.info' hr.one ?_; simp only [Act.put]; clear T0; (change wpList _ _ _ _ _ ((V1.alloc (Obj.cells z32.toArray 24)).setCells V1.heap.size 0 (vB r))); (generalize ((V1.alloc (Obj.cells z32.toArray 24)).setCells V1.heap.size 0 (vB r)) = X1 at *); (generalize hN : V1.heap.size = N4 at *; clear hN))
    | (refine wpList_load_w rfl 24 (.tmp 7) rfl N4 0 rfl (vB r) _ n0.all Tryd.underlying24 rfl hr.info ?_; simp only [Act.put, List.setIfInBounds_toArray, List.set_cons_zero, List.set_cons_succ])
    | (refine wpList_build_dd rfl (.tmp 20) rfl r hr rfl ?_; simp only [Act.put, List.setIfInBounds_toArray, List.set_cons_zero, List.set_cons_succ]))
  go_ret
  exact ⟨_, rfl, one_owns hr hb.size, hb.alloc hb.size _⟩

set_option maxRecDepth 100000 in
set_option maxHeartbeats 4000000 in
theorem rgrowth_left (n i k p cap b o : Nat) (kn : Bool) (hin : i < n) (hik : i ≤ k) (h2 : 2 ≤ n) (hn : n < 4611686018427387904) (hk : fpart n = k) (l : List Value) (r : List (BitVec 8)) (hr : Dl r) (hp : (p + 1) * 32 ≤ 140737488355328) (hc : n ≤ cap) (w : World)
    (hS : ∀ W, Below w.heap.size w W → Calls Tryd.prog 64 #[.int .i64 (i : Int), .slice (some ⟨b, o, none⟩) k cap, .bool kn] W fun e w' => ∃ v, e = .returned v ∧ w'.ownsRow W.heap.size 24 32 v p l ∧ Below W.heap.size W w')
    (hR : ∀ W, Below w.heap.size w W → Calls Tryd.prog 22 #[.slice (some ⟨b, o + k, none⟩) (n - k) (cap - k)] W fun e w' => e = .returned (.agg (vB r).toArray) ∧ Below W.heap.size W w') :
    Calls Tryd.prog 64 #[.int .i64 (i : Int), .slice (some ⟨b, o, none⟩) n cap, .bool kn] w fun e w' => ∃ v, e = .returned v ∧ w'.ownsRow w.heap.size 24 32 v (p + 1) (l ++ vB r) ∧ Below w.heap.size w w' := by
  have HS : Hid (∀ W, _ → _) := hS
  have HR : Hid (∀ W, _ → _) := hR
  have HP : Hid ((p + 1) * 32 ≤ 140737488355328) := hp
  have HF : Hid (∀ w, _) := fun w => rbelow_any n h2 hn w
  rw [hk] at HF
  have HKN : Hid (k < n) := by show _ < _; rw [← hk]; exact (fpart_bounds n h2 hn).1
  have HC : Hid (n ≤ cap) := hc
  have n1 : ¬ (i : Int) = (n : Int) := by omega
  have c1 : (i : Int) ≤ (k : Int) := by omega
  clear hS hR hk h2 hn hc hp hik hin
  have hb : Below w.heap.size w w := Below.refl _ _
  go_enter Tryd.func64, Tryd.ntmps64
  go_wp2_with fail
  refine (HF.out w).mono ?_
  rintro e w2 ⟨rfl, rfl⟩
  go_wp2_with (refine wpList_slice_to rfl 25 22 (.tmp 29) (.tmp 30) b o n cap k rfl rfl rfl (Nat.le_trans (Nat.le_of_lt HKN.out) HC.out) Tryd.underlying25 info_slb ?_; simp only [Act.put, List.setIfInBounds_toArray, List.set_cons_zero, List.set_cons_succ])
  refine (HS.out _ hb).mono ?_
  rintro e V0 ⟨v0, rfl, hO, hB⟩
  replace hb := hb.trans (hB.mono hb.size)
  replace hO := own_less hO (Nat.le_refl _)
  have hFr := fresh_of hO
  have oO := ow_of hO
  clear hB hO
  obtain ⟨Av, cv, ev, _⟩ := oO.form
  subst ev
  go_wp2_with (refine wpList_slice_on rfl 25 22 (.tmp 34) (.tmp 35) b o n cap k rfl rfl rfl (Nat.le_of_lt HKN.out) (Nat.lt_of_lt_of_le HKN.out HC.out) Tryd.underlying25 info_slb ?_; simp only [Act.put, List.setIfInBounds_toArray, List.set_cons_zero, List.set_cons_succ])
  refine (HR.out V0 hb).mono ?_
  rintro e V1 ⟨rfl, hB⟩
  replace hb := hb.trans (hB.mono hb.size)
  replace oO := oO.be hB
  clear hB
  have n0 : Row (V1.alloc (Obj.cells z32.toArray 24)) V1.heap.size z32 24 := Row.new' rfl rfl
  have T0 := hr.there n0 rfl
  replace n0 := n0.over (vs := vB r) (hr.over rfl)
  have hB : Below V1.heap.size V1 ((V1.alloc (Obj.cells z32.toArray 24)).setCells V1.heap.size 0 (vB r)) := below_setCells ((Below.refl _ _).alloc (Nat.le_refl _) (Obj.cells z32.toArray 24)) (b := V1.heap.size) (o := 0) (Nat.le_refl _) (vB r)
  replace hb := hb.trans (hB.mono hb.size)
  replace oO := oO.be hB
  clear hB
  go_wp2_with (first
    | (refine wpList_store_mid rfl 24 (.tmp 10) (.tmp 37) rfl V1.heap.size 0 (vB r).toArray rfl rfl T0 hr.info' hr.one ?_; simp only [Act.put]; clear T0; (change wpList _ _ _ _ _ ((V1.alloc (Obj.cells z32.toArray 24)).setCells V1.heap.size 0 (vB r))); (generalize ((V1.alloc (Obj.cells z32.toArray 24)).setCells V1.heap.size 0 (vB r)) = X1 at *); (generalize hN : V1.heap.size = N4 at *; clear hN))
    | (refine wpList_load_w rfl 24 (.tmp 10) rfl N4 0 rfl (vB r) _ n0.all Tryd.underlying24 rfl hr.info ?_; simp only [Act.put, List.setIfInBounds_toArray, List.set_cons_zero, List.set_cons_succ])
    | (refine wpList_build_dd rfl (.tmp 39) rfl r hr rfl ?_; simp only [Act.put, List.setIfInBounds_toArray, List.set_cons_zero, List.set_cons_succ])
    | (refine wpList_append_still rfl (.tmp 38) (.tmp 40) rfl X1.heap.size p _ l r hr rfl (oO.be ((Below.refl _ _).alloc (Nat.le_refl _) (Obj.cells (vB r).toArray 24))) rfl (Row.new' rfl rfl) HP.out ?_; intro v' w' q1 q2 q3 q4; obtain ⟨Ax, cx, ex, _⟩ := q1.form; subst ex; simp only [Act.put, List.setIfInBounds_toArray, List.set_cons_zero, List.set_cons_succ]; have Q1 : Hid _ := q1; have Q2 : Hid _ := q2; have Q3 : Hid _ := q3; clear q1 q2 q3 q4))
  go_ret
  have hb2 := hb.alloc hb.size (Obj.cells (vB r).toArray 24)
  refine ⟨.slice Ax (p + 1) cx, rfl, own_of Q1.out (fun g e => ?_), hb2.grown Q2.out hb2.size hFr⟩
  rcases Q3.out with q | q
  · exact hFr g (q ▸ e)
  · rw [q] at e
    simp only [Option.some.injEq] at e
    rw [← e]; exact hb2.size

set_option maxRecDepth 100000 in
set_option maxHeartbeats 4000000 in
theorem rgrowth_right (n i k p cap b o : Nat) (kn : Bool) (hin : i < n) (hik : ¬ i ≤ k) (h2 : 2 ≤ n) (hn : n < 4611686018427387904) (hk : fpart n = k) (l : List Value) (r : List (BitVec 8)) (hr : Dl r) (hp : (p + 1) * 32 ≤ 140737488355328) (hc : n ≤ cap) (w : World)
    (hS : ∀ W, Below w.heap.size w W → Calls Tryd.prog 64 #[.int .i64 ((i - k : Nat) : Int), .slice (some ⟨b, o + k, none⟩) (n - k) (cap - k), .bool false] W fun e w' => ∃ v, e = .returned v ∧ w'.ownsRow W.heap.size 24 32 v p l ∧ Below W.heap.size W w')
    (hR : ∀ W, Below w.heap.size w W → Calls Tryd.prog 22 #[.slice (some ⟨b, o, none⟩) k cap] W fun e w' => e = .returned (.agg (vB r).toArray) ∧ Below W.heap.size W w') :
    Calls Tryd.prog 64 #[.int .i64 (i : Int), .slice (some ⟨b, o, none⟩) n cap, .bool kn] w fun e w' => ∃ v, e = .returned v ∧ w'.ownsRow w.heap.size 24 32 v (p + 1) (l ++ vB r) ∧ Below w.heap.size w w' := by
  have HS : Hid (∀ W, _ → _) := hS
  have HR : Hid (∀ W, _ → _) := hR
  have HP : Hid ((p + 1) * 32 ≤ 140737488355328) := hp
  have HF : Hid (∀ w, _) := fun w => rbelow_any n h2 hn w
  rw [hk] at HF
  have HKN : Hid (k < n) := by show _ < _; rw [← hk]; exact (fpart_bounds n h2 hn).1
  have HC : Hid (n ≤ cap) := hc
  have n1 : ¬ (i : Int) = (n : Int) := by omega
  have c1 : ¬ (i : Int) ≤ (k : Int) := by omega
  have ES : Hid ((i : Int) - (k : Int) = ((i - k : Nat) : Int)) := by show _ = _; omega
  rw [← ES.out] at HS
  have b1 : -9223372036854775808 ≤ (i : Int) - (k : Int) := by omega
  have b2 : (i : Int) - (k : Int) < 9223372036854775808 := by omega
  clear hS hR hk h2 hn hc hp hik hin
  have hb : Below w.heap.size w w := Below.refl _ _
  go_enter Tryd.func64, Tryd.ntmps64
  go_wp2_with fail
  refine (HF.out w).mono ?_
  rintro e w2 ⟨rfl, rfl⟩
  go_wp2_with (refine wpList_slice_on rfl 25 22 (.tmp 45) (.tmp 46) b o n cap k rfl rfl rfl (Nat.le_of_lt HKN.out) (Nat.lt_of_lt_of_le HKN.out HC.out) Tryd.underlying25 info_slb ?_; simp only [Act.put, List.setIfInBounds_toArray, List.set_cons_zero, List.set_cons_succ])
  refine (HS.out _ hb).mono ?_
  rintro e V0 ⟨v0, rfl, hO, hB⟩
  replace hb := hb.trans (hB.mono hb.size)
  replace hO := own_less hO (Nat.le_refl _)
  have hFr := fresh_of hO
  have oO := ow_of hO
  clear hB hO
  obtain ⟨Av, cv, ev, _⟩ := oO.form
  subst ev
  go_wp2_with (refine wpList_slice_to rfl 25 22 (.tmp 49) (.tmp 50) b o n cap k rfl rfl rfl (Nat.le_trans (Nat.le_of_lt HKN.out) HC.out) Tryd.underlying25 info_slb ?_; simp only [Act.put, List.setIfInBounds_toArray, List.set_cons_zero, List.set_cons_succ])
  refine (HR.out V0 hb).mono ?_
  rintro e V1 ⟨rfl, hB⟩
  replace hb := hb.trans (hB.mono hb.size)
  replace oO := oO.be hB
  clear hB
  have n0 : Row (V1.alloc (Obj.cells z32.toArray 24)) V1.heap.size z32 24 := Row.new' rfl rfl
  have T0 := hr.there n0 rfl
  replace n0 := n0.over (vs := vB r) (hr.over rfl)
  have hB : Below V1.heap.size V1 ((V1.alloc (Obj.cells z32.toArray 24)).setCells V1.heap.size 0 (vB r)) := below_setCells ((Below.refl _ _).alloc (Nat.le_refl _) (Obj.cells z32.toArray 24)) (b := V1.heap.size) (o := 0) (Nat.le_refl _) (vB r)
  replace hb := hb.trans (hB.mono hb.size)
  replace oO := oO.be hB
  clear hB
  go_wp2_with (first
    | (refine wpList_store_mid rfl 24 (.tmp 12) (.tmp 52) rfl V1.heap.size 0 (vB r).toArray rfl rfl T0 hr.info' hr.one ?_; simp only [Act.put]; clear T0; (change wpList _ _ _ _ _ ((V1.alloc (Obj.cells z32.toArray 24)).setCells V1.heap.size 0 (vB r))); (generalize ((V1.alloc (Obj.cells z32.toArray 24)).setCells V1.heap.size 0 (vB r)) = X1 at *); (generalize hN : V1.heap.size = N4 at *; clear hN))
    | (refine wpList_load_w rfl 24 (.tmp 12) rfl N4 0 rfl (vB r) _ n0.all Tryd.underlying24 rfl hr.info ?_; simp only [Act.put, List.setIfInBounds_toArray, List.set_cons_zero, List.set_cons_succ])
    | (refine wpList_build_dd rfl (.tmp 54) rfl r hr rfl ?_; simp only [Act.put, List.setIfInBounds_toArray, List.set_cons_zero, List.set_cons_succ])
    | (refine wpList_append_still rfl (.tmp 53) (.tmp 55) rfl X1.heap.size p _ l r hr rfl (oO.be ((Below.refl _ _).alloc (Nat.le_refl _) (Obj.cells (vB r).toArray 24))) rfl (Row.new' rfl rfl) HP.out ?_; intro v' w' q1 q2 q3 q4; obtain ⟨Ax, cx, ex, _⟩ := q1.form; subst ex; simp only [Act.put, List.setIfInBounds_toArray, List.set_cons_zero, List.set_cons_succ]; have Q1 : Hid _ := q1; have Q2 : Hid _ := q2; have Q3 : Hid _ := q3; clear q1 q2 q3 q4))
  go_ret
  have hb2 := hb.alloc hb.size (Obj.cells (vB r).toArray 24)
  refine ⟨.slice Ax (p + 1) cx, rfl, own_of Q1.out (fun g e => ?_), hb2.grown Q2.out hb2.size hFr⟩
  rcases Q3.out with q | q
  · exact hFr g (q ▸ e)
  · rw [q] at e
    simp only [Option.some.injEq] at e
    rw [← e]; exact hb2.size

theorem rgrowth_any (n : Nat) : ∀ (m : Nat) (kn : Bool) (ps : List (List (BitVec 8))), ps.length = n → 1 ≤ m → m ≤ n → n < 4398046511104 → (∀ j, j < ps.length → (ps.getD j []).length + 1 ≤ 140737488355000) → ∀ (b o cap : Nat), n ≤ cap → ∀ w : World, Given w → LnAt w b o ps →
    Calls Tryd.prog 64 #[.int .i64 (m : Int), .slice (some ⟨b, o, none⟩) n cap, .bool kn] w fun e w' => ∃ v, e = .returned v ∧ w'.ownsRow w.heap.size 24 32 v (gr m ps kn).length ((gr m ps kn).flatMap vB) ∧ Below w.heap.size w w' := by
  induction n using Nat.strongRecOn with
  | ind n ih =>
    intro m kn ps hn h1 hmn hlt hm b o cap hc w hK hv
    by_cases e : m = n
    · subst e
      rw [gr_same m ps kn hn]
      cases kn
      · rw [if_neg (by decide), List.length_singleton, List.flatMap_singleton]
        exact rgrowth_new _ m cap _ (rt_length _) w (rroot_any m ps hn (by omega) hm _ rfl b o cap hc w hK hv)
      · rw [if_pos rfl]
        exact rgrowth_known _ m cap w
    · have h2 : 2 ≤ n := by omega
      have hl : n < 4611686018427387904 := by omega
      have hb := fpart_bounds n h2 hl
      have hp := fpart_pos n
      have t1 : (ps.take (fpart n)).length = fpart n := by rw [List.length_take]; omega
      have t2 : (ps.drop (fpart n)).length = n - fpart n := by rw [List.length_drop]; omega
      have m1 : ∀ j, j < (ps.take (fpart n)).length → ((ps.take (fpart n)).getD j []).length + 1 ≤ 140737488355000 := fun j hj => by
        have hj2 : j < fpart n := by omega
        have e2 : (ps.take (fpart n)).getD j [] = ps.getD j [] := by simp [List.getD_eq_getElem?_getD, hj2]
        rw [e2]
        exact hm j (by omega)
      have m2 : ∀ j, j < (ps.drop (fpart n)).length → ((ps.drop (fpart n)).getD j []).length + 1 ≤ 140737488355000 := fun j hj => by
        have e2 : (ps.drop (fpart n)).getD j [] = ps.getD (fpart n + j) [] := by simp [List.getD_eq_getElem?_getD, List.getElem?_drop]
        rw [e2]
        exact hm (fpart n + j) (by omega)
      by_cases hk : m ≤ fpart n
      · have q := (gr_fact (fpart n) m kn _ t1 h1 hk (by omega)).2
        rw [gr_left m n kn ps hn h1 (by omega) hl hk, List.length_append, List.flatMap_append, List.length_singleton, List.flatMap_singleton]
        exact rgrowth_left n m (fpart n) _ cap b o kn (by omega) hk h2 hl rfl _ _ (rt_length _) (by omega) hc w
          (fun W hB => ih (fpart n) hb.1 m kn _ t1 h1 hk (by omega) m1 b o cap (by omega) W (hK.low hB) ((hv.below hB).take _))
          (fun W hB => rroot_any (n - fpart n) _ t2 (by omega) m2 _ rfl b (o + fpart n) (cap - fpart n) (by omega) W (hK.low hB) ((hv.below hB).drop _))
      · have q := (gr_fact (n - fpart n) (m - fpart n) false _ t2 (by omega) (by omega) (by omega)).2
        rw [gr_right m n kn ps hn h1 (by omega) hl hk, List.length_append, List.flatMap_append, List.length_singleton, List.flatMap_singleton]
        exact rgrowth_right n m (fpart n) _ cap b o kn (by omega) hk h2 hl rfl _ _ (rt_length _) (by omega) hc w
          (fun W hB => ih (n - fpart n) (by omega) (m - fpart n) false _ t2 (by omega) (by omega) (by omega) m2 b (o + fpart n) (cap - fpart n) (by omega) W (hK.low hB) ((hv.below hB).drop _))
          (fun W hB => rroot_any (fpart n) _ t1 (by omega) m1 _ rfl b o cap (by omega) W (hK.low hB) ((hv.below hB).take _))

set_option maxRecDepth 100000 in
set_option maxHeartbeats 1000000 in
theorem rGrow_out (A : Option Addr) (n cap : Nat) (i : Int) (h : i < 0 ∨ (n : Int) < i) (w : World) :
    Calls Tryd.prog 33 #[.slice A n cap, .int .i64 i] w fun e w' => e = .returned (.tuple #[.slice none 0 0, .int .i64 40]) ∧ Below w.heap.size w w' := by
  have hb1 : Below w.heap.size w w := Below.refl _ _
  by_cases h0 : i < 0
  · clear h
    go_enter Tryd.func33, Tryd.ntmps33
    go_wp2_with fail
    go_ret2
    exact ⟨rfl, hb1⟩
  · have h1 : (n : Int) < i := by omega
    clear h
    go_enter Tryd.func33, Tryd.ntmps33
    go_wp2_with fail
    go_ret2
    exact ⟨rfl, hb1⟩
set_option maxRecDepth 100000 in
set_option maxHeartbeats 1000000 in
theorem rGrow_zero (A : Option Addr) (n cap : Nat) (w : World) :
    Calls Tryd.prog 33 #[.slice A n cap, .int .i64 0] w fun e w' => e = .returned (.tuple #[.slice none 0 0, .int .i64 0]) ∧ Below w.heap.size w w' := by
  have hb1 : Below w.heap.size w w := Below.refl _ _
  have c2 : ¬ (n : Int) < 0 := by omega
  go_enter Tryd.func33, Tryd.ntmps33
  go_wp2_with fail
  go_ret2
  exact ⟨rfl, hb1⟩
set_option maxRecDepth 100000 in
set_option maxHeartbeats 1000000 in
theorem rGrow_in (n i : Nat) (ps : List (List (BitVec 8))) (hn : ps.length = n) (h1 : 1 ≤ i) (hi : i ≤ n) (hl : n < 4398046511104) (hm : ∀ j, j < ps.length → (ps.getD j []).length + 1 ≤ 140737488355000) (b o cap : Nat) (hc : n ≤ cap) (w : World) (hK : Given w) (hv : LnAt w b o ps) :
    Calls Tryd.prog 33 #[.slice (some ⟨b, o, none⟩) n cap, .int .i64 (i : Int)] w fun e w' => ∃ v, e = .returned (.tuple #[v, .int .i64 0]) ∧ w'.ownsRow w.heap.size 24 32 v (gr i ps true).length ((gr i ps true).flatMap vB) ∧ Below w.heap.size w w' := by
  have HP : Hid (Calls _ _ _ _ _) := rgrowth_any n i true ps hn h1 hi hl hm b o cap hc w hK hv
  have c1 : ¬ (i : Int) < 0 := by omega
  have c2 : ¬ (n : Int) < (i : Int) := by omega
  have c3 : ¬ (i : Int) = 0 := by omega
  clear hm hK hv hn
  go_enter Tryd.func33, Tryd.ntmps33
  go_wp2_with fail
  refine HP.out.mono ?_
  rintro e w2 ⟨v2, rfl, hO, hB⟩
  go_wp2_with fail
  go_ret2
  exact ⟨v2, rfl, hO, hB⟩

end Go.Proofs.YtflllmhefehpgaaDoor
