/-
  The document's Grew.
-/
import Derived.Test.YtnogjhbohljjnaaDoorTCm
import Derived.Test.YtnogjhbohljjnaaDoorTGrew
import Derived.Test.YtnogjhbohljjnaaDoorTRck
namespace Go.Proofs.YtnogjhbohljjnaaDoor
open Go Go.RowKit
open Sha


set_option maxRecDepth 100000 in
set_option maxHeartbeats 1000000 in
theorem rgrew_a (m n : Int) (h : n < 0) (was root : List (BitVec 8)) (pv : Value) (w : World) :
    Calls Tryd.prog 35 #[.agg (vB was).toArray, .int .i64 m, .agg (vB root).toArray, .int .i64 n, pv] w fun e w' => e = .returned (.int .i64 40) ∧ Below w.heap.size w w' := by
  have hb : Below w.heap.size w ((w.alloc (Obj.cells (vB was).toArray 24)).alloc (Obj.cells (vB root).toArray 24)) := ((Below.refl _ _).alloc (Nat.le_refl _) _).alloc (by simp) _
  go_enter Tryd.func35, Tryd.ntmps35
  go_wp2_with fail
  go_ret
  exact ⟨rfl, hb⟩

set_option maxRecDepth 100000 in
set_option maxHeartbeats 1000000 in
theorem rgrew_b (m n : Int) (h0 : ¬ n < 0) (h : 1099511627776 < n) (was root : List (BitVec 8)) (pv : Value) (w : World) :
    Calls Tryd.prog 35 #[.agg (vB was).toArray, .int .i64 m, .agg (vB root).toArray, .int .i64 n, pv] w fun e w' => e = .returned (.int .i64 40) ∧ Below w.heap.size w w' := by
  have c1 : decide (1099511627776 < n) = true := decide_eq_true h
  have c2 : ¬ n ≤ 1099511627776 := by omega
  have hb : Below w.heap.size w ((w.alloc (Obj.cells (vB was).toArray 24)).alloc (Obj.cells (vB root).toArray 24)) := ((Below.refl _ _).alloc (Nat.le_refl _) _).alloc (by simp) _
  go_enter Tryd.func35, Tryd.ntmps35
  go_wp2_with fail
  go_ret
  exact ⟨rfl, hb⟩

set_option maxRecDepth 100000 in
set_option maxHeartbeats 1000000 in
theorem rgrew_c (m n : Int) (h0 : ¬ n < 0) (h1 : ¬ 1099511627776 < n) (h : m < 0) (was root : List (BitVec 8)) (pv : Value) (w : World) :
    Calls Tryd.prog 35 #[.agg (vB was).toArray, .int .i64 m, .agg (vB root).toArray, .int .i64 n, pv] w fun e w' => e = .returned (.int .i64 40) ∧ Below w.heap.size w w' := by
  have c1 : decide (1099511627776 < n) = false := decide_eq_false h1
  have hb : Below w.heap.size w ((w.alloc (Obj.cells (vB was).toArray 24)).alloc (Obj.cells (vB root).toArray 24)) := ((Below.refl _ _).alloc (Nat.le_refl _) _).alloc (by simp) _
  go_enter Tryd.func35, Tryd.ntmps35
  go_wp2_with fail
  go_ret
  exact ⟨rfl, hb⟩

set_option maxRecDepth 100000 in
set_option maxHeartbeats 1000000 in
theorem rgrew_d (m n : Int) (h0 : ¬ n < 0) (h1 : ¬ 1099511627776 < n) (h2 : ¬ m < 0) (h : n < m) (was root : List (BitVec 8)) (pv : Value) (w : World) :
    Calls Tryd.prog 35 #[.agg (vB was).toArray, .int .i64 m, .agg (vB root).toArray, .int .i64 n, pv] w fun e w' => e = .returned (.int .i64 40) ∧ Below w.heap.size w w' := by
  have c1 : decide (1099511627776 < n) = false := decide_eq_false h1
  have hb : Below w.heap.size w ((w.alloc (Obj.cells (vB was).toArray 24)).alloc (Obj.cells (vB root).toArray 24)) := ((Below.refl _ _).alloc (Nat.le_refl _) _).alloc (by simp) _
  go_enter Tryd.func35, Tryd.ntmps35
  go_wp2_with fail
  go_ret
  exact ⟨rfl, hb⟩

set_option maxRecDepth 100000 in
set_option maxHeartbeats 2000000 in
theorem rgrew_len (m n k pc : Nat) (hmn : m ≤ n) (hn : n ≤ 1099511627776) (hk : k ≠ gl m n) (was root : List (BitVec 8)) (PA : Option Addr) (w : World) :
    Calls Tryd.prog 35 #[.agg (vB was).toArray, .int .i64 (m : Int), .agg (vB root).toArray, .int .i64 (n : Int), .slice PA k pc] w fun e w' => e = .returned (.int .i64 43) ∧ Below w.heap.size w w' := by
  have hb : Below w.heap.size w ((w.alloc (Obj.cells (vB was).toArray 24)).alloc (Obj.cells (vB root).toArray 24)) := ((Below.refl _ _).alloc (Nat.le_refl _) _).alloc (by simp) _
  have c0 : ¬ (n : Int) < 0 := by omega
  have c1 : ¬ (1099511627776 : Int) < (n : Int) := by omega
  have c1b : (n : Int) ≤ 1099511627776 := by omega
  have c1c : decide ((1099511627776 : Int) < (n : Int)) = false := decide_eq_false c1
  have c2 : ¬ (m : Int) < 0 := by omega
  have c3 : ¬ (n : Int) < (m : Int) := by omega
  by_cases h0 : m = 0
  · subst h0
    have c5 : ¬ (k : Int) = 0 := by have : gl 0 n = 0 := rfl; omega
    clear hmn hn hk
    go_enter Tryd.func35, Tryd.ntmps35
    go_wp2_with fail
    go_ret
    exact ⟨rfl, hb⟩
  · have HG : Hid (∀ w, _) := fun w => long_any n m true (by omega) hmn (by omega) w
    have c4 : (0 : Int) < (m : Int) := by omega
    have c5 : ¬ (k : Int) = (gs m n true : Int) := by have : gl m n = gs m n true := if_neg h0; omega
    generalize gs m n true = p at *
    clear hmn hn hk h0
    go_enter Tryd.func35, Tryd.ntmps35
    go_wp2_with (go_at_call 67; refine (HG.out _).mono ?_; rintro e w2 ⟨rfl, rfl⟩)
    go_ret
    exact ⟨rfl, hb⟩

set_option maxRecDepth 100000 in
set_option maxHeartbeats 4000000 in
theorem rgrew_none (n pc : Nat) (hn : n ≤ 1099511627776) (was root o : List (BitVec 8)) (Hw : Dl was) (Hr : Dl root) (ho : o = dig []) (E : Int) (hE : E = if was = o ∧ (0 < n ∨ root = o) then 0 else 43) (PA : Option Addr) (w : World) (hG : Given w) :
    Calls Tryd.prog 35 #[.agg (vB was).toArray, .int .i64 0, .agg (vB root).toArray, .int .i64 (n : Int), .slice PA 0 pc] w fun e w' => e = .returned (.int .i64 E) ∧ Below w.heap.size w w' := by
  have HO : Hid (o = dig []) := ho
  have Ho : Dl o := by rw [ho]; exact dl_dig _
  have HGV : Hid (∀ W, Below w.heap.size w W → Given W) := fun W hB => hG.low hB
  have HEE : Hid (E = _) := hE
  have c0 : ¬ (n : Int) < 0 := by omega
  have c1 : ¬ (1099511627776 : Int) < (n : Int) := by omega
  have c1b : (n : Int) ≤ 1099511627776 := by omega
  have c1c : decide ((1099511627776 : Int) < (n : Int)) = false := decide_eq_false c1
  have c3 : ¬ (n : Int) < 0 := by omega
  clear ho hE hG hn
  have hb : Below w.heap.size w ((w.alloc (Obj.cells (vB was).toArray 24)).alloc (Obj.cells (vB root).toArray 24)) := ((Below.refl _ _).alloc (Nat.le_refl _) _).alloc (by simp) _
  have r5 : Row ((w.alloc (Obj.cells (vB was).toArray 24)).alloc (Obj.cells (vB root).toArray 24)) w.heap.size (vB was) 24 := (Row.new w (vB was) _).alloc _
  have r7 : Row ((w.alloc (Obj.cells (vB was).toArray 24)).alloc (Obj.cells (vB root).toArray 24)) (w.heap.size + 1) (vB root) 24 := Row.new' (by simp) rfl
  go_enter Tryd.func35, Tryd.ntmps35
  go_wp2_with fail
  refine (rsum_any [] o HO.out (by decide) _ _ (.inl ⟨rfl, none, 0, rfl⟩) (HGV.out _ hb)).mono ?_
  rintro e V0 ⟨rfl, hB⟩
  replace hb := hb.trans (hB.mono hb.size)
  replace r5 := Row.below r5 hB (Row.lt r5)
  replace r7 := Row.below r7 hB (Row.lt r7)
  clear hB
  by_cases b1 : was = o
  · by_cases hn : 0 < n
    · have HE : Hid (E = 0) := by show _ = _; rw [HEE.out, if_pos ⟨b1, .inl hn⟩]
      have c4 : ¬ (n : Int) = 0 := by omega
      have HB1 : Hid ((!decide (was = o)) = false) := by show _ = _; simp [b1]
      clear HEE b1 hn
      have o_r12 : w.heap.size + 1 < V0.heap.size := Row.lt r7
      have n0 : Row (V0.alloc (Obj.cells z32.toArray 24)) V0.heap.size z32 24 := Row.new' rfl rfl
      have T0 := Ho.there n0 rfl
      replace n0 := n0.over (vs := vB o) (Ho.over rfl)
      have hB : Below V0.heap.size V0 ((V0.alloc (Obj.cells z32.toArray 24)).setCells V0.heap.size 0 (vB o)) := below_setCells ((Below.refl _ _).alloc (Nat.le_refl _) (Obj.cells z32.toArray 24)) (b := V0.heap.size) (o := 0) (Nat.le_refl _) (vB o)
      replace hb := hb.trans (hB.mono hb.size)
      replace r5 := Row.below r5 hB (Row.lt r5)
      replace r7 := Row.below r7 hB (Row.lt r7)
      clear hB
      have r12 := n0
      clear n0
      go_wp2_with (first
        | (refine wpList_store_mid rfl 24 (.tmp 12) (.tmp 38) rfl V0.heap.size 0 (vB o).toArray rfl rfl T0 Ho.info' Ho.one ?_; simp only [Act.put]; clear T0; (change wpList _ _ _ _ _ ((V0.alloc (Obj.cells z32.toArray 24)).setCells V0.heap.size 0 (vB o))); (generalize ((V0.alloc (Obj.cells z32.toArray 24)).setCells V0.heap.size 0 (vB o)) = X1 at *); (generalize hN : V0.heap.size = N12 at *; clear hN))
        | (refine wpList_load_w rfl 24 (.tmp 5) rfl (w.heap.size) 0 rfl (vB was) _ r5.all Tryd.underlying24 rfl Hw.info ?_; simp only [Act.put, List.setIfInBounds_toArray, List.set_cons_zero, List.set_cons_succ])
        | (refine wpList_load_w rfl 24 (.tmp 7) rfl (w.heap.size + 1) 0 rfl (vB root) _ r7.all Tryd.underlying24 rfl Hr.info ?_; simp only [Act.put, List.setIfInBounds_toArray, List.set_cons_zero, List.set_cons_succ])
        | (refine wpList_load_w rfl 24 (.tmp 12) rfl N12 0 rfl (vB o) _ r12.all Tryd.underlying24 rfl Ho.info ?_; simp only [Act.put, List.setIfInBounds_toArray, List.set_cons_zero, List.set_cons_succ])
        | (refine wpList_neq_d2 rfl (.tmp 41) (.tmp 42) 24 rfl was o false HB1.out Hw Ho rfl rfl ?_; simp only [Act.put, List.setIfInBounds_toArray, List.set_cons_zero, List.set_cons_succ]))
      go_ret
      exact ⟨by rw [HE.out]; rfl, hb⟩
    · obtain rfl : n = 0 := by omega
      by_cases b2 : root = o
      · have HE : Hid (E = 0) := by show _ = _; rw [HEE.out, if_pos ⟨b1, .inr b2⟩]
        have HB1 : Hid ((!decide (was = o)) = false) := by show _ = _; simp [b1]
        have HB2 : Hid ((!decide (root = o)) = false) := by show _ = _; simp [b2]
        clear HEE b1 b2 hn
        have o_r12 : w.heap.size + 1 < V0.heap.size := Row.lt r7
        have n0 : Row (V0.alloc (Obj.cells z32.toArray 24)) V0.heap.size z32 24 := Row.new' rfl rfl
        have T0 := Ho.there n0 rfl
        replace n0 := n0.over (vs := vB o) (Ho.over rfl)
        have hB : Below V0.heap.size V0 ((V0.alloc (Obj.cells z32.toArray 24)).setCells V0.heap.size 0 (vB o)) := below_setCells ((Below.refl _ _).alloc (Nat.le_refl _) (Obj.cells z32.toArray 24)) (b := V0.heap.size) (o := 0) (Nat.le_refl _) (vB o)
        replace hb := hb.trans (hB.mono hb.size)
        replace r5 := Row.below r5 hB (Row.lt r5)
        replace r7 := Row.below r7 hB (Row.lt r7)
        clear hB
        have r12 := n0
        clear n0
        go_wp2_with (first
          | (refine wpList_store_mid rfl 24 (.tmp 12) (.tmp 38) rfl V0.heap.size 0 (vB o).toArray rfl rfl T0 Ho.info' Ho.one ?_; simp only [Act.put]; clear T0; (change wpList _ _ _ _ _ ((V0.alloc (Obj.cells z32.toArray 24)).setCells V0.heap.size 0 (vB o))); (generalize ((V0.alloc (Obj.cells z32.toArray 24)).setCells V0.heap.size 0 (vB o)) = X1 at *); (generalize hN : V0.heap.size = N12 at *; clear hN))
          | (refine wpList_load_w rfl 24 (.tmp 5) rfl (w.heap.size) 0 rfl (vB was) _ r5.all Tryd.underlying24 rfl Hw.info ?_; simp only [Act.put, List.setIfInBounds_toArray, List.set_cons_zero, List.set_cons_succ])
          | (refine wpList_load_w rfl 24 (.tmp 7) rfl (w.heap.size + 1) 0 rfl (vB root) _ r7.all Tryd.underlying24 rfl Hr.info ?_; simp only [Act.put, List.setIfInBounds_toArray, List.set_cons_zero, List.set_cons_succ])
          | (refine wpList_load_w rfl 24 (.tmp 12) rfl N12 0 rfl (vB o) _ r12.all Tryd.underlying24 rfl Ho.info ?_; simp only [Act.put, List.setIfInBounds_toArray, List.set_cons_zero, List.set_cons_succ])
          | (refine wpList_neq_d2 rfl (.tmp 41) (.tmp 42) 24 rfl was o false HB1.out Hw Ho rfl rfl ?_; simp only [Act.put, List.setIfInBounds_toArray, List.set_cons_zero, List.set_cons_succ])
          | (refine wpList_neq_d2 rfl (.tmp 48) (.tmp 49) 24 rfl root o false HB2.out Hr Ho rfl rfl ?_; simp only [Act.put, List.setIfInBounds_toArray, List.set_cons_zero, List.set_cons_succ]))
        go_ret
        exact ⟨by rw [HE.out]; rfl, hb⟩
      · have HE : Hid (E = 43) := by show _ = _; rw [HEE.out, if_neg (fun h => by rcases h.2 with h | h; exact absurd h (by decide); exact b2 h)]
        have HB1 : Hid ((!decide (was = o)) = false) := by show _ = _; simp [b1]
        have HB2 : Hid ((!decide (root = o)) = true) := by show _ = _; simp [b2]
        clear HEE b1 b2 hn
        have o_r12 : w.heap.size + 1 < V0.heap.size := Row.lt r7
        have n0 : Row (V0.alloc (Obj.cells z32.toArray 24)) V0.heap.size z32 24 := Row.new' rfl rfl
        have T0 := Ho.there n0 rfl
        replace n0 := n0.over (vs := vB o) (Ho.over rfl)
        have hB : Below V0.heap.size V0 ((V0.alloc (Obj.cells z32.toArray 24)).setCells V0.heap.size 0 (vB o)) := below_setCells ((Below.refl _ _).alloc (Nat.le_refl _) (Obj.cells z32.toArray 24)) (b := V0.heap.size) (o := 0) (Nat.le_refl _) (vB o)
        replace hb := hb.trans (hB.mono hb.size)
        replace r5 := Row.below r5 hB (Row.lt r5)
        replace r7 := Row.below r7 hB (Row.lt r7)
        clear hB
        have r12 := n0
        clear n0
        go_wp2_with (first
          | (refine wpList_store_mid rfl 24 (.tmp 12) (.tmp 38) rfl V0.heap.size 0 (vB o).toArray rfl rfl T0 Ho.info' Ho.one ?_; simp only [Act.put]; clear T0; (change wpList _ _ _ _ _ ((V0.alloc (Obj.cells z32.toArray 24)).setCells V0.heap.size 0 (vB o))); (generalize ((V0.alloc (Obj.cells z32.toArray 24)).setCells V0.heap.size 0 (vB o)) = X1 at *); (generalize hN : V0.heap.size = N12 at *; clear hN))
          | (refine wpList_load_w rfl 24 (.tmp 5) rfl (w.heap.size) 0 rfl (vB was) _ r5.all Tryd.underlying24 rfl Hw.info ?_; simp only [Act.put, List.setIfInBounds_toArray, List.set_cons_zero, List.set_cons_succ])
          | (refine wpList_load_w rfl 24 (.tmp 7) rfl (w.heap.size + 1) 0 rfl (vB root) _ r7.all Tryd.underlying24 rfl Hr.info ?_; simp only [Act.put, List.setIfInBounds_toArray, List.set_cons_zero, List.set_cons_succ])
          | (refine wpList_load_w rfl 24 (.tmp 12) rfl N12 0 rfl (vB o) _ r12.all Tryd.underlying24 rfl Ho.info ?_; simp only [Act.put, List.setIfInBounds_toArray, List.set_cons_zero, List.set_cons_succ])
          | (refine wpList_neq_d2 rfl (.tmp 41) (.tmp 42) 24 rfl was o false HB1.out Hw Ho rfl rfl ?_; simp only [Act.put, List.setIfInBounds_toArray, List.set_cons_zero, List.set_cons_succ])
          | (refine wpList_neq_d2 rfl (.tmp 48) (.tmp 49) 24 rfl root o true HB2.out Hr Ho rfl rfl ?_; simp only [Act.put, List.setIfInBounds_toArray, List.set_cons_zero, List.set_cons_succ]))
        go_ret
        exact ⟨by rw [HE.out]; rfl, hb⟩
  · have HE : Hid (E = 43) := by show _ = _; rw [HEE.out, if_neg (fun h => b1 h.1)]
    have HB1 : Hid ((!decide (was = o)) = true) := by show _ = _; simp [b1]
    clear HEE b1
    have o_r12 : w.heap.size + 1 < V0.heap.size := Row.lt r7
    have n0 : Row (V0.alloc (Obj.cells z32.toArray 24)) V0.heap.size z32 24 := Row.new' rfl rfl
    have T0 := Ho.there n0 rfl
    replace n0 := n0.over (vs := vB o) (Ho.over rfl)
    have hB : Below V0.heap.size V0 ((V0.alloc (Obj.cells z32.toArray 24)).setCells V0.heap.size 0 (vB o)) := below_setCells ((Below.refl _ _).alloc (Nat.le_refl _) (Obj.cells z32.toArray 24)) (b := V0.heap.size) (o := 0) (Nat.le_refl _) (vB o)
    replace hb := hb.trans (hB.mono hb.size)
    replace r5 := Row.below r5 hB (Row.lt r5)
    replace r7 := Row.below r7 hB (Row.lt r7)
    clear hB
    have r12 := n0
    clear n0
    go_wp2_with (first
      | (refine wpList_store_mid rfl 24 (.tmp 12) (.tmp 38) rfl V0.heap.size 0 (vB o).toArray rfl rfl T0 Ho.info' Ho.one ?_; simp only [Act.put]; clear T0; (change wpList _ _ _ _ _ ((V0.alloc (Obj.cells z32.toArray 24)).setCells V0.heap.size 0 (vB o))); (generalize ((V0.alloc (Obj.cells z32.toArray 24)).setCells V0.heap.size 0 (vB o)) = X1 at *); (generalize hN : V0.heap.size = N12 at *; clear hN))
      | (refine wpList_load_w rfl 24 (.tmp 5) rfl (w.heap.size) 0 rfl (vB was) _ r5.all Tryd.underlying24 rfl Hw.info ?_; simp only [Act.put, List.setIfInBounds_toArray, List.set_cons_zero, List.set_cons_succ])
      | (refine wpList_load_w rfl 24 (.tmp 7) rfl (w.heap.size + 1) 0 rfl (vB root) _ r7.all Tryd.underlying24 rfl Hr.info ?_; simp only [Act.put, List.setIfInBounds_toArray, List.set_cons_zero, List.set_cons_succ])
      | (refine wpList_load_w rfl 24 (.tmp 12) rfl N12 0 rfl (vB o) _ r12.all Tryd.underlying24 rfl Ho.info ?_; simp only [Act.put, List.setIfInBounds_toArray, List.set_cons_zero, List.set_cons_succ])
      | (refine wpList_neq_d2 rfl (.tmp 41) (.tmp 42) 24 rfl was o true HB1.out Hw Ho rfl rfl ?_; simp only [Act.put, List.setIfInBounds_toArray, List.set_cons_zero, List.set_cons_succ]))
    go_ret
    exact ⟨by rw [HE.out]; rfl, hb⟩

set_option maxRecDepth 100000 in
set_option maxHeartbeats 4000000 in
theorem rgrew_more (m n p pc : Nat) (h1 : 1 ≤ m) (hmn : m ≤ n) (hn : n ≤ 1099511627776) (hp : gs m n true = p) (was root x y : List (BitVec 8)) (Hw : Dl was) (Hr : Dl root) (Hx : Dl x) (Hy : Dl y) (ts : List (List (BitVec 8))) (E : Int) (hE : E = if x = was ∧ y = root then 0 else 43) (PA : Option Addr) (w : World) (hG : Given w)
    (hS : ∀ W, Below w.heap.size w W → Calls Tryd.prog 68 #[.int .i64 (m : Int), .int .i64 (n : Int), .bool true, .agg (vB was).toArray, .slice PA p pc] W fun e w' => ∃ tv vs, e = .returned (.agg (cm x y tv).toArray) ∧ Txs w' W.heap.size tv ts vs ∧ Below W.heap.size W w') :
    Calls Tryd.prog 35 #[.agg (vB was).toArray, .int .i64 (m : Int), .agg (vB root).toArray, .int .i64 (n : Int), .slice PA p pc] w fun e w' => e = .returned (.int .i64 E) ∧ Below w.heap.size w w' := by
  obtain ⟨o, ho⟩ : ∃ o, o = dig [] := ⟨_, rfl⟩
  have HO : Hid (o = dig []) := ho
  have Ho : Dl o := by rw [ho]; exact dl_dig _
  have HGV : Hid (∀ W, Below w.heap.size w W → Given W) := fun W hB => hG.low hB
  have HEE : Hid (E = _) := hE
  have HS : Hid (∀ W, _ → _) := hS
  have HG : Hid (∀ w, _) := fun w => long_any n m true h1 hmn (by omega) w
  rw [hp] at HG
  have c4 : (0 : Int) < (m : Int) := by omega
  have c5 : ¬ (m : Int) = 0 := by omega
  have c0 : ¬ (n : Int) < 0 := by omega
  have c1 : ¬ (1099511627776 : Int) < (n : Int) := by omega
  have c1b : (n : Int) ≤ 1099511627776 := by omega
  have c1c : decide ((1099511627776 : Int) < (n : Int)) = false := decide_eq_false c1
  have c2 : ¬ (m : Int) < 0 := by omega
  have c3 : ¬ (n : Int) < (m : Int) := by omega
  clear ho hE hG hn hS hp
  have hb : Below w.heap.size w ((w.alloc (Obj.cells (vB was).toArray 24)).alloc (Obj.cells (vB root).toArray 24)) := ((Below.refl _ _).alloc (Nat.le_refl _) _).alloc (by simp) _
  have r5 : Row ((w.alloc (Obj.cells (vB was).toArray 24)).alloc (Obj.cells (vB root).toArray 24)) w.heap.size (vB was) 24 := (Row.new w (vB was) _).alloc _
  have r7 : Row ((w.alloc (Obj.cells (vB was).toArray 24)).alloc (Obj.cells (vB root).toArray 24)) (w.heap.size + 1) (vB root) 24 := Row.new' (by simp) rfl
  go_enter Tryd.func35, Tryd.ntmps35
  go_wp2_with (go_at_call 67; refine (HG.out _).mono ?_; rintro e w2 ⟨rfl, rfl⟩)
  refine (rsum_any [] o HO.out (by decide) _ _ (.inl ⟨rfl, none, 0, rfl⟩) (HGV.out _ hb)).mono ?_
  rintro e V0 ⟨rfl, hB⟩
  replace hb := hb.trans (hB.mono hb.size)
  replace r5 := Row.below r5 hB (Row.lt r5)
  replace r7 := Row.below r7 hB (Row.lt r7)
  clear hB
  have o_r12 : w.heap.size + 1 < V0.heap.size := Row.lt r7
  have n0 : Row (V0.alloc (Obj.cells z32.toArray 24)) V0.heap.size z32 24 := Row.new' rfl rfl
  have T0 := Ho.there n0 rfl
  replace n0 := n0.over (vs := vB o) (Ho.over rfl)
  have hB : Below V0.heap.size V0 ((V0.alloc (Obj.cells z32.toArray 24)).setCells V0.heap.size 0 (vB o)) := below_setCells ((Below.refl _ _).alloc (Nat.le_refl _) (Obj.cells z32.toArray 24)) (b := V0.heap.size) (o := 0) (Nat.le_refl _) (vB o)
  replace hb := hb.trans (hB.mono hb.size)
  replace r5 := Row.below r5 hB (Row.lt r5)
  replace r7 := Row.below r7 hB (Row.lt r7)
  clear hB
  have r12 := n0
  clear n0
  go_wp2_with (first
    | (refine wpList_store_mid rfl 24 (.tmp 12) (.tmp 38) rfl V0.heap.size 0 (vB o).toArray rfl rfl T0 Ho.info' Ho.one ?_; simp only [Act.put]; clear T0; (change wpList _ _ _ _ _ ((V0.alloc (Obj.cells z32.toArray 24)).setCells V0.heap.size 0 (vB o))); (generalize ((V0.alloc (Obj.cells z32.toArray 24)).setCells V0.heap.size 0 (vB o)) = X1 at *); (generalize hN : V0.heap.size = N12 at *; clear hN))
    | (refine wpList_load_w rfl 24 (.tmp 5) rfl (w.heap.size) 0 rfl (vB was) _ r5.all Tryd.underlying24 rfl Hw.info ?_; simp only [Act.put, List.setIfInBounds_toArray, List.set_cons_zero, List.set_cons_succ]))
  refine (HS.out _ hb).mono ?_
  rintro e V2 ⟨tv, vs, rfl, tx, hB⟩
  replace hb := hb.trans (hB.mono hb.size)
  replace r5 := Row.below r5 hB (Row.lt r5)
  replace r7 := Row.below r7 hB (Row.lt r7)
  replace r12 := Row.below r12 hB (Row.lt r12)
  clear hB
  have n0 : Row (V2.alloc (Obj.cells z65.toArray 96)) V2.heap.size z65 96 := Row.new' rfl rfl
  have T0 := n0.there 0 (cm x y tv).toArray.size (by rw [List.size_toArray, cm_len Hx Hy]; decide)
  replace n0 := n0.over (vs := cm x y tv) (by rw [cm_len Hx Hy]; rfl)
  have hB : Below V2.heap.size V2 ((V2.alloc (Obj.cells z65.toArray 96)).setCells V2.heap.size 0 (cm x y tv)) := below_setCells ((Below.refl _ _).alloc (Nat.le_refl _) _) (Nat.le_refl _) _
  have hone := own_one tx.own
  replace hb := hb.trans (hB.mono hb.size)
  replace r5 := Row.below r5 hB (Row.lt r5)
  replace r7 := Row.below r7 hB (Row.lt r7)
  replace r12 := Row.below r12 hB (Row.lt r12)
  clear hB tx
  have rc := n0
  clear n0
  by_cases b1 : x = was
  · by_cases b2 : y = root
    · have HE : Hid (E = 0) := by show _ = _; rw [HEE.out, if_pos ⟨b1, b2⟩]
      have HB1 : Hid ((!decide (x = was)) = false) := by show _ = _; simp [b1]
      have HB2 : Hid ((!decide (y = root)) = false) := by show _ = _; simp [b2]
      clear HEE b1 b2
      go_wp2_with (first
        | (refine wpList_store_mid rfl 96 (.tmp 13) (.tmp 57) rfl V2.heap.size 0 (cm x y tv).toArray rfl rfl T0 (cm_info' Hx Hy _) (cm_one hone) ?_; simp only [Act.put]; clear T0; (change wpList _ _ _ _ _ ((V2.alloc (Obj.cells z65.toArray 96)).setCells V2.heap.size 0 (cm x y tv))); (generalize ((V2.alloc (Obj.cells z65.toArray 96)).setCells V2.heap.size 0 (cm x y tv)) = X9 at *); (generalize hN : V2.heap.size = N13 at *; clear hN))
        | (refine wpList_load_w rfl 24 (.tmp 58) rfl N13 0 rfl (vB x) _ (cm_x rc) Tryd.underlying24 rfl Hx.info ?_; simp only [Act.put, List.setIfInBounds_toArray, List.set_cons_zero, List.set_cons_succ])
        | (refine wpList_load_w rfl 24 (.tmp 63) rfl N13 32 rfl (vB y) _ (cm_y Hx rc) Tryd.underlying24 rfl Hy.info ?_; simp only [Act.put, List.setIfInBounds_toArray, List.set_cons_zero, List.set_cons_succ])
        | (refine wpList_load_w rfl 24 (.tmp 5) rfl (w.heap.size) 0 rfl (vB was) _ r5.all Tryd.underlying24 rfl Hw.info ?_; simp only [Act.put, List.setIfInBounds_toArray, List.set_cons_zero, List.set_cons_succ])
        | (refine wpList_load_w rfl 24 (.tmp 7) rfl (w.heap.size + 1) 0 rfl (vB root) _ r7.all Tryd.underlying24 rfl Hr.info ?_; simp only [Act.put, List.setIfInBounds_toArray, List.set_cons_zero, List.set_cons_succ])
        | (refine wpList_neq_d2 rfl (.tmp 59) (.tmp 60) 24 rfl x was false HB1.out Hx Hw rfl rfl ?_; simp only [Act.put, List.setIfInBounds_toArray, List.set_cons_zero, List.set_cons_succ])
        | (refine wpList_neq_d2 rfl (.tmp 64) (.tmp 65) 24 rfl y root false HB2.out Hy Hr rfl rfl ?_; simp only [Act.put, List.setIfInBounds_toArray, List.set_cons_zero, List.set_cons_succ]))
      go_ret
      exact ⟨by rw [HE.out]; rfl, hb⟩
    · have HE : Hid (E = 43) := by show _ = _; rw [HEE.out, if_neg (fun h => b2 h.2)]
      have HB1 : Hid ((!decide (x = was)) = false) := by show _ = _; simp [b1]
      have HB2 : Hid ((!decide (y = root)) = true) := by show _ = _; simp [b2]
      clear HEE b1 b2
      go_wp2_with (first
        | (refine wpList_store_mid rfl 96 (.tmp 13) (.tmp 57) rfl V2.heap.size 0 (cm x y tv).toArray rfl rfl T0 (cm_info' Hx Hy _) (cm_one hone) ?_; simp only [Act.put]; clear T0; (change wpList _ _ _ _ _ ((V2.alloc (Obj.cells z65.toArray 96)).setCells V2.heap.size 0 (cm x y tv))); (generalize ((V2.alloc (Obj.cells z65.toArray 96)).setCells V2.heap.size 0 (cm x y tv)) = X9 at *); (generalize hN : V2.heap.size = N13 at *; clear hN))
        | (refine wpList_load_w rfl 24 (.tmp 58) rfl N13 0 rfl (vB x) _ (cm_x rc) Tryd.underlying24 rfl Hx.info ?_; simp only [Act.put, List.setIfInBounds_toArray, List.set_cons_zero, List.set_cons_succ])
        | (refine wpList_load_w rfl 24 (.tmp 63) rfl N13 32 rfl (vB y) _ (cm_y Hx rc) Tryd.underlying24 rfl Hy.info ?_; simp only [Act.put, List.setIfInBounds_toArray, List.set_cons_zero, List.set_cons_succ])
        | (refine wpList_load_w rfl 24 (.tmp 5) rfl (w.heap.size) 0 rfl (vB was) _ r5.all Tryd.underlying24 rfl Hw.info ?_; simp only [Act.put, List.setIfInBounds_toArray, List.set_cons_zero, List.set_cons_succ])
        | (refine wpList_load_w rfl 24 (.tmp 7) rfl (w.heap.size + 1) 0 rfl (vB root) _ r7.all Tryd.underlying24 rfl Hr.info ?_; simp only [Act.put, List.setIfInBounds_toArray, List.set_cons_zero, List.set_cons_succ])
        | (refine wpList_neq_d2 rfl (.tmp 59) (.tmp 60) 24 rfl x was false HB1.out Hx Hw rfl rfl ?_; simp only [Act.put, List.setIfInBounds_toArray, List.set_cons_zero, List.set_cons_succ])
        | (refine wpList_neq_d2 rfl (.tmp 64) (.tmp 65) 24 rfl y root true HB2.out Hy Hr rfl rfl ?_; simp only [Act.put, List.setIfInBounds_toArray, List.set_cons_zero, List.set_cons_succ]))
      go_ret
      exact ⟨by rw [HE.out]; rfl, hb⟩
  · have HE : Hid (E = 43) := by show _ = _; rw [HEE.out, if_neg (fun h => b1 h.1)]
    have HB1 : Hid ((!decide (x = was)) = true) := by show _ = _; simp [b1]
    clear HEE b1
    go_wp2_with (first
      | (refine wpList_store_mid rfl 96 (.tmp 13) (.tmp 57) rfl V2.heap.size 0 (cm x y tv).toArray rfl rfl T0 (cm_info' Hx Hy _) (cm_one hone) ?_; simp only [Act.put]; clear T0; (change wpList _ _ _ _ _ ((V2.alloc (Obj.cells z65.toArray 96)).setCells V2.heap.size 0 (cm x y tv))); (generalize ((V2.alloc (Obj.cells z65.toArray 96)).setCells V2.heap.size 0 (cm x y tv)) = X9 at *); (generalize hN : V2.heap.size = N13 at *; clear hN))
      | (refine wpList_load_w rfl 24 (.tmp 58) rfl N13 0 rfl (vB x) _ (cm_x rc) Tryd.underlying24 rfl Hx.info ?_; simp only [Act.put, List.setIfInBounds_toArray, List.set_cons_zero, List.set_cons_succ])
      | (refine wpList_load_w rfl 24 (.tmp 63) rfl N13 32 rfl (vB y) _ (cm_y Hx rc) Tryd.underlying24 rfl Hy.info ?_; simp only [Act.put, List.setIfInBounds_toArray, List.set_cons_zero, List.set_cons_succ])
      | (refine wpList_load_w rfl 24 (.tmp 5) rfl (w.heap.size) 0 rfl (vB was) _ r5.all Tryd.underlying24 rfl Hw.info ?_; simp only [Act.put, List.setIfInBounds_toArray, List.set_cons_zero, List.set_cons_succ])
      | (refine wpList_load_w rfl 24 (.tmp 7) rfl (w.heap.size + 1) 0 rfl (vB root) _ r7.all Tryd.underlying24 rfl Hr.info ?_; simp only [Act.put, List.setIfInBounds_toArray, List.set_cons_zero, List.set_cons_succ])
      | (refine wpList_neq_d2 rfl (.tmp 59) (.tmp 60) 24 rfl x was true HB1.out Hx Hw rfl rfl ?_; simp only [Act.put, List.setIfInBounds_toArray, List.set_cons_zero, List.set_cons_succ]))
    go_ret
    exact ⟨by rw [HE.out]; rfl, hb⟩

/-- The document's Grew of whatever comes. -/
theorem rgrew_any (m n : Int) (was root : List (BitVec 8)) (Hw : Dl was) (Hr : Dl root) (ds : List (List (BitVec 8))) (PA : Option Addr) (pc : Nat) (w : World) (hG : Given w) (hp : PAt w (.slice PA ds.length pc) ds) :
    Calls Tryd.prog 35 #[.agg (vB was).toArray, .int .i64 m, .agg (vB root).toArray, .int .i64 n, .slice PA ds.length pc] w fun e w' => e = .returned (.int .i64 (gw was root m n ds)) ∧ Below w.heap.size w w' := by
  unfold gw
  by_cases h0 : n < 0
  · rw [if_pos (.inl h0)]; exact rgrew_a m n h0 was root _ w
  by_cases h1 : 1099511627776 < n
  · rw [if_pos (.inr (.inl h1))]; exact rgrew_b m n h0 h1 was root _ w
  by_cases h2 : m < 0
  · rw [if_pos (.inr (.inr (.inl h2)))]; exact rgrew_c m n h0 h1 h2 was root _ w
  by_cases h3 : n < m
  · rw [if_pos (.inr (.inr (.inr h3)))]; exact rgrew_d m n h0 h1 h2 h3 was root _ w
  rw [if_neg (by omega)]
  obtain ⟨M, rfl⟩ : ∃ M : Nat, m = (M : Int) := ⟨m.toNat, by omega⟩
  obtain ⟨N, rfl⟩ : ∃ N : Nat, n = (N : Int) := ⟨n.toNat, by omega⟩
  simp only [Int.toNat_natCast]
  by_cases h5 : ds.length = gl M N
  · by_cases hM : M = 0
    · subst hM
      have h6 : ds.length = 0 := h5
      rw [h6]
      refine rgrew_none N pc (by omega) was root _ Hw Hr rfl _ ?_ PA w hG
      unfold ldB
      simp [show gl 0 N = 0 from rfl]
    · have hg : gl M N = gs M N true := if_neg hM
      rw [hg] at h5
      have hd := rsb_len N M true was ds Hw hp.1 (by omega) (by omega) (by omega) h5
      refine rgrew_more M N ds.length pc (by omega) (by omega) (by omega) h5.symm was root (rsb M N true was ds).1 (rsb M N true was ds).2 Hw Hr hd.1 hd.2 (gt M N true was ds) _ ?_ PA w hG (fun W hB => comes_any N M true was ds Hw (by omega) (by omega) (by omega) h5 PA pc W (hG.low hB) (hp.below hB))
      have key : (ds.length = gl M N ∧ ldB was root M N ds = true) ↔ ((rsb M N true was ds).1 = was ∧ (rsb M N true was ds).2 = root) := by
        have e : ldB was root M N ds = (decide ((rsb M N true was ds).1 = was) && decide ((rsb M N true was ds).2 = root)) := by
          unfold ldB
          rw [if_neg hM]
          by_cases hMN : M = N
          · subst hMN
            rw [if_pos rfl, rsb_same]
            simp
          · rw [if_neg hMN]
        rw [e, hg]
        simp [h5]
      by_cases hq : (rsb M N true was ds).1 = was ∧ (rsb M N true was ds).2 = root
      · rw [if_pos (key.2 hq), if_pos hq]
      · rw [if_neg (fun x => hq (key.1 x)), if_neg hq]
  · rw [if_neg (fun x => h5 x.1)]
    exact rgrew_len M N ds.length pc (by omega) (by omega) h5 was root PA w

end Go.Proofs.YtnogjhbohljjnaaDoor
