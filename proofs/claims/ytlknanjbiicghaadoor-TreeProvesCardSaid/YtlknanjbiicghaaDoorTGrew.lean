/-
  leads, Grew.
-/
import Derived.Test.YtlknanjbiicghaaDoorTRsb
namespace Go.Proofs.YtlknanjbiicghaaDoor
open Go Go.RowKit
open Sha

/-- Does a growth of the right length lead from the old root to the new one? -/
def ldB (was root : List (BitVec 8)) (m n : Nat) (ds : List (List (BitVec 8))) : Bool :=
  if m = 0 then decide (was = dig []) && (decide (0 < n) || decide (root = dig []))
  else if m = n then decide (was = root)
  else decide ((rsb m n true was ds).1 = was) && decide ((rsb m n true was ds).2 = root)

set_option maxRecDepth 100000 in
set_option maxHeartbeats 4000000 in
theorem leads_none (n : Nat) (was root o : List (BitVec 8)) (Hw : Dl was) (Hr : Dl root) (ho : o = dig []) (E : Bool) (hE : E = (decide (was = o) && (decide (0 < n) || decide (root = o)))) (pv : Value) (w : World) (hK : Tab w 2) :
    Calls Tryd.prog 28 #[.agg (vB was).toArray, .int .i64 0, .agg (vB root).toArray, .int .i64 (n : Int), pv] w fun e w' => e = .returned (.bool E) ∧ Below w.heap.size w w' := by
  have HO : Hid (o = dig []) := ho
  have Ho : Dl o := by rw [ho]; exact dl_dig _
  clear ho
  have hb : Below w.heap.size w ((w.alloc (Obj.cells (vB was).toArray 28)).alloc (Obj.cells (vB root).toArray 28)) := ((Below.refl _ _).alloc (Nat.le_refl _) _).alloc (by simp) _
  have r5 : Row ((w.alloc (Obj.cells (vB was).toArray 28)).alloc (Obj.cells (vB root).toArray 28)) w.heap.size (vB was) 28 := (Row.new w (vB was) _).alloc _
  have r7 : Row ((w.alloc (Obj.cells (vB was).toArray 28)).alloc (Obj.cells (vB root).toArray 28)) (w.heap.size + 1) (vB root) 28 := Row.new' (by simp) rfl
  have fK := hK.be hb
  clear hK
  go_enter Tryd.func28, Tryd.ntmps28
  go_wp2_with fail
  refine (root_nil none 0 o HO.out _ fK).mono ?_
  rintro e V0 ⟨rfl, hB⟩
  replace hb := hb.trans (hB.mono hb.size)
  replace r5 := Row.below r5 hB (Row.lt r5)
  replace r7 := Row.below r7 hB (Row.lt r7)
  replace fK := fK.be hB
  clear hB
  obtain ⟨B1, h1⟩ : ∃ B1, decide (was = o) = B1 := ⟨_, rfl⟩
  obtain ⟨B2, h2⟩ : ∃ B2, decide (root = o) = B2 := ⟨_, rfl⟩
  rw [h1, h2] at hE
  have HB1 : Hid (decide (was = o) = B1) := h1
  have HB2 : Hid (decide (root = o) = B2) := h2
  clear h1 h2
  cases B1
  · have HE : Hid (E = false) := (by simpa using hE : E = false)
    clear hE
    have o_r11 : w.heap.size + 1 < V0.heap.size := Row.lt r7
    have n0 : Row (V0.alloc (Obj.cells z32.toArray 28)) V0.heap.size z32 28 := Row.new' rfl rfl
    have T0 := Ho.there n0 rfl
    replace n0 := n0.over (vs := vB o) (Ho.over rfl)
    have hB : Below V0.heap.size V0 ((V0.alloc (Obj.cells z32.toArray 28)).setCells V0.heap.size 0 (vB o)) := below_setCells ((Below.refl _ _).alloc (Nat.le_refl _) (Obj.cells z32.toArray 28)) (b := V0.heap.size) (o := 0) (Nat.le_refl _) (vB o)
    replace hb := hb.trans (hB.mono hb.size)
    replace r5 := Row.below r5 hB (Row.lt r5)
    replace r7 := Row.below r7 hB (Row.lt r7)
    replace fK := fK.be hB
    clear hB
    have r11 := n0
    clear n0
    go_wp2_with (first
      | (refine wpList_store_mid rfl 28 (.tmp 11) (.tmp 17) rfl V0.heap.size 0 (vB o).toArray rfl rfl T0 Ho.info' Ho.one ?_; simp only [Act.put]; clear T0; (change wpList _ _ _ _ _ ((V0.alloc (Obj.cells z32.toArray 28)).setCells V0.heap.size 0 (vB o))); (generalize ((V0.alloc (Obj.cells z32.toArray 28)).setCells V0.heap.size 0 (vB o)) = X1 at *); (generalize hN : V0.heap.size = N11 at *; clear hN))
      | (refine wpList_load_w rfl 28 (.tmp 5) rfl (w.heap.size) 0 rfl (vB was) _ r5.all Tryd.underlying28 rfl Hw.info ?_; simp only [Act.put, List.setIfInBounds_toArray, List.set_cons_zero, List.set_cons_succ])
      | (refine wpList_load_w rfl 28 (.tmp 7) rfl (w.heap.size + 1) 0 rfl (vB root) _ r7.all Tryd.underlying28 rfl Hr.info ?_; simp only [Act.put, List.setIfInBounds_toArray, List.set_cons_zero, List.set_cons_succ])
      | (refine wpList_load_w rfl 28 (.tmp 11) rfl N11 0 rfl (vB o) _ r11.all Tryd.underlying28 rfl Ho.info ?_; simp only [Act.put, List.setIfInBounds_toArray, List.set_cons_zero, List.set_cons_succ])
      | (refine wpList_eql_d rfl (.tmp 18) (.tmp 19) 28 rfl was o false HB1.out Hw Ho rfl rfl ?_; simp only [Act.put, List.setIfInBounds_toArray, List.set_cons_zero, List.set_cons_succ]))
    go_ret
    exact ⟨by rw [HE.out]; rfl, hb⟩
  · by_cases hn : 0 < n
    · have HE : Hid (E = true) := (by simpa [hn] using hE : E = true)
      have c1 : (0 : Int) < (n : Int) := by omega
      clear hE hn
      have o_r11 : w.heap.size + 1 < V0.heap.size := Row.lt r7
      have n0 : Row (V0.alloc (Obj.cells z32.toArray 28)) V0.heap.size z32 28 := Row.new' rfl rfl
      have T0 := Ho.there n0 rfl
      replace n0 := n0.over (vs := vB o) (Ho.over rfl)
      have hB : Below V0.heap.size V0 ((V0.alloc (Obj.cells z32.toArray 28)).setCells V0.heap.size 0 (vB o)) := below_setCells ((Below.refl _ _).alloc (Nat.le_refl _) (Obj.cells z32.toArray 28)) (b := V0.heap.size) (o := 0) (Nat.le_refl _) (vB o)
      replace hb := hb.trans (hB.mono hb.size)
      replace r5 := Row.below r5 hB (Row.lt r5)
      replace r7 := Row.below r7 hB (Row.lt r7)
      replace fK := fK.be hB
      clear hB
      have r11 := n0
      clear n0
      go_wp2_with (first
        | (refine wpList_store_mid rfl 28 (.tmp 11) (.tmp 17) rfl V0.heap.size 0 (vB o).toArray rfl rfl T0 Ho.info' Ho.one ?_; simp only [Act.put]; clear T0; (change wpList _ _ _ _ _ ((V0.alloc (Obj.cells z32.toArray 28)).setCells V0.heap.size 0 (vB o))); (generalize ((V0.alloc (Obj.cells z32.toArray 28)).setCells V0.heap.size 0 (vB o)) = X1 at *); (generalize hN : V0.heap.size = N11 at *; clear hN))
        | (refine wpList_load_w rfl 28 (.tmp 5) rfl (w.heap.size) 0 rfl (vB was) _ r5.all Tryd.underlying28 rfl Hw.info ?_; simp only [Act.put, List.setIfInBounds_toArray, List.set_cons_zero, List.set_cons_succ])
        | (refine wpList_load_w rfl 28 (.tmp 7) rfl (w.heap.size + 1) 0 rfl (vB root) _ r7.all Tryd.underlying28 rfl Hr.info ?_; simp only [Act.put, List.setIfInBounds_toArray, List.set_cons_zero, List.set_cons_succ])
        | (refine wpList_load_w rfl 28 (.tmp 11) rfl N11 0 rfl (vB o) _ r11.all Tryd.underlying28 rfl Ho.info ?_; simp only [Act.put, List.setIfInBounds_toArray, List.set_cons_zero, List.set_cons_succ])
        | (refine wpList_eql_d rfl (.tmp 18) (.tmp 19) 28 rfl was o true HB1.out Hw Ho rfl rfl ?_; simp only [Act.put, List.setIfInBounds_toArray, List.set_cons_zero, List.set_cons_succ]))
      go_ret
      exact ⟨by rw [HE.out]; rfl, hb⟩
    · have HE : Hid (E = B2) := (by simpa [hn] using hE : E = B2)
      obtain rfl : n = 0 := by omega
      clear hE hn
      have o_r11 : w.heap.size + 1 < V0.heap.size := Row.lt r7
      have n0 : Row (V0.alloc (Obj.cells z32.toArray 28)) V0.heap.size z32 28 := Row.new' rfl rfl
      have T0 := Ho.there n0 rfl
      replace n0 := n0.over (vs := vB o) (Ho.over rfl)
      have hB : Below V0.heap.size V0 ((V0.alloc (Obj.cells z32.toArray 28)).setCells V0.heap.size 0 (vB o)) := below_setCells ((Below.refl _ _).alloc (Nat.le_refl _) (Obj.cells z32.toArray 28)) (b := V0.heap.size) (o := 0) (Nat.le_refl _) (vB o)
      replace hb := hb.trans (hB.mono hb.size)
      replace r5 := Row.below r5 hB (Row.lt r5)
      replace r7 := Row.below r7 hB (Row.lt r7)
      replace fK := fK.be hB
      clear hB
      have r11 := n0
      clear n0
      go_wp2_with (first
        | (refine wpList_store_mid rfl 28 (.tmp 11) (.tmp 17) rfl V0.heap.size 0 (vB o).toArray rfl rfl T0 Ho.info' Ho.one ?_; simp only [Act.put]; clear T0; (change wpList _ _ _ _ _ ((V0.alloc (Obj.cells z32.toArray 28)).setCells V0.heap.size 0 (vB o))); (generalize ((V0.alloc (Obj.cells z32.toArray 28)).setCells V0.heap.size 0 (vB o)) = X1 at *); (generalize hN : V0.heap.size = N11 at *; clear hN))
        | (refine wpList_load_w rfl 28 (.tmp 5) rfl (w.heap.size) 0 rfl (vB was) _ r5.all Tryd.underlying28 rfl Hw.info ?_; simp only [Act.put, List.setIfInBounds_toArray, List.set_cons_zero, List.set_cons_succ])
        | (refine wpList_load_w rfl 28 (.tmp 7) rfl (w.heap.size + 1) 0 rfl (vB root) _ r7.all Tryd.underlying28 rfl Hr.info ?_; simp only [Act.put, List.setIfInBounds_toArray, List.set_cons_zero, List.set_cons_succ])
        | (refine wpList_load_w rfl 28 (.tmp 11) rfl N11 0 rfl (vB o) _ r11.all Tryd.underlying28 rfl Ho.info ?_; simp only [Act.put, List.setIfInBounds_toArray, List.set_cons_zero, List.set_cons_succ])
        | (refine wpList_eql_d rfl (.tmp 18) (.tmp 19) 28 rfl was o true HB1.out Hw Ho rfl rfl ?_; simp only [Act.put, List.setIfInBounds_toArray, List.set_cons_zero, List.set_cons_succ])
        | (refine wpList_eql_d rfl (.tmp 25) (.tmp 26) 28 rfl root o B2 HB2.out Hr Ho rfl rfl ?_; simp only [Act.put, List.setIfInBounds_toArray, List.set_cons_zero, List.set_cons_succ]))
      go_ret
      exact ⟨by rw [HE.out]; rfl, hb⟩

set_option maxRecDepth 100000 in
set_option maxHeartbeats 4000000 in
theorem leads_same (n : Nat) (h1 : 1 ≤ n) (was root : List (BitVec 8)) (Hw : Dl was) (Hr : Dl root) (E : Bool) (hE : decide (was = root) = E) (pv : Value) (w : World) :
    Calls Tryd.prog 28 #[.agg (vB was).toArray, .int .i64 (n : Int), .agg (vB root).toArray, .int .i64 (n : Int), pv] w fun e w' => e = .returned (.bool E) ∧ Below w.heap.size w w' := by
  have HE : Hid (decide (was = root) = E) := hE
  have c0 : ¬ (n : Int) = 0 := by omega
  clear hE
  have hb : Below w.heap.size w ((w.alloc (Obj.cells (vB was).toArray 28)).alloc (Obj.cells (vB root).toArray 28)) := ((Below.refl _ _).alloc (Nat.le_refl _) _).alloc (by simp) _
  have r5 : Row ((w.alloc (Obj.cells (vB was).toArray 28)).alloc (Obj.cells (vB root).toArray 28)) w.heap.size (vB was) 28 := (Row.new w (vB was) _).alloc _
  have r7 : Row ((w.alloc (Obj.cells (vB was).toArray 28)).alloc (Obj.cells (vB root).toArray 28)) (w.heap.size + 1) (vB root) 28 := Row.new' (by simp) rfl
  go_enter Tryd.func28, Tryd.ntmps28
  go_wp2_with (first
    | (refine wpList_load_w rfl 28 (.tmp 5) rfl w.heap.size 0 rfl (vB was) _ r5.all Tryd.underlying28 rfl Hw.info ?_; simp only [Act.put, List.setIfInBounds_toArray, List.set_cons_zero, List.set_cons_succ])
    | (refine wpList_load_w rfl 28 (.tmp 7) rfl (w.heap.size + 1) 0 rfl (vB root) _ r7.all Tryd.underlying28 rfl Hr.info ?_; simp only [Act.put, List.setIfInBounds_toArray, List.set_cons_zero, List.set_cons_succ])
    | (refine wpList_eql_d rfl (.tmp 33) (.tmp 34) 28 rfl was root E HE.out Hw Hr rfl rfl ?_; simp only [Act.put, List.setIfInBounds_toArray, List.set_cons_zero, List.set_cons_succ]))
  go_ret
  exact ⟨rfl, hb⟩

set_option maxRecDepth 100000 in
set_option maxHeartbeats 4000000 in
theorem leads_more (m n : Nat) (h1 : 1 ≤ m) (hmn : m < n) (was root x y : List (BitVec 8)) (Hw : Dl was) (Hr : Dl root) (Hx : Dl x) (Hy : Dl y) (E : Bool) (hE : E = (decide (x = was) && decide (y = root))) (pv : Value) (w : World)
    (hS : ∀ W, Below w.heap.size w W → Calls Tryd.prog 39 #[pv, .int .i64 (m : Int), .int .i64 (n : Int), .bool true, .agg (vB was).toArray] W fun e w' => e = .returned (.tuple #[.agg (vB x).toArray, .agg (vB y).toArray]) ∧ Below W.heap.size W w') :
    Calls Tryd.prog 28 #[.agg (vB was).toArray, .int .i64 (m : Int), .agg (vB root).toArray, .int .i64 (n : Int), pv] w fun e w' => e = .returned (.bool E) ∧ Below w.heap.size w w' := by
  have HS : Hid (∀ W, _ → _) := hS
  have c0 : ¬ (m : Int) = 0 := by omega
  have c1 : ¬ (m : Int) = (n : Int) := by omega
  clear hS
  have hb : Below w.heap.size w ((w.alloc (Obj.cells (vB was).toArray 28)).alloc (Obj.cells (vB root).toArray 28)) := ((Below.refl _ _).alloc (Nat.le_refl _) _).alloc (by simp) _
  have r5 : Row ((w.alloc (Obj.cells (vB was).toArray 28)).alloc (Obj.cells (vB root).toArray 28)) w.heap.size (vB was) 28 := (Row.new w (vB was) _).alloc _
  have r7 : Row ((w.alloc (Obj.cells (vB was).toArray 28)).alloc (Obj.cells (vB root).toArray 28)) (w.heap.size + 1) (vB root) 28 := Row.new' (by simp) rfl
  go_enter Tryd.func28, Tryd.ntmps28
  go_wp2_with (refine wpList_load_w rfl 28 (.tmp 5) rfl w.heap.size 0 rfl (vB was) _ r5.all Tryd.underlying28 rfl Hw.info ?_; simp only [Act.put, List.setIfInBounds_toArray, List.set_cons_zero, List.set_cons_succ])
  refine (HS.out _ hb).mono ?_
  rintro e V0 ⟨rfl, hB⟩
  replace hb := hb.trans (hB.mono hb.size)
  replace r5 := Row.below r5 hB (Row.lt r5)
  replace r7 := Row.below r7 hB (Row.lt r7)
  clear hB
  obtain ⟨B1, h1⟩ : ∃ B1, decide (x = was) = B1 := ⟨_, rfl⟩
  obtain ⟨B2, h2⟩ : ∃ B2, decide (y = root) = B2 := ⟨_, rfl⟩
  rw [h1, h2] at hE
  have HB1 : Hid (decide (x = was) = B1) := h1
  have HB2 : Hid (decide (y = root) = B2) := h2
  clear h1 h2
  cases B1
  · have HE : Hid (E = false) := (by simpa using hE : E = false)
    clear hE
    have o_r12 : w.heap.size + 1 < V0.heap.size := Row.lt r7
    have o_r13 : V0.heap.size < (V0.heap.size + 1) := Nat.lt_succ_self _
    have n0 : Row ((V0.alloc (Obj.cells z32.toArray 28)).alloc (Obj.cells z32.toArray 28)) V0.heap.size z32 28 := (Row.new' rfl rfl).alloc _
    have n1 : Row ((V0.alloc (Obj.cells z32.toArray 28)).alloc (Obj.cells z32.toArray 28)) (V0.heap.size + 1) z32 28 := Row.new' (by simp) rfl
    have T0 := Hx.there n0 rfl
    replace n0 := n0.over (vs := vB x) (Hx.over rfl)
    replace n1 := Row.setCells_other n1 V0.heap.size 0 (vB x) (by omega)
    have T1 := Hy.there n1 rfl
    replace n1 := n1.over (vs := vB y) (Hy.over rfl)
    replace n0 := Row.setCells_other n0 (V0.heap.size + 1) 0 (vB y) (by omega)
    have hB : Below V0.heap.size V0 ((((V0.alloc (Obj.cells z32.toArray 28)).alloc (Obj.cells z32.toArray 28)).setCells V0.heap.size 0 (vB x)).setCells (V0.heap.size + 1) 0 (vB y)) := below_setCells (below_setCells (((Below.refl _ _).alloc (Nat.le_refl _) (Obj.cells z32.toArray 28)).alloc (by simp) (Obj.cells z32.toArray 28)) (b := V0.heap.size) (o := 0) (Nat.le_refl _) (vB x)) (b := (V0.heap.size + 1)) (o := 0) (by omega) (vB y)
    replace hb := hb.trans (hB.mono hb.size)
    replace r5 := Row.below r5 hB (Row.lt r5)
    replace r7 := Row.below r7 hB (Row.lt r7)
    clear hB
    have r12 := n0
    have r13 := n1
    clear n0 n1
    go_wp2_with (first
      | (refine wpList_store_mid rfl 28 (.tmp 12) (.tmp 42) rfl V0.heap.size 0 (vB x).toArray rfl rfl T0 Hx.info' Hx.one ?_; simp only [Act.put])
      | (refine wpList_store_mid rfl 28 (.tmp 13) (.tmp 43) rfl (V0.heap.size + 1) 0 (vB y).toArray rfl rfl T1 Hy.info' Hy.one ?_; simp only [Act.put]; clear T0 T1; (change wpList _ _ _ _ _ ((((V0.alloc (Obj.cells z32.toArray 28)).alloc (Obj.cells z32.toArray 28)).setCells V0.heap.size 0 (vB x)).setCells (V0.heap.size + 1) 0 (vB y))); (generalize ((((V0.alloc (Obj.cells z32.toArray 28)).alloc (Obj.cells z32.toArray 28)).setCells V0.heap.size 0 (vB x)).setCells (V0.heap.size + 1) 0 (vB y)) = X1 at *); (generalize hN : V0.heap.size + 1 = N13 at *; clear hN); (generalize hN : V0.heap.size = N12 at *; clear hN))
      | (refine wpList_load_w rfl 28 (.tmp 12) rfl N12 0 rfl (vB x) _ r12.all Tryd.underlying28 rfl Hx.info ?_; simp only [Act.put, List.setIfInBounds_toArray, List.set_cons_zero, List.set_cons_succ])
      | (refine wpList_load_w rfl 28 (.tmp 5) rfl (w.heap.size) 0 rfl (vB was) _ r5.all Tryd.underlying28 rfl Hw.info ?_; simp only [Act.put, List.setIfInBounds_toArray, List.set_cons_zero, List.set_cons_succ])
      | (refine wpList_load_w rfl 28 (.tmp 13) rfl N13 0 rfl (vB y) _ r13.all Tryd.underlying28 rfl Hy.info ?_; simp only [Act.put, List.setIfInBounds_toArray, List.set_cons_zero, List.set_cons_succ])
      | (refine wpList_load_w rfl 28 (.tmp 7) rfl (w.heap.size + 1) 0 rfl (vB root) _ r7.all Tryd.underlying28 rfl Hr.info ?_; simp only [Act.put, List.setIfInBounds_toArray, List.set_cons_zero, List.set_cons_succ])
      | (refine wpList_eql_d rfl (.tmp 44) (.tmp 45) 28 rfl x was false HB1.out Hx Hw rfl rfl ?_; simp only [Act.put, List.setIfInBounds_toArray, List.set_cons_zero, List.set_cons_succ]))
    go_ret
    exact ⟨by rw [HE.out]; rfl, hb⟩
  · have HE : Hid (E = B2) := (by simpa using hE : E = B2)
    clear hE
    have o_r12 : w.heap.size + 1 < V0.heap.size := Row.lt r7
    have o_r13 : V0.heap.size < (V0.heap.size + 1) := Nat.lt_succ_self _
    have n0 : Row ((V0.alloc (Obj.cells z32.toArray 28)).alloc (Obj.cells z32.toArray 28)) V0.heap.size z32 28 := (Row.new' rfl rfl).alloc _
    have n1 : Row ((V0.alloc (Obj.cells z32.toArray 28)).alloc (Obj.cells z32.toArray 28)) (V0.heap.size + 1) z32 28 := Row.new' (by simp) rfl
    have T0 := Hx.there n0 rfl
    replace n0 := n0.over (vs := vB x) (Hx.over rfl)
    replace n1 := Row.setCells_other n1 V0.heap.size 0 (vB x) (by omega)
    have T1 := Hy.there n1 rfl
    replace n1 := n1.over (vs := vB y) (Hy.over rfl)
    replace n0 := Row.setCells_other n0 (V0.heap.size + 1) 0 (vB y) (by omega)
    have hB : Below V0.heap.size V0 ((((V0.alloc (Obj.cells z32.toArray 28)).alloc (Obj.cells z32.toArray 28)).setCells V0.heap.size 0 (vB x)).setCells (V0.heap.size + 1) 0 (vB y)) := below_setCells (below_setCells (((Below.refl _ _).alloc (Nat.le_refl _) (Obj.cells z32.toArray 28)).alloc (by simp) (Obj.cells z32.toArray 28)) (b := V0.heap.size) (o := 0) (Nat.le_refl _) (vB x)) (b := (V0.heap.size + 1)) (o := 0) (by omega) (vB y)
    replace hb := hb.trans (hB.mono hb.size)
    replace r5 := Row.below r5 hB (Row.lt r5)
    replace r7 := Row.below r7 hB (Row.lt r7)
    clear hB
    have r12 := n0
    have r13 := n1
    clear n0 n1
    go_wp2_with (first
      | (refine wpList_store_mid rfl 28 (.tmp 12) (.tmp 42) rfl V0.heap.size 0 (vB x).toArray rfl rfl T0 Hx.info' Hx.one ?_; simp only [Act.put])
      | (refine wpList_store_mid rfl 28 (.tmp 13) (.tmp 43) rfl (V0.heap.size + 1) 0 (vB y).toArray rfl rfl T1 Hy.info' Hy.one ?_; simp only [Act.put]; clear T0 T1; (change wpList _ _ _ _ _ ((((V0.alloc (Obj.cells z32.toArray 28)).alloc (Obj.cells z32.toArray 28)).setCells V0.heap.size 0 (vB x)).setCells (V0.heap.size + 1) 0 (vB y))); (generalize ((((V0.alloc (Obj.cells z32.toArray 28)).alloc (Obj.cells z32.toArray 28)).setCells V0.heap.size 0 (vB x)).setCells (V0.heap.size + 1) 0 (vB y)) = X1 at *); (generalize hN : V0.heap.size + 1 = N13 at *; clear hN); (generalize hN : V0.heap.size = N12 at *; clear hN))
      | (refine wpList_load_w rfl 28 (.tmp 12) rfl N12 0 rfl (vB x) _ r12.all Tryd.underlying28 rfl Hx.info ?_; simp only [Act.put, List.setIfInBounds_toArray, List.set_cons_zero, List.set_cons_succ])
      | (refine wpList_load_w rfl 28 (.tmp 5) rfl (w.heap.size) 0 rfl (vB was) _ r5.all Tryd.underlying28 rfl Hw.info ?_; simp only [Act.put, List.setIfInBounds_toArray, List.set_cons_zero, List.set_cons_succ])
      | (refine wpList_load_w rfl 28 (.tmp 13) rfl N13 0 rfl (vB y) _ r13.all Tryd.underlying28 rfl Hy.info ?_; simp only [Act.put, List.setIfInBounds_toArray, List.set_cons_zero, List.set_cons_succ])
      | (refine wpList_load_w rfl 28 (.tmp 7) rfl (w.heap.size + 1) 0 rfl (vB root) _ r7.all Tryd.underlying28 rfl Hr.info ?_; simp only [Act.put, List.setIfInBounds_toArray, List.set_cons_zero, List.set_cons_succ])
      | (refine wpList_eql_d rfl (.tmp 44) (.tmp 45) 28 rfl x was true HB1.out Hx Hw rfl rfl ?_; simp only [Act.put, List.setIfInBounds_toArray, List.set_cons_zero, List.set_cons_succ])
      | (refine wpList_eql_d rfl (.tmp 48) (.tmp 49) 28 rfl y root B2 HB2.out Hy Hr rfl rfl ?_; simp only [Act.put, List.setIfInBounds_toArray, List.set_cons_zero, List.set_cons_succ]))
    go_ret
    exact ⟨by rw [HE.out]; rfl, hb⟩

theorem leads_any (m n : Nat) (hmn : m ≤ n) (hn : n < 4611686018427387904) (was root : List (BitVec 8)) (Hw : Dl was) (Hr : Dl root) (ds : List (List (BitVec 8))) (hds : ds.length = gl m n) (pv : Value) (w : World) (hK : Tab w 2) (hp : PAt w pv ds) :
    Calls Tryd.prog 28 #[.agg (vB was).toArray, .int .i64 (m : Int), .agg (vB root).toArray, .int .i64 (n : Int), pv] w fun e w' => e = .returned (.bool (ldB was root m n ds)) ∧ Below w.heap.size w w' := by
  unfold ldB
  by_cases h0 : m = 0
  · subst h0
    rw [if_pos rfl]
    exact leads_none n was root _ Hw Hr rfl _ rfl pv w hK
  · rw [if_neg h0]
    by_cases h1 : m = n
    · subst h1
      rw [if_pos rfl]
      exact leads_same m (by omega) was root Hw Hr _ rfl pv w
    · rw [if_neg h1]
      rw [show gl m n = gs m n true from if_neg h0] at hds
      have hd := rsb_len n m true was ds Hw hp.1 (by omega) hmn hn hds
      exact leads_more m n (by omega) (by omega) was root _ _ Hw Hr hd.1 hd.2 _ rfl pv w (fun W hB => rootsBy_any n m true was ds Hw (by omega) hmn hn hds pv W (hK.below hB hK.lt) (hp.below hB))

/-- What Grew answers. -/
def gw (was root : List (BitVec 8)) (m n : Int) (ds : List (List (BitVec 8))) : Int :=
  if n < 0 ∨ 1099511627776 < n ∨ m < 0 ∨ n < m then 40 else if ds.length = gl m.toNat n.toNat ∧ ldB was root m.toNat n.toNat ds = true then 0 else 43

set_option maxRecDepth 100000 in
set_option maxHeartbeats 1000000 in
theorem grew_a (m n : Int) (h : n < 0) (was root : List (BitVec 8)) (pv : Value) (w : World) :
    Calls Tryd.prog 15 #[.agg (vB was).toArray, .int .i64 m, .agg (vB root).toArray, .int .i64 n, pv] w fun e w' => e = .returned (.int .i64 40) ∧ Below w.heap.size w w' := by
  have hb : Below w.heap.size w ((w.alloc (Obj.cells (vB was).toArray 28)).alloc (Obj.cells (vB root).toArray 28)) := ((Below.refl _ _).alloc (Nat.le_refl _) _).alloc (by simp) _
  go_enter Tryd.func15, Tryd.ntmps15
  go_wp2_with fail
  go_ret
  exact ⟨rfl, hb⟩

set_option maxRecDepth 100000 in
set_option maxHeartbeats 1000000 in
theorem grew_b (m n : Int) (h0 : ¬ n < 0) (h : 1099511627776 < n) (was root : List (BitVec 8)) (pv : Value) (w : World) :
    Calls Tryd.prog 15 #[.agg (vB was).toArray, .int .i64 m, .agg (vB root).toArray, .int .i64 n, pv] w fun e w' => e = .returned (.int .i64 40) ∧ Below w.heap.size w w' := by
  have c1 : decide (1099511627776 < n) = true := decide_eq_true h
  have c2 : ¬ n ≤ 1099511627776 := by omega
  have hb : Below w.heap.size w ((w.alloc (Obj.cells (vB was).toArray 28)).alloc (Obj.cells (vB root).toArray 28)) := ((Below.refl _ _).alloc (Nat.le_refl _) _).alloc (by simp) _
  go_enter Tryd.func15, Tryd.ntmps15
  go_wp2_with fail
  go_ret
  exact ⟨rfl, hb⟩

set_option maxRecDepth 100000 in
set_option maxHeartbeats 1000000 in
theorem grew_c (m n : Int) (h0 : ¬ n < 0) (h1 : ¬ 1099511627776 < n) (h : m < 0) (was root : List (BitVec 8)) (pv : Value) (w : World) :
    Calls Tryd.prog 15 #[.agg (vB was).toArray, .int .i64 m, .agg (vB root).toArray, .int .i64 n, pv] w fun e w' => e = .returned (.int .i64 40) ∧ Below w.heap.size w w' := by
  have c1 : decide (1099511627776 < n) = false := decide_eq_false h1
  have hb : Below w.heap.size w ((w.alloc (Obj.cells (vB was).toArray 28)).alloc (Obj.cells (vB root).toArray 28)) := ((Below.refl _ _).alloc (Nat.le_refl _) _).alloc (by simp) _
  go_enter Tryd.func15, Tryd.ntmps15
  go_wp2_with fail
  go_ret
  exact ⟨rfl, hb⟩

set_option maxRecDepth 100000 in
set_option maxHeartbeats 1000000 in
theorem grew_d (m n : Int) (h0 : ¬ n < 0) (h1 : ¬ 1099511627776 < n) (h2 : ¬ m < 0) (h : n < m) (was root : List (BitVec 8)) (pv : Value) (w : World) :
    Calls Tryd.prog 15 #[.agg (vB was).toArray, .int .i64 m, .agg (vB root).toArray, .int .i64 n, pv] w fun e w' => e = .returned (.int .i64 40) ∧ Below w.heap.size w w' := by
  have c1 : decide (1099511627776 < n) = false := decide_eq_false h1
  have hb : Below w.heap.size w ((w.alloc (Obj.cells (vB was).toArray 28)).alloc (Obj.cells (vB root).toArray 28)) := ((Below.refl _ _).alloc (Nat.le_refl _) _).alloc (by simp) _
  go_enter Tryd.func15, Tryd.ntmps15
  go_wp2_with fail
  go_ret
  exact ⟨rfl, hb⟩

set_option maxRecDepth 100000 in
set_option maxHeartbeats 2000000 in
theorem grew_len (m n k pc : Nat) (hmn : m ≤ n) (hn : n ≤ 1099511627776) (hk : k ≠ gl m n) (was root : List (BitVec 8)) (PA : Option Addr) (w : World) :
    Calls Tryd.prog 15 #[.agg (vB was).toArray, .int .i64 (m : Int), .agg (vB root).toArray, .int .i64 (n : Int), .slice PA k pc] w fun e w' => e = .returned (.int .i64 43) ∧ Below w.heap.size w w' := by
  have hb : Below w.heap.size w ((w.alloc (Obj.cells (vB was).toArray 28)).alloc (Obj.cells (vB root).toArray 28)) := ((Below.refl _ _).alloc (Nat.le_refl _) _).alloc (by simp) _
  have c0 : ¬ (n : Int) < 0 := by omega
  have c1 : ¬ (1099511627776 : Int) < (n : Int) := by omega
  have c1b : (n : Int) ≤ 1099511627776 := by omega
  have c1c : decide ((1099511627776 : Int) < (n : Int)) = false := decide_eq_false c1
  have c2 : ¬ (m : Int) < 0 := by omega
  have c3 : ¬ (n : Int) < (m : Int) := by omega
  have HG : Hid (∀ w, _) := fun w => glen_any m n hmn (by omega) w
  have c5 : ¬ (k : Int) = (gl m n : Int) := by omega
  generalize gl m n = p at *
  clear hmn hn hk
  go_enter Tryd.func15, Tryd.ntmps15
  go_wp2_with (go_at_call 27; refine (HG.out _).mono ?_; rintro e w2 ⟨rfl, rfl⟩)
  go_ret
  exact ⟨rfl, hb⟩

set_option maxRecDepth 100000 in
set_option maxHeartbeats 2000000 in
theorem grew_ok (m n : Nat) (hmn : m ≤ n) (hn : n ≤ 1099511627776) (was root : List (BitVec 8)) (Hw : Dl was) (Hr : Dl root) (ds : List (List (BitVec 8))) (hds : ds.length = gl m n) (PA : Option Addr) (pc : Nat) (w : World) (hK : Tab w 2) (hp : PAt w (.slice PA ds.length pc) ds) :
    Calls Tryd.prog 15 #[.agg (vB was).toArray, .int .i64 (m : Int), .agg (vB root).toArray, .int .i64 (n : Int), .slice PA ds.length pc] w fun e w' => e = .returned (.int .i64 (if ldB was root m n ds = true then 0 else 43)) ∧ Below w.heap.size w w' := by
  have hb : Below w.heap.size w ((w.alloc (Obj.cells (vB was).toArray 28)).alloc (Obj.cells (vB root).toArray 28)) := ((Below.refl _ _).alloc (Nat.le_refl _) _).alloc (by simp) _
  have r5 : Row ((w.alloc (Obj.cells (vB was).toArray 28)).alloc (Obj.cells (vB root).toArray 28)) w.heap.size (vB was) 28 := (Row.new w (vB was) _).alloc _
  have r7 : Row ((w.alloc (Obj.cells (vB was).toArray 28)).alloc (Obj.cells (vB root).toArray 28)) (w.heap.size + 1) (vB root) 28 := Row.new' (by simp) rfl
  have c0 : ¬ (n : Int) < 0 := by omega
  have c1 : ¬ (1099511627776 : Int) < (n : Int) := by omega
  have c1b : (n : Int) ≤ 1099511627776 := by omega
  have c1c : decide ((1099511627776 : Int) < (n : Int)) = false := decide_eq_false c1
  have c2 : ¬ (m : Int) < 0 := by omega
  have c3 : ¬ (n : Int) < (m : Int) := by omega
  have HG : Hid (∀ w, _) := fun w => glen_any m n hmn (by omega) w
  rw [← hds] at HG
  have HL : Hid (∀ W, Below w.heap.size w W → _) := fun W (hB : Below w.heap.size w W) => leads_any m n hmn (by omega) was root Hw Hr ds hds (.slice PA ds.length pc) W (hK.below hB hK.lt) (hp.below hB)
  generalize ds.length = p at *
  obtain ⟨B, hB⟩ : ∃ B, B = ldB was root m n ds := ⟨_, rfl⟩
  rw [← hB] at HL ⊢
  clear hmn hn hds hK hp hB
  go_enter Tryd.func15, Tryd.ntmps15
  cases B
  · go_wp2_with (first
      | (go_at_call 27; refine (HG.out _).mono ?_; rintro e w2 ⟨rfl, rfl⟩)
      | (refine wpList_load_w rfl 28 (.tmp 5) rfl w.heap.size 0 rfl (vB was) _ r5.all Tryd.underlying28 rfl Hw.info ?_; simp only [Act.put, List.setIfInBounds_toArray, List.set_cons_zero, List.set_cons_succ])
      | (refine wpList_load_w rfl 28 (.tmp 7) rfl (w.heap.size + 1) 0 rfl (vB root) _ r7.all Tryd.underlying28 rfl Hr.info ?_; simp only [Act.put, List.setIfInBounds_toArray, List.set_cons_zero, List.set_cons_succ])
      | (go_at_call 28; refine (HL.out _ hb).mono ?_; rintro e w3 ⟨rfl, hB3⟩))
    go_ret
    exact ⟨rfl, hb.trans (hB3.mono hb.size)⟩
  · go_wp2_with (first
      | (go_at_call 27; refine (HG.out _).mono ?_; rintro e w2 ⟨rfl, rfl⟩)
      | (refine wpList_load_w rfl 28 (.tmp 5) rfl w.heap.size 0 rfl (vB was) _ r5.all Tryd.underlying28 rfl Hw.info ?_; simp only [Act.put, List.setIfInBounds_toArray, List.set_cons_zero, List.set_cons_succ])
      | (refine wpList_load_w rfl 28 (.tmp 7) rfl (w.heap.size + 1) 0 rfl (vB root) _ r7.all Tryd.underlying28 rfl Hr.info ?_; simp only [Act.put, List.setIfInBounds_toArray, List.set_cons_zero, List.set_cons_succ])
      | (go_at_call 28; refine (HL.out _ hb).mono ?_; rintro e w3 ⟨rfl, hB3⟩))
    go_ret
    exact ⟨rfl, hb.trans (hB3.mono hb.size)⟩

/-- Grew of whatever comes. -/
theorem grew_any (m n : Int) (was root : List (BitVec 8)) (Hw : Dl was) (Hr : Dl root) (ds : List (List (BitVec 8))) (PA : Option Addr) (pc : Nat) (w : World) (hK : Tab w 2) (hp : PAt w (.slice PA ds.length pc) ds) :
    Calls Tryd.prog 15 #[.agg (vB was).toArray, .int .i64 m, .agg (vB root).toArray, .int .i64 n, .slice PA ds.length pc] w fun e w' => e = .returned (.int .i64 (gw was root m n ds)) ∧ Below w.heap.size w w' := by
  unfold gw
  by_cases h0 : n < 0
  · rw [if_pos (.inl h0)]; exact grew_a m n h0 was root _ w
  by_cases h1 : 1099511627776 < n
  · rw [if_pos (.inr (.inl h1))]; exact grew_b m n h0 h1 was root _ w
  by_cases h2 : m < 0
  · rw [if_pos (.inr (.inr (.inl h2)))]; exact grew_c m n h0 h1 h2 was root _ w
  by_cases h3 : n < m
  · rw [if_pos (.inr (.inr (.inr h3)))]; exact grew_d m n h0 h1 h2 h3 was root _ w
  rw [if_neg (by omega)]
  obtain ⟨M, rfl⟩ : ∃ M : Nat, m = (M : Int) := ⟨m.toNat, by omega⟩
  obtain ⟨N, rfl⟩ : ∃ N : Nat, n = (N : Int) := ⟨n.toNat, by omega⟩
  simp only [Int.toNat_natCast]
  by_cases h5 : ds.length = gl M N
  · have h := grew_ok M N (by omega) (by omega) was root Hw Hr ds h5 PA pc w hK hp
    by_cases h6 : ldB was root M N ds = true
    · rw [if_pos h6] at h
      rw [if_pos ⟨h5, h6⟩]; exact h
    · rw [if_neg h6] at h
      rw [if_neg (fun x => h6 x.2)]; exact h
  · rw [if_neg (fun x => h5 x.1)]
    exact grew_len M N ds.length pc (by omega) (by omega) h5 was root PA w

end Go.Proofs.YtlknanjbiicghaaDoor
