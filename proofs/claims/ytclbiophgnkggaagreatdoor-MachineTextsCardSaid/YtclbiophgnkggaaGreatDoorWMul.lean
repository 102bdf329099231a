/-
  wide.Mul, wide.Cmp.
-/
import Derived.Test.YtclbiophgnkggaaGreatDoorWHalf
namespace Go.Proofs.YtclbiophgnkggaaGreatDoor
open Go Go.RowKit
open Wd

set_option maxRecDepth 100000 in
set_option maxHeartbeats 2000000 in
theorem mul_any (a b : Nat) (ha : a < 2 ^ 256) (hb : b < 2 ^ 256) (w : World) :
    Calls Tryz.prog 71 #[.agg (vQ (dgs a 4)).toArray, .agg (vQ (dgs b 4)).toArray] w fun e w' => e = .returned (.tuple #[.agg (vQ (dgs (mulR a b) 4)).toArray, .int .i64 (mulE a b)]) ∧ Below w.heap.size w w' := by
  have HT : Hid (∀ w, _) := times_any a b ha hb
  obtain ⟨m, hm⟩ : ∃ m, m = a * b := ⟨_, rfl⟩
  have hmb : a * b < 2 ^ 256 * 2 ^ 256 := Nat.mul_lt_mul'' ha hb
  rw [← hm] at hmb HT
  have HQ : Hid (m / 2 ^ 256 < 2 ^ 256) := Nat.div_lt_of_lt_mul hmb
  have HH : Hid (∀ w, _) := halves_any m
  have HM : Hid (m = a * b) := hm
  clear hm hmb
  obtain ⟨ca, hca⟩ : ∃ ca, ca = vQ (dgs a 4) := ⟨_, rfl⟩
  obtain ⟨cb, hcb⟩ : ∃ cb, cb = vQ (dgs b 4) := ⟨_, rfl⟩
  obtain ⟨lo, hlo⟩ : ∃ lo, lo = vQ (dgs m 4) := ⟨_, rfl⟩
  obtain ⟨hi, hhi⟩ : ∃ hi, hi = vQ (dgs (m / 2 ^ 256) 4) := ⟨_, rfl⟩
  have HZ : Hid (∀ w, _) := isZero_any (m / 2 ^ 256) HQ.out
  rw [← hca, ← hcb] at HT
  rw [← hlo, ← hhi] at HH
  rw [← hhi] at HZ
  rw [← hca, ← hcb]
  have la : ca.length = 4 := by rw [hca, vQ_length, dgs_length]
  have lb : cb.length = 4 := by rw [hcb, vQ_length, dgs_length]
  have ll : lo.length = 4 := by rw [hlo, vQ_length, dgs_length]
  have lh : hi.length = 4 := by rw [hhi, vQ_length, dgs_length]
  have ia : (Tryz.prog.info? 37).map (·.size) = some ca.length := by rw [info_w4, la]
  have ib : (Tryz.prog.info? 37).map (·.size) = some cb.length := by rw [info_w4, lb]
  have il : (Tryz.prog.info? 37).map (·.size) = some lo.length := by rw [info_w4, ll]
  have ih : (Tryz.prog.info? 37).map (·.size) = some hi.length := by rw [info_w4, lh]
  have il' : (Tryz.prog.info? 37).map (·.size) = some lo.toArray.size := by rw [info_w4]; simp [ll]
  have ih' : (Tryz.prog.info? 37).map (·.size) = some hi.toArray.size := by rw [info_w4]; simp [lh]
  have o1 := all_oneCell_toArray (show ∀ v ∈ lo, v.oneCell' = true by rw [hlo]; exact vQ_one _)
  have o2 := all_oneCell_toArray (show ∀ v ∈ hi, v.oneCell' = true by rw [hhi]; exact vQ_one _)
  have HLO : Hid (lo = vQ (dgs m 4)) := hlo
  have HLL : Hid (lo.length = 4) := ll
  have HLH : Hid (hi.length = 4) := lh
  clear hca hcb hlo hhi la lb ll lh ha hb
  have rA : Row ((w.alloc (Obj.cells ca.toArray 37)).alloc (Obj.cells cb.toArray 37)) w.heap.size ca 37 := (Row.new w ca _).alloc _
  go_enter Tryz.func71, Tryz.ntmps71
  have Z : (vQ (List.replicate 4 0)).toArray = #[Value.int IntKind.u64 0, Value.int IntKind.u64 0, Value.int IntKind.u64 0, Value.int IntKind.u64 0] := rfl
  go_wp2_with (first
    | (refine wpList_load_mid rfl 37 (.tmp 2) rfl w.heap.size 0 rfl ca _ (Row.alloc rA _).all Tryz.underlying37 rfl ia ?_; simp only [Act.put, List.setIfInBounds_toArray, List.set_cons_zero, List.set_cons_succ])
    | (refine wpList_load_mid rfl 37 (.tmp 3) rfl (w.heap.size + 1) 0 rfl cb _ (Row.alloc (Row.new' (by simp) rfl) _).all Tryz.underlying37 rfl ib ?_; simp only [Act.put, List.setIfInBounds_toArray, List.set_cons_zero, List.set_cons_succ]))
  have hb0 : Below w.heap.size w (((w.alloc (Obj.cells ca.toArray 37)).alloc (Obj.cells cb.toArray 37)).alloc (Obj.cells #[Value.int IntKind.u64 0, Value.int IntKind.u64 0, Value.int IntKind.u64 0, Value.int IntKind.u64 0] 37)) := (((Below.refl _ _).alloc (Nat.le_refl _) _).alloc (by simp) _).alloc (by simp; omega) _
  have r4 : Row (((w.alloc (Obj.cells ca.toArray 37)).alloc (Obj.cells cb.toArray 37)).alloc (Obj.cells #[Value.int IntKind.u64 0, Value.int IntKind.u64 0, Value.int IntKind.u64 0, Value.int IntKind.u64 0] 37)) (w.heap.size + 1 + 1) (vQ (List.replicate 4 0)) 37 := Row.new' (by simp) rfl
  generalize (((w.alloc (Obj.cells ca.toArray 37)).alloc (Obj.cells cb.toArray 37)).alloc (Obj.cells #[Value.int IntKind.u64 0, Value.int IntKind.u64 0, Value.int IntKind.u64 0, Value.int IntKind.u64 0] 37)) = W0 at *
  clear rA Z
  refine (HT.out W0).mono ?_
  rintro e W1 ⟨rfl, hB1⟩
  have hb1 := hb0.trans (hB1.mono hb0.size)
  replace r4 := Row.below r4 hB1 (Row.lt r4)
  clear hB1 hb0
  go_wp2_with fail
  refine (HH.out W1).mono ?_
  rintro e W2 ⟨rfl, hB2⟩
  have hb2 := hb1.trans (hB2.mono hb1.size)
  replace r4 := Row.below r4 hB2 (Row.lt r4)
  clear hB2 hb1
  have n6 : Row ((W2.alloc (Obj.cells #[Value.int IntKind.u64 0, Value.int IntKind.u64 0, Value.int IntKind.u64 0, Value.int IntKind.u64 0] 37)).alloc (Obj.cells #[Value.int IntKind.u64 0, Value.int IntKind.u64 0, Value.int IntKind.u64 0, Value.int IntKind.u64 0] 37)) W2.heap.size (vQ (List.replicate 4 0)) 37 := (Row.new' rfl rfl).alloc _
  have n7 : Row ((W2.alloc (Obj.cells #[Value.int IntKind.u64 0, Value.int IntKind.u64 0, Value.int IntKind.u64 0, Value.int IntKind.u64 0] 37)).alloc (Obj.cells #[Value.int IntKind.u64 0, Value.int IntKind.u64 0, Value.int IntKind.u64 0, Value.int IntKind.u64 0] 37)) (W2.heap.size + 1) (vQ (List.replicate 4 0)) 37 := Row.new' (by simp) rfl
  have T6 := n6.there 0 lo.toArray.size (by simp [HLL.out, vQ_length])
  have n7' : Row (((W2.alloc (Obj.cells #[Value.int IntKind.u64 0, Value.int IntKind.u64 0, Value.int IntKind.u64 0, Value.int IntKind.u64 0] 37)).alloc (Obj.cells #[Value.int IntKind.u64 0, Value.int IntKind.u64 0, Value.int IntKind.u64 0, Value.int IntKind.u64 0] 37)).setCells W2.heap.size 0 lo) (W2.heap.size + 1) (vQ (List.replicate 4 0)) 37 := Row.setCells_other n7 _ _ _ (by omega)
  have T7 := n7'.there 0 hi.toArray.size (by simp [HLH.out, vQ_length])
  have r6 : Row ((((W2.alloc (Obj.cells #[Value.int IntKind.u64 0, Value.int IntKind.u64 0, Value.int IntKind.u64 0, Value.int IntKind.u64 0] 37)).alloc (Obj.cells #[Value.int IntKind.u64 0, Value.int IntKind.u64 0, Value.int IntKind.u64 0, Value.int IntKind.u64 0] 37)).setCells W2.heap.size 0 lo).setCells (W2.heap.size + 1) 0 hi) W2.heap.size lo 37 := Row.setCells_other (Row.over n6 (by rw [HLL.out]; rfl)) _ _ _ (by omega)
  have r7 : Row ((((W2.alloc (Obj.cells #[Value.int IntKind.u64 0, Value.int IntKind.u64 0, Value.int IntKind.u64 0, Value.int IntKind.u64 0] 37)).alloc (Obj.cells #[Value.int IntKind.u64 0, Value.int IntKind.u64 0, Value.int IntKind.u64 0, Value.int IntKind.u64 0] 37)).setCells W2.heap.size 0 lo).setCells (W2.heap.size + 1) 0 hi) (W2.heap.size + 1) hi 37 := Row.over n7' (by rw [HLH.out]; rfl)
  have hB4 : Below W2.heap.size W2 ((((W2.alloc (Obj.cells #[Value.int IntKind.u64 0, Value.int IntKind.u64 0, Value.int IntKind.u64 0, Value.int IntKind.u64 0] 37)).alloc (Obj.cells #[Value.int IntKind.u64 0, Value.int IntKind.u64 0, Value.int IntKind.u64 0, Value.int IntKind.u64 0] 37)).setCells W2.heap.size 0 lo).setCells (W2.heap.size + 1) 0 hi) := below_setCells (below_setCells (((Below.refl _ _).alloc (Nat.le_refl _) _).alloc (by simp) _) (Nat.le_refl _) _) (by omega) _
  replace r4 := Row.below r4 hB4 (Row.lt r4)
  have hlt4 := Nat.le_refl (w.heap.size + 1 + 1)
  have hb4 := hb2.trans (hB4.mono hb2.size)
  clear n6 n7 n7' hB4
  go_wp2_with (first
    | (refine wpList_store_mid rfl 37 (.tmp 6) (.tmp 13) rfl W2.heap.size 0 lo.toArray rfl rfl T6 il' o1 ?_; simp only [Act.put])
    | (refine wpList_store_mid rfl 37 (.tmp 7) (.tmp 14) rfl (W2.heap.size + 1) 0 hi.toArray rfl rfl T7 ih' o2 ?_; simp only [Act.put]; clear T6 T7; (change wpList _ _ _ _ _ ((((W2.alloc (Obj.cells #[Value.int IntKind.u64 0, Value.int IntKind.u64 0, Value.int IntKind.u64 0, Value.int IntKind.u64 0] 37)).alloc (Obj.cells #[Value.int IntKind.u64 0, Value.int IntKind.u64 0, Value.int IntKind.u64 0, Value.int IntKind.u64 0] 37)).setCells W2.heap.size 0 lo).setCells (W2.heap.size + 1) 0 hi)); (generalize ((((W2.alloc (Obj.cells #[Value.int IntKind.u64 0, Value.int IntKind.u64 0, Value.int IntKind.u64 0, Value.int IntKind.u64 0] 37)).alloc (Obj.cells #[Value.int IntKind.u64 0, Value.int IntKind.u64 0, Value.int IntKind.u64 0, Value.int IntKind.u64 0] 37)).setCells W2.heap.size 0 lo).setCells (W2.heap.size + 1) 0 hi) = W4 at *))
    | (refine wpList_load_mid rfl 37 (.tmp 7) rfl (W2.heap.size + 1) 0 rfl hi _ r7.all Tryz.underlying37 rfl ih ?_; simp only [Act.put, List.setIfInBounds_toArray, List.set_cons_zero, List.set_cons_succ]))
  refine (HZ.out W4).mono ?_
  rintro e W5 ⟨rfl, hB5⟩
  have hb5 := hb4.trans (hB5.mono hb4.size)
  replace r4 := Row.below r4 hB5 (Row.lt r4)
  replace r6 := Row.below r6 hB5 (Row.lt r6)
  clear hB5 hb4 r7
  by_cases hz : m / 2 ^ 256 = 0
  · have HR : Hid (a * b < 2 ^ 256) := by show _ < _; rw [← HM.out]; omega
    have hz' : decide (m / 2 ^ 256 = 0) = true := decide_eq_true hz
    rw [hz']
    have T := r4.there 0 lo.toArray.size (by simp [HLL.out, vQ_length])
    have fin := r4.over (vs := lo) (by rw [HLL.out]; rfl)
    have hbf := below_setCells hb5 (b := w.heap.size + 1 + 1) (o := 0) (by omega) lo
    clear hz hz'
    go_wp2_with (first
      | (refine wpList_load_mid rfl 37 (.tmp 6) rfl W2.heap.size 0 rfl lo _ r6.all Tryz.underlying37 rfl il ?_; simp only [Act.put, List.setIfInBounds_toArray, List.set_cons_zero, List.set_cons_succ])
      | (refine wpList_store_mid rfl 37 (.tmp 4) (.tmp 19) rfl (w.heap.size + 1 + 1) 0 lo.toArray rfl rfl T il' o1 ?_; simp only [Act.put]))
    exact bodyPost_ret (results_row_tmp Tryz.results71 _ _ (w.heap.size + 1 + 1) 37 lo (.int .i64 0) rfl rfl fin Tryz.underlying37 info_w4 HLL.out) rfl ⟨by rw [show mulR a b = m from (if_pos HR.out).trans HM.out.symm, show mulE a b = 0 from if_pos HR.out, HLO.out], hbf⟩
  · have HR : Hid (¬ a * b < 2 ^ 256) := by show ¬ _; rw [← HM.out]; omega
    have hz' : decide (m / 2 ^ 256 = 0) = false := decide_eq_false hz
    rw [hz']
    have T := r4.there 0 (vQ (List.replicate 4 0)).toArray.size (Nat.le_refl 4)
    have fin := r4.over (vs := vQ (List.replicate 4 0)) rfl
    have hbf := below_setCells hb5 (b := w.heap.size + 1 + 1) (o := 0) (by omega) (vQ (List.replicate 4 0))
    clear hz hz'
    go_wp2_with (refine wpList_store_mid rfl 37 (.tmp 4) (.tmp 18) rfl (w.heap.size + 1 + 1) 0 (vQ (List.replicate 4 0)).toArray rfl rfl T info_w4 (all_oneCell_toArray (vQ_one _)) ?_; simp only [Act.put])
    exact bodyPost_ret (results_row_tmp Tryz.results71 _ _ (w.heap.size + 1 + 1) 37 (vQ (List.replicate 4 0)) (.int .i64 22) rfl rfl fin Tryz.underlying37 info_w4 rfl) rfl ⟨by rw [show mulR a b = 0 from if_neg HR.out, show mulE a b = 22 from if_neg HR.out, dgs_zero], hbf⟩

end Go.Proofs.YtclbiophgnkggaaGreatDoor
