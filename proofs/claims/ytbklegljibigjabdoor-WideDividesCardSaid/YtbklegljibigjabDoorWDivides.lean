/-
  causewaylaw02.WideDivides.
-/
import Derived.Test.YtbklegljibigjabDoorWKnown
import Derived.Test.YtbklegljibigjabDoorWMd
namespace Go.Proofs.YtbklegljibigjabDoor
open Go Go.RowKit
open Wd

theorem md_c {ca cb cc : List Value} {a b c : Nat} (Ha : Wc ca a) (Hb : Wc cb b) (Hc : Wc cc c) (ha : a < 2 ^ 256) (hb : b < 2 ^ 256) (hc : c < 2 ^ 256) {r : Nat} {E : Int} (hr : mdR a b c = r) (hE : mdE a b c = E) (w : World) : Calls Tryd.prog 12 #[.agg ca.toArray, .agg cb.toArray, .agg cc.toArray] w fun e w' => ∃ x, Wc x r ∧ e = .returned (.tuple #[.agg x.toArray, .int .i64 E]) ∧ Below w.heap.size w w' := by
  subst hr hE; rw [Ha, Hb, Hc]
  exact (mulDiv_any a b c ha hb hc w).mono fun e w' h => ⟨_, rfl, h.1, h.2⟩

set_option maxRecDepth 100000 in
set_option maxHeartbeats 8000000 in
theorem divides_walk (a b : Nat) (ha : a < 2 ^ 256) (hb : b < 2 ^ 256) (w : World) (hp : P10 w) :
    Calls Tryd.prog 4 #[.agg (vQ (dgs a 4)).toArray, .agg (vQ (dgs b 4)).toArray] w fun e w' => e = .returned (.bool true) ∧ Below w.heap.size w w' := by
  have HP : Hid (P10 w) := hp
  have HA : Hid (a < 2 ^ 256) := ha
  have HB : Hid (b < 2 ^ 256) := hb
  obtain ⟨ca, Ha⟩ : ∃ c, Wc c a := ⟨_, rfl⟩
  obtain ⟨cb, Hb⟩ : ∃ c, Wc c b := ⟨_, rfl⟩
  rw [← show ca = vQ (dgs a 4) from Ha, ← show cb = vQ (dgs b 4) from Hb]
  clear ha hb hp
  have hb : Below w.heap.size w ((w.alloc (Obj.cells ca.toArray 24)).alloc (Obj.cells cb.toArray 24)) := ((Below.refl _ _).alloc (Nat.le_refl _) _).alloc (by simp) _
  have ra : Row ((w.alloc (Obj.cells ca.toArray 24)).alloc (Obj.cells cb.toArray 24)) w.heap.size ca 24 := (Row.new w ca _).alloc _
  have rb : Row ((w.alloc (Obj.cells ca.toArray 24)).alloc (Obj.cells cb.toArray 24)) (w.heap.size + 1) cb 24 := Row.new' (by simp) rfl
  go_enter Tryd.func4, Tryd.ntmps4
  go_wp2_with fail
  generalize ((w.alloc (Obj.cells ca.toArray 24)).alloc (Obj.cells cb.toArray 24)) = W0 at *
  refine (known_any W0 (HP.out.below hb)).mono ?_
  rintro e V0 ⟨rfl, hB⟩
  replace hb := hb.trans (hB.mono hb.size)
  replace ra := Row.below ra hB (Row.lt ra)
  replace rb := Row.below rb hB (Row.lt rb)
  clear hB
  go_wp2_with (first
    | (refine wpList_load_w rfl 24 (.tmp 2) rfl (w.heap.size) 0 rfl ca _ ra.all Tryd.underlying24 rfl Ha.info ?_; simp only [Act.put, List.setIfInBounds_toArray, List.set_cons_zero, List.set_cons_succ])
    | (refine wpList_load_w rfl 24 (.tmp 3) rfl (w.heap.size + 1) 0 rfl cb _ rb.all Tryd.underlying24 rfl Hb.info ?_; simp only [Act.put, List.setIfInBounds_toArray, List.set_cons_zero, List.set_cons_succ]))
  by_cases hz : b = 0
  · have HZ : Hid (b = 0) := hz
    have HQ : Hid (divQ a b = 0 ∧ divR a b = 0 ∧ divE b = 24) := ⟨if_pos hz, if_pos hz, if_pos hz⟩
    clear hz
    refine (div_c Ha Hb HA.out HB.out HQ.out.1 HQ.out.2.1 HQ.out.2.2 V0).mono ?_
    rintro e V1 ⟨c6, c7, H6, H7, rfl, hB⟩
    replace hb := hb.trans (hB.mono hb.size)
    replace ra := Row.below ra hB (Row.lt ra)
    replace rb := Row.below rb hB (Row.lt rb)
    clear hB
    have n0 : Row ((V1.alloc (Obj.cells #[Value.int IntKind.u64 0, Value.int IntKind.u64 0, Value.int IntKind.u64 0, Value.int IntKind.u64 0] 24)).alloc (Obj.cells #[Value.int IntKind.u64 0, Value.int IntKind.u64 0, Value.int IntKind.u64 0, Value.int IntKind.u64 0] 24)) V1.heap.size (vQ (List.replicate 4 0)) 24 := (Row.new' rfl rfl).alloc _
    have n1 : Row ((V1.alloc (Obj.cells #[Value.int IntKind.u64 0, Value.int IntKind.u64 0, Value.int IntKind.u64 0, Value.int IntKind.u64 0] 24)).alloc (Obj.cells #[Value.int IntKind.u64 0, Value.int IntKind.u64 0, Value.int IntKind.u64 0, Value.int IntKind.u64 0] 24)) (V1.heap.size + 1) (vQ (List.replicate 4 0)) 24 := Row.new' (by simp) rfl
    have T0 := H6.there n0 rfl
    replace n0 := n0.over (vs := c6) (by rw [H6.len]; rfl)
    replace n1 := Row.setCells_other n1 V1.heap.size 0 c6 (by omega)
    have T1 := H7.there n1 rfl
    replace n0 := Row.setCells_other n0 (V1.heap.size + 1) 0 c7 (by omega)
    replace n1 := n1.over (vs := c7) (by rw [H7.len]; rfl)
    have lt := Row.lt ra
    replace ra := (Row.setCells_other (Row.setCells_other (Row.alloc (Row.alloc ra (Obj.cells #[Value.int IntKind.u64 0, Value.int IntKind.u64 0, Value.int IntKind.u64 0, Value.int IntKind.u64 0] 24)) (Obj.cells #[Value.int IntKind.u64 0, Value.int IntKind.u64 0, Value.int IntKind.u64 0, Value.int IntKind.u64 0] 24)) V1.heap.size 0 c6 (by omega)) (V1.heap.size + 1) 0 c7 (by omega))
    clear lt
    have lt := Row.lt rb
    replace rb := (Row.setCells_other (Row.setCells_other (Row.alloc (Row.alloc rb (Obj.cells #[Value.int IntKind.u64 0, Value.int IntKind.u64 0, Value.int IntKind.u64 0, Value.int IntKind.u64 0] 24)) (Obj.cells #[Value.int IntKind.u64 0, Value.int IntKind.u64 0, Value.int IntKind.u64 0, Value.int IntKind.u64 0] 24)) V1.heap.size 0 c6 (by omega)) (V1.heap.size + 1) 0 c7 (by omega))
    clear lt
    have hbn : Below w.heap.size w ((((V1.alloc (Obj.cells #[Value.int IntKind.u64 0, Value.int IntKind.u64 0, Value.int IntKind.u64 0, Value.int IntKind.u64 0] 24)).alloc (Obj.cells #[Value.int IntKind.u64 0, Value.int IntKind.u64 0, Value.int IntKind.u64 0, Value.int IntKind.u64 0] 24)).setCells V1.heap.size 0 c6).setCells (V1.heap.size + 1) 0 c7) := (below_setCells (below_setCells ((hb.alloc hb.size (Obj.cells #[Value.int IntKind.u64 0, Value.int IntKind.u64 0, Value.int IntKind.u64 0, Value.int IntKind.u64 0] 24)).alloc (by simp; have := hb.size; omega) (Obj.cells #[Value.int IntKind.u64 0, Value.int IntKind.u64 0, Value.int IntKind.u64 0, Value.int IntKind.u64 0] 24)) (b := V1.heap.size) (o := 0) (by have := hb.size; omega) c6) (b := V1.heap.size + 1) (o := 0) (by have := hb.size; omega) c7)
    replace hb := hbn
    clear hbn
    have r6 := n0
    have r7 := n1
    clear n0 n1
    go_wp2_with (first
      | (refine wpList_store_mid rfl 24 (.tmp 6) (.tmp 21) rfl V1.heap.size 0 c6.toArray rfl rfl T0 H6.info' H6.one ?_; simp only [Act.put])
      | (refine wpList_store_mid rfl 24 (.tmp 7) (.tmp 22) rfl (V1.heap.size + 1) 0 c7.toArray rfl rfl T1 H7.info' H7.one ?_; simp only [Act.put]; clear T0 T1; (change wpList _ _ _ _ _ ((((V1.alloc (Obj.cells #[Value.int IntKind.u64 0, Value.int IntKind.u64 0, Value.int IntKind.u64 0, Value.int IntKind.u64 0] 24)).alloc (Obj.cells #[Value.int IntKind.u64 0, Value.int IntKind.u64 0, Value.int IntKind.u64 0, Value.int IntKind.u64 0] 24)).setCells V1.heap.size 0 c6).setCells (V1.heap.size + 1) 0 c7)); (generalize ((((V1.alloc (Obj.cells #[Value.int IntKind.u64 0, Value.int IntKind.u64 0, Value.int IntKind.u64 0, Value.int IntKind.u64 0] 24)).alloc (Obj.cells #[Value.int IntKind.u64 0, Value.int IntKind.u64 0, Value.int IntKind.u64 0, Value.int IntKind.u64 0] 24)).setCells V1.heap.size 0 c6).setCells (V1.heap.size + 1) 0 c7) = X1 at *); (generalize hN1 : V1.heap.size + 1 = N7 at *; clear hN1); (generalize hN0 : V1.heap.size = N6 at *; clear hN0))
      | (refine wpList_load_w rfl 24 (.tmp 3) rfl (w.heap.size + 1) 0 rfl cb _ rb.all Tryd.underlying24 rfl Hb.info ?_; simp only [Act.put, List.setIfInBounds_toArray, List.set_cons_zero, List.set_cons_succ])
      | (refine wpList_eql_c (B := true) rfl (.tmp 24) (.tmp 25) 24 rfl Hb Wc.zero HB.out (by decide) rfl rfl (decide_eq_true HZ.out) ?_; simp only [Act.put, List.setIfInBounds_toArray, List.set_cons_zero, List.set_cons_succ])
      | (refine wpList_load_w rfl 24 (.tmp 6) rfl N6 0 rfl c6 _ r6.all Tryd.underlying24 rfl H6.info ?_; simp only [Act.put, List.setIfInBounds_toArray, List.set_cons_zero, List.set_cons_succ])
      | (refine wpList_load_w rfl 24 (.tmp 7) rfl N7 0 rfl c7 _ r7.all Tryd.underlying24 rfl H7.info ?_; simp only [Act.put, List.setIfInBounds_toArray, List.set_cons_zero, List.set_cons_succ])
      | (refine wpList_eql_c (B := true) rfl (.tmp 33) (.tmp 34) 24 rfl H6 Wc.zero (by decide) (by decide) rfl rfl (by decide) ?_; simp only [Act.put, List.setIfInBounds_toArray, List.set_cons_zero, List.set_cons_succ])
      | (refine wpList_eql_c (B := true) rfl (.tmp 38) (.tmp 39) 24 rfl H7 Wc.zero (by decide) (by decide) rfl rfl (by decide) ?_; simp only [Act.put, List.setIfInBounds_toArray, List.set_cons_zero, List.set_cons_succ]))
    go_ret
    exact ⟨rfl, hb⟩
  · have HZ : Hid (¬ b = 0) := hz
    have hb0 : 0 < b := by omega
    have hqb : a / b * b ≤ a := Nat.div_mul_le_self a b
    have hsum : a / b * b + a % b = a := Nat.div_add_mod' a b
    have hrl : a % b < b := Nat.mod_lt a hb0
    have HQL : Hid (a / b < 2 ^ 256) := Nat.lt_of_le_of_lt (Nat.div_le_self a b) HA.out
    have HRL : Hid (a % b < 2 ^ 256) := Nat.lt_trans hrl HB.out
    have HML : Hid (a / b * b < 2 ^ 256) := Nat.lt_of_le_of_lt hqb HA.out
    have HQ : Hid (divQ a b = a / b ∧ divR a b = a % b ∧ divE b = 0) := ⟨if_neg hz, if_neg hz, if_neg hz⟩
    have HM : Hid (mulR (a / b) b = a / b * b ∧ mulE (a / b) b = 0) := ⟨if_pos HML.out, if_pos HML.out⟩
    have HS : Hid (addR (a / b * b) (a % b) = a ∧ addE (a / b * b) (a % b) = 0) := ⟨(if_pos (by rw [hsum]; exact HA.out)).trans hsum, if_pos (by rw [hsum]; exact HA.out)⟩
    have HC : Hid (cmpR (a % b) b = -1) := (if_neg (by omega)).trans (if_pos hrl)
    have hmd : a / b * b / b = a / b := Nat.mul_div_cancel _ hb0
    have HD : Hid (mdR (a / b) b b = a / b ∧ mdE (a / b) b b = 0) := ⟨(if_neg hz).trans ((if_pos (by rw [hmd]; exact HQL.out)).trans hmd), (if_neg hz).trans (if_pos (by rw [hmd]; exact HQL.out))⟩
    clear hz hb0 hqb hsum hrl hmd
    generalize a / b * b = m at *
    generalize a / b = q at *
    generalize a % b = r at *
    refine (div_c Ha Hb HA.out HB.out HQ.out.1 HQ.out.2.1 HQ.out.2.2 V0).mono ?_
    rintro e V1 ⟨c6, c7, H6, H7, rfl, hB⟩
    replace hb := hb.trans (hB.mono hb.size)
    replace ra := Row.below ra hB (Row.lt ra)
    replace rb := Row.below rb hB (Row.lt rb)
    clear hB
    have n0 : Row ((V1.alloc (Obj.cells #[Value.int IntKind.u64 0, Value.int IntKind.u64 0, Value.int IntKind.u64 0, Value.int IntKind.u64 0] 24)).alloc (Obj.cells #[Value.int IntKind.u64 0, Value.int IntKind.u64 0, Value.int IntKind.u64 0, Value.int IntKind.u64 0] 24)) V1.heap.size (vQ (List.replicate 4 0)) 24 := (Row.new' rfl rfl).alloc _
    have n1 : Row ((V1.alloc (Obj.cells #[Value.int IntKind.u64 0, Value.int IntKind.u64 0, Value.int IntKind.u64 0, Value.int IntKind.u64 0] 24)).alloc (Obj.cells #[Value.int IntKind.u64 0, Value.int IntKind.u64 0, Value.int IntKind.u64 0, Value.int IntKind.u64 0] 24)) (V1.heap.size + 1) (vQ (List.replicate 4 0)) 24 := Row.new' (by simp) rfl
    have T0 := H6.there n0 rfl
    replace n0 := n0.over (vs := c6) (by rw [H6.len]; rfl)
    replace n1 := Row.setCells_other n1 V1.heap.size 0 c6 (by omega)
    have T1 := H7.there n1 rfl
    replace n0 := Row.setCells_other n0 (V1.heap.size + 1) 0 c7 (by omega)
    replace n1 := n1.over (vs := c7) (by rw [H7.len]; rfl)
    have lt := Row.lt ra
    replace ra := (Row.setCells_other (Row.setCells_other (Row.alloc (Row.alloc ra (Obj.cells #[Value.int IntKind.u64 0, Value.int IntKind.u64 0, Value.int IntKind.u64 0, Value.int IntKind.u64 0] 24)) (Obj.cells #[Value.int IntKind.u64 0, Value.int IntKind.u64 0, Value.int IntKind.u64 0, Value.int IntKind.u64 0] 24)) V1.heap.size 0 c6 (by omega)) (V1.heap.size + 1) 0 c7 (by omega))
    clear lt
    have lt := Row.lt rb
    replace rb := (Row.setCells_other (Row.setCells_other (Row.alloc (Row.alloc rb (Obj.cells #[Value.int IntKind.u64 0, Value.int IntKind.u64 0, Value.int IntKind.u64 0, Value.int IntKind.u64 0] 24)) (Obj.cells #[Value.int IntKind.u64 0, Value.int IntKind.u64 0, Value.int IntKind.u64 0, Value.int IntKind.u64 0] 24)) V1.heap.size 0 c6 (by omega)) (V1.heap.size + 1) 0 c7 (by omega))
    clear lt
    have hbn : Below w.heap.size w ((((V1.alloc (Obj.cells #[Value.int IntKind.u64 0, Value.int IntKind.u64 0, Value.int IntKind.u64 0, Value.int IntKind.u64 0] 24)).alloc (Obj.cells #[Value.int IntKind.u64 0, Value.int IntKind.u64 0, Value.int IntKind.u64 0, Value.int IntKind.u64 0] 24)).setCells V1.heap.size 0 c6).setCells (V1.heap.size + 1) 0 c7) := (below_setCells (below_setCells ((hb.alloc hb.size (Obj.cells #[Value.int IntKind.u64 0, Value.int IntKind.u64 0, Value.int IntKind.u64 0, Value.int IntKind.u64 0] 24)).alloc (by simp; have := hb.size; omega) (Obj.cells #[Value.int IntKind.u64 0, Value.int IntKind.u64 0, Value.int IntKind.u64 0, Value.int IntKind.u64 0] 24)) (b := V1.heap.size) (o := 0) (by have := hb.size; omega) c6) (b := V1.heap.size + 1) (o := 0) (by have := hb.size; omega) c7)
    replace hb := hbn
    clear hbn
    have r6 := n0
    have r7 := n1
    clear n0 n1
    go_wp2_with (first
      | (refine wpList_store_mid rfl 24 (.tmp 6) (.tmp 21) rfl V1.heap.size 0 c6.toArray rfl rfl T0 H6.info' H6.one ?_; simp only [Act.put])
      | (refine wpList_store_mid rfl 24 (.tmp 7) (.tmp 22) rfl (V1.heap.size + 1) 0 c7.toArray rfl rfl T1 H7.info' H7.one ?_; simp only [Act.put]; clear T0 T1; (change wpList _ _ _ _ _ ((((V1.alloc (Obj.cells #[Value.int IntKind.u64 0, Value.int IntKind.u64 0, Value.int IntKind.u64 0, Value.int IntKind.u64 0] 24)).alloc (Obj.cells #[Value.int IntKind.u64 0, Value.int IntKind.u64 0, Value.int IntKind.u64 0, Value.int IntKind.u64 0] 24)).setCells V1.heap.size 0 c6).setCells (V1.heap.size + 1) 0 c7)); (generalize ((((V1.alloc (Obj.cells #[Value.int IntKind.u64 0, Value.int IntKind.u64 0, Value.int IntKind.u64 0, Value.int IntKind.u64 0] 24)).alloc (Obj.cells #[Value.int IntKind.u64 0, Value.int IntKind.u64 0, Value.int IntKind.u64 0, Value.int IntKind.u64 0] 24)).setCells V1.heap.size 0 c6).setCells (V1.heap.size + 1) 0 c7) = X1 at *); (generalize hN1 : V1.heap.size + 1 = N7 at *; clear hN1); (generalize hN0 : V1.heap.size = N6 at *; clear hN0))
      | (refine wpList_load_w rfl 24 (.tmp 3) rfl (w.heap.size + 1) 0 rfl cb _ rb.all Tryd.underlying24 rfl Hb.info ?_; simp only [Act.put, List.setIfInBounds_toArray, List.set_cons_zero, List.set_cons_succ])
      | (refine wpList_eql_c (B := false) rfl (.tmp 24) (.tmp 25) 24 rfl Hb Wc.zero HB.out (by decide) rfl rfl (decide_eq_false HZ.out) ?_; simp only [Act.put, List.setIfInBounds_toArray, List.set_cons_zero, List.set_cons_succ])
      | (refine wpList_load_w rfl 24 (.tmp 6) rfl N6 0 rfl c6 _ r6.all Tryd.underlying24 rfl H6.info ?_; simp only [Act.put, List.setIfInBounds_toArray, List.set_cons_zero, List.set_cons_succ]))
    refine (mul_c H6 Hb HQL.out HB.out HM.out.1 HM.out.2 X1).mono ?_
    rintro e V2 ⟨c9, H9, rfl, hB⟩
    replace hb := hb.trans (hB.mono hb.size)
    replace ra := Row.below ra hB (Row.lt ra)
    replace rb := Row.below rb hB (Row.lt rb)
    replace r6 := Row.below r6 hB (Row.lt r6)
    replace r7 := Row.below r7 hB (Row.lt r7)
    clear hB
    have n0 : Row (V2.alloc (Obj.cells #[Value.int IntKind.u64 0, Value.int IntKind.u64 0, Value.int IntKind.u64 0, Value.int IntKind.u64 0] 24)) V2.heap.size (vQ (List.replicate 4 0)) 24 := Row.new' rfl rfl
    have T0 := H9.there n0 rfl
    replace n0 := n0.over (vs := c9) (by rw [H9.len]; rfl)
    have lt := Row.lt ra
    replace ra := (Row.setCells_other (Row.alloc ra (Obj.cells #[Value.int IntKind.u64 0, Value.int IntKind.u64 0, Value.int IntKind.u64 0, Value.int IntKind.u64 0] 24)) V2.heap.size 0 c9 (by omega))
    clear lt
    have lt := Row.lt rb
    replace rb := (Row.setCells_other (Row.alloc rb (Obj.cells #[Value.int IntKind.u64 0, Value.int IntKind.u64 0, Value.int IntKind.u64 0, Value.int IntKind.u64 0] 24)) V2.heap.size 0 c9 (by omega))
    clear lt
    have lt := Row.lt r6
    replace r6 := (Row.setCells_other (Row.alloc r6 (Obj.cells #[Value.int IntKind.u64 0, Value.int IntKind.u64 0, Value.int IntKind.u64 0, Value.int IntKind.u64 0] 24)) V2.heap.size 0 c9 (by omega))
    clear lt
    have lt := Row.lt r7
    replace r7 := (Row.setCells_other (Row.alloc r7 (Obj.cells #[Value.int IntKind.u64 0, Value.int IntKind.u64 0, Value.int IntKind.u64 0, Value.int IntKind.u64 0] 24)) V2.heap.size 0 c9 (by omega))
    clear lt
    have hbn : Below w.heap.size w ((V2.alloc (Obj.cells #[Value.int IntKind.u64 0, Value.int IntKind.u64 0, Value.int IntKind.u64 0, Value.int IntKind.u64 0] 24)).setCells V2.heap.size 0 c9) := (below_setCells (hb.alloc hb.size (Obj.cells #[Value.int IntKind.u64 0, Value.int IntKind.u64 0, Value.int IntKind.u64 0, Value.int IntKind.u64 0] 24)) (b := V2.heap.size) (o := 0) (by have := hb.size; omega) c9)
    replace hb := hbn
    clear hbn
    have r9 := n0
    clear n0
    go_wp2_with (first
      | (refine wpList_store_mid rfl 24 (.tmp 9) (.tmp 46) rfl V2.heap.size 0 c9.toArray rfl rfl T0 H9.info' H9.one ?_; simp only [Act.put]; clear T0; (change wpList _ _ _ _ _ ((V2.alloc (Obj.cells #[Value.int IntKind.u64 0, Value.int IntKind.u64 0, Value.int IntKind.u64 0, Value.int IntKind.u64 0] 24)).setCells V2.heap.size 0 c9)); (generalize ((V2.alloc (Obj.cells #[Value.int IntKind.u64 0, Value.int IntKind.u64 0, Value.int IntKind.u64 0, Value.int IntKind.u64 0] 24)).setCells V2.heap.size 0 c9) = X2 at *); (generalize hN0 : V2.heap.size = N9 at *; clear hN0))
      | (refine wpList_load_w rfl 24 (.tmp 9) rfl N9 0 rfl c9 _ r9.all Tryd.underlying24 rfl H9.info ?_; simp only [Act.put, List.setIfInBounds_toArray, List.set_cons_zero, List.set_cons_succ])
      | (refine wpList_load_w rfl 24 (.tmp 7) rfl N7 0 rfl c7 _ r7.all Tryd.underlying24 rfl H7.info ?_; simp only [Act.put, List.setIfInBounds_toArray, List.set_cons_zero, List.set_cons_succ]))
    refine (add_c H9 H7 HML.out HRL.out HS.out.1 HS.out.2 X2).mono ?_
    rintro e V3 ⟨c11, H11, rfl, hB⟩
    replace hb := hb.trans (hB.mono hb.size)
    replace ra := Row.below ra hB (Row.lt ra)
    replace rb := Row.below rb hB (Row.lt rb)
    replace r6 := Row.below r6 hB (Row.lt r6)
    replace r7 := Row.below r7 hB (Row.lt r7)
    replace r9 := Row.below r9 hB (Row.lt r9)
    clear hB
    have n0 : Row (V3.alloc (Obj.cells #[Value.int IntKind.u64 0, Value.int IntKind.u64 0, Value.int IntKind.u64 0, Value.int IntKind.u64 0] 24)) V3.heap.size (vQ (List.replicate 4 0)) 24 := Row.new' rfl rfl
    have T0 := H11.there n0 rfl
    replace n0 := n0.over (vs := c11) (by rw [H11.len]; rfl)
    have lt := Row.lt ra
    replace ra := (Row.setCells_other (Row.alloc ra (Obj.cells #[Value.int IntKind.u64 0, Value.int IntKind.u64 0, Value.int IntKind.u64 0, Value.int IntKind.u64 0] 24)) V3.heap.size 0 c11 (by omega))
    clear lt
    have lt := Row.lt rb
    replace rb := (Row.setCells_other (Row.alloc rb (Obj.cells #[Value.int IntKind.u64 0, Value.int IntKind.u64 0, Value.int IntKind.u64 0, Value.int IntKind.u64 0] 24)) V3.heap.size 0 c11 (by omega))
    clear lt
    have lt := Row.lt r6
    replace r6 := (Row.setCells_other (Row.alloc r6 (Obj.cells #[Value.int IntKind.u64 0, Value.int IntKind.u64 0, Value.int IntKind.u64 0, Value.int IntKind.u64 0] 24)) V3.heap.size 0 c11 (by omega))
    clear lt
    have lt := Row.lt r7
    replace r7 := (Row.setCells_other (Row.alloc r7 (Obj.cells #[Value.int IntKind.u64 0, Value.int IntKind.u64 0, Value.int IntKind.u64 0, Value.int IntKind.u64 0] 24)) V3.heap.size 0 c11 (by omega))
    clear lt
    have lt := Row.lt r9
    replace r9 := (Row.setCells_other (Row.alloc r9 (Obj.cells #[Value.int IntKind.u64 0, Value.int IntKind.u64 0, Value.int IntKind.u64 0, Value.int IntKind.u64 0] 24)) V3.heap.size 0 c11 (by omega))
    clear lt
    have hbn : Below w.heap.size w ((V3.alloc (Obj.cells #[Value.int IntKind.u64 0, Value.int IntKind.u64 0, Value.int IntKind.u64 0, Value.int IntKind.u64 0] 24)).setCells V3.heap.size 0 c11) := (below_setCells (hb.alloc hb.size (Obj.cells #[Value.int IntKind.u64 0, Value.int IntKind.u64 0, Value.int IntKind.u64 0, Value.int IntKind.u64 0] 24)) (b := V3.heap.size) (o := 0) (by have := hb.size; omega) c11)
    replace hb := hbn
    clear hbn
    have r11 := n0
    clear n0
    go_wp2_with (first
      | (refine wpList_store_mid rfl 24 (.tmp 11) (.tmp 52) rfl V3.heap.size 0 c11.toArray rfl rfl T0 H11.info' H11.one ?_; simp only [Act.put]; clear T0; (change wpList _ _ _ _ _ ((V3.alloc (Obj.cells #[Value.int IntKind.u64 0, Value.int IntKind.u64 0, Value.int IntKind.u64 0, Value.int IntKind.u64 0] 24)).setCells V3.heap.size 0 c11)); (generalize ((V3.alloc (Obj.cells #[Value.int IntKind.u64 0, Value.int IntKind.u64 0, Value.int IntKind.u64 0, Value.int IntKind.u64 0] 24)).setCells V3.heap.size 0 c11) = X3 at *); (generalize hN0 : V3.heap.size = N11 at *; clear hN0))
      | (refine wpList_load_w rfl 24 (.tmp 7) rfl N7 0 rfl c7 _ r7.all Tryd.underlying24 rfl H7.info ?_; simp only [Act.put, List.setIfInBounds_toArray, List.set_cons_zero, List.set_cons_succ])
      | (refine wpList_load_w rfl 24 (.tmp 3) rfl (w.heap.size + 1) 0 rfl cb _ rb.all Tryd.underlying24 rfl Hb.info ?_; simp only [Act.put, List.setIfInBounds_toArray, List.set_cons_zero, List.set_cons_succ]))
    refine (cmp_c H7 Hb HRL.out HB.out HC.out X3).mono ?_
    rintro e V4 ⟨rfl, hB⟩
    replace hb := hb.trans (hB.mono hb.size)
    replace ra := Row.below ra hB (Row.lt ra)
    replace rb := Row.below rb hB (Row.lt rb)
    replace r6 := Row.below r6 hB (Row.lt r6)
    replace r7 := Row.below r7 hB (Row.lt r7)
    replace r9 := Row.below r9 hB (Row.lt r9)
    replace r11 := Row.below r11 hB (Row.lt r11)
    clear hB
    go_wp2_with (first
      | (refine wpList_load_w rfl 24 (.tmp 6) rfl N6 0 rfl c6 _ r6.all Tryd.underlying24 rfl H6.info ?_; simp only [Act.put, List.setIfInBounds_toArray, List.set_cons_zero, List.set_cons_succ])
      | (refine wpList_load_w rfl 24 (.tmp 3) rfl (w.heap.size + 1) 0 rfl cb _ rb.all Tryd.underlying24 rfl Hb.info ?_; simp only [Act.put, List.setIfInBounds_toArray, List.set_cons_zero, List.set_cons_succ]))
    refine (md_c H6 Hb Hb HQL.out HB.out HB.out HD.out.1 HD.out.2 V4).mono ?_
    rintro e V5 ⟨c14, H14, rfl, hB⟩
    replace hb := hb.trans (hB.mono hb.size)
    replace ra := Row.below ra hB (Row.lt ra)
    replace rb := Row.below rb hB (Row.lt rb)
    replace r6 := Row.below r6 hB (Row.lt r6)
    replace r7 := Row.below r7 hB (Row.lt r7)
    replace r9 := Row.below r9 hB (Row.lt r9)
    replace r11 := Row.below r11 hB (Row.lt r11)
    clear hB
    have n0 : Row (V5.alloc (Obj.cells #[Value.int IntKind.u64 0, Value.int IntKind.u64 0, Value.int IntKind.u64 0, Value.int IntKind.u64 0] 24)) V5.heap.size (vQ (List.replicate 4 0)) 24 := Row.new' rfl rfl
    have T0 := H14.there n0 rfl
    replace n0 := n0.over (vs := c14) (by rw [H14.len]; rfl)
    have lt := Row.lt ra
    replace ra := (Row.setCells_other (Row.alloc ra (Obj.cells #[Value.int IntKind.u64 0, Value.int IntKind.u64 0, Value.int IntKind.u64 0, Value.int IntKind.u64 0] 24)) V5.heap.size 0 c14 (by omega))
    clear lt
    have lt := Row.lt rb
    replace rb := (Row.setCells_other (Row.alloc rb (Obj.cells #[Value.int IntKind.u64 0, Value.int IntKind.u64 0, Value.int IntKind.u64 0, Value.int IntKind.u64 0] 24)) V5.heap.size 0 c14 (by omega))
    clear lt
    have lt := Row.lt r6
    replace r6 := (Row.setCells_other (Row.alloc r6 (Obj.cells #[Value.int IntKind.u64 0, Value.int IntKind.u64 0, Value.int IntKind.u64 0, Value.int IntKind.u64 0] 24)) V5.heap.size 0 c14 (by omega))
    clear lt
    have lt := Row.lt r7
    replace r7 := (Row.setCells_other (Row.alloc r7 (Obj.cells #[Value.int IntKind.u64 0, Value.int IntKind.u64 0, Value.int IntKind.u64 0, Value.int IntKind.u64 0] 24)) V5.heap.size 0 c14 (by omega))
    clear lt
    have lt := Row.lt r9
    replace r9 := (Row.setCells_other (Row.alloc r9 (Obj.cells #[Value.int IntKind.u64 0, Value.int IntKind.u64 0, Value.int IntKind.u64 0, Value.int IntKind.u64 0] 24)) V5.heap.size 0 c14 (by omega))
    clear lt
    have lt := Row.lt r11
    replace r11 := (Row.setCells_other (Row.alloc r11 (Obj.cells #[Value.int IntKind.u64 0, Value.int IntKind.u64 0, Value.int IntKind.u64 0, Value.int IntKind.u64 0] 24)) V5.heap.size 0 c14 (by omega))
    clear lt
    have hbn : Below w.heap.size w ((V5.alloc (Obj.cells #[Value.int IntKind.u64 0, Value.int IntKind.u64 0, Value.int IntKind.u64 0, Value.int IntKind.u64 0] 24)).setCells V5.heap.size 0 c14) := (below_setCells (hb.alloc hb.size (Obj.cells #[Value.int IntKind.u64 0, Value.int IntKind.u64 0, Value.int IntKind.u64 0, Value.int IntKind.u64 0] 24)) (b := V5.heap.size) (o := 0) (by have := hb.size; omega) c14)
    replace hb := hbn
    clear hbn
    have r14 := n0
    clear n0
    go_wp2_with (first
      | (refine wpList_store_mid rfl 24 (.tmp 14) (.tmp 62) rfl V5.heap.size 0 c14.toArray rfl rfl T0 H14.info' H14.one ?_; simp only [Act.put]; clear T0; (change wpList _ _ _ _ _ ((V5.alloc (Obj.cells #[Value.int IntKind.u64 0, Value.int IntKind.u64 0, Value.int IntKind.u64 0, Value.int IntKind.u64 0] 24)).setCells V5.heap.size 0 c14)); (generalize ((V5.alloc (Obj.cells #[Value.int IntKind.u64 0, Value.int IntKind.u64 0, Value.int IntKind.u64 0, Value.int IntKind.u64 0] 24)).setCells V5.heap.size 0 c14) = X5 at *); (generalize hN0 : V5.heap.size = N14 at *; clear hN0))
      | (refine wpList_load_w rfl 24 (.tmp 11) rfl N11 0 rfl c11 _ r11.all Tryd.underlying24 rfl H11.info ?_; simp only [Act.put, List.setIfInBounds_toArray, List.set_cons_zero, List.set_cons_succ])
      | (refine wpList_load_w rfl 24 (.tmp 2) rfl (w.heap.size) 0 rfl ca _ ra.all Tryd.underlying24 rfl Ha.info ?_; simp only [Act.put, List.setIfInBounds_toArray, List.set_cons_zero, List.set_cons_succ])
      | (refine wpList_load_w rfl 24 (.tmp 14) rfl N14 0 rfl c14 _ r14.all Tryd.underlying24 rfl H14.info ?_; simp only [Act.put, List.setIfInBounds_toArray, List.set_cons_zero, List.set_cons_succ])
      | (refine wpList_load_w rfl 24 (.tmp 6) rfl N6 0 rfl c6 _ r6.all Tryd.underlying24 rfl H6.info ?_; simp only [Act.put, List.setIfInBounds_toArray, List.set_cons_zero, List.set_cons_succ])
      | (refine wpList_eql_c (B := true) rfl (.tmp 78) (.tmp 79) 24 rfl H11 Ha HA.out HA.out rfl rfl (by simp) ?_; simp only [Act.put, List.setIfInBounds_toArray, List.set_cons_zero, List.set_cons_succ])
      | (refine wpList_eql_c (B := true) rfl (.tmp 91) (.tmp 92) 24 rfl H14 H6 HQL.out HQL.out rfl rfl (by simp) ?_; simp only [Act.put, List.setIfInBounds_toArray, List.set_cons_zero, List.set_cons_succ]))
    go_ret
    exact ⟨rfl, hb⟩

end Go.Proofs.YtbklegljibigjabDoor
