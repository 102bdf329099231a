/-
  causewaylaw02.WideRing, where a is b.
-/
import Derived.Test.YtbklegljibigjabDoorWKnown
namespace Go.Proofs.YtbklegljibigjabDoor
open Go Go.RowKit
open Wd

set_option maxRecDepth 100000 in
set_option maxHeartbeats 8000000 in
theorem ring_eq (a b c : Nat) (ha : a < 2 ^ 256) (hb : b < 2 ^ 256) (hc : c < 2 ^ 256) (heq : a = b) (w : World) (hp : P10 w) :
    Calls Tryd.prog 5 #[.agg (vQ (dgs a 4)).toArray, .agg (vQ (dgs b 4)).toArray, .agg (vQ (dgs c 4)).toArray] w fun e w' => e = .returned (.bool true) ∧ Below w.heap.size w w' := by
  have HP : Hid (P10 w) := hp
  have HA : Hid (a < 2 ^ 256) := ha
  have HB : Hid (b < 2 ^ 256) := hb
  have HC : Hid (c < 2 ^ 256) := hc
  have HS : Hid (subE a b = 0) := if_neg (by omega)
  have HL : Hid (cmpR a b = 0) := if_pos heq
  have HM : Hid (cmpR b a = 0) := if_pos heq.symm
  have HO : Hid (mulR a 1 = a ∧ mulE a 1 = 0) := ⟨(if_pos (by rw [Nat.mul_one]; exact ha)).trans (Nat.mul_one a), if_pos (by rw [Nat.mul_one]; exact ha)⟩
  have HZ : Hid (mulR a 0 = 0 ∧ mulE a 0 = 0) := ⟨by unfold mulR; simp, by unfold mulE; simp⟩
  obtain ⟨ca, Ha⟩ : ∃ c, Wc c a := ⟨_, rfl⟩
  obtain ⟨cb, Hb⟩ : ∃ c, Wc c b := ⟨_, rfl⟩
  obtain ⟨cc, Hc⟩ : ∃ x, Wc x c := ⟨_, rfl⟩
  rw [← show ca = vQ (dgs a 4) from Ha, ← show cb = vQ (dgs b 4) from Hb, ← show cc = vQ (dgs c 4) from Hc]
  have One : Wc [.int .u64 1, .int .u64 0, .int .u64 0, .int .u64 0] 1 := rfl
  clear ha hb hc hp heq
  have hb : Below w.heap.size w (((w.alloc (Obj.cells ca.toArray 24)).alloc (Obj.cells cb.toArray 24)).alloc (Obj.cells cc.toArray 24)) := (((Below.refl _ _).alloc (Nat.le_refl _) _).alloc (by simp) _).alloc (by simp; omega) _
  have ra : Row (((w.alloc (Obj.cells ca.toArray 24)).alloc (Obj.cells cb.toArray 24)).alloc (Obj.cells cc.toArray 24)) w.heap.size ca 24 := ((Row.new w ca _).alloc _).alloc _
  have rb : Row (((w.alloc (Obj.cells ca.toArray 24)).alloc (Obj.cells cb.toArray 24)).alloc (Obj.cells cc.toArray 24)) (w.heap.size + 1) cb 24 := (Row.new' (by simp) rfl).alloc _
  have rc : Row (((w.alloc (Obj.cells ca.toArray 24)).alloc (Obj.cells cb.toArray 24)).alloc (Obj.cells cc.toArray 24)) (w.heap.size + 1 + 1) cc 24 := Row.new' (by simp) rfl
  go_enter Tryd.func5, Tryd.ntmps5
  go_wp2_with fail
  generalize (((w.alloc (Obj.cells ca.toArray 24)).alloc (Obj.cells cb.toArray 24)).alloc (Obj.cells cc.toArray 24)) = W0 at *
  refine (known_any W0 (HP.out.below hb)).mono ?_
  rintro e V0 ⟨rfl, hB⟩
  replace hb := hb.trans (hB.mono hb.size)
  replace ra := Row.below ra hB (Row.lt ra)
  replace rb := Row.below rb hB (Row.lt rb)
  replace rc := Row.below rc hB (Row.lt rc)
  clear hB
  go_wp2_with (first
    | (refine wpList_load_w rfl 24 (.tmp 4) rfl (w.heap.size + 1) 0 rfl cb _ rb.all Tryd.underlying24 rfl Hb.info ?_; simp only [Act.put, List.setIfInBounds_toArray, List.set_cons_zero, List.set_cons_succ])
    | (refine wpList_load_w rfl 24 (.tmp 5) rfl (w.heap.size + 1 + 1) 0 rfl cc _ rc.all Tryd.underlying24 rfl Hc.info ?_; simp only [Act.put, List.setIfInBounds_toArray, List.set_cons_zero, List.set_cons_succ]))
  by_cases h1 : b + c < 2 ^ 256
  · have H1 : Hid (b + c < 2 ^ 256) := h1
    by_cases h2 : a * (b + c) < 2 ^ 256
    · have H2 : Hid (a * (b + c) < 2 ^ 256) := h2
      have H3 : Hid (a * b < 2 ^ 256) := Nat.lt_of_le_of_lt (Nat.mul_le_mul_left a (Nat.le_add_right b c)) h2
      have H4 : Hid (a * c < 2 ^ 256) := Nat.lt_of_le_of_lt (Nat.mul_le_mul_left a (Nat.le_add_left c b)) h2
      have H5 : Hid (a * b + a * c < 2 ^ 256) := by rw [← Nat.mul_add]; exact h2
      clear h1 h2
      refine (add_c Hb Hc HB.out HC.out (if_pos H1.out) (if_pos H1.out) V0).mono ?_
      rintro e V1 ⟨c8, H8, rfl, hB⟩
      replace hb := hb.trans (hB.mono hb.size)
      replace ra := Row.below ra hB (Row.lt ra)
      replace rb := Row.below rb hB (Row.lt rb)
      replace rc := Row.below rc hB (Row.lt rc)
      clear hB
      have n0 : Row (V1.alloc (Obj.cells #[Value.int IntKind.u64 0, Value.int IntKind.u64 0, Value.int IntKind.u64 0, Value.int IntKind.u64 0] 24)) V1.heap.size (vQ (List.replicate 4 0)) 24 := Row.new' rfl rfl
      have T0 := H8.there n0 rfl
      replace n0 := n0.over (vs := c8) (by rw [H8.len]; rfl)
      have lt := Row.lt ra
      replace ra := (Row.setCells_other (Row.alloc ra (Obj.cells #[Value.int IntKind.u64 0, Value.int IntKind.u64 0, Value.int IntKind.u64 0, Value.int IntKind.u64 0] 24)) V1.heap.size 0 c8 (by omega))
      clear lt
      have lt := Row.lt rb
      replace rb := (Row.setCells_other (Row.alloc rb (Obj.cells #[Value.int IntKind.u64 0, Value.int IntKind.u64 0, Value.int IntKind.u64 0, Value.int IntKind.u64 0] 24)) V1.heap.size 0 c8 (by omega))
      clear lt
      have lt := Row.lt rc
      replace rc := (Row.setCells_other (Row.alloc rc (Obj.cells #[Value.int IntKind.u64 0, Value.int IntKind.u64 0, Value.int IntKind.u64 0, Value.int IntKind.u64 0] 24)) V1.heap.size 0 c8 (by omega))
      clear lt
      have hbn : Below w.heap.size w ((V1.alloc (Obj.cells #[Value.int IntKind.u64 0, Value.int IntKind.u64 0, Value.int IntKind.u64 0, Value.int IntKind.u64 0] 24)).setCells V1.heap.size 0 c8) := (below_setCells (hb.alloc hb.size (Obj.cells #[Value.int IntKind.u64 0, Value.int IntKind.u64 0, Value.int IntKind.u64 0, Value.int IntKind.u64 0] 24)) (b := V1.heap.size) (o := 0) (by have := hb.size; omega) c8)
      replace hb := hbn
      clear hbn
      have r8 := n0
      clear n0
      go_wp2_with (first
        | (refine wpList_store_mid rfl 24 (.tmp 8) (.tmp 30) rfl V1.heap.size 0 c8.toArray rfl rfl T0 H8.info' H8.one ?_; simp only [Act.put]; clear T0; (change wpList _ _ _ _ _ ((V1.alloc (Obj.cells #[Value.int IntKind.u64 0, Value.int IntKind.u64 0, Value.int IntKind.u64 0, Value.int IntKind.u64 0] 24)).setCells V1.heap.size 0 c8)); (generalize ((V1.alloc (Obj.cells #[Value.int IntKind.u64 0, Value.int IntKind.u64 0, Value.int IntKind.u64 0, Value.int IntKind.u64 0] 24)).setCells V1.heap.size 0 c8) = X1 at *); (generalize hN0 : V1.heap.size = N8 at *; clear hN0))
        | (refine wpList_load_w rfl 24 (.tmp 3) rfl (w.heap.size) 0 rfl ca _ ra.all Tryd.underlying24 rfl Ha.info ?_; simp only [Act.put, List.setIfInBounds_toArray, List.set_cons_zero, List.set_cons_succ])
        | (refine wpList_load_w rfl 24 (.tmp 8) rfl N8 0 rfl c8 _ r8.all Tryd.underlying24 rfl H8.info ?_; simp only [Act.put, List.setIfInBounds_toArray, List.set_cons_zero, List.set_cons_succ]))
      refine (mul_c Ha H8 HA.out H1.out (if_pos H2.out) (if_pos H2.out) X1).mono ?_
      rintro e V2 ⟨c10, H10, rfl, hB⟩
      replace hb := hb.trans (hB.mono hb.size)
      replace ra := Row.below ra hB (Row.lt ra)
      replace rb := Row.below rb hB (Row.lt rb)
      replace rc := Row.below rc hB (Row.lt rc)
      replace r8 := Row.below r8 hB (Row.lt r8)
      clear hB
      have n0 : Row (V2.alloc (Obj.cells #[Value.int IntKind.u64 0, Value.int IntKind.u64 0, Value.int IntKind.u64 0, Value.int IntKind.u64 0] 24)) V2.heap.size (vQ (List.replicate 4 0)) 24 := Row.new' rfl rfl
      have T0 := H10.there n0 rfl
      replace n0 := n0.over (vs := c10) (by rw [H10.len]; rfl)
      have lt := Row.lt ra
      replace ra := (Row.setCells_other (Row.alloc ra (Obj.cells #[Value.int IntKind.u64 0, Value.int IntKind.u64 0, Value.int IntKind.u64 0, Value.int IntKind.u64 0] 24)) V2.heap.size 0 c10 (by omega))
      clear lt
      have lt := Row.lt rb
      replace rb := (Row.setCells_other (Row.alloc rb (Obj.cells #[Value.int IntKind.u64 0, Value.int IntKind.u64 0, Value.int IntKind.u64 0, Value.int IntKind.u64 0] 24)) V2.heap.size 0 c10 (by omega))
      clear lt
      have lt := Row.lt rc
      replace rc := (Row.setCells_other (Row.alloc rc (Obj.cells #[Value.int IntKind.u64 0, Value.int IntKind.u64 0, Value.int IntKind.u64 0, Value.int IntKind.u64 0] 24)) V2.heap.size 0 c10 (by omega))
      clear lt
      have lt := Row.lt r8
      replace r8 := (Row.setCells_other (Row.alloc r8 (Obj.cells #[Value.int IntKind.u64 0, Value.int IntKind.u64 0, Value.int IntKind.u64 0, Value.int IntKind.u64 0] 24)) V2.heap.size 0 c10 (by omega))
      clear lt
      have hbn : Below w.heap.size w ((V2.alloc (Obj.cells #[Value.int IntKind.u64 0, Value.int IntKind.u64 0, Value.int IntKind.u64 0, Value.int IntKind.u64 0] 24)).setCells V2.heap.size 0 c10) := (below_setCells (hb.alloc hb.size (Obj.cells #[Value.int IntKind.u64 0, Value.int IntKind.u64 0, Value.int IntKind.u64 0, Value.int IntKind.u64 0] 24)) (b := V2.heap.size) (o := 0) (by have := hb.size; omega) c10)
      replace hb := hbn
      clear hbn
      have r10 := n0
      clear n0
      go_wp2_with (first
        | (refine wpList_store_mid rfl 24 (.tmp 10) (.tmp 36) rfl V2.heap.size 0 c10.toArray rfl rfl T0 H10.info' H10.one ?_; simp only [Act.put]; clear T0; (change wpList _ _ _ _ _ ((V2.alloc (Obj.cells #[Value.int IntKind.u64 0, Value.int IntKind.u64 0, Value.int IntKind.u64 0, Value.int IntKind.u64 0] 24)).setCells V2.heap.size 0 c10)); (generalize ((V2.alloc (Obj.cells #[Value.int IntKind.u64 0, Value.int IntKind.u64 0, Value.int IntKind.u64 0, Value.int IntKind.u64 0] 24)).setCells V2.heap.size 0 c10) = X2 at *); (generalize hN0 : V2.heap.size = N10 at *; clear hN0))
        | (refine wpList_load_w rfl 24 (.tmp 3) rfl (w.heap.size) 0 rfl ca _ ra.all Tryd.underlying24 rfl Ha.info ?_; simp only [Act.put, List.setIfInBounds_toArray, List.set_cons_zero, List.set_cons_succ])
        | (refine wpList_load_w rfl 24 (.tmp 4) rfl (w.heap.size + 1) 0 rfl cb _ rb.all Tryd.underlying24 rfl Hb.info ?_; simp only [Act.put, List.setIfInBounds_toArray, List.set_cons_zero, List.set_cons_succ]))
      refine (mul_c Ha Hb HA.out HB.out (if_pos H3.out) (if_pos H3.out) X2).mono ?_
      rintro e V3 ⟨c12, H12, rfl, hB⟩
      replace hb := hb.trans (hB.mono hb.size)
      replace ra := Row.below ra hB (Row.lt ra)
      replace rb := Row.below rb hB (Row.lt rb)
      replace rc := Row.below rc hB (Row.lt rc)
      replace r8 := Row.below r8 hB (Row.lt r8)
      replace r10 := Row.below r10 hB (Row.lt r10)
      clear hB
      have n0 : Row (V3.alloc (Obj.cells #[Value.int IntKind.u64 0, Value.int IntKind.u64 0, Value.int IntKind.u64 0, Value.int IntKind.u64 0] 24)) V3.heap.size (vQ (List.replicate 4 0)) 24 := Row.new' rfl rfl
      have T0 := H12.there n0 rfl
      replace n0 := n0.over (vs := c12) (by rw [H12.len]; rfl)
      have lt := Row.lt ra
      replace ra := (Row.setCells_other (Row.alloc ra (Obj.cells #[Value.int IntKind.u64 0, Value.int IntKind.u64 0, Value.int IntKind.u64 0, Value.int IntKind.u64 0] 24)) V3.heap.size 0 c12 (by omega))
      clear lt
      have lt := Row.lt rb
      replace rb := (Row.setCells_other (Row.alloc rb (Obj.cells #[Value.int IntKind.u64 0, Value.int IntKind.u64 0, Value.int IntKind.u64 0, Value.int IntKind.u64 0] 24)) V3.heap.size 0 c12 (by omega))
      clear lt
      have lt := Row.lt rc
      replace rc := (Row.setCells_other (Row.alloc rc (Obj.cells #[Value.int IntKind.u64 0, Value.int IntKind.u64 0, Value.int IntKind.u64 0, Value.int IntKind.u64 0] 24)) V3.heap.size 0 c12 (by omega))
      clear lt
      have lt := Row.lt r8
      replace r8 := (Row.setCells_other (Row.alloc r8 (Obj.cells #[Value.int IntKind.u64 0, Value.int IntKind.u64 0, Value.int IntKind.u64 0, Value.int IntKind.u64 0] 24)) V3.heap.size 0 c12 (by omega))
      clear lt
      have lt := Row.lt r10
      replace r10 := (Row.setCells_other (Row.alloc r10 (Obj.cells #[Value.int IntKind.u64 0, Value.int IntKind.u64 0, Value.int IntKind.u64 0, Value.int IntKind.u64 0] 24)) V3.heap.size 0 c12 (by omega))
      clear lt
      have hbn : Below w.heap.size w ((V3.alloc (Obj.cells #[Value.int IntKind.u64 0, Value.int IntKind.u64 0, Value.int IntKind.u64 0, Value.int IntKind.u64 0] 24)).setCells V3.heap.size 0 c12) := (below_setCells (hb.alloc hb.size (Obj.cells #[Value.int IntKind.u64 0, Value.int IntKind.u64 0, Value.int IntKind.u64 0, Value.int IntKind.u64 0] 24)) (b := V3.heap.size) (o := 0) (by have := hb.size; omega) c12)
      replace hb := hbn
      clear hbn
      have r12 := n0
      clear n0
      go_wp2_with (first
        | (refine wpList_store_mid rfl 24 (.tmp 12) (.tmp 48) rfl V3.heap.size 0 c12.toArray rfl rfl T0 H12.info' H12.one ?_; simp only [Act.put]; clear T0; (change wpList _ _ _ _ _ ((V3.alloc (Obj.cells #[Value.int IntKind.u64 0, Value.int IntKind.u64 0, Value.int IntKind.u64 0, Value.int IntKind.u64 0] 24)).setCells V3.heap.size 0 c12)); (generalize ((V3.alloc (Obj.cells #[Value.int IntKind.u64 0, Value.int IntKind.u64 0, Value.int IntKind.u64 0, Value.int IntKind.u64 0] 24)).setCells V3.heap.size 0 c12) = X3 at *); (generalize hN0 : V3.heap.size = N12 at *; clear hN0))
        | (refine wpList_load_w rfl 24 (.tmp 3) rfl (w.heap.size) 0 rfl ca _ ra.all Tryd.underlying24 rfl Ha.info ?_; simp only [Act.put, List.setIfInBounds_toArray, List.set_cons_zero, List.set_cons_succ])
        | (refine wpList_load_w rfl 24 (.tmp 5) rfl (w.heap.size + 1 + 1) 0 rfl cc _ rc.all Tryd.underlying24 rfl Hc.info ?_; simp only [Act.put, List.setIfInBounds_toArray, List.set_cons_zero, List.set_cons_succ]))
      refine (mul_c Ha Hc HA.out HC.out (if_pos H4.out) (if_pos H4.out) X3).mono ?_
      rintro e V4 ⟨c14, H14, rfl, hB⟩
      replace hb := hb.trans (hB.mono hb.size)
      replace ra := Row.below ra hB (Row.lt ra)
      replace rb := Row.below rb hB (Row.lt rb)
      replace rc := Row.below rc hB (Row.lt rc)
      replace r8 := Row.below r8 hB (Row.lt r8)
      replace r10 := Row.below r10 hB (Row.lt r10)
      replace r12 := Row.below r12 hB (Row.lt r12)
      clear hB
      have n0 : Row (V4.alloc (Obj.cells #[Value.int IntKind.u64 0, Value.int IntKind.u64 0, Value.int IntKind.u64 0, Value.int IntKind.u64 0] 24)) V4.heap.size (vQ (List.replicate 4 0)) 24 := Row.new' rfl rfl
      have T0 := H14.there n0 rfl
      replace n0 := n0.over (vs := c14) (by rw [H14.len]; rfl)
      have lt := Row.lt ra
      replace ra := (Row.setCells_other (Row.alloc ra (Obj.cells #[Value.int IntKind.u64 0, Value.int IntKind.u64 0, Value.int IntKind.u64 0, Value.int IntKind.u64 0] 24)) V4.heap.size 0 c14 (by omega))
      clear lt
      have lt := Row.lt rb
      replace rb := (Row.setCells_other (Row.alloc rb (Obj.cells #[Value.int IntKind.u64 0, Value.int IntKind.u64 0, Value.int IntKind.u64 0, Value.int IntKind.u64 0] 24)) V4.heap.size 0 c14 (by omega))
      clear lt
      have lt := Row.lt rc
      replace rc := (Row.setCells_other (Row.alloc rc (Obj.cells #[Value.int IntKind.u64 0, Value.int IntKind.u64 0, Value.int IntKind.u64 0, Value.int IntKind.u64 0] 24)) V4.heap.size 0 c14 (by omega))
      clear lt
      have lt := Row.lt r8
      replace r8 := (Row.setCells_other (Row.alloc r8 (Obj.cells #[Value.int IntKind.u64 0, Value.int IntKind.u64 0, Value.int IntKind.u64 0, Value.int IntKind.u64 0] 24)) V4.heap.size 0 c14 (by omega))
      clear lt
      have lt := Row.lt r10
      replace r10 := (Row.setCells_other (Row.alloc r10 (Obj.cells #[Value.int IntKind.u64 0, Value.int IntKind.u64 0, Value.int IntKind.u64 0, Value.int IntKind.u64 0] 24)) V4.heap.size 0 c14 (by omega))
      clear lt
      have lt := Row.lt r12
      replace r12 := (Row.setCells_other (Row.alloc r12 (Obj.cells #[Value.int IntKind.u64 0, Value.int IntKind.u64 0, Value.int IntKind.u64 0, Value.int IntKind.u64 0] 24)) V4.heap.size 0 c14 (by omega))
      clear lt
      have hbn : Below w.heap.size w ((V4.alloc (Obj.cells #[Value.int IntKind.u64 0, Value.int IntKind.u64 0, Value.int IntKind.u64 0, Value.int IntKind.u64 0] 24)).setCells V4.heap.size 0 c14) := (below_setCells (hb.alloc hb.size (Obj.cells #[Value.int IntKind.u64 0, Value.int IntKind.u64 0, Value.int IntKind.u64 0, Value.int IntKind.u64 0] 24)) (b := V4.heap.size) (o := 0) (by have := hb.size; omega) c14)
      replace hb := hbn
      clear hbn
      have r14 := n0
      clear n0
      go_wp2_with (first
        | (refine wpList_store_mid rfl 24 (.tmp 14) (.tmp 54) rfl V4.heap.size 0 c14.toArray rfl rfl T0 H14.info' H14.one ?_; simp only [Act.put]; clear T0; (change wpList _ _ _ _ _ ((V4.alloc (Obj.cells #[Value.int IntKind.u64 0, Value.int IntKind.u64 0, Value.int IntKind.u64 0, Value.int IntKind.u64 0] 24)).setCells V4.heap.size 0 c14)); (generalize ((V4.alloc (Obj.cells #[Value.int IntKind.u64 0, Value.int IntKind.u64 0, Value.int IntKind.u64 0, Value.int IntKind.u64 0] 24)).setCells V4.heap.size 0 c14) = X4 at *); (generalize hN0 : V4.heap.size = N14 at *; clear hN0))
        | (refine wpList_load_w rfl 24 (.tmp 12) rfl N12 0 rfl c12 _ r12.all Tryd.underlying24 rfl H12.info ?_; simp only [Act.put, List.setIfInBounds_toArray, List.set_cons_zero, List.set_cons_succ])
        | (refine wpList_load_w rfl 24 (.tmp 14) rfl N14 0 rfl c14 _ r14.all Tryd.underlying24 rfl H14.info ?_; simp only [Act.put, List.setIfInBounds_toArray, List.set_cons_zero, List.set_cons_succ]))
      refine (add_c H12 H14 H3.out H4.out ((if_pos H5.out).trans (Nat.mul_add a b c).symm) (if_pos H5.out) X4).mono ?_
      rintro e V5 ⟨c16, H16, rfl, hB⟩
      replace hb := hb.trans (hB.mono hb.size)
      replace ra := Row.below ra hB (Row.lt ra)
      replace rb := Row.below rb hB (Row.lt rb)
      replace rc := Row.below rc hB (Row.lt rc)
      replace r8 := Row.below r8 hB (Row.lt r8)
      replace r10 := Row.below r10 hB (Row.lt r10)
      replace r12 := Row.below r12 hB (Row.lt r12)
      replace r14 := Row.below r14 hB (Row.lt r14)
      clear hB
      have n0 : Row (V5.alloc (Obj.cells #[Value.int IntKind.u64 0, Value.int IntKind.u64 0, Value.int IntKind.u64 0, Value.int IntKind.u64 0] 24)) V5.heap.size (vQ (List.replicate 4 0)) 24 := Row.new' rfl rfl
      have T0 := H16.there n0 rfl
      replace n0 := n0.over (vs := c16) (by rw [H16.len]; rfl)
      have lt := Row.lt ra
      replace ra := (Row.setCells_other (Row.alloc ra (Obj.cells #[Value.int IntKind.u64 0, Value.int IntKind.u64 0, Value.int IntKind.u64 0, Value.int IntKind.u64 0] 24)) V5.heap.size 0 c16 (by omega))
      clear lt
      have lt := Row.lt rb
      replace rb := (Row.setCells_other (Row.alloc rb (Obj.cells #[Value.int IntKind.u64 0, Value.int IntKind.u64 0, Value.int IntKind.u64 0, Value.int IntKind.u64 0] 24)) V5.heap.size 0 c16 (by omega))
      clear lt
      have lt := Row.lt rc
      replace rc := (Row.setCells_other (Row.alloc rc (Obj.cells #[Value.int IntKind.u64 0, Value.int IntKind.u64 0, Value.int IntKind.u64 0, Value.int IntKind.u64 0] 24)) V5.heap.size 0 c16 (by omega))
      clear lt
      have lt := Row.lt r8
      replace r8 := (Row.setCells_other (Row.alloc r8 (Obj.cells #[Value.int IntKind.u64 0, Value.int IntKind.u64 0, Value.int IntKind.u64 0, Value.int IntKind.u64 0] 24)) V5.heap.size 0 c16 (by omega))
      clear lt
      have lt := Row.lt r10
      replace r10 := (Row.setCells_other (Row.alloc r10 (Obj.cells #[Value.int IntKind.u64 0, Value.int IntKind.u64 0, Value.int IntKind.u64 0, Value.int IntKind.u64 0] 24)) V5.heap.size 0 c16 (by omega))
      clear lt
      have lt := Row.lt r12
      replace r12 := (Row.setCells_other (Row.alloc r12 (Obj.cells #[Value.int IntKind.u64 0, Value.int IntKind.u64 0, Value.int IntKind.u64 0, Value.int IntKind.u64 0] 24)) V5.heap.size 0 c16 (by omega))
      clear lt
      have lt := Row.lt r14
      replace r14 := (Row.setCells_other (Row.alloc r14 (Obj.cells #[Value.int IntKind.u64 0, Value.int IntKind.u64 0, Value.int IntKind.u64 0, Value.int IntKind.u64 0] 24)) V5.heap.size 0 c16 (by omega))
      clear lt
      have hbn : Below w.heap.size w ((V5.alloc (Obj.cells #[Value.int IntKind.u64 0, Value.int IntKind.u64 0, Value.int IntKind.u64 0, Value.int IntKind.u64 0] 24)).setCells V5.heap.size 0 c16) := (below_setCells (hb.alloc hb.size (Obj.cells #[Value.int IntKind.u64 0, Value.int IntKind.u64 0, Value.int IntKind.u64 0, Value.int IntKind.u64 0] 24)) (b := V5.heap.size) (o := 0) (by have := hb.size; omega) c16)
      replace hb := hbn
      clear hbn
      have r16 := n0
      clear n0
      go_wp2_with (first
        | (refine wpList_store_mid rfl 24 (.tmp 16) (.tmp 60) rfl V5.heap.size 0 c16.toArray rfl rfl T0 H16.info' H16.one ?_; simp only [Act.put]; clear T0; (change wpList _ _ _ _ _ ((V5.alloc (Obj.cells #[Value.int IntKind.u64 0, Value.int IntKind.u64 0, Value.int IntKind.u64 0, Value.int IntKind.u64 0] 24)).setCells V5.heap.size 0 c16)); (generalize ((V5.alloc (Obj.cells #[Value.int IntKind.u64 0, Value.int IntKind.u64 0, Value.int IntKind.u64 0, Value.int IntKind.u64 0] 24)).setCells V5.heap.size 0 c16) = X5 at *); (generalize hN0 : V5.heap.size = N16 at *; clear hN0))
        | (refine wpList_load_w rfl 24 (.tmp 16) rfl N16 0 rfl c16 _ r16.all Tryd.underlying24 rfl H16.info ?_; simp only [Act.put, List.setIfInBounds_toArray, List.set_cons_zero, List.set_cons_succ])
        | (refine wpList_load_w rfl 24 (.tmp 10) rfl N10 0 rfl c10 _ r10.all Tryd.underlying24 rfl H10.info ?_; simp only [Act.put, List.setIfInBounds_toArray, List.set_cons_zero, List.set_cons_succ])
        | (refine wpList_neq_c (B := false) rfl (.tmp 73) (.tmp 74) 24 rfl H16 H10 H2.out H2.out rfl rfl (by simp) ?_; simp only [Act.put, List.setIfInBounds_toArray, List.set_cons_zero, List.set_cons_succ])
        | (refine wpList_load_w rfl 24 (.tmp 3) rfl (w.heap.size) 0 rfl ca _ ra.all Tryd.underlying24 rfl Ha.info ?_; simp only [Act.put, List.setIfInBounds_toArray, List.set_cons_zero, List.set_cons_succ])
        | (refine wpList_load_w rfl 24 (.tmp 4) rfl (w.heap.size + 1) 0 rfl cb _ rb.all Tryd.underlying24 rfl Hb.info ?_; simp only [Act.put, List.setIfInBounds_toArray, List.set_cons_zero, List.set_cons_succ]))
      clear r8 r10 r12 r14 r16 H8 H10 H12 H14 H16 H1 H2 H3 H4 H5
      refine (cmp_c Ha Hb HA.out HB.out HL.out X5).mono ?_
      rintro e V6 ⟨rfl, hB⟩
      replace hb := hb.trans (hB.mono hb.size)
      replace ra := Row.below ra hB (Row.lt ra)
      replace rb := Row.below rb hB (Row.lt rb)
      replace rc := Row.below rc hB (Row.lt rc)
      clear hB
      go_wp2_with (first
        | (refine wpList_load_w rfl 24 (.tmp 3) rfl (w.heap.size) 0 rfl ca _ ra.all Tryd.underlying24 rfl Ha.info ?_; simp only [Act.put, List.setIfInBounds_toArray, List.set_cons_zero, List.set_cons_succ])
        | (refine wpList_load_w rfl 24 (.tmp 4) rfl (w.heap.size + 1) 0 rfl cb _ rb.all Tryd.underlying24 rfl Hb.info ?_; simp only [Act.put, List.setIfInBounds_toArray, List.set_cons_zero, List.set_cons_succ]))
      refine (sub_c Ha Hb HA.out HB.out rfl HS.out V6).mono ?_
      rintro e V7 ⟨c19, H19, rfl, hB⟩
      replace hb := hb.trans (hB.mono hb.size)
      replace ra := Row.below ra hB (Row.lt ra)
      replace rb := Row.below rb hB (Row.lt rb)
      replace rc := Row.below rc hB (Row.lt rc)
      clear hB
      have n0 : Row (V7.alloc (Obj.cells #[Value.int IntKind.u64 0, Value.int IntKind.u64 0, Value.int IntKind.u64 0, Value.int IntKind.u64 0] 24)) V7.heap.size (vQ (List.replicate 4 0)) 24 := Row.new' rfl rfl
      have T0 := H19.there n0 rfl
      replace n0 := n0.over (vs := c19) (by rw [H19.len]; rfl)
      have lt := Row.lt ra
      replace ra := (Row.setCells_other (Row.alloc ra (Obj.cells #[Value.int IntKind.u64 0, Value.int IntKind.u64 0, Value.int IntKind.u64 0, Value.int IntKind.u64 0] 24)) V7.heap.size 0 c19 (by omega))
      clear lt
      have lt := Row.lt rb
      replace rb := (Row.setCells_other (Row.alloc rb (Obj.cells #[Value.int IntKind.u64 0, Value.int IntKind.u64 0, Value.int IntKind.u64 0, Value.int IntKind.u64 0] 24)) V7.heap.size 0 c19 (by omega))
      clear lt
      have lt := Row.lt rc
      replace rc := (Row.setCells_other (Row.alloc rc (Obj.cells #[Value.int IntKind.u64 0, Value.int IntKind.u64 0, Value.int IntKind.u64 0, Value.int IntKind.u64 0] 24)) V7.heap.size 0 c19 (by omega))
      clear lt
      have hbn : Below w.heap.size w ((V7.alloc (Obj.cells #[Value.int IntKind.u64 0, Value.int IntKind.u64 0, Value.int IntKind.u64 0, Value.int IntKind.u64 0] 24)).setCells V7.heap.size 0 c19) := (below_setCells (hb.alloc hb.size (Obj.cells #[Value.int IntKind.u64 0, Value.int IntKind.u64 0, Value.int IntKind.u64 0, Value.int IntKind.u64 0] 24)) (b := V7.heap.size) (o := 0) (by have := hb.size; omega) c19)
      replace hb := hbn
      clear hbn
      have r19 := n0
      clear n0
      go_wp2_with (first
        | (refine wpList_store_mid rfl 24 (.tmp 19) (.tmp 84) rfl V7.heap.size 0 c19.toArray rfl rfl T0 H19.info' H19.one ?_; simp only [Act.put]; clear T0; (change wpList _ _ _ _ _ ((V7.alloc (Obj.cells #[Value.int IntKind.u64 0, Value.int IntKind.u64 0, Value.int IntKind.u64 0, Value.int IntKind.u64 0] 24)).setCells V7.heap.size 0 c19)); (generalize ((V7.alloc (Obj.cells #[Value.int IntKind.u64 0, Value.int IntKind.u64 0, Value.int IntKind.u64 0, Value.int IntKind.u64 0] 24)).setCells V7.heap.size 0 c19) = X7 at *); (generalize hN0 : V7.heap.size = N19 at *; clear hN0))
        | (refine wpList_load_w rfl 24 (.tmp 4) rfl (w.heap.size + 1) 0 rfl cb _ rb.all Tryd.underlying24 rfl Hb.info ?_; simp only [Act.put, List.setIfInBounds_toArray, List.set_cons_zero, List.set_cons_succ])
        | (refine wpList_load_w rfl 24 (.tmp 3) rfl (w.heap.size) 0 rfl ca _ ra.all Tryd.underlying24 rfl Ha.info ?_; simp only [Act.put, List.setIfInBounds_toArray, List.set_cons_zero, List.set_cons_succ]))
      refine (cmp_c Hb Ha HB.out HA.out HM.out X7).mono ?_
      rintro e V8 ⟨rfl, hB⟩
      replace hb := hb.trans (hB.mono hb.size)
      replace ra := Row.below ra hB (Row.lt ra)
      replace rb := Row.below rb hB (Row.lt rb)
      replace rc := Row.below rc hB (Row.lt rc)
      replace r19 := Row.below r19 hB (Row.lt r19)
      clear hB
      go_wp2_with (refine wpList_load_w rfl 24 (.tmp 3) rfl (w.heap.size) 0 rfl ca _ ra.all Tryd.underlying24 rfl Ha.info ?_; simp only [Act.put, List.setIfInBounds_toArray, List.set_cons_zero, List.set_cons_succ])
      refine (mul_c Ha One HA.out (by decide) HO.out.1 HO.out.2 V8).mono ?_
      rintro e V9 ⟨c22, H22, rfl, hB⟩
      replace hb := hb.trans (hB.mono hb.size)
      replace ra := Row.below ra hB (Row.lt ra)
      replace rb := Row.below rb hB (Row.lt rb)
      replace rc := Row.below rc hB (Row.lt rc)
      replace r19 := Row.below r19 hB (Row.lt r19)
      clear hB
      have n0 : Row (V9.alloc (Obj.cells #[Value.int IntKind.u64 0, Value.int IntKind.u64 0, Value.int IntKind.u64 0, Value.int IntKind.u64 0] 24)) V9.heap.size (vQ (List.replicate 4 0)) 24 := Row.new' rfl rfl
      have T0 := H22.there n0 rfl
      replace n0 := n0.over (vs := c22) (by rw [H22.len]; rfl)
      have lt := Row.lt ra
      replace ra := (Row.setCells_other (Row.alloc ra (Obj.cells #[Value.int IntKind.u64 0, Value.int IntKind.u64 0, Value.int IntKind.u64 0, Value.int IntKind.u64 0] 24)) V9.heap.size 0 c22 (by omega))
      clear lt
      have lt := Row.lt rb
      replace rb := (Row.setCells_other (Row.alloc rb (Obj.cells #[Value.int IntKind.u64 0, Value.int IntKind.u64 0, Value.int IntKind.u64 0, Value.int IntKind.u64 0] 24)) V9.heap.size 0 c22 (by omega))
      clear lt
      have lt := Row.lt rc
      replace rc := (Row.setCells_other (Row.alloc rc (Obj.cells #[Value.int IntKind.u64 0, Value.int IntKind.u64 0, Value.int IntKind.u64 0, Value.int IntKind.u64 0] 24)) V9.heap.size 0 c22 (by omega))
      clear lt
      have lt := Row.lt r19
      replace r19 := (Row.setCells_other (Row.alloc r19 (Obj.cells #[Value.int IntKind.u64 0, Value.int IntKind.u64 0, Value.int IntKind.u64 0, Value.int IntKind.u64 0] 24)) V9.heap.size 0 c22 (by omega))
      clear lt
      have hbn : Below w.heap.size w ((V9.alloc (Obj.cells #[Value.int IntKind.u64 0, Value.int IntKind.u64 0, Value.int IntKind.u64 0, Value.int IntKind.u64 0] 24)).setCells V9.heap.size 0 c22) := (below_setCells (hb.alloc hb.size (Obj.cells #[Value.int IntKind.u64 0, Value.int IntKind.u64 0, Value.int IntKind.u64 0, Value.int IntKind.u64 0] 24)) (b := V9.heap.size) (o := 0) (by have := hb.size; omega) c22)
      replace hb := hbn
      clear hbn
      have r22 := n0
      clear n0
      go_wp2_with (first
        | (refine wpList_store_mid rfl 24 (.tmp 22) (.tmp 93) rfl V9.heap.size 0 c22.toArray rfl rfl T0 H22.info' H22.one ?_; simp only [Act.put]; clear T0; (change wpList _ _ _ _ _ ((V9.alloc (Obj.cells #[Value.int IntKind.u64 0, Value.int IntKind.u64 0, Value.int IntKind.u64 0, Value.int IntKind.u64 0] 24)).setCells V9.heap.size 0 c22)); (generalize ((V9.alloc (Obj.cells #[Value.int IntKind.u64 0, Value.int IntKind.u64 0, Value.int IntKind.u64 0, Value.int IntKind.u64 0] 24)).setCells V9.heap.size 0 c22) = X9 at *); (generalize hN0 : V9.heap.size = N22 at *; clear hN0))
        | (refine wpList_load_w rfl 24 (.tmp 3) rfl (w.heap.size) 0 rfl ca _ ra.all Tryd.underlying24 rfl Ha.info ?_; simp only [Act.put, List.setIfInBounds_toArray, List.set_cons_zero, List.set_cons_succ]))
      refine (mul_c Ha Wc.zero HA.out (by decide) HZ.out.1 HZ.out.2 X9).mono ?_
      rintro e V10 ⟨c23, H23, rfl, hB⟩
      replace hb := hb.trans (hB.mono hb.size)
      replace ra := Row.below ra hB (Row.lt ra)
      replace rb := Row.below rb hB (Row.lt rb)
      replace rc := Row.below rc hB (Row.lt rc)
      replace r19 := Row.below r19 hB (Row.lt r19)
      replace r22 := Row.below r22 hB (Row.lt r22)
      clear hB
      have n0 : Row (V10.alloc (Obj.cells #[Value.int IntKind.u64 0, Value.int IntKind.u64 0, Value.int IntKind.u64 0, Value.int IntKind.u64 0] 24)) V10.heap.size (vQ (List.replicate 4 0)) 24 := Row.new' rfl rfl
      have T0 := H23.there n0 rfl
      replace n0 := n0.over (vs := c23) (by rw [H23.len]; rfl)
      have lt := Row.lt ra
      replace ra := (Row.setCells_other (Row.alloc ra (Obj.cells #[Value.int IntKind.u64 0, Value.int IntKind.u64 0, Value.int IntKind.u64 0, Value.int IntKind.u64 0] 24)) V10.heap.size 0 c23 (by omega))
      clear lt
      have lt := Row.lt rb
      replace rb := (Row.setCells_other (Row.alloc rb (Obj.cells #[Value.int IntKind.u64 0, Value.int IntKind.u64 0, Value.int IntKind.u64 0, Value.int IntKind.u64 0] 24)) V10.heap.size 0 c23 (by omega))
      clear lt
      have lt := Row.lt rc
      replace rc := (Row.setCells_other (Row.alloc rc (Obj.cells #[Value.int IntKind.u64 0, Value.int IntKind.u64 0, Value.int IntKind.u64 0, Value.int IntKind.u64 0] 24)) V10.heap.size 0 c23 (by omega))
      clear lt
      have lt := Row.lt r19
      replace r19 := (Row.setCells_other (Row.alloc r19 (Obj.cells #[Value.int IntKind.u64 0, Value.int IntKind.u64 0, Value.int IntKind.u64 0, Value.int IntKind.u64 0] 24)) V10.heap.size 0 c23 (by omega))
      clear lt
      have lt := Row.lt r22
      replace r22 := (Row.setCells_other (Row.alloc r22 (Obj.cells #[Value.int IntKind.u64 0, Value.int IntKind.u64 0, Value.int IntKind.u64 0, Value.int IntKind.u64 0] 24)) V10.heap.size 0 c23 (by omega))
      clear lt
      have hbn : Below w.heap.size w ((V10.alloc (Obj.cells #[Value.int IntKind.u64 0, Value.int IntKind.u64 0, Value.int IntKind.u64 0, Value.int IntKind.u64 0] 24)).setCells V10.heap.size 0 c23) := (below_setCells (hb.alloc hb.size (Obj.cells #[Value.int IntKind.u64 0, Value.int IntKind.u64 0, Value.int IntKind.u64 0, Value.int IntKind.u64 0] 24)) (b := V10.heap.size) (o := 0) (by have := hb.size; omega) c23)
      replace hb := hbn
      clear hbn
      have r23 := n0
      clear n0
      go_wp2_with (first
        | (refine wpList_store_mid rfl 24 (.tmp 23) (.tmp 99) rfl V10.heap.size 0 c23.toArray rfl rfl T0 H23.info' H23.one ?_; simp only [Act.put]; clear T0; (change wpList _ _ _ _ _ ((V10.alloc (Obj.cells #[Value.int IntKind.u64 0, Value.int IntKind.u64 0, Value.int IntKind.u64 0, Value.int IntKind.u64 0] 24)).setCells V10.heap.size 0 c23)); (generalize ((V10.alloc (Obj.cells #[Value.int IntKind.u64 0, Value.int IntKind.u64 0, Value.int IntKind.u64 0, Value.int IntKind.u64 0] 24)).setCells V10.heap.size 0 c23) = X10 at *); (generalize hN0 : V10.heap.size = N23 at *; clear hN0))
        | (refine wpList_load_w rfl 24 (.tmp 22) rfl N22 0 rfl c22 _ r22.all Tryd.underlying24 rfl H22.info ?_; simp only [Act.put, List.setIfInBounds_toArray, List.set_cons_zero, List.set_cons_succ])
        | (refine wpList_load_w rfl 24 (.tmp 3) rfl (w.heap.size) 0 rfl ca _ ra.all Tryd.underlying24 rfl Ha.info ?_; simp only [Act.put, List.setIfInBounds_toArray, List.set_cons_zero, List.set_cons_succ])
        | (refine wpList_load_w rfl 24 (.tmp 23) rfl N23 0 rfl c23 _ r23.all Tryd.underlying24 rfl H23.info ?_; simp only [Act.put, List.setIfInBounds_toArray, List.set_cons_zero, List.set_cons_succ])
        | (refine wpList_eql_c (B := true) rfl (.tmp 116) (.tmp 117) 24 rfl H22 Ha HA.out HA.out rfl rfl (by simp) ?_; simp only [Act.put, List.setIfInBounds_toArray, List.set_cons_zero, List.set_cons_succ])
        | (refine wpList_eql_c (B := true) rfl (.tmp 125) (.tmp 126) 24 rfl H23 Wc.zero (by decide) (by decide) rfl rfl (by decide) ?_; simp only [Act.put, List.setIfInBounds_toArray, List.set_cons_zero, List.set_cons_succ]))
      go_ret
      exact ⟨rfl, hb⟩
    · have H2 : Hid (¬ a * (b + c) < 2 ^ 256) := h2
      clear h1 h2
      refine (add_c Hb Hc HB.out HC.out (if_pos H1.out) (if_pos H1.out) V0).mono ?_
      rintro e V1 ⟨c8, H8, rfl, hB⟩
      replace hb := hb.trans (hB.mono hb.size)
      replace ra := Row.below ra hB (Row.lt ra)
      replace rb := Row.below rb hB (Row.lt rb)
      replace rc := Row.below rc hB (Row.lt rc)
      clear hB
      have n0 : Row (V1.alloc (Obj.cells #[Value.int IntKind.u64 0, Value.int IntKind.u64 0, Value.int IntKind.u64 0, Value.int IntKind.u64 0] 24)) V1.heap.size (vQ (List.replicate 4 0)) 24 := Row.new' rfl rfl
      have T0 := H8.there n0 rfl
      replace n0 := n0.over (vs := c8) (by rw [H8.len]; rfl)
      have lt := Row.lt ra
      replace ra := (Row.setCells_other (Row.alloc ra (Obj.cells #[Value.int IntKind.u64 0, Value.int IntKind.u64 0, Value.int IntKind.u64 0, Value.int IntKind.u64 0] 24)) V1.heap.size 0 c8 (by omega))
      clear lt
      have lt := Row.lt rb
      replace rb := (Row.setCells_other (Row.alloc rb (Obj.cells #[Value.int IntKind.u64 0, Value.int IntKind.u64 0, Value.int IntKind.u64 0, Value.int IntKind.u64 0] 24)) V1.heap.size 0 c8 (by omega))
      clear lt
      have lt := Row.lt rc
      replace rc := (Row.setCells_other (Row.alloc rc (Obj.cells #[Value.int IntKind.u64 0, Value.int IntKind.u64 0, Value.int IntKind.u64 0, Value.int IntKind.u64 0] 24)) V1.heap.size 0 c8 (by omega))
      clear lt
      have hbn : Below w.heap.size w ((V1.alloc (Obj.cells #[Value.int IntKind.u64 0, Value.int IntKind.u64 0, Value.int IntKind.u64 0, Value.int IntKind.u64 0] 24)).setCells V1.heap.size 0 c8) := (below_setCells (hb.alloc hb.size (Obj.cells #[Value.int IntKind.u64 0, Value.int IntKind.u64 0, Value.int IntKind.u64 0, Value.int IntKind.u64 0] 24)) (b := V1.heap.size) (o := 0) (by have := hb.size; omega) c8)
      replace hb := hbn
      clear hbn
      have r8 := n0
      clear n0
      go_wp2_with (first
        | (refine wpList_store_mid rfl 24 (.tmp 8) (.tmp 30) rfl V1.heap.size 0 c8.toArray rfl rfl T0 H8.info' H8.one ?_; simp only [Act.put]; clear T0; (change wpList _ _ _ _ _ ((V1.alloc (Obj.cells #[Value.int IntKind.u64 0, Value.int IntKind.u64 0, Value.int IntKind.u64 0, Value.int IntKind.u64 0] 24)).setCells V1.heap.size 0 c8)); (generalize ((V1.alloc (Obj.cells #[Value.int IntKind.u64 0, Value.int IntKind.u64 0, Value.int IntKind.u64 0, Value.int IntKind.u64 0] 24)).setCells V1.heap.size 0 c8) = X1 at *); (generalize hN0 : V1.heap.size = N8 at *; clear hN0))
        | (refine wpList_load_w rfl 24 (.tmp 3) rfl (w.heap.size) 0 rfl ca _ ra.all Tryd.underlying24 rfl Ha.info ?_; simp only [Act.put, List.setIfInBounds_toArray, List.set_cons_zero, List.set_cons_succ])
        | (refine wpList_load_w rfl 24 (.tmp 8) rfl N8 0 rfl c8 _ r8.all Tryd.underlying24 rfl H8.info ?_; simp only [Act.put, List.setIfInBounds_toArray, List.set_cons_zero, List.set_cons_succ]))
      refine (mul_c Ha H8 HA.out H1.out (if_neg H2.out) (if_neg H2.out) X1).mono ?_
      rintro e V2 ⟨c10, H10, rfl, hB⟩
      replace hb := hb.trans (hB.mono hb.size)
      replace ra := Row.below ra hB (Row.lt ra)
      replace rb := Row.below rb hB (Row.lt rb)
      replace rc := Row.below rc hB (Row.lt rc)
      replace r8 := Row.below r8 hB (Row.lt r8)
      clear hB
      have n0 : Row (V2.alloc (Obj.cells #[Value.int IntKind.u64 0, Value.int IntKind.u64 0, Value.int IntKind.u64 0, Value.int IntKind.u64 0] 24)) V2.heap.size (vQ (List.replicate 4 0)) 24 := Row.new' rfl rfl
      have T0 := H10.there n0 rfl
      replace n0 := n0.over (vs := c10) (by rw [H10.len]; rfl)
      have lt := Row.lt ra
      replace ra := (Row.setCells_other (Row.alloc ra (Obj.cells #[Value.int IntKind.u64 0, Value.int IntKind.u64 0, Value.int IntKind.u64 0, Value.int IntKind.u64 0] 24)) V2.heap.size 0 c10 (by omega))
      clear lt
      have lt := Row.lt rb
      replace rb := (Row.setCells_other (Row.alloc rb (Obj.cells #[Value.int IntKind.u64 0, Value.int IntKind.u64 0, Value.int IntKind.u64 0, Value.int IntKind.u64 0] 24)) V2.heap.size 0 c10 (by omega))
      clear lt
      have lt := Row.lt rc
      replace rc := (Row.setCells_other (Row.alloc rc (Obj.cells #[Value.int IntKind.u64 0, Value.int IntKind.u64 0, Value.int IntKind.u64 0, Value.int IntKind.u64 0] 24)) V2.heap.size 0 c10 (by omega))
      clear lt
      have lt := Row.lt r8
      replace r8 := (Row.setCells_other (Row.alloc r8 (Obj.cells #[Value.int IntKind.u64 0, Value.int IntKind.u64 0, Value.int IntKind.u64 0, Value.int IntKind.u64 0] 24)) V2.heap.size 0 c10 (by omega))
      clear lt
      have hbn : Below w.heap.size w ((V2.alloc (Obj.cells #[Value.int IntKind.u64 0, Value.int IntKind.u64 0, Value.int IntKind.u64 0, Value.int IntKind.u64 0] 24)).setCells V2.heap.size 0 c10) := (below_setCells (hb.alloc hb.size (Obj.cells #[Value.int IntKind.u64 0, Value.int IntKind.u64 0, Value.int IntKind.u64 0, Value.int IntKind.u64 0] 24)) (b := V2.heap.size) (o := 0) (by have := hb.size; omega) c10)
      replace hb := hbn
      clear hbn
      have r10 := n0
      clear n0
      go_wp2_with (first
        | (refine wpList_store_mid rfl 24 (.tmp 10) (.tmp 36) rfl V2.heap.size 0 c10.toArray rfl rfl T0 H10.info' H10.one ?_; simp only [Act.put]; clear T0; (change wpList _ _ _ _ _ ((V2.alloc (Obj.cells #[Value.int IntKind.u64 0, Value.int IntKind.u64 0, Value.int IntKind.u64 0, Value.int IntKind.u64 0] 24)).setCells V2.heap.size 0 c10)); (generalize ((V2.alloc (Obj.cells #[Value.int IntKind.u64 0, Value.int IntKind.u64 0, Value.int IntKind.u64 0, Value.int IntKind.u64 0] 24)).setCells V2.heap.size 0 c10) = X2 at *); (generalize hN0 : V2.heap.size = N10 at *; clear hN0))
        | (refine wpList_load_w rfl 24 (.tmp 3) rfl (w.heap.size) 0 rfl ca _ ra.all Tryd.underlying24 rfl Ha.info ?_; simp only [Act.put, List.setIfInBounds_toArray, List.set_cons_zero, List.set_cons_succ])
        | (refine wpList_load_w rfl 24 (.tmp 4) rfl (w.heap.size + 1) 0 rfl cb _ rb.all Tryd.underlying24 rfl Hb.info ?_; simp only [Act.put, List.setIfInBounds_toArray, List.set_cons_zero, List.set_cons_succ]))
      clear r8 r10 H8 H10 H1 H2
      refine (cmp_c Ha Hb HA.out HB.out HL.out X2).mono ?_
      rintro e V3 ⟨rfl, hB⟩
      replace hb := hb.trans (hB.mono hb.size)
      replace ra := Row.below ra hB (Row.lt ra)
      replace rb := Row.below rb hB (Row.lt rb)
      replace rc := Row.below rc hB (Row.lt rc)
      clear hB
      go_wp2_with (first
        | (refine wpList_load_w rfl 24 (.tmp 3) rfl (w.heap.size) 0 rfl ca _ ra.all Tryd.underlying24 rfl Ha.info ?_; simp only [Act.put, List.setIfInBounds_toArray, List.set_cons_zero, List.set_cons_succ])
        | (refine wpList_load_w rfl 24 (.tmp 4) rfl (w.heap.size + 1) 0 rfl cb _ rb.all Tryd.underlying24 rfl Hb.info ?_; simp only [Act.put, List.setIfInBounds_toArray, List.set_cons_zero, List.set_cons_succ]))
      refine (sub_c Ha Hb HA.out HB.out rfl HS.out V3).mono ?_
      rintro e V4 ⟨c19, H19, rfl, hB⟩
      replace hb := hb.trans (hB.mono hb.size)
      replace ra := Row.below ra hB (Row.lt ra)
      replace rb := Row.below rb hB (Row.lt rb)
      replace rc := Row.below rc hB (Row.lt rc)
      clear hB
      have n0 : Row (V4.alloc (Obj.cells #[Value.int IntKind.u64 0, Value.int IntKind.u64 0, Value.int IntKind.u64 0, Value.int IntKind.u64 0] 24)) V4.heap.size (vQ (List.replicate 4 0)) 24 := Row.new' rfl rfl
      have T0 := H19.there n0 rfl
      replace n0 := n0.over (vs := c19) (by rw [H19.len]; rfl)
      have lt := Row.lt ra
      replace ra := (Row.setCells_other (Row.alloc ra (Obj.cells #[Value.int IntKind.u64 0, Value.int IntKind.u64 0, Value.int IntKind.u64 0, Value.int IntKind.u64 0] 24)) V4.heap.size 0 c19 (by omega))
      clear lt
      have lt := Row.lt rb
      replace rb := (Row.setCells_other (Row.alloc rb (Obj.cells #[Value.int IntKind.u64 0, Value.int IntKind.u64 0, Value.int IntKind.u64 0, Value.int IntKind.u64 0] 24)) V4.heap.size 0 c19 (by omega))
      clear lt
      have lt := Row.lt rc
      replace rc := (Row.setCells_other (Row.alloc rc (Obj.cells #[Value.int IntKind.u64 0, Value.int IntKind.u64 0, Value.int IntKind.u64 0, Value.int IntKind.u64 0] 24)) V4.heap.size 0 c19 (by omega))
      clear lt
      have hbn : Below w.heap.size w ((V4.alloc (Obj.cells #[Value.int IntKind.u64 0, Value.int IntKind.u64 0, Value.int IntKind.u64 0, Value.int IntKind.u64 0] 24)).setCells V4.heap.size 0 c19) := (below_setCells (hb.alloc hb.size (Obj.cells #[Value.int IntKind.u64 0, Value.int IntKind.u64 0, Value.int IntKind.u64 0, Value.int IntKind.u64 0] 24)) (b := V4.heap.size) (o := 0) (by have := hb.size; omega) c19)
      replace hb := hbn
      clear hbn
      have r19 := n0
      clear n0
      go_wp2_with (first
        | (refine wpList_store_mid rfl 24 (.tmp 19) (.tmp 84) rfl V4.heap.size 0 c19.toArray rfl rfl T0 H19.info' H19.one ?_; simp only [Act.put]; clear T0; (change wpList _ _ _ _ _ ((V4.alloc (Obj.cells #[Value.int IntKind.u64 0, Value.int IntKind.u64 0, Value.int IntKind.u64 0, Value.int IntKind.u64 0] 24)).setCells V4.heap.size 0 c19)); (generalize ((V4.alloc (Obj.cells #[Value.int IntKind.u64 0, Value.int IntKind.u64 0, Value.int IntKind.u64 0, Value.int IntKind.u64 0] 24)).setCells V4.heap.size 0 c19) = X4 at *); (generalize hN0 : V4.heap.size = N19 at *; clear hN0))
        | (refine wpList_load_w rfl 24 (.tmp 4) rfl (w.heap.size + 1) 0 rfl cb _ rb.all Tryd.underlying24 rfl Hb.info ?_; simp only [Act.put, List.setIfInBounds_toArray, List.set_cons_zero, List.set_cons_succ])
        | (refine wpList_load_w rfl 24 (.tmp 3) rfl (w.heap.size) 0 rfl ca _ ra.all Tryd.underlying24 rfl Ha.info ?_; simp only [Act.put, List.setIfInBounds_toArray, List.set_cons_zero, List.set_cons_succ]))
      refine (cmp_c Hb Ha HB.out HA.out HM.out X4).mono ?_
      rintro e V5 ⟨rfl, hB⟩
      replace hb := hb.trans (hB.mono hb.size)
      replace ra := Row.below ra hB (Row.lt ra)
      replace rb := Row.below rb hB (Row.lt rb)
      replace rc := Row.below rc hB (Row.lt rc)
      replace r19 := Row.below r19 hB (Row.lt r19)
      clear hB
      go_wp2_with (refine wpList_load_w rfl 24 (.tmp 3) rfl (w.heap.size) 0 rfl ca _ ra.all Tryd.underlying24 rfl Ha.info ?_; simp only [Act.put, List.setIfInBounds_toArray, List.set_cons_zero, List.set_cons_succ])
      refine (mul_c Ha One HA.out (by decide) HO.out.1 HO.out.2 V5).mono ?_
      rintro e V6 ⟨c22, H22, rfl, hB⟩
      replace hb := hb.trans (hB.mono hb.size)
      replace ra := Row.below ra hB (Row.lt ra)
      replace rb := Row.below rb hB (Row.lt rb)
      replace rc := Row.below rc hB (Row.lt rc)
      replace r19 := Row.below r19 hB (Row.lt r19)
      clear hB
      have n0 : Row (V6.alloc (Obj.cells #[Value.int IntKind.u64 0, Value.int IntKind.u64 0, Value.int IntKind.u64 0, Value.int IntKind.u64 0] 24)) V6.heap.size (vQ (List.replicate 4 0)) 24 := Row.new' rfl rfl
      have T0 := H22.there n0 rfl
      replace n0 := n0.over (vs := c22) (by rw [H22.len]; rfl)
      have lt := Row.lt ra
      replace ra := (Row.setCells_other (Row.alloc ra (Obj.cells #[Value.int IntKind.u64 0, Value.int IntKind.u64 0, Value.int IntKind.u64 0, Value.int IntKind.u64 0] 24)) V6.heap.size 0 c22 (by omega))
      clear lt
      have lt := Row.lt rb
      replace rb := (Row.setCells_other (Row.alloc rb (Obj.cells #[Value.int IntKind.u64 0, Value.int IntKind.u64 0, Value.int IntKind.u64 0, Value.int IntKind.u64 0] 24)) V6.heap.size 0 c22 (by omega))
      clear lt
      have lt := Row.lt rc
      replace rc := (Row.setCells_other (Row.alloc rc (Obj.cells #[Value.int IntKind.u64 0, Value.int IntKind.u64 0, Value.int IntKind.u64 0, Value.int IntKind.u64 0] 24)) V6.heap.size 0 c22 (by omega))
      clear lt
      have lt := Row.lt r19
      replace r19 := (Row.setCells_other (Row.alloc r19 (Obj.cells #[Value.int IntKind.u64 0, Value.int IntKind.u64 0, Value.int IntKind.u64 0, Value.int IntKind.u64 0] 24)) V6.heap.size 0 c22 (by omega))
      clear lt
      have hbn : Below w.heap.size w ((V6.alloc (Obj.cells #[Value.int IntKind.u64 0, Value.int IntKind.u64 0, Value.int IntKind.u64 0, Value.int IntKind.u64 0] 24)).setCells V6.heap.size 0 c22) := (below_setCells (hb.alloc hb.size (Obj.cells #[Value.int IntKind.u64 0, Value.int IntKind.u64 0, Value.int IntKind.u64 0, Value.int IntKind.u64 0] 24)) (b := V6.heap.size) (o := 0) (by have := hb.size; omega) c22)
      replace hb := hbn
      clear hbn
      have r22 := n0
      clear n0
      go_wp2_with (first
        | (refine wpList_store_mid rfl 24 (.tmp 22) (.tmp 93) rfl V6.heap.size 0 c22.toArray rfl rfl T0 H22.info' H22.one ?_; simp only [Act.put]; clear T0; (change wpList _ _ _ _ _ ((V6.alloc (Obj.cells #[Value.int IntKind.u64 0, Value.int IntKind.u64 0, Value.int IntKind.u64 0, Value.int IntKind.u64 0] 24)).setCells V6.heap.size 0 c22)); (generalize ((V6.alloc (Obj.cells #[Value.int IntKind.u64 0, Value.int IntKind.u64 0, Value.int IntKind.u64 0, Value.int IntKind.u64 0] 24)).setCells V6.heap.size 0 c22) = X6 at *); (generalize hN0 : V6.heap.size = N22 at *; clear hN0))
        | (refine wpList_load_w rfl 24 (.tmp 3) rfl (w.heap.size) 0 rfl ca _ ra.all Tryd.underlying24 rfl Ha.info ?_; simp only [Act.put, List.setIfInBounds_toArray, List.set_cons_zero, List.set_cons_succ]))
      refine (mul_c Ha Wc.zero HA.out (by decide) HZ.out.1 HZ.out.2 X6).mono ?_
      rintro e V7 ⟨c23, H23, rfl, hB⟩
      replace hb := hb.trans (hB.mono hb.size)
      replace ra := Row.below ra hB (Row.lt ra)
      replace rb := Row.below rb hB (Row.lt rb)
      replace rc := Row.below rc hB (Row.lt rc)
      replace r19 := Row.below r19 hB (Row.lt r19)
      replace r22 := Row.below r22 hB (Row.lt r22)
      clear hB
      have n0 : Row (V7.alloc (Obj.cells #[Value.int IntKind.u64 0, Value.int IntKind.u64 0, Value.int IntKind.u64 0, Value.int IntKind.u64 0] 24)) V7.heap.size (vQ (List.replicate 4 0)) 24 := Row.new' rfl rfl
      have T0 := H23.there n0 rfl
      replace n0 := n0.over (vs := c23) (by rw [H23.len]; rfl)
      have lt := Row.lt ra
      replace ra := (Row.setCells_other (Row.alloc ra (Obj.cells #[Value.int IntKind.u64 0, Value.int IntKind.u64 0, Value.int IntKind.u64 0, Value.int IntKind.u64 0] 24)) V7.heap.size 0 c23 (by omega))
      clear lt
      have lt := Row.lt rb
      replace rb := (Row.setCells_other (Row.alloc rb (Obj.cells #[Value.int IntKind.u64 0, Value.int IntKind.u64 0, Value.int IntKind.u64 0, Value.int IntKind.u64 0] 24)) V7.heap.size 0 c23 (by omega))
      clear lt
      have lt := Row.lt rc
      replace rc := (Row.setCells_other (Row.alloc rc (Obj.cells #[Value.int IntKind.u64 0, Value.int IntKind.u64 0, Value.int IntKind.u64 0, Value.int IntKind.u64 0] 24)) V7.heap.size 0 c23 (by omega))
      clear lt
      have lt := Row.lt r19
      replace r19 := (Row.setCells_other (Row.alloc r19 (Obj.cells #[Value.int IntKind.u64 0, Value.int IntKind.u64 0, Value.int IntKind.u64 0, Value.int IntKind.u64 0] 24)) V7.heap.size 0 c23 (by omega))
      clear lt
      have lt := Row.lt r22
      replace r22 := (Row.setCells_other (Row.alloc r22 (Obj.cells #[Value.int IntKind.u64 0, Value.int IntKind.u64 0, Value.int IntKind.u64 0, Value.int IntKind.u64 0] 24)) V7.heap.size 0 c23 (by omega))
      clear lt
      have hbn : Below w.heap.size w ((V7.alloc (Obj.cells #[Value.int IntKind.u64 0, Value.int IntKind.u64 0, Value.int IntKind.u64 0, Value.int IntKind.u64 0] 24)).setCells V7.heap.size 0 c23) := (below_setCells (hb.alloc hb.size (Obj.cells #[Value.int IntKind.u64 0, Value.int IntKind.u64 0, Value.int IntKind.u64 0, Value.int IntKind.u64 0] 24)) (b := V7.heap.size) (o := 0) (by have := hb.size; omega) c23)
      replace hb := hbn
      clear hbn
      have r23 := n0
      clear n0
      go_wp2_with (first
        | (refine wpList_store_mid rfl 24 (.tmp 23) (.tmp 99) rfl V7.heap.size 0 c23.toArray rfl rfl T0 H23.info' H23.one ?_; simp only [Act.put]; clear T0; (change wpList _ _ _ _ _ ((V7.alloc (Obj.cells #[Value.int IntKind.u64 0, Value.int IntKind.u64 0, Value.int IntKind.u64 0, Value.int IntKind.u64 0] 24)).setCells V7.heap.size 0 c23)); (generalize ((V7.alloc (Obj.cells #[Value.int IntKind.u64 0, Value.int IntKind.u64 0, Value.int IntKind.u64 0, Value.int IntKind.u64 0] 24)).setCells V7.heap.size 0 c23) = X7 at *); (generalize hN0 : V7.heap.size = N23 at *; clear hN0))
        | (refine wpList_load_w rfl 24 (.tmp 22) rfl N22 0 rfl c22 _ r22.all Tryd.underlying24 rfl H22.info ?_; simp only [Act.put, List.setIfInBounds_toArray, List.set_cons_zero, List.set_cons_succ])
        | (refine wpList_load_w rfl 24 (.tmp 3) rfl (w.heap.size) 0 rfl ca _ ra.all Tryd.underlying24 rfl Ha.info ?_; simp only [Act.put, List.setIfInBounds_toArray, List.set_cons_zero, List.set_cons_succ])
        | (refine wpList_load_w rfl 24 (.tmp 23) rfl N23 0 rfl c23 _ r23.all Tryd.underlying24 rfl H23.info ?_; simp only [Act.put, List.setIfInBounds_toArray, List.set_cons_zero, List.set_cons_succ])
        | (refine wpList_eql_c (B := true) rfl (.tmp 116) (.tmp 117) 24 rfl H22 Ha HA.out HA.out rfl rfl (by simp) ?_; simp only [Act.put, List.setIfInBounds_toArray, List.set_cons_zero, List.set_cons_succ])
        | (refine wpList_eql_c (B := true) rfl (.tmp 125) (.tmp 126) 24 rfl H23 Wc.zero (by decide) (by decide) rfl rfl (by decide) ?_; simp only [Act.put, List.setIfInBounds_toArray, List.set_cons_zero, List.set_cons_succ]))
      go_ret
      exact ⟨rfl, hb⟩
  · have H1 : Hid (¬ b + c < 2 ^ 256) := h1
    clear h1
    refine (add_c Hb Hc HB.out HC.out (if_neg H1.out) (if_neg H1.out) V0).mono ?_
    rintro e V1 ⟨c8, H8, rfl, hB⟩
    replace hb := hb.trans (hB.mono hb.size)
    replace ra := Row.below ra hB (Row.lt ra)
    replace rb := Row.below rb hB (Row.lt rb)
    replace rc := Row.below rc hB (Row.lt rc)
    clear hB
    have n0 : Row (V1.alloc (Obj.cells #[Value.int IntKind.u64 0, Value.int IntKind.u64 0, Value.int IntKind.u64 0, Value.int IntKind.u64 0] 24)) V1.heap.size (vQ (List.replicate 4 0)) 24 := Row.new' rfl rfl
    have T0 := H8.there n0 rfl
    replace n0 := n0.over (vs := c8) (by rw [H8.len]; rfl)
    have lt := Row.lt ra
    replace ra := (Row.setCells_other (Row.alloc ra (Obj.cells #[Value.int IntKind.u64 0, Value.int IntKind.u64 0, Value.int IntKind.u64 0, Value.int IntKind.u64 0] 24)) V1.heap.size 0 c8 (by omega))
    clear lt
    have lt := Row.lt rb
    replace rb := (Row.setCells_other (Row.alloc rb (Obj.cells #[Value.int IntKind.u64 0, Value.int IntKind.u64 0, Value.int IntKind.u64 0, Value.int IntKind.u64 0] 24)) V1.heap.size 0 c8 (by omega))
    clear lt
    have lt := Row.lt rc
    replace rc := (Row.setCells_other (Row.alloc rc (Obj.cells #[Value.int IntKind.u64 0, Value.int IntKind.u64 0, Value.int IntKind.u64 0, Value.int IntKind.u64 0] 24)) V1.heap.size 0 c8 (by omega))
    clear lt
    have hbn : Below w.heap.size w ((V1.alloc (Obj.cells #[Value.int IntKind.u64 0, Value.int IntKind.u64 0, Value.int IntKind.u64 0, Value.int IntKind.u64 0] 24)).setCells V1.heap.size 0 c8) := (below_setCells (hb.alloc hb.size (Obj.cells #[Value.int IntKind.u64 0, Value.int IntKind.u64 0, Value.int IntKind.u64 0, Value.int IntKind.u64 0] 24)) (b := V1.heap.size) (o := 0) (by have := hb.size; omega) c8)
    replace hb := hbn
    clear hbn
    have r8 := n0
    clear n0
    go_wp2_with (first
      | (refine wpList_store_mid rfl 24 (.tmp 8) (.tmp 30) rfl V1.heap.size 0 c8.toArray rfl rfl T0 H8.info' H8.one ?_; simp only [Act.put]; clear T0; (change wpList _ _ _ _ _ ((V1.alloc (Obj.cells #[Value.int IntKind.u64 0, Value.int IntKind.u64 0, Value.int IntKind.u64 0, Value.int IntKind.u64 0] 24)).setCells V1.heap.size 0 c8)); (generalize ((V1.alloc (Obj.cells #[Value.int IntKind.u64 0, Value.int IntKind.u64 0, Value.int IntKind.u64 0, Value.int IntKind.u64 0] 24)).setCells V1.heap.size 0 c8) = X1 at *); (generalize hN0 : V1.heap.size = N8 at *; clear hN0))
      | (refine wpList_load_w rfl 24 (.tmp 3) rfl (w.heap.size) 0 rfl ca _ ra.all Tryd.underlying24 rfl Ha.info ?_; simp only [Act.put, List.setIfInBounds_toArray, List.set_cons_zero, List.set_cons_succ])
      | (refine wpList_load_w rfl 24 (.tmp 8) rfl N8 0 rfl c8 _ r8.all Tryd.underlying24 rfl H8.info ?_; simp only [Act.put, List.setIfInBounds_toArray, List.set_cons_zero, List.set_cons_succ]))
    refine (mul_c Ha H8 HA.out (by decide) HZ.out.1 HZ.out.2 X1).mono ?_
    rintro e V2 ⟨c10, H10, rfl, hB⟩
    replace hb := hb.trans (hB.mono hb.size)
    replace ra := Row.below ra hB (Row.lt ra)
    replace rb := Row.below rb hB (Row.lt rb)
    replace rc := Row.below rc hB (Row.lt rc)
    replace r8 := Row.below r8 hB (Row.lt r8)
    clear hB
    have n0 : Row (V2.alloc (Obj.cells #[Value.int IntKind.u64 0, Value.int IntKind.u64 0, Value.int IntKind.u64 0, Value.int IntKind.u64 0] 24)) V2.heap.size (vQ (List.replicate 4 0)) 24 := Row.new' rfl rfl
    have T0 := H10.there n0 rfl
    replace n0 := n0.over (vs := c10) (by rw [H10.len]; rfl)
    have lt := Row.lt ra
    replace ra := (Row.setCells_other (Row.alloc ra (Obj.cells #[Value.int IntKind.u64 0, Value.int IntKind.u64 0, Value.int IntKind.u64 0, Value.int IntKind.u64 0] 24)) V2.heap.size 0 c10 (by omega))
    clear lt
    have lt := Row.lt rb
    replace rb := (Row.setCells_other (Row.alloc rb (Obj.cells #[Value.int IntKind.u64 0, Value.int IntKind.u64 0, Value.int IntKind.u64 0, Value.int IntKind.u64 0] 24)) V2.heap.size 0 c10 (by omega))
    clear lt
    have lt := Row.lt rc
    replace rc := (Row.setCells_other (Row.alloc rc (Obj.cells #[Value.int IntKind.u64 0, Value.int IntKind.u64 0, Value.int IntKind.u64 0, Value.int IntKind.u64 0] 24)) V2.heap.size 0 c10 (by omega))
    clear lt
    have lt := Row.lt r8
    replace r8 := (Row.setCells_other (Row.alloc r8 (Obj.cells #[Value.int IntKind.u64 0, Value.int IntKind.u64 0, Value.int IntKind.u64 0, Value.int IntKind.u64 0] 24)) V2.heap.size 0 c10 (by omega))
    clear lt
    have hbn : Below w.heap.size w ((V2.alloc (Obj.cells #[Value.int IntKind.u64 0, Value.int IntKind.u64 0, Value.int IntKind.u64 0, Value.int IntKind.u64 0] 24)).setCells V2.heap.size 0 c10) := (below_setCells (hb.alloc hb.size (Obj.cells #[Value.int IntKind.u64 0, Value.int IntKind.u64 0, Value.int IntKind.u64 0, Value.int IntKind.u64 0] 24)) (b := V2.heap.size) (o := 0) (by have := hb.size; omega) c10)
    replace hb := hbn
    clear hbn
    have r10 := n0
    clear n0
    go_wp2_with (first
      | (refine wpList_store_mid rfl 24 (.tmp 10) (.tmp 36) rfl V2.heap.size 0 c10.toArray rfl rfl T0 H10.info' H10.one ?_; simp only [Act.put]; clear T0; (change wpList _ _ _ _ _ ((V2.alloc (Obj.cells #[Value.int IntKind.u64 0, Value.int IntKind.u64 0, Value.int IntKind.u64 0, Value.int IntKind.u64 0] 24)).setCells V2.heap.size 0 c10)); (generalize ((V2.alloc (Obj.cells #[Value.int IntKind.u64 0, Value.int IntKind.u64 0, Value.int IntKind.u64 0, Value.int IntKind.u64 0] 24)).setCells V2.heap.size 0 c10) = X2 at *); (generalize hN0 : V2.heap.size = N10 at *; clear hN0))
      | (refine wpList_load_w rfl 24 (.tmp 3) rfl (w.heap.size) 0 rfl ca _ ra.all Tryd.underlying24 rfl Ha.info ?_; simp only [Act.put, List.setIfInBounds_toArray, List.set_cons_zero, List.set_cons_succ])
      | (refine wpList_load_w rfl 24 (.tmp 4) rfl (w.heap.size + 1) 0 rfl cb _ rb.all Tryd.underlying24 rfl Hb.info ?_; simp only [Act.put, List.setIfInBounds_toArray, List.set_cons_zero, List.set_cons_succ]))
    clear r8 r10 H8 H10 H1
    refine (cmp_c Ha Hb HA.out HB.out HL.out X2).mono ?_
    rintro e V3 ⟨rfl, hB⟩
    replace hb := hb.trans (hB.mono hb.size)
    replace ra := Row.below ra hB (Row.lt ra)
    replace rb := Row.below rb hB (Row.lt rb)
    replace rc := Row.below rc hB (Row.lt rc)
    clear hB
    go_wp2_with (first
      | (refine wpList_load_w rfl 24 (.tmp 3) rfl (w.heap.size) 0 rfl ca _ ra.all Tryd.underlying24 rfl Ha.info ?_; simp only [Act.put, List.setIfInBounds_toArray, List.set_cons_zero, List.set_cons_succ])
      | (refine wpList_load_w rfl 24 (.tmp 4) rfl (w.heap.size + 1) 0 rfl cb _ rb.all Tryd.underlying24 rfl Hb.info ?_; simp only [Act.put, List.setIfInBounds_toArray, List.set_cons_zero, List.set_cons_succ]))
    refine (sub_c Ha Hb HA.out HB.out rfl HS.out V3).mono ?_
    rintro e V4 ⟨c19, H19, rfl, hB⟩
    replace hb := hb.trans (hB.mono hb.size)
    replace ra := Row.below ra hB (Row.lt ra)
    replace rb := Row.below rb hB (Row.lt rb)
    replace rc := Row.below rc hB (Row.lt rc)
    clear hB
    have n0 : Row (V4.alloc (Obj.cells #[Value.int IntKind.u64 0, Value.int IntKind.u64 0, Value.int IntKind.u64 0, Value.int IntKind.u64 0] 24)) V4.heap.size (vQ (List.replicate 4 0)) 24 := Row.new' rfl rfl
    have T0 := H19.there n0 rfl
    replace n0 := n0.over (vs := c19) (by rw [H19.len]; rfl)
    have lt := Row.lt ra
    replace ra := (Row.setCells_other (Row.alloc ra (Obj.cells #[Value.int IntKind.u64 0, Value.int IntKind.u64 0, Value.int IntKind.u64 0, Value.int IntKind.u64 0] 24)) V4.heap.size 0 c19 (by omega))
    clear lt
    have lt := Row.lt rb
    replace rb := (Row.setCells_other (Row.alloc rb (Obj.cells #[Value.int IntKind.u64 0, Value.int IntKind.u64 0, Value.int IntKind.u64 0, Value.int IntKind.u64 0] 24)) V4.heap.size 0 c19 (by omega))
    clear lt
    have lt := Row.lt rc
    replace rc := (Row.setCells_other (Row.alloc rc (Obj.cells #[Value.int IntKind.u64 0, Value.int IntKind.u64 0, Value.int IntKind.u64 0, Value.int IntKind.u64 0] 24)) V4.heap.size 0 c19 (by omega))
    clear lt
    have hbn : Below w.heap.size w ((V4.alloc (Obj.cells #[Value.int IntKind.u64 0, Value.int IntKind.u64 0, Value.int IntKind.u64 0, Value.int IntKind.u64 0] 24)).setCells V4.heap.size 0 c19) := (below_setCells (hb.alloc hb.size (Obj.cells #[Value.int IntKind.u64 0, Value.int IntKind.u64 0, Value.int IntKind.u64 0, Value.int IntKind.u64 0] 24)) (b := V4.heap.size) (o := 0) (by have := hb.size; omega) c19)
    replace hb := hbn
    clear hbn
    have r19 := n0
    clear n0
    go_wp2_with (first
      | (refine wpList_store_mid rfl 24 (.tmp 19) (.tmp 84) rfl V4.heap.size 0 c19.toArray rfl rfl T0 H19.info' H19.one ?_; simp only [Act.put]; clear T0; (change wpList _ _ _ _ _ ((V4.alloc (Obj.cells #[Value.int IntKind.u64 0, Value.int IntKind.u64 0, Value.int IntKind.u64 0, Value.int IntKind.u64 0] 24)).setCells V4.heap.size 0 c19)); (generalize ((V4.alloc (Obj.cells #[Value.int IntKind.u64 0, Value.int IntKind.u64 0, Value.int IntKind.u64 0, Value.int IntKind.u64 0] 24)).setCells V4.heap.size 0 c19) = X4 at *); (generalize hN0 : V4.heap.size = N19 at *; clear hN0))
      | (refine wpList_load_w rfl 24 (.tmp 4) rfl (w.heap.size + 1) 0 rfl cb _ rb.all Tryd.underlying24 rfl Hb.info ?_; simp only [Act.put, List.setIfInBounds_toArray, List.set_cons_zero, List.set_cons_succ])
      | (refine wpList_load_w rfl 24 (.tmp 3) rfl (w.heap.size) 0 rfl ca _ ra.all Tryd.underlying24 rfl Ha.info ?_; simp only [Act.put, List.setIfInBounds_toArray, List.set_cons_zero, List.set_cons_succ]))
    refine (cmp_c Hb Ha HB.out HA.out HM.out X4).mono ?_
    rintro e V5 ⟨rfl, hB⟩
    replace hb := hb.trans (hB.mono hb.size)
    replace ra := Row.below ra hB (Row.lt ra)
    replace rb := Row.below rb hB (Row.lt rb)
    replace rc := Row.below rc hB (Row.lt rc)
    replace r19 := Row.below r19 hB (Row.lt r19)
    clear hB
    go_wp2_with (refine wpList_load_w rfl 24 (.tmp 3) rfl (w.heap.size) 0 rfl ca _ ra.all Tryd.underlying24 rfl Ha.info ?_; simp only [Act.put, List.setIfInBounds_toArray, List.set_cons_zero, List.set_cons_succ])
    refine (mul_c Ha One HA.out (by decide) HO.out.1 HO.out.2 V5).mono ?_
    rintro e V6 ⟨c22, H22, rfl, hB⟩
    replace hb := hb.trans (hB.mono hb.size)
    replace ra := Row.below ra hB (Row.lt ra)
    replace rb := Row.below rb hB (Row.lt rb)
    replace rc := Row.below rc hB (Row.lt rc)
    replace r19 := Row.below r19 hB (Row.lt r19)
    clear hB
    have n0 : Row (V6.alloc (Obj.cells #[Value.int IntKind.u64 0, Value.int IntKind.u64 0, Value.int IntKind.u64 0, Value.int IntKind.u64 0] 24)) V6.heap.size (vQ (List.replicate 4 0)) 24 := Row.new' rfl rfl
    have T0 := H22.there n0 rfl
    replace n0 := n0.over (vs := c22) (by rw [H22.len]; rfl)
    have lt := Row.lt ra
    replace ra := (Row.setCells_other (Row.alloc ra (Obj.cells #[Value.int IntKind.u64 0, Value.int IntKind.u64 0, Value.int IntKind.u64 0, Value.int IntKind.u64 0] 24)) V6.heap.size 0 c22 (by omega))
    clear lt
    have lt := Row.lt rb
    replace rb := (Row.setCells_other (Row.alloc rb (Obj.cells #[Value.int IntKind.u64 0, Value.int IntKind.u64 0, Value.int IntKind.u64 0, Value.int IntKind.u64 0] 24)) V6.heap.size 0 c22 (by omega))
    clear lt
    have lt := Row.lt rc
    replace rc := (Row.setCells_other (Row.alloc rc (Obj.cells #[Value.int IntKind.u64 0, Value.int IntKind.u64 0, Value.int IntKind.u64 0, Value.int IntKind.u64 0] 24)) V6.heap.size 0 c22 (by omega))
    clear lt
    have lt := Row.lt r19
    replace r19 := (Row.setCells_other (Row.alloc r19 (Obj.cells #[Value.int IntKind.u64 0, Value.int IntKind.u64 0, Value.int IntKind.u64 0, Value.int IntKind.u64 0] 24)) V6.heap.size 0 c22 (by omega))
    clear lt
    have hbn : Below w.heap.size w ((V6.alloc (Obj.cells #[Value.int IntKind.u64 0, Value.int IntKind.u64 0, Value.int IntKind.u64 0, Value.int IntKind.u64 0] 24)).setCells V6.heap.size 0 c22) := (below_setCells (hb.alloc hb.size (Obj.cells #[Value.int IntKind.u64 0, Value.int IntKind.u64 0, Value.int IntKind.u64 0, Value.int IntKind.u64 0] 24)) (b := V6.heap.size) (o := 0) (by have := hb.size; omega) c22)
    replace hb := hbn
    clear hbn
    have r22 := n0
    clear n0
    go_wp2_with (first
      | (refine wpList_store_mid rfl 24 (.tmp 22) (.tmp 93) rfl V6.heap.size 0 c22.toArray rfl rfl T0 H22.info' H22.one ?_; simp only [Act.put]; clear T0; (change wpList _ _ _ _ _ ((V6.alloc (Obj.cells #[Value.int IntKind.u64 0, Value.int IntKind.u64 0, Value.int IntKind.u64 0, Value.int IntKind.u64 0] 24)).setCells V6.heap.size 0 c22)); (generalize ((V6.alloc (Obj.cells #[Value.int IntKind.u64 0, Value.int IntKind.u64 0, Value.int IntKind.u64 0, Value.int IntKind.u64 0] 24)).setCells V6.heap.size 0 c22) = X6 at *); (generalize hN0 : V6.heap.size = N22 at *; clear hN0))
      | (refine wpList_load_w rfl 24 (.tmp 3) rfl (w.heap.size) 0 rfl ca _ ra.all Tryd.underlying24 rfl Ha.info ?_; simp only [Act.put, List.setIfInBounds_toArray, List.set_cons_zero, List.set_cons_succ]))
    refine (mul_c Ha Wc.zero HA.out (by decide) HZ.out.1 HZ.out.2 X6).mono ?_
    rintro e V7 ⟨c23, H23, rfl, hB⟩
    replace hb := hb.trans (hB.mono hb.size)
    replace ra := Row.below ra hB (Row.lt ra)
    replace rb := Row.below rb hB (Row.lt rb)
    replace rc := Row.below rc hB (Row.lt rc)
    replace r19 := Row.below r19 hB (Row.lt r19)
    replace r22 := Row.below r22 hB (Row.lt r22)
    clear hB
    have n0 : Row (V7.alloc (Obj.cells #[Value.int IntKind.u64 0, Value.int IntKind.u64 0, Value.int IntKind.u64 0, Value.int IntKind.u64 0] 24)) V7.heap.size (vQ (List.replicate 4 0)) 24 := Row.new' rfl rfl
    have T0 := H23.there n0 rfl
    replace n0 := n0.over (vs := c23) (by rw [H23.len]; rfl)
    have lt := Row.lt ra
    replace ra := (Row.setCells_other (Row.alloc ra (Obj.cells #[Value.int IntKind.u64 0, Value.int IntKind.u64 0, Value.int IntKind.u64 0, Value.int IntKind.u64 0] 24)) V7.heap.size 0 c23 (by omega))
    clear lt
    have lt := Row.lt rb
    replace rb := (Row.setCells_other (Row.alloc rb (Obj.cells #[Value.int IntKind.u64 0, Value.int IntKind.u64 0, Value.int IntKind.u64 0, Value.int IntKind.u64 0] 24)) V7.heap.size 0 c23 (by omega))
    clear lt
    have lt := Row.lt rc
    replace rc := (Row.setCells_other (Row.alloc rc (Obj.cells #[Value.int IntKind.u64 0, Value.int IntKind.u64 0, Value.int IntKind.u64 0, Value.int IntKind.u64 0] 24)) V7.heap.size 0 c23 (by omega))
    clear lt
    have lt := Row.lt r19
    replace r19 := (Row.setCells_other (Row.alloc r19 (Obj.cells #[Value.int IntKind.u64 0, Value.int IntKind.u64 0, Value.int IntKind.u64 0, Value.int IntKind.u64 0] 24)) V7.heap.size 0 c23 (by omega))
    clear lt
    have lt := Row.lt r22
    replace r22 := (Row.setCells_other (Row.alloc r22 (Obj.cells #[Value.int IntKind.u64 0, Value.int IntKind.u64 0, Value.int IntKind.u64 0, Value.int IntKind.u64 0] 24)) V7.heap.size 0 c23 (by omega))
    clear lt
    have hbn : Below w.heap.size w ((V7.alloc (Obj.cells #[Value.int IntKind.u64 0, Value.int IntKind.u64 0, Value.int IntKind.u64 0, Value.int IntKind.u64 0] 24)).setCells V7.heap.size 0 c23) := (below_setCells (hb.alloc hb.size (Obj.cells #[Value.int IntKind.u64 0, Value.int IntKind.u64 0, Value.int IntKind.u64 0, Value.int IntKind.u64 0] 24)) (b := V7.heap.size) (o := 0) (by have := hb.size; omega) c23)
    replace hb := hbn
    clear hbn
    have r23 := n0
    clear n0
    go_wp2_with (first
      | (refine wpList_store_mid rfl 24 (.tmp 23) (.tmp 99) rfl V7.heap.size 0 c23.toArray rfl rfl T0 H23.info' H23.one ?_; simp only [Act.put]; clear T0; (change wpList _ _ _ _ _ ((V7.alloc (Obj.cells #[Value.int IntKind.u64 0, Value.int IntKind.u64 0, Value.int IntKind.u64 0, Value.int IntKind.u64 0] 24)).setCells V7.heap.size 0 c23)); (generalize ((V7.alloc (Obj.cells #[Value.int IntKind.u64 0, Value.int IntKind.u64 0, Value.int IntKind.u64 0, Value.int IntKind.u64 0] 24)).setCells V7.heap.size 0 c23) = X7 at *); (generalize hN0 : V7.heap.size = N23 at *; clear hN0))
      | (refine wpList_load_w rfl 24 (.tmp 22) rfl N22 0 rfl c22 _ r22.all Tryd.underlying24 rfl H22.info ?_; simp only [Act.put, List.setIfInBounds_toArray, List.set_cons_zero, List.set_cons_succ])
      | (refine wpList_load_w rfl 24 (.tmp 3) rfl (w.heap.size) 0 rfl ca _ ra.all Tryd.underlying24 rfl Ha.info ?_; simp only [Act.put, List.setIfInBounds_toArray, List.set_cons_zero, List.set_cons_succ])
      | (refine wpList_load_w rfl 24 (.tmp 23) rfl N23 0 rfl c23 _ r23.all Tryd.underlying24 rfl H23.info ?_; simp only [Act.put, List.setIfInBounds_toArray, List.set_cons_zero, List.set_cons_succ])
      | (refine wpList_eql_c (B := true) rfl (.tmp 116) (.tmp 117) 24 rfl H22 Ha HA.out HA.out rfl rfl (by simp) ?_; simp only [Act.put, List.setIfInBounds_toArray, List.set_cons_zero, List.set_cons_succ])
      | (refine wpList_eql_c (B := true) rfl (.tmp 125) (.tmp 126) 24 rfl H23 Wc.zero (by decide) (by decide) rfl rfl (by decide) ?_; simp only [Act.put, List.setIfInBounds_toArray, List.set_cons_zero, List.set_cons_succ]))
    go_ret
    exact ⟨rfl, hb⟩

end Go.Proofs.YtbklegljibigjabDoor
