/-
  causewaylaw02.WideParts.
-/
import Derived.Test.YtehccmlbnfhhmaaDoorWKnown
import Derived.Test.YtehccmlbnfhhmaaDoorWMdC
import Derived.Test.YtehccmlbnfhhmaaDoorWRefMd
import Derived.Test.YtehccmlbnfhhmaaDoorWRefDv
namespace Go.Proofs.YtehccmlbnfhhmaaDoor
open Go Go.RowKit
open Wd

set_option maxRecDepth 100000 in
set_option maxHeartbeats 8000000 in
theorem parts_walk (a b c : Nat) (ha : a < 2 ^ 256) (hb : b < 2 ^ 256) (hc : c < 2 ^ 256) (w : World) (hp : P10 w) :
    Calls Tryd.prog 4 #[.agg (vQ (dgs a 4)).toArray, .agg (vQ (dgs b 4)).toArray, .agg (vQ (dgs c 4)).toArray] w fun e w' => e = .returned (.bool true) ∧ Below w.heap.size w w' := by
  have HP : Hid (P10 w) := hp
  have HA : Hid (a < 2 ^ 256) := ha
  have HB : Hid (b < 2 ^ 256) := hb
  have HC : Hid (c < 2 ^ 256) := hc
  obtain ⟨q, hq⟩ : ∃ q, divQ a b = q := ⟨_, rfl⟩
  obtain ⟨r, hr⟩ : ∃ r, divR a b = r := ⟨_, rfl⟩
  obtain ⟨E, hE⟩ : ∃ E, divE b = E := ⟨_, rfl⟩
  obtain ⟨m, hm⟩ : ∃ m, mdR a b c = m := ⟨_, rfl⟩
  obtain ⟨F, hF⟩ : ∃ F, mdE a b c = F := ⟨_, rfl⟩
  have hql : q < 2 ^ 256 := by rw [← hq]; unfold divQ; split; decide; exact Nat.lt_of_le_of_lt (Nat.div_le_self a b) ha
  have hrl : r < 2 ^ 256 := by rw [← hr]; unfold divR; split; decide; exact Nat.lt_of_le_of_lt (Nat.mod_le a b) ha
  have hml : m < 2 ^ 256 := by rw [← hm]; unfold mdR; split; decide; split; assumption; decide
  have HQL : Hid (q < 2 ^ 256) := hql
  have HRL : Hid (r < 2 ^ 256) := hrl
  have HML : Hid (m < 2 ^ 256) := hml
  have HQ : Hid (divQ a b = q ∧ divR a b = r ∧ divE b = E) := ⟨hq, hr, hE⟩
  have HM : Hid (mdR a b c = m ∧ mdE a b c = F) := ⟨hm, hF⟩
  obtain ⟨ca, Ha⟩ : ∃ c, Wc c a := ⟨_, rfl⟩
  obtain ⟨cb, Hb⟩ : ∃ c, Wc c b := ⟨_, rfl⟩
  obtain ⟨cc, Hc⟩ : ∃ x, Wc x c := ⟨_, rfl⟩
  rw [← show ca = vQ (dgs a 4) from Ha, ← show cb = vQ (dgs b 4) from Hb, ← show cc = vQ (dgs c 4) from Hc]
  clear ha hb hc hp hq hr hE hm hF hql hrl hml
  have hb : Below w.heap.size w (((w.alloc (Obj.cells ca.toArray 24)).alloc (Obj.cells cb.toArray 24)).alloc (Obj.cells cc.toArray 24)) := (((Below.refl _ _).alloc (Nat.le_refl _) _).alloc (by simp) _).alloc (by simp; omega) _
  have ra : Row (((w.alloc (Obj.cells ca.toArray 24)).alloc (Obj.cells cb.toArray 24)).alloc (Obj.cells cc.toArray 24)) w.heap.size ca 24 := ((Row.new w ca _).alloc _).alloc _
  have rb : Row (((w.alloc (Obj.cells ca.toArray 24)).alloc (Obj.cells cb.toArray 24)).alloc (Obj.cells cc.toArray 24)) (w.heap.size + 1) cb 24 := (Row.new' (by simp) rfl).alloc _
  have rc : Row (((w.alloc (Obj.cells ca.toArray 24)).alloc (Obj.cells cb.toArray 24)).alloc (Obj.cells cc.toArray 24)) (w.heap.size + 2) cc 24 := Row.new' (by simp) rfl
  go_enter Tryd.func4, Tryd.ntmps4
  go_wp2_with fail
  generalize (((w.alloc (Obj.cells ca.toArray 24)).alloc (Obj.cells cb.toArray 24)).alloc (Obj.cells cc.toArray 24)) = W0 at *
  refine (known_any W0 (HP.out.below hb)).mono ?_
  rintro e V0 ⟨rfl, hB⟩
  replace hb := hb.trans (hB.mono hb.size)
  replace ra := Row.below ra hB (Row.lt ra)
  replace rb := Row.below rb hB (Row.lt rb)
  replace rc := Row.below rc hB (Row.lt rc)
  clear hB
  go_wp2_with (first
    | (refine wpList_load_w rfl 24 (.tmp 3) rfl (w.heap.size) 0 rfl ca _ ra.all Tryd.underlying24 rfl Ha.info ?_; simp only [Act.put, List.setIfInBounds_toArray, List.set_cons_zero, List.set_cons_succ])
    | (refine wpList_load_w rfl 24 (.tmp 4) rfl (w.heap.size + 1) 0 rfl cb _ rb.all Tryd.underlying24 rfl Hb.info ?_; simp only [Act.put, List.setIfInBounds_toArray, List.set_cons_zero, List.set_cons_succ]))
  refine (div_c Ha Hb HA.out HB.out HQ.out.1 HQ.out.2.1 HQ.out.2.2 V0).mono ?_
  rintro e V1 ⟨c8, c9, H8, H9, rfl, hB⟩
  replace hb := hb.trans (hB.mono hb.size)
  replace ra := Row.below ra hB (Row.lt ra)
  replace rb := Row.below rb hB (Row.lt rb)
  replace rc := Row.below rc hB (Row.lt rc)
  clear hB
  have n0 : Row ((V1.alloc (Obj.cells #[Value.int IntKind.u64 0, Value.int IntKind.u64 0, Value.int IntKind.u64 0, Value.int IntKind.u64 0] 24)).alloc (Obj.cells #[Value.int IntKind.u64 0, Value.int IntKind.u64 0, Value.int IntKind.u64 0, Value.int IntKind.u64 0] 24)) V1.heap.size (vQ (List.replicate 4 0)) 24 := (Row.new' rfl rfl).alloc _
  have n1 : Row ((V1.alloc (Obj.cells #[Value.int IntKind.u64 0, Value.int IntKind.u64 0, Value.int IntKind.u64 0, Value.int IntKind.u64 0] 24)).alloc (Obj.cells #[Value.int IntKind.u64 0, Value.int IntKind.u64 0, Value.int IntKind.u64 0, Value.int IntKind.u64 0] 24)) (V1.heap.size + 1) (vQ (List.replicate 4 0)) 24 := Row.new' (by simp) rfl
  have T0 := H8.there n0 rfl
  replace n0 := n0.over (vs := c8) (by rw [H8.len]; rfl)
  replace n1 := Row.setCells_other n1 V1.heap.size 0 c8 (by omega)
  have T1 := H9.there n1 rfl
  replace n0 := Row.setCells_other n0 (V1.heap.size + 1) 0 c9 (by omega)
  replace n1 := n1.over (vs := c9) (by rw [H9.len]; rfl)
  have lt := Row.lt ra
  replace ra := (Row.setCells_other (Row.setCells_other (Row.alloc (Row.alloc ra (Obj.cells #[Value.int IntKind.u64 0, Value.int IntKind.u64 0, Value.int IntKind.u64 0, Value.int IntKind.u64 0] 24)) (Obj.cells #[Value.int IntKind.u64 0, Value.int IntKind.u64 0, Value.int IntKind.u64 0, Value.int IntKind.u64 0] 24)) V1.heap.size 0 c8 (by omega)) (V1.heap.size + 1) 0 c9 (by omega))
  clear lt
  have lt := Row.lt rb
  replace rb := (Row.setCells_other (Row.setCells_other (Row.alloc (Row.alloc rb (Obj.cells #[Value.int IntKind.u64 0, Value.int IntKind.u64 0, Value.int IntKind.u64 0, Value.int IntKind.u64 0] 24)) (Obj.cells #[Value.int IntKind.u64 0, Value.int IntKind.u64 0, Value.int IntKind.u64 0, Value.int IntKind.u64 0] 24)) V1.heap.size 0 c8 (by omega)) (V1.heap.size + 1) 0 c9 (by omega))
  clear lt
  have lt := Row.lt rc
  replace rc := (Row.setCells_other (Row.setCells_other (Row.alloc (Row.alloc rc (Obj.cells #[Value.int IntKind.u64 0, Value.int IntKind.u64 0, Value.int IntKind.u64 0, Value.int IntKind.u64 0] 24)) (Obj.cells #[Value.int IntKind.u64 0, Value.int IntKind.u64 0, Value.int IntKind.u64 0, Value.int IntKind.u64 0] 24)) V1.heap.size 0 c8 (by omega)) (V1.heap.size + 1) 0 c9 (by omega))
  clear lt
  have hbn : Below w.heap.size w ((((V1.alloc (Obj.cells #[Value.int IntKind.u64 0, Value.int IntKind.u64 0, Value.int IntKind.u64 0, Value.int IntKind.u64 0] 24)).alloc (Obj.cells #[Value.int IntKind.u64 0, Value.int IntKind.u64 0, Value.int IntKind.u64 0, Value.int IntKind.u64 0] 24)).setCells V1.heap.size 0 c8).setCells (V1.heap.size + 1) 0 c9) := (below_setCells (below_setCells ((hb.alloc hb.size (Obj.cells #[Value.int IntKind.u64 0, Value.int IntKind.u64 0, Value.int IntKind.u64 0, Value.int IntKind.u64 0] 24)).alloc (by simp; have := hb.size; omega) (Obj.cells #[Value.int IntKind.u64 0, Value.int IntKind.u64 0, Value.int IntKind.u64 0, Value.int IntKind.u64 0] 24)) (b := V1.heap.size) (o := 0) (by have := hb.size; omega) c8) (b := V1.heap.size + 1) (o := 0) (by have := hb.size; omega) c9)
  replace hb := hbn
  clear hbn
  have r8 := n0
  have r9 := n1
  clear n0 n1
  go_wp2_with (first
    | (refine wpList_store_mid rfl 24 (.tmp 8) (.tmp 23) rfl V1.heap.size 0 c8.toArray rfl rfl T0 H8.info' H8.one ?_; simp only [Act.put])
    | (refine wpList_store_mid rfl 24 (.tmp 9) (.tmp 24) rfl (V1.heap.size + 1) 0 c9.toArray rfl rfl T1 H9.info' H9.one ?_; simp only [Act.put]; clear T0 T1; (change wpList _ _ _ _ _ ((((V1.alloc (Obj.cells #[Value.int IntKind.u64 0, Value.int IntKind.u64 0, Value.int IntKind.u64 0, Value.int IntKind.u64 0] 24)).alloc (Obj.cells #[Value.int IntKind.u64 0, Value.int IntKind.u64 0, Value.int IntKind.u64 0, Value.int IntKind.u64 0] 24)).setCells V1.heap.size 0 c8).setCells (V1.heap.size + 1) 0 c9)); (generalize ((((V1.alloc (Obj.cells #[Value.int IntKind.u64 0, Value.int IntKind.u64 0, Value.int IntKind.u64 0, Value.int IntKind.u64 0] 24)).alloc (Obj.cells #[Value.int IntKind.u64 0, Value.int IntKind.u64 0, Value.int IntKind.u64 0, Value.int IntKind.u64 0] 24)).setCells V1.heap.size 0 c8).setCells (V1.heap.size + 1) 0 c9) = X1 at *); (generalize hN1 : V1.heap.size + 1 = N9 at *; clear hN1); (generalize hN0 : V1.heap.size = N8 at *; clear hN0))
    | (refine wpList_load_w rfl 24 (.tmp 3) rfl (w.heap.size) 0 rfl ca _ ra.all Tryd.underlying24 rfl Ha.info ?_; simp only [Act.put, List.setIfInBounds_toArray, List.set_cons_zero, List.set_cons_succ])
    | (refine wpList_load_w rfl 24 (.tmp 4) rfl (w.heap.size + 1) 0 rfl cb _ rb.all Tryd.underlying24 rfl Hb.info ?_; simp only [Act.put, List.setIfInBounds_toArray, List.set_cons_zero, List.set_cons_succ]))
  refine (refDiv_c Ha Hb HA.out HB.out HQ.out.1 HQ.out.2.1 HQ.out.2.2 X1).mono ?_
  rintro e V2 ⟨c11, c12, H11, H12, rfl, hB⟩
  replace hb := hb.trans (hB.mono hb.size)
  replace ra := Row.below ra hB (Row.lt ra)
  replace rb := Row.below rb hB (Row.lt rb)
  replace rc := Row.below rc hB (Row.lt rc)
  replace r8 := Row.below r8 hB (Row.lt r8)
  replace r9 := Row.below r9 hB (Row.lt r9)
  clear hB
  have n0 : Row ((V2.alloc (Obj.cells #[Value.int IntKind.u64 0, Value.int IntKind.u64 0, Value.int IntKind.u64 0, Value.int IntKind.u64 0] 24)).alloc (Obj.cells #[Value.int IntKind.u64 0, Value.int IntKind.u64 0, Value.int IntKind.u64 0, Value.int IntKind.u64 0] 24)) V2.heap.size (vQ (List.replicate 4 0)) 24 := (Row.new' rfl rfl).alloc _
  have n1 : Row ((V2.alloc (Obj.cells #[Value.int IntKind.u64 0, Value.int IntKind.u64 0, Value.int IntKind.u64 0, Value.int IntKind.u64 0] 24)).alloc (Obj.cells #[Value.int IntKind.u64 0, Value.int IntKind.u64 0, Value.int IntKind.u64 0, Value.int IntKind.u64 0] 24)) (V2.heap.size + 1) (vQ (List.replicate 4 0)) 24 := Row.new' (by simp) rfl
  have T0 := H11.there n0 rfl
  replace n0 := n0.over (vs := c11) (by rw [H11.len]; rfl)
  replace n1 := Row.setCells_other n1 V2.heap.size 0 c11 (by omega)
  have T1 := H12.there n1 rfl
  replace n0 := Row.setCells_other n0 (V2.heap.size + 1) 0 c12 (by omega)
  replace n1 := n1.over (vs := c12) (by rw [H12.len]; rfl)
  have lt := Row.lt ra
  replace ra := (Row.setCells_other (Row.setCells_other (Row.alloc (Row.alloc ra (Obj.cells #[Value.int IntKind.u64 0, Value.int IntKind.u64 0, Value.int IntKind.u64 0, Value.int IntKind.u64 0] 24)) (Obj.cells #[Value.int IntKind.u64 0, Value.int IntKind.u64 0, Value.int IntKind.u64 0, Value.int IntKind.u64 0] 24)) V2.heap.size 0 c11 (by omega)) (V2.heap.size + 1) 0 c12 (by omega))
  clear lt
  have lt := Row.lt rb
  replace rb := (Row.setCells_other (Row.setCells_other (Row.alloc (Row.alloc rb (Obj.cells #[Value.int IntKind.u64 0, Value.int IntKind.u64 0, Value.int IntKind.u64 0, Value.int IntKind.u64 0] 24)) (Obj.cells #[Value.int IntKind.u64 0, Value.int IntKind.u64 0, Value.int IntKind.u64 0, Value.int IntKind.u64 0] 24)) V2.heap.size 0 c11 (by omega)) (V2.heap.size + 1) 0 c12 (by omega))
  clear lt
  have lt := Row.lt rc
  replace rc := (Row.setCells_other (Row.setCells_other (Row.alloc (Row.alloc rc (Obj.cells #[Value.int IntKind.u64 0, Value.int IntKind.u64 0, Value.int IntKind.u64 0, Value.int IntKind.u64 0] 24)) (Obj.cells #[Value.int IntKind.u64 0, Value.int IntKind.u64 0, Value.int IntKind.u64 0, Value.int IntKind.u64 0] 24)) V2.heap.size 0 c11 (by omega)) (V2.heap.size + 1) 0 c12 (by omega))
  clear lt
  have lt := Row.lt r8
  replace r8 := (Row.setCells_other (Row.setCells_other (Row.alloc (Row.alloc r8 (Obj.cells #[Value.int IntKind.u64 0, Value.int IntKind.u64 0, Value.int IntKind.u64 0, Value.int IntKind.u64 0] 24)) (Obj.cells #[Value.int IntKind.u64 0, Value.int IntKind.u64 0, Value.int IntKind.u64 0, Value.int IntKind.u64 0] 24)) V2.heap.size 0 c11 (by omega)) (V2.heap.size + 1) 0 c12 (by omega))
  clear lt
  have lt := Row.lt r9
  replace r9 := (Row.setCells_other (Row.setCells_other (Row.alloc (Row.alloc r9 (Obj.cells #[Value.int IntKind.u64 0, Value.int IntKind.u64 0, Value.int IntKind.u64 0, Value.int IntKind.u64 0] 24)) (Obj.cells #[Value.int IntKind.u64 0, Value.int IntKind.u64 0, Value.int IntKind.u64 0, Value.int IntKind.u64 0] 24)) V2.heap.size 0 c11 (by omega)) (V2.heap.size + 1) 0 c12 (by omega))
  clear lt
  have hbn : Below w.heap.size w ((((V2.alloc (Obj.cells #[Value.int IntKind.u64 0, Value.int IntKind.u64 0, Value.int IntKind.u64 0, Value.int IntKind.u64 0] 24)).alloc (Obj.cells #[Value.int IntKind.u64 0, Value.int IntKind.u64 0, Value.int IntKind.u64 0, Value.int IntKind.u64 0] 24)).setCells V2.heap.size 0 c11).setCells (V2.heap.size + 1) 0 c12) := (below_setCells (below_setCells ((hb.alloc hb.size (Obj.cells #[Value.int IntKind.u64 0, Value.int IntKind.u64 0, Value.int IntKind.u64 0, Value.int IntKind.u64 0] 24)).alloc (by simp; have := hb.size; omega) (Obj.cells #[Value.int IntKind.u64 0, Value.int IntKind.u64 0, Value.int IntKind.u64 0, Value.int IntKind.u64 0] 24)) (b := V2.heap.size) (o := 0) (by have := hb.size; omega) c11) (b := V2.heap.size + 1) (o := 0) (by have := hb.size; omega) c12)
  replace hb := hbn
  clear hbn
  have r11 := n0
  have r12 := n1
  clear n0 n1
  go_wp2_with (first
    | (refine wpList_store_mid rfl 24 (.tmp 11) (.tmp 30) rfl V2.heap.size 0 c11.toArray rfl rfl T0 H11.info' H11.one ?_; simp only [Act.put])
    | (refine wpList_store_mid rfl 24 (.tmp 12) (.tmp 31) rfl (V2.heap.size + 1) 0 c12.toArray rfl rfl T1 H12.info' H12.one ?_; simp only [Act.put]; clear T0 T1; (change wpList _ _ _ _ _ ((((V2.alloc (Obj.cells #[Value.int IntKind.u64 0, Value.int IntKind.u64 0, Value.int IntKind.u64 0, Value.int IntKind.u64 0] 24)).alloc (Obj.cells #[Value.int IntKind.u64 0, Value.int IntKind.u64 0, Value.int IntKind.u64 0, Value.int IntKind.u64 0] 24)).setCells V2.heap.size 0 c11).setCells (V2.heap.size + 1) 0 c12)); (generalize ((((V2.alloc (Obj.cells #[Value.int IntKind.u64 0, Value.int IntKind.u64 0, Value.int IntKind.u64 0, Value.int IntKind.u64 0] 24)).alloc (Obj.cells #[Value.int IntKind.u64 0, Value.int IntKind.u64 0, Value.int IntKind.u64 0, Value.int IntKind.u64 0] 24)).setCells V2.heap.size 0 c11).setCells (V2.heap.size + 1) 0 c12) = X2 at *); (generalize hN1 : V2.heap.size + 1 = N12 at *; clear hN1); (generalize hN0 : V2.heap.size = N11 at *; clear hN0))
    | (refine wpList_load_w rfl 24 (.tmp 3) rfl (w.heap.size) 0 rfl ca _ ra.all Tryd.underlying24 rfl Ha.info ?_; simp only [Act.put, List.setIfInBounds_toArray, List.set_cons_zero, List.set_cons_succ])
    | (refine wpList_load_w rfl 24 (.tmp 4) rfl (w.heap.size + 1) 0 rfl cb _ rb.all Tryd.underlying24 rfl Hb.info ?_; simp only [Act.put, List.setIfInBounds_toArray, List.set_cons_zero, List.set_cons_succ])
    | (refine wpList_load_w rfl 24 (.tmp 5) rfl (w.heap.size + 2) 0 rfl cc _ rc.all Tryd.underlying24 rfl Hc.info ?_; simp only [Act.put, List.setIfInBounds_toArray, List.set_cons_zero, List.set_cons_succ]))
  refine (md_c Ha Hb Hc HA.out HB.out HC.out HM.out.1 HM.out.2 X2).mono ?_
  rintro e V3 ⟨c14, H14, rfl, hB⟩
  replace hb := hb.trans (hB.mono hb.size)
  replace ra := Row.below ra hB (Row.lt ra)
  replace rb := Row.below rb hB (Row.lt rb)
  replace rc := Row.below rc hB (Row.lt rc)
  replace r8 := Row.below r8 hB (Row.lt r8)
  replace r9 := Row.below r9 hB (Row.lt r9)
  replace r11 := Row.below r11 hB (Row.lt r11)
  replace r12 := Row.below r12 hB (Row.lt r12)
  clear hB
  have n0 : Row (V3.alloc (Obj.cells #[Value.int IntKind.u64 0, Value.int IntKind.u64 0, Value.int IntKind.u64 0, Value.int IntKind.u64 0] 24)) V3.heap.size (vQ (List.replicate 4 0)) 24 := Row.new' rfl rfl
  have T0 := H14.there n0 rfl
  replace n0 := n0.over (vs := c14) (by rw [H14.len]; rfl)
  have lt := Row.lt ra
  replace ra := (Row.setCells_other (Row.alloc ra (Obj.cells #[Value.int IntKind.u64 0, Value.int IntKind.u64 0, Value.int IntKind.u64 0, Value.int IntKind.u64 0] 24)) V3.heap.size 0 c14 (by omega))
  clear lt
  have lt := Row.lt rb
  replace rb := (Row.setCells_other (Row.alloc rb (Obj.cells #[Value.int IntKind.u64 0, Value.int IntKind.u64 0, Value.int IntKind.u64 0, Value.int IntKind.u64 0] 24)) V3.heap.size 0 c14 (by omega))
  clear lt
  have lt := Row.lt rc
  replace rc := (Row.setCells_other (Row.alloc rc (Obj.cells #[Value.int IntKind.u64 0, Value.int IntKind.u64 0, Value.int IntKind.u64 0, Value.int IntKind.u64 0] 24)) V3.heap.size 0 c14 (by omega))
  clear lt
  have lt := Row.lt r8
  replace r8 := (Row.setCells_other (Row.alloc r8 (Obj.cells #[Value.int IntKind.u64 0, Value.int IntKind.u64 0, Value.int IntKind.u64 0, Value.int IntKind.u64 0] 24)) V3.heap.size 0 c14 (by omega))
  clear lt
  have lt := Row.lt r9
  replace r9 := (Row.setCells_other (Row.alloc r9 (Obj.cells #[Value.int IntKind.u64 0, Value.int IntKind.u64 0, Value.int IntKind.u64 0, Value.int IntKind.u64 0] 24)) V3.heap.size 0 c14 (by omega))
  clear lt
  have lt := Row.lt r11
  replace r11 := (Row.setCells_other (Row.alloc r11 (Obj.cells #[Value.int IntKind.u64 0, Value.int IntKind.u64 0, Value.int IntKind.u64 0, Value.int IntKind.u64 0] 24)) V3.heap.size 0 c14 (by omega))
  clear lt
  have lt := Row.lt r12
  replace r12 := (Row.setCells_other (Row.alloc r12 (Obj.cells #[Value.int IntKind.u64 0, Value.int IntKind.u64 0, Value.int IntKind.u64 0, Value.int IntKind.u64 0] 24)) V3.heap.size 0 c14 (by omega))
  clear lt
  have hbn : Below w.heap.size w ((V3.alloc (Obj.cells #[Value.int IntKind.u64 0, Value.int IntKind.u64 0, Value.int IntKind.u64 0, Value.int IntKind.u64 0] 24)).setCells V3.heap.size 0 c14) := (below_setCells (hb.alloc hb.size (Obj.cells #[Value.int IntKind.u64 0, Value.int IntKind.u64 0, Value.int IntKind.u64 0, Value.int IntKind.u64 0] 24)) (b := V3.heap.size) (o := 0) (by have := hb.size; omega) c14)
  replace hb := hbn
  clear hbn
  have r14 := n0
  clear n0
  go_wp2_with (first
    | (refine wpList_store_mid rfl 24 (.tmp 14) (.tmp 38) rfl V3.heap.size 0 c14.toArray rfl rfl T0 H14.info' H14.one ?_; simp only [Act.put]; clear T0; (change wpList _ _ _ _ _ ((V3.alloc (Obj.cells #[Value.int IntKind.u64 0, Value.int IntKind.u64 0, Value.int IntKind.u64 0, Value.int IntKind.u64 0] 24)).setCells V3.heap.size 0 c14)); (generalize ((V3.alloc (Obj.cells #[Value.int IntKind.u64 0, Value.int IntKind.u64 0, Value.int IntKind.u64 0, Value.int IntKind.u64 0] 24)).setCells V3.heap.size 0 c14) = X3 at *); (generalize hN0 : V3.heap.size = N14 at *; clear hN0))
    | (refine wpList_load_w rfl 24 (.tmp 3) rfl (w.heap.size) 0 rfl ca _ ra.all Tryd.underlying24 rfl Ha.info ?_; simp only [Act.put, List.setIfInBounds_toArray, List.set_cons_zero, List.set_cons_succ])
    | (refine wpList_load_w rfl 24 (.tmp 4) rfl (w.heap.size + 1) 0 rfl cb _ rb.all Tryd.underlying24 rfl Hb.info ?_; simp only [Act.put, List.setIfInBounds_toArray, List.set_cons_zero, List.set_cons_succ])
    | (refine wpList_load_w rfl 24 (.tmp 5) rfl (w.heap.size + 2) 0 rfl cc _ rc.all Tryd.underlying24 rfl Hc.info ?_; simp only [Act.put, List.setIfInBounds_toArray, List.set_cons_zero, List.set_cons_succ]))
  refine (refMd_c Ha Hb Hc HA.out HB.out HC.out HM.out.1 HM.out.2 X3).mono ?_
  rintro e V4 ⟨c16, H16, rfl, hB⟩
  replace hb := hb.trans (hB.mono hb.size)
  replace ra := Row.below ra hB (Row.lt ra)
  replace rb := Row.below rb hB (Row.lt rb)
  replace rc := Row.below rc hB (Row.lt rc)
  replace r8 := Row.below r8 hB (Row.lt r8)
  replace r9 := Row.below r9 hB (Row.lt r9)
  replace r11 := Row.below r11 hB (Row.lt r11)
  replace r12 := Row.below r12 hB (Row.lt r12)
  replace r14 := Row.below r14 hB (Row.lt r14)
  clear hB
  have n0 : Row (V4.alloc (Obj.cells #[Value.int IntKind.u64 0, Value.int IntKind.u64 0, Value.int IntKind.u64 0, Value.int IntKind.u64 0] 24)) V4.heap.size (vQ (List.replicate 4 0)) 24 := Row.new' rfl rfl
  have T0 := H16.there n0 rfl
  replace n0 := n0.over (vs := c16) (by rw [H16.len]; rfl)
  have lt := Row.lt ra
  replace ra := (Row.setCells_other (Row.alloc ra (Obj.cells #[Value.int IntKind.u64 0, Value.int IntKind.u64 0, Value.int IntKind.u64 0, Value.int IntKind.u64 0] 24)) V4.heap.size 0 c16 (by omega))
  clear lt
  have lt := Row.lt rb
  replace rb := (Row.setCells_other (Row.alloc rb (Obj.cells #[Value.int IntKind.u64 0, Value.int IntKind.u64 0, Value.int IntKind.u64 0, Value.int IntKind.u64 0] 24)) V4.heap.size 0 c16 (by omega))
  clear lt
  have lt := Row.lt rc
  replace rc := (Row.setCells_other (Row.alloc rc (Obj.cells #[Value.int IntKind.u64 0, Value.int IntKind.u64 0, Value.int IntKind.u64 0, Value.int IntKind.u64 0] 24)) V4.heap.size 0 c16 (by omega))
  clear lt
  have lt := Row.lt r8
  replace r8 := (Row.setCells_other (Row.alloc r8 (Obj.cells #[Value.int IntKind.u64 0, Value.int IntKind.u64 0, Value.int IntKind.u64 0, Value.int IntKind.u64 0] 24)) V4.heap.size 0 c16 (by omega))
  clear lt
  have lt := Row.lt r9
  replace r9 := (Row.setCells_other (Row.alloc r9 (Obj.cells #[Value.int IntKind.u64 0, Value.int IntKind.u64 0, Value.int IntKind.u64 0, Value.int IntKind.u64 0] 24)) V4.heap.size 0 c16 (by omega))
  clear lt
  have lt := Row.lt r11
  replace r11 := (Row.setCells_other (Row.alloc r11 (Obj.cells #[Value.int IntKind.u64 0, Value.int IntKind.u64 0, Value.int IntKind.u64 0, Value.int IntKind.u64 0] 24)) V4.heap.size 0 c16 (by omega))
  clear lt
  have lt := Row.lt r12
  replace r12 := (Row.setCells_other (Row.alloc r12 (Obj.cells #[Value.int IntKind.u64 0, Value.int IntKind.u64 0, Value.int IntKind.u64 0, Value.int IntKind.u64 0] 24)) V4.heap.size 0 c16 (by omega))
  clear lt
  have lt := Row.lt r14
  replace r14 := (Row.setCells_other (Row.alloc r14 (Obj.cells #[Value.int IntKind.u64 0, Value.int IntKind.u64 0, Value.int IntKind.u64 0, Value.int IntKind.u64 0] 24)) V4.heap.size 0 c16 (by omega))
  clear lt
  have hbn : Below w.heap.size w ((V4.alloc (Obj.cells #[Value.int IntKind.u64 0, Value.int IntKind.u64 0, Value.int IntKind.u64 0, Value.int IntKind.u64 0] 24)).setCells V4.heap.size 0 c16) := (below_setCells (hb.alloc hb.size (Obj.cells #[Value.int IntKind.u64 0, Value.int IntKind.u64 0, Value.int IntKind.u64 0, Value.int IntKind.u64 0] 24)) (b := V4.heap.size) (o := 0) (by have := hb.size; omega) c16)
  replace hb := hbn
  clear hbn
  have r16 := n0
  clear n0
  go_wp2_with (first
    | (refine wpList_store_mid rfl 24 (.tmp 16) (.tmp 45) rfl V4.heap.size 0 c16.toArray rfl rfl T0 H16.info' H16.one ?_; simp only [Act.put]; clear T0; (change wpList _ _ _ _ _ ((V4.alloc (Obj.cells #[Value.int IntKind.u64 0, Value.int IntKind.u64 0, Value.int IntKind.u64 0, Value.int IntKind.u64 0] 24)).setCells V4.heap.size 0 c16)); (generalize ((V4.alloc (Obj.cells #[Value.int IntKind.u64 0, Value.int IntKind.u64 0, Value.int IntKind.u64 0, Value.int IntKind.u64 0] 24)).setCells V4.heap.size 0 c16) = X4 at *); (generalize hN0 : V4.heap.size = N16 at *; clear hN0))
    | (refine wpList_load_w rfl 24 (.tmp 8) rfl N8 0 rfl c8 _ r8.all Tryd.underlying24 rfl H8.info ?_; simp only [Act.put, List.setIfInBounds_toArray, List.set_cons_zero, List.set_cons_succ])
    | (refine wpList_load_w rfl 24 (.tmp 9) rfl N9 0 rfl c9 _ r9.all Tryd.underlying24 rfl H9.info ?_; simp only [Act.put, List.setIfInBounds_toArray, List.set_cons_zero, List.set_cons_succ])
    | (refine wpList_load_w rfl 24 (.tmp 11) rfl N11 0 rfl c11 _ r11.all Tryd.underlying24 rfl H11.info ?_; simp only [Act.put, List.setIfInBounds_toArray, List.set_cons_zero, List.set_cons_succ])
    | (refine wpList_load_w rfl 24 (.tmp 12) rfl N12 0 rfl c12 _ r12.all Tryd.underlying24 rfl H12.info ?_; simp only [Act.put, List.setIfInBounds_toArray, List.set_cons_zero, List.set_cons_succ])
    | (refine wpList_load_w rfl 24 (.tmp 14) rfl N14 0 rfl c14 _ r14.all Tryd.underlying24 rfl H14.info ?_; simp only [Act.put, List.setIfInBounds_toArray, List.set_cons_zero, List.set_cons_succ])
    | (refine wpList_load_w rfl 24 (.tmp 16) rfl N16 0 rfl c16 _ r16.all Tryd.underlying24 rfl H16.info ?_; simp only [Act.put, List.setIfInBounds_toArray, List.set_cons_zero, List.set_cons_succ])
    | (refine wpList_eql_c (B := true) rfl (.tmp 49) (.tmp 50) 24 rfl H8 H11 HQL.out HQL.out rfl rfl (by simp) ?_; simp only [Act.put, List.setIfInBounds_toArray, List.set_cons_zero, List.set_cons_succ])
    | (refine wpList_eql_c (B := true) rfl (.tmp 54) (.tmp 55) 24 rfl H9 H12 HRL.out HRL.out rfl rfl (by simp) ?_; simp only [Act.put, List.setIfInBounds_toArray, List.set_cons_zero, List.set_cons_succ])
    | (refine wpList_eql_c (B := true) rfl (.tmp 64) (.tmp 65) 24 rfl H14 H16 HML.out HML.out rfl rfl (by simp) ?_; simp only [Act.put, List.setIfInBounds_toArray, List.set_cons_zero, List.set_cons_succ]))
  go_ret
  exact ⟨rfl, hb⟩

end Go.Proofs.YtehccmlbnfhhmaaDoor
