/-
  causewaylaw02.known: the document's examples are as they must be.
-/
import Derived.Test.YtehccmlbnfhhmaaDoorWFr
namespace Go.Proofs.YtehccmlbnfhhmaaDoor
open Go Go.RowKit
open Wd

theorem top_k (c : List Value) (Hc : Wc c 115792089237316195423570985008687907853269984665640564039457584007913129639935) (w : World) : Calls Tryd.prog 43 #[] w fun e w' => e = .returned (.agg c.toArray) ∧ Below w.heap.size w w' :=
  (top_c w).mono (by
    rintro e w' ⟨d, Hd, rfl, hB⟩
    rw [show d = c from Hd.trans Hc.symm]
    exact ⟨rfl, hB⟩)
set_option maxRecDepth 100000 in
set_option maxHeartbeats 4000000 in
theorem known_any (w : World) (hp : P10 w) : Calls Tryd.prog 9 #[] w fun e w' => e = .returned (.bool true) ∧ Below w.heap.size w w' := by
  have HP : Hid (P10 w) := hp
  clear hp
  have A1 : Wc [.int .u64 18446744073709551615, .int .u64 0, .int .u64 0, .int .u64 0] 18446744073709551615 := rfl
  have A2 : Wc [.int .u64 1, .int .u64 0, .int .u64 0, .int .u64 0] 1 := rfl
  have A3 : Wc [.int .u64 0, .int .u64 0, .int .u64 1, .int .u64 0] 340282366920938463463374607431768211456 := rfl
  have A4 : Wc [.int .u64 17, .int .u64 0, .int .u64 0, .int .u64 0] 17 := rfl
  have A5 : Wc [.int .u64 5, .int .u64 0, .int .u64 0, .int .u64 0] 5 := rfl
  have B1 : Wc [.int .u64 0, .int .u64 1, .int .u64 0, .int .u64 0] 18446744073709551616 := rfl
  have B2 : Wc [.int .u64 18446744073709551615, .int .u64 18446744073709551615, .int .u64 0, .int .u64 0] 340282366920938463463374607431768211455 := rfl
  have B3 : Wc [.int .u64 3, .int .u64 0, .int .u64 0, .int .u64 0] 3 := rfl
  have B4 : Wc [.int .u64 2, .int .u64 0, .int .u64 0, .int .u64 0] 2 := rfl
  have HADD : Hid (∀ w, _) := add_c A1 A2 (by decide) (by decide) (r := 18446744073709551616) (E := 0) (by decide) (by decide)
  have HSUB : Hid (∀ w, _) := sub_c A3 A2 (by decide) (by decide) (r := 340282366920938463463374607431768211455) (E := 0) (by decide) (by decide)
  have HDIV : Hid (∀ w, _) := div_c A4 A5 (by decide) (by decide) (q := 3) (r := 2) (E := 0) (by decide) (by decide) (by decide)
  have hb : Below w.heap.size w w := Below.refl _ _
  go_enter Tryd.func9, Tryd.ntmps9
  go_wp2_with fail
  refine (HADD.out w).mono ?_
  rintro e V0 ⟨c1, H1, rfl, hB⟩
  replace hb := hb.trans (hB.mono hb.size)
  clear hB
  have n0 : Row (V0.alloc (Obj.cells #[Value.int IntKind.u64 0, Value.int IntKind.u64 0, Value.int IntKind.u64 0, Value.int IntKind.u64 0] 24)) V0.heap.size (vQ (List.replicate 4 0)) 24 := Row.new' rfl rfl
  have T0 := H1.there n0 rfl
  replace n0 := n0.over (vs := c1) (by rw [H1.len]; rfl)
  have hbn : Below w.heap.size w ((V0.alloc (Obj.cells #[Value.int IntKind.u64 0, Value.int IntKind.u64 0, Value.int IntKind.u64 0, Value.int IntKind.u64 0] 24)).setCells V0.heap.size 0 c1) := (below_setCells (hb.alloc hb.size (Obj.cells #[Value.int IntKind.u64 0, Value.int IntKind.u64 0, Value.int IntKind.u64 0, Value.int IntKind.u64 0] 24)) (b := V0.heap.size) (o := 0) (by have := hb.size; omega) c1)
  replace hb := hbn
  clear hbn
  have r1 := n0
  clear n0
  go_wp2_with (refine wpList_store_mid rfl 24 (.tmp 1) (.tmp 16) rfl V0.heap.size 0 c1.toArray rfl rfl T0 H1.info' H1.one ?_; simp only [Act.put]; clear T0; (change wpList _ _ _ _ _ ((V0.alloc (Obj.cells #[Value.int IntKind.u64 0, Value.int IntKind.u64 0, Value.int IntKind.u64 0, Value.int IntKind.u64 0] 24)).setCells V0.heap.size 0 c1)); (generalize ((V0.alloc (Obj.cells #[Value.int IntKind.u64 0, Value.int IntKind.u64 0, Value.int IntKind.u64 0, Value.int IntKind.u64 0] 24)).setCells V0.heap.size 0 c1) = X0 at *); (generalize hN0 : V0.heap.size = N1 at *; clear hN0))
  refine (HSUB.out X0).mono ?_
  rintro e V1 ⟨c3, H3, rfl, hB⟩
  replace hb := hb.trans (hB.mono hb.size)
  replace r1 := Row.below r1 hB (Row.lt r1)
  clear hB
  have n0 : Row (V1.alloc (Obj.cells #[Value.int IntKind.u64 0, Value.int IntKind.u64 0, Value.int IntKind.u64 0, Value.int IntKind.u64 0] 24)) V1.heap.size (vQ (List.replicate 4 0)) 24 := Row.new' rfl rfl
  have T0 := H3.there n0 rfl
  replace n0 := n0.over (vs := c3) (by rw [H3.len]; rfl)
  have lt := Row.lt r1
  replace r1 := (Row.setCells_other (Row.alloc r1 (Obj.cells #[Value.int IntKind.u64 0, Value.int IntKind.u64 0, Value.int IntKind.u64 0, Value.int IntKind.u64 0] 24)) V1.heap.size 0 c3 (by omega))
  clear lt
  have hbn : Below w.heap.size w ((V1.alloc (Obj.cells #[Value.int IntKind.u64 0, Value.int IntKind.u64 0, Value.int IntKind.u64 0, Value.int IntKind.u64 0] 24)).setCells V1.heap.size 0 c3) := (below_setCells (hb.alloc hb.size (Obj.cells #[Value.int IntKind.u64 0, Value.int IntKind.u64 0, Value.int IntKind.u64 0, Value.int IntKind.u64 0] 24)) (b := V1.heap.size) (o := 0) (by have := hb.size; omega) c3)
  replace hb := hbn
  clear hbn
  have r3 := n0
  clear n0
  go_wp2_with (refine wpList_store_mid rfl 24 (.tmp 3) (.tmp 22) rfl V1.heap.size 0 c3.toArray rfl rfl T0 H3.info' H3.one ?_; simp only [Act.put]; clear T0; (change wpList _ _ _ _ _ ((V1.alloc (Obj.cells #[Value.int IntKind.u64 0, Value.int IntKind.u64 0, Value.int IntKind.u64 0, Value.int IntKind.u64 0] 24)).setCells V1.heap.size 0 c3)); (generalize ((V1.alloc (Obj.cells #[Value.int IntKind.u64 0, Value.int IntKind.u64 0, Value.int IntKind.u64 0, Value.int IntKind.u64 0] 24)).setCells V1.heap.size 0 c3) = X1 at *); (generalize hN0 : V1.heap.size = N3 at *; clear hN0))
  refine (HDIV.out X1).mono ?_
  rintro e V2 ⟨c5, c6, H5, H6, rfl, hB⟩
  replace hb := hb.trans (hB.mono hb.size)
  replace r1 := Row.below r1 hB (Row.lt r1)
  replace r3 := Row.below r3 hB (Row.lt r3)
  clear hB
  have n0 : Row ((V2.alloc (Obj.cells #[Value.int IntKind.u64 0, Value.int IntKind.u64 0, Value.int IntKind.u64 0, Value.int IntKind.u64 0] 24)).alloc (Obj.cells #[Value.int IntKind.u64 0, Value.int IntKind.u64 0, Value.int IntKind.u64 0, Value.int IntKind.u64 0] 24)) V2.heap.size (vQ (List.replicate 4 0)) 24 := (Row.new' rfl rfl).alloc _
  have n1 : Row ((V2.alloc (Obj.cells #[Value.int IntKind.u64 0, Value.int IntKind.u64 0, Value.int IntKind.u64 0, Value.int IntKind.u64 0] 24)).alloc (Obj.cells #[Value.int IntKind.u64 0, Value.int IntKind.u64 0, Value.int IntKind.u64 0, Value.int IntKind.u64 0] 24)) (V2.heap.size + 1) (vQ (List.replicate 4 0)) 24 := Row.new' (by simp) rfl
  have T0 := H5.there n0 rfl
  replace n0 := n0.over (vs := c5) (by rw [H5.len]; rfl)
  replace n1 := Row.setCells_other n1 V2.heap.size 0 c5 (by omega)
  have T1 := H6.there n1 rfl
  replace n0 := Row.setCells_other n0 (V2.heap.size + 1) 0 c6 (by omega)
  replace n1 := n1.over (vs := c6) (by rw [H6.len]; rfl)
  have lt := Row.lt r1
  replace r1 := (Row.setCells_other (Row.setCells_other (Row.alloc (Row.alloc r1 (Obj.cells #[Value.int IntKind.u64 0, Value.int IntKind.u64 0, Value.int IntKind.u64 0, Value.int IntKind.u64 0] 24)) (Obj.cells #[Value.int IntKind.u64 0, Value.int IntKind.u64 0, Value.int IntKind.u64 0, Value.int IntKind.u64 0] 24)) V2.heap.size 0 c5 (by omega)) (V2.heap.size + 1) 0 c6 (by omega))
  clear lt
  have lt := Row.lt r3
  replace r3 := (Row.setCells_other (Row.setCells_other (Row.alloc (Row.alloc r3 (Obj.cells #[Value.int IntKind.u64 0, Value.int IntKind.u64 0, Value.int IntKind.u64 0, Value.int IntKind.u64 0] 24)) (Obj.cells #[Value.int IntKind.u64 0, Value.int IntKind.u64 0, Value.int IntKind.u64 0, Value.int IntKind.u64 0] 24)) V2.heap.size 0 c5 (by omega)) (V2.heap.size + 1) 0 c6 (by omega))
  clear lt
  have hbn : Below w.heap.size w ((((V2.alloc (Obj.cells #[Value.int IntKind.u64 0, Value.int IntKind.u64 0, Value.int IntKind.u64 0, Value.int IntKind.u64 0] 24)).alloc (Obj.cells #[Value.int IntKind.u64 0, Value.int IntKind.u64 0, Value.int IntKind.u64 0, Value.int IntKind.u64 0] 24)).setCells V2.heap.size 0 c5).setCells (V2.heap.size + 1) 0 c6) := (below_setCells (below_setCells ((hb.alloc hb.size (Obj.cells #[Value.int IntKind.u64 0, Value.int IntKind.u64 0, Value.int IntKind.u64 0, Value.int IntKind.u64 0] 24)).alloc (by simp; have := hb.size; omega) (Obj.cells #[Value.int IntKind.u64 0, Value.int IntKind.u64 0, Value.int IntKind.u64 0, Value.int IntKind.u64 0] 24)) (b := V2.heap.size) (o := 0) (by have := hb.size; omega) c5) (b := V2.heap.size + 1) (o := 0) (by have := hb.size; omega) c6)
  replace hb := hbn
  clear hbn
  have r5 := n0
  have r6 := n1
  clear n0 n1
  go_wp2_with (first
    | (refine wpList_store_mid rfl 24 (.tmp 5) (.tmp 28) rfl V2.heap.size 0 c5.toArray rfl rfl T0 H5.info' H5.one ?_; simp only [Act.put])
    | (refine wpList_store_mid rfl 24 (.tmp 6) (.tmp 29) rfl (V2.heap.size + 1) 0 c6.toArray rfl rfl T1 H6.info' H6.one ?_; simp only [Act.put]; clear T0 T1; (change wpList _ _ _ _ _ ((((V2.alloc (Obj.cells #[Value.int IntKind.u64 0, Value.int IntKind.u64 0, Value.int IntKind.u64 0, Value.int IntKind.u64 0] 24)).alloc (Obj.cells #[Value.int IntKind.u64 0, Value.int IntKind.u64 0, Value.int IntKind.u64 0, Value.int IntKind.u64 0] 24)).setCells V2.heap.size 0 c5).setCells (V2.heap.size + 1) 0 c6)); (generalize ((((V2.alloc (Obj.cells #[Value.int IntKind.u64 0, Value.int IntKind.u64 0, Value.int IntKind.u64 0, Value.int IntKind.u64 0] 24)).alloc (Obj.cells #[Value.int IntKind.u64 0, Value.int IntKind.u64 0, Value.int IntKind.u64 0, Value.int IntKind.u64 0] 24)).setCells V2.heap.size 0 c5).setCells (V2.heap.size + 1) 0 c6) = X2 at *); (generalize hN1 : V2.heap.size + 1 = N6 at *; clear hN1); (generalize hN0 : V2.heap.size = N5 at *; clear hN0)))
  refine (top_c X2).mono ?_
  rintro e V3 ⟨ct, Ht, rfl, hB⟩
  replace hb := hb.trans (hB.mono hb.size)
  replace r1 := Row.below r1 hB (Row.lt r1)
  replace r3 := Row.below r3 hB (Row.lt r3)
  replace r5 := Row.below r5 hB (Row.lt r5)
  replace r6 := Row.below r6 hB (Row.lt r6)
  clear hB
  go_wp2_with fail
  have HTX := text_c Ht (by decide) dec_top V3 (HP.out.below hb)
  refine HTX.mono ?_
  rintro e V4 ⟨rfl, hB⟩
  clear HTX
  replace hb := hb.trans (hB.mono hb.size)
  replace r1 := Row.below r1 hB (Row.lt r1)
  replace r3 := Row.below r3 hB (Row.lt r3)
  replace r5 := Row.below r5 hB (Row.lt r5)
  replace r6 := Row.below r6 hB (Row.lt r6)
  clear hB
  go_wp2_with fail
  refine (parse_top_c _ rfl V4).mono ?_
  rintro e V5 ⟨c9, H9, rfl, hB⟩
  replace hb := hb.trans (hB.mono hb.size)
  replace r1 := Row.below r1 hB (Row.lt r1)
  replace r3 := Row.below r3 hB (Row.lt r3)
  replace r5 := Row.below r5 hB (Row.lt r5)
  replace r6 := Row.below r6 hB (Row.lt r6)
  clear hB
  have n0 : Row (V5.alloc (Obj.cells #[Value.int IntKind.u64 0, Value.int IntKind.u64 0, Value.int IntKind.u64 0, Value.int IntKind.u64 0] 24)) V5.heap.size (vQ (List.replicate 4 0)) 24 := Row.new' rfl rfl
  have T0 := H9.there n0 rfl
  replace n0 := n0.over (vs := c9) (by rw [H9.len]; rfl)
  have lt := Row.lt r1
  replace r1 := (Row.setCells_other (Row.alloc r1 (Obj.cells #[Value.int IntKind.u64 0, Value.int IntKind.u64 0, Value.int IntKind.u64 0, Value.int IntKind.u64 0] 24)) V5.heap.size 0 c9 (by omega))
  clear lt
  have lt := Row.lt r3
  replace r3 := (Row.setCells_other (Row.alloc r3 (Obj.cells #[Value.int IntKind.u64 0, Value.int IntKind.u64 0, Value.int IntKind.u64 0, Value.int IntKind.u64 0] 24)) V5.heap.size 0 c9 (by omega))
  clear lt
  have lt := Row.lt r5
  replace r5 := (Row.setCells_other (Row.alloc r5 (Obj.cells #[Value.int IntKind.u64 0, Value.int IntKind.u64 0, Value.int IntKind.u64 0, Value.int IntKind.u64 0] 24)) V5.heap.size 0 c9 (by omega))
  clear lt
  have lt := Row.lt r6
  replace r6 := (Row.setCells_other (Row.alloc r6 (Obj.cells #[Value.int IntKind.u64 0, Value.int IntKind.u64 0, Value.int IntKind.u64 0, Value.int IntKind.u64 0] 24)) V5.heap.size 0 c9 (by omega))
  clear lt
  have hbn : Below w.heap.size w ((V5.alloc (Obj.cells #[Value.int IntKind.u64 0, Value.int IntKind.u64 0, Value.int IntKind.u64 0, Value.int IntKind.u64 0] 24)).setCells V5.heap.size 0 c9) := (below_setCells (hb.alloc hb.size (Obj.cells #[Value.int IntKind.u64 0, Value.int IntKind.u64 0, Value.int IntKind.u64 0, Value.int IntKind.u64 0] 24)) (b := V5.heap.size) (o := 0) (by have := hb.size; omega) c9)
  replace hb := hbn
  clear hbn
  have r9 := n0
  clear n0
  go_wp2_with (first
    | (refine wpList_store_mid rfl 24 (.tmp 9) (.tmp 35) rfl V5.heap.size 0 c9.toArray rfl rfl T0 H9.info' H9.one ?_; simp only [Act.put]; clear T0; (change wpList _ _ _ _ _ ((V5.alloc (Obj.cells #[Value.int IntKind.u64 0, Value.int IntKind.u64 0, Value.int IntKind.u64 0, Value.int IntKind.u64 0] 24)).setCells V5.heap.size 0 c9)); (generalize ((V5.alloc (Obj.cells #[Value.int IntKind.u64 0, Value.int IntKind.u64 0, Value.int IntKind.u64 0, Value.int IntKind.u64 0] 24)).setCells V5.heap.size 0 c9) = X5 at *); (generalize hN0 : V5.heap.size = N9 at *; clear hN0))
    | (refine wpList_load_w rfl 24 (.tmp 1) rfl N1 0 rfl c1 _ r1.all Tryd.underlying24 rfl H1.info ?_; simp only [Act.put, List.setIfInBounds_toArray, List.set_cons_zero, List.set_cons_succ])
    | (refine wpList_load_w rfl 24 (.tmp 3) rfl N3 0 rfl c3 _ r3.all Tryd.underlying24 rfl H3.info ?_; simp only [Act.put, List.setIfInBounds_toArray, List.set_cons_zero, List.set_cons_succ])
    | (refine wpList_load_w rfl 24 (.tmp 5) rfl N5 0 rfl c5 _ r5.all Tryd.underlying24 rfl H5.info ?_; simp only [Act.put, List.setIfInBounds_toArray, List.set_cons_zero, List.set_cons_succ])
    | (refine wpList_load_w rfl 24 (.tmp 6) rfl N6 0 rfl c6 _ r6.all Tryd.underlying24 rfl H6.info ?_; simp only [Act.put, List.setIfInBounds_toArray, List.set_cons_zero, List.set_cons_succ])
    | (refine wpList_eql_c (B := true) rfl (.tmp 37) (.tmp 38) 24 rfl H1 B1 (by decide) (by decide) rfl rfl (by decide) ?_; simp only [Act.put, List.setIfInBounds_toArray, List.set_cons_zero, List.set_cons_succ])
    | (refine wpList_eql_c (B := true) rfl (.tmp 41) (.tmp 42) 24 rfl H3 B2 (by decide) (by decide) rfl rfl (by decide) ?_; simp only [Act.put, List.setIfInBounds_toArray, List.set_cons_zero, List.set_cons_succ])
    | (refine wpList_eql_c (B := true) rfl (.tmp 46) (.tmp 47) 24 rfl H5 B3 (by decide) (by decide) rfl rfl (by decide) ?_; simp only [Act.put, List.setIfInBounds_toArray, List.set_cons_zero, List.set_cons_succ])
    | (refine wpList_eql_c (B := true) rfl (.tmp 51) (.tmp 52) 24 rfl H6 B4 (by decide) (by decide) rfl rfl (by decide) ?_; simp only [Act.put, List.setIfInBounds_toArray, List.set_cons_zero, List.set_cons_succ]))
  clear r1 r3 r5 r6 A1 A2 A3 A4 A5 B1 B2 B3 B4 HADD HSUB HDIV H1 H3 H5 H6
  refine wp_named fun a0 ha0 => ?_
  have hsz : a0.tmps.size = 81 := by rw [ha0]; rfl
  have hdf : a0.defers = [] := by rw [ha0]
  have s11 : a0.eval (.tmp 11) = .bool true := by rw [ha0]; rfl
  have s2 : a0.eval (.tmp 2) = .int .i64 0 := by rw [ha0]; rfl
  have s4 : a0.eval (.tmp 4) = .int .i64 0 := by rw [ha0]; rfl
  have s7 : a0.eval (.tmp 7) = .int .i64 0 := by rw [ha0]; rfl
  have s10 : a0.eval (.tmp 10) = .int .i64 0 := by rw [ha0]; rfl
  have s9 : a0.eval (.tmp 9) = .pointer (some ⟨N9, 0, none⟩) := by rw [ha0]; rfl
  have s8 : a0.eval (.tmp 8) = .string ⟨topDigs.toArray⟩ := by rw [ha0]; rfl
  clear ha0
  obtain ⟨D, hD⟩ : ∃ D : List (Tmp × Value), D = [(55, .bool true), (56, .bool true), (57, .int .i64 0), (58, .bool true), (59, .bool true), (60, .bool true), (61, .int .i64 0), (62, .bool true), (63, .bool true), (64, .bool true), (65, .int .i64 0), (66, .bool true), (67, .bool true), (68, .bool true), (69, .int .i64 0), (70, .bool true), (71, .bool true), (72, .bool true), (73, .agg c9.toArray), (74, .agg ct.toArray), (75, .bool true), (76, .bool true), (77, .bool true), (78, .string ⟨topDigs.toArray⟩), (79, .bool true), (80, .bool true), (0, .bool true)] := ⟨_, rfl⟩
  refine wp_region_inv (by kernel_rfl) (fun listed a W => listed.size = 27 ∧ Fr D a0 listed a ∧ Below w.heap.size w W ∧ Row W N9 c9 24) ?_ ?_ ?_
  · exact ⟨by simp, Fr.start D a0 _, Below.drew hb, Row.drew r9⟩
  · clear hb r9
    intro listed a W k hI hk
    obtain ⟨hl, hF, hb, r9⟩ := hI
    have hk1 : k < 27 := List.mem_range.1 (List.mem_filter.1 hk).1
    have hl2 : ∀ j, (listed.setIfInBounds j true).size = 27 := fun j => by rw [Array.size_setIfInBounds]; exact hl
    rcases (show k = 0 ∨ k = 1 ∨ k = 2 ∨ k = 3 ∨ k = 4 ∨ k = 5 ∨ k = 6 ∨ k = 7 ∨ k = 8 ∨ k = 9 ∨ k = 10 ∨ k = 11 ∨ k = 12 ∨ k = 13 ∨ k = 14 ∨ k = 15 ∨ k = 16 ∨ k = 17 ∨ k = 18 ∨ k = 19 ∨ k = 20 ∨ k = 21 ∨ k = 22 ∨ k = 23 ∨ k = 24 ∨ k = 25 ∨ k = 26 by omega) with rfl | rfl | rfl | rfl | rfl | rfl | rfl | rfl | rfl | rfl | rfl | rfl | rfl | rfl | rfl | rfl | rfl | rfl | rfl | rfl | rfl | rfl | rfl | rfl | rfl | rfl | rfl
    · have hk3 := hk
      exact wpOp_plain rfl rfl (wp_move_v (.bool true) rfl ((hF.keep 11 (by rw [hD]; rfl)).trans s11) ⟨hl2 0, (hF.put 0 55 (.bool true) (by rw [hD]; rfl) (by rw [hD]; rfl) (by rw [hsz]; decide)), hb, r9⟩)
    · have hk3 := hk
      exact wpOp_plain rfl rfl (wp_move_v (.bool true) rfl (hF.done 0 (55, .bool true) (by rw [hD]; rfl) (ready_dep hk 0 (by kernel_rfl))) ⟨hl2 1, (hF.put 1 56 (.bool true) (by rw [hD]; rfl) (by rw [hD]; rfl) (by rw [hsz]; decide)), hb, r9⟩)
    · have hk3 := hk
      exact wpOp_wanted rfl (wanted_g (g := 1) rfl rfl (hF.done 1 (56, .bool true) (by rw [hD]; rfl) (ready_dep hk 1 (by kernel_rfl))) (by rw [hF.size, hsz]; decide)) (wp_move_v (.int .i64 0) rfl ((hF.keep 2 (by rw [hD]; rfl)).trans s2) ⟨hl2 2, (hF.put 2 57 (.int .i64 0) (by rw [hD]; rfl) (by rw [hD]; rfl) (by rw [hsz]; decide)), hb, r9⟩)
    · have hk3 := hk
      exact wpOp_wanted rfl (wanted_g (g := 1) rfl rfl (hF.done 1 (56, .bool true) (by rw [hD]; rfl) (ready_dep hk 1 (by kernel_rfl))) (by rw [hF.size, hsz]; decide)) (wp_eqint_v (B := true) rfl (hF.done 2 (57, .int .i64 0) (by rw [hD]; rfl) (ready_dep hk 2 (by kernel_rfl))) rfl (by decide) ⟨hl2 3, (hF.put 3 58 (.bool true) (by rw [hD]; rfl) (by rw [hD]; rfl) (by rw [hsz]; decide)), hb, r9⟩)
    · have hk3 := hk
      exact wpOp_plain rfl rfl (wp_pick_v (.bool true) rfl (hF.done 1 (56, .bool true) (by rw [hD]; rfl) (ready_dep hk 1 (by kernel_rfl))) (hF.done 3 (58, .bool true) (by rw [hD]; rfl) (ready_dep hk 3 (by kernel_rfl))) ⟨hl2 4, (hF.put 4 59 (.bool true) (by rw [hD]; rfl) (by rw [hD]; rfl) (by rw [hsz]; decide)), hb, r9⟩)
    · have hk3 := hk
      exact wpOp_plain rfl rfl (wp_move_v (.bool true) rfl (hF.done 4 (59, .bool true) (by rw [hD]; rfl) (ready_dep hk 4 (by kernel_rfl))) ⟨hl2 5, (hF.put 5 60 (.bool true) (by rw [hD]; rfl) (by rw [hD]; rfl) (by rw [hsz]; decide)), hb, r9⟩)
    · have hk3 := hk
      exact wpOp_wanted rfl (wanted_g (g := 5) rfl rfl (hF.done 5 (60, .bool true) (by rw [hD]; rfl) (ready_dep hk 5 (by kernel_rfl))) (by rw [hF.size, hsz]; decide)) (wp_move_v (.int .i64 0) rfl ((hF.keep 4 (by rw [hD]; rfl)).trans s4) ⟨hl2 6, (hF.put 6 61 (.int .i64 0) (by rw [hD]; rfl) (by rw [hD]; rfl) (by rw [hsz]; decide)), hb, r9⟩)
    · have hk3 := hk
      exact wpOp_wanted rfl (wanted_g (g := 5) rfl rfl (hF.done 5 (60, .bool true) (by rw [hD]; rfl) (ready_dep hk 5 (by kernel_rfl))) (by rw [hF.size, hsz]; decide)) (wp_eqint_v (B := true) rfl (hF.done 6 (61, .int .i64 0) (by rw [hD]; rfl) (ready_dep hk 6 (by kernel_rfl))) rfl (by decide) ⟨hl2 7, (hF.put 7 62 (.bool true) (by rw [hD]; rfl) (by rw [hD]; rfl) (by rw [hsz]; decide)), hb, r9⟩)
    · have hk3 := hk
      exact wpOp_plain rfl rfl (wp_pick_v (.bool true) rfl (hF.done 5 (60, .bool true) (by rw [hD]; rfl) (ready_dep hk 5 (by kernel_rfl))) (hF.done 7 (62, .bool true) (by rw [hD]; rfl) (ready_dep hk 7 (by kernel_rfl))) ⟨hl2 8, (hF.put 8 63 (.bool true) (by rw [hD]; rfl) (by rw [hD]; rfl) (by rw [hsz]; decide)), hb, r9⟩)
    · have hk3 := hk
      exact wpOp_plain rfl rfl (wp_move_v (.bool true) rfl (hF.done 8 (63, .bool true) (by rw [hD]; rfl) (ready_dep hk 8 (by kernel_rfl))) ⟨hl2 9, (hF.put 9 64 (.bool true) (by rw [hD]; rfl) (by rw [hD]; rfl) (by rw [hsz]; decide)), hb, r9⟩)
    · have hk3 := hk
      exact wpOp_wanted rfl (wanted_g (g := 9) rfl rfl (hF.done 9 (64, .bool true) (by rw [hD]; rfl) (ready_dep hk 9 (by kernel_rfl))) (by rw [hF.size, hsz]; decide)) (wp_move_v (.int .i64 0) rfl ((hF.keep 7 (by rw [hD]; rfl)).trans s7) ⟨hl2 10, (hF.put 10 65 (.int .i64 0) (by rw [hD]; rfl) (by rw [hD]; rfl) (by rw [hsz]; decide)), hb, r9⟩)
    · have hk3 := hk
      exact wpOp_wanted rfl (wanted_g (g := 9) rfl rfl (hF.done 9 (64, .bool true) (by rw [hD]; rfl) (ready_dep hk 9 (by kernel_rfl))) (by rw [hF.size, hsz]; decide)) (wp_eqint_v (B := true) rfl (hF.done 10 (65, .int .i64 0) (by rw [hD]; rfl) (ready_dep hk 10 (by kernel_rfl))) rfl (by decide) ⟨hl2 11, (hF.put 11 66 (.bool true) (by rw [hD]; rfl) (by rw [hD]; rfl) (by rw [hsz]; decide)), hb, r9⟩)
    · have hk3 := hk
      exact wpOp_plain rfl rfl (wp_pick_v (.bool true) rfl (hF.done 9 (64, .bool true) (by rw [hD]; rfl) (ready_dep hk 9 (by kernel_rfl))) (hF.done 11 (66, .bool true) (by rw [hD]; rfl) (ready_dep hk 11 (by kernel_rfl))) ⟨hl2 12, (hF.put 12 67 (.bool true) (by rw [hD]; rfl) (by rw [hD]; rfl) (by rw [hsz]; decide)), hb, r9⟩)
    · have hk3 := hk
      exact wpOp_plain rfl rfl (wp_move_v (.bool true) rfl (hF.done 12 (67, .bool true) (by rw [hD]; rfl) (ready_dep hk 12 (by kernel_rfl))) ⟨hl2 13, (hF.put 13 68 (.bool true) (by rw [hD]; rfl) (by rw [hD]; rfl) (by rw [hsz]; decide)), hb, r9⟩)
    · have hk3 := hk
      exact wpOp_wanted rfl (wanted_g (g := 13) rfl rfl (hF.done 13 (68, .bool true) (by rw [hD]; rfl) (ready_dep hk 13 (by kernel_rfl))) (by rw [hF.size, hsz]; decide)) (wp_move_v (.int .i64 0) rfl ((hF.keep 10 (by rw [hD]; rfl)).trans s10) ⟨hl2 14, (hF.put 14 69 (.int .i64 0) (by rw [hD]; rfl) (by rw [hD]; rfl) (by rw [hsz]; decide)), hb, r9⟩)
    · have hk3 := hk
      exact wpOp_wanted rfl (wanted_g (g := 13) rfl rfl (hF.done 13 (68, .bool true) (by rw [hD]; rfl) (ready_dep hk 13 (by kernel_rfl))) (by rw [hF.size, hsz]; decide)) (wp_eqint_v (B := true) rfl (hF.done 14 (69, .int .i64 0) (by rw [hD]; rfl) (ready_dep hk 14 (by kernel_rfl))) rfl (by decide) ⟨hl2 15, (hF.put 15 70 (.bool true) (by rw [hD]; rfl) (by rw [hD]; rfl) (by rw [hsz]; decide)), hb, r9⟩)
    · have hk3 := hk
      exact wpOp_plain rfl rfl (wp_pick_v (.bool true) rfl (hF.done 13 (68, .bool true) (by rw [hD]; rfl) (ready_dep hk 13 (by kernel_rfl))) (hF.done 15 (70, .bool true) (by rw [hD]; rfl) (ready_dep hk 15 (by kernel_rfl))) ⟨hl2 16, (hF.put 16 71 (.bool true) (by rw [hD]; rfl) (by rw [hD]; rfl) (by rw [hsz]; decide)), hb, r9⟩)
    · have hk3 := hk
      exact wpOp_plain rfl rfl (wp_move_v (.bool true) rfl (hF.done 16 (71, .bool true) (by rw [hD]; rfl) (ready_dep hk 16 (by kernel_rfl))) ⟨hl2 17, (hF.put 17 72 (.bool true) (by rw [hD]; rfl) (by rw [hD]; rfl) (by rw [hsz]; decide)), hb, r9⟩)
    · have hk3 := hk
      exact wpOp_wanted rfl (wanted_g (g := 17) rfl rfl (hF.done 17 (72, .bool true) (by rw [hD]; rfl) (ready_dep hk 17 (by kernel_rfl))) (by rw [hF.size, hsz]; decide)) (wp_load_mid 24 (.tmp 9) rfl N9 0 ((hF.keep 9 (by rw [hD]; rfl)).trans s9) c9 _ r9.all Tryd.underlying24 rfl H9.info ⟨hl2 18, (hF.put 18 73 (.agg c9.toArray) (by rw [hD]; rfl) (by rw [hD]; rfl) (by rw [hsz]; decide)), hb, r9⟩)
    · have hk3 := hk
      refine wpOp_wanted rfl (wanted_g (g := 17) rfl rfl (hF.done 17 (72, .bool true) (by rw [hD]; rfl) (ready_dep hk 17 (by kernel_rfl))) (by rw [hF.size, hsz]; decide)) (wp_fcall 43 #[] (by go_simp) ((top_k ct Ht W).mono ?_))
      rintro e W2 ⟨rfl, hB⟩
      exact ⟨_, rfl, hl2 19, (hF.put 19 74 (.agg ct.toArray) (by rw [hD]; rfl) (by rw [hD]; rfl) (by rw [hsz]; decide)), hb.trans (hB.mono hb.size), Row.below r9 hB (Row.lt r9)⟩
    · have hk3 := hk
      exact wpOp_wanted rfl (wanted_g (g := 17) rfl rfl (hF.done 17 (72, .bool true) (by rw [hD]; rfl) (ready_dep hk 17 (by kernel_rfl))) (by rw [hF.size, hsz]; decide)) (wp_eql_c (B := true) (.tmp 73) (.tmp 74) _ rfl H9 Ht (by decide) (by decide) (hF.done 18 (73, .agg c9.toArray) (by rw [hD]; rfl) (ready_dep hk 18 (by kernel_rfl))) (hF.done 19 (74, .agg ct.toArray) (by rw [hD]; rfl) (ready_dep hk 19 (by kernel_rfl))) (by decide) ⟨hl2 20, (hF.put 20 75 (.bool true) (by rw [hD]; rfl) (by rw [hD]; rfl) (by rw [hsz]; decide)), hb, r9⟩)
    · have hk3 := hk
      exact wpOp_plain rfl rfl (wp_pick_v (.bool true) rfl (hF.done 17 (72, .bool true) (by rw [hD]; rfl) (ready_dep hk 17 (by kernel_rfl))) (hF.done 20 (75, .bool true) (by rw [hD]; rfl) (ready_dep hk 20 (by kernel_rfl))) ⟨hl2 21, (hF.put 21 76 (.bool true) (by rw [hD]; rfl) (by rw [hD]; rfl) (by rw [hsz]; decide)), hb, r9⟩)
    · have hk3 := hk
      exact wpOp_plain rfl rfl (wp_move_v (.bool true) rfl (hF.done 21 (76, .bool true) (by rw [hD]; rfl) (ready_dep hk 21 (by kernel_rfl))) ⟨hl2 22, (hF.put 22 77 (.bool true) (by rw [hD]; rfl) (by rw [hD]; rfl) (by rw [hsz]; decide)), hb, r9⟩)
    · have hk3 := hk
      exact wpOp_wanted rfl (wanted_g (g := 22) rfl rfl (hF.done 22 (77, .bool true) (by rw [hD]; rfl) (ready_dep hk 22 (by kernel_rfl))) (by rw [hF.size, hsz]; decide)) (wp_move_v (.string ⟨topDigs.toArray⟩) rfl ((hF.keep 8 (by rw [hD]; rfl)).trans s8) ⟨hl2 23, (hF.put 23 78 (.string ⟨topDigs.toArray⟩) (by rw [hD]; rfl) (by rw [hD]; rfl) (by rw [hsz]; decide)), hb, r9⟩)
    · have hk3 := hk
      exact wpOp_wanted rfl (wanted_g (g := 22) rfl rfl (hF.done 22 (77, .bool true) (by rw [hD]; rfl) (ready_dep hk 22 (by kernel_rfl))) (by rw [hF.size, hsz]; decide)) (wp_eqstr_v (B := true) rfl (hF.done 23 (78, .string ⟨topDigs.toArray⟩) (by rw [hD]; rfl) (ready_dep hk 23 (by kernel_rfl))) rfl (by rw [Lib.toList_data, Lib.toList_data]; decide) ⟨hl2 24, (hF.put 24 79 (.bool true) (by rw [hD]; rfl) (by rw [hD]; rfl) (by rw [hsz]; decide)), hb, r9⟩)
    · have hk3 := hk
      exact wpOp_plain rfl rfl (wp_pick_v (.bool true) rfl (hF.done 22 (77, .bool true) (by rw [hD]; rfl) (ready_dep hk 22 (by kernel_rfl))) (hF.done 24 (79, .bool true) (by rw [hD]; rfl) (ready_dep hk 24 (by kernel_rfl))) ⟨hl2 25, (hF.put 25 80 (.bool true) (by rw [hD]; rfl) (by rw [hD]; rfl) (by rw [hsz]; decide)), hb, r9⟩)
    · have hk3 := hk
      exact wpOp_plain rfl rfl (wp_assign_v (.bool true) rfl (hF.done 25 (80, .bool true) (by rw [hD]; rfl) (ready_dep hk 25 (by kernel_rfl))) ⟨hl2 26, (hF.put 26 0 (.bool true) (by rw [hD]; rfl) (by rw [hD]; rfl) (by rw [hsz]; decide)), hb, r9⟩)
  · clear hb r9
    intro listed a W hI hr
    obtain ⟨hl, hF, hb, r9⟩ := hI
    have hall := all_listed (by kernel_rfl) hl hr
    have h0 : a.eval (.tmp 0) = .bool true := hF.done 26 (0, .bool true) (by rw [hD]; rfl) (hall 26 (by decide))
    have hdf2 : a.defers = [] := hF.defers.trans hdf
    go_wp2
    have h1 : a.tmps[0]?.getD undef = .bool true := by simpa [Act.eval] using h0
    exact bodyPost_ret (v := .bool true) (by simp [results, Tryd.results9, h1]) hdf2 ⟨rfl, hb⟩

end Go.Proofs.YtehccmlbnfhhmaaDoor
