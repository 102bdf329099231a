/-
  causewaylaw02.WideOrders.
-/
import Derived.Test.YtbklegljibigjaaDoorWKnown
import Derived.Test.YtbklegljibigjaaDoorWRef
namespace Go.Proofs.YtbklegljibigjaaDoor
open Go Go.RowKit
open Wd

theorem refCmp_c {ca cb : List Value} {a b : Nat} (Ha : Wc ca a) (Hb : Wc cb b) (ha : a < 2 ^ 256) (hb : b < 2 ^ 256) {E : Int} (hE : cmpR a b = E) (w : World) : Calls Tryd.prog 21 #[.agg ca.toArray, .agg cb.toArray] w fun e w' => e = .returned (.int .i64 E) ∧ Below w.heap.size w w' := by
  subst hE; rw [Ha, Hb]
  exact refCmp_any a b ha hb w
theorem isZero_c {ca : List Value} {a : Nat} (Ha : Wc ca a) (ha : a < 2 ^ 256) {B : Bool} (hB : decide (a = 0) = B) (w : World) : Calls Tryd.prog 22 #[.agg ca.toArray] w fun e w' => e = .returned (.bool B) ∧ Below w.heap.size w w' := by
  subst hB; rw [Ha]
  exact isZero_any a ha w
theorem refIsZero_c {ca : List Value} {a : Nat} (Ha : Wc ca a) (ha : a < 2 ^ 256) {B : Bool} (hB : decide (a = 0) = B) (w : World) : Calls Tryd.prog 23 #[.agg ca.toArray] w fun e w' => e = .returned (.bool B) ∧ Below w.heap.size w w' := by
  subst hB; rw [Ha]
  exact refIsZero_any a ha w
theorem bits_c {ca : List Value} {a : Nat} (Ha : Wc ca a) {E : Int} (hE : ((bitsR a : Nat) : Int) = E) (w : World) : Calls Tryd.prog 24 #[.agg ca.toArray] w fun e w' => e = .returned (.int .i64 E) ∧ Below w.heap.size w w' := by
  subst hE; rw [Ha]
  exact bits_any a w
theorem refBits_c {ca : List Value} {a : Nat} (Ha : Wc ca a) (ha : a < 2 ^ 256) {E : Int} (hE : ((bitsR a : Nat) : Int) = E) (w : World) : Calls Tryd.prog 25 #[.agg ca.toArray] w fun e w' => e = .returned (.int .i64 E) ∧ Below w.heap.size w w' := by
  subst hE; rw [Ha, blen_bits a ha]
  exact refBits_any a ha w

set_option maxRecDepth 100000 in
set_option maxHeartbeats 8000000 in
theorem orders_walk (a b n : Nat) (ha : a < 2 ^ 256) (hb : b < 2 ^ 256) (hn : n < 18446744073709551616) (w : World) (hp : P10 w) :
    Calls Tryd.prog 5 #[.agg (vQ (dgs a 4)).toArray, .agg (vQ (dgs b 4)).toArray, .int .u64 (n : Int)] w fun e w' => e = .returned (.bool true) ∧ Below w.heap.size w w' := by
  have HP : Hid (P10 w) := hp
  have HA : Hid (a < 2 ^ 256) := ha
  have HB : Hid (b < 2 ^ 256) := hb
  have HN : Hid (n < 18446744073709551616) := hn
  have HN2 : Hid (n < 2 ^ 256) := Nat.lt_trans hn (by decide)
  have HCA : Hid (cmpR a a = 0) := if_pos rfl
  obtain ⟨C, hC⟩ : ∃ C, cmpR a b = C := ⟨_, rfl⟩
  have HC : Hid (cmpR a b = C) := hC
  obtain ⟨Z, hZ⟩ : ∃ Z, decide (a = 0) = Z := ⟨_, rfl⟩
  have HZ : Hid (decide (a = 0) = Z) := hZ
  obtain ⟨L, hL⟩ : ∃ L : Int, ((bitsR a : Nat) : Int) = L := ⟨_, rfl⟩
  have HL : Hid (((bitsR a : Nat) : Int) = L) := hL
  obtain ⟨ca, Ha⟩ : ∃ c, Wc c a := ⟨_, rfl⟩
  obtain ⟨cb, Hb⟩ : ∃ c, Wc c b := ⟨_, rfl⟩
  rw [← show ca = vQ (dgs a 4) from Ha, ← show cb = vQ (dgs b 4) from Hb]
  clear ha hb hn hp hC hZ hL
  have hb : Below w.heap.size w ((w.alloc (Obj.cells ca.toArray 24)).alloc (Obj.cells cb.toArray 24)) := ((Below.refl _ _).alloc (Nat.le_refl _) _).alloc (by simp) _
  have ra : Row ((w.alloc (Obj.cells ca.toArray 24)).alloc (Obj.cells cb.toArray 24)) w.heap.size ca 24 := (Row.new w ca _).alloc _
  have rb : Row ((w.alloc (Obj.cells ca.toArray 24)).alloc (Obj.cells cb.toArray 24)) (w.heap.size + 1) cb 24 := Row.new' (by simp) rfl
  go_enter Tryd.func5, Tryd.ntmps5
  go_wp2_with fail
  generalize ((w.alloc (Obj.cells ca.toArray 24)).alloc (Obj.cells cb.toArray 24)) = W0 at *
  refine (known_any W0 (HP.out.below hb)).mono ?_
  rintro e V0 ⟨rfl, hB⟩
  replace hb := hb.trans (hB.mono hb.size)
  replace ra := Row.below ra hB (Row.lt ra)
  replace rb := Row.below rb hB (Row.lt rb)
  clear hB
  go_wp2_with (first
    | (refine wpList_load_w rfl 24 (.tmp 3) rfl (w.heap.size) 0 rfl ca _ ra.all Tryd.underlying24 rfl Ha.info ?_; simp only [Act.put, List.setIfInBounds_toArray, List.set_cons_zero, List.set_cons_succ])
    | (refine wpList_load_w rfl 24 (.tmp 4) rfl (w.heap.size + 1) 0 rfl cb _ rb.all Tryd.underlying24 rfl Hb.info ?_; simp only [Act.put, List.setIfInBounds_toArray, List.set_cons_zero, List.set_cons_succ]))
  refine (cmp_c Ha Hb HA.out HB.out HC.out V0).mono ?_
  rintro e V1 ⟨rfl, hB⟩
  replace hb := hb.trans (hB.mono hb.size)
  replace ra := Row.below ra hB (Row.lt ra)
  replace rb := Row.below rb hB (Row.lt rb)
  clear hB
  go_wp2_with (first
    | (refine wpList_load_w rfl 24 (.tmp 3) rfl (w.heap.size) 0 rfl ca _ ra.all Tryd.underlying24 rfl Ha.info ?_; simp only [Act.put, List.setIfInBounds_toArray, List.set_cons_zero, List.set_cons_succ])
    | (refine wpList_load_w rfl 24 (.tmp 4) rfl (w.heap.size + 1) 0 rfl cb _ rb.all Tryd.underlying24 rfl Hb.info ?_; simp only [Act.put, List.setIfInBounds_toArray, List.set_cons_zero, List.set_cons_succ]))
  refine (refCmp_c Ha Hb HA.out HB.out HC.out V1).mono ?_
  rintro e V2 ⟨rfl, hB⟩
  replace hb := hb.trans (hB.mono hb.size)
  replace ra := Row.below ra hB (Row.lt ra)
  replace rb := Row.below rb hB (Row.lt rb)
  clear hB
  go_wp2_with (refine wpList_load_w rfl 24 (.tmp 3) rfl (w.heap.size) 0 rfl ca _ ra.all Tryd.underlying24 rfl Ha.info ?_; simp only [Act.put, List.setIfInBounds_toArray, List.set_cons_zero, List.set_cons_succ])
  refine (cmp_c Ha Ha HA.out HA.out HCA.out V2).mono ?_
  rintro e V3 ⟨rfl, hB⟩
  replace hb := hb.trans (hB.mono hb.size)
  replace ra := Row.below ra hB (Row.lt ra)
  replace rb := Row.below rb hB (Row.lt rb)
  clear hB
  go_wp2_with (refine wpList_load_w rfl 24 (.tmp 3) rfl (w.heap.size) 0 rfl ca _ ra.all Tryd.underlying24 rfl Ha.info ?_; simp only [Act.put, List.setIfInBounds_toArray, List.set_cons_zero, List.set_cons_succ])
  refine (isZero_c Ha HA.out HZ.out V3).mono ?_
  rintro e V4 ⟨rfl, hB⟩
  replace hb := hb.trans (hB.mono hb.size)
  replace ra := Row.below ra hB (Row.lt ra)
  replace rb := Row.below rb hB (Row.lt rb)
  clear hB
  go_wp2_with (refine wpList_load_w rfl 24 (.tmp 3) rfl (w.heap.size) 0 rfl ca _ ra.all Tryd.underlying24 rfl Ha.info ?_; simp only [Act.put, List.setIfInBounds_toArray, List.set_cons_zero, List.set_cons_succ])
  refine (refIsZero_c Ha HA.out HZ.out V4).mono ?_
  rintro e V5 ⟨rfl, hB⟩
  replace hb := hb.trans (hB.mono hb.size)
  replace ra := Row.below ra hB (Row.lt ra)
  replace rb := Row.below rb hB (Row.lt rb)
  clear hB
  go_wp2_with (refine wpList_load_w rfl 24 (.tmp 3) rfl (w.heap.size) 0 rfl ca _ ra.all Tryd.underlying24 rfl Ha.info ?_; simp only [Act.put, List.setIfInBounds_toArray, List.set_cons_zero, List.set_cons_succ])
  refine (bits_c Ha HL.out V5).mono ?_
  rintro e V6 ⟨rfl, hB⟩
  replace hb := hb.trans (hB.mono hb.size)
  replace ra := Row.below ra hB (Row.lt ra)
  replace rb := Row.below rb hB (Row.lt rb)
  clear hB
  go_wp2_with (refine wpList_load_w rfl 24 (.tmp 3) rfl (w.heap.size) 0 rfl ca _ ra.all Tryd.underlying24 rfl Ha.info ?_; simp only [Act.put, List.setIfInBounds_toArray, List.set_cons_zero, List.set_cons_succ])
  refine (refBits_c Ha HA.out HL.out V6).mono ?_
  rintro e V7 ⟨rfl, hB⟩
  replace hb := hb.trans (hB.mono hb.size)
  replace ra := Row.below ra hB (Row.lt ra)
  replace rb := Row.below rb hB (Row.lt rb)
  clear hB
  go_wp2_with fail
  refine (of_any n HN.out V7).mono ?_
  rintro e V8 ⟨c15, H15, rfl, hB⟩
  replace hb := hb.trans (hB.mono hb.size)
  replace ra := Row.below ra hB (Row.lt ra)
  replace rb := Row.below rb hB (Row.lt rb)
  clear hB
  have n0 : Row (V8.alloc (Obj.cells #[Value.int IntKind.u64 0, Value.int IntKind.u64 0, Value.int IntKind.u64 0, Value.int IntKind.u64 0] 24)) V8.heap.size (vQ (List.replicate 4 0)) 24 := Row.new' rfl rfl
  have T0 := H15.there n0 rfl
  replace n0 := n0.over (vs := c15) (by rw [H15.len]; rfl)
  have lt := Row.lt ra
  replace ra := (Row.setCells_other (Row.alloc ra (Obj.cells #[Value.int IntKind.u64 0, Value.int IntKind.u64 0, Value.int IntKind.u64 0, Value.int IntKind.u64 0] 24)) V8.heap.size 0 c15 (by omega))
  clear lt
  have lt := Row.lt rb
  replace rb := (Row.setCells_other (Row.alloc rb (Obj.cells #[Value.int IntKind.u64 0, Value.int IntKind.u64 0, Value.int IntKind.u64 0, Value.int IntKind.u64 0] 24)) V8.heap.size 0 c15 (by omega))
  clear lt
  have hbn : Below w.heap.size w ((V8.alloc (Obj.cells #[Value.int IntKind.u64 0, Value.int IntKind.u64 0, Value.int IntKind.u64 0, Value.int IntKind.u64 0] 24)).setCells V8.heap.size 0 c15) := (below_setCells (hb.alloc hb.size (Obj.cells #[Value.int IntKind.u64 0, Value.int IntKind.u64 0, Value.int IntKind.u64 0, Value.int IntKind.u64 0] 24)) (b := V8.heap.size) (o := 0) (by have := hb.size; omega) c15)
  replace hb := hbn
  clear hbn
  have r15 := n0
  clear n0
  go_wp2_with (refine wpList_store_mid rfl 24 (.tmp 15) (.tmp 37) rfl V8.heap.size 0 c15.toArray rfl rfl T0 H15.info' H15.one ?_; simp only [Act.put]; clear T0; (change wpList _ _ _ _ _ ((V8.alloc (Obj.cells #[Value.int IntKind.u64 0, Value.int IntKind.u64 0, Value.int IntKind.u64 0, Value.int IntKind.u64 0] 24)).setCells V8.heap.size 0 c15)); (generalize ((V8.alloc (Obj.cells #[Value.int IntKind.u64 0, Value.int IntKind.u64 0, Value.int IntKind.u64 0, Value.int IntKind.u64 0] 24)).setCells V8.heap.size 0 c15) = X8 at *); (generalize hN0 : V8.heap.size = N15 at *; clear hN0))
  refine (refOf_any n HN.out X8).mono ?_
  rintro e V9 ⟨c16, H16, rfl, hB⟩
  replace hb := hb.trans (hB.mono hb.size)
  replace ra := Row.below ra hB (Row.lt ra)
  replace rb := Row.below rb hB (Row.lt rb)
  replace r15 := Row.below r15 hB (Row.lt r15)
  clear hB
  have n0 : Row (V9.alloc (Obj.cells #[Value.int IntKind.u64 0, Value.int IntKind.u64 0, Value.int IntKind.u64 0, Value.int IntKind.u64 0] 24)) V9.heap.size (vQ (List.replicate 4 0)) 24 := Row.new' rfl rfl
  have T0 := H16.there n0 rfl
  replace n0 := n0.over (vs := c16) (by rw [H16.len]; rfl)
  have lt := Row.lt ra
  replace ra := (Row.setCells_other (Row.alloc ra (Obj.cells #[Value.int IntKind.u64 0, Value.int IntKind.u64 0, Value.int IntKind.u64 0, Value.int IntKind.u64 0] 24)) V9.heap.size 0 c16 (by omega))
  clear lt
  have lt := Row.lt rb
  replace rb := (Row.setCells_other (Row.alloc rb (Obj.cells #[Value.int IntKind.u64 0, Value.int IntKind.u64 0, Value.int IntKind.u64 0, Value.int IntKind.u64 0] 24)) V9.heap.size 0 c16 (by omega))
  clear lt
  have lt := Row.lt r15
  replace r15 := (Row.setCells_other (Row.alloc r15 (Obj.cells #[Value.int IntKind.u64 0, Value.int IntKind.u64 0, Value.int IntKind.u64 0, Value.int IntKind.u64 0] 24)) V9.heap.size 0 c16 (by omega))
  clear lt
  have hbn : Below w.heap.size w ((V9.alloc (Obj.cells #[Value.int IntKind.u64 0, Value.int IntKind.u64 0, Value.int IntKind.u64 0, Value.int IntKind.u64 0] 24)).setCells V9.heap.size 0 c16) := (below_setCells (hb.alloc hb.size (Obj.cells #[Value.int IntKind.u64 0, Value.int IntKind.u64 0, Value.int IntKind.u64 0, Value.int IntKind.u64 0] 24)) (b := V9.heap.size) (o := 0) (by have := hb.size; omega) c16)
  replace hb := hbn
  clear hbn
  have r16 := n0
  clear n0
  go_wp2_with (refine wpList_store_mid rfl 24 (.tmp 16) (.tmp 39) rfl V9.heap.size 0 c16.toArray rfl rfl T0 H16.info' H16.one ?_; simp only [Act.put]; clear T0; (change wpList _ _ _ _ _ ((V9.alloc (Obj.cells #[Value.int IntKind.u64 0, Value.int IntKind.u64 0, Value.int IntKind.u64 0, Value.int IntKind.u64 0] 24)).setCells V9.heap.size 0 c16)); (generalize ((V9.alloc (Obj.cells #[Value.int IntKind.u64 0, Value.int IntKind.u64 0, Value.int IntKind.u64 0, Value.int IntKind.u64 0] 24)).setCells V9.heap.size 0 c16) = X9 at *); (generalize hN0 : V9.heap.size = N16 at *; clear hN0))
  refine (isZero_c Wc.zero (by decide) (B := true) (by decide) X9).mono ?_
  rintro e V10 ⟨rfl, hB⟩
  replace hb := hb.trans (hB.mono hb.size)
  replace ra := Row.below ra hB (Row.lt ra)
  replace rb := Row.below rb hB (Row.lt rb)
  replace r15 := Row.below r15 hB (Row.lt r15)
  replace r16 := Row.below r16 hB (Row.lt r16)
  clear hB
  go_wp2_with (first
    | (refine wpList_load_w rfl 24 (.tmp 15) rfl N15 0 rfl c15 _ r15.all Tryd.underlying24 rfl H15.info ?_; simp only [Act.put, List.setIfInBounds_toArray, List.set_cons_zero, List.set_cons_succ])
    | (refine wpList_load_w rfl 24 (.tmp 16) rfl N16 0 rfl c16 _ r16.all Tryd.underlying24 rfl H16.info ?_; simp only [Act.put, List.setIfInBounds_toArray, List.set_cons_zero, List.set_cons_succ])
    | (refine wpList_eql_c (B := true) rfl (.tmp 63) (.tmp 64) 24 rfl H15 H16 HN2.out HN2.out rfl rfl (by simp) ?_; simp only [Act.put, List.setIfInBounds_toArray, List.set_cons_zero, List.set_cons_succ]))
  go_ret
  exact ⟨rfl, hb⟩

end Go.Proofs.YtbklegljibigjaaDoor
