/-
  causewaylaw02.WideTexts.
-/
import Derived.Test.YtehccmlbnfhhmaaDoorWKnown
import Derived.Test.YtehccmlbnfhhmaaDoorWRt
import Derived.Test.YtehccmlbnfhhmaaDoorWRp
namespace Go.Proofs.YtehccmlbnfhhmaaDoor
open Go Go.RowKit
open Wd
open Go.Lib (decDigits)

theorem parse_c {s : ByteArray} {l : List Nat} (hs : StrN s l) (hn : l.length < 9223372036854775808) {r : Nat} {E : Int} (hr : ansR (parse l) = r) (hE : ansE (parse l) = E) (w : World) : Calls Tryd.prog 41 #[.string s] w fun e w' => ∃ c, Wc c r ∧ e = .returned (.tuple #[.agg c.toArray, .int .i64 E]) ∧ Below w.heap.size w w' := by
  subst hr hE
  exact (parse_any s l hs hn w).mono fun e w' h => ⟨_, rfl, h.1, h.2⟩
theorem refParse_c {s : ByteArray} {l : List Nat} (hs : StrN s l) {r : Nat} {E : Int} (hr : ansR (parse l) = r) (hE : ansE (parse l) = E) (w : World) : Calls Tryd.prog 42 #[.string s] w fun e w' => ∃ c, Wc c r ∧ e = .returned (.tuple #[.agg c.toArray, .int .i64 E]) ∧ Below w.heap.size w w' := by
  subst hr hE
  exact (refParse_any s l hs w).mono fun e w' h => ⟨_, rfl, h.1, h.2⟩

set_option maxRecDepth 100000 in
set_option maxHeartbeats 8000000 in
theorem texts_walk (a : Nat) (ha : a < 2 ^ 256) (s : ByteArray) (l : List Nat) (hs : StrN s l) (hn : l.length < 9223372036854775808) (w : World) (hp : P10 w) :
    Calls Tryd.prog 8 #[.agg (vQ (dgs a 4)).toArray, .string s] w fun e w' => e = .returned (.bool true) ∧ Below w.heap.size w w' := by
  have HP : Hid (P10 w) := hp
  have HA : Hid (a < 2 ^ 256) := ha
  have HS : Hid (StrN s l) := hs
  have HN : Hid (l.length < 9223372036854775808) := hn
  have HRT : Hid (∀ w, _) := fun w => refText_any a ha w
  obtain ⟨D, hD⟩ : ∃ D, decDigits a = D := ⟨_, rfl⟩
  have HD : Hid (decDigits a = D) := hD
  obtain ⟨r, hr⟩ : ∃ r, ansR (parse l) = r := ⟨_, rfl⟩
  obtain ⟨E, hE⟩ : ∃ E, ansE (parse l) = E := ⟨_, rfl⟩
  have hrl : r < 2 ^ 256 := by
    rw [← hr]
    cases hq : parse l with
    | none => decide
    | some m => exact (parse_back l m hq).1
  have HRL : Hid (r < 2 ^ 256) := hrl
  have HQ : Hid (ansR (parse l) = r ∧ ansE (parse l) = E) := ⟨hr, hE⟩
  obtain ⟨ca, Ha⟩ : ∃ c, Wc c a := ⟨_, rfl⟩
  rw [hD, ← show ca = vQ (dgs a 4) from Ha] at HRT
  rw [← show ca = vQ (dgs a 4) from Ha]
  clear ha hs hn hp hD hr hE hrl
  have hb : Below w.heap.size w (w.alloc (Obj.cells ca.toArray 24)) := (Below.refl _ _).alloc (Nat.le_refl _) _
  have ra : Row (w.alloc (Obj.cells ca.toArray 24)) w.heap.size ca 24 := Row.new w ca _
  go_enter Tryd.func8, Tryd.ntmps8
  go_wp2_with fail
  generalize (w.alloc (Obj.cells ca.toArray 24)) = W0 at *
  refine (known_any W0 (HP.out.below hb)).mono ?_
  rintro e V0 ⟨rfl, hB⟩
  replace hb := hb.trans (hB.mono hb.size)
  replace ra := Row.below ra hB (Row.lt ra)
  clear hB
  go_wp2_with (refine wpList_load_w rfl 24 (.tmp 2) rfl (w.heap.size) 0 rfl ca _ ra.all Tryd.underlying24 rfl Ha.info ?_; simp only [Act.put, List.setIfInBounds_toArray, List.set_cons_zero, List.set_cons_succ])
  have HTX := text_c Ha HA.out HD.out V0 (HP.out.below hb)
  refine HTX.mono ?_
  rintro e V1 ⟨rfl, hB⟩
  clear HTX
  replace hb := hb.trans (hB.mono hb.size)
  replace ra := Row.below ra hB (Row.lt ra)
  clear hB
  go_wp2_with (refine wpList_load_w rfl 24 (.tmp 2) rfl (w.heap.size) 0 rfl ca _ ra.all Tryd.underlying24 rfl Ha.info ?_; simp only [Act.put, List.setIfInBounds_toArray, List.set_cons_zero, List.set_cons_succ])
  refine (HRT.out V1).mono ?_
  rintro e V2 ⟨rfl, hB⟩
  replace hb := hb.trans (hB.mono hb.size)
  replace ra := Row.below ra hB (Row.lt ra)
  clear hB
  go_wp2_with fail
  refine (parse_c HS.out HN.out HQ.out.1 HQ.out.2 V2).mono ?_
  rintro e V3 ⟨c8, H8, rfl, hB⟩
  replace hb := hb.trans (hB.mono hb.size)
  replace ra := Row.below ra hB (Row.lt ra)
  clear hB
  have n0 : Row (V3.alloc (Obj.cells #[Value.int IntKind.u64 0, Value.int IntKind.u64 0, Value.int IntKind.u64 0, Value.int IntKind.u64 0] 24)) V3.heap.size (vQ (List.replicate 4 0)) 24 := Row.new' rfl rfl
  have T0 := H8.there n0 rfl
  replace n0 := n0.over (vs := c8) (by rw [H8.len]; rfl)
  have lt := Row.lt ra
  replace ra := (Row.setCells_other (Row.alloc ra (Obj.cells #[Value.int IntKind.u64 0, Value.int IntKind.u64 0, Value.int IntKind.u64 0, Value.int IntKind.u64 0] 24)) V3.heap.size 0 c8 (by omega))
  clear lt
  have hbn : Below w.heap.size w ((V3.alloc (Obj.cells #[Value.int IntKind.u64 0, Value.int IntKind.u64 0, Value.int IntKind.u64 0, Value.int IntKind.u64 0] 24)).setCells V3.heap.size 0 c8) := (below_setCells (hb.alloc hb.size (Obj.cells #[Value.int IntKind.u64 0, Value.int IntKind.u64 0, Value.int IntKind.u64 0, Value.int IntKind.u64 0] 24)) (b := V3.heap.size) (o := 0) (by have := hb.size; omega) c8)
  replace hb := hbn
  clear hbn
  have r8 := n0
  clear n0
  go_wp2_with (refine wpList_store_mid rfl 24 (.tmp 8) (.tmp 20) rfl V3.heap.size 0 c8.toArray rfl rfl T0 H8.info' H8.one ?_; simp only [Act.put]; clear T0; (change wpList _ _ _ _ _ ((V3.alloc (Obj.cells #[Value.int IntKind.u64 0, Value.int IntKind.u64 0, Value.int IntKind.u64 0, Value.int IntKind.u64 0] 24)).setCells V3.heap.size 0 c8)); (generalize ((V3.alloc (Obj.cells #[Value.int IntKind.u64 0, Value.int IntKind.u64 0, Value.int IntKind.u64 0, Value.int IntKind.u64 0] 24)).setCells V3.heap.size 0 c8) = X3 at *); (generalize hN0 : V3.heap.size = N8 at *; clear hN0))
  refine (refParse_c HS.out HQ.out.1 HQ.out.2 X3).mono ?_
  rintro e V4 ⟨c10, H10, rfl, hB⟩
  replace hb := hb.trans (hB.mono hb.size)
  replace ra := Row.below ra hB (Row.lt ra)
  replace r8 := Row.below r8 hB (Row.lt r8)
  clear hB
  have n0 : Row (V4.alloc (Obj.cells #[Value.int IntKind.u64 0, Value.int IntKind.u64 0, Value.int IntKind.u64 0, Value.int IntKind.u64 0] 24)) V4.heap.size (vQ (List.replicate 4 0)) 24 := Row.new' rfl rfl
  have T0 := H10.there n0 rfl
  replace n0 := n0.over (vs := c10) (by rw [H10.len]; rfl)
  have lt := Row.lt ra
  replace ra := (Row.setCells_other (Row.alloc ra (Obj.cells #[Value.int IntKind.u64 0, Value.int IntKind.u64 0, Value.int IntKind.u64 0, Value.int IntKind.u64 0] 24)) V4.heap.size 0 c10 (by omega))
  clear lt
  have lt := Row.lt r8
  replace r8 := (Row.setCells_other (Row.alloc r8 (Obj.cells #[Value.int IntKind.u64 0, Value.int IntKind.u64 0, Value.int IntKind.u64 0, Value.int IntKind.u64 0] 24)) V4.heap.size 0 c10 (by omega))
  clear lt
  have hbn : Below w.heap.size w ((V4.alloc (Obj.cells #[Value.int IntKind.u64 0, Value.int IntKind.u64 0, Value.int IntKind.u64 0, Value.int IntKind.u64 0] 24)).setCells V4.heap.size 0 c10) := (below_setCells (hb.alloc hb.size (Obj.cells #[Value.int IntKind.u64 0, Value.int IntKind.u64 0, Value.int IntKind.u64 0, Value.int IntKind.u64 0] 24)) (b := V4.heap.size) (o := 0) (by have := hb.size; omega) c10)
  replace hb := hbn
  clear hbn
  have r10 := n0
  clear n0
  go_wp2_with (first
    | (refine wpList_store_mid rfl 24 (.tmp 10) (.tmp 25) rfl V4.heap.size 0 c10.toArray rfl rfl T0 H10.info' H10.one ?_; simp only [Act.put]; clear T0; (change wpList _ _ _ _ _ ((V4.alloc (Obj.cells #[Value.int IntKind.u64 0, Value.int IntKind.u64 0, Value.int IntKind.u64 0, Value.int IntKind.u64 0] 24)).setCells V4.heap.size 0 c10)); (generalize ((V4.alloc (Obj.cells #[Value.int IntKind.u64 0, Value.int IntKind.u64 0, Value.int IntKind.u64 0, Value.int IntKind.u64 0] 24)).setCells V4.heap.size 0 c10) = X4 at *); (generalize hN0 : V4.heap.size = N10 at *; clear hN0))
    | (refine wpList_load_w rfl 24 (.tmp 8) rfl N8 0 rfl c8 _ r8.all Tryd.underlying24 rfl H8.info ?_; simp only [Act.put, List.setIfInBounds_toArray, List.set_cons_zero, List.set_cons_succ])
    | (refine wpList_load_w rfl 24 (.tmp 10) rfl N10 0 rfl c10 _ r10.all Tryd.underlying24 rfl H10.info ?_; simp only [Act.put, List.setIfInBounds_toArray, List.set_cons_zero, List.set_cons_succ])
    | (refine wpList_eql_c (B := true) rfl (.tmp 34) (.tmp 35) 24 rfl H8 H10 HRL.out HRL.out rfl rfl (by simp) ?_; simp only [Act.put, List.setIfInBounds_toArray, List.set_cons_zero, List.set_cons_succ]))
  go_ret
  exact ⟨rfl, hb⟩

end Go.Proofs.YtehccmlbnfhhmaaDoor
