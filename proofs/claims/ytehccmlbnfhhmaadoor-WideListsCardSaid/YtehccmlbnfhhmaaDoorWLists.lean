/-
  causewaylaw02.WideLists.
-/
import Derived.Test.YtehccmlbnfhhmaaDoorWKnown
import Derived.Test.YtehccmlbnfhhmaaDoorWRm
import Derived.Test.YtehccmlbnfhhmaaDoorWAk
import Derived.Test.YtehccmlbnfhhmaaDoorWRSum
import Derived.Deep.CutRange
namespace Go.Proofs.YtehccmlbnfhhmaaDoor
open Go Go.RowKit
open Wd

theorem row_flat_ws {W : World} {N : Nat} {ys : List Nat} (r : Row W N (flat ys) 24) : Ws W (some ⟨N, 0, none⟩) ys := fun i hi =>
  ⟨N, 0, rfl, fun j v hj => by
    have hj4 : j < 4 := by have := (List.getElem?_eq_some_iff.1 hj).1; rw [vQ_length, dgs_length] at this; exact this
    have h3 := flat_get ys i j hi hj4
    rw [hj] at h3
    rw [show 0 + i * 4 + j = i * 4 + j by omega]
    exact r.cell _ _ h3, Row.lt r⟩
theorem row_front_ws {W : World} {N n : Nat} {xs zs : List Nat} (r : Row W N (flat (xs ++ zs)) 24) (hn : xs.length = n) : Ws W (some ⟨N, 0, none⟩) xs := by
  have h := (row_flat_ws r).take n
  rw [List.take_left' hn] at h
  exact h
section
variable {ops : Array Oper} {rest : List Oper} {op : Oper} {a : Act} {w : World} {Q : Exit → Act → World → Prop}
theorem wpList_slice_h4 (hgd : op.guard = none) (x z : Operand) (ho : op.op = .slice 26 x none (some z) none) (b o n cap k : Nat) (hx : a.eval x = .slice (some ⟨b, o, none⟩) n cap) (hz : a.eval z = .int .i64 (k : Int)) (hk : k ≤ cap)
    (h : wpList Tryd.prog ops Q rest (a.put op.dst (.slice (some ⟨b, o, none⟩) k cap)) w) : wpList Tryd.prog ops Q (op :: rest) a w :=
  wpList_plain hgd fun _ hK => by
    obtain ⟨ie, z, hq, _, _, _, _⟩ := info_w_open
    have hr : (Instr.sliceAt 26 (.slice (some ⟨b, o, none⟩) n cap) none (some (.int .i64 (k : Int))) none).run Tryd.prog w = .ok (.slice (some ⟨b, o, none⟩) k cap) w := by
      simp [Instr.sliceAt, Instr.slice, run_underlying Tryd.underlying26, Instr.sliceBounds, Instr.sliceBound, asIntOf, sizeOf, typeInfo, hq, hk, Addr.add]
    unfold Oper.wp execOp
    simp only [ho, hx, hz, Option.map_some, Option.map_none, Sem.run_bind, hr, Result.andThen_ok, Sem.run_pure, Oper.upon_value]
    exact hK _ _ h
end

set_option maxRecDepth 100000 in
set_option maxHeartbeats 16000000 in
theorem lists_walk (xs ms : List Nat) (hxs : ∀ x ∈ xs, x < 2 ^ 256) (hms : ∀ x ∈ ms, x < 2 ^ 256) (n m : Nat) (hn : xs.length = n) (hm : ms.length = m) (hlen : n * 32 ≤ 140737488351232) (A A2 : Option Addr) (cap cap2 : Nat) (w : World) (hw : Ws w A xs) (hw2 : Ws w A2 ms) (hp : P10 w) :
    Calls Tryd.prog 6 #[.slice A n cap, .slice A2 m cap2] w fun e w' => e = .returned (.bool true) ∧ Below w.heap.size w w' := by
  have HP : Hid (P10 w) := hp
  have HXS : Hid (∀ x ∈ xs, x < 2 ^ 256) := hxs
  have HN : Hid (xs.length = n) := hn
  have HM : Hid (ms.length = m) := hm
  have HWS : Hid (Ws w A xs) := hw
  have HWM : Hid (Ws w A2 ms) := hw2
  have HLB : Hid (n * 32 ≤ 140737488351232) := hlen
  have HL42 : Hid (n ≤ 4398046511104) := by show _ ≤ _; omega
  have HL43 : Hid (n + 3 ≤ 4398046511108) := by show _ ≤ _; omega
  have ln : (n : Int) ≤ 4398046511104 := by omega
  have HMK : Hid (∀ x ∈ xs ++ mks n 3, x < 2 ^ 256) := fun x hx => by
    rcases List.mem_append.1 hx with h | h
    · exact hxs x h
    · obtain ⟨t, ht, rfl⟩ := List.mem_map.1 h
      have := List.mem_range.1 ht
      exact mk_lt _ (by omega)
  have HMKL : Hid ((xs ++ mks n 3).length = n + 3) := by show _ = _; rw [List.length_append, mks_length, hn]
  obtain ⟨ys, hys⟩ : ∃ ys, ys = ms.take n ++ (List.replicate n 0).drop (Nat.min m n) := ⟨_, rfl⟩
  have hyl : ys.length = n := by
    rw [hys, List.length_append, List.length_take, List.length_drop, List.length_replicate, hm]
    rcases Nat.le_total m n with h | h
    · rw [show Nat.min m n = m from Nat.min_eq_left h, Nat.min_eq_right h]; omega
    · rw [show Nat.min m n = n from Nat.min_eq_right h, Nat.min_eq_left h]; omega
  have HYS : Hid (∀ x ∈ ys, x < 2 ^ 256) := fun x hx => by
    rw [hys] at hx
    rcases List.mem_append.1 hx with h | h
    · exact hms x (List.mem_of_mem_take h)
    · rw [List.eq_of_mem_replicate (List.mem_of_mem_drop h)]; decide
  have HYL : Hid (ys.length = n) := hyl
  have HYE : Hid (ms.take n ++ (List.replicate n 0).drop (Nat.min m n) = ys) := hys.symm
  have HYX : Hid (ys.take n ++ (xs ++ mks n 3).drop (Nat.min n n) = ys ++ mks n 3) := by
    show _ = _
    rw [List.take_of_length_le (by omega), show Nat.min n n = n from Nat.min_self n, List.drop_left' hn]
  obtain ⟨aS, haS⟩ : ∃ a, sumR xs = a := ⟨_, rfl⟩
  obtain ⟨E, hE⟩ : ∃ a, sumE xs = a := ⟨_, rfl⟩
  obtain ⟨bS, hbS⟩ : ∃ a, sumR ys = a := ⟨_, rfl⟩
  obtain ⟨F, hF⟩ : ∃ a, sumE ys = a := ⟨_, rfl⟩
  have QA : Hid (sumR xs = aS ∧ sumE xs = E) := ⟨haS, hE⟩
  have QB : Hid (sumR ys = bS ∧ sumE ys = F) := ⟨hbS, hF⟩
  have lS : aS < 2 ^ 256 := by rw [← haS]; unfold sumR; split; assumption; decide
  have lT : bS < 2 ^ 256 := by rw [← hbS]; unfold sumR; split; assumption; decide
  have HLS : Hid (aS < 2 ^ 256) := lS
  have HLT : Hid (bS < 2 ^ 256) := lT
  clear hxs hms hn hm hw hw2 hp hlen hys hyl haS hE hbS hF lS lT
  have hb : Below w.heap.size w w := Below.refl _ _
  go_enter Tryd.func6, Tryd.ntmps6
  go_wp2_with fail
  refine (known_any w HP.out).mono ?_
  rintro e V0 ⟨rfl, hB⟩
  replace hb := hb.trans (hB.mono hb.size)
  clear hB
  go_wp2_with fail
  refine (room_ws xs n HN.out HLB.out A cap _ (HWS.out.below hb)).mono ?_
  rintro e V1 ⟨N, lN, rF, rfl, hB⟩
  have lwN : w.heap.size ≤ N := Nat.le_trans hb.size lN
  replace hb := hb.trans (hB.mono hb.size)
  clear hB lN
  go_wp2_with (refine wpList_slice_h4 rfl (.tmp 18) (.tmp 20) rfl N 0 (n + 3) (n + 3) n rfl rfl (by omega) ?_; simp only [Act.put, List.setIfInBounds_toArray, List.set_cons_zero, List.set_cons_succ])
  have HS := refSum_c HXS.out HN.out HL42.out cap QA.out.1 QA.out.2 V1 (HWS.out.below hb)
  refine ((fun _ => HS) V1).mono ?_
  rintro e V2 ⟨c8, H8, rfl, hB⟩
  replace hb := hb.trans (hB.mono hb.size)
  replace rF := Row.below rF hB (Row.lt rF)
  clear hB
  have k8 : N < V2.heap.size := Row.lt rF
  have n0 : Row (V2.alloc (Obj.cells #[Value.int IntKind.u64 0, Value.int IntKind.u64 0, Value.int IntKind.u64 0, Value.int IntKind.u64 0] 24)) V2.heap.size (vQ (List.replicate 4 0)) 24 := Row.new' rfl rfl
  have T0 := H8.there n0 rfl
  replace n0 := n0.over (vs := c8) (by rw [H8.len]; rfl)
  have lt := Row.lt rF
  replace rF := (Row.setCells_other (Row.alloc rF (Obj.cells #[Value.int IntKind.u64 0, Value.int IntKind.u64 0, Value.int IntKind.u64 0, Value.int IntKind.u64 0] 24)) V2.heap.size 0 c8 (by omega))
  clear lt
  have hbn : Below w.heap.size w ((V2.alloc (Obj.cells #[Value.int IntKind.u64 0, Value.int IntKind.u64 0, Value.int IntKind.u64 0, Value.int IntKind.u64 0] 24)).setCells V2.heap.size 0 c8) := (below_setCells (hb.alloc hb.size (Obj.cells #[Value.int IntKind.u64 0, Value.int IntKind.u64 0, Value.int IntKind.u64 0, Value.int IntKind.u64 0] 24)) (b := V2.heap.size) (o := 0) (by have := hb.size; omega) c8)
  replace hb := hbn
  clear hbn
  have r8 := n0
  clear n0
  go_wp2_with (refine wpList_store_mid rfl 24 (.tmp 8) (.tmp 25) rfl V2.heap.size 0 c8.toArray rfl rfl T0 H8.info' H8.one ?_; simp only [Act.put]; clear T0; (change wpList _ _ _ _ _ ((V2.alloc (Obj.cells #[Value.int IntKind.u64 0, Value.int IntKind.u64 0, Value.int IntKind.u64 0, Value.int IntKind.u64 0] 24)).setCells V2.heap.size 0 c8)); (generalize ((V2.alloc (Obj.cells #[Value.int IntKind.u64 0, Value.int IntKind.u64 0, Value.int IntKind.u64 0, Value.int IntKind.u64 0] 24)).setCells V2.heap.size 0 c8) = X2 at *); (generalize hN0 : V2.heap.size = N8 at *; clear hN0))
  clear HS
  have HS := sum_c HXS.out (by rw [HN.out]; exact HL42.out) HN.out (n + 3) QA.out.1 QA.out.2 X2 (row_front_ws rF HN.out)
  refine ((fun _ => HS) X2).mono ?_
  rintro e V3 ⟨c10, H10, rfl, hB⟩
  replace hb := hb.trans (hB.mono hb.size)
  replace rF := Row.below rF hB (Row.lt rF)
  replace r8 := Row.below r8 hB (Row.lt r8)
  clear hB
  have k10 : N8 < V3.heap.size := Row.lt r8
  have n0 : Row (V3.alloc (Obj.cells #[Value.int IntKind.u64 0, Value.int IntKind.u64 0, Value.int IntKind.u64 0, Value.int IntKind.u64 0] 24)) V3.heap.size (vQ (List.replicate 4 0)) 24 := Row.new' rfl rfl
  have T0 := H10.there n0 rfl
  replace n0 := n0.over (vs := c10) (by rw [H10.len]; rfl)
  have lt := Row.lt rF
  replace rF := (Row.setCells_other (Row.alloc rF (Obj.cells #[Value.int IntKind.u64 0, Value.int IntKind.u64 0, Value.int IntKind.u64 0, Value.int IntKind.u64 0] 24)) V3.heap.size 0 c10 (by omega))
  clear lt
  have lt := Row.lt r8
  replace r8 := (Row.setCells_other (Row.alloc r8 (Obj.cells #[Value.int IntKind.u64 0, Value.int IntKind.u64 0, Value.int IntKind.u64 0, Value.int IntKind.u64 0] 24)) V3.heap.size 0 c10 (by omega))
  clear lt
  have hbn : Below w.heap.size w ((V3.alloc (Obj.cells #[Value.int IntKind.u64 0, Value.int IntKind.u64 0, Value.int IntKind.u64 0, Value.int IntKind.u64 0] 24)).setCells V3.heap.size 0 c10) := (below_setCells (hb.alloc hb.size (Obj.cells #[Value.int IntKind.u64 0, Value.int IntKind.u64 0, Value.int IntKind.u64 0, Value.int IntKind.u64 0] 24)) (b := V3.heap.size) (o := 0) (by have := hb.size; omega) c10)
  replace hb := hbn
  clear hbn
  have r10 := n0
  clear n0
  go_wp2_with (refine wpList_store_mid rfl 24 (.tmp 10) (.tmp 30) rfl V3.heap.size 0 c10.toArray rfl rfl T0 H10.info' H10.one ?_; simp only [Act.put]; clear T0; (change wpList _ _ _ _ _ ((V3.alloc (Obj.cells #[Value.int IntKind.u64 0, Value.int IntKind.u64 0, Value.int IntKind.u64 0, Value.int IntKind.u64 0] 24)).setCells V3.heap.size 0 c10)); (generalize ((V3.alloc (Obj.cells #[Value.int IntKind.u64 0, Value.int IntKind.u64 0, Value.int IntKind.u64 0, Value.int IntKind.u64 0] 24)).setCells V3.heap.size 0 c10) = X3 at *); (generalize hN0 : V3.heap.size = N10 at *; clear hN0))
  clear HS
  have HS := sum_c HXS.out (by rw [HN.out]; exact HL42.out) HN.out (n + 3) QA.out.1 QA.out.2 X3 (row_front_ws rF HN.out)
  refine ((fun _ => HS) X3).mono ?_
  rintro e V4 ⟨c12, H12, rfl, hB⟩
  replace hb := hb.trans (hB.mono hb.size)
  replace rF := Row.below rF hB (Row.lt rF)
  replace r8 := Row.below r8 hB (Row.lt r8)
  replace r10 := Row.below r10 hB (Row.lt r10)
  clear hB
  have n0 : Row (V4.alloc (Obj.cells #[Value.int IntKind.u64 0, Value.int IntKind.u64 0, Value.int IntKind.u64 0, Value.int IntKind.u64 0] 24)) V4.heap.size (vQ (List.replicate 4 0)) 24 := Row.new' rfl rfl
  have T0 := H12.there n0 rfl
  replace n0 := n0.over (vs := c12) (by rw [H12.len]; rfl)
  have lt := Row.lt rF
  replace rF := (Row.setCells_other (Row.alloc rF (Obj.cells #[Value.int IntKind.u64 0, Value.int IntKind.u64 0, Value.int IntKind.u64 0, Value.int IntKind.u64 0] 24)) V4.heap.size 0 c12 (by omega))
  clear lt
  have lt := Row.lt r8
  replace r8 := (Row.setCells_other (Row.alloc r8 (Obj.cells #[Value.int IntKind.u64 0, Value.int IntKind.u64 0, Value.int IntKind.u64 0, Value.int IntKind.u64 0] 24)) V4.heap.size 0 c12 (by omega))
  clear lt
  have lt := Row.lt r10
  replace r10 := (Row.setCells_other (Row.alloc r10 (Obj.cells #[Value.int IntKind.u64 0, Value.int IntKind.u64 0, Value.int IntKind.u64 0, Value.int IntKind.u64 0] 24)) V4.heap.size 0 c12 (by omega))
  clear lt
  have hbn : Below w.heap.size w ((V4.alloc (Obj.cells #[Value.int IntKind.u64 0, Value.int IntKind.u64 0, Value.int IntKind.u64 0, Value.int IntKind.u64 0] 24)).setCells V4.heap.size 0 c12) := (below_setCells (hb.alloc hb.size (Obj.cells #[Value.int IntKind.u64 0, Value.int IntKind.u64 0, Value.int IntKind.u64 0, Value.int IntKind.u64 0] 24)) (b := V4.heap.size) (o := 0) (by have := hb.size; omega) c12)
  replace hb := hbn
  clear hbn
  have r12 := n0
  clear n0
  go_upto_region 9 with (first
    | (refine wpList_store_mid rfl 24 (.tmp 12) (.tmp 35) rfl V4.heap.size 0 c12.toArray rfl rfl T0 H12.info' H12.one ?_; simp only [Act.put]; clear T0; (change wpList _ _ _ _ _ ((V4.alloc (Obj.cells #[Value.int IntKind.u64 0, Value.int IntKind.u64 0, Value.int IntKind.u64 0, Value.int IntKind.u64 0] 24)).setCells V4.heap.size 0 c12)); (generalize ((V4.alloc (Obj.cells #[Value.int IntKind.u64 0, Value.int IntKind.u64 0, Value.int IntKind.u64 0, Value.int IntKind.u64 0] 24)).setCells V4.heap.size 0 c12) = X4 at *); (generalize hN0 : V4.heap.size = N12 at *; clear hN0))
    | (refine wpList_load_w rfl 24 (.tmp 10) rfl N10 0 rfl c10 _ r10.all Tryd.underlying24 rfl H10.info ?_; simp only [Act.put, List.setIfInBounds_toArray, List.set_cons_zero, List.set_cons_succ])
    | (refine wpList_load_w rfl 24 (.tmp 8) rfl N8 0 rfl c8 _ r8.all Tryd.underlying24 rfl H8.info ?_; simp only [Act.put, List.setIfInBounds_toArray, List.set_cons_zero, List.set_cons_succ])
    | (refine wpList_load_w rfl 24 (.tmp 12) rfl N12 0 rfl c12 _ r12.all Tryd.underlying24 rfl H12.info ?_; simp only [Act.put, List.setIfInBounds_toArray, List.set_cons_zero, List.set_cons_succ])
    | (refine wpList_neq_c (B := false) rfl (.tmp 40) (.tmp 41) 24 rfl H10 H8 HLS.out HLS.out rfl rfl (by simp) ?_; simp only [Act.put, List.setIfInBounds_toArray, List.set_cons_zero, List.set_cons_succ])
    | (refine wpList_neq_c (B := false) rfl (.tmp 45) (.tmp 46) 24 rfl H12 H8 HLS.out HLS.out rfl rfl (by simp) ?_; simp only [Act.put, List.setIfInBounds_toArray, List.set_cons_zero, List.set_cons_succ])
    | (go_at_call 28; refine (room_ws xs n HN.out HLB.out A cap _ (HWS.out.below hb)).mono ?_; rintro e V9 ⟨N2, _, rG, rfl, hB⟩; (replace hb := hb.trans (hB.mono hb.size)); (replace rF := Row.below rF hB (Row.lt rF)); (replace r8 := Row.below r8 hB (Row.lt r8)); (replace r10 := Row.below r10 hB (Row.lt r10)); clear hB r12)
    | (go_at_call 31; refine (alike_ws (xs ++ mks n 3) HMK.out (n + 3) HMKL.out HL43.out _ _ _ _ _ (row_flat_ws rF) (row_flat_ws rG)).mono ?_; rintro e V10 ⟨rfl, hB⟩; (replace hb := hb.trans (hB.mono hb.size)); (replace rF := Row.below rF hB (Row.lt rF)); (replace r8 := Row.below r8 hB (Row.lt r8)); (replace r10 := Row.below r10 hB (Row.lt r10)); clear hB rG)
  )
  clear HS
  have lF := Row.lt rF
  have l8 := Row.lt r8
  have l10 := Row.lt r10
  have nM : Row (V10.alloc (.cells (flat (List.replicate n 0)).toArray 24)) V10.heap.size (flat (List.replicate n 0)) 24 := Row.new' rfl rfl
  have hB : Below V10.heap.size V10 (V10.alloc (.cells (flat (List.replicate n 0)).toArray 24)) := (Below.refl _ _).alloc (Nat.le_refl _) _
  replace rF := Row.below rF hB lF
  replace r8 := Row.below r8 hB l8
  replace r10 := Row.below r10 hB l10
  replace hb := hb.trans (hB.mono hb.size)
  clear hB
  have wsm := HWM.out.below hb
  go_upto_region 11 with (first
    | (refine wpList_make_w rfl (.tmp 67) (.tmp 67) rfl n rfl rfl (by have := HL42.out; omega) ?_; simp only [Act.put, List.setIfInBounds_toArray, List.set_cons_zero, List.set_cons_succ])
    | (refine wpList_copy4 rfl (.tmp 69) (.tmp 70) rfl V10.heap.size n n A2 m cap2 rfl rfl (List.replicate n 0) nM ms HM.out wsm (by rw [List.length_replicate]; exact Nat.le_refl _) ?_; intro W2 q2 hb2 hsz2 _; have HQ2 : Hid _ := q2; clear q2; simp only [Act.put, List.setIfInBounds_toArray, List.set_cons_zero, List.set_cons_succ]))
  have rM := HQ2.out
  rw [HYE.out] at rM
  clear HQ2 nM wsm
  replace rF := Row.below rF hb2 lF
  replace r8 := Row.below r8 hb2 l8
  replace r10 := Row.below r10 hb2 l10
  replace hb := hb.trans (hb2.mono (Nat.le_of_lt (Nat.lt_of_le_of_lt lwN lF)))
  clear hb2 hsz2
  generalize hNM : V10.heap.size = NM at *
  clear hNM
  go_wp2_with (refine wpList_copy4 rfl (.tmp 72) (.tmp 73) rfl N n (n + 3) (some ⟨NM, 0, none⟩) n n rfl rfl (xs ++ mks n 3) rF ys HYL.out (row_flat_ws rM) (by rw [HMKL.out]; omega) ?_; intro W3 q3 hb3 hsz3 ho3; have HQ3 : Hid _ := q3; clear q3; have HO3 : Hid _ := ho3; clear ho3; simp only [Act.put, List.setIfInBounds_toArray, List.set_cons_zero, List.set_cons_succ])
  replace rF := HQ3.out
  rw [HYX.out] at rF
  replace r8 : Row W3 N8 c8 24 := (HO3.out N8 (by omega)).trans r8
  replace r10 : Row W3 N10 c10 24 := (HO3.out N10 (by omega)).trans r10
  replace rM : Row W3 NM (flat ys) 24 := (HO3.out NM (by omega)).trans rM
  replace hb := hb.trans (hb3.mono lwN)
  clear HQ3 HO3 hb3 hsz3 lF l8 l10
  refine (refSum_c HYS.out HYL.out HL42.out n QB.out.1 QB.out.2 _ (row_flat_ws rM)).mono ?_
  rintro e V5 ⟨c5, H5, rfl, hB⟩
  replace rF := Row.below rF hB (Row.lt rF)
  replace r8 := Row.below r8 hB (Row.lt r8)
  replace r10 := Row.below r10 hB (Row.lt r10)
  replace hb := hb.trans (hB.mono hb.size)
  clear hB rM
  have T8 := H5.there r8 (by rw [H8.len])
  have u8 := r8.over (vs := c5) (by rw [H5.len, H8.len])
  have uF := Row.setCells_other rF N8 0 c5 (by omega)
  have u10 := Row.setCells_other r10 N8 0 c5 (by omega)
  have ub := below_setCells hb (b := N8) (o := 0) (by omega) c5
  clear r8 rF r10 hb
  go_wp2_with (refine wpList_store_mid rfl 24 (.tmp 8) (.tmp 78) rfl N8 0 c5.toArray rfl rfl T8 H5.info' H5.one ?_; simp only [Act.put]; clear T8; (generalize V5.setCells N8 0 c5 = Y5 at *))
  refine (sum_c HYS.out (by rw [HYL.out]; exact HL42.out) HYL.out (n + 3) QB.out.1 QB.out.2 _ (row_front_ws uF HYL.out)).mono ?_
  rintro e V6 ⟨c6, H6, rfl, hB⟩
  replace u8 := Row.below u8 hB (Row.lt u8)
  replace u10 := Row.below u10 hB (Row.lt u10)
  replace ub := ub.trans (hB.mono ub.size)
  clear hB uF
  have T10 := H6.there u10 (by rw [H10.len])
  have v10 := u10.over (vs := c6) (by rw [H6.len, H10.len])
  have v8 := Row.setCells_other u8 N10 0 c6 (by omega)
  have vb := below_setCells ub (b := N10) (o := 0) (by omega) c6
  clear u8 u10 ub
  go_wp2_with (first
    | (refine wpList_store_mid rfl 24 (.tmp 10) (.tmp 83) rfl N10 0 c6.toArray rfl rfl T10 H6.info' H6.one ?_; simp only [Act.put]; clear T10; (generalize V6.setCells N10 0 c6 = Y6 at *))
    | (refine wpList_load_w rfl 24 (.tmp 10) rfl N10 0 rfl c6 _ v10.all Tryd.underlying24 rfl H6.info ?_; simp only [Act.put, List.setIfInBounds_toArray, List.set_cons_zero, List.set_cons_succ])
    | (refine wpList_load_w rfl 24 (.tmp 8) rfl N8 0 rfl c5 _ v8.all Tryd.underlying24 rfl H5.info ?_; simp only [Act.put, List.setIfInBounds_toArray, List.set_cons_zero, List.set_cons_succ])
    | (refine wpList_eql_c (B := true) rfl (.tmp 85) (.tmp 86) 24 rfl H6 H5 HLT.out HLT.out rfl rfl (by simp) ?_; simp only [Act.put, List.setIfInBounds_toArray, List.set_cons_zero, List.set_cons_succ]))
  go_ret
  exact ⟨rfl, vb⟩

end Go.Proofs.YtehccmlbnfhhmaaDoor
