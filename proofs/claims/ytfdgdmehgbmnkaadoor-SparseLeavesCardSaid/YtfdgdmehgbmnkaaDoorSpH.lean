/-
  sparse: put, where it stops; put at any tree.
-/
import Derived.Test.YtfdgdmehgbmnkaaDoorSpG
namespace Go.Proofs.YtfdgdmehgbmnkaaDoor
open Go Go.RowKit BigFrame
open Sha

set_option maxRecDepth 100000 in
set_option maxHeartbeats 4000000 in
theorem put_nil (u v : List (BitVec 8)) (hu : u.length = 32) (hv : v.length = 32) (w : World) (i : Nat) (hK : Tab w 3) : Calls Tryd.prog 39 #[pn, .agg (vB (u ++ v)).toArray, .int .i64 (i : Int)] w fun e w' => ∃ q, e = .returned q ∧ NodeAt w' (sgl u v) q ∧ Below w.heap.size w w' := by
  have hq : Below w.heap.size w (w.alloc (Obj.cells (vB (u ++ v)).toArray 59)) := (Below.refl _ _).alloc (Nat.le_refl _) _
  have HQ : Hid (Below w.heap.size w (w.alloc (Obj.cells (vB (u ++ v)).toArray 59))) := hq
  have q0 : Row (w.alloc (Obj.cells (vB (u ++ v)).toArray 59)) w.heap.size (vB (u ++ v)) 59 := Row.new _ _ _
  have HRW : Hid (∀ W, Below (w.alloc (Obj.cells (vB (u ++ v)).toArray 59)).heap.size (w.alloc (Obj.cells (vB (u ++ v)).toArray 59)) W → W.rangeAt w.heap.size 0 (vB (u ++ v))) := fun W hW => (Row.below q0 hW q0.lt).all
  have HRK : Hid (∀ W, Below (w.alloc (Obj.cells (vB (u ++ v)).toArray 59)).heap.size (w.alloc (Obj.cells (vB (u ++ v)).toArray 59)) W → W.rangeAt w.heap.size 0 (vB u)) := fun W hW => by
    have h := HRW.out W hW
    rw [vB_append] at h
    exact range_left h
  have HIU : Hid ((Tryd.prog.info? 29).map (·.size) = some (vB u).length) := by show _ = _; rw [vB_length, hu]; exact info_dig
  have HIB : Hid ((Tryd.prog.info? 59).map (·.size) = some (vB (u ++ v)).length) := info_bdl (by rw [List.length_append, hu, hv])
  have HUL : Hid (u.length = 32) := hu
  have HKL : Hid (∀ W, Below w.heap.size w W → Tab W 3) := fun W hB => hK.below hB hK.lt
  have HVL : Hid (v.length = 32) := hv
  clear hK hu hv q0 hq
  go_enter Tryd.func39, Tryd.ntmps39
  go_upto_region 1 with fail
  refine wp_region_quiet_lit (by kernel_rfl) (by kernel_rfl) ?_
  repeat (first
    | go_big_quiet_skip
    | (go_big_quiet_want
       first
         | (go_big_quiet_op; go_big_quiet_on)))
  refine wpQuiet_nil ?_
  intro _ hw'
  obtain ⟨nq, hw''⟩ := hw'
  subst hw''
  have BQ : Hid (Below (w.alloc (Obj.cells (vB (u ++ v)).toArray 59)).heap.size (w.alloc (Obj.cells (vB (u ++ v)).toArray 59)) ((w.alloc (Obj.cells (vB (u ++ v)).toArray 59)).drewN nq)) := below_drewN (Below.refl _ _) _
  generalize ((w.alloc (Obj.cells (vB (u ++ v)).toArray 59)).drewN nq) = W0 at *
  go_wp2_with (first
    | (refine wpList_load_w rfl 59 (.tmp 4) rfl w.heap.size 0 rfl (vB (u ++ v)) _ (HRW.out _ BQ.out) Tryd.underlying59 rfl HIB.out ?_; simp only [Act.put, List.setIfInBounds_toArray, List.set_cons_zero, List.set_cons_succ])
    | (go_at_call 59; refine Calls.mono (single_any u v HUL.out HVL.out _ (HKL.out _ (HQ.out.trans (BQ.out.mono HQ.out.size)))) ?_; rintro e Z ⟨q2, rfl, hn, q⟩; have NZ : Hid (NodeAt Z (sgl u v) q2) := hn; have BZ : Hid (Below w.heap.size w Z) := HQ.out.trans ((BQ.out.trans (q.mono BQ.out.size)).mono HQ.out.size); clear hn q))
  go_ret
  exact ⟨_, rfl, NZ.out, BZ.out⟩
set_option maxRecDepth 100000 in
set_option maxHeartbeats 4000000 in
theorem put_same (u v : List (BitVec 8)) (hu : u.length = 32) (hv : v.length = 32) (k v2 : List (BitVec 8)) (p : Value) (w : World) (h : NodeAt w (.one k v2) p) (he : k = u) (i : Nat) (hK : Tab w 3) : Calls Tryd.prog 39 #[p, .agg (vB (u ++ v)).toArray, .int .i64 (i : Int)] w fun e w' => ∃ q, e = .returned q ∧ NodeAt w' (sgl u v) q ∧ Below w.heap.size w w' := by
  obtain ⟨hk, _, b, rfl, rr⟩ := h
  have rr1 := Row.alloc rr (Obj.cells (vB (u ++ v)).toArray 59)
  have c2 := rr1.cell 32 (.int .i64 1) (ncs_cnt _ _ _ _ _ (Tr.dg_len _))
  have RK : Hid ((w.alloc (Obj.cells (vB (u ++ v)).toArray 59)).rangeAt b 33 (vB k)) := ncs_key rr1 (Tr.dg_len _)
  have HIK : Hid ((Tryd.prog.info? 29).map (·.size) = some (vB k).length) := by show _ = _; rw [vB_length, hk]; exact info_dig
  have HKK : Hid (k.length = 32) := hk
  have HNE : Hid (decide (k = u) = true) := decide_eq_true he
  have hq : Below w.heap.size w (w.alloc (Obj.cells (vB (u ++ v)).toArray 59)) := (Below.refl _ _).alloc (Nat.le_refl _) _
  have HQ : Hid (Below w.heap.size w (w.alloc (Obj.cells (vB (u ++ v)).toArray 59))) := hq
  have q0 : Row (w.alloc (Obj.cells (vB (u ++ v)).toArray 59)) w.heap.size (vB (u ++ v)) 59 := Row.new _ _ _
  have HRW : Hid (∀ W, Below (w.alloc (Obj.cells (vB (u ++ v)).toArray 59)).heap.size (w.alloc (Obj.cells (vB (u ++ v)).toArray 59)) W → W.rangeAt w.heap.size 0 (vB (u ++ v))) := fun W hW => (Row.below q0 hW q0.lt).all
  have HRK : Hid (∀ W, Below (w.alloc (Obj.cells (vB (u ++ v)).toArray 59)).heap.size (w.alloc (Obj.cells (vB (u ++ v)).toArray 59)) W → W.rangeAt w.heap.size 0 (vB u)) := fun W hW => by
    have h := HRW.out W hW
    rw [vB_append] at h
    exact range_left h
  have HIU : Hid ((Tryd.prog.info? 29).map (·.size) = some (vB u).length) := by show _ = _; rw [vB_length, hu]; exact info_dig
  have HIB : Hid ((Tryd.prog.info? 59).map (·.size) = some (vB (u ++ v)).length) := info_bdl (by rw [List.length_append, hu, hv])
  have HUL : Hid (u.length = 32) := hu
  have HKL : Hid (∀ W, Below w.heap.size w W → Tab W 3) := fun W hB => hK.below hB hK.lt
  have HVL : Hid (v.length = 32) := hv
  clear hK hu hv q0 hq rr1 rr hk he
  go_enter Tryd.func39, Tryd.ntmps39
  go_upto_region 1 with fail
  refine wp_region_quiet_lit (by kernel_rfl) (by kernel_rfl) ?_
  repeat (first
    | go_big_quiet_skip
    | (go_big_quiet_want
       first
         | (refine quiet_load_w 29 (.tmp 21) rfl b 33 rfl (vB k) _ (fun _ ⟨n, e⟩ => by rw [e]; exact RK.out) Tryd.underlying29 rfl HIK.out ?_; go_big_quiet_on; simp only [Act.put, List.setIfInBounds_toArray, List.set_cons_zero, List.set_cons_succ])
         | (refine quiet_load_w 29 (.tmp 23) rfl w.heap.size 0 rfl (vB u) _ (fun _ ⟨n, e⟩ => HRK.out _ (by rw [e]; exact below_drewN (Below.refl _ _) _)) Tryd.underlying29 rfl HIU.out ?_; go_big_quiet_on; simp only [Act.put, List.setIfInBounds_toArray, List.set_cons_zero, List.set_cons_succ])
         | (refine quiet_eql_w 29 (.tmp 22) (.tmp 24) _ rfl 5 32 k u rfl rfl Tryd.underlying29 Tryd.underlying5 info_u8 HKK.out HUL.out guard_dig ?_; rw [HNE.out]; go_big_quiet_on; simp only [Act.put, List.setIfInBounds_toArray, List.set_cons_zero, List.set_cons_succ])
         | (go_big_quiet_op; go_big_quiet_on)))
  refine wpQuiet_nil ?_
  intro _ hw'
  obtain ⟨nq, hw''⟩ := hw'
  subst hw''
  have BQ : Hid (Below (w.alloc (Obj.cells (vB (u ++ v)).toArray 59)).heap.size (w.alloc (Obj.cells (vB (u ++ v)).toArray 59)) ((w.alloc (Obj.cells (vB (u ++ v)).toArray 59)).drewN nq)) := below_drewN (Below.refl _ _) _
  generalize ((w.alloc (Obj.cells (vB (u ++ v)).toArray 59)).drewN nq) = W0 at *
  go_wp2_with (first
    | (refine wpList_load_w rfl 59 (.tmp 4) rfl w.heap.size 0 rfl (vB (u ++ v)) _ (HRW.out _ BQ.out) Tryd.underlying59 rfl HIB.out ?_; simp only [Act.put, List.setIfInBounds_toArray, List.set_cons_zero, List.set_cons_succ])
    | (go_at_call 59; refine Calls.mono (single_any u v HUL.out HVL.out _ (HKL.out _ (HQ.out.trans (BQ.out.mono HQ.out.size)))) ?_; rintro e Z ⟨q2, rfl, hn, q⟩; have NZ : Hid (NodeAt Z (sgl u v) q2) := hn; have BZ : Hid (Below w.heap.size w Z) := HQ.out.trans ((BQ.out.trans (q.mono BQ.out.size)).mono HQ.out.size); clear hn q))
  go_ret
  exact ⟨_, rfl, NZ.out, BZ.out⟩

end Go.Proofs.YtfdgdmehgbmnkaaDoor
