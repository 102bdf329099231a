/-
  sparse: put, one step down.
-/
import Derived.Test.YtfdgdmehgbmnkaaDoorSpF
namespace Go.Proofs.YtfdgdmehgbmnkaaDoor
open Go Go.RowKit BigFrame
open Sha

section
variable {P : Program} {C : World → Prop} {o : Oper} {a : Act} {K : Act → Prop}
theorem quiet_load_w (ty : TypeId) (x : Operand) (ho : o.op = .load ty x) (b o' : Nat) (hx : a.eval x = .pointer (some ⟨b, o', none⟩)) (cs : List Value) (d : TypeDesc) (hc : ∀ w, C w → w.rangeAt b o' cs)
    (hu : P.underlying ty = some d) (hd : d.isRow = true) (hi : (P.info? ty).map (·.size) = some cs.length) (h : K (a.put o.dst (.agg cs.toArray))) : o.quiet P a C K :=
  ⟨_, fun w hw => by
    unfold Oper.quietAt execOp
    simp only [ho, hx, Instr.loadAt, Instr.sureAddr, Sem.run_bind, Sem.run_pure, Result.andThen_ok, run_loadVar_mid w b o' ty cs d (hc w hw) hu hd hi]
    exact ⟨rfl, rfl⟩, h⟩
theorem quiet_eql_w (t : TypeId) (x y : Operand) (yt : TypeId) (ho : o.op = .binOp .eql t x y yt) (e n : Nat) (l r : List (BitVec 8)) (hx : a.eval x = .agg (vB l).toArray) (hy : a.eval y = .agg (vB r).toArray)
    (ht : P.underlying t = some (.array n e)) (he : P.underlying e = some (.int .u8)) (hs : (P.info? e).map (·.size) = some 1) (hl : l.length = n) (hr : r.length = n) (hm : P.eqGuardType P.depth t = false)
    (h : K (a.put o.dst (.bool (decide (l = r))))) : o.quiet P a C K :=
  ⟨_, fun w hw => by
    unfold Oper.quietAt execOp
    simp only [ho, hx, hy, Sem.run_bind, run_eqGuard_agg w .eql t x y _ _ hm, Result.andThen_ok, run_eql_vB w t e n ht he hs l r hl hr, Sem.run_pure]
    exact ⟨rfl, rfl⟩, h⟩
theorem quiet_eql_i (x : Operand) (m n : Int) {t yt : TypeId} (ho : o.op = .binOp .eql t x (.const (.int .i64 m)) yt) (hx : a.eval x = .int .i64 n) (B : Bool) (hB : decide (n = m) = B) (h : K (a.put o.dst (.bool B))) : o.quiet P a C K :=
  ⟨_, fun w hw => by
    have hc : a.eval (.const (.int .i64 m)) = .int .i64 m := rfl
    subst hB
    unfold Oper.quietAt execOp
    simp only [ho, hx, hc]
    simp [go_sem, Oper.quietUpon]
    rw [Bool.eq_iff_iff]
    simp, h⟩
end

set_option maxRecDepth 100000 in
set_option maxHeartbeats 4000000 in
theorem put_one_true (u v : List (BitVec 8)) (hu : u.length = 32) (hv : v.length = 32) (p : Value) (w : World) (i : Nat) (hi : i < 256) (k v2 : List (BitVec 8)) (h : NodeAt w (.one k v2) p) (hne : k ≠ u) (L R S : Tr)
    (HH0 : ∀ W, Below w.heap.size w W → Calls Tryd.prog 60 #[p, .int .i64 (i : Int)] W fun e w' => ∃ pl pr, e = .returned (.tuple #[pl, pr]) ∧ NodeAt w' L pl ∧ NodeAt w' R pr ∧ Below W.heap.size W w')
    (hB : bitOf u i = true)
    (IH0 : ∀ q W, NodeAt W R q → Below w.heap.size w W → Calls Tryd.prog 39 #[q, .agg (vB (u ++ v)).toArray, .int .i64 ((i : Int) + 1)] W fun e W' => ∃ q', e = .returned q' ∧ NodeAt W' S q' ∧ Below W.heap.size W W')
    (hs : L.size + S.size < 4611686018427387904) (hK : Tab w 3) :
    Calls Tryd.prog 39 #[p, .agg (vB (u ++ v)).toArray, .int .i64 (i : Int)] w fun e w' => ∃ q, e = .returned q ∧ NodeAt w' (L.join S) q ∧ Below w.heap.size w w' := by
  obtain ⟨hk, _, b, rfl, rr⟩ := h
  have rr1 := Row.alloc rr (Obj.cells (vB (u ++ v)).toArray 59)
  have c2 := rr1.cell 32 (.int .i64 1) (ncs_cnt _ _ _ _ _ (Tr.dg_len _))
  have RK : Hid ((w.alloc (Obj.cells (vB (u ++ v)).toArray 59)).rangeAt b 33 (vB k)) := ncs_key rr1 (Tr.dg_len _)
  have HIK : Hid ((Tryd.prog.info? 29).map (·.size) = some (vB k).length) := by show _ = _; rw [vB_length, hk]; exact info_dig
  have HKK : Hid (k.length = 32) := hk
  have HNE : Hid (decide (k = u) = false) := decide_eq_false hne
  have hq : Below w.heap.size w (w.alloc (Obj.cells (vB (u ++ v)).toArray 59)) := (Below.refl _ _).alloc (Nat.le_refl _) _
  have HQ : Hid (Below w.heap.size w (w.alloc (Obj.cells (vB (u ++ v)).toArray 59))) := hq
  have q0 : Row (w.alloc (Obj.cells (vB (u ++ v)).toArray 59)) w.heap.size (vB (u ++ v)) 59 := Row.new _ _ _
  have HRW : Hid (∀ W, Below (w.alloc (Obj.cells (vB (u ++ v)).toArray 59)).heap.size (w.alloc (Obj.cells (vB (u ++ v)).toArray 59)) W → W.rangeAt w.heap.size 0 (vB (u ++ v))) := fun W hW => (Row.below q0 hW q0.lt).all
  have HRK : Hid (∀ W, Below (w.alloc (Obj.cells (vB (u ++ v)).toArray 59)).heap.size (w.alloc (Obj.cells (vB (u ++ v)).toArray 59)) W → W.rangeAt w.heap.size 0 (vB u)) := fun W hW => by
    have h := HRW.out W hW
    rw [vB_append] at h
    exact range_left h
  have HIU : Hid ((Tryd.prog.info? 29).map (·.size) = some (vB u).length) := by show _ = _; rw [vB_length, hu]; exact info_dig
  have HIB : Hid ((Tryd.prog.info? 59).map (·.size) = some (vB (u ++ v)).length) := info_bdl (by rw [List.length_append, hu, hv])
  have HUL : Hid (u.length = 32) := hu
  have HKL : Hid (∀ W, Below w.heap.size w W → Tab W 3) := fun W hB => hK.below hB hK.lt
  have HBT : Hid (∀ W, Calls Tryd.prog 61 #[.agg (vB u).toArray, .int .i64 (i : Int)] W fun e w' => e = .returned (.bool true) ∧ Below W.heap.size W w') := fun W => by rw [← hB]; exact bitAt_any u hu i hi W
  have HH : Hid (∀ W, Below w.heap.size w W → _) := HH0
  have IH : Hid (∀ q W, NodeAt W R q → _) := IH0
  have HS : Hid (L.size + S.size < 4611686018427387904) := hs
  clear hB HH0 IH0 hs hK hu hv q0 hq rr1 rr hk hne
  go_enter Tryd.func39, Tryd.ntmps39
  go_upto_region 1 with fail
  refine wp_region_quiet_lit (by kernel_rfl) (by kernel_rfl) ?_
  repeat (first
    | go_big_quiet_skip
    | (go_big_quiet_want
       first
         | (refine quiet_load_w 29 (.tmp 21) rfl b 33 rfl (vB k) _ (fun _ ⟨n, e⟩ => by rw [e]; exact RK.out) Tryd.underlying29 rfl HIK.out ?_; go_big_quiet_on; simp only [Act.put, List.setIfInBounds_toArray, List.set_cons_zero, List.set_cons_succ])
         | (refine quiet_load_w 29 (.tmp 23) rfl w.heap.size 0 rfl (vB u) _ (fun _ ⟨n, e⟩ => HRK.out _ (by rw [e]; exact below_drewN (Below.refl _ _) _)) Tryd.underlying29 rfl HIU.out ?_; go_big_quiet_on; simp only [Act.put, List.setIfInBounds_toArray, List.set_cons_zero, List.set_cons_succ])
         | (refine quiet_eql_w 29 (.tmp 22) (.tmp 24) _ rfl 5 32 k u rfl rfl Tryd.underlying29 Tryd.underlying5 info_u8 HKK.out HUL.out guard_dig ?_; rw [HNE.out]; go_big_quiet_on; simp only [Act.put, List.setIfInBounds_toArray, List.set_cons_zero, List.set_cons_succ])
         | (go_big_quiet_op; go_big_quiet_on)))
  refine wpQuiet_nil ?_
  intro _ hw'
  obtain ⟨nq, hw''⟩ := hw'
  subst hw''
  have BQ : Hid (Below (w.alloc (Obj.cells (vB (u ++ v)).toArray 59)).heap.size (w.alloc (Obj.cells (vB (u ++ v)).toArray 59)) ((w.alloc (Obj.cells (vB (u ++ v)).toArray 59)).drewN nq)) := below_drewN (Below.refl _ _) _
  generalize ((w.alloc (Obj.cells (vB (u ++ v)).toArray 59)).drewN nq) = W0 at *
  go_upto_region 4 with (go_at_call 60; refine Calls.mono (HH.out _ (HQ.out.trans (BQ.out.mono HQ.out.size))) ?_; rintro e X ⟨pl, pr, rfl, hl, hr, q⟩; have NL : Hid (NodeAt X L pl) := hl; have NR : Hid (NodeAt X R pr) := hr; have BX : Hid (Below _ _ X) := BQ.out.trans (q.mono BQ.out.size); clear hl hr q)
  go_upto_region 5 with (first
    | (refine wpList_load_w rfl 29 (.tmp 36) rfl w.heap.size 0 rfl (vB u) _ (HRK.out _ BX.out) Tryd.underlying29 rfl HIU.out ?_; simp only [Act.put, List.setIfInBounds_toArray, List.set_cons_zero, List.set_cons_succ])
    | (go_at_call 61; refine Calls.mono (HBT.out _) ?_; rintro e Y ⟨rfl, q⟩; have ML : Hid (NodeAt Y L pl) := NodeAt.be q _ _ NL.out; have MR : Hid (NodeAt Y R pr) := NodeAt.be q _ _ NR.out; have BY : Hid (Below _ _ Y) := BX.out.trans (q.mono BX.out.size); clear q))
  go_upto_region 7 with (first
    | (refine wpList_load_w rfl 59 (.tmp 4) rfl w.heap.size 0 rfl (vB (u ++ v)) _ (HRW.out _ BY.out) Tryd.underlying59 rfl HIB.out ?_; simp only [Act.put, List.setIfInBounds_toArray, List.set_cons_zero, List.set_cons_succ])
    | (go_at_call 39; refine Calls.mono (IH.out _ _ MR.out (HQ.out.trans (BY.out.mono HQ.out.size))) ?_; rintro e V ⟨q', rfl, hn, q⟩; have NV : Hid (NodeAt V S q') := hn; have NO : Hid (NodeAt V L _) := NodeAt.be q _ _ ML.out; have BV : Hid (Below _ _ V) := BY.out.trans (q.mono BY.out.size); clear hn q))
  go_wp2_with (go_at_call 62; refine Calls.mono (join_any _ _ _ _ _ NO.out NV.out HS.out (HKL.out _ (HQ.out.trans (BV.out.mono HQ.out.size)))) ?_; rintro e Z ⟨q2, rfl, hn, q⟩; have NZ : Hid (NodeAt Z (L.join S) q2) := hn; have BZ : Hid (Below w.heap.size w Z) := HQ.out.trans ((BV.out.trans (q.mono BV.out.size)).mono HQ.out.size); clear hn q)
  go_ret
  exact ⟨_, rfl, NZ.out, BZ.out⟩

set_option maxRecDepth 100000 in
set_option maxHeartbeats 4000000 in
theorem put_one_false (u v : List (BitVec 8)) (hu : u.length = 32) (hv : v.length = 32) (p : Value) (w : World) (i : Nat) (hi : i < 256) (k v2 : List (BitVec 8)) (h : NodeAt w (.one k v2) p) (hne : k ≠ u) (L R S : Tr)
    (HH0 : ∀ W, Below w.heap.size w W → Calls Tryd.prog 60 #[p, .int .i64 (i : Int)] W fun e w' => ∃ pl pr, e = .returned (.tuple #[pl, pr]) ∧ NodeAt w' L pl ∧ NodeAt w' R pr ∧ Below W.heap.size W w')
    (hB : bitOf u i = false)
    (IH0 : ∀ q W, NodeAt W L q → Below w.heap.size w W → Calls Tryd.prog 39 #[q, .agg (vB (u ++ v)).toArray, .int .i64 ((i : Int) + 1)] W fun e W' => ∃ q', e = .returned q' ∧ NodeAt W' S q' ∧ Below W.heap.size W W')
    (hs : S.size + R.size < 4611686018427387904) (hK : Tab w 3) :
    Calls Tryd.prog 39 #[p, .agg (vB (u ++ v)).toArray, .int .i64 (i : Int)] w fun e w' => ∃ q, e = .returned q ∧ NodeAt w' (S.join R) q ∧ Below w.heap.size w w' := by
  obtain ⟨hk, _, b, rfl, rr⟩ := h
  have rr1 := Row.alloc rr (Obj.cells (vB (u ++ v)).toArray 59)
  have c2 := rr1.cell 32 (.int .i64 1) (ncs_cnt _ _ _ _ _ (Tr.dg_len _))
  have RK : Hid ((w.alloc (Obj.cells (vB (u ++ v)).toArray 59)).rangeAt b 33 (vB k)) := ncs_key rr1 (Tr.dg_len _)
  have HIK : Hid ((Tryd.prog.info? 29).map (·.size) = some (vB k).length) := by show _ = _; rw [vB_length, hk]; exact info_dig
  have HKK : Hid (k.length = 32) := hk
  have HNE : Hid (decide (k = u) = false) := decide_eq_false hne
  have hq : Below w.heap.size w (w.alloc (Obj.cells (vB (u ++ v)).toArray 59)) := (Below.refl _ _).alloc (Nat.le_refl _) _
  have HQ : Hid (Below w.heap.size w (w.alloc (Obj.cells (vB (u ++ v)).toArray 59))) := hq
  have q0 : Row (w.alloc (Obj.cells (vB (u ++ v)).toArray 59)) w.heap.size (vB (u ++ v)) 59 := Row.new _ _ _
  have HRW : Hid (∀ W, Below (w.alloc (Obj.cells (vB (u ++ v)).toArray 59)).heap.size (w.alloc (Obj.cells (vB (u ++ v)).toArray 59)) W → W.rangeAt w.heap.size 0 (vB (u ++ v))) := fun W hW => (Row.below q0 hW q0.lt).all
  have HRK : Hid (∀ W, Below (w.alloc (Obj.cells (vB (u ++ v)).toArray 59)).heap.size (w.alloc (Obj.cells (vB (u ++ v)).toArray 59)) W → W.rangeAt w.heap.size 0 (vB u)) := fun W hW => by
    have h := HRW.out W hW
    rw [vB_append] at h
    exact range_left h
  have HIU : Hid ((Tryd.prog.info? 29).map (·.size) = some (vB u).length) := by show _ = _; rw [vB_length, hu]; exact info_dig
  have HIB : Hid ((Tryd.prog.info? 59).map (·.size) = some (vB (u ++ v)).length) := info_bdl (by rw [List.length_append, hu, hv])
  have HUL : Hid (u.length = 32) := hu
  have HKL : Hid (∀ W, Below w.heap.size w W → Tab W 3) := fun W hB => hK.below hB hK.lt
  have HBT : Hid (∀ W, Calls Tryd.prog 61 #[.agg (vB u).toArray, .int .i64 (i : Int)] W fun e w' => e = .returned (.bool false) ∧ Below W.heap.size W w') := fun W => by rw [← hB]; exact bitAt_any u hu i hi W
  have HH : Hid (∀ W, Below w.heap.size w W → _) := HH0
  have IH : Hid (∀ q W, NodeAt W L q → _) := IH0
  have HS : Hid (S.size + R.size < 4611686018427387904) := hs
  clear hB HH0 IH0 hs hK hu hv q0 hq rr1 rr hk hne
  go_enter Tryd.func39, Tryd.ntmps39
  go_upto_region 1 with fail
  refine wp_region_quiet_lit (by kernel_rfl) (by kernel_rfl) ?_
  repeat (first
    | go_big_quiet_skip
    | (go_big_quiet_want
       first
         | (refine quiet_load_w 29 (.tmp 21) rfl b 33 rfl (vB k) _ (fun _ ⟨n, e⟩ => by rw [e]; exact RK.out) Tryd.underlying29 rfl HIK.out ?_; go_big_quiet_on; simp only [Act.put, List.setIfInBounds_toArray, List.set_cons_zero, List.set_cons_succ])
         | (refine quiet_load_w 29 (.tmp 23) rfl w.heap.size 0 rfl (vB u) _ (fun _ ⟨n, e⟩ => HRK.out _ (by rw [e]; exact below_drewN (Below.refl _ _) _)) Tryd.underlying29 rfl HIU.out ?_; go_big_quiet_on; simp only [Act.put, List.setIfInBounds_toArray, List.set_cons_zero, List.set_cons_succ])
         | (refine quiet_eql_w 29 (.tmp 22) (.tmp 24) _ rfl 5 32 k u rfl rfl Tryd.underlying29 Tryd.underlying5 info_u8 HKK.out HUL.out guard_dig ?_; rw [HNE.out]; go_big_quiet_on; simp only [Act.put, List.setIfInBounds_toArray, List.set_cons_zero, List.set_cons_succ])
         | (go_big_quiet_op; go_big_quiet_on)))
  refine wpQuiet_nil ?_
  intro _ hw'
  obtain ⟨nq, hw''⟩ := hw'
  subst hw''
  have BQ : Hid (Below (w.alloc (Obj.cells (vB (u ++ v)).toArray 59)).heap.size (w.alloc (Obj.cells (vB (u ++ v)).toArray 59)) ((w.alloc (Obj.cells (vB (u ++ v)).toArray 59)).drewN nq)) := below_drewN (Below.refl _ _) _
  generalize ((w.alloc (Obj.cells (vB (u ++ v)).toArray 59)).drewN nq) = W0 at *
  go_upto_region 4 with (go_at_call 60; refine Calls.mono (HH.out _ (HQ.out.trans (BQ.out.mono HQ.out.size))) ?_; rintro e X ⟨pl, pr, rfl, hl, hr, q⟩; have NL : Hid (NodeAt X L pl) := hl; have NR : Hid (NodeAt X R pr) := hr; have BX : Hid (Below _ _ X) := BQ.out.trans (q.mono BQ.out.size); clear hl hr q)
  go_upto_region 6 with (first
    | (refine wpList_load_w rfl 29 (.tmp 36) rfl w.heap.size 0 rfl (vB u) _ (HRK.out _ BX.out) Tryd.underlying29 rfl HIU.out ?_; simp only [Act.put, List.setIfInBounds_toArray, List.set_cons_zero, List.set_cons_succ])
    | (go_at_call 61; refine Calls.mono (HBT.out _) ?_; rintro e Y ⟨rfl, q⟩; have ML : Hid (NodeAt Y L pl) := NodeAt.be q _ _ NL.out; have MR : Hid (NodeAt Y R pr) := NodeAt.be q _ _ NR.out; have BY : Hid (Below _ _ Y) := BX.out.trans (q.mono BX.out.size); clear q))
  go_upto_region 7 with (first
    | (refine wpList_load_w rfl 59 (.tmp 4) rfl w.heap.size 0 rfl (vB (u ++ v)) _ (HRW.out _ BY.out) Tryd.underlying59 rfl HIB.out ?_; simp only [Act.put, List.setIfInBounds_toArray, List.set_cons_zero, List.set_cons_succ])
    | (go_at_call 39; refine Calls.mono (IH.out _ _ ML.out (HQ.out.trans (BY.out.mono HQ.out.size))) ?_; rintro e V ⟨q', rfl, hn, q⟩; have NV : Hid (NodeAt V S q') := hn; have NO : Hid (NodeAt V R _) := NodeAt.be q _ _ MR.out; have BV : Hid (Below _ _ V) := BY.out.trans (q.mono BY.out.size); clear hn q))
  go_wp2_with (go_at_call 62; refine Calls.mono (join_any _ _ _ _ _ NV.out NO.out HS.out (HKL.out _ (HQ.out.trans (BV.out.mono HQ.out.size)))) ?_; rintro e Z ⟨q2, rfl, hn, q⟩; have NZ : Hid (NodeAt Z (S.join R) q2) := hn; have BZ : Hid (Below w.heap.size w Z) := HQ.out.trans ((BV.out.trans (q.mono BV.out.size)).mono HQ.out.size); clear hn q)
  go_ret
  exact ⟨_, rfl, NZ.out, BZ.out⟩

set_option maxRecDepth 100000 in
set_option maxHeartbeats 4000000 in
theorem put_two_true (u v : List (BitVec 8)) (hu : u.length = 32) (hv : v.length = 32) (p : Value) (w : World) (i : Nat) (hi : i < 256) (l r : Tr) (h : NodeAt w (.two l r) p) (hm : 1 < l.size + r.size) (L R S : Tr)
    (HH0 : ∀ W, Below w.heap.size w W → Calls Tryd.prog 60 #[p, .int .i64 (i : Int)] W fun e w' => ∃ pl pr, e = .returned (.tuple #[pl, pr]) ∧ NodeAt w' L pl ∧ NodeAt w' R pr ∧ Below W.heap.size W w')
    (hB : bitOf u i = true)
    (IH0 : ∀ q W, NodeAt W R q → Below w.heap.size w W → Calls Tryd.prog 39 #[q, .agg (vB (u ++ v)).toArray, .int .i64 ((i : Int) + 1)] W fun e W' => ∃ q', e = .returned q' ∧ NodeAt W' S q' ∧ Below W.heap.size W W')
    (hs : L.size + S.size < 4611686018427387904) (hK : Tab w 3) :
    Calls Tryd.prog 39 #[p, .agg (vB (u ++ v)).toArray, .int .i64 (i : Int)] w fun e w' => ∃ q, e = .returned q ∧ NodeAt w' (L.join S) q ∧ Below w.heap.size w w' := by
  obtain ⟨b, _, _, rfl, rr, _, _⟩ := h
  have rr1 := Row.alloc rr (Obj.cells (vB (u ++ v)).toArray 59)
  have c2 := rr1.cell 32 _ (ncs_cnt _ _ _ _ _ (Tr.dg_len _))
  obtain ⟨n, hn⟩ : ∃ n, n = l.size + r.size := ⟨_, rfl⟩
  rw [← hn] at c2 hm
  have HNE : Hid (decide ((n : Int) = 1) = false) := decide_eq_false (by omega)
  have hq : Below w.heap.size w (w.alloc (Obj.cells (vB (u ++ v)).toArray 59)) := (Below.refl _ _).alloc (Nat.le_refl _) _
  have HQ : Hid (Below w.heap.size w (w.alloc (Obj.cells (vB (u ++ v)).toArray 59))) := hq
  have q0 : Row (w.alloc (Obj.cells (vB (u ++ v)).toArray 59)) w.heap.size (vB (u ++ v)) 59 := Row.new _ _ _
  have HRW : Hid (∀ W, Below (w.alloc (Obj.cells (vB (u ++ v)).toArray 59)).heap.size (w.alloc (Obj.cells (vB (u ++ v)).toArray 59)) W → W.rangeAt w.heap.size 0 (vB (u ++ v))) := fun W hW => (Row.below q0 hW q0.lt).all
  have HRK : Hid (∀ W, Below (w.alloc (Obj.cells (vB (u ++ v)).toArray 59)).heap.size (w.alloc (Obj.cells (vB (u ++ v)).toArray 59)) W → W.rangeAt w.heap.size 0 (vB u)) := fun W hW => by
    have h := HRW.out W hW
    rw [vB_append] at h
    exact range_left h
  have HIU : Hid ((Tryd.prog.info? 29).map (·.size) = some (vB u).length) := by show _ = _; rw [vB_length, hu]; exact info_dig
  have HIB : Hid ((Tryd.prog.info? 59).map (·.size) = some (vB (u ++ v)).length) := info_bdl (by rw [List.length_append, hu, hv])
  have HUL : Hid (u.length = 32) := hu
  have HKL : Hid (∀ W, Below w.heap.size w W → Tab W 3) := fun W hB => hK.below hB hK.lt
  have HBT : Hid (∀ W, Calls Tryd.prog 61 #[.agg (vB u).toArray, .int .i64 (i : Int)] W fun e w' => e = .returned (.bool true) ∧ Below W.heap.size W w') := fun W => by rw [← hB]; exact bitAt_any u hu i hi W
  have HH : Hid (∀ W, Below w.heap.size w W → _) := HH0
  have IH : Hid (∀ q W, NodeAt W R q → _) := IH0
  have HS : Hid (L.size + S.size < 4611686018427387904) := hs
  clear hB HH0 IH0 hs hK hu hv q0 hq rr1 rr hm hn
  go_enter Tryd.func39, Tryd.ntmps39
  go_upto_region 1 with fail
  refine wp_region_quiet_lit (by kernel_rfl) (by kernel_rfl) ?_
  repeat (first
    | go_big_quiet_skip
    | (go_big_quiet_want
       first
         | (refine quiet_eql_i (.tmp 15) 1 (n : Int) rfl rfl false HNE.out ?_; go_big_quiet_on; simp only [Act.put, List.setIfInBounds_toArray, List.set_cons_zero, List.set_cons_succ])
         | (go_big_quiet_op; go_big_quiet_on)))
  refine wpQuiet_nil ?_
  intro _ hw'
  obtain ⟨nq, hw''⟩ := hw'
  subst hw''
  have BQ : Hid (Below (w.alloc (Obj.cells (vB (u ++ v)).toArray 59)).heap.size (w.alloc (Obj.cells (vB (u ++ v)).toArray 59)) ((w.alloc (Obj.cells (vB (u ++ v)).toArray 59)).drewN nq)) := below_drewN (Below.refl _ _) _
  generalize ((w.alloc (Obj.cells (vB (u ++ v)).toArray 59)).drewN nq) = W0 at *
  go_upto_region 4 with (go_at_call 60; refine Calls.mono (HH.out _ (HQ.out.trans (BQ.out.mono HQ.out.size))) ?_; rintro e X ⟨pl, pr, rfl, hl, hr, q⟩; have NL : Hid (NodeAt X L pl) := hl; have NR : Hid (NodeAt X R pr) := hr; have BX : Hid (Below _ _ X) := BQ.out.trans (q.mono BQ.out.size); clear hl hr q)
  go_upto_region 5 with (first
    | (refine wpList_load_w rfl 29 (.tmp 36) rfl w.heap.size 0 rfl (vB u) _ (HRK.out _ BX.out) Tryd.underlying29 rfl HIU.out ?_; simp only [Act.put, List.setIfInBounds_toArray, List.set_cons_zero, List.set_cons_succ])
    | (go_at_call 61; refine Calls.mono (HBT.out _) ?_; rintro e Y ⟨rfl, q⟩; have ML : Hid (NodeAt Y L pl) := NodeAt.be q _ _ NL.out; have MR : Hid (NodeAt Y R pr) := NodeAt.be q _ _ NR.out; have BY : Hid (Below _ _ Y) := BX.out.trans (q.mono BX.out.size); clear q))
  go_upto_region 7 with (first
    | (refine wpList_load_w rfl 59 (.tmp 4) rfl w.heap.size 0 rfl (vB (u ++ v)) _ (HRW.out _ BY.out) Tryd.underlying59 rfl HIB.out ?_; simp only [Act.put, List.setIfInBounds_toArray, List.set_cons_zero, List.set_cons_succ])
    | (go_at_call 39; refine Calls.mono (IH.out _ _ MR.out (HQ.out.trans (BY.out.mono HQ.out.size))) ?_; rintro e V ⟨q', rfl, hn, q⟩; have NV : Hid (NodeAt V S q') := hn; have NO : Hid (NodeAt V L _) := NodeAt.be q _ _ ML.out; have BV : Hid (Below _ _ V) := BY.out.trans (q.mono BY.out.size); clear hn q))
  go_wp2_with (go_at_call 62; refine Calls.mono (join_any _ _ _ _ _ NO.out NV.out HS.out (HKL.out _ (HQ.out.trans (BV.out.mono HQ.out.size)))) ?_; rintro e Z ⟨q2, rfl, hn, q⟩; have NZ : Hid (NodeAt Z (L.join S) q2) := hn; have BZ : Hid (Below w.heap.size w Z) := HQ.out.trans ((BV.out.trans (q.mono BV.out.size)).mono HQ.out.size); clear hn q)
  go_ret
  exact ⟨_, rfl, NZ.out, BZ.out⟩

set_option maxRecDepth 100000 in
set_option maxHeartbeats 4000000 in
theorem put_two_false (u v : List (BitVec 8)) (hu : u.length = 32) (hv : v.length = 32) (p : Value) (w : World) (i : Nat) (hi : i < 256) (l r : Tr) (h : NodeAt w (.two l r) p) (hm : 1 < l.size + r.size) (L R S : Tr)
    (HH0 : ∀ W, Below w.heap.size w W → Calls Tryd.prog 60 #[p, .int .i64 (i : Int)] W fun e w' => ∃ pl pr, e = .returned (.tuple #[pl, pr]) ∧ NodeAt w' L pl ∧ NodeAt w' R pr ∧ Below W.heap.size W w')
    (hB : bitOf u i = false)
    (IH0 : ∀ q W, NodeAt W L q → Below w.heap.size w W → Calls Tryd.prog 39 #[q, .agg (vB (u ++ v)).toArray, .int .i64 ((i : Int) + 1)] W fun e W' => ∃ q', e = .returned q' ∧ NodeAt W' S q' ∧ Below W.heap.size W W')
    (hs : S.size + R.size < 4611686018427387904) (hK : Tab w 3) :
    Calls Tryd.prog 39 #[p, .agg (vB (u ++ v)).toArray, .int .i64 (i : Int)] w fun e w' => ∃ q, e = .returned q ∧ NodeAt w' (S.join R) q ∧ Below w.heap.size w w' := by
  obtain ⟨b, _, _, rfl, rr, _, _⟩ := h
  have rr1 := Row.alloc rr (Obj.cells (vB (u ++ v)).toArray 59)
  have c2 := rr1.cell 32 _ (ncs_cnt _ _ _ _ _ (Tr.dg_len _))
  obtain ⟨n, hn⟩ : ∃ n, n = l.size + r.size := ⟨_, rfl⟩
  rw [← hn] at c2 hm
  have HNE : Hid (decide ((n : Int) = 1) = false) := decide_eq_false (by omega)
  have hq : Below w.heap.size w (w.alloc (Obj.cells (vB (u ++ v)).toArray 59)) := (Below.refl _ _).alloc (Nat.le_refl _) _
  have HQ : Hid (Below w.heap.size w (w.alloc (Obj.cells (vB (u ++ v)).toArray 59))) := hq
  have q0 : Row (w.alloc (Obj.cells (vB (u ++ v)).toArray 59)) w.heap.size (vB (u ++ v)) 59 := Row.new _ _ _
  have HRW : Hid (∀ W, Below (w.alloc (Obj.cells (vB (u ++ v)).toArray 59)).heap.size (w.alloc (Obj.cells (vB (u ++ v)).toArray 59)) W → W.rangeAt w.heap.size 0 (vB (u ++ v))) := fun W hW => (Row.below q0 hW q0.lt).all
  have HRK : Hid (∀ W, Below (w.alloc (Obj.cells (vB (u ++ v)).toArray 59)).heap.size (w.alloc (Obj.cells (vB (u ++ v)).toArray 59)) W → W.rangeAt w.heap.size 0 (vB u)) := fun W hW => by
    have h := HRW.out W hW
    rw [vB_append] at h
    exact range_left h
  have HIU : Hid ((Tryd.prog.info? 29).map (·.size) = some (vB u).length) := by show _ = _; rw [vB_length, hu]; exact info_dig
  have HIB : Hid ((Tryd.prog.info? 59).map (·.size) = some (vB (u ++ v)).length) := info_bdl (by rw [List.length_append, hu, hv])
  have HUL : Hid (u.length = 32) := hu
  have HKL : Hid (∀ W, Below w.heap.size w W → Tab W 3) := fun W hB => hK.below hB hK.lt
  have HBT : Hid (∀ W, Calls Tryd.prog 61 #[.agg (vB u).toArray, .int .i64 (i : Int)] W fun e w' => e = .returned (.bool false) ∧ Below W.heap.size W w') := fun W => by rw [← hB]; exact bitAt_any u hu i hi W
  have HH : Hid (∀ W, Below w.heap.size w W → _) := HH0
  have IH : Hid (∀ q W, NodeAt W L q → _) := IH0
  have HS : Hid (S.size + R.size < 4611686018427387904) := hs
  clear hB HH0 IH0 hs hK hu hv q0 hq rr1 rr hm hn
  go_enter Tryd.func39, Tryd.ntmps39
  go_upto_region 1 with fail
  refine wp_region_quiet_lit (by kernel_rfl) (by kernel_rfl) ?_
  repeat (first
    | go_big_quiet_skip
    | (go_big_quiet_want
       first
         | (refine quiet_eql_i (.tmp 15) 1 (n : Int) rfl rfl false HNE.out ?_; go_big_quiet_on; simp only [Act.put, List.setIfInBounds_toArray, List.set_cons_zero, List.set_cons_succ])
         | (go_big_quiet_op; go_big_quiet_on)))
  refine wpQuiet_nil ?_
  intro _ hw'
  obtain ⟨nq, hw''⟩ := hw'
  subst hw''
  have BQ : Hid (Below (w.alloc (Obj.cells (vB (u ++ v)).toArray 59)).heap.size (w.alloc (Obj.cells (vB (u ++ v)).toArray 59)) ((w.alloc (Obj.cells (vB (u ++ v)).toArray 59)).drewN nq)) := below_drewN (Below.refl _ _) _
  generalize ((w.alloc (Obj.cells (vB (u ++ v)).toArray 59)).drewN nq) = W0 at *
  go_upto_region 4 with (go_at_call 60; refine Calls.mono (HH.out _ (HQ.out.trans (BQ.out.mono HQ.out.size))) ?_; rintro e X ⟨pl, pr, rfl, hl, hr, q⟩; have NL : Hid (NodeAt X L pl) := hl; have NR : Hid (NodeAt X R pr) := hr; have BX : Hid (Below _ _ X) := BQ.out.trans (q.mono BQ.out.size); clear hl hr q)
  go_upto_region 6 with (first
    | (refine wpList_load_w rfl 29 (.tmp 36) rfl w.heap.size 0 rfl (vB u) _ (HRK.out _ BX.out) Tryd.underlying29 rfl HIU.out ?_; simp only [Act.put, List.setIfInBounds_toArray, List.set_cons_zero, List.set_cons_succ])
    | (go_at_call 61; refine Calls.mono (HBT.out _) ?_; rintro e Y ⟨rfl, q⟩; have ML : Hid (NodeAt Y L pl) := NodeAt.be q _ _ NL.out; have MR : Hid (NodeAt Y R pr) := NodeAt.be q _ _ NR.out; have BY : Hid (Below _ _ Y) := BX.out.trans (q.mono BX.out.size); clear q))
  go_upto_region 7 with (first
    | (refine wpList_load_w rfl 59 (.tmp 4) rfl w.heap.size 0 rfl (vB (u ++ v)) _ (HRW.out _ BY.out) Tryd.underlying59 rfl HIB.out ?_; simp only [Act.put, List.setIfInBounds_toArray, List.set_cons_zero, List.set_cons_succ])
    | (go_at_call 39; refine Calls.mono (IH.out _ _ ML.out (HQ.out.trans (BY.out.mono HQ.out.size))) ?_; rintro e V ⟨q', rfl, hn, q⟩; have NV : Hid (NodeAt V S q') := hn; have NO : Hid (NodeAt V R _) := NodeAt.be q _ _ MR.out; have BV : Hid (Below _ _ V) := BY.out.trans (q.mono BY.out.size); clear hn q))
  go_wp2_with (go_at_call 62; refine Calls.mono (join_any _ _ _ _ _ NV.out NO.out HS.out (HKL.out _ (HQ.out.trans (BV.out.mono HQ.out.size)))) ?_; rintro e Z ⟨q2, rfl, hn, q⟩; have NZ : Hid (NodeAt Z (S.join R) q2) := hn; have BZ : Hid (Below w.heap.size w Z) := HQ.out.trans ((BV.out.trans (q.mono BV.out.size)).mono HQ.out.size); clear hn q)
  go_ret
  exact ⟨_, rfl, NZ.out, BZ.out⟩

end Go.Proofs.YtfdgdmehgbmnkaaDoor
