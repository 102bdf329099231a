/-
  the outbox without a state: the law OutboxNothing.
-/
import Derived.Test.YtekgojokhjihfaaDoorObD
namespace Go.Proofs.YtekgojokhjihfaaDoor
open Go Go.RowKit
open Sha

theorem results_rowA_tmp {P : Program} {fn : Func} {p q : Tmp} {ty : TypeId} {k : Nat} {e : TypeId} (h : fn.results = #[.cell p ty, .tmp q]) (tmps : Array Value) (w : World) (g : Nat) (t : TypeId) (cs : List Value) (v : Value)
    (hp : tmps.getD p undef = .pointer (some ⟨g, 0, none⟩)) (hv : tmps.getD q undef = v) (hg : Row w g cs t) (hu : P.underlying ty = some (.array k e)) (hi : (P.info? ty).map (·.size) = some cs.length) :
    (results fn tmps).run P w = .ok (.tuple #[.agg cs.toArray, v]) w := by
  have hp' : tmps[p]?.getD undef = .pointer (some ⟨g, 0, none⟩) := by simpa using hp
  have hv' : tmps[q]?.getD undef = v := by simpa using hv
  have hr := run_loadVar_row (P := P) w g t ty cs.toArray (0, 0) (.array k e) hg hu rfl (by simp [hi])
  simp [results, h, hp', hv', asAddr, hr]
def zBx : List Value := [.pointer none]
theorem info_bx : (Tryd.prog.info? 64).map (·.size) = some zBx.length := by kernel_rfl
theorem info_dg : (Tryd.prog.info? 25).map (·.size) = some (vB (List.replicate 32 0#8)).length := by kernel_rfl
theorem zBx_one : zBx.toArray.all (·.oneCell') = true := by rw [← Array.all_toList]; rfl
theorem zD_one : (vB (List.replicate 32 0#8)).toArray.all (·.oneCell') = true := vB_all _
theorem guardD : Tryd.prog.eqGuardType Tryd.prog.depth 25 = false := by kernel_rfl
section
variable {ops : Array Oper} {rest : List Oper} {op : Oper} {a : Act} {w : World} {Q : Exit → Act → World → Prop}
theorem wpList_allocBx (hgd : op.guard = none) (ho : op.op = .alloc 64) (h : ∀ X, Row X w.heap.size zBx 64 → Below w.heap.size w X → X.heap.size = w.heap.size + 1 → wpList Tryd.prog ops Q rest (a.put op.dst (.pointer (some ⟨w.heap.size, 0, none⟩))) X) : wpList Tryd.prog ops Q (op :: rest) a w :=
  wpList_plain hgd fun _ hK => by
    unfold Oper.wp execOp
    simp only [ho]
    go_simp
    exact hK _ _ (h _ (Row.new' (cs := zBx) rfl rfl) ((Below.refl _ _).alloc (Nat.le_refl _) _) (by simp))
theorem wpList_allocD (hgd : op.guard = none) (ho : op.op = .alloc 25) (h : ∀ X, Row X w.heap.size (vB (List.replicate 32 0#8)) 25 → Below w.heap.size w X → X.heap.size = w.heap.size + 1 → wpList Tryd.prog ops Q rest (a.put op.dst (.pointer (some ⟨w.heap.size, 0, none⟩))) X) : wpList Tryd.prog ops Q (op :: rest) a w :=
  wpList_plain hgd fun _ hK => by
    unfold Oper.wp execOp
    simp only [ho]
    go_simp
    exact hK _ _ (h _ (Row.new' (cs := (vB (List.replicate 32 0#8))) rfl rfl) ((Below.refl _ _).alloc (Nat.le_refl _) _) (by simp))
theorem built_d : Tryd.prog.built 25 [] = some (vB (List.replicate 32 0#8)).toArray := by kernel_rfl
theorem wpList_buildD (hw : Region.wanted op (yielded ops a.tmps) = true) (ho : op.op = .build 25 #[]) (h : wpList Tryd.prog ops Q rest (a.put op.dst (.agg (vB (List.replicate 32 0#8)).toArray)) w) : wpList Tryd.prog ops Q (op :: rest) a w :=
  BigFrame.wpList_want hw fun _ hK => by
    have hr := run_build (P := Tryd.prog) w 25 #[] _ built_d
    unfold Oper.wp execOp
    simp only [ho, List.map_toArray, List.map_nil, Sem.run_bind, hr, Result.andThen_ok, Sem.run_pure, Oper.upon_value]
    exact hK _ _ h
end
set_option maxRecDepth 100000 in
set_option maxHeartbeats 4000000 in
theorem ask_nil (w : World) : Calls Tryd.prog 22 #[.pointer none] w fun e w' => e = .returned (.tuple #[.agg zBx.toArray, .int .i64 1]) ∧ Below w.heap.size w w' := by
  go_enter Tryd.func22, Tryd.ntmps22
  go_wp2_with (first
    | (refine wpList_allocBx rfl rfl ?_; intro X0 q1 q2 q3; have RQ : Hid (Row X0 w.heap.size zBx 64) := q1; have B0 : Hid (Below w.heap.size w X0) := q2; clear q1 q2 q3; simp only [Act.put, List.setIfInBounds_toArray, List.set_cons_zero, List.set_cons_succ])
    | (refine wpList_storeL rfl 64 (.tmp 2) (.tmp 8) rfl w.heap.size zBx zBx 64 rfl rfl RQ.out rfl info_bx zBx_one ?_; intro X9 q1 q2; have E9 : Hid (X9 = _) := q1; have R9 : Hid (Row X9 w.heap.size zBx 64) := q2; clear q1 q2; simp only [Act.put]))
  have hE : Below w.heap.size w X9 := by rw [E9.out]; exact below_setCells B0.out (Nat.le_refl _) _
  exact bodyPost_ret (results_rowS_tmp Tryd.results22 _ _ w.heap.size 64 zBx (.int .i64 1) rfl rfl R9.out Tryd.underlying64 info_bx) rfl ⟨rfl, hE⟩
set_option maxRecDepth 100000 in
set_option maxHeartbeats 4000000 in
theorem add_nil (L : List Value) (w : World) : Calls Tryd.prog 9 #[.pointer none, .agg L.toArray] w fun e w' => e = .returned (.tuple #[.int .i64 0, .int .i64 1]) ∧ Below w.heap.size w w' := by
  go_enter Tryd.func9, Tryd.ntmps9
  go_wp2_with (refine wpList_boxG 32 rfl (.tmp 1) rfl L rfl ?_; intro X1 q1 q2 q3; have B1 : Hid (Below w.heap.size w X1) := q2; clear q1 q2 q3; simp only [Act.put, List.setIfInBounds_toArray, List.set_cons_zero, List.set_cons_succ])
  go_ret2
  exact ⟨rfl, B1.out⟩
set_option maxRecDepth 100000 in
set_option maxHeartbeats 4000000 in
theorem size_nil (w : World) : Calls Tryd.prog 10 #[.pointer none] w fun e w' => e = .returned (.tuple #[.int .i64 0, .int .i64 1]) ∧ Below w.heap.size w w' := by
  go_enter Tryd.func10, Tryd.ntmps10
  go_wp2_with (first
    | (go_at_call 22; refine Calls.mono (ask_nil w) ?_; rintro e X1 ⟨rfl, q⟩; have B1 : Hid (Below w.heap.size w X1) := q; clear q)
    | (refine wpList_allocBx rfl rfl ?_; intro X2 q1 q2 q3; have R2 : Hid (Row X2 X1.heap.size zBx 64) := q1; have B2 : Hid (Below X1.heap.size X1 X2) := q2; clear q1 q2 q3; simp only [Act.put, List.setIfInBounds_toArray, List.set_cons_zero, List.set_cons_succ])
    | (refine wpList_storeL rfl 64 (.tmp 4) (.tmp 9) rfl X1.heap.size zBx zBx 64 rfl rfl R2.out rfl info_bx zBx_one ?_; intro X3 q1 q2; have E3 : Hid (X3 = _) := q1; have R3 : Hid (Row X3 X1.heap.size zBx 64) := q2; clear q1 q2; simp only [Act.put]))
  go_ret2
  exact ⟨rfl, B1.out.trans ((by rw [E3.out]; exact below_setCells B2.out (Nat.le_refl _) _ : Below X1.heap.size X1 X3).mono B1.out.size)⟩
set_option maxRecDepth 100000 in
set_option maxHeartbeats 4000000 in
theorem root_nil (w : World) : Calls Tryd.prog 11 #[.pointer none] w fun e w' => e = .returned (.tuple #[.agg (vB (List.replicate 32 0#8)).toArray, .int .i64 1]) ∧ Below w.heap.size w w' := by
  go_enter Tryd.func11, Tryd.ntmps11
  go_upto_region 3 with (first
    | (refine wpList_allocD rfl rfl ?_; intro X0 q1 q2 q3; have RQ : Hid (Row X0 w.heap.size (vB (List.replicate 32 0#8)) 25) := q1; have B0 : Hid (Below w.heap.size w X0) := q2; clear q1 q2 q3; simp only [Act.put, List.setIfInBounds_toArray, List.set_cons_zero, List.set_cons_succ])
    | (go_at_call 22; refine Calls.mono (ask_nil X0) ?_; rintro e X1 ⟨rfl, q⟩; have B1 : Hid (Below w.heap.size w X1) := B0.out.trans (q.mono B0.out.size); have RQ1 : Hid (Row X1 w.heap.size (vB (List.replicate 32 0#8)) 25) := Row.below RQ.out q RQ.out.lt; clear q)
    | (refine wpList_allocBx rfl rfl ?_; intro X2 q1 q2 q3; have R2 : Hid (Row X2 X1.heap.size zBx 64) := q1; have B2 : Hid (Below X1.heap.size X1 X2) := q2; clear q1 q2 q3; simp only [Act.put, List.setIfInBounds_toArray, List.set_cons_zero, List.set_cons_succ])
    | (refine wpList_storeL rfl 64 (.tmp 4) (.tmp 9) rfl X1.heap.size zBx zBx 64 rfl rfl R2.out rfl info_bx zBx_one ?_; intro X3 q1 q2; have E3 : Hid (X3 = _) := q1; have R3 : Hid (Row X3 X1.heap.size zBx 64) := q2; clear q1 q2; simp only [Act.put]))
  have D3 : Below X1.heap.size X1 X3 := by rw [E3.out]; exact below_setCells B2.out (Nat.le_refl _) _
  have B3 : Hid (Below w.heap.size w X3) := B1.out.trans (D3.mono B1.out.size)
  have RQ3 : Hid (Row X3 w.heap.size (vB (List.replicate 32 0#8)) 25) := Row.below RQ1.out D3 RQ1.out.lt
  clear D3 E3 R3 R2 B2 RQ RQ1 B0 B1
  go_wp2_with (first
    | (refine wpList_buildD rfl rfl ?_; simp only [Act.put, List.setIfInBounds_toArray, List.set_cons_zero, List.set_cons_succ])
    | (refine wpList_storeL rfl 25 (.tmp 2) (.tmp 13) rfl w.heap.size (vB (List.replicate 32 0#8)) (vB (List.replicate 32 0#8)) 25 rfl rfl RQ3.out rfl info_dg zD_one ?_; intro X9 q1 q2; have E9 : Hid (X9 = _) := q1; have R9 : Hid (Row X9 w.heap.size (vB (List.replicate 32 0#8)) 25) := q2; clear q1 q2; simp only [Act.put]))
  have hE : Below w.heap.size w X9 := by rw [E9.out]; exact below_setCells B3.out (Nat.le_refl _) _
  exact bodyPost_ret (results_rowA_tmp Tryd.results11 _ _ w.heap.size 25 (vB (List.replicate 32 0#8)) (.int .i64 1) rfl rfl R9.out Tryd.underlying25 info_dg) rfl ⟨rfl, hE⟩
set_option maxRecDepth 100000 in
set_option maxHeartbeats 4000000 in
theorem nothing_walk (L : List Value) (hl : L.length = 27) (w : World) : Calls Tryd.prog 4 #[.agg L.toArray] w fun e w' => e = .returned (.bool true) ∧ Below w.heap.size w w' := by
  have HI : Hid ((Tryd.prog.info? 32).map (·.size) = some L.length) := by show _ = _; rw [hl]; kernel_rfl
  clear hl
  go_enter Tryd.func4, Tryd.ntmps4
  go_upto_region 2 with (first
    | (refine wpList_boxG 32 rfl (.tmp 0) rfl L rfl ?_; intro X1 q1 q2 q3; have R1 : Hid (Row X1 w.heap.size L 32) := q1; have B1 : Hid (Below w.heap.size w X1) := q2; clear q1 q2 q3; simp only [Act.put, List.setIfInBounds_toArray, List.set_cons_zero, List.set_cons_succ])
    | (refine wpList_load_w rfl 32 (.tmp 1) rfl w.heap.size 0 rfl L _ R1.out.all Tryd.underlying32 rfl HI.out ?_; simp only [Act.put, List.setIfInBounds_toArray, List.set_cons_zero, List.set_cons_succ])
    | (go_at_call 9; refine Calls.mono (add_nil L X1) ?_; rintro e X2 ⟨rfl, q⟩; have B2 : Hid (Below w.heap.size w X2) := B1.out.trans (q.mono B1.out.size); clear q))
  go_upto_region 3 with (go_at_call 10; refine Calls.mono (size_nil X2) ?_; rintro e X3 ⟨rfl, q⟩; have B3 : Hid (Below w.heap.size w X3) := B2.out.trans (q.mono B2.out.size); clear q)
  go_upto_region 4 with (first
    | (go_at_call 11; refine Calls.mono (root_nil X3) ?_; rintro e X4 ⟨rfl, q⟩; have B4 : Hid (Below w.heap.size w X4) := B3.out.trans (q.mono B3.out.size); clear q)
    | (refine wpList_allocD rfl rfl ?_; intro X5 q1 q2 q3; have R5 : Hid (Row X5 X4.heap.size (vB (List.replicate 32 0#8)) 25) := q1; have B5 : Hid (Below X4.heap.size X4 X5) := q2; clear q1 q2 q3; simp only [Act.put, List.setIfInBounds_toArray, List.set_cons_zero, List.set_cons_succ])
    | (refine wpList_storeL rfl 25 (.tmp 7) (.tmp 20) rfl X4.heap.size (vB (List.replicate 32 0#8)) (vB (List.replicate 32 0#8)) 25 rfl rfl R5.out rfl info_dg zD_one ?_; intro X6 q1 q2; have E6 : Hid (X6 = _) := q1; have R6 : Hid (Row X6 X4.heap.size (vB (List.replicate 32 0#8)) 25) := q2; clear q1 q2; simp only [Act.put]))
  have D6 : Below X4.heap.size X4 X6 := by rw [E6.out]; exact below_setCells B5.out (Nat.le_refl _) _
  have B6 : Hid (Below w.heap.size w X6) := B4.out.trans (D6.mono B4.out.size)
  obtain ⟨b, hb⟩ : ∃ b, b = X4.heap.size := ⟨_, rfl⟩
  rw [← hb] at R6 ⊢
  clear D6 hb E6 R5 B5 B4 B3 B2 R1 B1
  go_wp2_with (first
    | (refine wpList_load_w rfl 25 (.tmp 7) rfl b 0 rfl (vB (List.replicate 32 0#8)) _ R6.out.all Tryd.underlying25 rfl info_dg ?_; simp only [Act.put, List.setIfInBounds_toArray, List.set_cons_zero, List.set_cons_succ])
    | (refine wpList_buildD rfl rfl ?_; simp only [Act.put, List.setIfInBounds_toArray, List.set_cons_zero, List.set_cons_succ])
    | (refine wpList_eql_b rfl 25 (.tmp 41) (.tmp 42) _ rfl 5 32 (List.replicate 32 0#8) (List.replicate 32 0#8) rfl rfl Tryd.underlying25 Tryd.underlying5 info_u8 rfl rfl guardD true (by decide) ?_; simp only [Act.put, List.setIfInBounds_toArray, List.set_cons_zero, List.set_cons_succ])
    | (go_at_call 5; refine Calls.mono (obk_any X6) ?_; rintro e X7 ⟨rfl, q⟩; have B7 : Hid (Below w.heap.size w X7) := B6.out.trans (q.mono B6.out.size); clear q))
  go_ret
  exact ⟨rfl, B7.out⟩

end Go.Proofs.YtekgojokhjihfaaDoor
