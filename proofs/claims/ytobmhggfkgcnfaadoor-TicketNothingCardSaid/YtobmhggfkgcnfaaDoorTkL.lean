/-
  calls without a state; the law TicketNothing: the walk.
-/
import Derived.Test.YtobmhggfkgcnfaaDoorTkK
namespace Go.Proofs.YtobmhggfkgcnfaaDoor
open Go Go.RowKit Go.Maps
open Sha
open Wd

set_option maxRecDepth 100000 in
theorem open_nil (M : List Value) (w : World) : Calls Tryd.prog 6 #[.pointer none, .agg M.toArray] w fun e w' => e = .returned (.tuple #[.int .i64 0, .int .i64 1]) ∧ Below w.heap.size w w' := by
  go_enter Tryd.func6, Tryd.ntmps6
  go_wp2
  go_ret2
  exact ⟨rfl, (Below.refl _ _).alloc (Nat.le_refl _) _⟩
set_option maxRecDepth 100000 in
theorem made_nil (w : World) : Calls Tryd.prog 8 #[.pointer none] w fun e w' => e = .returned (.tuple #[.int .i64 0, .int .i64 1]) ∧ w' = w := by
  go_enter Tryd.func8, Tryd.ntmps8
  go_wp2
  go_ret2
  exact ⟨rfl, rfl⟩
set_option maxRecDepth 100000 in
theorem retry_nil (n : Int) (w : World) : Calls Tryd.prog 9 #[.pointer none, .int .i64 n] w fun e w' => e = .returned (.int .i64 1) ∧ Below w.heap.size w w' := by
  obtain ⟨L, hL⟩ : ∃ L, L = tz 0 := ⟨_, rfl⟩
  have HF : Hid _ := find_nil n L hL w
  have HI : Hid ((Tryd.prog.info? 29).map (·.size) = some L.length) := by show _ = _; rw [hL]; exact info_tk
  have HN : Hid (L.length = (tz 0).length) := by show _ = _; rw [hL]
  have HO : Hid (L.toArray.all (·.oneCell') = true) := tz_one 0 hL
  clear hL
  go_enter Tryd.func9, Tryd.ntmps9
  go_wp2_with fail
  refine Calls.mono HF.out ?_
  rintro e V ⟨rfl, hB⟩
  have HB : Hid (Below w.heap.size w V) := hB
  clear hB HF
  go_wp2_with (first
    | (refine wpList_allocT rfl rfl ?_; intro X q1 q2 q3; have R5 : Hid (Row X _ (tz 0) 29) := q1; have B5 : Hid (Below _ _ X) := q2; clear q1 q2 q3; simp only [Act.put, List.setIfInBounds_toArray, List.set_cons_zero, List.set_cons_succ])
    | (refine wpList_storeL rfl 29 (.tmp 5) (.tmp 12) rfl V.heap.size L (tz 0) 29 rfl rfl R5.out HN.out HI.out HO.out ?_; intro Y q1 q2; have HY : Hid (Y = _) := q1; have RY : Hid (Row Y V.heap.size L 29) := q2; clear q1 q2; simp only [Act.put]))
  go_ret
  exact ⟨rfl, by rw [HY.out]; exact below_setCells (HB.out.trans (B5.out.mono HB.out.size)) HB.out.size _⟩
set_option maxRecDepth 100000 in
theorem cancel_nil (n : Int) (M : List Value) (L : List Value) (hL : L = tz 0) (w : World) : Calls Tryd.prog 10 #[.pointer none, .int .i64 n, .agg M.toArray] w fun e w' => e = .returned (.tuple #[.agg L.toArray, .int .i64 1]) ∧ Below w.heap.size w w' := by
  have HL : Hid (L = tz 0) := hL
  have HI : Hid ((Tryd.prog.info? 29).map (·.size) = some L.length) := by show _ = _; rw [hL]; exact info_tk
  have HN : Hid (L.length = (tz 0).length) := by show _ = _; rw [hL]
  have HO : Hid (L.toArray.all (·.oneCell') = true) := tz_one 0 hL
  clear hL
  go_enter Tryd.func10, Tryd.ntmps10
  go_wp2_with (first
    | (refine wpList_boxA rfl (.tmp 2) rfl M rfl ?_; intro X0 q1 q2 q3; have B0 : Hid (Below w.heap.size w X0) := q2; clear q1 q2 q3; simp only [Act.put, List.setIfInBounds_toArray, List.set_cons_zero, List.set_cons_succ])
    | (refine wpList_allocT rfl rfl ?_; intro X q1 q2 q3; have R6 : Hid (Row X _ (tz 0) 29) := q1; have B6 : Hid (Below _ _ X) := q2; clear q1 q2 q3; simp only [Act.put, List.setIfInBounds_toArray, List.set_cons_zero, List.set_cons_succ]))
  obtain ⟨b6, hb6⟩ : ∃ b, b = X0.heap.size := ⟨_, rfl⟩
  have HW6 : Hid (w.heap.size ≤ b6) := by show _ ≤ _; rw [hb6]; exact B0.out.size
  have BX : Hid (Below w.heap.size w X) := B0.out.trans (B6.out.mono B0.out.size)
  rw [← hb6] at R6
  rw [← hb6]
  clear hb6 B0 B6
  refine Calls.mono (find_nil n L HL.out X) ?_
  rintro e V ⟨rfl, hB⟩
  replace R6 : Hid (Row V b6 (tz 0) 29) := Row.below R6.out hB R6.out.lt
  have BV : Hid (Below w.heap.size w V) := BX.out.trans (hB.mono BX.out.size)
  obtain ⟨p8, hp8⟩ : ∃ p, p = V.heap.size := ⟨_, rfl⟩
  have HP8 : Hid (p8 = V.heap.size) := hp8
  clear hB BX hp8
  go_upto_region 2 with (first
    | (refine wpList_allocT rfl rfl ?_; intro X8 q1 q2 q3; have R8 : Hid (Row X8 _ (tz 0) 29) := q1; have B8 : Hid (Below _ _ X8) := q2; clear q1 q2 q3; simp only [Act.put, List.setIfInBounds_toArray, List.set_cons_zero, List.set_cons_succ])
    | (refine wpList_storeL rfl 29 (.tmp 8) (.tmp 15) rfl V.heap.size L (tz 0) 29 rfl rfl R8.out HN.out HI.out HO.out ?_; intro Y8 q1 q2; have HY8 : Hid (Y8 = _) := q1; have RY8 : Hid (Row Y8 V.heap.size L 29) := q2; clear q1 q2; simp only [Act.put]))
  have b8 : Below V.heap.size V Y8 := by rw [HY8.out]; exact below_setCells B8.out (Nat.le_refl _) _
  replace R6 : Hid (Row Y8 b6 (tz 0) 29) := Row.below R6.out b8 R6.out.lt
  replace BV : Hid (Below w.heap.size w Y8) := BV.out.trans (b8.mono BV.out.size)
  clear b8 B8 HY8 RY8 R8 HP8
  go_wp2_with (first
    | (refine wpList_buildZ rfl rfl L HL.out ?_; simp only [Act.put, List.setIfInBounds_toArray, List.set_cons_zero, List.set_cons_succ])
    | (refine wpList_storeL rfl 29 (.tmp 6) (.tmp 20) rfl b6 L (tz 0) 29 rfl rfl R6.out HN.out HI.out HO.out ?_; intro Y q1 q2; have HY : Hid (Y = _) := q1; have RY : Hid (Row Y b6 L 29) := q2; clear q1 q2; simp only [Act.put]))
  exact bodyPost_ret (resT_row_tmp Tryd.results10 _ _ b6 29 L (.int .i64 1) rfl rfl RY.out Tryd.underlying29 HI.out) rfl ⟨rfl, by rw [HY.out]; exact below_setCells BV.out HW6.out _⟩
section
variable {ops : Array Oper} {rest : List Oper} {op : Oper} {a : Act} {w : World} {Q : Exit → Act → World → Prop}
theorem wpList_buildZw (hw : Region.wanted op (yielded ops a.tmps) = true) (ho : op.op = .build 29 #[]) (L : List Value) (hL : L = tz 0) (h : wpList Tryd.prog ops Q rest (a.put op.dst (.agg L.toArray)) w) : wpList Tryd.prog ops Q (op :: rest) a w :=
  BigFrame.wpList_want hw fun _ hK => by
    subst hL
    have hr := build_tk0 w
    unfold Oper.wp execOp
    simp only [ho, List.map_toArray, List.map_nil, Sem.run_bind, hr, Result.andThen_ok, Sem.run_pure, Oper.upon_value]
    exact hK _ _ h
end
theorem sub_range {w : World} {b : Nat} {cs : List Value} {t : TypeId} (r : Row w b cs t) (o n : Nat) : w.rangeAt b o ((cs.drop o).take n) := r.range o _ (fun j v hj => by
  rw [List.getElem?_take] at hj
  split at hj
  · rwa [List.getElem?_drop] at hj
  · cases hj)
theorem sub_len {cs : List Value} (hl : cs.length = 49) (o n : Nat) (h : o + n ≤ 49) : ((cs.drop o).take n).length = n := by rw [List.length_take, List.length_drop, hl]; omega
set_option maxRecDepth 100000 in
set_option maxHeartbeats 4000000 in
theorem nothing_walk (cs : List Value) (hl : cs.length = 49) (z : Int) (hz : cs[1]? = some (.int .i64 z)) (w : World) : Calls Tryd.prog 4 #[.agg cs.toArray] w fun e w' => e = .returned (.bool true) ∧ Below w.heap.size w w' := by
  obtain ⟨b, hb⟩ : ∃ b, b = w.heap.size := ⟨_, rfl⟩
  obtain ⟨W1, hW1, r1, b1⟩ : ∃ W, W = w.alloc (Obj.cells cs.toArray 31) ∧ Row W b cs 31 ∧ Below w.heap.size w W := ⟨_, rfl, Row.new' hb rfl, (Below.refl _ _).alloc (Nat.le_refl _) _⟩
  obtain ⟨M, hM⟩ : ∃ M, M = (cs.drop 2).take 47 := ⟨_, rfl⟩
  obtain ⟨A, hA⟩ : ∃ A, A = (cs.drop 4).take 20 := ⟨_, rfl⟩
  obtain ⟨L, hL⟩ : ∃ L, L = tz 0 := ⟨_, rfl⟩
  have HM : Hid (M = (cs.drop 2).take 47) := hM
  have HA : Hid (A = (cs.drop 4).take 20) := hA
  have HL : Hid (L = tz 0) := hL
  have HI : Hid ((Tryd.prog.info? 29).map (·.size) = some L.length) := by show _ = _; rw [hL]; exact info_tk
  have HN : Hid (L.length = (tz 0).length) := by show _ = _; rw [hL]
  have HO : Hid (L.toArray.all (·.oneCell') = true) := tz_one 0 hL
  have HE : Hid (∀ w, (binOp .eql 29 (.agg L.toArray) (.agg L.toArray)).run Tryd.prog w = .ok (.bool true) w) := fun w => eqT0 L hL w
  have HIM : Hid ((Tryd.prog.info? 29).map (·.size) = some M.length) := by show _ = _; rw [hM, sub_len hl 2 47 (by decide)]; exact info_tk
  have HIA : Hid ((Tryd.prog.info? 24).map (·.size) = some A.length) := by show _ = _; rw [hA, sub_len hl 4 20 (by decide)]; kernel_rfl
  have HZ : Hid (cs[1]? = some (.int .i64 z)) := hz
  have HW : Hid (W1 = _) := hW1
  have HBE : Hid (b = w.heap.size) := hb
  have RB : Hid (Row W1 b cs 31) := r1
  have BB : Hid (Below w.heap.size w W1) := b1
  clear hl hz hb hW1 r1 b1 hM hA hL
  go_enter Tryd.func4, Tryd.ntmps4
  go_upto_region 1 with fail
  rw [← HW.out, ← HBE.out]
  clear HW HBE
  have RM : Hid (W1.rangeAt b 2 M) := by rw [HM.out]; exact sub_range RB.out 2 47
  go_wp2_with (refine wpList_load_w rfl 29 (.tmp 14) rfl b 2 rfl M _ RM.out Tryd.underlying29 rfl HIM.out ?_; simp only [Act.put, List.setIfInBounds_toArray, List.set_cons_zero, List.set_cons_succ])
  refine Calls.mono (open_nil M W1) ?_
  rintro e V1 ⟨rfl, hB⟩
  replace RB : Hid (Row V1 b cs 31) := Row.below RB.out hB RB.out.lt
  replace BB : Hid (Below w.heap.size w V1) := BB.out.trans (hB.mono BB.out.size)
  have c1 := RB.out.cell 1 _ HZ.out
  clear hB RM
  go_wp2_with fail
  refine Calls.mono (find_nil z L HL.out V1) ?_
  rintro e V2 ⟨rfl, hB⟩
  replace RB : Hid (Row V2 b cs 31) := Row.below RB.out hB RB.out.lt
  replace BB : Hid (Below w.heap.size w V2) := BB.out.trans (hB.mono BB.out.size)
  obtain ⟨b5, hb5⟩ : ∃ b, b = V2.heap.size := ⟨_, rfl⟩
  have HB5 : Hid (b5 = V2.heap.size) := hb5
  clear hB hb5 c1
  go_upto_region 3 with (first
    | (refine wpList_allocT rfl rfl ?_; intro X5 q1 q2 q3; have R5 : Hid (Row X5 _ (tz 0) 29) := q1; have B5 : Hid (Below _ _ X5) := q2; clear q1 q2 q3; simp only [Act.put, List.setIfInBounds_toArray, List.set_cons_zero, List.set_cons_succ])
    | (refine wpList_storeL rfl 29 (.tmp 5) (.tmp 23) rfl V2.heap.size L (tz 0) 29 rfl rfl R5.out HN.out HI.out HO.out ?_; intro Y5 q1 q2; have HY5 : Hid (Y5 = _) := q1; have RY5 : Hid (Row Y5 V2.heap.size L 29) := q2; clear q1 q2; simp only [Act.put]))
  rw [← HB5.out] at RY5 HY5
  rw [← HB5.out]
  have b8 : Below V2.heap.size V2 Y5 := by rw [HY5.out]; exact below_setCells B5.out (by rw [HB5.out]; exact Nat.le_refl _) _
  replace RB : Hid (Row Y5 b cs 31) := Row.below RB.out b8 RB.out.lt
  replace R5 : Hid (Row Y5 b5 L 29) := RY5.out
  replace BB : Hid (Below w.heap.size w Y5) := BB.out.trans (b8.mono BB.out.size)
  clear b8 RY5 HY5 B5 HB5
  go_wp2_with fail
  refine Calls.mono (made_nil Y5) ?_
  rintro e Vx ⟨rfl, hqq⟩
  obtain rfl := hqq.symm
  have c1 := RB.out.cell 1 _ HZ.out
  go_wp2_with fail
  refine Calls.mono (retry_nil z Y5) ?_
  rintro e V3 ⟨rfl, hB⟩
  replace RB : Hid (Row V3 b cs 31) := Row.below RB.out hB RB.out.lt
  replace R5 : Hid (Row V3 b5 L 29) := Row.below R5.out hB R5.out.lt
  replace BB : Hid (Below w.heap.size w V3) := BB.out.trans (hB.mono BB.out.size)
  clear hB c1
  have c1 := RB.out.cell 1 _ HZ.out
  have RA : Hid (V3.rangeAt b 4 A) := by rw [HA.out]; exact sub_range RB.out 4 20
  go_wp2_with (refine wpList_load_w rfl 24 (.tmp 36) rfl b 4 rfl A _ RA.out Tryd.underlying24 rfl HIA.out ?_; simp only [Act.put, List.setIfInBounds_toArray, List.set_cons_zero, List.set_cons_succ])
  refine Calls.mono (cancel_nil z A L HL.out V3) ?_
  rintro e V4 ⟨rfl, hB⟩
  replace R5 : Hid (Row V4 b5 L 29) := Row.below R5.out hB R5.out.lt
  replace BB : Hid (Below w.heap.size w V4) := BB.out.trans (hB.mono BB.out.size)
  obtain ⟨b10, hb10⟩ : ∃ b, b = V4.heap.size := ⟨_, rfl⟩
  have HB10 : Hid (b10 = V4.heap.size) := hb10
  clear hB hb10 c1 RA RB
  go_upto_region 6 with (first
    | (refine wpList_allocT rfl rfl ?_; intro X6 q1 q2 q3; have R6 : Hid (Row X6 _ (tz 0) 29) := q1; have B6 : Hid (Below _ _ X6) := q2; clear q1 q2 q3; simp only [Act.put, List.setIfInBounds_toArray, List.set_cons_zero, List.set_cons_succ])
    | (refine wpList_storeL rfl 29 (.tmp 10) (.tmp 39) rfl V4.heap.size L (tz 0) 29 rfl rfl R6.out HN.out HI.out HO.out ?_; intro Y6 q1 q2; have HY6 : Hid (Y6 = _) := q1; have RY6 : Hid (Row Y6 V4.heap.size L 29) := q2; clear q1 q2; simp only [Act.put]))
  rw [← HB10.out] at RY6 HY6
  rw [← HB10.out]
  have b8 : Below V4.heap.size V4 Y6 := by rw [HY6.out]; exact below_setCells B6.out (by rw [HB10.out]; exact Nat.le_refl _) _
  have S5 : Hid (Y6.rangeAt b5 0 L) := (Row.below R5.out b8 R5.out.lt).all
  have S10 : Hid (Y6.rangeAt b10 0 L) := RY6.out.all
  replace BB : Hid (Below w.heap.size w Y6) := BB.out.trans (b8.mono BB.out.size)
  clear b8 RY6 HY6 B6 R6 HB10 R5
  go_wp2_with (first
    | (refine wpList_load_w rfl 29 (.tmp 5) rfl b5 0 rfl L _ S5.out Tryd.underlying29 rfl HI.out ?_; simp only [Act.put, List.setIfInBounds_toArray, List.set_cons_zero, List.set_cons_succ])
    | (refine wpList_load_w rfl 29 (.tmp 10) rfl b10 0 rfl L _ S10.out Tryd.underlying29 rfl HI.out ?_; simp only [Act.put, List.setIfInBounds_toArray, List.set_cons_zero, List.set_cons_succ])
    | (refine wpList_buildZw rfl rfl L HL.out ?_; simp only [Act.put, List.setIfInBounds_toArray, List.set_cons_zero, List.set_cons_succ])
    | (refine wpList_eqlT rfl (.tmp 48) (.tmp 49) _ rfl L rfl rfl HE.out ?_; simp only [Act.put, List.setIfInBounds_toArray, List.set_cons_zero, List.set_cons_succ])
    | (refine wpList_eqlT rfl (.tmp 53) (.tmp 54) _ rfl L rfl rfl HE.out ?_; simp only [Act.put, List.setIfInBounds_toArray, List.set_cons_zero, List.set_cons_succ]))
  refine Calls.mono (known_any Y6) ?_
  rintro e V5 ⟨rfl, hB⟩
  replace BB : Hid (Below w.heap.size w V5) := BB.out.trans (hB.mono BB.out.size)
  clear hB S5 S10
  go_wp2_with fail
  go_ret
  exact ⟨rfl, BB.out⟩

end Go.Proofs.YtobmhggfkgcnfaaDoor
