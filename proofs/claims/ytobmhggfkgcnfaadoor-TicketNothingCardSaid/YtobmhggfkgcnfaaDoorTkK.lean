/-
  known; the law TicketNames: the walk.
-/
import Derived.Test.YtobmhggfkgcnfaaDoorTkJ
namespace Go.Proofs.YtobmhggfkgcnfaaDoor
open Go Go.RowKit Go.Maps
open Sha
open Wd

set_option maxRecDepth 100000 in
theorem build_k (w : World) : (Instr.build 29 #[(1, .int .i64 7), (3, .int .i64 3), (5, .agg am4.toArray)]).run Tryd.prog w = .ok (.agg (tkc 0 (List.replicate 20 0#8) (List.replicate 20 0#8)).toArray) w := by
  have e : tkc 0 (List.replicate 20 0#8) (List.replicate 20 0#8) = [.int .i64 0, .int .i64 7, .int .u8 0, .int .u8 0, .int .u8 0, .int .u8 0, .int .u8 0, .int .u8 0, .int .u8 0, .int .u8 0, .int .u8 0, .int .u8 0, .int .u8 0, .int .u8 0, .int .u8 0, .int .u8 0, .int .u8 0, .int .u8 0, .int .u8 0, .int .u8 0, .int .u8 0, .int .u8 0, .int .i64 3, .int .u8 0, .int .u8 0, .int .u8 0, .int .u8 0, .int .u8 0, .int .u8 0, .int .u8 0, .int .u8 0, .int .u8 0, .int .u8 0, .int .u8 0, .int .u8 0, .int .u8 0, .int .u8 0, .int .u8 0, .int .u8 0, .int .u8 0, .int .u8 0, .int .u8 0, .int .u8 0, .int .u64 256, .int .u64 0, .int .u64 0, .int .u64 0] := rfl
  rw [e]
  clear e
  go_simp
set_option maxRecDepth 100000 in
theorem build_a (w : World) : (Instr.build 24 #[]).run Tryd.prog w = .ok (.agg (vB (List.replicate 20 0#8)).toArray) w := by
  have e : vB (List.replicate 20 0#8) = [.int .u8 0, .int .u8 0, .int .u8 0, .int .u8 0, .int .u8 0, .int .u8 0, .int .u8 0, .int .u8 0, .int .u8 0, .int .u8 0, .int .u8 0, .int .u8 0, .int .u8 0, .int .u8 0, .int .u8 0, .int .u8 0, .int .u8 0, .int .u8 0, .int .u8 0, .int .u8 0] := rfl
  rw [e]
  clear e
  go_simp
section
variable {ops : Array Oper} {rest : List Oper} {op : Oper} {a : Act} {w : World} {Q : Exit → Act → World → Prop}
theorem wpList_buildK (hgd : op.guard = none) (x : Operand) (ho : op.op = .build 29 #[(1, .const (.int .i64 7)), (3, .const (.int .i64 3)), (5, x)]) (hx : a.eval x = .agg am4.toArray) (L : List Value) (hL : L = tkc 0 (List.replicate 20 0#8) (List.replicate 20 0#8)) (h : wpList Tryd.prog ops Q rest (a.put op.dst (.agg L.toArray)) w) : wpList Tryd.prog ops Q (op :: rest) a w :=
  wpList_plain hgd fun _ hK => by
    subst hL
    have hr := build_k w
    have h1 : a.eval (.const (.int .i64 7)) = .int .i64 7 := rfl
    have h3 : a.eval (.const (.int .i64 3)) = .int .i64 3 := rfl
    unfold Oper.wp execOp
    simp only [ho, List.map_toArray, List.map_cons, List.map_nil, hx, h1, h3, Sem.run_bind, hr, Result.andThen_ok, Sem.run_pure, Oper.upon_value]
    exact hK _ _ h
theorem wpList_buildA (hgd : op.guard = none) (ho : op.op = .build 24 #[]) (l : List (BitVec 8)) (hl : l = (List.replicate 20 0#8)) (h : wpList Tryd.prog ops Q rest (a.put op.dst (.agg (vB l).toArray)) w) : wpList Tryd.prog ops Q (op :: rest) a w :=
  wpList_plain hgd fun _ hK => by
    subst hl
    have hr := build_a w
    unfold Oper.wp execOp
    simp only [ho, List.map_toArray, List.map_nil, Sem.run_bind, hr, Result.andThen_ok, Sem.run_pure, Oper.upon_value]
    exact hK _ _ h
end
set_option maxRecDepth 100000 in
set_option maxHeartbeats 4000000 in
theorem known_any (w : World) : Calls Tryd.prog 5 #[] w fun e w' => e = .returned (.bool true) ∧ Below w.heap.size w w' := by
  obtain ⟨z, hz⟩ : ∃ z, z = (List.replicate 20 0#8) := ⟨_, rfl⟩
  obtain ⟨L0, hL0⟩ : ∃ L, L = tkc 0 z z := ⟨_, rfl⟩
  obtain ⟨L1, hL1⟩ : ∃ L, L = L0.set 0 (.int .i64 1) := ⟨_, rfl⟩
  obtain ⟨LZ, hLZ⟩ : ∃ L, L = tz 0 := ⟨_, rfl⟩
  have hzl : z.length = 20 := by rw [hz]; rfl
  have T0 : Tl L0 0 z z := ⟨hL0, hzl, hzl⟩
  have T1 : Tl L1 1 z z := by rw [hL1]; exact T0.set1
  have HZ : Hid (z = (List.replicate 20 0#8)) := hz
  have HT0 : Hid (Tl L0 0 z z) := T0
  have HT1 : Hid (Tl L1 1 z z) := T1
  have HL1 : Hid (L1 = L0.set 0 (.int .i64 1)) := hL1
  have HLK : Hid (L0 = tkc 0 (List.replicate 20 0#8) (List.replicate 20 0#8)) := by show _ = _; rw [hL0, hz]
  have HLZ : Hid (LZ = tz 0) := hLZ
  have HE1 : Hid (∀ w, (binOp .eql 29 (.agg L1.toArray) (.agg L1.toArray)).run Tryd.prog w = .ok (.bool true) w) := fun w => eqT1 L1 (by rw [T1.eq, hz]) w
  have HI0 : Hid ((Tryd.prog.info? 29).map (·.size) = some L0.length) := by show _ = _; rw [T0.len]; exact info_tk
  have HI1 : Hid ((Tryd.prog.info? 29).map (·.size) = some L1.length) := by show _ = _; rw [T1.len]; exact info_tk
  have HIZ : Hid ((Tryd.prog.info? 29).map (·.size) = some LZ.length) := by show _ = _; rw [hLZ]; exact info_tk
  have HN0 : Hid (L0.length = (tz 0).length) := T0.len
  have HN1 : Hid (L1.length = (tz 0).length) := T1.len
  have HNZ : Hid (LZ.length = (tz 0).length) := by show _ = _; rw [hLZ]
  have HO0 : Hid (L0.toArray.all (·.oneCell') = true) := T0.one
  have HO1 : Hid (L1.toArray.all (·.oneCell') = true) := T1.one
  have HOZ : Hid (LZ.toArray.all (·.oneCell') = true) := tz_one 0 hLZ
  obtain ⟨f1, hf1⟩ : ∃ f, f = upd (upd (fun _ => []) kK (tkB z z)) nK [0#8, 0#8, 0#8, 0#8, 0#8, 0#8, 0#8, 1#8] := ⟨_, rfl⟩
  have HF1 : Hid (f1 = _) := hf1
  have HK1 : Hid (f1 kK = tkB z z) := by show _ = _; rw [hf1, upd_other _ _ _ _ (fun e => nk_ne e.symm), upd_same]
  have HK2 : Hid (upd f1 kK [] kK = []) := upd_same _ _ _
  clear hz hL0 hL1 hLZ hzl T0 T1 hf1
  go_enter Tryd.func5, Tryd.ntmps5
  go_wp2_with fail
  refine Calls.mono (fresh_nil w) ?_
  rintro e V0 ⟨S, rfl, hG⟩
  have HG : Hid (Lg w V0 S 0 (fun _ => [])) := hG
  obtain ⟨b2, hb2⟩ : ∃ b, b = V0.heap.size := ⟨_, rfl⟩
  have HB2 : Hid (b2 = V0.heap.size) := hb2
  clear hG hb2
  go_upto_region 5 with (first
    | (refine wpList_buildK rfl (.tmp 14) rfl rfl L0 HLK.out ?_; simp only [Act.put, List.setIfInBounds_toArray, List.set_cons_zero, List.set_cons_succ])
    | (refine wpList_allocT rfl rfl ?_; intro X2 q1 q2 q3; have R2 : Hid (Row X2 _ (tz 0) 29) := q1; have B2 : Hid (Below _ _ X2) := q2; clear q1 q2 q3; simp only [Act.put, List.setIfInBounds_toArray, List.set_cons_zero, List.set_cons_succ])
    | (refine wpList_storeL rfl 29 (.tmp 2) (.tmp 15) rfl V0.heap.size L0 (tz 0) 29 rfl rfl R2.out HN0.out HI0.out HO0.out ?_; intro Y2 q1 q2; have HY2 : Hid (Y2 = _) := q1; have RY2 : Hid (Row Y2 V0.heap.size L0 29) := q2; clear q1 q2; simp only [Act.put]))
  rw [← HB2.out] at RY2 HY2
  rw [← HB2.out]
  have b8 : Below V0.heap.size V0 Y2 := by rw [HY2.out]; exact below_setCells B2.out (by rw [HB2.out]; exact Nat.le_refl _) _
  replace R2 : Hid (Row Y2 b2 L0 29) := RY2.out
  have hw2 : w.heap.size ≤ b2 := by rw [HB2.out]; exact HG.out.bel.size
  have HW2 : Hid (w.heap.size ≤ b2) := hw2
  replace HG : Hid (Lg w Y2 S 0 (fun _ => [])) := HG.out.be b8
  have RL : Hid (Y2.rangeAt b2 0 L0) := R2.out.all
  clear b8 hw2 RY2 HY2 B2 HB2
  go_wp2_with (refine wpList_load_w rfl 29 (.tmp 2) rfl b2 0 rfl L0 _ RL.out Tryd.underlying29 rfl HI0.out ?_; simp only [Act.put, List.setIfInBounds_toArray, List.set_cons_zero, List.set_cons_succ])
  refine Calls.mono (open_ok w S 0 (fun _ => []) f1 (by decide) rfl L0 z z HT0.out HF1.out Y2 HG.out) ?_
  rintro e V1 ⟨rfl, hG, hK⟩
  replace R2 : Hid (Row V1 b2 L0 29) := hK.row _ _ _ (by decide) R2.out
  replace HG : Hid (Lg w V1 S 3 f1) := hG
  clear hG hK RL
  go_wp2_with fail
  refine Calls.mono (find_ok w S 3 f1 (by decide) z z HK1.out L0 L1 HT0.out HL1.out V1 HG.out) ?_
  rintro e V2 ⟨rfl, hG, hK⟩
  replace R2 : Hid (Row V2 b2 L0 29) := hK.row _ _ _ (by decide) R2.out
  replace HG : Hid (Lg w V2 S 4 f1) := hG
  obtain ⟨b5, hb5⟩ : ∃ b, b = V2.heap.size := ⟨_, rfl⟩
  have HB5 : Hid (b5 = V2.heap.size) := hb5
  clear hG hK hb5
  go_upto_region 7 with (first
    | (refine wpList_allocT rfl rfl ?_; intro X5 q1 q2 q3; have R5 : Hid (Row X5 _ (tz 0) 29) := q1; have B5 : Hid (Below _ _ X5) := q2; clear q1 q2 q3; simp only [Act.put, List.setIfInBounds_toArray, List.set_cons_zero, List.set_cons_succ])
    | (refine wpList_storeL rfl 29 (.tmp 5) (.tmp 25) rfl V2.heap.size L1 (tz 0) 29 rfl rfl R5.out HN1.out HI1.out HO1.out ?_; intro Y5 q1 q2; have HY5 : Hid (Y5 = _) := q1; have RY5 : Hid (Row Y5 V2.heap.size L1 29) := q2; clear q1 q2; simp only [Act.put]))
  rw [← HB5.out] at RY5 HY5
  rw [← HB5.out]
  have b8 : Below V2.heap.size V2 Y5 := by rw [HY5.out]; exact below_setCells B5.out (by rw [HB5.out]; exact Nat.le_refl _) _
  have h25 : b5 ≠ b2 := by have := R2.out.lt; rw [HB5.out]; omega
  have H25 : Hid (b5 ≠ b2) := h25
  replace R2 : Hid (Row Y5 b2 L0 29) := Row.below R2.out b8 R2.out.lt
  replace R5 : Hid (Row Y5 b5 L1 29) := RY5.out
  replace HG : Hid (Lg w Y5 S 4 f1) := HG.out.be b8
  clear b8 h25 RY5 HY5 B5 HB5
  go_wp2_with (refine wpList_buildA rfl rfl z HZ.out ?_; simp only [Act.put, List.setIfInBounds_toArray, List.set_cons_zero, List.set_cons_succ])
  refine Calls.mono (cancel_ok w S 4 f1 (by decide) z z HK1.out L0 L1 HT0.out HL1.out Y5 HG.out) ?_
  rintro e V3 ⟨rfl, hG, hK⟩
  replace R2 : Hid (Row V3 b2 L0 29) := hK.row _ _ _ (by decide) R2.out
  replace R5 : Hid (Row V3 b5 L1 29) := hK.row _ _ _ (by decide) R5.out
  replace HG : Hid (Lg w V3 S 6 (upd f1 kK [])) := hG
  obtain ⟨b7, hb7⟩ : ∃ b, b = V3.heap.size := ⟨_, rfl⟩
  have HB7 : Hid (b7 = V3.heap.size) := hb7
  clear hG hK hb7
  go_upto_region 8 with (first
    | (refine wpList_allocT rfl rfl ?_; intro X7 q1 q2 q3; have R7 : Hid (Row X7 _ (tz 0) 29) := q1; have B7 : Hid (Below _ _ X7) := q2; clear q1 q2 q3; simp only [Act.put, List.setIfInBounds_toArray, List.set_cons_zero, List.set_cons_succ])
    | (refine wpList_storeL rfl 29 (.tmp 7) (.tmp 31) rfl V3.heap.size L1 (tz 0) 29 rfl rfl R7.out HN1.out HI1.out HO1.out ?_; intro Y7 q1 q2; have HY7 : Hid (Y7 = _) := q1; have RY7 : Hid (Row Y7 V3.heap.size L1 29) := q2; clear q1 q2; simp only [Act.put]))
  rw [← HB7.out] at RY7 HY7
  rw [← HB7.out]
  have b8 : Below V3.heap.size V3 Y7 := by rw [HY7.out]; exact below_setCells B7.out (by rw [HB7.out]; exact Nat.le_refl _) _
  have h27 : b7 ≠ b2 := by have := R2.out.lt; rw [HB7.out]; omega
  have H27 : Hid (b7 ≠ b2) := h27
  replace R2 : Hid (Row Y7 b2 L0 29) := Row.below R2.out b8 R2.out.lt
  replace R5 : Hid (Row Y7 b5 L1 29) := Row.below R5.out b8 R5.out.lt
  replace R7 : Hid (Row Y7 b7 L1 29) := RY7.out
  replace HG : Hid (Lg w Y7 S 6 (upd f1 kK [])) := HG.out.be b8
  clear b8 h27 RY7 HY7 B7 HB7
  go_wp2_with fail
  refine Calls.mono (find_gone w S 6 (upd f1 kK []) (by decide) HK2.out LZ HLZ.out Y7 HG.out) ?_
  rintro e V4 ⟨rfl, hG, hK⟩
  replace R2 : Hid (Row V4 b2 L0 29) := hK.row _ _ _ (by decide) R2.out
  replace R5 : Hid (Row V4 b5 L1 29) := hK.row _ _ _ (by decide) R5.out
  replace R7 : Hid (Row V4 b7 L1 29) := hK.row _ _ _ (by decide) R7.out
  have BB : Hid (Below w.heap.size w V4) := hG.bel
  clear hG hK HG
  go_upto_region 9 with (first
    | (refine wpList_allocT rfl rfl ?_; intro X9 q1 q2 q3; have R9 : Hid (Row X9 _ (tz 0) 29) := q1; have B9 : Hid (Below _ _ X9) := q2; clear q1 q2 q3; simp only [Act.put, List.setIfInBounds_toArray, List.set_cons_zero, List.set_cons_succ])
    | (refine wpList_storeL rfl 29 (.tmp 9) (.tmp 36) rfl V4.heap.size LZ (tz 0) 29 rfl rfl R9.out HNZ.out HIZ.out HOZ.out ?_; intro Y9 q1 q2; have HY9 : Hid (Y9 = _) := q1; have RY9 : Hid (Row Y9 V4.heap.size LZ 29) := q2; clear q1 q2; simp only [Act.put]))
  have b8 : Below V4.heap.size V4 Y9 := by rw [HY9.out]; exact below_setCells B9.out (Nat.le_refl _) _
  replace R2 : Hid (Row Y9 b2 L0 29) := Row.below R2.out b8 R2.out.lt
  replace R5 : Hid (Row Y9 b5 L1 29) := Row.below R5.out b8 R5.out.lt
  replace R7 : Hid (Row Y9 b7 L1 29) := Row.below R7.out b8 R7.out.lt
  replace BB : Hid (Below w.heap.size w Y9) := BB.out.trans (b8.mono BB.out.size)
  have g0 := R2.out.cell 0 _ HT0.out.c_n
  have k0 := R2.out.thaw 0
  obtain ⟨Z, hZ⟩ : ∃ Z, Z = Y9.setCell ⟨b2, 0, none⟩ (.int .i64 1) := ⟨_, rfl⟩
  have HZZ : Hid (Z = _) := hZ
  have S2 : Hid (Z.rangeAt b2 0 L1) := by rw [hZ, HL1.out]; exact (R2.out.set 0 _).all
  have S5 : Hid (Z.rangeAt b5 0 L1) := by rw [hZ]; exact (Row.set_other R5.out _ _ _ H25.out).all
  have S7 : Hid (Z.rangeAt b7 0 L1) := by rw [hZ]; exact (Row.set_other R7.out _ _ _ H27.out).all
  have BZ : Hid (Below w.heap.size w Z) := by rw [hZ]; exact BB.out.setCell HW2.out _
  clear hZ b8 B9 HY9 RY9 R9 R2 R5 R7 BB
  go_upto_region 10 with fail
  rw [← HZZ.out]
  clear HZZ g0 k0
  go_wp2_with (first
    | (refine wpList_load_w rfl 29 (.tmp 5) rfl b5 0 rfl L1 _ S5.out Tryd.underlying29 rfl HI1.out ?_; simp only [Act.put, List.setIfInBounds_toArray, List.set_cons_zero, List.set_cons_succ])
    | (refine wpList_load_w rfl 29 (.tmp 2) rfl b2 0 rfl L1 _ S2.out Tryd.underlying29 rfl HI1.out ?_; simp only [Act.put, List.setIfInBounds_toArray, List.set_cons_zero, List.set_cons_succ])
    | (refine wpList_load_w rfl 29 (.tmp 7) rfl b7 0 rfl L1 _ S7.out Tryd.underlying29 rfl HI1.out ?_; simp only [Act.put, List.setIfInBounds_toArray, List.set_cons_zero, List.set_cons_succ])
    | (refine wpList_eqlT rfl (.tmp 50) (.tmp 51) _ rfl L1 rfl rfl HE1.out ?_; simp only [Act.put, List.setIfInBounds_toArray, List.set_cons_zero, List.set_cons_succ])
    | (refine wpList_eqlT rfl (.tmp 59) (.tmp 60) _ rfl L1 rfl rfl HE1.out ?_; simp only [Act.put, List.setIfInBounds_toArray, List.set_cons_zero, List.set_cons_succ]))
  go_ret
  exact ⟨rfl, BZ.out⟩
set_option maxRecDepth 100000 in
theorem names_walk (w : World) : Calls Tryd.prog 3 #[] w fun e w' => e = .returned (.bool true) ∧ Below w.heap.size w w' := by
  have HK : Hid _ := known_any w
  go_enter Tryd.func3, Tryd.ntmps3
  go_wp2_with fail
  refine Calls.mono HK.out ?_
  rintro e V ⟨rfl, hB⟩
  have HB : Hid (Below w.heap.size w V) := hB
  clear hB HK
  go_wp2_with fail
  go_ret
  exact ⟨rfl, HB.out⟩

end Go.Proofs.YtobmhggfkgcnfaaDoor
