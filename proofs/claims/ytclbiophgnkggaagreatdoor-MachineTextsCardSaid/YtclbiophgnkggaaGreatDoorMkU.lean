/-
  Clone, mayBe.
-/
import Derived.Test.YtclbiophgnkggaaGreatDoorMkS
import Derived.WalkMore

namespace Go.Proofs.YtclbiophgnkggaaGreatDoor
open Go Go.RowKit
open Sha
open Wd

abbrev zR : List Value := [.int .u64 0, .int .u64 0, .int .u64 0, .int .u64 0, .int .i64 0]
section
variable {ops : Array Oper} {rest : List Oper} {op : Oper} {a : Act} {w : World} {Q : Exit → Act → World → Prop}
theorem wpList_allocR (hgd : op.guard = none) (ho : op.op = .alloc 61) (h : ∀ X, Row X w.heap.size zR 61 → Below w.heap.size w X → X.heap.size = w.heap.size + 1 → wpList Tryz.prog ops Q rest (a.put op.dst (.pointer (some ⟨w.heap.size, 0, none⟩))) X) : wpList Tryz.prog ops Q (op :: rest) a w :=
  wpList_plain hgd fun _ hK => by
    unfold Oper.wp execOp
    simp only [ho]
    go_simp
    exact hK _ _ (h _ (Row.new' (cs := zR) rfl rfl) ((Below.refl _ _).alloc (Nat.le_refl _) _) (by simp))
end
theorem info_Ran : (Tryz.prog.info? 61).map (·.size) = some 5 := by kernel_rfl
/-- The program of the law's `alive`. -/
def alv : List Ins := [⟨16, 0, 0, 0⟩, ⟨16, 2, 0, 1⟩, ⟨6, 4, 0, 0⟩, ⟨1, 5, 0, 0⟩]
set_option maxRecDepth 100000 in
set_option maxHeartbeats 4000000 in
theorem all_alive (r T gs : Nat) (pl : Value) (C : List Value) (h av stk0 : Value) (an : List Value) (hgas : C[47]? = some (.int .i64 100)) (k0 w0 w : World) (H : Rn k0 w0 w r T gs 6 pl C h av stk0 [] 100 0 an alv [5, 7]) : Calls Tryz.prog 91 #[.pointer (some ⟨r, 0, none⟩)] w fun e w' => e = .returned (.tuple #[.agg #[.int .u64 12, .int .u64 0, .int .u64 0, .int .u64 0, .int .i64 7], .int .i64 0]) ∧ Below w0.heap.size w0 w' := by
  obtain ⟨g, cp, hpl, hcp⟩ := Lw.open H.prg (by decide)
  subst hpl
  have HH : Hid (Rn k0 w0 w r T gs 6 (.slice (some ⟨g, 0, none⟩) 4 cp) C h av stk0 [] 100 0 an alv [5, 7]) := H
  have HG : Hid (C[47]? = some (.int .i64 100)) := hgas
  clear H hgas hcp
  go_enter Tryz.func91, Tryz.ntmps91
  go_upto_region 1 with (refine wpList_allocR rfl rfl ?_; intro X0 q1 q2 q3; have RB0 : Hid (Row X0 w.heap.size zR 61) := q1; have HR0 : Hid (Rn X0 w0 X0 r T gs 6 (.slice (some ⟨g, 0, none⟩) 4 cp) C h av stk0 [] 100 0 an alv [5, 7]) := (HH.out.keep q2).rebase; clear q1 q2 q3; simp only [Act.put, List.setIfInBounds_toArray, List.set_cons_zero, List.set_cons_succ])
  obtain ⟨b2, hb2⟩ : ∃ b, b = w.heap.size := ⟨_, rfl⟩
  rw [← hb2] at RB0
  rw [← hb2]
  have HB2 : Hid (w0.heap.size ≤ b2) := by show _ ≤ _; rw [hb2]; exact HH.out.be.size
  clear hb2 HH
  have c1 : X0.cell? ⟨r, 1, none⟩ = some (.slice (some ⟨g, 0, none⟩) 4 cp) := HR0.out.row.cell 1 _ rfl
  go_step3
  go_wp2_with fail
  go_step3
  go_wp2_with fail
  refine wp_loop_rounds 5 ?_
  clear c1
  rw [rounds_succ]
  have c54 : X0.cell? ⟨r, 54, none⟩ = some (.int .i64 0) := HR0.out.row.cell 54 _ (rc_hi HR0.out.clen 3)
  obtain ⟨L, hL⟩ : ∃ L, L = ic 16 0 0 0 := ⟨_, rfl⟩
  have HL : Hid (L = ic 16 0 0 0) := hL
  have RG : Hid (X0.rangeAt g 0 L) := by rw [hL]; exact fl_at (Lw.range HR0.out.prg) 0 ⟨16, 0, 0, 0⟩ rfl
  have HI : Hid ((Tryz.prog.info? 53).map (·.size) = some L.length) := by show _ = _; rw [hL]; exact info_Ic _ _ _ _
  have HN7 : Hid (L.length = zI.length) := by show _ = _; rw [hL]; exact ic_len _ _ _ _
  have HO : Hid (L.toArray.all (·.oneCell') = true) := by show _ = _; rw [hL]; exact ic_one _ _ _ _
  clear hL
  go_upto_region 5 with (first
    | (refine wpList_load_w rfl 53 (.tmp 25) rfl g 0 rfl L _ RG.out Tryz.underlying53 rfl HI.out ?_; simp only [Act.put, List.setIfInBounds_toArray, List.set_cons_zero, List.set_cons_succ])
    | (refine wpList_allocI rfl rfl ?_; intro Y1 q1 q2 q3; have R2 : Hid (Row Y1 X0.heap.size zI 53) := q1; have B2 : Hid (Below X0.heap.size X0 Y1) := q2; clear q1 q2 q3; simp only [Act.put, List.setIfInBounds_toArray, List.set_cons_zero, List.set_cons_succ])
    | (refine wpList_storeL rfl 53 (.tmp 5) (.tmp 26) rfl X0.heap.size L zI 53 rfl rfl R2.out HN7.out HI.out HO.out ?_; intro Y2 q1 q2; have E2 : Hid (Y2 = _) := q1; have R3 : Hid (Row Y2 X0.heap.size L 53) := q2; clear q1 q2; simp only [Act.put]))
  have BY : Below X0.heap.size X0 Y2 := by rw [E2.out]; exact below_setCells B2.out (Nat.le_refl _) _
  have HRY : Hid (Rn Y2 w0 Y2 r T gs 6 (.slice (some ⟨g, 0, none⟩) 4 cp) C h av stk0 ([]) 100 0 an alv [5, 7]) := (HR0.out.keep BY).rebase
  have RBY : Hid (Row Y2 b2 zR 61) := Row.below RB0.out BY RB0.out.lt
  obtain ⟨pl, hpl⟩ : ∃ pl, pl = Value.slice (some ⟨g, 0, none⟩) 4 cp := ⟨_, rfl⟩
  have HS : Hid (Calls Tryz.prog 105 #[.pointer (some ⟨r, 0, none⟩), .agg L.toArray] Y2 fun e w' => ∃ v, e = .returned (.int .i64 v) ∧ (v = 0 ∧ ∃ stk', Rn Y2 w0 w' r T gs 6 (.slice (some ⟨g, 0, none⟩) 4 cp) C h av stk' ([] ++ [5]) 98 1 an alv [5, 7])) := by
    rw [HL.out, ← hpl]
    have q := HRY.out
    rw [← hpl] at q
    exact stp_arg r T gs 6 pl C h av stk0 [] 100 0 an alv [5, 7] 0 0 5 rfl (by decide) (by decide) (by decide) (by decide) (by decide) Y2 w0 Y2 q
  obtain ⟨b5, hb5⟩ : ∃ b, b = X0.heap.size := ⟨_, rfl⟩
  rw [← hb5] at R3
  rw [← hb5]
  clear hb5 hpl c54 E2 R2 B2 BY RG HN7 HO HR0 RB0
  go_upto_region 6 with (first
    | (refine wpList_load_w rfl 53 (.tmp 5) rfl b5 0 rfl L _ R3.out.all Tryz.underlying53 rfl HI.out ?_; simp only [Act.put, List.setIfInBounds_toArray, List.set_cons_zero, List.set_cons_succ])
    | (go_at_call 105; refine Calls.mono HS.out ?_; rintro e X1 ⟨v, rfl, rfl, stk1, q⟩; have HR1 : Hid (Rn X1 w0 X1 r T gs 6 (.slice (some ⟨g, 0, none⟩) 4 cp) C h av stk1 ([] ++ [5]) 98 1 an alv [5, 7]) := q.rebase; have RB1 : Hid (Row X1 b2 zR 61) := q.kp (by decide) (by decide) RBY.out; have R5 : Hid (Row X1 b5 L 53) := q.kp (by decide) (by decide) R3.out; clear q))
  have ci0 : X1.cell? ⟨b5, 0, none⟩ = some (.int .i64 16) := R5.out.cell 0 _ (by rw [HL.out]; rfl)
  clear HS HRY RBY R3 R5 HL HI
  go_wp2_with fail
  clear ci0
  rw [rounds_succ]
  have c54 : X1.cell? ⟨r, 54, none⟩ = some (.int .i64 1) := HR1.out.row.cell 54 _ (rc_hi HR1.out.clen 3)
  obtain ⟨L, hL⟩ : ∃ L, L = ic 16 2 0 1 := ⟨_, rfl⟩
  have HL : Hid (L = ic 16 2 0 1) := hL
  have RG : Hid (X1.rangeAt g 7 L) := by rw [hL]; exact fl_at (Lw.range HR1.out.prg) 1 ⟨16, 2, 0, 1⟩ rfl
  have HI : Hid ((Tryz.prog.info? 53).map (·.size) = some L.length) := by show _ = _; rw [hL]; exact info_Ic _ _ _ _
  have HN7 : Hid (L.length = zI.length) := by show _ = _; rw [hL]; exact ic_len _ _ _ _
  have HO : Hid (L.toArray.all (·.oneCell') = true) := by show _ = _; rw [hL]; exact ic_one _ _ _ _
  clear hL
  go_upto_region 5 with (first
    | (refine wpList_load_w rfl 53 (.tmp 25) rfl g 7 rfl L _ RG.out Tryz.underlying53 rfl HI.out ?_; simp only [Act.put, List.setIfInBounds_toArray, List.set_cons_zero, List.set_cons_succ])
    | (refine wpList_allocI rfl rfl ?_; intro Y1 q1 q2 q3; have R2 : Hid (Row Y1 X1.heap.size zI 53) := q1; have B2 : Hid (Below X1.heap.size X1 Y1) := q2; clear q1 q2 q3; simp only [Act.put, List.setIfInBounds_toArray, List.set_cons_zero, List.set_cons_succ])
    | (refine wpList_storeL rfl 53 (.tmp 5) (.tmp 26) rfl X1.heap.size L zI 53 rfl rfl R2.out HN7.out HI.out HO.out ?_; intro Y2 q1 q2; have E2 : Hid (Y2 = _) := q1; have R3 : Hid (Row Y2 X1.heap.size L 53) := q2; clear q1 q2; simp only [Act.put]))
  have BY : Below X1.heap.size X1 Y2 := by rw [E2.out]; exact below_setCells B2.out (Nat.le_refl _) _
  have HRY : Hid (Rn Y2 w0 Y2 r T gs 6 (.slice (some ⟨g, 0, none⟩) 4 cp) C h av stk1 ([] ++ [5]) 98 1 an alv [5, 7]) := (HR1.out.keep BY).rebase
  have RBY : Hid (Row Y2 b2 zR 61) := Row.below RB1.out BY RB1.out.lt
  obtain ⟨pl, hpl⟩ : ∃ pl, pl = Value.slice (some ⟨g, 0, none⟩) 4 cp := ⟨_, rfl⟩
  have HS : Hid (Calls Tryz.prog 105 #[.pointer (some ⟨r, 0, none⟩), .agg L.toArray] Y2 fun e w' => ∃ v, e = .returned (.int .i64 v) ∧ (v = 0 ∧ ∃ stk', Rn Y2 w0 w' r T gs 6 (.slice (some ⟨g, 0, none⟩) 4 cp) C h av stk' ([] ++ [5] ++ [7]) 96 2 an alv [5, 7])) := by
    rw [HL.out, ← hpl]
    have q := HRY.out
    rw [← hpl] at q
    exact stp_arg r T gs 6 pl C h av stk1 ([] ++ [5]) 98 1 an alv [5, 7] 2 1 7 rfl (by decide) (by decide) (by decide) (by decide) (by decide) Y2 w0 Y2 q
  obtain ⟨b5, hb5⟩ : ∃ b, b = X1.heap.size := ⟨_, rfl⟩
  rw [← hb5] at R3
  rw [← hb5]
  clear hb5 hpl c54 E2 R2 B2 BY RG HN7 HO HR1 RB1
  go_upto_region 6 with (first
    | (refine wpList_load_w rfl 53 (.tmp 5) rfl b5 0 rfl L _ R3.out.all Tryz.underlying53 rfl HI.out ?_; simp only [Act.put, List.setIfInBounds_toArray, List.set_cons_zero, List.set_cons_succ])
    | (go_at_call 105; refine Calls.mono HS.out ?_; rintro e X2 ⟨v, rfl, rfl, stk2, q⟩; have HR2 : Hid (Rn X2 w0 X2 r T gs 6 (.slice (some ⟨g, 0, none⟩) 4 cp) C h av stk2 ([] ++ [5] ++ [7]) 96 2 an alv [5, 7]) := q.rebase; have RB2 : Hid (Row X2 b2 zR 61) := q.kp (by decide) (by decide) RBY.out; have R5 : Hid (Row X2 b5 L 53) := q.kp (by decide) (by decide) R3.out; clear q))
  have ci0 : X2.cell? ⟨b5, 0, none⟩ = some (.int .i64 16) := R5.out.cell 0 _ (by rw [HL.out]; rfl)
  clear HS HRY RBY R3 R5 HL HI
  go_wp2_with fail
  clear ci0
  rw [rounds_succ]
  have c54 : X2.cell? ⟨r, 54, none⟩ = some (.int .i64 2) := HR2.out.row.cell 54 _ (rc_hi HR2.out.clen 3)
  obtain ⟨L, hL⟩ : ∃ L, L = ic 6 4 0 0 := ⟨_, rfl⟩
  have HL : Hid (L = ic 6 4 0 0) := hL
  have RG : Hid (X2.rangeAt g 14 L) := by rw [hL]; exact fl_at (Lw.range HR2.out.prg) 2 ⟨6, 4, 0, 0⟩ rfl
  have HI : Hid ((Tryz.prog.info? 53).map (·.size) = some L.length) := by show _ = _; rw [hL]; exact info_Ic _ _ _ _
  have HN7 : Hid (L.length = zI.length) := by show _ = _; rw [hL]; exact ic_len _ _ _ _
  have HO : Hid (L.toArray.all (·.oneCell') = true) := by show _ = _; rw [hL]; exact ic_one _ _ _ _
  clear hL
  go_upto_region 5 with (first
    | (refine wpList_load_w rfl 53 (.tmp 25) rfl g 14 rfl L _ RG.out Tryz.underlying53 rfl HI.out ?_; simp only [Act.put, List.setIfInBounds_toArray, List.set_cons_zero, List.set_cons_succ])
    | (refine wpList_allocI rfl rfl ?_; intro Y1 q1 q2 q3; have R2 : Hid (Row Y1 X2.heap.size zI 53) := q1; have B2 : Hid (Below X2.heap.size X2 Y1) := q2; clear q1 q2 q3; simp only [Act.put, List.setIfInBounds_toArray, List.set_cons_zero, List.set_cons_succ])
    | (refine wpList_storeL rfl 53 (.tmp 5) (.tmp 26) rfl X2.heap.size L zI 53 rfl rfl R2.out HN7.out HI.out HO.out ?_; intro Y2 q1 q2; have E2 : Hid (Y2 = _) := q1; have R3 : Hid (Row Y2 X2.heap.size L 53) := q2; clear q1 q2; simp only [Act.put]))
  have BY : Below X2.heap.size X2 Y2 := by rw [E2.out]; exact below_setCells B2.out (Nat.le_refl _) _
  have HRY : Hid (Rn Y2 w0 Y2 r T gs 6 (.slice (some ⟨g, 0, none⟩) 4 cp) C h av stk2 ([] ++ [5] ++ [7]) 96 2 an alv [5, 7]) := (HR2.out.keep BY).rebase
  have RBY : Hid (Row Y2 b2 zR 61) := Row.below RB2.out BY RB2.out.lt
  obtain ⟨pl, hpl⟩ : ∃ pl, pl = Value.slice (some ⟨g, 0, none⟩) 4 cp := ⟨_, rfl⟩
  have HS : Hid (Calls Tryz.prog 105 #[.pointer (some ⟨r, 0, none⟩), .agg L.toArray] Y2 fun e w' => ∃ v, e = .returned (.int .i64 v) ∧ (v = 0 ∧ ∃ stk', Rn Y2 w0 w' r T gs 6 (.slice (some ⟨g, 0, none⟩) 4 cp) C h av stk' ([] ++ [5 + 7]) 94 3 an alv [5, 7])) := by
    rw [HL.out, ← hpl]
    have q := HRY.out
    rw [← hpl] at q
    exact stp_add r T gs 6 pl C h av stk2 [] 96 2 an alv [5, 7] 4 0 5 7 (Nat.lt_of_lt_of_le (by decide : 5 < 2 ^ 8) (Nat.pow_le_pow_right (by decide) (by decide))) (Nat.lt_of_lt_of_le (by decide : 7 < 2 ^ 8) (Nat.pow_le_pow_right (by decide) (by decide))) (Nat.lt_of_lt_of_le (by decide : 5 + 7 < 2 ^ 8) (Nat.pow_le_pow_right (by decide) (by decide))) (by decide) (by decide) (by decide) (by decide) Y2 w0 Y2 q
  obtain ⟨b5, hb5⟩ : ∃ b, b = X2.heap.size := ⟨_, rfl⟩
  rw [← hb5] at R3
  rw [← hb5]
  clear hb5 hpl c54 E2 R2 B2 BY RG HN7 HO HR2 RB2
  go_upto_region 6 with (first
    | (refine wpList_load_w rfl 53 (.tmp 5) rfl b5 0 rfl L _ R3.out.all Tryz.underlying53 rfl HI.out ?_; simp only [Act.put, List.setIfInBounds_toArray, List.set_cons_zero, List.set_cons_succ])
    | (go_at_call 105; refine Calls.mono HS.out ?_; rintro e X3 ⟨v, rfl, rfl, stk3, q⟩; have HR3 : Hid (Rn X3 w0 X3 r T gs 6 (.slice (some ⟨g, 0, none⟩) 4 cp) C h av stk3 ([] ++ [5 + 7]) 94 3 an alv [5, 7]) := q.rebase; have RB3 : Hid (Row X3 b2 zR 61) := q.kp (by decide) (by decide) RBY.out; have R5 : Hid (Row X3 b5 L 53) := q.kp (by decide) (by decide) R3.out; clear q))
  have ci0 : X3.cell? ⟨b5, 0, none⟩ = some (.int .i64 6) := R5.out.cell 0 _ (by rw [HL.out]; rfl)
  clear HS HRY RBY R3 R5 HL HI
  go_wp2_with fail
  clear ci0
  rw [rounds_succ]
  have c54 : X3.cell? ⟨r, 54, none⟩ = some (.int .i64 3) := HR3.out.row.cell 54 _ (rc_hi HR3.out.clen 3)
  obtain ⟨L, hL⟩ : ∃ L, L = ic 1 5 0 0 := ⟨_, rfl⟩
  have HL : Hid (L = ic 1 5 0 0) := hL
  have RG : Hid (X3.rangeAt g 21 L) := by rw [hL]; exact fl_at (Lw.range HR3.out.prg) 3 ⟨1, 5, 0, 0⟩ rfl
  have HI : Hid ((Tryz.prog.info? 53).map (·.size) = some L.length) := by show _ = _; rw [hL]; exact info_Ic _ _ _ _
  have HN7 : Hid (L.length = zI.length) := by show _ = _; rw [hL]; exact ic_len _ _ _ _
  have HO : Hid (L.toArray.all (·.oneCell') = true) := by show _ = _; rw [hL]; exact ic_one _ _ _ _
  clear hL
  go_upto_region 5 with (first
    | (refine wpList_load_w rfl 53 (.tmp 25) rfl g 21 rfl L _ RG.out Tryz.underlying53 rfl HI.out ?_; simp only [Act.put, List.setIfInBounds_toArray, List.set_cons_zero, List.set_cons_succ])
    | (refine wpList_allocI rfl rfl ?_; intro Y1 q1 q2 q3; have R2 : Hid (Row Y1 X3.heap.size zI 53) := q1; have B2 : Hid (Below X3.heap.size X3 Y1) := q2; clear q1 q2 q3; simp only [Act.put, List.setIfInBounds_toArray, List.set_cons_zero, List.set_cons_succ])
    | (refine wpList_storeL rfl 53 (.tmp 5) (.tmp 26) rfl X3.heap.size L zI 53 rfl rfl R2.out HN7.out HI.out HO.out ?_; intro Y2 q1 q2; have E2 : Hid (Y2 = _) := q1; have R3 : Hid (Row Y2 X3.heap.size L 53) := q2; clear q1 q2; simp only [Act.put]))
  have BY : Below X3.heap.size X3 Y2 := by rw [E2.out]; exact below_setCells B2.out (Nat.le_refl _) _
  have HRY : Hid (Rn Y2 w0 Y2 r T gs 6 (.slice (some ⟨g, 0, none⟩) 4 cp) C h av stk3 ([] ++ [5 + 7]) 94 3 an alv [5, 7]) := (HR3.out.keep BY).rebase
  have RBY : Hid (Row Y2 b2 zR 61) := Row.below RB3.out BY RB3.out.lt
  obtain ⟨pl, hpl⟩ : ∃ pl, pl = Value.slice (some ⟨g, 0, none⟩) 4 cp := ⟨_, rfl⟩
  have HS : Hid (Calls Tryz.prog 105 #[.pointer (some ⟨r, 0, none⟩), .agg L.toArray] Y2 fun e w' => ∃ v, e = .returned (.int .i64 v) ∧ (v = 0 ∧ ∃ stk', Rn Y2 w0 w' r T gs 6 (.slice (some ⟨g, 0, none⟩) 4 cp) C h av stk' ([]) 93 4 (wq (5 + 7)) alv [5, 7])) := by
    rw [HL.out, ← hpl]
    have q := HRY.out
    rw [← hpl] at q
    exact stp_done r T gs 6 pl C h av stk3 [] 94 3 an alv [5, 7] 5 0 (5 + 7) (by decide) (by decide) (by decide) (by decide) Y2 w0 Y2 q
  obtain ⟨b5, hb5⟩ : ∃ b, b = X3.heap.size := ⟨_, rfl⟩
  rw [← hb5] at R3
  rw [← hb5]
  clear hb5 hpl c54 E2 R2 B2 BY RG HN7 HO HR3 RB3
  go_upto_region 6 with (first
    | (refine wpList_load_w rfl 53 (.tmp 5) rfl b5 0 rfl L _ R3.out.all Tryz.underlying53 rfl HI.out ?_; simp only [Act.put, List.setIfInBounds_toArray, List.set_cons_zero, List.set_cons_succ])
    | (go_at_call 105; refine Calls.mono HS.out ?_; rintro e X4 ⟨v, rfl, rfl, stk4, q⟩; have HR4 : Hid (Rn X4 w0 X4 r T gs 6 (.slice (some ⟨g, 0, none⟩) 4 cp) C h av stk4 ([]) 93 4 (wq (5 + 7)) alv [5, 7]) := q.rebase; have RB4 : Hid (Row X4 b2 zR 61) := q.kp (by decide) (by decide) RBY.out; have R5 : Hid (Row X4 b5 L 53) := q.kp (by decide) (by decide) R3.out; clear q))
  have ci0 : X4.cell? ⟨b5, 0, none⟩ = some (.int .i64 1) := R5.out.cell 0 _ (by rw [HL.out]; rfl)
  clear HS HRY RBY R3 R5 HL HI
  have r55 : ∀ j v, (wq (5 + 7))[j]? = some v → X4.cell? ⟨r, j + 55, none⟩ = some v := fun j v hj => HR4.out.row.cell (j + 55) _ ((rc_hi HR4.out.clen (j + 4)).trans hj)
  have w12 : wq (5 + 7) = [.int .u64 12, .int .u64 0, .int .u64 0, .int .u64 0] := by rw [wq_cells, show lim (5 + 7) 0 = 12 by decide +kernel, show lim (5 + 7) 1 = 0 by decide +kernel, show lim (5 + 7) 2 = 0 by decide +kernel, show lim (5 + 7) 3 = 0 by decide +kernel]; rfl
  rw [w12] at r55
  have d0 : X4.cell? ⟨r, 55, none⟩ = some (.int .u64 12) := r55 0 _ rfl
  have d1 : X4.cell? ⟨r, 56, none⟩ = some (.int .u64 0) := r55 1 _ rfl
  have d2 : X4.cell? ⟨r, 57, none⟩ = some (.int .u64 0) := r55 2 _ rfl
  have d3 : X4.cell? ⟨r, 58, none⟩ = some (.int .u64 0) := r55 3 _ rfl
  have d4 : X4.cell? ⟨r, 50, none⟩ = some (.int .i64 100) := HR4.out.row.cell 50 _ ((rc_low HR4.out.clen 47 (by decide)).trans HG.out)
  have d5 : X4.cell? ⟨r, 53, none⟩ = some (.int .i64 93) := HR4.out.row.cell 53 _ (rc_hi HR4.out.clen 2)
  have e0 := RB4.out.cell 0 _ rfl
  have f0 := RB4.out.thaw 0
  have e1 := RB4.out.cell 1 _ rfl
  have f1 := RB4.out.thaw 1
  have e2 := RB4.out.cell 2 _ rfl
  have f2 := RB4.out.thaw 2
  have e3 := RB4.out.cell 3 _ rfl
  have f3 := RB4.out.thaw 3
  have e4 := RB4.out.cell 4 _ rfl
  have f4 := RB4.out.thaw 4
  clear r55 w12
  go_upto_region 9 with fail
  go_region
  have RF := ((((RB4.out.set 0 (.int .u64 12)).set 1 (.int .u64 0)).set 2 (.int .u64 0)).set 3 (.int .u64 0)).set 4 (.int .i64 7)
  have GF : Gro (· = b2) X4 _ := (((((Gro.refl (· = b2) X4).set b2 0 (.int .u64 12) rfl).set b2 1 (.int .u64 0) rfl).set b2 2 (.int .u64 0) rfl).set b2 3 (.int .u64 0) rfl).set b2 4 (.int .i64 7) rfl
  have BF := (HR4.out.be.trans (GF.to_below HR4.out.be.size (fun k e => by rw [e]; exact HB2.out))).drew
  have RFD := RF.drew
  clear d0 d1 d2 d3 d4 d5 e0 e1 e2 e3 e4 f0 f1 f2 f3 f4 ci0
  go_wp2_with fail
  rw [Exit.noGoto_ret]
  exact bodyPost_ret (results_rowS_tmp Tryz.results91 _ _ b2 61 [.int .u64 12, .int .u64 0, .int .u64 0, .int .u64 0, .int .i64 7] (.int .i64 0) rfl rfl RFD Tryz.underlying61 info_Ran) rfl ⟨rfl, BF⟩

end Go.Proofs.YtclbiophgnkggaaGreatDoor

namespace Go.Proofs.YtclbiophgnkggaaGreatDoor
open Go Go.RowKit
open Sha
open Wd

section
variable {ops : Array Oper} {rest : List Oper} {op : Oper} {a : Act} {w : World} {Q : Exit → Act → World → Prop}
/-- append of a list onto one that is owned. -/
theorem wpList_appN (t e : TypeId) (sz bt : Nat) (hu : Tryz.prog.underlying t = some (.slice e)) (hi : ∃ ie z, Tryz.prog.info? e = some ie ∧ ie.zero = some z ∧ ie.size = sz ∧ ie.bytes = bt ∧ z.cells.size = sz) (h0 : 0 < sz) (hgd : op.guard = none) (s x : Operand) (ho : op.op = .call { callee := .builtin .append, args := #[s, x], argTypes := #[t, t] }) (v : Value) (n : Nat) (l news : List Value) (hs : a.eval s = v) (hown : Lw w e sz v n l)
    (g2 m cap : Nat) (hm : news.length = m * sz) (hx : a.eval x = .slice (some ⟨g2, 0, none⟩) m cap) (hX : w.rangeAt g2 0 news) (h1 : ∀ v ∈ news, v.oneCell' = true) (hk : n + m ≤ maxLen) (hb : (n + m) * bt ≤ 140737488355328)
    (h : ∀ v' w', Lw w' e sz v' (n + m) (l ++ news) → w.grownBy w' v.ownBlock → (v'.ownBlock = v.ownBlock ∨ v'.ownBlock = some w.heap.size) → wpList Tryz.prog ops Q rest (a.put op.dst v') w') : wpList Tryz.prog ops Q (op :: rest) a w := by
  obtain ⟨ie, z, i1, i2, i3, i5, i4⟩ := hi
  obtain ⟨v', w', hr, q2, q3, _, q5⟩ := run_append_own_at (P := Tryz.prog) w 0 t op.type e ie z sz bt hu i1 i2 i3 i5 i4 h0 v n l hown ⟨g2, 0, none⟩ m cap news hm (fun j u hj => by rw [Addr.add_mid]; exact hX j u hj) h1 hk hb (Nat.zero_le _)
  refine wpList_plain hgd fun K hK => ?_
  unfold Oper.wp execOp
  simp only [ho, resolve, invoke, builtin, Sem.run_bind, Sem.run_pure, Result.andThen_ok, List.map_toArray, List.map_cons, List.map_nil, hs, hx, hr]
  exact hK _ _ (h v' w' q2 q3 q5)
end
theorem lw_empty (w : World) (e : TypeId) (s : Nat) : Lw (w.alloc (Obj.cells #[] e)) e s (.slice (some ⟨w.heap.size, 0, none⟩) 0 0) 0 [] :=
  ⟨by simp, .inr ⟨w.heap.size, 0, #[], rfl, Nat.zero_le _, (Row.new' rfl rfl : Row _ _ [] _), Nat.le_refl _, by unfold maxLen; omega, by simp, by simp⟩⟩
theorem wsome_eq (a : Addr) (n c : Nat) (w : World) : (binOp .eql 65 (.slice (some a) n c) (.slice none 0 0)).run Tryz.prog w = .ok (.bool false) w := by
  have h1 : ∀ d, (Op.equalIn (d + 1) 65 (.slice (some a) n c) (.slice none 0 0)).run Tryz.prog w = .ok false w := fun d => by simp [Op.equalIn, run_underlying Tryz.underlying65]
  have h2 : (Op.equal 65 (.slice (some a) n c) (.slice none 0 0)).run Tryz.prog w = .ok false w := h1 9999
  simp only [binOp]
  simp [h2]
theorem hostsome_eq (t : TypeId) (v : Value) (w : World) : (binOp .eql 98 (.iface t v) .nilIface).run Tryz.prog w = .ok (.bool false) w := by
  have h1 : ∀ d, (Op.equalIn (d + 1) 98 (.iface t v) .nilIface).run Tryz.prog w = .ok false w := fun d => by simp [Op.equalIn, run_underlying Tryz.underlying98]
  have h2 : (Op.equal 98 (.iface t v) .nilIface).run Tryz.prog w = .ok false w := h1 9999
  simp only [binOp]
  simp [h2]
theorem fw_one (ss : List Nat) : ∀ u ∈ fw ss, u.oneCell' = true := fun u hu => by
  obtain ⟨x, _, h⟩ := List.mem_flatMap.1 hu
  exact wq_mem x u h
theorem be_grown {w W W' : World} {o : Option Nat} (h : Below w.heap.size w W) (k : W.grownBy W' o) (ho : ∀ g, o = some g → w.heap.size ≤ g) : Below w.heap.size w W' := below_gb h k ho
set_option maxRecDepth 100000 in
set_option maxHeartbeats 4000000 in
theorem wclone_any (ss : List Nat) (hn : ss.length ≤ 100) (g cap : Nat) (w : World) (h : w.rangeAt g 0 (fw ss)) :
    Calls Tryz.prog 90 #[.slice (some ⟨g, 0, none⟩) ss.length cap] w fun e w' => ∃ A c, e = .returned (.slice A ss.length c) ∧ Lw w' 37 4 (.slice A ss.length c) ss.length (fw ss) ∧ (∀ k, (Value.slice A ss.length c).ownBlock = some k → w.heap.size ≤ k) ∧ Below w.heap.size w w' := by
  obtain ⟨n, hn'⟩ : ∃ n, n = ss.length := ⟨_, rfl⟩
  have hq := wsome_eq ⟨g, 0, none⟩ n cap
  have hB : Below w.heap.size w (w.alloc (Obj.cells #[] 37)) := (Below.refl _ _).alloc (Nat.le_refl _) _
  have HR : Hid ((w.alloc (Obj.cells #[] 37)).rangeAt g 0 (fw ss)) := range_be h hB
  have HL : Hid ((fw ss).length = n * 4) := by show _ = _; rw [hn', fw_len]
  have HK : Hid ((0 + n) * 32 ≤ 140737488355328) := by show _ ≤ _; omega
  have HM : Hid (0 + n ≤ maxLen) := by show _ ≤ _; unfold maxLen; omega
  have HB : Hid (Below w.heap.size w (w.alloc (Obj.cells #[] 37))) := hB
  rw [← hn']
  clear h hB hn hn'
  go_enter Tryz.func90, Tryz.ntmps90
  go_wp2_with (refine wpList_appN 65 37 4 32 Tryz.underlying65 info_W_open (by decide) rfl _ (.tmp 6) rfl (.slice (some ⟨w.heap.size, 0, none⟩) 0 0) 0 [] (fw ss) rfl (lw_empty w 37 4) g n cap HL.out rfl HR.out (fw_one ss) HM.out HK.out ?_; intro v' w' q1 q2 q3; rw [Nat.zero_add, List.nil_append] at q1; obtain ⟨Ax, cx, ex, _, _⟩ := Lw.form q1; subst ex; have Q1 : Hid (Lw w' 37 4 (.slice Ax n cx) n (fw ss)) := q1; have Q2 : Hid _ := q2; have Q3 : Hid _ := q3; clear q1 q2 q3; simp only [Act.put, List.setIfInBounds_toArray, List.set_cons_zero, List.set_cons_succ])
  go_ret
  refine ⟨Ax, cx, rfl, Q1.out, fun k e => ?_, be_grown HB.out Q2.out (fun k hk => by simp [Value.ownBlock] at hk; omega)⟩
  rcases Q3.out with q | q
  · rw [e] at q; simp [Value.ownBlock] at q; omega
  · rw [e] at q; simp at q; omega
set_option maxRecDepth 100000 in
set_option maxHeartbeats 4000000 in
theorem mayBe_ok (C : List Value) (A : Option Addr) (c : Nat) (h0 : C[40]? = some (.int .i64 0)) (h1 : C[45]? = some (.slice A 2 c)) (h2 : C[46]? = some (.int .i64 0)) (h3 : C[47]? = some (.int .i64 100)) (w : World) : Calls Tryz.prog 89 #[.agg C.toArray] w fun e w' => e = .returned (.bool true) ∧ Below w.heap.size w w' := by
  have H0 : Hid (C[40]? = some (.int .i64 0)) := h0
  have H1 : Hid (C[45]? = some (.slice A 2 c)) := h1
  have H2 : Hid (C[46]? = some (.int .i64 0)) := h2
  have H3 : Hid (C[47]? = some (.int .i64 100)) := h3
  clear h0 h1 h2 h3
  go_enter Tryz.func89, Tryz.ntmps89
  go_upto_region 1 with (refine wpList_boxG 69 rfl (.tmp 0) rfl C rfl ?_; intro X q1 q2 q3; have c0 := q1.cell 40 _ H0.out; have c1 := q1.cell 45 _ H1.out; have c2 := q1.cell 46 _ H2.out; have c3 := q1.cell 47 _ H3.out; have B1 : Hid (Below w.heap.size w X) := q2; clear q1 q2 q3; simp only [Act.put, List.setIfInBounds_toArray, List.set_cons_zero, List.set_cons_succ])
  go_wp2
  go_ret
  exact ⟨rfl, B1.out⟩

end Go.Proofs.YtclbiophgnkggaaGreatDoor
