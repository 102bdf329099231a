/-
  all, at a small program.
-/
import Derived.Test.YtdlmighfmkhpkaaMkS
import Derived.WalkMore
namespace Go.Proofs.Ytdlmighfmkhpkaa
open Go Go.RowKit
open Sha
open Wd

abbrev zR : List Value := [.int .u64 0, .int .u64 0, .int .u64 0, .int .u64 0, .int .i64 0]
section
variable {ops : Array Oper} {rest : List Oper} {op : Oper} {a : Act} {w : World} {Q : Exit → Act → World → Prop}
theorem wpList_allocR (hgd : op.guard = none) (ho : op.op = .alloc 31) (h : ∀ X, Row X w.heap.size zR 31 → Below w.heap.size w X → X.heap.size = w.heap.size + 1 → wpList Try.prog ops Q rest (a.put op.dst (.pointer (some ⟨w.heap.size, 0, none⟩))) X) : wpList Try.prog ops Q (op :: rest) a w :=
  wpList_plain hgd fun _ hK => by
    unfold Oper.wp execOp
    simp only [ho]
    go_simp
    exact hK _ _ (h _ (Row.new' (cs := zR) rfl rfl) ((Below.refl _ _).alloc (Nat.le_refl _) _) (by simp))
end
theorem info_Ran : (Try.prog.info? 31).map (·.size) = some 5 := by kernel_rfl
/-- The program of the law's `alive`. -/
def alv : List Ins := [⟨16, 0, 0, 0⟩, ⟨16, 2, 0, 1⟩, ⟨6, 4, 0, 0⟩, ⟨1, 5, 0, 0⟩]
set_option maxRecDepth 100000 in
set_option maxHeartbeats 4000000 in
theorem all_alive (r T gs : Nat) (pl : Value) (C : List Value) (h av stk0 : Value) (an : List Value) (hgas : C[47]? = some (.int .i64 100)) (k0 w0 w : World) (H : Rn k0 w0 w r T gs 6 pl C h av stk0 [] 100 0 an alv [5, 7]) : Calls Try.prog 50 #[.pointer (some ⟨r, 0, none⟩)] w fun e w' => e = .returned (.tuple #[.agg #[.int .u64 12, .int .u64 0, .int .u64 0, .int .u64 0, .int .i64 7], .int .i64 0]) ∧ Below w0.heap.size w0 w' := by
  obtain ⟨g, cp, hpl, hcp⟩ := Lw.open H.prg (by decide)
  subst hpl
  have HH : Hid (Rn k0 w0 w r T gs 6 (.slice (some ⟨g, 0, none⟩) 4 cp) C h av stk0 [] 100 0 an alv [5, 7]) := H
  have HG : Hid (C[47]? = some (.int .i64 100)) := hgas
  clear H hgas hcp
  go_enter Try.func50, Try.ntmps50
  go_upto_region 1 with (refine wpList_allocR rfl rfl ?_; intro X0 q1 q2 q3; have RB0 : Hid (Row X0 w.heap.size zR 31) := q1; have HR0 : Hid (Rn X0 w0 X0 r T gs 6 (.slice (some ⟨g, 0, none⟩) 4 cp) C h av stk0 [] 100 0 an alv [5, 7]) := (HH.out.keep q2).rebase; clear q1 q2 q3; simp only [Act.put, List.setIfInBounds_toArray, List.set_cons_zero, List.set_cons_succ])
  obtain ⟨b2, hb2⟩ : ∃ b, b = w.heap.size := ⟨_, rfl⟩
  rw [← hb2] at RB0
  rw [← hb2]
  have HB2 : Hid (w0.heap.size ≤ b2) := by show _ ≤ _; rw [hb2]; exact HH.out.be.size
  clear hb2 HH
  have c1 : X0.cell? ⟨r, 1, none⟩ = some (.slice (some ⟨g, 0, none⟩) 4 cp) := HR0.out.row.cell 1 _ rfl
  go_step3
  go_wp2_with fail
  go_step3
  go_wp2_with fail
  refine wp_loop_rounds 5 ?_
  clear c1
  rw [rounds_succ]
  have c54 : X0.cell? ⟨r, 54, none⟩ = some (.int .i64 0) := HR0.out.row.cell 54 _ (rc_hi HR0.out.clen 3)
  obtain ⟨L, hL⟩ : ∃ L, L = ic 16 0 0 0 := ⟨_, rfl⟩
  have HL : Hid (L = ic 16 0 0 0) := hL
  have RG : Hid (X0.rangeAt g 0 L) := by rw [hL]; exact fl_at (Lw.range HR0.out.prg) 0 ⟨16, 0, 0, 0⟩ rfl
  have HI : Hid ((Try.prog.info? 64).map (·.size) = some L.length) := by show _ = _; rw [hL]; exact info_Ic _ _ _ _
  have HN7 : Hid (L.length = zI.length) := by show _ = _; rw [hL]; exact ic_len _ _ _ _
  have HO : Hid (L.toArray.all (·.oneCell') = true) := by show _ = _; rw [hL]; exact ic_one _ _ _ _
  clear hL
  go_upto_region 5 with (first
    | (refine wpList_load_w rfl 64 (.tmp 25) rfl g 0 rfl L _ RG.out Try.underlying64 rfl HI.out ?_; simp only [Act.put, List.setIfInBounds_toArray, List.set_cons_zero, List.set_cons_succ])
    | (refine wpList_allocI rfl rfl ?_; intro Y1 q1 q2 q3; have R2 : Hid (Row Y1 X0.heap.size zI 64) := q1; have B2 : Hid (Below X0.heap.size X0 Y1) := q2; clear q1 q2 q3; simp only [Act.put, List.setIfInBounds_toArray, List.set_cons_zero, List.set_cons_succ])
    | (refine wpList_storeL rfl 64 (.tmp 5) (.tmp 26) rfl X0.heap.size L zI 64 rfl rfl R2.out HN7.out HI.out HO.out ?_; intro Y2 q1 q2; have E2 : Hid (Y2 = _) := q1; have R3 : Hid (Row Y2 X0.heap.size L 64) := q2; clear q1 q2; simp only [Act.put]))
  have BY : Below X0.heap.size X0 Y2 := by rw [E2.out]; exact below_setCells B2.out (Nat.le_refl _) _
  have HRY : Hid (Rn Y2 w0 Y2 r T gs 6 (.slice (some ⟨g, 0, none⟩) 4 cp) C h av stk0 ([]) 100 0 an alv [5, 7]) := (HR0.out.keep BY).rebase
  have RBY : Hid (Row Y2 b2 zR 31) := Row.below RB0.out BY RB0.out.lt
  obtain ⟨pl, hpl⟩ : ∃ pl, pl = Value.slice (some ⟨g, 0, none⟩) 4 cp := ⟨_, rfl⟩
  have HS : Hid (Calls Try.prog 71 #[.pointer (some ⟨r, 0, none⟩), .agg L.toArray] Y2 fun e w' => ∃ v, e = .returned (.int .i64 v) ∧ (v = 0 ∧ ∃ stk', Rn Y2 w0 w' r T gs 6 (.slice (some ⟨g, 0, none⟩) 4 cp) C h av stk' ([] ++ [5]) 98 1 an alv [5, 7])) := by
    rw [HL.out, ← hpl]
    have q := HRY.out
    rw [← hpl] at q
    exact stp_arg r T gs 6 pl C h av stk0 [] 100 0 an alv [5, 7] 0 0 5 rfl (by decide) (by decide) (by decide) (by decide) (by decide) Y2 w0 Y2 q
  obtain ⟨b5, hb5⟩ : ∃ b, b = X0.heap.size := ⟨_, rfl⟩
  rw [← hb5] at R3
  rw [← hb5]
  clear hb5 hpl c54 E2 R2 B2 BY RG HN7 HO HR0 RB0
  go_upto_region 6 with (first
    | (refine wpList_load_w rfl 64 (.tmp 5) rfl b5 0 rfl L _ R3.out.all Try.underlying64 rfl HI.out ?_; simp only [Act.put, List.setIfInBounds_toArray, List.set_cons_zero, List.set_cons_succ])
    | (go_at_call 71; refine Calls.mono HS.out ?_; rintro e X1 ⟨v, rfl, rfl, stk1, q⟩; have HR1 : Hid (Rn X1 w0 X1 r T gs 6 (.slice (some ⟨g, 0, none⟩) 4 cp) C h av stk1 ([] ++ [5]) 98 1 an alv [5, 7]) := q.rebase; have RB1 : Hid (Row X1 b2 zR 31) := q.kp (by decide) (by decide) RBY.out; have R5 : Hid (Row X1 b5 L 64) := q.kp (by decide) (by decide) R3.out; clear q))
  have ci0 : X1.cell? ⟨b5, 0, none⟩ = some (.int .i64 16) := R5.out.cell 0 _ (by rw [HL.out]; rfl)
  clear HS HRY RBY R3 R5 HL HI
  go_wp2_with fail
  clear ci0
  rw [rounds_succ]
  have c54 : X1.cell? ⟨r, 54, none⟩ = some (.int .i64 1) := HR1.out.row.cell 54 _ (rc_hi HR1.out.clen 3)
  obtain ⟨L, hL⟩ : ∃ L, L = ic 16 2 0 1 := ⟨_, rfl⟩
  have HL : Hid (L = ic 16 2 0 1) := hL
  have RG : Hid (X1.rangeAt g 7 L) := by rw [hL]; exact fl_at (Lw.range HR1.out.prg) 1 ⟨16, 2, 0, 1⟩ rfl
  have HI : Hid ((Try.prog.info? 64).map (·.size) = some L.length) := by show _ = _; rw [hL]; exact info_Ic _ _ _ _
  have HN7 : Hid (L.length = zI.length) := by show _ = _; rw [hL]; exact ic_len _ _ _ _
  have HO : Hid (L.toArray.all (·.oneCell') = true) := by show _ = _; rw [hL]; exact ic_one _ _ _ _
  clear hL
  go_upto_region 5 with (first
    | (refine wpList_load_w rfl 64 (.tmp 25) rfl g 7 rfl L _ RG.out Try.underlying64 rfl HI.out ?_; simp only [Act.put, List.setIfInBounds_toArray, List.set_cons_zero, List.set_cons_succ])
    | (refine wpList_allocI rfl rfl ?_; intro Y1 q1 q2 q3; have R2 : Hid (Row Y1 X1.heap.size zI 64) := q1; have B2 : Hid (Below X1.heap.size X1 Y1) := q2; clear q1 q2 q3; simp only [Act.put, List.setIfInBounds_toArray, List.set_cons_zero, List.set_cons_succ])
    | (refine wpList_storeL rfl 64 (.tmp 5) (.tmp 26) rfl X1.heap.size L zI 64 rfl rfl R2.out HN7.out HI.out HO.out ?_; intro Y2 q1 q2; have E2 : Hid (Y2 = _) := q1; have R3 : Hid (Row Y2 X1.heap.size L 64) := q2; clear q1 q2; simp only [Act.put]))
  have BY : Below X1.heap.size X1 Y2 := by rw [E2.out]; exact below_setCells B2.out (Nat.le_refl _) _
  have HRY : Hid (Rn Y2 w0 Y2 r T gs 6 (.slice (some ⟨g, 0, none⟩) 4 cp) C h av stk1 ([] ++ [5]) 98 1 an alv [5, 7]) := (HR1.out.keep BY).rebase
  have RBY : Hid (Row Y2 b2 zR 31) := Row.below RB1.out BY RB1.out.lt
  obtain ⟨pl, hpl⟩ : ∃ pl, pl = Value.slice (some ⟨g, 0, none⟩) 4 cp := ⟨_, rfl⟩
  have HS : Hid (Calls Try.prog 71 #[.pointer (some ⟨r, 0, none⟩), .agg L.toArray] Y2 fun e w' => ∃ v, e = .returned (.int .i64 v) ∧ (v = 0 ∧ ∃ stk', Rn Y2 w0 w' r T gs 6 (.slice (some ⟨g, 0, none⟩) 4 cp) C h av stk' ([] ++ [5] ++ [7]) 96 2 an alv [5, 7])) := by
    rw [HL.out, ← hpl]
    have q := HRY.out
    rw [← hpl] at q
    exact stp_arg r T gs 6 pl C h av stk1 ([] ++ [5]) 98 1 an alv [5, 7] 2 1 7 rfl (by decide) (by decide) (by decide) (by decide) (by decide) Y2 w0 Y2 q
  obtain ⟨b5, hb5⟩ : ∃ b, b = X1.heap.size := ⟨_, rfl⟩
  rw [← hb5] at R3
  rw [← hb5]
  clear hb5 hpl c54 E2 R2 B2 BY RG HN7 HO HR1 RB1
  go_upto_region 6 with (first
    | (refine wpList_load_w rfl 64 (.tmp 5) rfl b5 0 rfl L _ R3.out.all Try.underlying64 rfl HI.out ?_; simp only [Act.put, List.setIfInBounds_toArray, List.set_cons_zero, List.set_cons_succ])
    | (go_at_call 71; refine Calls.mono HS.out ?_; rintro e X2 ⟨v, rfl, rfl, stk2, q⟩; have HR2 : Hid (Rn X2 w0 X2 r T gs 6 (.slice (some ⟨g, 0, none⟩) 4 cp) C h av stk2 ([] ++ [5] ++ [7]) 96 2 an alv [5, 7]) := q.rebase; have RB2 : Hid (Row X2 b2 zR 31) := q.kp (by decide) (by decide) RBY.out; have R5 : Hid (Row X2 b5 L 64) := q.kp (by decide) (by decide) R3.out; clear q))
  have ci0 : X2.cell? ⟨b5, 0, none⟩ = some (.int .i64 16) := R5.out.cell 0 _ (by rw [HL.out]; rfl)
  clear HS HRY RBY R3 R5 HL HI
  go_wp2_with fail
  clear ci0
  rw [rounds_succ]
  have c54 : X2.cell? ⟨r, 54, none⟩ = some (.int .i64 2) := HR2.out.row.cell 54 _ (rc_hi HR2.out.clen 3)
  obtain ⟨L, hL⟩ : ∃ L, L = ic 6 4 0 0 := ⟨_, rfl⟩
  have HL : Hid (L = ic 6 4 0 0) := hL
  have RG : Hid (X2.rangeAt g 14 L) := by rw [hL]; exact fl_at (Lw.range HR2.out.prg) 2 ⟨6, 4, 0, 0⟩ rfl
  have HI : Hid ((Try.prog.info? 64).map (·.size) = some L.length) := by show _ = _; rw [hL]; exact info_Ic _ _ _ _
  have HN7 : Hid (L.length = zI.length) := by show _ = _; rw [hL]; exact ic_len _ _ _ _
  have HO : Hid (L.toArray.all (·.oneCell') = true) := by show _ = _; rw [hL]; exact ic_one _ _ _ _
  clear hL
  go_upto_region 5 with (first
    | (refine wpList_load_w rfl 64 (.tmp 25) rfl g 14 rfl L _ RG.out Try.underlying64 rfl HI.out ?_; simp only [Act.put, List.setIfInBounds_toArray, List.set_cons_zero, List.set_cons_succ])
    | (refine wpList_allocI rfl rfl ?_; intro Y1 q1 q2 q3; have R2 : Hid (Row Y1 X2.heap.size zI 64) := q1; have B2 : Hid (Below X2.heap.size X2 Y1) := q2; clear q1 q2 q3; simp only [Act.put, List.setIfInBounds_toArray, List.set_cons_zero, List.set_cons_succ])
    | (refine wpList_storeL rfl 64 (.tmp 5) (.tmp 26) rfl X2.heap.size L zI 64 rfl rfl R2.out HN7.out HI.out HO.out ?_; intro Y2 q1 q2; have E2 : Hid (Y2 = _) := q1; have R3 : Hid (Row Y2 X2.heap.size L 64) := q2; clear q1 q2; simp only [Act.put]))
  have BY : Below X2.heap.size X2 Y2 := by rw [E2.out]; exact below_setCells B2.out (Nat.le_refl _) _
  have HRY : Hid (Rn Y2 w0 Y2 r T gs 6 (.slice (some ⟨g, 0, none⟩) 4 cp) C h av stk2 ([] ++ [5] ++ [7]) 96 2 an alv [5, 7]) := (HR2.out.keep BY).rebase
  have RBY : Hid (Row Y2 b2 zR 31) := Row.below RB2.out BY RB2.out.lt
  obtain ⟨pl, hpl⟩ : ∃ pl, pl = Value.slice (some ⟨g, 0, none⟩) 4 cp := ⟨_, rfl⟩
  have HS : Hid (Calls Try.prog 71 #[.pointer (some ⟨r, 0, none⟩), .agg L.toArray] Y2 fun e w' => ∃ v, e = .returned (.int .i64 v) ∧ (v = 0 ∧ ∃ stk', Rn Y2 w0 w' r T gs 6 (.slice (some ⟨g, 0, none⟩) 4 cp) C h av stk' ([] ++ [5 + 7]) 94 3 an alv [5, 7])) := by
    rw [HL.out, ← hpl]
    have q := HRY.out
    rw [← hpl] at q
    exact stp_add r T gs 6 pl C h av stk2 [] 96 2 an alv [5, 7] 4 0 5 7 (Nat.lt_of_lt_of_le (by decide : 5 < 2 ^ 8) (Nat.pow_le_pow_right (by decide) (by decide))) (Nat.lt_of_lt_of_le (by decide : 7 < 2 ^ 8) (Nat.pow_le_pow_right (by decide) (by decide))) (Nat.lt_of_lt_of_le (by decide : 5 + 7 < 2 ^ 8) (Nat.pow_le_pow_right (by decide) (by decide))) (by decide) (by decide) (by decide) (by decide) Y2 w0 Y2 q
  obtain ⟨b5, hb5⟩ : ∃ b, b = X2.heap.size := ⟨_, rfl⟩
  rw [← hb5] at R3
  rw [← hb5]
  clear hb5 hpl c54 E2 R2 B2 BY RG HN7 HO HR2 RB2
  go_upto_region 6 with (first
    | (refine wpList_load_w rfl 64 (.tmp 5) rfl b5 0 rfl L _ R3.out.all Try.underlying64 rfl HI.out ?_; simp only [Act.put, List.setIfInBounds_toArray, List.set_cons_zero, List.set_cons_succ])
    | (go_at_call 71; refine Calls.mono HS.out ?_; rintro e X3 ⟨v, rfl, rfl, stk3, q⟩; have HR3 : Hid (Rn X3 w0 X3 r T gs 6 (.slice (some ⟨g, 0, none⟩) 4 cp) C h av stk3 ([] ++ [5 + 7]) 94 3 an alv [5, 7]) := q.rebase; have RB3 : Hid (Row X3 b2 zR 31) := q.kp (by decide) (by decide) RBY.out; have R5 : Hid (Row X3 b5 L 64) := q.kp (by decide) (by decide) R3.out; clear q))
  have ci0 : X3.cell? ⟨b5, 0, none⟩ = some (.int .i64 6) := R5.out.cell 0 _ (by rw [HL.out]; rfl)
  clear HS HRY RBY R3 R5 HL HI
  go_wp2_with fail
  clear ci0
  rw [rounds_succ]
  have c54 : X3.cell? ⟨r, 54, none⟩ = some (.int .i64 3) := HR3.out.row.cell 54 _ (rc_hi HR3.out.clen 3)
  obtain ⟨L, hL⟩ : ∃ L, L = ic 1 5 0 0 := ⟨_, rfl⟩
  have HL : Hid (L = ic 1 5 0 0) := hL
  have RG : Hid (X3.rangeAt g 21 L) := by rw [hL]; exact fl_at (Lw.range HR3.out.prg) 3 ⟨1, 5, 0, 0⟩ rfl
  have HI : Hid ((Try.prog.info? 64).map (·.size) = some L.length) := by show _ = _; rw [hL]; exact info_Ic _ _ _ _
  have HN7 : Hid (L.length = zI.length) := by show _ = _; rw [hL]; exact ic_len _ _ _ _
  have HO : Hid (L.toArray.all (·.oneCell') = true) := by show _ = _; rw [hL]; exact ic_one _ _ _ _
  clear hL
  go_upto_region 5 with (first
    | (refine wpList_load_w rfl 64 (.tmp 25) rfl g 21 rfl L _ RG.out Try.underlying64 rfl HI.out ?_; simp only [Act.put, List.setIfInBounds_toArray, List.set_cons_zero, List.set_cons_succ])
    | (refine wpList_allocI rfl rfl ?_; intro Y1 q1 q2 q3; have R2 : Hid (Row Y1 X3.heap.size zI 64) := q1; have B2 : Hid (Below X3.heap.size X3 Y1) := q2; clear q1 q2 q3; simp only [Act.put, List.setIfInBounds_toArray, List.set_cons_zero, List.set_cons_succ])
    | (refine wpList_storeL rfl 64 (.tmp 5) (.tmp 26) rfl X3.heap.size L zI 64 rfl rfl R2.out HN7.out HI.out HO.out ?_; intro Y2 q1 q2; have E2 : Hid (Y2 = _) := q1; have R3 : Hid (Row Y2 X3.heap.size L 64) := q2; clear q1 q2; simp only [Act.put]))
  have BY : Below X3.heap.size X3 Y2 := by rw [E2.out]; exact below_setCells B2.out (Nat.le_refl _) _
  have HRY : Hid (Rn Y2 w0 Y2 r T gs 6 (.slice (some ⟨g, 0, none⟩) 4 cp) C h av stk3 ([] ++ [5 + 7]) 94 3 an alv [5, 7]) := (HR3.out.keep BY).rebase
  have RBY : Hid (Row Y2 b2 zR 31) := Row.below RB3.out BY RB3.out.lt
  obtain ⟨pl, hpl⟩ : ∃ pl, pl = Value.slice (some ⟨g, 0, none⟩) 4 cp := ⟨_, rfl⟩
  have HS : Hid (Calls Try.prog 71 #[.pointer (some ⟨r, 0, none⟩), .agg L.toArray] Y2 fun e w' => ∃ v, e = .returned (.int .i64 v) ∧ (v = 0 ∧ ∃ stk', Rn Y2 w0 w' r T gs 6 (.slice (some ⟨g, 0, none⟩) 4 cp) C h av stk' ([]) 93 4 (wq (5 + 7)) alv [5, 7])) := by
    rw [HL.out, ← hpl]
    have q := HRY.out
    rw [← hpl] at q
    exact stp_done r T gs 6 pl C h av stk3 [] 94 3 an alv [5, 7] 5 0 (5 + 7) (by decide) (by decide) (by decide) (by decide) Y2 w0 Y2 q
  obtain ⟨b5, hb5⟩ : ∃ b, b = X3.heap.size := ⟨_, rfl⟩
  rw [← hb5] at R3
  rw [← hb5]
  clear hb5 hpl c54 E2 R2 B2 BY RG HN7 HO HR3 RB3
  go_upto_region 6 with (first
    | (refine wpList_load_w rfl 64 (.tmp 5) rfl b5 0 rfl L _ R3.out.all Try.underlying64 rfl HI.out ?_; simp only [Act.put, List.setIfInBounds_toArray, List.set_cons_zero, List.set_cons_succ])
    | (go_at_call 71; refine Calls.mono HS.out ?_; rintro e X4 ⟨v, rfl, rfl, stk4, q⟩; have HR4 : Hid (Rn X4 w0 X4 r T gs 6 (.slice (some ⟨g, 0, none⟩) 4 cp) C h av stk4 ([]) 93 4 (wq (5 + 7)) alv [5, 7]) := q.rebase; have RB4 : Hid (Row X4 b2 zR 31) := q.kp (by decide) (by decide) RBY.out; have R5 : Hid (Row X4 b5 L 64) := q.kp (by decide) (by decide) R3.out; clear q))
  have ci0 : X4.cell? ⟨b5, 0, none⟩ = some (.int .i64 1) := R5.out.cell 0 _ (by rw [HL.out]; rfl)
  clear HS HRY RBY R3 R5 HL HI
  have r55 : ∀ j v, (wq (5 + 7))[j]? = some v → X4.cell? ⟨r, j + 55, none⟩ = some v := fun j v hj => HR4.out.row.cell (j + 55) _ ((rc_hi HR4.out.clen (j + 4)).trans hj)
  have w12 : wq (5 + 7) = [.int .u64 12, .int .u64 0, .int .u64 0, .int .u64 0] := by rw [wq_cells, show lim (5 + 7) 0 = 12 by decide +kernel, show lim (5 + 7) 1 = 0 by decide +kernel, show lim (5 + 7) 2 = 0 by decide +kernel, show lim (5 + 7) 3 = 0 by decide +kernel]; rfl
  rw [w12] at r55
  have d0 : X4.cell? ⟨r, 55, none⟩ = some (.int .u64 12) := r55 0 _ rfl
  have d1 : X4.cell? ⟨r, 56, none⟩ = some (.int .u64 0) := r55 1 _ rfl
  have d2 : X4.cell? ⟨r, 57, none⟩ = some (.int .u64 0) := r55 2 _ rfl
  have d3 : X4.cell? ⟨r, 58, none⟩ = some (.int .u64 0) := r55 3 _ rfl
  have d4 : X4.cell? ⟨r, 50, none⟩ = some (.int .i64 100) := HR4.out.row.cell 50 _ ((rc_low HR4.out.clen 47 (by decide)).trans HG.out)
  have d5 : X4.cell? ⟨r, 53, none⟩ = some (.int .i64 93) := HR4.out.row.cell 53 _ (rc_hi HR4.out.clen 2)
  have e0 := RB4.out.cell 0 _ rfl
  have f0 := RB4.out.thaw 0
  have e1 := RB4.out.cell 1 _ rfl
  have f1 := RB4.out.thaw 1
  have e2 := RB4.out.cell 2 _ rfl
  have f2 := RB4.out.thaw 2
  have e3 := RB4.out.cell 3 _ rfl
  have f3 := RB4.out.thaw 3
  have e4 := RB4.out.cell 4 _ rfl
  have f4 := RB4.out.thaw 4
  clear r55 w12
  go_upto_region 9 with fail
  go_region
  have RF := ((((RB4.out.set 0 (.int .u64 12)).set 1 (.int .u64 0)).set 2 (.int .u64 0)).set 3 (.int .u64 0)).set 4 (.int .i64 7)
  have GF : Gro (· = b2) X4 _ := (((((Gro.refl (· = b2) X4).set b2 0 (.int .u64 12) rfl).set b2 1 (.int .u64 0) rfl).set b2 2 (.int .u64 0) rfl).set b2 3 (.int .u64 0) rfl).set b2 4 (.int .i64 7) rfl
  have BF := (HR4.out.be.trans (GF.to_below HR4.out.be.size (fun k e => by rw [e]; exact HB2.out))).drew
  have RFD := RF.drew
  clear d0 d1 d2 d3 d4 d5 e0 e1 e2 e3 e4 f0 f1 f2 f3 f4 ci0
  go_wp2_with fail
  rw [Exit.noGoto_ret]
  exact bodyPost_ret (results_rowS_tmp Try.results50 _ _ b2 31 [.int .u64 12, .int .u64 0, .int .u64 0, .int .u64 0, .int .i64 7] (.int .i64 0) rfl rfl RFD Try.underlying31 info_Ran) rfl ⟨rfl, BF⟩

end Go.Proofs.Ytdlmighfmkhpkaa
