/-
  LadderPlays: look at Confirmed, Top, Pending.
-/
import Derived.Test.YtfdbjcdcfmnicaaLpM
namespace Go.Proofs.Ytfdbjcdcfmnicaa
open Go Go.RowKit
open Sha

set_option maxRecDepth 100000 in
set_option maxHeartbeats 16000000 in
theorem look_top {w0 w : World} {q : Nat} {B : Int} {Ls : List (Nat × Value × La)} {Es : List (Value × La)} {T : Value} {ts : List (Value × Nat)} (h : Pl w0 w q B Ls Es T ts) {k p : Nat} {v e : Value} {st : La} (hk : Ls[k]? = some (p, v, st)) (he : Es[k]? = some (e, st)) (s : Sp16) (hs : s.Ok) (hkd : s.kd = 10) (S : List Value) (hS : S = s.cells) :
    Calls Try.prog 18 #[.pointer (some ⟨q, 0, none⟩), .int .i64 (k : Int), .agg S.toArray] w fun r w' => r = .returned (.bool true) ∧ Pl w0 w' q B Ls Es T ts := by
  obtain ⟨y, hy⟩ : ∃ y, y = st.top := ⟨_, rfl⟩
  have HYW : Hid y.Wf := by show y.Wf; rw [hy]; exact (La.top_wf (h.lad hk).ok).1
  obtain ⟨Ly, hLy⟩ : ∃ M, M = y.cells := ⟨_, rfl⟩
  have HLY : Hid (Ly = y.cells) := hLy
  have HIY : Hid ((Try.prog.info? tC).map (·.size) = some Ly.length) := by show _ = _; rw [hLy]; exact Cm.info HYW.out
  have HYO : Hid (Ly.toArray.all (·.oneCell') = true) := by show _ = _; rw [hLy]; exact all_one (Cm.one y)
  have HYL : Hid (Ly.length = zC.cells.length) := by show _ = _; rw [hLy]; exact (Cm.len HYW.out).trans (Cm.len zC_wf).symm
  have HTP : Hid (∀ W, Pl w0 W q B Ls Es T ts → Calls Try.prog 66 #[.pointer (some ⟨p, 0, none⟩)] W fun r w' => r = .returned (.agg Ly.toArray) ∧ Below W.heap.size W w') := fun W hP => by rw [hLy]; exact top_any (hP.lad hk) y hy
  have hk3 : k < 3 := by have := (List.getElem?_eq_some_iff.1 hk).1; rw [h.l3] at this; exact this
  have HK3 : Hid (k < 3) := hk3
  have HPL : Hid (Pl w0 w q B Ls Es T ts) := h
  have HLK : Hid (Ls[k]? = some (p, v, st)) := hk
  have HEK : Hid (Es[k]? = some (e, st)) := he
  have HNR : Hid (S[91]? = some (.int .i64 s.nr)) := by rw [hS]; exact Sp16.at_nr hs
  have HKD : Hid (S[0]? = some (.int .i64 10)) := by rw [hS, ← hkd]; exact Sp16.at_kd s
  have HCP0 : Hid (∀ W, Pl w0 W q B Ls Es T ts → W.cell? ⟨q, k, none⟩ = some (.pointer (some ⟨p, 0, none⟩))) := fun W hP => hP.row.cell k _ (prc_p (by rw [List.getElem?_map, hk]; rfl))
  obtain ⟨L, hL⟩ : ∃ L, L = st.dc e := ⟨_, rfl⟩
  have HIL : Hid ((Try.prog.info? tRL).map (·.size) = some L.length) := by show _ = _; rw [hL]; exact La.dinfo (h.rf _ (List.mem_of_getElem? he)).ok.cf _
  have HRD0 : Hid (∀ W, Pl w0 W q B Ls Es T ts → W.rangeAt q (3 + k * 70) L) := fun W hP => hP.row.range (3 + k * 70) _ (fun j u hj => prc_d (by rw [List.length_map]; exact hP.l3) hP.d70 (by rw [List.getElem?_map, he]; rfl) j u (by rw [hL] at hj; exact hj))
  have HRR0 : Hid (∀ W, Pl w0 W q B Ls Es T ts → Calls Try.prog 67 #[.agg L.toArray] W fun r w' => r = .returned (.agg Ly.toArray) ∧ Below W.heap.size W w') := fun W hP => by rw [hLy]; exact rtop_any (hP.rf _ (List.mem_of_getElem? he)) L hL y hy
  clear hLy hy
  clear h hk he hs hkd hS hk3 hL
  go_enter Try.func18, Try.ntmps18
  go_upto_region 23 with (refine wpList_bxG tSt rfl (.tmp 2) rfl S rfl ?_; intro X1 q1 q2 q3; clear q3; have ck : X1.cell? ⟨w.heap.size, 0, none⟩ = some (.int .i64 10) := q1.cell 0 _ HKD.out; have RS : Hid (Row X1 w.heap.size S tSt) := q1; have HP1 : Hid (Pl w0 X1 q B Ls Es T ts) := HPL.out.below q2; clear q1 q2; simp only [Act.put, List.setIfInBounds_toArray, List.set_cons_zero, List.set_cons_succ])
  obtain ⟨bS, hbS⟩ : ∃ b, b = w.heap.size := ⟨_, rfl⟩
  rw [← hbS] at RS ⊢
  clear hbS ck HPL
  clear RS
  go_upto_region 24 with (first
        | (refine wpList_plain rfl (fun _ hK => wp_ixO tL3 tLp rfl q 3 k 1 0 k rfl rfl HK3.out und_L3 info_Lp (by omega) (hK _ _ ?_)); simp only [Act.put, List.setIfInBounds_toArray, List.set_cons_zero, List.set_cons_succ])
        | (refine wpList_plain rfl (fun _ hK => wp_ld1 q k (.pointer (some ⟨p, 0, none⟩)) rfl rfl (ld_Lp _ q k _ (HCP0.out _ HP1.out)) (hK _ _ ?_)); simp only [Act.put, List.setIfInBounds_toArray, List.set_cons_zero, List.set_cons_succ])
        | (go_at_call 66; refine Calls.mono (HTP.out _ HP1.out) ?_; rintro r X2 ⟨rfl, q2⟩; have HP2 : Hid (Pl w0 X2 q B Ls Es T ts) := HP1.out.below q2; clear q2)
        | (refine wpList_alC rfl rfl ?_; intro X3 q1 q2 q3; clear q3; have RZ : Hid (Row X3 X2.heap.size zC.cells tC) := q1; have HP3 : Hid (Pl w0 X3 q B Ls Es T ts) := HP2.out.below q2; clear q1 q2; simp only [Act.put, List.setIfInBounds_toArray, List.set_cons_zero, List.set_cons_succ])
        | (refine wpList_stL rfl tC (.tmp 21) (.tmp 175) rfl X2.heap.size Ly zC.cells tC rfl rfl RZ.out HYL.out HIY.out HYO.out ?_; intro X4 q1 q2; have R4 : Hid (Row X4 X2.heap.size Ly tC) := q1; have HP4 : Hid (Pl w0 X4 q B Ls Es T ts) := HP3.out.fresh HP2.out q2 (fun g z => by { rw [z]; exact Nat.le_refl _ }); clear q1 q2 RZ; simp only [Act.put]))
  clear HP1 HP2 HP3 HTP HCP0
  go_upto_region 25 with (first
        | (refine wpList_plain rfl (fun _ hK => wp_ixO tR3 tRL rfl q 3 k 70 3 (3 + k * 70) rfl rfl HK3.out und_R3 info_RL rfl (hK _ _ ?_)); simp only [Act.put, List.setIfInBounds_toArray, List.set_cons_zero, List.set_cons_succ])
        | (refine wpList_ldS rfl tRL (.tmp 180) rfl q (3 + k * 70) rfl L _ (HRD0.out _ HP4.out) Try.underlying44 rfl HIL.out ?_; simp only [Act.put, List.setIfInBounds_toArray, List.set_cons_zero, List.set_cons_succ])
        | (go_at_call 67; refine Calls.mono (HRR0.out _ HP4.out) ?_; rintro r X5 ⟨rfl, q2⟩; have HP5 : Hid (Pl w0 X5 q B Ls Es T ts) := HP4.out.below q2; have R5 : Hid (Row X5 X2.heap.size Ly tC) := Row.below R4.out q2 R4.out.lt; clear q2 R4)
        | (refine wpList_alC rfl rfl ?_; intro X6 q1 q2 q3; clear q3; have RZ : Hid (Row X6 X5.heap.size zC.cells tC) := q1; have HP6 : Hid (Pl w0 X6 q B Ls Es T ts) := HP5.out.below q2; have R6 : Hid (Row X6 X2.heap.size Ly tC) := Row.below R5.out q2 R5.out.lt; clear q1 q2; simp only [Act.put, List.setIfInBounds_toArray, List.set_cons_zero, List.set_cons_succ])
        | (refine wpList_stL rfl tC (.tmp 22) (.tmp 182) rfl X5.heap.size Ly zC.cells tC rfl rfl RZ.out HYL.out HIY.out HYO.out ?_; intro X7 q1 q2; have R7 : Hid (Row X7 X5.heap.size Ly tC) := q1; have HP7 : Hid (Pl w0 X7 q B Ls Es T ts) := HP6.out.fresh HP5.out q2 (fun g z => by { rw [z]; exact Nat.le_refl _ }); have R8 : Hid (Row X7 X2.heap.size Ly tC) := q2.row R6.out (fun z => by { have := R5.out.lt; omega }); clear q1 q2 RZ; simp only [Act.put]))
  clear HP5 HP6 HP4
  rw [HLY.out] at R8 R7
  have HIY2 : Hid ((Try.prog.info? tC).map (·.size) = some y.cells.length) := Cm.info HYW.out
  go_wp2_with (first
        | (refine wpList_ldS rfl tC (.tmp 21) rfl X2.heap.size 0 rfl y.cells _ R8.out.all Try.underlying25 rfl HIY2.out ?_; simp only [Act.put, List.setIfInBounds_toArray, List.set_cons_zero, List.set_cons_succ])
        | (refine wpList_ldS rfl tC (.tmp 22) rfl X5.heap.size 0 rfl y.cells _ R7.out.all Try.underlying25 rfl HIY2.out ?_; simp only [Act.put, List.setIfInBounds_toArray, List.set_cons_zero, List.set_cons_succ])
        | (refine wpList_eqC rfl (.tmp 183) (.tmp 184) _ rfl y y HYW.out HYW.out rfl rfl true (decide_eq_true rfl) ?_; simp only [Act.put, List.setIfInBounds_toArray, List.set_cons_zero, List.set_cons_succ]))
  go_ret
  exact ⟨by simp, HP7.out⟩
theorem wp_eqC {Q : Exit → Act → World → Prop} {o : Oper} {a : Act} {w : World} {K : Act → World → Prop} (x y : Operand) (yt : TypeId) (ho : o.op = .binOp .eql tC x y yt) (c d : Cm) (hc : c.Wf) (hd : d.Wf) (hx : a.eval x = .agg c.cells.toArray) (hy : a.eval y = .agg d.cells.toArray) (B : Bool) (hB : decide (c = d) = B) (h : K (a.put o.dst (.bool B)) w) : Oper.wp Try.prog o a w K Q := by
  have hr : (binOp .eql tC (.agg c.cells.toArray) (.agg d.cells.toArray)).run Try.prog w = .ok (.bool B) w := by rw [run_eql_struct, eq_cm 9997 w c d hc hd, ← hB]; rfl
  unfold Oper.wp execOp
  simp only [ho, hx, hy, Sem.run_bind, run_eqGuard_agg w .eql tC x y _ _ guardC, Result.andThen_ok, hr, Sem.run_pure, Oper.upon_value]
  exact h
theorem wp_fRL0 {Q : Exit → Act → World → Prop} {o : Oper} {a : Act} {w : World} {K : Act → World → Prop} {x : Operand} (ho : o.op = .fieldAddr tRL x 0) (B i : Nat) (hx : a.eval x = .pointer (some ⟨B, i, none⟩)) (h : K (a.put o.dst (.pointer (some ⟨B, i, none⟩))) w) : Oper.wp Try.prog o a w K Q := by
  unfold Oper.wp execOp
  simp only [ho, hx]
  go_simp
  exact h
theorem wp_fRL1 {Q : Exit → Act → World → Prop} {o : Oper} {a : Act} {w : World} {K : Act → World → Prop} {x : Operand} (ho : o.op = .fieldAddr tRL x 1) (B i : Nat) (hx : a.eval x = .pointer (some ⟨B, i, none⟩)) (h : K (a.put o.dst (.pointer (some ⟨B, i + 66, none⟩))) w) : Oper.wp Try.prog o a w K Q := by
  unfold Oper.wp execOp
  simp only [ho, hx]
  go_simp
  exact h
set_option maxRecDepth 100000 in
set_option maxHeartbeats 16000000 in
theorem look_conf {w0 w : World} {q : Nat} {B : Int} {Ls : List (Nat × Value × La)} {Es : List (Value × La)} {T : Value} {ts : List (Value × Nat)} (h : Pl w0 w q B Ls Es T ts) {k p : Nat} {v e : Value} {st : La} (hk : Ls[k]? = some (p, v, st)) (he : Es[k]? = some (e, st)) (s : Sp16) (hs : s.Ok) (hkd : s.kd = 9) (S : List Value) (hS : S = s.cells) :
    Calls Try.prog 18 #[.pointer (some ⟨q, 0, none⟩), .int .i64 (k : Int), .agg S.toArray] w fun r w' => r = .returned (.bool true) ∧ Pl w0 w' q B Ls Es T ts := by
  obtain ⟨y, hy⟩ : ∃ y, y = st.conf := ⟨_, rfl⟩
  have HYW : Hid y.Wf := by show y.Wf; rw [hy]; exact (h.lad hk).ok.cf
  obtain ⟨Ly, hLy⟩ : ∃ M, M = y.cells := ⟨_, rfl⟩
  have HLY : Hid (Ly = y.cells) := hLy
  have HIY : Hid ((Try.prog.info? tC).map (·.size) = some Ly.length) := by show _ = _; rw [hLy]; exact Cm.info HYW.out
  have HYO : Hid (Ly.toArray.all (·.oneCell') = true) := by show _ = _; rw [hLy]; exact all_one (Cm.one y)
  have HYL : Hid (Ly.length = zC.cells.length) := by show _ = _; rw [hLy]; exact (Cm.len HYW.out).trans (Cm.len zC_wf).symm
  have HTP : Hid (∀ W, Pl w0 W q B Ls Es T ts → Calls Try.prog 30 #[.pointer (some ⟨p, 0, none⟩)] W fun r w' => r = .returned (.agg Ly.toArray) ∧ Below W.heap.size W w') := fun W hP => by rw [hLy]; exact confirmed_any (hP.lad hk) y hy
  have HRC0 : Hid (∀ W, Pl w0 W q B Ls Es T ts → W.rangeAt q (3 + k * 70) Ly) := fun W hP => hP.row.range (3 + k * 70) _ (fun j u hj => prc_d (by rw [List.length_map]; exact hP.l3) hP.d70 (by rw [List.getElem?_map, he]; rfl) j u (by have := La.dconf st e j u (by rw [hLy, hy] at hj; exact hj); rwa [Nat.zero_add] at this))
  have hk3 : k < 3 := by have := (List.getElem?_eq_some_iff.1 hk).1; rw [h.l3] at this; exact this
  have HK3 : Hid (k < 3) := hk3
  have HPL : Hid (Pl w0 w q B Ls Es T ts) := h
  have HLK : Hid (Ls[k]? = some (p, v, st)) := hk
  have HEK : Hid (Es[k]? = some (e, st)) := he
  have HNR : Hid (S[91]? = some (.int .i64 s.nr)) := by rw [hS]; exact Sp16.at_nr hs
  have HKD : Hid (S[0]? = some (.int .i64 9)) := by rw [hS, ← hkd]; exact Sp16.at_kd s
  have HCP0 : Hid (∀ W, Pl w0 W q B Ls Es T ts → W.cell? ⟨q, k, none⟩ = some (.pointer (some ⟨p, 0, none⟩))) := fun W hP => hP.row.cell k _ (prc_p (by rw [List.getElem?_map, hk]; rfl))
  obtain ⟨L, hL⟩ : ∃ L, L = st.dc e := ⟨_, rfl⟩
  have HIL : Hid ((Try.prog.info? tRL).map (·.size) = some L.length) := by show _ = _; rw [hL]; exact La.dinfo (h.rf _ (List.mem_of_getElem? he)).ok.cf _
  have HRD0 : Hid (∀ W, Pl w0 W q B Ls Es T ts → W.rangeAt q (3 + k * 70) L) := fun W hP => hP.row.range (3 + k * 70) _ (fun j u hj => prc_d (by rw [List.length_map]; exact hP.l3) hP.d70 (by rw [List.getElem?_map, he]; rfl) j u (by rw [hL] at hj; exact hj))
  clear hLy hy
  clear h hk he hs hkd hS hk3 hL
  go_enter Try.func18, Try.ntmps18
  go_upto_region 20 with (refine wpList_bxG tSt rfl (.tmp 2) rfl S rfl ?_; intro X1 q1 q2 q3; clear q3; have ck : X1.cell? ⟨w.heap.size, 0, none⟩ = some (.int .i64 9) := q1.cell 0 _ HKD.out; have RS : Hid (Row X1 w.heap.size S tSt) := q1; have HP1 : Hid (Pl w0 X1 q B Ls Es T ts) := HPL.out.below q2; clear q1 q2; simp only [Act.put, List.setIfInBounds_toArray, List.set_cons_zero, List.set_cons_succ])
  obtain ⟨bS, hbS⟩ : ∃ b, b = w.heap.size := ⟨_, rfl⟩
  rw [← hbS] at RS ⊢
  clear hbS ck HPL
  clear RS
  go_upto_region 21 with (first
        | (refine wpList_plain rfl (fun _ hK => wp_ixO tL3 tLp rfl q 3 k 1 0 k rfl rfl HK3.out und_L3 info_Lp (by omega) (hK _ _ ?_)); simp only [Act.put, List.setIfInBounds_toArray, List.set_cons_zero, List.set_cons_succ])
        | (refine wpList_plain rfl (fun _ hK => wp_ld1 q k (.pointer (some ⟨p, 0, none⟩)) rfl rfl (ld_Lp _ q k _ (HCP0.out _ HP1.out)) (hK _ _ ?_)); simp only [Act.put, List.setIfInBounds_toArray, List.set_cons_zero, List.set_cons_succ])
        | (go_at_call 30; refine Calls.mono (HTP.out _ HP1.out) ?_; rintro r X2 ⟨rfl, q2⟩; have HP2 : Hid (Pl w0 X2 q B Ls Es T ts) := HP1.out.below q2; clear q2)
        | (refine wpList_alC rfl rfl ?_; intro X3 q1 q2 q3; clear q3; have RZ : Hid (Row X3 X2.heap.size zC.cells tC) := q1; have HP3 : Hid (Pl w0 X3 q B Ls Es T ts) := HP2.out.below q2; clear q1 q2; simp only [Act.put, List.setIfInBounds_toArray, List.set_cons_zero, List.set_cons_succ])
        | (refine wpList_stL rfl tC (.tmp 20) (.tmp 157) rfl X2.heap.size Ly zC.cells tC rfl rfl RZ.out HYL.out HIY.out HYO.out ?_; intro X4 q1 q2; have R4 : Hid (Row X4 X2.heap.size Ly tC) := q1; have HP4 : Hid (Pl w0 X4 q B Ls Es T ts) := HP3.out.fresh HP2.out q2 (fun g z => by { rw [z]; exact Nat.le_refl _ }); clear q1 q2 RZ; simp only [Act.put]))
  clear HP1 HP2 HP3 HTP HCP0
  have HRC : Hid (X4.rangeAt q (3 + k * 70) Ly) := HRC0.out _ HP4.out
  have HFP : Hid (Pl w0 X4 q B Ls Es T ts) := HP4.out
  have r4 := R4.out
  have rq := HP4.out.row
  obtain ⟨PC, hPC⟩ : ∃ M, M = prc (Ls.map (·.1)) (Es.map fun e => e.2.dc e.1) T := ⟨_, rfl⟩
  rw [← hPC] at rq
  have hb1 := Below.refl X4.heap.size X4
  have HRCq : Hid (∀ W, Below X4.heap.size X4 W → W.rangeAt q (3 + k * 70) Ly) := fun W k => HRC0.out _ (HP4.out.below k)
  clear HRC R4 hPC
  refine wp_named fun a0 ha0 => ?_
  have hsz : a0.tmps.size = 259 := by rw [ha0]; rfl
  have zs0 : a0.eval (.tmp 0) = .pointer (some ⟨q, 0, none⟩) := by rw [ha0]; rfl
  have zs1 : a0.eval (.tmp 1) = .int .i64 (k : Int) := by rw [ha0]; rfl
  have zs20 : a0.eval (.tmp 20) = .pointer (some ⟨X2.heap.size, 0, none⟩) := by rw [ha0]; rfl
  obtain ⟨D, hD⟩ : ∃ D : List (Tmp × SP), D = [(158, SP.is (.agg Ly.toArray)), (159, SP.is (.pointer (some ⟨q, 0, none⟩))), (160, SP.is (.int .i64 (k : Int))), (161, SP.is (.pointer (some ⟨q, 0, none⟩))), (162, SP.is (.pointer (some ⟨q, 3, none⟩))), (163, SP.is (.pointer (some ⟨q, 3 + k * 70, none⟩))), (164, SP.is (.pointer (some ⟨q, 3 + k * 70, none⟩))), (165, SP.is (.agg Ly.toArray)), (166, SP.is (.bool true)), (6, SP.is (.bool true))] := ⟨_, rfl⟩
  refine wp_region_down (by kernel_rfl) (fun listed ac W => listed.size = 10 ∧ Fp D a0 listed ac W ∧ Below X4.heap.size X4 W ∧ Row W X2.heap.size Ly tC) ?_ ?_ ?_
  · exact ⟨by simp, Fp.start D a0 _ _, Below.drew hb1, Row.drew r4⟩
  · clear ha0 hb1 r4 
    intro listed ac W k hI hdn hk
    obtain ⟨hl, hF, hb1, r4⟩ := hI
    have hk1 : k < 10 := List.mem_range.1 (List.mem_filter.1 hk).1
    have hl2 : ∀ j, (listed.setIfInBounds j true).size = 10 := fun j => by rw [Array.size_setIfInBounds]; exact hl
    rcases (show k = 0 ∨ k = 1 ∨ k = 2 ∨ k = 3 ∨ k = 4 ∨ k = 5 ∨ k = 6 ∨ k = 7 ∨ k = 8 ∨ k = 9 by omega) with rfl | rfl | rfl | rfl | rfl | rfl | rfl | rfl | rfl | rfl
    · have hk3 := hk
      exact wpOp_plain rfl rfl (wp_load_mid tC (.tmp 20) rfl X2.heap.size 0 ((hF.keep 20 (by rw [hD]; rfl)).trans zs20) Ly _ r4.all Try.underlying25 rfl HIY.out ⟨hl2 0, (hF.put 0 158 (SP.is (.agg Ly.toArray)) (.agg Ly.toArray) (by rw [hD]; rfl) rfl (by rw [hD]; rfl) (by rw [hsz]; decide) (by rw [hl]; decide)), hb1, r4⟩)
    · have hk3 := hk
      exact wpOp_plain rfl rfl (wp_move_v (ac.eval (.tmp 0)) rfl rfl ⟨hl2 1, (hF.put 1 159 (SP.is (.pointer (some ⟨q, 0, none⟩))) (ac.eval (.tmp 0)) (by rw [hD]; rfl) (((hF.keep 0 (by rw [hD]; rfl)).trans zs0)) (by rw [hD]; rfl) (by rw [hsz]; decide) (by rw [hl]; decide)), hb1, r4⟩)
    · have hk3 := hk
      exact wpOp_plain rfl rfl (wp_move_v (ac.eval (.tmp 1)) rfl rfl ⟨hl2 2, (hF.put 2 160 (SP.is (.int .i64 (k : Int))) (ac.eval (.tmp 1)) (by rw [hD]; rfl) (((hF.keep 1 (by rw [hD]; rfl)).trans zs1)) (by rw [hD]; rfl) (by rw [hsz]; decide) (by rw [hl]; decide)), hb1, r4⟩)
    · have hk3 := hk
      have ea := (hF.done 1 (159, SP.is (.pointer (some ⟨q, 0, none⟩))) (by rw [hD]; rfl) (ready_dep hk 1 (by kernel_rfl)))
      exact wpOp_plain rfl rfl (wp_nilL rfl q ea ⟨hl2 3, (hF.put 3 161 (SP.is (.pointer (some ⟨q, 0, none⟩))) (.pointer (some ⟨q, 0, none⟩)) (by rw [hD]; rfl) rfl (by rw [hD]; rfl) (by rw [hsz]; decide) (by rw [hl]; decide)), hb1, r4⟩)
    · have hk3 := hk
      have ea := (hF.done 3 (161, SP.is (.pointer (some ⟨q, 0, none⟩))) (by rw [hD]; rfl) (ready_dep hk 3 (by kernel_rfl)))
      exact wpOp_plain rfl rfl (wp_fPr1 rfl q ea ⟨hl2 4, (hF.put 4 162 (SP.is (.pointer (some ⟨q, 3, none⟩))) (.pointer (some ⟨q, 3, none⟩)) (by rw [hD]; rfl) rfl (by rw [hD]; rfl) (by rw [hsz]; decide) (by rw [hl]; decide)), hb1, r4⟩)
    · have hk3 := hk
      have ea := (hF.done 4 (162, SP.is (.pointer (some ⟨q, 3, none⟩))) (by rw [hD]; rfl) (ready_dep hk 4 (by kernel_rfl)))
      have eb := (hF.done 2 (160, SP.is (.int .i64 (k : Int))) (by rw [hD]; rfl) (ready_dep hk 2 (by kernel_rfl)))
      exact wpOp_plain rfl rfl (wp_ixO tR3 tRL rfl q 3 k 70 3 (3 + k * 70) ea eb HK3.out und_R3 info_RL rfl ⟨hl2 5, (hF.put 5 163 (SP.is (.pointer (some ⟨q, 3 + k * 70, none⟩))) (.pointer (some ⟨q, 3 + k * 70, none⟩)) (by rw [hD]; rfl) rfl (by rw [hD]; rfl) (by rw [hsz]; decide) (by rw [hl]; decide)), hb1, r4⟩)
    · have hk3 := hk
      have ea := (hF.done 5 (163, SP.is (.pointer (some ⟨q, 3 + k * 70, none⟩))) (by rw [hD]; rfl) (ready_dep hk 5 (by kernel_rfl)))
      exact wpOp_plain rfl rfl (wp_fRL0 rfl q (3 + k * 70) ea ⟨hl2 6, (hF.put 6 164 (SP.is (.pointer (some ⟨q, 3 + k * 70, none⟩))) (.pointer (some ⟨q, 3 + k * 70, none⟩)) (by rw [hD]; rfl) rfl (by rw [hD]; rfl) (by rw [hsz]; decide) (by rw [hl]; decide)), hb1, r4⟩)
    · have hk3 := hk
      have ea := (hF.done 6 (164, SP.is (.pointer (some ⟨q, 3 + k * 70, none⟩))) (by rw [hD]; rfl) (ready_dep hk 6 (by kernel_rfl)))
      exact wpOp_plain rfl rfl (wp_load_mid tC (.tmp 164) rfl q (3 + k * 70) ea Ly _ (HRCq.out W hb1) Try.underlying25 rfl HIY.out ⟨hl2 7, (hF.put 7 165 (SP.is (.agg Ly.toArray)) (.agg Ly.toArray) (by rw [hD]; rfl) rfl (by rw [hD]; rfl) (by rw [hsz]; decide) (by rw [hl]; decide)), hb1, r4⟩)
    · have hk3 := hk
      have ea := (hF.done 0 (158, SP.is (.agg Ly.toArray)) (by rw [hD]; rfl) (ready_dep hk 0 (by kernel_rfl)))
      have eb := (hF.done 7 (165, SP.is (.agg Ly.toArray)) (by rw [hD]; rfl) (ready_dep hk 7 (by kernel_rfl)))
      exact wpOp_plain rfl rfl (wp_eqC (.tmp 158) (.tmp 165) _ rfl y y HYW.out HYW.out (by rw [← HLY.out]; exact ea) (by rw [← HLY.out]; exact eb) true (decide_eq_true rfl) ⟨hl2 8, (hF.put 8 166 (SP.is (.bool true)) (.bool true) (by rw [hD]; rfl) rfl (by rw [hD]; rfl) (by rw [hsz]; decide) (by rw [hl]; decide)), hb1, r4⟩)
    · have hk3 := hk
      exact wpOp_plain rfl rfl (wp_assign_v (ac.eval (.tmp 166)) rfl rfl ⟨hl2 9, (hF.put 9 6 (SP.is (.bool true)) (ac.eval (.tmp 166)) (by rw [hD]; rfl) ((hF.done 8 (166, SP.is (.bool true)) (by rw [hD]; rfl) (ready_dep hk 8 (by kernel_rfl)))) (by rw [hD]; rfl) (by rw [hsz]; decide) (by rw [hl]; decide)), hb1, r4⟩)
  · clear hb1 r4 
    intro listed ac W hI hr
    obtain ⟨hl, hF, hb1, r4⟩ := hI
    have hall := all_listed (by kernel_rfl) hl hr
    have h158 : ac.eval (.tmp 158) = .agg Ly.toArray := hF.done 0 (158, SP.is (.agg Ly.toArray)) (by rw [hD]; rfl) (hall 0 (by decide))
    have h159 : ac.eval (.tmp 159) = .pointer (some ⟨q, 0, none⟩) := hF.done 1 (159, SP.is (.pointer (some ⟨q, 0, none⟩))) (by rw [hD]; rfl) (hall 1 (by decide))
    have h160 : ac.eval (.tmp 160) = .int .i64 (k : Int) := hF.done 2 (160, SP.is (.int .i64 (k : Int))) (by rw [hD]; rfl) (hall 2 (by decide))
    have h161 : ac.eval (.tmp 161) = .pointer (some ⟨q, 0, none⟩) := hF.done 3 (161, SP.is (.pointer (some ⟨q, 0, none⟩))) (by rw [hD]; rfl) (hall 3 (by decide))
    have h162 : ac.eval (.tmp 162) = .pointer (some ⟨q, 3, none⟩) := hF.done 4 (162, SP.is (.pointer (some ⟨q, 3, none⟩))) (by rw [hD]; rfl) (hall 4 (by decide))
    have h163 : ac.eval (.tmp 163) = .pointer (some ⟨q, 3 + k * 70, none⟩) := hF.done 5 (163, SP.is (.pointer (some ⟨q, 3 + k * 70, none⟩))) (by rw [hD]; rfl) (hall 5 (by decide))
    have h164 : ac.eval (.tmp 164) = .pointer (some ⟨q, 3 + k * 70, none⟩) := hF.done 6 (164, SP.is (.pointer (some ⟨q, 3 + k * 70, none⟩))) (by rw [hD]; rfl) (hall 6 (by decide))
    have h165 : ac.eval (.tmp 165) = .agg Ly.toArray := hF.done 7 (165, SP.is (.agg Ly.toArray)) (by rw [hD]; rfl) (hall 7 (by decide))
    have h166 : ac.eval (.tmp 166) = .bool true := hF.done 8 (166, SP.is (.bool true)) (by rw [hD]; rfl) (hall 8 (by decide))
    have h6 : ac.eval (.tmp 6) = .bool true := hF.done 9 (6, SP.is (.bool true)) (by rw [hD]; rfl) (hall 9 (by decide))
    have ea := hF.lay [(158, .agg Ly.toArray), (159, .pointer (some ⟨q, 0, none⟩)), (160, .int .i64 (k : Int)), (161, .pointer (some ⟨q, 0, none⟩)), (162, .pointer (some ⟨q, 3, none⟩)), (163, .pointer (some ⟨q, 3 + k * 70, none⟩)), (164, .pointer (some ⟨q, 3 + k * 70, none⟩)), (165, .agg Ly.toArray), (166, .bool true), (6, .bool true)] (by rw [hD, hsz]; rfl) (by simp only [List.forall_mem_cons, List.not_mem_nil, false_implies, implies_true, and_true]; exact ⟨h158, h159, h160, h161, h162, h163, h164, h165, h166, h6⟩)
    rw [ha0] at ea
    simp only [List.foldl_cons, List.foldl_nil, List.setIfInBounds_toArray, List.set_cons_zero, List.set_cons_succ] at ea
    clear hF hall hr hl hD  zs0 zs1 zs20 ha0 hsz h158 h159 h160 h161 h162 h163 h164 h165 h166 h6
    subst ea
    have FP : Hid (Pl w0 W q B Ls Es T ts) := HFP.out.below hb1
    clear r4 hb1
    go_wp2_with fail
    go_ret
    exact ⟨by simp, FP.out⟩

end Go.Proofs.Ytfdbjcdcfmnicaa
