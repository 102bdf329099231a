/-
  LadderPlays: whole.
-/
import Derived.Test.YtfdbjcdcfmnicaaLpQ
namespace Go.Proofs.Ytfdbjcdcfmnicaa
open Go Go.RowKit
open Sha

set_option maxRecDepth 100000 in
set_option maxHeartbeats 16000000 in
theorem whole_any {w0 w : World} {q : Nat} {B : Int} {Ls : List (Nat × Value × La)} {Es : List (Value × La)} {T : Value} {ts : List (Value × Nat)} (h : Pl w0 w q B Ls Es T ts) {k p : Nat} {v e : Value} {st : La} (hk : Ls[k]? = some (p, v, st)) (he : Es[k]? = some (e, st)) :
    Calls Try.prog 19 #[.pointer (some ⟨q, 0, none⟩), .int .i64 (k : Int)] w fun r w' => r = .returned (.bool true) ∧ Pl w0 w' q B Ls Es T ts := by
  have hk3 : k < 3 := by have := (List.getElem?_eq_some_iff.1 hk).1; rw [h.l3] at this; exact this
  have HK3 : Hid (k < 3) := hk3
  have HPL : Hid (Pl w0 w q B Ls Es T ts) := h
  have HCP0 : Hid (∀ W, Pl w0 W q B Ls Es T ts → W.cell? ⟨q, k, none⟩ = some (.pointer (some ⟨p, 0, none⟩))) := fun W hP => hP.row.cell k _ (prc_p (by rw [List.getElem?_map, hk]; rfl))
  obtain ⟨L, hL⟩ : ∃ L, L = st.dc e := ⟨_, rfl⟩
  have HIL : Hid ((Try.prog.info? tRL).map (·.size) = some L.length) := by show _ = _; rw [hL]; exact La.dinfo (h.rf _ (List.mem_of_getElem? he)).ok.cf _
  have HRD0 : Hid (∀ W, Pl w0 W q B Ls Es T ts → W.rangeAt q (3 + k * 70) L) := fun W hP => hP.row.range (3 + k * 70) _ (fun j u hj => prc_d (by rw [List.length_map]; exact hP.l3) hP.d70 (by rw [List.getElem?_map, he]; rfl) j u (by rw [hL] at hj; exact hj))
  obtain ⟨m, hm⟩ : ∃ m, m = st.pend.length := ⟨_, rfl⟩
  have HM : Hid (st.pend.length = m ∧ m ≤ 32) := ⟨hm.symm, by rw [hm]; exact (h.lad hk).ok.pl⟩
  have HGW : Hid (∀ x ∈ st.pend, x.Wf) := (h.lad hk).ok.pw
  obtain ⟨Ae, ce, he0, _, _⟩ := (h.rf _ (List.mem_of_getElem? he)).form
  replace he0 : e = .slice Ae m ce := by rw [hm]; exact he0
  have HPN : Hid (∀ W, Pl w0 W q B Ls Es T ts → Calls Try.prog 22 #[.pointer (some ⟨p, 0, none⟩)] W fun r w' => ∃ A' c', r = .returned (.slice A' m c') ∧ Lw w' tP 90 (.slice A' m c') m (pcs st.pend) ∧ Fresh W.heap.size (.slice A' m c') ∧ Below W.heap.size W w') := fun W hP => pending_any (hP.lad hk) m hm
  have HCE : Hid (∀ W, Pl w0 W q B Ls Es T ts → W.cell? ⟨q, 3 + k * 70 + 66, none⟩ = some (.slice Ae m ce)) := fun W hP => hP.row.cell _ _ (prc_d (by rw [List.length_map]; exact hP.l3) hP.d70 (by rw [List.getElem?_map, he]; rfl) 66 _ (by rw [← he0]; exact La.d66 (h.lad hk).ok.cf _))
  have HPE : Hid (∀ W, Pl w0 W q B Ls Es T ts → Pr W Ae m st.pend) := fun W hP => by
    have this : Lo W tP 90 e st.pend.length (pcs st.pend) := (hP.rf _ (List.mem_of_getElem? he)).own
    rw [he0, ← hm] at this
    exact Pr.ofLo this hm.symm (h.lad hk).ok.pw
  obtain ⟨y, hy⟩ : ∃ y, y = st.conf := ⟨_, rfl⟩
  obtain ⟨z, hz⟩ : ∃ z, z = st.top := ⟨_, rfl⟩
  have HYW : Hid y.Wf := by show y.Wf; rw [hy]; exact (h.lad hk).ok.cf
  obtain ⟨Ly, hLy⟩ : ∃ M, M = y.cells := ⟨_, rfl⟩
  have HY0 : Hid (Ly = y.cells) := hLy
  have HY1 : Hid (Ly.length = zC.cells.length) := by show _ = _; rw [hLy]; exact (Cm.len HYW.out).trans (Cm.len zC_wf).symm
  have HY2 : Hid ((Try.prog.info? tC).map (·.size) = some Ly.length) := by show _ = _; rw [hLy]; exact Cm.info HYW.out
  have HY3 : Hid (Ly.toArray.all (·.oneCell') = true) := by show _ = _; rw [hLy]; exact all_one (Cm.one y)
  have HTW : Hid z.Wf := by show z.Wf; rw [hz]; exact (La.top_wf (h.lad hk).ok).1
  obtain ⟨Lt, hLt⟩ : ∃ M, M = z.cells := ⟨_, rfl⟩
  have HT0 : Hid (Lt = z.cells) := hLt
  have HT1 : Hid (Lt.length = zC.cells.length) := by show _ = _; rw [hLt]; exact (Cm.len HTW.out).trans (Cm.len zC_wf).symm
  have HT2 : Hid ((Try.prog.info? tC).map (·.size) = some Lt.length) := by show _ = _; rw [hLt]; exact Cm.info HTW.out
  have HT3 : Hid (Lt.toArray.all (·.oneCell') = true) := by show _ = _; rw [hLt]; exact all_one (Cm.one z)
  have HCF : Hid (∀ W, Pl w0 W q B Ls Es T ts → Calls Try.prog 30 #[.pointer (some ⟨p, 0, none⟩)] W fun r w' => r = .returned (.agg Ly.toArray) ∧ Below W.heap.size W w') := fun W hP => by rw [hLy]; exact confirmed_any (hP.lad hk) y hy
  have HTP : Hid (∀ W, Pl w0 W q B Ls Es T ts → Calls Try.prog 66 #[.pointer (some ⟨p, 0, none⟩)] W fun r w' => r = .returned (.agg Lt.toArray) ∧ Below W.heap.size W w') := fun W hP => by rw [hLt]; exact top_any (hP.lad hk) z hz
  have HRR0 : Hid (∀ W, Pl w0 W q B Ls Es T ts → Calls Try.prog 67 #[.agg L.toArray] W fun r w' => r = .returned (.agg Lt.toArray) ∧ Below W.heap.size W w') := fun W hP => by rw [hLt]; exact rtop_any (hP.rf _ (List.mem_of_getElem? he)) L hL z hz
  have HRC0 : Hid (∀ W, Pl w0 W q B Ls Es T ts → W.rangeAt q (3 + k * 70) Ly) := fun W hP => hP.row.range (3 + k * 70) _ (fun j u hj => prc_d (by rw [List.length_map]; exact hP.l3) hP.d70 (by rw [List.getElem?_map, he]; rfl) j u (by have := La.dconf st e j u (by rw [hLy, hy] at hj; exact hj); rwa [Nat.zero_add] at this))
  clear h hk he hk3 hL hm he0 hy hz hLy hLt
  go_enter Try.func19, Try.ntmps19
  go_upto_region 2 with (first
        | (refine wpList_plain rfl (fun _ hK => wp_ixO tL3 tLp rfl q 3 k 1 0 k rfl rfl HK3.out und_L3 info_Lp (by omega) (hK _ _ ?_)); simp only [Act.put, List.setIfInBounds_toArray, List.set_cons_zero, List.set_cons_succ])
        | (refine wpList_plain rfl (fun _ hK => wp_ld1 q k (.pointer (some ⟨p, 0, none⟩)) rfl rfl (ld_Lp _ q k _ (HCP0.out _ HPL.out)) (hK _ _ ?_)); simp only [Act.put, List.setIfInBounds_toArray, List.set_cons_zero, List.set_cons_succ])
        | (go_at_call 22; refine Calls.mono (HPN.out _ HPL.out) ?_; rintro r X1 ⟨Ax, cx, rfl, q1, q2, q3⟩; have HP1 : Hid (Pl w0 X1 q B Ls Es T ts) := HPL.out.below q3; have L1 : Hid (Lo X1 tP 90 (.slice Ax m cx) m (pcs st.pend)) := Lo.of q1; clear q1 q2 q3))
  go_upto_region 3 with (first
        | (refine wpList_plain rfl (fun _ hK => wp_ixO tL3 tLp rfl q 3 k 1 0 k rfl rfl HK3.out und_L3 info_Lp (by omega) (hK _ _ ?_)); simp only [Act.put, List.setIfInBounds_toArray, List.set_cons_zero, List.set_cons_succ])
        | (refine wpList_plain rfl (fun _ hK => wp_ld1 q k (.pointer (some ⟨p, 0, none⟩)) rfl rfl (ld_Lp _ q k _ (HCP0.out _ HP1.out)) (hK _ _ ?_)); simp only [Act.put, List.setIfInBounds_toArray, List.set_cons_zero, List.set_cons_succ])
        | (go_at_call 30; refine Calls.mono (HCF.out _ HP1.out) ?_; rintro r X2 ⟨rfl, q2⟩; have HP2 : Hid (Pl w0 X2 q B Ls Es T ts) := HP1.out.below q2; have L2 : Hid (Lo X2 tP 90 (.slice Ax m cx) m (pcs st.pend)) := L1.out.be q2; clear q2)
        | (refine wpList_alC rfl rfl ?_; intro X3 q1 q2 q3; clear q3; have RZ : Hid (Row X3 X2.heap.size zC.cells tC) := q1; have HP3 : Hid (Pl w0 X3 q B Ls Es T ts) := HP2.out.below q2; have L3 : Hid (Lo X3 tP 90 (.slice Ax m cx) m (pcs st.pend)) := L2.out.be q2; clear q1 q2; simp only [Act.put, List.setIfInBounds_toArray, List.set_cons_zero, List.set_cons_succ])
        | (refine wpList_stL rfl tC (.tmp 6) (.tmp 23) rfl X2.heap.size Ly zC.cells tC rfl rfl RZ.out HY1.out HY2.out HY3.out ?_; intro X4 q1 q2; have R4 : Hid (Row X4 X2.heap.size Ly tC) := q1; have HP4 : Hid (Pl w0 X4 q B Ls Es T ts) := HP3.out.fresh HP2.out q2 (fun g z => by { rw [z]; exact Nat.le_refl _ }); have L4 : Hid (Lo X4 tP 90 (.slice Ax m cx) m (pcs st.pend)) := L3.out.gro q2 (fun g e1 z => by { have := L2.out.lt g e1; omega }); clear q1 q2 RZ; simp only [Act.put]))
  clear HPN HCF
  go_upto_region 4 with (first
        | (refine wpList_plain rfl (fun _ hK => wp_ixO tL3 tLp rfl q 3 k 1 0 k rfl rfl HK3.out und_L3 info_Lp (by omega) (hK _ _ ?_)); simp only [Act.put, List.setIfInBounds_toArray, List.set_cons_zero, List.set_cons_succ])
        | (refine wpList_plain rfl (fun _ hK => wp_ld1 q k (.pointer (some ⟨p, 0, none⟩)) rfl rfl (ld_Lp _ q k _ (HCP0.out _ HP4.out)) (hK _ _ ?_)); simp only [Act.put, List.setIfInBounds_toArray, List.set_cons_zero, List.set_cons_succ])
        | (go_at_call 66; refine Calls.mono (HTP.out _ HP4.out) ?_; rintro r X5 ⟨rfl, q2⟩; have HP5 : Hid (Pl w0 X5 q B Ls Es T ts) := HP4.out.below q2; have L5 : Hid (Lo X5 tP 90 (.slice Ax m cx) m (pcs st.pend)) := L4.out.be q2; have R5 : Hid (Row X5 X2.heap.size Ly tC) := Row.below R4.out q2 R4.out.lt; clear q2)
        | (refine wpList_alC rfl rfl ?_; intro X6 q1 q2 q3; clear q3; have RZ : Hid (Row X6 X5.heap.size zC.cells tC) := q1; have HP6 : Hid (Pl w0 X6 q B Ls Es T ts) := HP5.out.below q2; have L6 : Hid (Lo X6 tP 90 (.slice Ax m cx) m (pcs st.pend)) := L5.out.be q2; have R6 : Hid (Row X6 X2.heap.size Ly tC) := Row.below R5.out q2 R5.out.lt; clear q1 q2; simp only [Act.put, List.setIfInBounds_toArray, List.set_cons_zero, List.set_cons_succ])
        | (refine wpList_stL rfl tC (.tmp 7) (.tmp 30) rfl X5.heap.size Lt zC.cells tC rfl rfl RZ.out HT1.out HT2.out HT3.out ?_; intro X7 q1 q2; have U7 : Hid (Row X7 X5.heap.size Lt tC) := q1; have HP7 : Hid (Pl w0 X7 q B Ls Es T ts) := HP6.out.fresh HP5.out q2 (fun g z => by { rw [z]; exact Nat.le_refl _ }); have L7 : Hid (Lo X7 tP 90 (.slice Ax m cx) m (pcs st.pend)) := L6.out.gro q2 (fun g e1 z => by { have := L5.out.lt g e1; omega }); have R7 : Hid (Row X7 X2.heap.size Ly tC) := q2.row R6.out (fun z => by { have := R5.out.lt; omega }); clear q1 q2 RZ; simp only [Act.put]))
  clear HTP
  go_upto_region 5 with (first
        | (refine wpList_plain rfl (fun _ hK => wp_ixO tR3 tRL rfl q 3 k 70 3 (3 + k * 70) rfl rfl HK3.out und_R3 info_RL rfl (hK _ _ ?_)); simp only [Act.put, List.setIfInBounds_toArray, List.set_cons_zero, List.set_cons_succ])
        | (refine wpList_ldS rfl tRL (.tmp 35) rfl q (3 + k * 70) rfl L _ (HRD0.out _ HP7.out) Try.underlying44 rfl HIL.out ?_; simp only [Act.put, List.setIfInBounds_toArray, List.set_cons_zero, List.set_cons_succ])
        | (go_at_call 67; refine Calls.mono (HRR0.out _ HP7.out) ?_; rintro r X8 ⟨rfl, q2⟩; have HP8 : Hid (Pl w0 X8 q B Ls Es T ts) := HP7.out.below q2; have L8 : Hid (Lo X8 tP 90 (.slice Ax m cx) m (pcs st.pend)) := L7.out.be q2; have R8 : Hid (Row X8 X2.heap.size Ly tC) := Row.below R7.out q2 R7.out.lt; have U8 : Hid (Row X8 X5.heap.size Lt tC) := Row.below U7.out q2 U7.out.lt; clear q2)
        | (refine wpList_alC rfl rfl ?_; intro X9 q1 q2 q3; clear q3; have RZ : Hid (Row X9 X8.heap.size zC.cells tC) := q1; have HP9 : Hid (Pl w0 X9 q B Ls Es T ts) := HP8.out.below q2; have L9 : Hid (Lo X9 tP 90 (.slice Ax m cx) m (pcs st.pend)) := L8.out.be q2; have R9 : Hid (Row X9 X2.heap.size Ly tC) := Row.below R8.out q2 R8.out.lt; have U9 : Hid (Row X9 X5.heap.size Lt tC) := Row.below U8.out q2 U8.out.lt; clear q1 q2; simp only [Act.put, List.setIfInBounds_toArray, List.set_cons_zero, List.set_cons_succ])
        | (refine wpList_stL rfl tC (.tmp 8) (.tmp 37) rfl X8.heap.size Lt zC.cells tC rfl rfl RZ.out HT1.out HT2.out HT3.out ?_; intro Z1 q1 q2; have V1 : Hid (Row Z1 X8.heap.size Lt tC) := q1; have HQ1 : Hid (Pl w0 Z1 q B Ls Es T ts) := HP9.out.fresh HP8.out q2 (fun g z => by { rw [z]; exact Nat.le_refl _ }); have M1 : Hid (Lo Z1 tP 90 (.slice Ax m cx) m (pcs st.pend)) := L9.out.gro q2 (fun g e1 z => by { have := L8.out.lt g e1; omega }); have S1 : Hid (Row Z1 X2.heap.size Ly tC) := q2.row R9.out (fun z => by { have := R8.out.lt; omega }); have U1 : Hid (Row Z1 X5.heap.size Lt tC) := q2.row U9.out (fun z => by { have := U8.out.lt; omega }); clear q1 q2 RZ; simp only [Act.put]))
  clear HRR0 HRD0
  go_upto_region 6 with (first
        | (refine wpList_plain rfl (fun _ hK => wp_ixO tR3 tRL rfl q 3 k 70 3 (3 + k * 70) rfl rfl HK3.out und_R3 info_RL rfl (hK _ _ ?_)); simp only [Act.put, List.setIfInBounds_toArray, List.set_cons_zero, List.set_cons_succ])
        | (refine wpList_plain rfl (fun _ hK => wp_fRL1 rfl q (3 + k * 70) rfl (hK _ _ ?_)); simp only [Act.put, List.setIfInBounds_toArray, List.set_cons_zero, List.set_cons_succ])
        | (refine wpList_plain rfl (fun _ hK => wp_ld1 q (3 + k * 70 + 66) (.slice Ae m ce) rfl rfl (ld_Ps _ q (3 + k * 70 + 66) _ (HCE.out _ HQ1.out)) (hK _ _ ?_)); simp only [Act.put, List.setIfInBounds_toArray, List.set_cons_zero, List.set_cons_succ])
        | (go_at_call 26; refine Calls.mono (same_any Z1 Ax Ae m m cx ce st.pend st.pend (Pr.ofLo M1.out HM.out.1 HGW.out) (HPE.out _ HQ1.out) (by have := HM.out.2; omega) true (decide_eq_true rfl).symm) ?_; rintro r Z2 ⟨rfl, q2⟩; have HQ2 : Hid (Pl w0 Z2 q B Ls Es T ts) := HQ1.out.below q2; have S2 : Hid (Row Z2 X2.heap.size Ly tC) := Row.below S1.out q2 S1.out.lt; have U2 : Hid (Row Z2 X5.heap.size Lt tC) := Row.below U1.out q2 U1.out.lt; have V2 : Hid (Row Z2 X8.heap.size Lt tC) := Row.below V1.out q2 V1.out.lt; clear q2))
  have rc := S2.out
  have rt := U2.out
  have rd := V2.out
  have hb1 := Below.refl Z2.heap.size Z2
  have HRCq : Hid (∀ W, Below Z2.heap.size Z2 W → W.rangeAt q (3 + k * 70) Ly) := fun W k => HRC0.out _ (HQ2.out.below k)
  obtain ⟨b6, hb6⟩ : ∃ b, b = X2.heap.size := ⟨_, rfl⟩
  obtain ⟨b7, hb7⟩ : ∃ b, b = X5.heap.size := ⟨_, rfl⟩
  obtain ⟨b8, hb8⟩ : ∃ b, b = X8.heap.size := ⟨_, rfl⟩
  rw [← hb6] at rc ⊢
  rw [← hb7] at rt ⊢
  rw [← hb8] at rd ⊢
  clear hb6 hb7 hb8
  refine wp_named fun a0 ha0 => ?_
  have hsz : a0.tmps.size = 64 := by rw [ha0]; rfl
  have zs0 : a0.eval (.tmp 0) = .pointer (some ⟨q, 0, none⟩) := by rw [ha0]; rfl
  have zs1 : a0.eval (.tmp 1) = .int .i64 (k : Int) := by rw [ha0]; rfl
  have zs6 : a0.eval (.tmp 6) = .pointer (some ⟨b6, 0, none⟩) := by rw [ha0]; rfl
  have zs7 : a0.eval (.tmp 7) = .pointer (some ⟨b7, 0, none⟩) := by rw [ha0]; rfl
  have zs8 : a0.eval (.tmp 8) = .pointer (some ⟨b8, 0, none⟩) := by rw [ha0]; rfl
  have zs9 : a0.eval (.tmp 9) = .bool true := by rw [ha0]; rfl
  obtain ⟨D, hD⟩ : ∃ D : List (Tmp × SP), D = [(47, SP.is (.bool true)), (48, SP.is (.bool true)), (49, SP.is (.agg Ly.toArray)), (50, SP.is (.pointer (some ⟨q, 0, none⟩))), (51, SP.is (.int .i64 (k : Int))), (52, SP.is (.pointer (some ⟨q, 0, none⟩))), (53, SP.is (.pointer (some ⟨q, 3, none⟩))), (54, SP.is (.pointer (some ⟨q, 3 + k * 70, none⟩))), (55, SP.is (.pointer (some ⟨q, 3 + k * 70, none⟩))), (56, SP.is (.agg Ly.toArray)), (57, SP.is (.bool true)), (58, SP.is (.bool true)), (59, SP.is (.bool true)), (60, SP.is (.agg Lt.toArray)), (61, SP.is (.agg Lt.toArray)), (62, SP.is (.bool true)), (63, SP.is (.bool true)), (4, SP.is (.bool true))] := ⟨_, rfl⟩
  refine wp_region_down (by kernel_rfl) (fun listed ac W => listed.size = 18 ∧ Fp D a0 listed ac W ∧ Below Z2.heap.size Z2 W ∧ Row W b6 Ly tC ∧ Row W b7 Lt tC ∧ Row W b8 Lt tC) ?_ ?_ ?_
  · exact ⟨by simp, Fp.start D a0 _ _, Below.drew hb1, Row.drew rc, Row.drew rt, Row.drew rd⟩
  · clear ha0 hb1 rc rt rd 
    intro listed ac W k hI hdn hk
    obtain ⟨hl, hF, hb1, rc, rt, rd⟩ := hI
    have hk1 : k < 18 := List.mem_range.1 (List.mem_filter.1 hk).1
    have hl2 : ∀ j, (listed.setIfInBounds j true).size = 18 := fun j => by rw [Array.size_setIfInBounds]; exact hl
    rcases (show k = 0 ∨ k = 1 ∨ k = 2 ∨ k = 3 ∨ k = 4 ∨ k = 5 ∨ k = 6 ∨ k = 7 ∨ k = 8 ∨ k = 9 ∨ k = 10 ∨ k = 11 ∨ k = 12 ∨ k = 13 ∨ k = 14 ∨ k = 15 ∨ k = 16 ∨ k = 17 by omega) with rfl | rfl | rfl | rfl | rfl | rfl | rfl | rfl | rfl | rfl | rfl | rfl | rfl | rfl | rfl | rfl | rfl | rfl
    · have hk3 := hk
      exact wpOp_plain rfl rfl (wp_move_v (ac.eval (.tmp 9)) rfl rfl ⟨hl2 0, (hF.put 0 47 (SP.is (.bool true)) (ac.eval (.tmp 9)) (by rw [hD]; rfl) (((hF.keep 9 (by rw [hD]; rfl)).trans zs9)) (by rw [hD]; rfl) (by rw [hsz]; decide) (by rw [hl]; decide)), hb1, rc, rt, rd⟩)
    · have hk3 := hk
      exact wpOp_plain rfl rfl (wp_move_v (ac.eval (.tmp 47)) rfl rfl ⟨hl2 1, (hF.put 1 48 (SP.is (.bool true)) (ac.eval (.tmp 47)) (by rw [hD]; rfl) ((hF.done 0 (47, SP.is (.bool true)) (by rw [hD]; rfl) (ready_dep hk 0 (by kernel_rfl)))) (by rw [hD]; rfl) (by rw [hsz]; decide) (by rw [hl]; decide)), hb1, rc, rt, rd⟩)
    · have hk3 := hk
      exact wpOp_wanted rfl (wanted_g (g := 1) (b := true) rfl rfl (hF.done 1 (48, SP.is (.bool true)) (by rw [hD]; rfl) (ready_dep hk 1 (by kernel_rfl))) (by rw [hF.size, hsz]; decide)) (wp_load_mid tC (.tmp 6) rfl b6 0 ((hF.keep 6 (by rw [hD]; rfl)).trans zs6) Ly _ rc.all Try.underlying25 rfl HY2.out ⟨hl2 2, (hF.put 2 49 (SP.is (.agg Ly.toArray)) (.agg Ly.toArray) (by rw [hD]; rfl) rfl (by rw [hD]; rfl) (by rw [hsz]; decide) (by rw [hl]; decide)), hb1, rc, rt, rd⟩)
    · have hk3 := hk
      exact wpOp_wanted rfl (wanted_g (g := 1) (b := true) rfl rfl (hF.done 1 (48, SP.is (.bool true)) (by rw [hD]; rfl) (ready_dep hk 1 (by kernel_rfl))) (by rw [hF.size, hsz]; decide)) (wp_move_v (ac.eval (.tmp 0)) rfl rfl ⟨hl2 3, (hF.put 3 50 (SP.is (.pointer (some ⟨q, 0, none⟩))) (ac.eval (.tmp 0)) (by rw [hD]; rfl) (((hF.keep 0 (by rw [hD]; rfl)).trans zs0)) (by rw [hD]; rfl) (by rw [hsz]; decide) (by rw [hl]; decide)), hb1, rc, rt, rd⟩)
    · have hk3 := hk
      exact wpOp_wanted rfl (wanted_g (g := 1) (b := true) rfl rfl (hF.done 1 (48, SP.is (.bool true)) (by rw [hD]; rfl) (ready_dep hk 1 (by kernel_rfl))) (by rw [hF.size, hsz]; decide)) (wp_move_v (ac.eval (.tmp 1)) rfl rfl ⟨hl2 4, (hF.put 4 51 (SP.is (.int .i64 (k : Int))) (ac.eval (.tmp 1)) (by rw [hD]; rfl) (((hF.keep 1 (by rw [hD]; rfl)).trans zs1)) (by rw [hD]; rfl) (by rw [hsz]; decide) (by rw [hl]; decide)), hb1, rc, rt, rd⟩)
    · have hk3 := hk
      have ea := (hF.done 3 (50, SP.is (.pointer (some ⟨q, 0, none⟩))) (by rw [hD]; rfl) (ready_dep hk 3 (by kernel_rfl)))
      exact wpOp_wanted rfl (wanted_g (g := 1) (b := true) rfl rfl (hF.done 1 (48, SP.is (.bool true)) (by rw [hD]; rfl) (ready_dep hk 1 (by kernel_rfl))) (by rw [hF.size, hsz]; decide)) (wp_nilL rfl q ea ⟨hl2 5, (hF.put 5 52 (SP.is (.pointer (some ⟨q, 0, none⟩))) (.pointer (some ⟨q, 0, none⟩)) (by rw [hD]; rfl) rfl (by rw [hD]; rfl) (by rw [hsz]; decide) (by rw [hl]; decide)), hb1, rc, rt, rd⟩)
    · have hk3 := hk
      have ea := (hF.done 5 (52, SP.is (.pointer (some ⟨q, 0, none⟩))) (by rw [hD]; rfl) (ready_dep hk 5 (by kernel_rfl)))
      exact wpOp_wanted rfl (wanted_g (g := 1) (b := true) rfl rfl (hF.done 1 (48, SP.is (.bool true)) (by rw [hD]; rfl) (ready_dep hk 1 (by kernel_rfl))) (by rw [hF.size, hsz]; decide)) (wp_fPr1 rfl q ea ⟨hl2 6, (hF.put 6 53 (SP.is (.pointer (some ⟨q, 3, none⟩))) (.pointer (some ⟨q, 3, none⟩)) (by rw [hD]; rfl) rfl (by rw [hD]; rfl) (by rw [hsz]; decide) (by rw [hl]; decide)), hb1, rc, rt, rd⟩)
    · have hk3 := hk
      have ea := (hF.done 6 (53, SP.is (.pointer (some ⟨q, 3, none⟩))) (by rw [hD]; rfl) (ready_dep hk 6 (by kernel_rfl)))
      have eb := (hF.done 4 (51, SP.is (.int .i64 (k : Int))) (by rw [hD]; rfl) (ready_dep hk 4 (by kernel_rfl)))
      exact wpOp_wanted rfl (wanted_g (g := 1) (b := true) rfl rfl (hF.done 1 (48, SP.is (.bool true)) (by rw [hD]; rfl) (ready_dep hk 1 (by kernel_rfl))) (by rw [hF.size, hsz]; decide)) (wp_ixO tR3 tRL rfl q 3 k 70 3 (3 + k * 70) ea eb HK3.out und_R3 info_RL rfl ⟨hl2 7, (hF.put 7 54 (SP.is (.pointer (some ⟨q, 3 + k * 70, none⟩))) (.pointer (some ⟨q, 3 + k * 70, none⟩)) (by rw [hD]; rfl) rfl (by rw [hD]; rfl) (by rw [hsz]; decide) (by rw [hl]; decide)), hb1, rc, rt, rd⟩)
    · have hk3 := hk
      have ea := (hF.done 7 (54, SP.is (.pointer (some ⟨q, 3 + k * 70, none⟩))) (by rw [hD]; rfl) (ready_dep hk 7 (by kernel_rfl)))
      exact wpOp_wanted rfl (wanted_g (g := 1) (b := true) rfl rfl (hF.done 1 (48, SP.is (.bool true)) (by rw [hD]; rfl) (ready_dep hk 1 (by kernel_rfl))) (by rw [hF.size, hsz]; decide)) (wp_fRL0 rfl q (3 + k * 70) ea ⟨hl2 8, (hF.put 8 55 (SP.is (.pointer (some ⟨q, 3 + k * 70, none⟩))) (.pointer (some ⟨q, 3 + k * 70, none⟩)) (by rw [hD]; rfl) rfl (by rw [hD]; rfl) (by rw [hsz]; decide) (by rw [hl]; decide)), hb1, rc, rt, rd⟩)
    · have hk3 := hk
      have ea := (hF.done 8 (55, SP.is (.pointer (some ⟨q, 3 + k * 70, none⟩))) (by rw [hD]; rfl) (ready_dep hk 8 (by kernel_rfl)))
      exact wpOp_wanted rfl (wanted_g (g := 1) (b := true) rfl rfl (hF.done 1 (48, SP.is (.bool true)) (by rw [hD]; rfl) (ready_dep hk 1 (by kernel_rfl))) (by rw [hF.size, hsz]; decide)) (wp_load_mid tC (.tmp 55) rfl q (3 + k * 70) ea Ly _ (HRCq.out W hb1) Try.underlying25 rfl HY2.out ⟨hl2 9, (hF.put 9 56 (SP.is (.agg Ly.toArray)) (.agg Ly.toArray) (by rw [hD]; rfl) rfl (by rw [hD]; rfl) (by rw [hsz]; decide) (by rw [hl]; decide)), hb1, rc, rt, rd⟩)
    · have hk3 := hk
      have ea := (hF.done 2 (49, SP.is (.agg Ly.toArray)) (by rw [hD]; rfl) (ready_dep hk 2 (by kernel_rfl)))
      have eb := (hF.done 9 (56, SP.is (.agg Ly.toArray)) (by rw [hD]; rfl) (ready_dep hk 9 (by kernel_rfl)))
      exact wpOp_wanted rfl (wanted_g (g := 1) (b := true) rfl rfl (hF.done 1 (48, SP.is (.bool true)) (by rw [hD]; rfl) (ready_dep hk 1 (by kernel_rfl))) (by rw [hF.size, hsz]; decide)) (wp_eqC (.tmp 49) (.tmp 56) _ rfl y y HYW.out HYW.out (by rw [← HY0.out]; exact ea) (by rw [← HY0.out]; exact eb) true (decide_eq_true rfl) ⟨hl2 10, (hF.put 10 57 (SP.is (.bool true)) (.bool true) (by rw [hD]; rfl) rfl (by rw [hD]; rfl) (by rw [hsz]; decide) (by rw [hl]; decide)), hb1, rc, rt, rd⟩)
    · have hk3 := hk
      have ea := (hF.done 1 (48, SP.is (.bool true)) (by rw [hD]; rfl) (ready_dep hk 1 (by kernel_rfl)))
      have eb := (hF.done 10 (57, SP.is (.bool true)) (by rw [hD]; rfl) (ready_dep hk 10 (by kernel_rfl)))
      exact wpOp_plain rfl rfl (wp_pick_v (.bool true) rfl ea eb ⟨hl2 11, (hF.put 11 58 (SP.is (.bool true)) (.bool true) (by rw [hD]; rfl) rfl (by rw [hD]; rfl) (by rw [hsz]; decide) (by rw [hl]; decide)), hb1, rc, rt, rd⟩)
    · have hk3 := hk
      exact wpOp_plain rfl rfl (wp_move_v (ac.eval (.tmp 58)) rfl rfl ⟨hl2 12, (hF.put 12 59 (SP.is (.bool true)) (ac.eval (.tmp 58)) (by rw [hD]; rfl) ((hF.done 11 (58, SP.is (.bool true)) (by rw [hD]; rfl) (ready_dep hk 11 (by kernel_rfl)))) (by rw [hD]; rfl) (by rw [hsz]; decide) (by rw [hl]; decide)), hb1, rc, rt, rd⟩)
    · have hk3 := hk
      exact wpOp_wanted rfl (wanted_g (g := 12) (b := true) rfl rfl (hF.done 12 (59, SP.is (.bool true)) (by rw [hD]; rfl) (ready_dep hk 12 (by kernel_rfl))) (by rw [hF.size, hsz]; decide)) (wp_load_mid tC (.tmp 7) rfl b7 0 ((hF.keep 7 (by rw [hD]; rfl)).trans zs7) Lt _ rt.all Try.underlying25 rfl HT2.out ⟨hl2 13, (hF.put 13 60 (SP.is (.agg Lt.toArray)) (.agg Lt.toArray) (by rw [hD]; rfl) rfl (by rw [hD]; rfl) (by rw [hsz]; decide) (by rw [hl]; decide)), hb1, rc, rt, rd⟩)
    · have hk3 := hk
      exact wpOp_wanted rfl (wanted_g (g := 12) (b := true) rfl rfl (hF.done 12 (59, SP.is (.bool true)) (by rw [hD]; rfl) (ready_dep hk 12 (by kernel_rfl))) (by rw [hF.size, hsz]; decide)) (wp_load_mid tC (.tmp 8) rfl b8 0 ((hF.keep 8 (by rw [hD]; rfl)).trans zs8) Lt _ rd.all Try.underlying25 rfl HT2.out ⟨hl2 14, (hF.put 14 61 (SP.is (.agg Lt.toArray)) (.agg Lt.toArray) (by rw [hD]; rfl) rfl (by rw [hD]; rfl) (by rw [hsz]; decide) (by rw [hl]; decide)), hb1, rc, rt, rd⟩)
    · have hk3 := hk
      have ea := (hF.done 13 (60, SP.is (.agg Lt.toArray)) (by rw [hD]; rfl) (ready_dep hk 13 (by kernel_rfl)))
      have eb := (hF.done 14 (61, SP.is (.agg Lt.toArray)) (by rw [hD]; rfl) (ready_dep hk 14 (by kernel_rfl)))
      exact wpOp_wanted rfl (wanted_g (g := 12) (b := true) rfl rfl (hF.done 12 (59, SP.is (.bool true)) (by rw [hD]; rfl) (ready_dep hk 12 (by kernel_rfl))) (by rw [hF.size, hsz]; decide)) (wp_eqC (.tmp 60) (.tmp 61) _ rfl z z HTW.out HTW.out (by rw [← HT0.out]; exact ea) (by rw [← HT0.out]; exact eb) true (decide_eq_true rfl) ⟨hl2 15, (hF.put 15 62 (SP.is (.bool true)) (.bool true) (by rw [hD]; rfl) rfl (by rw [hD]; rfl) (by rw [hsz]; decide) (by rw [hl]; decide)), hb1, rc, rt, rd⟩)
    · have hk3 := hk
      have ea := (hF.done 12 (59, SP.is (.bool true)) (by rw [hD]; rfl) (ready_dep hk 12 (by kernel_rfl)))
      have eb := (hF.done 15 (62, SP.is (.bool true)) (by rw [hD]; rfl) (ready_dep hk 15 (by kernel_rfl)))
      exact wpOp_plain rfl rfl (wp_pick_v (.bool true) rfl ea eb ⟨hl2 16, (hF.put 16 63 (SP.is (.bool true)) (.bool true) (by rw [hD]; rfl) rfl (by rw [hD]; rfl) (by rw [hsz]; decide) (by rw [hl]; decide)), hb1, rc, rt, rd⟩)
    · have hk3 := hk
      exact wpOp_plain rfl rfl (wp_assign_v (ac.eval (.tmp 63)) rfl rfl ⟨hl2 17, (hF.put 17 4 (SP.is (.bool true)) (ac.eval (.tmp 63)) (by rw [hD]; rfl) ((hF.done 16 (63, SP.is (.bool true)) (by rw [hD]; rfl) (ready_dep hk 16 (by kernel_rfl)))) (by rw [hD]; rfl) (by rw [hsz]; decide) (by rw [hl]; decide)), hb1, rc, rt, rd⟩)
  · clear hb1 rc rt rd 
    intro listed ac W hI hr
    obtain ⟨hl, hF, hb1, rc, rt, rd⟩ := hI
    have hall := all_listed (by kernel_rfl) hl hr
    have h47 : ac.eval (.tmp 47) = .bool true := hF.done 0 (47, SP.is (.bool true)) (by rw [hD]; rfl) (hall 0 (by decide))
    have h48 : ac.eval (.tmp 48) = .bool true := hF.done 1 (48, SP.is (.bool true)) (by rw [hD]; rfl) (hall 1 (by decide))
    have h49 : ac.eval (.tmp 49) = .agg Ly.toArray := hF.done 2 (49, SP.is (.agg Ly.toArray)) (by rw [hD]; rfl) (hall 2 (by decide))
    have h50 : ac.eval (.tmp 50) = .pointer (some ⟨q, 0, none⟩) := hF.done 3 (50, SP.is (.pointer (some ⟨q, 0, none⟩))) (by rw [hD]; rfl) (hall 3 (by decide))
    have h51 : ac.eval (.tmp 51) = .int .i64 (k : Int) := hF.done 4 (51, SP.is (.int .i64 (k : Int))) (by rw [hD]; rfl) (hall 4 (by decide))
    have h52 : ac.eval (.tmp 52) = .pointer (some ⟨q, 0, none⟩) := hF.done 5 (52, SP.is (.pointer (some ⟨q, 0, none⟩))) (by rw [hD]; rfl) (hall 5 (by decide))
    have h53 : ac.eval (.tmp 53) = .pointer (some ⟨q, 3, none⟩) := hF.done 6 (53, SP.is (.pointer (some ⟨q, 3, none⟩))) (by rw [hD]; rfl) (hall 6 (by decide))
    have h54 : ac.eval (.tmp 54) = .pointer (some ⟨q, 3 + k * 70, none⟩) := hF.done 7 (54, SP.is (.pointer (some ⟨q, 3 + k * 70, none⟩))) (by rw [hD]; rfl) (hall 7 (by decide))
    have h55 : ac.eval (.tmp 55) = .pointer (some ⟨q, 3 + k * 70, none⟩) := hF.done 8 (55, SP.is (.pointer (some ⟨q, 3 + k * 70, none⟩))) (by rw [hD]; rfl) (hall 8 (by decide))
    have h56 : ac.eval (.tmp 56) = .agg Ly.toArray := hF.done 9 (56, SP.is (.agg Ly.toArray)) (by rw [hD]; rfl) (hall 9 (by decide))
    have h57 : ac.eval (.tmp 57) = .bool true := hF.done 10 (57, SP.is (.bool true)) (by rw [hD]; rfl) (hall 10 (by decide))
    have h58 : ac.eval (.tmp 58) = .bool true := hF.done 11 (58, SP.is (.bool true)) (by rw [hD]; rfl) (hall 11 (by decide))
    have h59 : ac.eval (.tmp 59) = .bool true := hF.done 12 (59, SP.is (.bool true)) (by rw [hD]; rfl) (hall 12 (by decide))
    have h60 : ac.eval (.tmp 60) = .agg Lt.toArray := hF.done 13 (60, SP.is (.agg Lt.toArray)) (by rw [hD]; rfl) (hall 13 (by decide))
    have h61 : ac.eval (.tmp 61) = .agg Lt.toArray := hF.done 14 (61, SP.is (.agg Lt.toArray)) (by rw [hD]; rfl) (hall 14 (by decide))
    have h62 : ac.eval (.tmp 62) = .bool true := hF.done 15 (62, SP.is (.bool true)) (by rw [hD]; rfl) (hall 15 (by decide))
    have h63 : ac.eval (.tmp 63) = .bool true := hF.done 16 (63, SP.is (.bool true)) (by rw [hD]; rfl) (hall 16 (by decide))
    have h4 : ac.eval (.tmp 4) = .bool true := hF.done 17 (4, SP.is (.bool true)) (by rw [hD]; rfl) (hall 17 (by decide))
    have ea := hF.lay [(47, .bool true), (48, .bool true), (49, .agg Ly.toArray), (50, .pointer (some ⟨q, 0, none⟩)), (51, .int .i64 (k : Int)), (52, .pointer (some ⟨q, 0, none⟩)), (53, .pointer (some ⟨q, 3, none⟩)), (54, .pointer (some ⟨q, 3 + k * 70, none⟩)), (55, .pointer (some ⟨q, 3 + k * 70, none⟩)), (56, .agg Ly.toArray), (57, .bool true), (58, .bool true), (59, .bool true), (60, .agg Lt.toArray), (61, .agg Lt.toArray), (62, .bool true), (63, .bool true), (4, .bool true)] (by rw [hD, hsz]; rfl) (by simp only [List.forall_mem_cons, List.not_mem_nil, false_implies, implies_true, and_true]; exact ⟨h47, h48, h49, h50, h51, h52, h53, h54, h55, h56, h57, h58, h59, h60, h61, h62, h63, h4⟩)
    rw [ha0] at ea
    simp only [List.foldl_cons, List.foldl_nil, List.setIfInBounds_toArray, List.set_cons_zero, List.set_cons_succ] at ea
    clear hF hall hr hl hD  zs0 zs1 zs6 zs7 zs8 zs9 ha0 hsz h47 h48 h49 h50 h51 h52 h53 h54 h55 h56 h57 h58 h59 h60 h61 h62 h63 h4
    subst ea
    have FP : Hid (Pl w0 W q B Ls Es T ts) := HQ2.out.below hb1
    clear rc rt rd hb1
    go_wp2_with fail
    go_ret
    exact ⟨by simp, FP.out⟩

end Go.Proofs.Ytfdbjcdcfmnicaa
