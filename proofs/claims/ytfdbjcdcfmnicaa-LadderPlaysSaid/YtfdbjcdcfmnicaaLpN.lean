/-
  LadderPlays: turn at Drop.
-/
import Derived.Test.YtfdbjcdcfmnicaaLpM
namespace Go.Proofs.Ytfdbjcdcfmnicaa
open Go Go.RowKit
open Sha

theorem Fp.turned {D : List (Tmp × SP)} {a0 : Act} {listed : Array Bool} {a : Act} {W W2 : World} (h : Fp D a0 listed a W) (hW : ∀ i p, D[i]? = some p → listed.getD i false = true → ∀ v, p.2.P W v → p.2.P W2 v) : Fp D a0 listed a W2 :=
  ⟨h.size, h.defers, h.keep, fun i p hp hl => hW i p hp hl _ (h.done i p hp hl), h.fresh⟩
set_option maxRecDepth 100000 in
set_option maxHeartbeats 16000000 in
theorem turn_drop {w0 w : World} {q : Nat} {B : Int} {Ls : List (Nat × Value × La)} {Es : List (Value × La)} {T : Value} {ts : List (Value × Nat)} (h : Pl w0 w q B Ls Es T ts) (hts : ts.length ≤ 5000000000000) {k p : Nat} {v e : Value} {st : La} (hk : Ls[k]? = some (p, v, st)) (he : Es[k]? = some (e, st)) (s : Sp16) (hs : s.Ok) (hkd : s.kd = 3) (S : List Value) (hS : S = s.cells) :
    Calls Try.prog 17 #[.pointer (some ⟨q, 0, none⟩), .int .i64 (k : Int), .agg S.toArray] w fun r w' => r = .returned (.bool true) ∧ ∃ v' e' st' T' y, Pl w0 w' q B (Ls.set k (p, v', st')) (Es.set k (e', st')) T' (ts ++ [y]) := by
  obtain ⟨st', gone, E, hr⟩ : ∃ st' gone E, st.drop s.nr = (st', gone, E) := ⟨_, _, _, rfl⟩
  have hk3 : k < 3 := by have := (List.getElem?_eq_some_iff.1 hk).1; rw [h.l3] at this; exact this
  have HK3 : Hid (k < 3) := hk3
  have HPL : Hid (Pl w0 w q B Ls Es T ts) := h
  have HTS : Hid (ts.length ≤ 5000000000000) := hts
  have HLK : Hid (Ls[k]? = some (p, v, st)) := hk
  have HEK : Hid (Es[k]? = some (e, st)) := he
  have HBC : Hid (B ≤ B) := Int.le_refl _
  obtain ⟨m, hm⟩ : ∃ m, m = gone.length := ⟨_, rfl⟩
  have hokst : st.Ok B := (h.lad hk).ok
  have HGW : Hid (∀ x ∈ gone, x.Wf) := fun x hx => by
    unfold La.drop at hr
    split at hr
    · obtain ⟨_, k2⟩ := Prod.mk.inj hr
      obtain ⟨k3, _⟩ := Prod.mk.inj k2
      rw [← k3] at hx; cases hx
    · obtain ⟨_, k2⟩ := Prod.mk.inj hr
      obtain ⟨k3, _⟩ := Prod.mk.inj k2
      rw [← k3] at hx
      exact hokst.pw x (List.mem_of_mem_drop hx)
  have hm32 : m ≤ 32 := by
    rw [hm]
    unfold La.drop at hr
    split at hr
    · obtain ⟨_, k2⟩ := Prod.mk.inj hr
      obtain ⟨k3, _⟩ := Prod.mk.inj k2
      rw [← k3]; exact Nat.zero_le _
    · obtain ⟨_, k2⟩ := Prod.mk.inj hr
      obtain ⟨k3, _⟩ := Prod.mk.inj k2
      rw [← k3, List.length_drop]; have := hokst.pl; omega
  have HM : Hid (gone.length = m ∧ m ≤ 32) := ⟨hm.symm, hm32⟩
  have HNR : Hid (S[91]? = some (.int .i64 s.nr)) := by rw [hS]; exact Sp16.at_nr hs
  have HKD : Hid (S[0]? = some (.int .i64 3)) := by rw [hS, ← hkd]; exact Sp16.at_kd s
  have HCP : Hid (∀ W, Pl w0 W q B Ls Es T ts → W.cell? ⟨q, k, none⟩ = some (.pointer (some ⟨p, 0, none⟩))) := fun W hP => hP.row.cell k _ (prc_p (by rw [List.getElem?_map, hk]; rfl))
  have HRL : Hid (∀ W, Pl w0 W q B Ls Es T ts → Calls Try.prog 25 #[.pointer (some ⟨p, 0, none⟩), .int .i64 s.nr] W fun r w' => ∃ A' c', r = .returned (.tuple #[.slice A' m c', .int .i64 E]) ∧ Lo w' tP 90 (.slice A' m c') m (pcs gone) ∧ Fresh W.heap.size (.slice A' m c') ∧ Ts W w' p v B st') := fun W hP => (drop_any (hP.lad hk) s.nr st' gone E hr).mono (fun r w' ⟨A', m', c', h1, h2, h3, h4, h5⟩ => by
    have e2 : m' = m := by omega
    subst e2
    exact ⟨A', c', h1, Lo.of h3, h4, h5⟩)
  obtain ⟨L, hL⟩ : ∃ L, L = st.dc e := ⟨_, rfl⟩
  have HIL : Hid ((Try.prog.info? tRL).map (·.size) = some L.length) := by show _ = _; rw [hL]; exact La.dinfo (h.rf _ (List.mem_of_getElem? he)).ok.cf _
  have HRD0 : Hid (∀ W Ls2, Pl w0 W q B Ls2 Es T ts → W.rangeAt q (3 + k * 70) L) := fun W Ls2 hP => hP.row.range (3 + k * 70) _ (fun j u hj => prc_d (by rw [List.length_map]; exact hP.l3) hP.d70 (by rw [List.getElem?_map, he]; rfl) j u (by rw [hL] at hj; exact hj))
  have HRR0 : Hid (∀ W Ls2, Pl w0 W q B Ls2 Es T ts → Calls Try.prog 58 #[.agg L.toArray, .int .i64 s.nr] W fun r w' => ∃ v' A' c', r = .returned (.tuple #[.agg (st'.dc v').toArray, .slice A' m c', .int .i64 E]) ∧ Rf w' v' B st' ∧ Nv W e v' ∧ Lo w' tP 90 (.slice A' m c') m (pcs gone) ∧ Below W.heap.size W w') := fun W Ls2 hP => (rdrop_lo (hP.rf _ (List.mem_of_getElem? he)) s.nr L hL st' gone E hr).mono (fun r w' ⟨v', A', m', c', h1, h2, h3, ⟨h4, h5⟩, h6⟩ => by
    have e2 : m' = m := by omega
    subst e2
    exact ⟨v', A', c', h1, h2, h3, h5, h6⟩)
  clear h hk he hs hkd hS hr hk3 hL hm hm32 hokst hts
  go_enter Try.func17, Try.ntmps17
  go_upto_region 13 with (refine wpList_bxG tSt rfl (.tmp 2) rfl S rfl ?_; intro X1 q1 q2 q3; clear q3; have ck : X1.cell? ⟨w.heap.size, 0, none⟩ = some (.int .i64 3) := q1.cell 0 _ HKD.out; have RS : Hid (Row X1 w.heap.size S tSt) := q1; have HP1 : Hid (Pl w0 X1 q B Ls Es T ts) := HPL.out.below q2; clear q1 q2; simp only [Act.put, List.setIfInBounds_toArray, List.set_cons_zero, List.set_cons_succ])
  obtain ⟨bS, hbS⟩ : ∃ b, b = w.heap.size := ⟨_, rfl⟩
  rw [← hbS] at RS ⊢
  clear hbS ck HPL
  have hP := HP1.out
  have rs := RS.out
  have hb1 := Below.refl X1.heap.size X1
  clear RS
  refine wp_named fun a0 ha0 => ?_
  have hsz : a0.tmps.size = 244 := by rw [ha0]; rfl
  have zs0 : a0.eval (.tmp 0) = .pointer (some ⟨q, 0, none⟩) := by rw [ha0]; rfl
  have zs1 : a0.eval (.tmp 1) = .int .i64 (k : Int) := by rw [ha0]; rfl
  have zs5 : a0.eval (.tmp 5) = .pointer (some ⟨bS, 0, none⟩) := by rw [ha0]; rfl
  obtain ⟨D, hD⟩ : ∃ D : List (Tmp × SP), D = [(129, SP.is (.pointer (some ⟨q, 0, none⟩))), (130, SP.is (.int .i64 (k : Int))), (131, SP.is (.pointer (some ⟨q, 0, none⟩))), (132, SP.is (.pointer (some ⟨q, 0, none⟩))), (133, SP.is (.pointer (some ⟨q, k, none⟩))), (134, SP.is (.pointer (some ⟨p, 0, none⟩))), (135, SP.is (.pointer (some ⟨bS, 91, none⟩))), (136, SP.is (.int .i64 s.nr)), (137, SP.dt X1.heap.size m gone E), (128, SP.dt X1.heap.size m gone E), (138, SP.ds X1.heap.size m gone), (139, SP.is (.int .i64 E)), (17, SP.ds X1.heap.size m gone), (18, SP.is (.int .i64 E))] := ⟨_, rfl⟩
  refine wp_region_then (by kernel_rfl) 8 (by decide) (by kernel_rfl) (fun listed ac W => Fp D a0 listed ac W ∧ Below X1.heap.size X1 W ∧ Row W bS S tSt ∧ Pl w0 W q B Ls Es T ts) (fun listed ac W => Fp D a0 listed ac W ∧ (∃ v1, v1.ownBlock = v.ownBlock ∧ Pl w0 W q B (Ls.set k (p, v1, st')) Es T ts) ∧ Row W bS S tSt) ?_ ?_ ?_ ?_ ?_
  · exact ⟨Fp.start D a0 _ _, Below.drew hb1, Row.drew rs, hP.below (Below.drew (Below.refl _ _))⟩
  · clear ha0 hb1 rs hP
    intro listed ac W k hl hI hdn hk hne hnl
    replace hl : listed.size = 14 := hl
    obtain ⟨hF, hb1, rs, hP⟩ := hI
    have hk1 : k < 14 := List.mem_range.1 (List.mem_filter.1 hk).1
    rcases (show k = 0 ∨ k = 1 ∨ k = 2 ∨ k = 3 ∨ k = 4 ∨ k = 5 ∨ k = 6 ∨ k = 7 ∨ k = 8 ∨ k = 9 ∨ k = 10 ∨ k = 11 ∨ k = 12 ∨ k = 13 by omega) with rfl | rfl | rfl | rfl | rfl | rfl | rfl | rfl | rfl | rfl | rfl | rfl | rfl | rfl
    · have hk3 := hk
      exact wpOp_plain rfl rfl (wp_move_v (ac.eval (.tmp 0)) rfl rfl ⟨(hF.put 0 129 (SP.is (.pointer (some ⟨q, 0, none⟩))) (ac.eval (.tmp 0)) (by rw [hD]; rfl) (((hF.keep 0 (by rw [hD]; rfl)).trans zs0)) (by rw [hD]; rfl) (by rw [hsz]; decide) (by rw [hl]; decide)), hb1, rs, hP⟩)
    · have hk3 := hk
      exact wpOp_plain rfl rfl (wp_move_v (ac.eval (.tmp 1)) rfl rfl ⟨(hF.put 1 130 (SP.is (.int .i64 (k : Int))) (ac.eval (.tmp 1)) (by rw [hD]; rfl) (((hF.keep 1 (by rw [hD]; rfl)).trans zs1)) (by rw [hD]; rfl) (by rw [hsz]; decide) (by rw [hl]; decide)), hb1, rs, hP⟩)
    · have hk3 := hk
      have ea := (hF.done 0 (129, SP.is (.pointer (some ⟨q, 0, none⟩))) (by rw [hD]; rfl) (ready_dep hk 0 (by kernel_rfl)))
      exact wpOp_plain rfl rfl (wp_nilL rfl q ea ⟨(hF.put 2 131 (SP.is (.pointer (some ⟨q, 0, none⟩))) (.pointer (some ⟨q, 0, none⟩)) (by rw [hD]; rfl) rfl (by rw [hD]; rfl) (by rw [hsz]; decide) (by rw [hl]; decide)), hb1, rs, hP⟩)
    · have hk3 := hk
      have ea := (hF.done 2 (131, SP.is (.pointer (some ⟨q, 0, none⟩))) (by rw [hD]; rfl) (ready_dep hk 2 (by kernel_rfl)))
      exact wpOp_plain rfl rfl (wp_fPr0 rfl q ea ⟨(hF.put 3 132 (SP.is (.pointer (some ⟨q, 0, none⟩))) (.pointer (some ⟨q, 0, none⟩)) (by rw [hD]; rfl) rfl (by rw [hD]; rfl) (by rw [hsz]; decide) (by rw [hl]; decide)), hb1, rs, hP⟩)
    · have hk3 := hk
      have ea := (hF.done 3 (132, SP.is (.pointer (some ⟨q, 0, none⟩))) (by rw [hD]; rfl) (ready_dep hk 3 (by kernel_rfl)))
      have eb := (hF.done 1 (130, SP.is (.int .i64 (k : Int))) (by rw [hD]; rfl) (ready_dep hk 1 (by kernel_rfl)))
      exact wpOp_plain rfl rfl (wp_ixO tL3 tLp rfl q 3 k 1 0 k ea eb HK3.out und_L3 info_Lp (by omega) ⟨(hF.put 4 133 (SP.is (.pointer (some ⟨q, k, none⟩))) (.pointer (some ⟨q, k, none⟩)) (by rw [hD]; rfl) rfl (by rw [hD]; rfl) (by rw [hsz]; decide) (by rw [hl]; decide)), hb1, rs, hP⟩)
    · have hk3 := hk
      have ea := (hF.done 4 (133, SP.is (.pointer (some ⟨q, k, none⟩))) (by rw [hD]; rfl) (ready_dep hk 4 (by kernel_rfl)))
      exact wpOp_plain rfl rfl (wp_ld1 q k (.pointer (some ⟨p, 0, none⟩)) rfl ea (ld_Lp W q k _ (HCP.out W (hP))) ⟨(hF.put 5 134 (SP.is (.pointer (some ⟨p, 0, none⟩))) (.pointer (some ⟨p, 0, none⟩)) (by rw [hD]; rfl) rfl (by rw [hD]; rfl) (by rw [hsz]; decide) (by rw [hl]; decide)), hb1, rs, hP⟩)
    · have hk3 := hk
      have ea := ((hF.keep 5 (by rw [hD]; rfl)).trans zs5)
      exact wpOp_plain rfl rfl (wp_fSt7 rfl bS ea ⟨(hF.put 6 135 (SP.is (.pointer (some ⟨bS, 91, none⟩))) (.pointer (some ⟨bS, 91, none⟩)) (by rw [hD]; rfl) rfl (by rw [hD]; rfl) (by rw [hsz]; decide) (by rw [hl]; decide)), hb1, rs, hP⟩)
    · have hk3 := hk
      have ea := (hF.done 6 (135, SP.is (.pointer (some ⟨bS, 91, none⟩))) (by rw [hD]; rfl) (ready_dep hk 6 (by kernel_rfl)))
      exact wpOp_plain rfl rfl (wp_ld1 bS 91 (.int .i64 s.nr) rfl ea (ld_int W bS 91 _ (rs.cell 91 _ HNR.out)) ⟨(hF.put 7 136 (SP.is (.int .i64 s.nr)) (.int .i64 s.nr) (by rw [hD]; rfl) rfl (by rw [hD]; rfl) (by rw [hsz]; decide) (by rw [hl]; decide)), hb1, rs, hP⟩)
    · exact absurd rfl hne
    · exact absurd (ready_dep hk 8 (by kernel_rfl)) hnl
    · exact absurd (hdn 9 (ready_dep hk 9 (by kernel_rfl)) 8 (by kernel_rfl)) hnl
    · exact absurd (hdn 9 (ready_dep hk 9 (by kernel_rfl)) 8 (by kernel_rfl)) hnl
    · exact absurd (hdn 9 (hdn 10 (ready_dep hk 10 (by kernel_rfl)) 9 (by kernel_rfl)) 8 (by kernel_rfl)) hnl
    · exact absurd (hdn 9 (hdn 11 (ready_dep hk 11 (by kernel_rfl)) 9 (by kernel_rfl)) 8 (by kernel_rfl)) hnl
  · clear ha0 hb1 rs hP
    intro listed ac W hl hI hdn hk
    replace hl : listed.size = 14 := hl
    obtain ⟨hF, hb1, rs, hP⟩ := hI
    have e134 := (hF.done 5 (134, SP.is (.pointer (some ⟨p, 0, none⟩))) (by rw [hD]; rfl) (ready_dep hk 5 (by kernel_rfl)))
    have e136 := (hF.done 7 (136, SP.is (.int .i64 s.nr)) (by rw [hD]; rfl) (ready_dep hk 7 (by kernel_rfl)))
    refine wpOp_plain rfl rfl (wp_fcall_v 25 #[.pointer (some ⟨p, 0, none⟩), .int .i64 s.nr] rfl rfl (by show [ac.eval (.tmp 134), ac.eval (.tmp 136)] = _; rw [show ac.eval (.tmp 134) = _ from e134, show ac.eval (.tmp 136) = _ from e136]) (by go_simp) ((HRL.out W hP).mono ?_))
    rintro e W2 ⟨A', c', rfl, hLo, hFr, hT2⟩
    have hno : ¬ listed.getD 8 false = true := not_yet hk
    have hT : Fp D a0 listed ac W2 := hF.turned (by
      rw [hD]
      intro qq pp hqq hl3 vv hvv
      have hq1 : qq < 14 := (List.getElem?_eq_some_iff.1 hqq).1
      rcases (show qq = 0 ∨ qq = 1 ∨ qq = 2 ∨ qq = 3 ∨ qq = 4 ∨ qq = 5 ∨ qq = 6 ∨ qq = 7 ∨ qq = 8 ∨ qq = 9 ∨ qq = 10 ∨ qq = 11 ∨ qq = 12 ∨ qq = 13 by omega) with rfl | rfl | rfl | rfl | rfl | rfl | rfl | rfl | rfl | rfl | rfl | rfl | rfl | rfl
      · obtain rfl := Option.some.inj hqq; exact hvv
      · obtain rfl := Option.some.inj hqq; exact hvv
      · obtain rfl := Option.some.inj hqq; exact hvv
      · obtain rfl := Option.some.inj hqq; exact hvv
      · obtain rfl := Option.some.inj hqq; exact hvv
      · obtain rfl := Option.some.inj hqq; exact hvv
      · obtain rfl := Option.some.inj hqq; exact hvv
      · obtain rfl := Option.some.inj hqq; exact hvv
      · exact absurd hl3 hno
      · exact absurd (hdn 9 hl3 8 (by kernel_rfl)) hno
      · exact absurd (hdn 9 (hdn 10 hl3 9 (by kernel_rfl)) 8 (by kernel_rfl)) hno
      · exact absurd (hdn 9 (hdn 11 hl3 9 (by kernel_rfl)) 8 (by kernel_rfl)) hno
      · exact absurd (hdn 9 (hdn 10 (hdn 12 hl3 10 (by kernel_rfl)) 9 (by kernel_rfl)) 8 (by kernel_rfl)) hno
      · exact absurd (hdn 9 (hdn 11 (hdn 13 hl3 11 (by kernel_rfl)) 9 (by kernel_rfl)) 8 (by kernel_rfl)) hno
      )
    exact ⟨_, rfl, (hT.put 8 137 (SP.dt X1.heap.size m gone E) _ (by rw [hD]; rfl) (⟨A', c', rfl, hLo, hFr.more hb1.size⟩) (by rw [hD]; rfl) (by rw [hsz]; decide) (by rw [hl]; decide)), (hP.turnS HLK.out HBC.out hT2), (tn_row hP (List.mem_of_getElem? HLK.out) hT2.tn rs (by decide) (by decide))⟩
  · clear ha0 hb1 rs hP
    intro listed ac W k hl hJ hdn hk hne hyl
    replace hl : listed.size = 14 := hl
    obtain ⟨hF, hT, rs⟩ := hJ
    have hk1 : k < 14 := List.mem_range.1 (List.mem_filter.1 hk).1
    rcases (show k = 0 ∨ k = 1 ∨ k = 2 ∨ k = 3 ∨ k = 4 ∨ k = 5 ∨ k = 6 ∨ k = 7 ∨ k = 8 ∨ k = 9 ∨ k = 10 ∨ k = 11 ∨ k = 12 ∨ k = 13 by omega) with rfl | rfl | rfl | rfl | rfl | rfl | rfl | rfl | rfl | rfl | rfl | rfl | rfl | rfl
    · exact absurd (hdn 2 (hdn 3 (hdn 4 (hdn 5 (hdn 8 hyl 5 (by kernel_rfl)) 4 (by kernel_rfl)) 3 (by kernel_rfl)) 2 (by kernel_rfl)) 0 (by kernel_rfl)) (not_yet hk)
    · exact absurd (hdn 4 (hdn 5 (hdn 8 hyl 5 (by kernel_rfl)) 4 (by kernel_rfl)) 1 (by kernel_rfl)) (not_yet hk)
    · exact absurd (hdn 3 (hdn 4 (hdn 5 (hdn 8 hyl 5 (by kernel_rfl)) 4 (by kernel_rfl)) 3 (by kernel_rfl)) 2 (by kernel_rfl)) (not_yet hk)
    · exact absurd (hdn 4 (hdn 5 (hdn 8 hyl 5 (by kernel_rfl)) 4 (by kernel_rfl)) 3 (by kernel_rfl)) (not_yet hk)
    · exact absurd (hdn 5 (hdn 8 hyl 5 (by kernel_rfl)) 4 (by kernel_rfl)) (not_yet hk)
    · exact absurd (hdn 8 hyl 5 (by kernel_rfl)) (not_yet hk)
    · exact absurd (hdn 7 (hdn 8 hyl 7 (by kernel_rfl)) 6 (by kernel_rfl)) (not_yet hk)
    · exact absurd (hdn 8 hyl 7 (by kernel_rfl)) (not_yet hk)
    · exact absurd rfl hne
    · exact wpOp_plain rfl rfl (wp_move_v (ac.eval (.tmp 137)) rfl rfl ⟨(hF.put 9 128 (SP.dt X1.heap.size m gone E) _ (by rw [hD]; rfl) (hF.done 8 (137, SP.dt X1.heap.size m gone E) (by rw [hD]; rfl) (ready_dep hk 8 (by kernel_rfl))) (by rw [hD]; rfl) (by rw [hsz]; decide) (by rw [hl]; decide)), hT, rs⟩)
    · obtain ⟨A', c', e9, hLo, hFr⟩ := (hF.done 9 (128, SP.dt X1.heap.size m gone E) (by rw [hD]; rfl) (ready_dep hk 9 (by kernel_rfl)))
      exact wpOp_plain rfl rfl (wp_extract (.tmp 128) 0 rfl _ e9 (.slice A' m c') rfl ⟨(hF.put 10 138 (SP.ds X1.heap.size m gone) _ (by rw [hD]; rfl) (⟨A', c', rfl, hLo, hFr⟩) (by rw [hD]; rfl) (by rw [hsz]; decide) (by rw [hl]; decide)), hT, rs⟩)
    · obtain ⟨A', c', e9, hLo, hFr⟩ := (hF.done 9 (128, SP.dt X1.heap.size m gone E) (by rw [hD]; rfl) (ready_dep hk 9 (by kernel_rfl)))
      exact wpOp_plain rfl rfl (wp_extract (.tmp 128) 1 rfl _ e9 (.int .i64 E) rfl ⟨(hF.put 11 139 (SP.is (.int .i64 E)) _ (by rw [hD]; rfl) rfl (by rw [hD]; rfl) (by rw [hsz]; decide) (by rw [hl]; decide)), hT, rs⟩)
    · exact wpOp_plain rfl rfl (wp_assign_v (ac.eval (.tmp 138)) rfl rfl ⟨(hF.put 12 17 (SP.ds X1.heap.size m gone) _ (by rw [hD]; rfl) (hF.done 10 (138, SP.ds X1.heap.size m gone) (by rw [hD]; rfl) (ready_dep hk 10 (by kernel_rfl))) (by rw [hD]; rfl) (by rw [hsz]; decide) (by rw [hl]; decide)), hT, rs⟩)
    · exact wpOp_plain rfl rfl (wp_assign_v (ac.eval (.tmp 139)) rfl rfl ⟨(hF.put 13 18 (SP.is (.int .i64 E)) _ (by rw [hD]; rfl) (hF.done 11 (139, SP.is (.int .i64 E)) (by rw [hD]; rfl) (ready_dep hk 11 (by kernel_rfl))) (by rw [hD]; rfl) (by rw [hsz]; decide) (by rw [hl]; decide)), hT, rs⟩)
  · clear hb1 rs hP
    intro listed ac W hl hJ hr
    replace hl : listed.size = 14 := hl
    obtain ⟨hF, hT, rs⟩ := hJ
    have hall := all_listed (by kernel_rfl) hl hr
    have h129 : ac.eval (.tmp 129) = .pointer (some ⟨q, 0, none⟩) := hF.done 0 (129, SP.is (.pointer (some ⟨q, 0, none⟩))) (by rw [hD]; rfl) (hall 0 (by decide))
    have h130 : ac.eval (.tmp 130) = .int .i64 (k : Int) := hF.done 1 (130, SP.is (.int .i64 (k : Int))) (by rw [hD]; rfl) (hall 1 (by decide))
    have h131 : ac.eval (.tmp 131) = .pointer (some ⟨q, 0, none⟩) := hF.done 2 (131, SP.is (.pointer (some ⟨q, 0, none⟩))) (by rw [hD]; rfl) (hall 2 (by decide))
    have h132 : ac.eval (.tmp 132) = .pointer (some ⟨q, 0, none⟩) := hF.done 3 (132, SP.is (.pointer (some ⟨q, 0, none⟩))) (by rw [hD]; rfl) (hall 3 (by decide))
    have h133 : ac.eval (.tmp 133) = .pointer (some ⟨q, k, none⟩) := hF.done 4 (133, SP.is (.pointer (some ⟨q, k, none⟩))) (by rw [hD]; rfl) (hall 4 (by decide))
    have h134 : ac.eval (.tmp 134) = .pointer (some ⟨p, 0, none⟩) := hF.done 5 (134, SP.is (.pointer (some ⟨p, 0, none⟩))) (by rw [hD]; rfl) (hall 5 (by decide))
    have h135 : ac.eval (.tmp 135) = .pointer (some ⟨bS, 91, none⟩) := hF.done 6 (135, SP.is (.pointer (some ⟨bS, 91, none⟩))) (by rw [hD]; rfl) (hall 6 (by decide))
    have h136 : ac.eval (.tmp 136) = .int .i64 s.nr := hF.done 7 (136, SP.is (.int .i64 s.nr)) (by rw [hD]; rfl) (hall 7 (by decide))
    obtain ⟨x137, h137⟩ : ∃ x, ac.eval (.tmp 137) = x := ⟨_, rfl⟩
    obtain ⟨x128, h128⟩ : ∃ x, ac.eval (.tmp 128) = x := ⟨_, rfl⟩
    obtain ⟨x138, h138⟩ : ∃ x, ac.eval (.tmp 138) = x := ⟨_, rfl⟩
    have h139 : ac.eval (.tmp 139) = .int .i64 E := hF.done 11 (139, SP.is (.int .i64 E)) (by rw [hD]; rfl) (hall 11 (by decide))
    have f17 := hF.done 12 (17, SP.ds X1.heap.size m gone) (by rw [hD]; rfl) (hall 12 (by decide))
    obtain ⟨x17, h17⟩ : ∃ x, ac.eval (.tmp 17) = x := ⟨_, rfl⟩
    replace f17 : (SP.ds X1.heap.size m gone).P W x17 := by rw [← h17]; exact f17
    have h18 : ac.eval (.tmp 18) = .int .i64 E := hF.done 13 (18, SP.is (.int .i64 E)) (by rw [hD]; rfl) (hall 13 (by decide))
    have ea := hF.lay [(129, .pointer (some ⟨q, 0, none⟩)), (130, .int .i64 (k : Int)), (131, .pointer (some ⟨q, 0, none⟩)), (132, .pointer (some ⟨q, 0, none⟩)), (133, .pointer (some ⟨q, k, none⟩)), (134, .pointer (some ⟨p, 0, none⟩)), (135, .pointer (some ⟨bS, 91, none⟩)), (136, .int .i64 s.nr), (137, x137), (128, x128), (138, x138), (139, .int .i64 E), (17, x17), (18, .int .i64 E)] (by rw [hD, hsz]; rfl) (by simp only [List.forall_mem_cons, List.not_mem_nil, false_implies, implies_true, and_true]; exact ⟨h129, h130, h131, h132, h133, h134, h135, h136, h137, h128, h138, h139, h17, h18⟩)
    rw [ha0] at ea
    simp only [List.foldl_cons, List.foldl_nil, List.setIfInBounds_toArray, List.set_cons_zero, List.set_cons_succ] at ea
    clear hF hall hr hl hD zs0 zs1 zs5 ha0 hsz h129 h130 h131 h132 h133 h134 h135 h136 h137 h128 h138 h139 h17 h18
    subst ea
    obtain ⟨v1, hv1, hP2⟩ := hT
    obtain ⟨Ax, cx, hx17, hLx, hFx⟩ := f17
    subst hx17
    obtain ⟨V, hV⟩ : ∃ V, V = W := ⟨_, rfl⟩
    rw [← hV] at hP2 rs hLx ⊢
    obtain ⟨Ls2, hL2⟩ : ∃ l, l = Ls.set k (p, v1, st') := ⟨_, rfl⟩
    rw [← hL2] at hP2
    have HL2 : Hid (Ls2 = Ls.set k (p, v1, st')) := hL2
    have HPV : Hid (Pl w0 V q B Ls2 Es T ts) := hP2
    have HLX : Hid (Lo V tP 90 (.slice Ax m cx) m (pcs gone)) := hLx
    have HNX : Hid (∀ g, (Value.slice Ax m cx).ownBlock = some g → (X1.heap.size ≤ g ∧ g < V.heap.size) ∧ ∀ l ∈ Ls2, ¬ Tb l.1 l.2.1 g) := fun g eg => by
      have g1 := hFx g eg
      refine ⟨⟨g1, hLx.lt g eg⟩, fun l hl tb => ?_⟩
      rw [hL2] at hl
      rcases List.mem_or_eq_of_mem_set hl with z | z
      · have := (HP1.out.ladm z).lt g tb; omega
      · subst z
        have := (HP1.out.lad HLK.out).lt g (tb.imp id (fun e => by rw [← hv1]; exact e))
        omega
    have hbV := rs.lt
    have hb1 := Below.refl V.heap.size V
    have HRR : Hid (∀ W, Below V.heap.size V W → Calls Try.prog 58 #[.agg L.toArray, .int .i64 s.nr] W fun r w' => ∃ v' A' c', r = .returned (.tuple #[.agg (st'.dc v').toArray, .slice A' m c', .int .i64 E]) ∧ Rf w' v' B st' ∧ Nv W e v' ∧ Lo w' tP 90 (.slice A' m c') m (pcs gone) ∧ Below W.heap.size W w') := fun W k => HRR0.out W Ls2 (HPV.out.below k)
    have HRD : Hid (∀ W, Below V.heap.size V W → W.rangeAt q (3 + k * 70) L) := fun W k => HRD0.out W Ls2 (HPV.out.below k)
    have HOK : Hid (st'.Ok B) := by
      have hkl : k < Ls.length := (List.getElem?_eq_some_iff.1 HLK.out).1
      exact (hP2.lad (k := k) (l := (p, v1, st')) (by rw [hL2, List.getElem?_set_self hkl])).ok
    clear hV hL2 hP2 HRL HRR0 HRD0 HCP hLx hFx hv1
    go_upto_region 14 with fail
    refine wp_named fun a0 ha0 => ?_
    have hsz : a0.tmps.size = 244 := by rw [ha0]; rfl
    have zs0 : a0.eval (.tmp 0) = .pointer (some ⟨q, 0, none⟩) := by rw [ha0]; rfl
    have zs1 : a0.eval (.tmp 1) = .int .i64 (k : Int) := by rw [ha0]; rfl
    have zs5 : a0.eval (.tmp 5) = .pointer (some ⟨bS, 0, none⟩) := by rw [ha0]; rfl
    obtain ⟨D, hD⟩ : ∃ D : List (Tmp × SP), D = [(141, SP.is (.pointer (some ⟨q, 0, none⟩))), (142, SP.is (.int .i64 (k : Int))), (143, SP.is (.pointer (some ⟨q, 0, none⟩))), (144, SP.is (.pointer (some ⟨q, 3, none⟩))), (145, SP.is (.pointer (some ⟨q, 3 + k * 70, none⟩))), (146, SP.is (.agg L.toArray)), (147, SP.is (.pointer (some ⟨bS, 91, none⟩))), (148, SP.is (.int .i64 s.nr)), (149, SP.rd V.heap.size e B st' m gone E), (140, SP.rd V.heap.size e B st' m gone E), (150, SP.ra V.heap.size e B st'), (151, SP.rl m gone), (152, SP.is (.int .i64 E)), (19, SP.any), (1000, SP.any), (20, SP.rl m gone), (21, SP.is (.int .i64 E))] := ⟨_, rfl⟩
    refine wp_region_down (by kernel_rfl) (fun listed ac W => ∃ (NN : Nat), listed.size = 17 ∧ Fp D a0 listed ac W ∧ Below V.heap.size V W ∧ Row W bS S tSt ∧ (listed.getD 13 false = true → ¬ listed.getD 14 false = true → ac.eval (.tmp 19) = .pointer (some ⟨NN, 0, none⟩) ∧ V.heap.size - 1 < NN ∧ Row W NN zRL tRL) ∧ (listed.getD 14 false = true → ac.eval (.tmp 19) = .pointer (some ⟨NN, 0, none⟩) ∧ V.heap.size - 1 < NN ∧ ∃ v', Row W NN (st'.dc v') tRL ∧ Rf W v' B st' ∧ Ap V.heap.size e v')) ?_ ?_ ?_
    · exact ⟨0, by simp, Fp.start D a0 _ _, Below.drew hb1, Row.drew rs, (fun h _ => (start_no h).elim), (fun h => (start_no h).elim)⟩
    · clear ha0 hb1 rs 
      intro listed ac W k hI hdn hk
      obtain ⟨NN, hl, hF, hb1, rs, ax13, ay13⟩ := hI
      have hk1 : k < 17 := List.mem_range.1 (List.mem_filter.1 hk).1
      have hl2 : ∀ j, (listed.setIfInBounds j true).size = 17 := fun j => by rw [Array.size_setIfInBounds]; exact hl
      rcases (show k = 0 ∨ k = 1 ∨ k = 2 ∨ k = 3 ∨ k = 4 ∨ k = 5 ∨ k = 6 ∨ k = 7 ∨ k = 8 ∨ k = 9 ∨ k = 10 ∨ k = 11 ∨ k = 12 ∨ k = 13 ∨ k = 14 ∨ k = 15 ∨ k = 16 by omega) with rfl | rfl | rfl | rfl | rfl | rfl | rfl | rfl | rfl | rfl | rfl | rfl | rfl | rfl | rfl | rfl | rfl
      · have hk3 := hk
        have hnsx : ¬ listed.getD 14 false = true := fun h => not_yet hk (hdn 14 h 0 (by kernel_rfl))
        exact wpOp_plain rfl rfl (wp_move_v (ac.eval (.tmp 0)) rfl rfl ⟨NN, hl2 0, (hF.put 0 141 (SP.is (.pointer (some ⟨q, 0, none⟩))) (ac.eval (.tmp 0)) (by rw [hD]; rfl) (((hF.keep 0 (by rw [hD]; rfl)).trans zs0)) (by rw [hD]; rfl) (by rw [hsz]; decide) (by rw [hl]; decide)), hb1, rs, (fun h1 h2 => ⟨(eval_put_other ac _ (by decide)).trans ((ax13 (by rwa [getD_set _ _ _ (by decide)] at h1) (by rwa [getD_set _ _ _ (by decide)] at h2)).1), (ax13 (by rwa [getD_set _ _ _ (by decide)] at h1) (by rwa [getD_set _ _ _ (by decide)] at h2)).2.1, (ax13 (by rwa [getD_set _ _ _ (by decide)] at h1) (by rwa [getD_set _ _ _ (by decide)] at h2)).2.2⟩), (fun h => absurd (by rwa [getD_set _ _ _ (by decide)] at h) hnsx)⟩)
      · have hk3 := hk
        have hnsx : ¬ listed.getD 14 false = true := fun h => not_yet hk (hdn 14 h 1 (by kernel_rfl))
        exact wpOp_plain rfl rfl (wp_move_v (ac.eval (.tmp 1)) rfl rfl ⟨NN, hl2 1, (hF.put 1 142 (SP.is (.int .i64 (k : Int))) (ac.eval (.tmp 1)) (by rw [hD]; rfl) (((hF.keep 1 (by rw [hD]; rfl)).trans zs1)) (by rw [hD]; rfl) (by rw [hsz]; decide) (by rw [hl]; decide)), hb1, rs, (fun h1 h2 => ⟨(eval_put_other ac _ (by decide)).trans ((ax13 (by rwa [getD_set _ _ _ (by decide)] at h1) (by rwa [getD_set _ _ _ (by decide)] at h2)).1), (ax13 (by rwa [getD_set _ _ _ (by decide)] at h1) (by rwa [getD_set _ _ _ (by decide)] at h2)).2.1, (ax13 (by rwa [getD_set _ _ _ (by decide)] at h1) (by rwa [getD_set _ _ _ (by decide)] at h2)).2.2⟩), (fun h => absurd (by rwa [getD_set _ _ _ (by decide)] at h) hnsx)⟩)
      · have hk3 := hk
        have hnsx : ¬ listed.getD 14 false = true := fun h => not_yet hk (hdn 14 h 2 (by kernel_rfl))
        have ea := (hF.done 0 (141, SP.is (.pointer (some ⟨q, 0, none⟩))) (by rw [hD]; rfl) (ready_dep hk 0 (by kernel_rfl)))
        exact wpOp_plain rfl rfl (wp_nilL rfl q ea ⟨NN, hl2 2, (hF.put 2 143 (SP.is (.pointer (some ⟨q, 0, none⟩))) (.pointer (some ⟨q, 0, none⟩)) (by rw [hD]; rfl) rfl (by rw [hD]; rfl) (by rw [hsz]; decide) (by rw [hl]; decide)), hb1, rs, (fun h1 h2 => ⟨(eval_put_other ac _ (by decide)).trans ((ax13 (by rwa [getD_set _ _ _ (by decide)] at h1) (by rwa [getD_set _ _ _ (by decide)] at h2)).1), (ax13 (by rwa [getD_set _ _ _ (by decide)] at h1) (by rwa [getD_set _ _ _ (by decide)] at h2)).2.1, (ax13 (by rwa [getD_set _ _ _ (by decide)] at h1) (by rwa [getD_set _ _ _ (by decide)] at h2)).2.2⟩), (fun h => absurd (by rwa [getD_set _ _ _ (by decide)] at h) hnsx)⟩)
      · have hk3 := hk
        have hnsx : ¬ listed.getD 14 false = true := fun h => not_yet hk (hdn 14 h 3 (by kernel_rfl))
        have ea := (hF.done 2 (143, SP.is (.pointer (some ⟨q, 0, none⟩))) (by rw [hD]; rfl) (ready_dep hk 2 (by kernel_rfl)))
        exact wpOp_plain rfl rfl (wp_fPr1 rfl q ea ⟨NN, hl2 3, (hF.put 3 144 (SP.is (.pointer (some ⟨q, 3, none⟩))) (.pointer (some ⟨q, 3, none⟩)) (by rw [hD]; rfl) rfl (by rw [hD]; rfl) (by rw [hsz]; decide) (by rw [hl]; decide)), hb1, rs, (fun h1 h2 => ⟨(eval_put_other ac _ (by decide)).trans ((ax13 (by rwa [getD_set _ _ _ (by decide)] at h1) (by rwa [getD_set _ _ _ (by decide)] at h2)).1), (ax13 (by rwa [getD_set _ _ _ (by decide)] at h1) (by rwa [getD_set _ _ _ (by decide)] at h2)).2.1, (ax13 (by rwa [getD_set _ _ _ (by decide)] at h1) (by rwa [getD_set _ _ _ (by decide)] at h2)).2.2⟩), (fun h => absurd (by rwa [getD_set _ _ _ (by decide)] at h) hnsx)⟩)
      · have hk3 := hk
        have hnsx : ¬ listed.getD 14 false = true := fun h => not_yet hk (hdn 14 h 4 (by kernel_rfl))
        have ea := (hF.done 3 (144, SP.is (.pointer (some ⟨q, 3, none⟩))) (by rw [hD]; rfl) (ready_dep hk 3 (by kernel_rfl)))
        have eb := (hF.done 1 (142, SP.is (.int .i64 (k : Int))) (by rw [hD]; rfl) (ready_dep hk 1 (by kernel_rfl)))
        exact wpOp_plain rfl rfl (wp_ixO tR3 tRL rfl q 3 k 70 3 (3 + k * 70) ea eb HK3.out und_R3 info_RL rfl ⟨NN, hl2 4, (hF.put 4 145 (SP.is (.pointer (some ⟨q, 3 + k * 70, none⟩))) (.pointer (some ⟨q, 3 + k * 70, none⟩)) (by rw [hD]; rfl) rfl (by rw [hD]; rfl) (by rw [hsz]; decide) (by rw [hl]; decide)), hb1, rs, (fun h1 h2 => ⟨(eval_put_other ac _ (by decide)).trans ((ax13 (by rwa [getD_set _ _ _ (by decide)] at h1) (by rwa [getD_set _ _ _ (by decide)] at h2)).1), (ax13 (by rwa [getD_set _ _ _ (by decide)] at h1) (by rwa [getD_set _ _ _ (by decide)] at h2)).2.1, (ax13 (by rwa [getD_set _ _ _ (by decide)] at h1) (by rwa [getD_set _ _ _ (by decide)] at h2)).2.2⟩), (fun h => absurd (by rwa [getD_set _ _ _ (by decide)] at h) hnsx)⟩)
      · have hk3 := hk
        have hnsx : ¬ listed.getD 14 false = true := fun h => not_yet hk (hdn 14 h 5 (by kernel_rfl))
        have ea := (hF.done 4 (145, SP.is (.pointer (some ⟨q, 3 + k * 70, none⟩))) (by rw [hD]; rfl) (ready_dep hk 4 (by kernel_rfl)))
        exact wpOp_plain rfl rfl (wp_load_mid tRL (.tmp 145) rfl q (3 + k * 70) ea L _ (HRD.out W (hb1)) Try.underlying44 rfl HIL.out ⟨NN, hl2 5, (hF.put 5 146 (SP.is (.agg L.toArray)) (.agg L.toArray) (by rw [hD]; rfl) rfl (by rw [hD]; rfl) (by rw [hsz]; decide) (by rw [hl]; decide)), hb1, rs, (fun h1 h2 => ⟨(eval_put_other ac _ (by decide)).trans ((ax13 (by rwa [getD_set _ _ _ (by decide)] at h1) (by rwa [getD_set _ _ _ (by decide)] at h2)).1), (ax13 (by rwa [getD_set _ _ _ (by decide)] at h1) (by rwa [getD_set _ _ _ (by decide)] at h2)).2.1, (ax13 (by rwa [getD_set _ _ _ (by decide)] at h1) (by rwa [getD_set _ _ _ (by decide)] at h2)).2.2⟩), (fun h => absurd (by rwa [getD_set _ _ _ (by decide)] at h) hnsx)⟩)
      · have hk3 := hk
        have hnsx : ¬ listed.getD 14 false = true := fun h => not_yet hk (hdn 14 h 6 (by kernel_rfl))
        have ea := ((hF.keep 5 (by rw [hD]; rfl)).trans zs5)
        exact wpOp_plain rfl rfl (wp_fSt7 rfl bS ea ⟨NN, hl2 6, (hF.put 6 147 (SP.is (.pointer (some ⟨bS, 91, none⟩))) (.pointer (some ⟨bS, 91, none⟩)) (by rw [hD]; rfl) rfl (by rw [hD]; rfl) (by rw [hsz]; decide) (by rw [hl]; decide)), hb1, rs, (fun h1 h2 => ⟨(eval_put_other ac _ (by decide)).trans ((ax13 (by rwa [getD_set _ _ _ (by decide)] at h1) (by rwa [getD_set _ _ _ (by decide)] at h2)).1), (ax13 (by rwa [getD_set _ _ _ (by decide)] at h1) (by rwa [getD_set _ _ _ (by decide)] at h2)).2.1, (ax13 (by rwa [getD_set _ _ _ (by decide)] at h1) (by rwa [getD_set _ _ _ (by decide)] at h2)).2.2⟩), (fun h => absurd (by rwa [getD_set _ _ _ (by decide)] at h) hnsx)⟩)
      · have hk3 := hk
        have hnsx : ¬ listed.getD 14 false = true := fun h => not_yet hk (hdn 14 h 7 (by kernel_rfl))
        have ea := (hF.done 6 (147, SP.is (.pointer (some ⟨bS, 91, none⟩))) (by rw [hD]; rfl) (ready_dep hk 6 (by kernel_rfl)))
        exact wpOp_plain rfl rfl (wp_ld1 bS 91 (.int .i64 s.nr) rfl ea (ld_int W bS 91 _ (rs.cell 91 _ HNR.out)) ⟨NN, hl2 7, (hF.put 7 148 (SP.is (.int .i64 s.nr)) (.int .i64 s.nr) (by rw [hD]; rfl) rfl (by rw [hD]; rfl) (by rw [hsz]; decide) (by rw [hl]; decide)), hb1, rs, (fun h1 h2 => ⟨(eval_put_other ac _ (by decide)).trans ((ax13 (by rwa [getD_set _ _ _ (by decide)] at h1) (by rwa [getD_set _ _ _ (by decide)] at h2)).1), (ax13 (by rwa [getD_set _ _ _ (by decide)] at h1) (by rwa [getD_set _ _ _ (by decide)] at h2)).2.1, (ax13 (by rwa [getD_set _ _ _ (by decide)] at h1) (by rwa [getD_set _ _ _ (by decide)] at h2)).2.2⟩), (fun h => absurd (by rwa [getD_set _ _ _ (by decide)] at h) hnsx)⟩)
      · have hk3 := hk
        have hnsx : ¬ listed.getD 14 false = true := fun h => not_yet hk (hdn 14 h 8 (by kernel_rfl))
        have e146 := (hF.done 5 (146, SP.is (.agg L.toArray)) (by rw [hD]; rfl) (ready_dep hk 5 (by kernel_rfl)))
        have e148 := (hF.done 7 (148, SP.is (.int .i64 s.nr)) (by rw [hD]; rfl) (ready_dep hk 7 (by kernel_rfl)))
        refine wpOp_plain rfl rfl (wp_fcall_v 58 #[.agg L.toArray, .int .i64 s.nr] rfl rfl (by show [ac.eval (.tmp 146), ac.eval (.tmp 148)] = _; rw [show ac.eval (.tmp 146) = _ from e146, show ac.eval (.tmp 148) = _ from e148]) (by go_simp) ((HRR.out W hb1).mono ?_))
        rintro e W2 ⟨v', A', c', rfl, hR, hN, hLo, hB⟩
        exact ⟨_, rfl, NN, hl2 8, ((hF.world hB).put 8 149 (SP.rd V.heap.size e B st' m gone E) (.tuple #[.agg (st'.dc v').toArray, .slice A' m c', .int .i64 E]) (by rw [hD]; rfl) (⟨v', A', c', rfl, ⟨hR, Ap.of hN hb1.size⟩, hLo⟩) (by rw [hD]; rfl) (by rw [hsz]; decide) (by rw [hl]; decide)), hb1.trans (hB.mono hb1.size), Row.below rs hB (Row.lt rs), (fun h1 h2 => ⟨(eval_put_other ac _ (by decide)).trans ((ax13 (by rwa [getD_set _ _ _ (by decide)] at h1) (by rwa [getD_set _ _ _ (by decide)] at h2)).1), (ax13 (by rwa [getD_set _ _ _ (by decide)] at h1) (by rwa [getD_set _ _ _ (by decide)] at h2)).2.1, Row.below (ax13 (by rwa [getD_set _ _ _ (by decide)] at h1) (by rwa [getD_set _ _ _ (by decide)] at h2)).2.2 hB (Row.lt (ax13 (by rwa [getD_set _ _ _ (by decide)] at h1) (by rwa [getD_set _ _ _ (by decide)] at h2)).2.2)⟩), (fun h => absurd (by rwa [getD_set _ _ _ (by decide)] at h) hnsx)⟩
      · have hk3 := hk
        have hnsx : ¬ listed.getD 14 false = true := fun h => not_yet hk (hdn 14 h 9 (by kernel_rfl))
        exact wpOp_plain rfl rfl (wp_move_v (ac.eval (.tmp 149)) rfl rfl ⟨NN, hl2 9, (hF.put 9 140 (SP.rd V.heap.size e B st' m gone E) (ac.eval (.tmp 149)) (by rw [hD]; rfl) ((hF.done 8 (149, SP.rd V.heap.size e B st' m gone E) (by rw [hD]; rfl) (ready_dep hk 8 (by kernel_rfl)))) (by rw [hD]; rfl) (by rw [hsz]; decide) (by rw [hl]; decide)), hb1, rs, (fun h1 h2 => ⟨(eval_put_other ac _ (by decide)).trans ((ax13 (by rwa [getD_set _ _ _ (by decide)] at h1) (by rwa [getD_set _ _ _ (by decide)] at h2)).1), (ax13 (by rwa [getD_set _ _ _ (by decide)] at h1) (by rwa [getD_set _ _ _ (by decide)] at h2)).2.1, (ax13 (by rwa [getD_set _ _ _ (by decide)] at h1) (by rwa [getD_set _ _ _ (by decide)] at h2)).2.2⟩), (fun h => absurd (by rwa [getD_set _ _ _ (by decide)] at h) hnsx)⟩)
      · have hk3 := hk
        have hnsx : ¬ listed.getD 14 false = true := fun h => not_yet hk (hdn 14 h 10 (by kernel_rfl))
        obtain ⟨v', A', c', e9, ⟨hR, hA⟩, hLo⟩ := (hF.done 9 (140, SP.rd V.heap.size e B st' m gone E) (by rw [hD]; rfl) (ready_dep hk 9 (by kernel_rfl)))
        exact wpOp_plain rfl rfl (wp_extract (.tmp 140) 0 rfl _ e9 (.agg (st'.dc v').toArray) rfl ⟨NN, hl2 10, (hF.put 10 150 (SP.ra V.heap.size e B st') (.agg (st'.dc v').toArray) (by rw [hD]; rfl) (⟨v', rfl, hR, hA⟩) (by rw [hD]; rfl) (by rw [hsz]; decide) (by rw [hl]; decide)), hb1, rs, (fun h1 h2 => ⟨(eval_put_other ac _ (by decide)).trans ((ax13 (by rwa [getD_set _ _ _ (by decide)] at h1) (by rwa [getD_set _ _ _ (by decide)] at h2)).1), (ax13 (by rwa [getD_set _ _ _ (by decide)] at h1) (by rwa [getD_set _ _ _ (by decide)] at h2)).2.1, (ax13 (by rwa [getD_set _ _ _ (by decide)] at h1) (by rwa [getD_set _ _ _ (by decide)] at h2)).2.2⟩), (fun h => absurd (by rwa [getD_set _ _ _ (by decide)] at h) hnsx)⟩)
      · have hk3 := hk
        obtain ⟨v', A', c', e9, ⟨hR, hA⟩, hLo⟩ := (hF.done 9 (140, SP.rd V.heap.size e B st' m gone E) (by rw [hD]; rfl) (ready_dep hk 9 (by kernel_rfl)))
        exact wpOp_plain rfl rfl (wp_extract (.tmp 140) 1 rfl _ e9 (.slice A' m c') rfl ⟨NN, hl2 11, (hF.put 11 151 (SP.rl m gone) (.slice A' m c') (by rw [hD]; rfl) (⟨A', c', rfl, hLo⟩) (by rw [hD]; rfl) (by rw [hsz]; decide) (by rw [hl]; decide)), hb1, rs, (fun h1 h2 => ⟨(eval_put_other ac _ (by decide)).trans ((ax13 (by rwa [getD_set _ _ _ (by decide)] at h1) (by rwa [getD_set _ _ _ (by decide)] at h2)).1), (ax13 (by rwa [getD_set _ _ _ (by decide)] at h1) (by rwa [getD_set _ _ _ (by decide)] at h2)).2.1, (ax13 (by rwa [getD_set _ _ _ (by decide)] at h1) (by rwa [getD_set _ _ _ (by decide)] at h2)).2.2⟩), (fun h => ⟨(eval_put_other ac _ (by decide)).trans ((ay13 (by rwa [getD_set _ _ _ (by decide)] at h)).1), (ay13 (by rwa [getD_set _ _ _ (by decide)] at h)).2⟩)⟩)
      · have hk3 := hk
        obtain ⟨v', A', c', e9, ⟨hR, hA⟩, hLo⟩ := (hF.done 9 (140, SP.rd V.heap.size e B st' m gone E) (by rw [hD]; rfl) (ready_dep hk 9 (by kernel_rfl)))
        exact wpOp_plain rfl rfl (wp_extract (.tmp 140) 2 rfl _ e9 (.int .i64 E) rfl ⟨NN, hl2 12, (hF.put 12 152 (SP.is (.int .i64 E)) (.int .i64 E) (by rw [hD]; rfl) rfl (by rw [hD]; rfl) (by rw [hsz]; decide) (by rw [hl]; decide)), hb1, rs, (fun h1 h2 => ⟨(eval_put_other ac _ (by decide)).trans ((ax13 (by rwa [getD_set _ _ _ (by decide)] at h1) (by rwa [getD_set _ _ _ (by decide)] at h2)).1), (ax13 (by rwa [getD_set _ _ _ (by decide)] at h1) (by rwa [getD_set _ _ _ (by decide)] at h2)).2.1, (ax13 (by rwa [getD_set _ _ _ (by decide)] at h1) (by rwa [getD_set _ _ _ (by decide)] at h2)).2.2⟩), (fun h => ⟨(eval_put_other ac _ (by decide)).trans ((ay13 (by rwa [getD_set _ _ _ (by decide)] at h)).1), (ay13 (by rwa [getD_set _ _ _ (by decide)] at h)).2⟩)⟩)
      · have hk3 := hk
        have hnsx : ¬ listed.getD 14 false = true := fun h => not_yet hk (hdn 14 h 13 (by kernel_rfl))
        have hsm : V.heap.size - 1 < W.heap.size := (by have := hb1.size; have := Row.lt rs; omega)
        have hB : Below W.heap.size W (W.alloc (.cells zRL.toArray tRL)) := (Below.refl _ _).alloc (Nat.le_refl _) _
        exact wpOp_plain rfl rfl (wp_allocRL rfl ⟨W.heap.size, hl2 13, ((hF.world hB).put 13 19 (SP.any) (.pointer (some ⟨W.heap.size, 0, none⟩)) (by rw [hD]; rfl) trivial (by rw [hD]; rfl) (by rw [hsz]; decide) (by rw [hl]; decide)), hb1.alloc hb1.size _, Row.alloc rs _, (fun _ _ => ⟨eval_put_same ac _ (by rw [hF.size, hsz]; decide), hsm, Row.new' rfl rfl⟩), (fun h => absurd (by rwa [getD_set _ _ _ (by decide)] at h) hnsx)⟩)
      · have hk3 := hk
        obtain ⟨v', e9, hR, hA⟩ := (hF.done 10 (150, SP.ra V.heap.size e B st') (by rw [hD]; rfl) (ready_dep hk 10 (by kernel_rfl)))
        have hal := ready_dep hk 13 (by kernel_rfl)
        obtain ⟨e1, m1, y2⟩ := ax13 hal (not_yet hk)
        have T := y2.there 0 (st'.dc v').toArray.size (by rw [List.size_toArray, La.dlen HOK.out.cf, zRL_len]; decide)
        have hT : Fp D a0 listed ac (W.setCells NN 0 (st'.dc v')) := hF.turn (by rw [hD]; simp only [List.forall_mem_cons, List.not_mem_nil, false_implies, implies_true, and_true]; exact ⟨fun _ h => h, fun _ h => h, fun _ h => h, fun _ h => h, fun _ h => h, fun _ h => h, fun _ h => h, fun _ h => h, fun _ h => by obtain ⟨v1, A1, c1, e1, ⟨h1, h2⟩, h3⟩ := h; exact ⟨v1, A1, c1, e1, ⟨h1.set y2 (by decide) _ _, h2⟩, h3.setO y2 (by decide) _ _⟩, fun _ h => by obtain ⟨v1, A1, c1, e1, ⟨h1, h2⟩, h3⟩ := h; exact ⟨v1, A1, c1, e1, ⟨h1.set y2 (by decide) _ _, h2⟩, h3.setO y2 (by decide) _ _⟩, fun _ h => by obtain ⟨v1, e1, h1, h2⟩ := h; exact ⟨v1, e1, h1.set y2 (by decide) _ _, h2⟩, fun _ h => by obtain ⟨A1, c1, e1, h1⟩ := h; exact ⟨A1, c1, e1, h1.setO y2 (by decide) _ _⟩, fun _ h => h, fun _ h => h, fun _ h => h, fun _ h => by obtain ⟨A1, c1, e1, h1⟩ := h; exact ⟨A1, c1, e1, h1.setO y2 (by decide) _ _⟩, fun _ h => h⟩)
        exact wpOp_plain rfl rfl (wp_store_mid tRL (.tmp 19) (.tmp 150) rfl NN 0 (st'.dc v').toArray e1 e9 T (by rw [List.size_toArray]; exact La.dinfo HOK.out.cf _) hR.one ⟨NN, hl2 14, (hT.skip 14 1000 (by rw [hD]; rfl) (by rw [hl]; decide)), below_setCells hb1 (by omega) _, Row.setCells_other rs _ _ _ (by omega), (fun _ h => absurd (getD_same (by rw [hl]; decide)) h), (fun _ => ⟨e1, m1, ⟨v', y2.over (by rw [La.dlen HOK.out.cf, zRL_len]), hR.set y2 (by decide) _ _, hA⟩⟩)⟩)
      · have hk3 := hk
        exact wpOp_plain rfl rfl (wp_assign_v (ac.eval (.tmp 151)) rfl rfl ⟨NN, hl2 15, (hF.put 15 20 (SP.rl m gone) (ac.eval (.tmp 151)) (by rw [hD]; rfl) ((hF.done 11 (151, SP.rl m gone) (by rw [hD]; rfl) (ready_dep hk 11 (by kernel_rfl)))) (by rw [hD]; rfl) (by rw [hsz]; decide) (by rw [hl]; decide)), hb1, rs, (fun h1 h2 => ⟨(eval_put_other ac _ (by decide)).trans ((ax13 (by rwa [getD_set _ _ _ (by decide)] at h1) (by rwa [getD_set _ _ _ (by decide)] at h2)).1), (ax13 (by rwa [getD_set _ _ _ (by decide)] at h1) (by rwa [getD_set _ _ _ (by decide)] at h2)).2.1, (ax13 (by rwa [getD_set _ _ _ (by decide)] at h1) (by rwa [getD_set _ _ _ (by decide)] at h2)).2.2⟩), (fun h => ⟨(eval_put_other ac _ (by decide)).trans ((ay13 (by rwa [getD_set _ _ _ (by decide)] at h)).1), (ay13 (by rwa [getD_set _ _ _ (by decide)] at h)).2⟩)⟩)
      · have hk3 := hk
        exact wpOp_plain rfl rfl (wp_assign_v (ac.eval (.tmp 152)) rfl rfl ⟨NN, hl2 16, (hF.put 16 21 (SP.is (.int .i64 E)) (ac.eval (.tmp 152)) (by rw [hD]; rfl) ((hF.done 12 (152, SP.is (.int .i64 E)) (by rw [hD]; rfl) (ready_dep hk 12 (by kernel_rfl)))) (by rw [hD]; rfl) (by rw [hsz]; decide) (by rw [hl]; decide)), hb1, rs, (fun h1 h2 => ⟨(eval_put_other ac _ (by decide)).trans ((ax13 (by rwa [getD_set _ _ _ (by decide)] at h1) (by rwa [getD_set _ _ _ (by decide)] at h2)).1), (ax13 (by rwa [getD_set _ _ _ (by decide)] at h1) (by rwa [getD_set _ _ _ (by decide)] at h2)).2.1, (ax13 (by rwa [getD_set _ _ _ (by decide)] at h1) (by rwa [getD_set _ _ _ (by decide)] at h2)).2.2⟩), (fun h => ⟨(eval_put_other ac _ (by decide)).trans ((ay13 (by rwa [getD_set _ _ _ (by decide)] at h)).1), (ay13 (by rwa [getD_set _ _ _ (by decide)] at h)).2⟩)⟩)
    · clear hb1 rs 
      intro listed ac W hI hr
      obtain ⟨NN, hl, hF, hb1, rs, ax13, ay13⟩ := hI
      have hall := all_listed (by kernel_rfl) hl hr
      obtain ⟨ea19, m19, p19⟩ := ay13 (hall 14 (by decide))
      have h141 : ac.eval (.tmp 141) = .pointer (some ⟨q, 0, none⟩) := hF.done 0 (141, SP.is (.pointer (some ⟨q, 0, none⟩))) (by rw [hD]; rfl) (hall 0 (by decide))
      have h142 : ac.eval (.tmp 142) = .int .i64 (k : Int) := hF.done 1 (142, SP.is (.int .i64 (k : Int))) (by rw [hD]; rfl) (hall 1 (by decide))
      have h143 : ac.eval (.tmp 143) = .pointer (some ⟨q, 0, none⟩) := hF.done 2 (143, SP.is (.pointer (some ⟨q, 0, none⟩))) (by rw [hD]; rfl) (hall 2 (by decide))
      have h144 : ac.eval (.tmp 144) = .pointer (some ⟨q, 3, none⟩) := hF.done 3 (144, SP.is (.pointer (some ⟨q, 3, none⟩))) (by rw [hD]; rfl) (hall 3 (by decide))
      have h145 : ac.eval (.tmp 145) = .pointer (some ⟨q, 3 + k * 70, none⟩) := hF.done 4 (145, SP.is (.pointer (some ⟨q, 3 + k * 70, none⟩))) (by rw [hD]; rfl) (hall 4 (by decide))
      have h146 : ac.eval (.tmp 146) = .agg L.toArray := hF.done 5 (146, SP.is (.agg L.toArray)) (by rw [hD]; rfl) (hall 5 (by decide))
      have h147 : ac.eval (.tmp 147) = .pointer (some ⟨bS, 91, none⟩) := hF.done 6 (147, SP.is (.pointer (some ⟨bS, 91, none⟩))) (by rw [hD]; rfl) (hall 6 (by decide))
      have h148 : ac.eval (.tmp 148) = .int .i64 s.nr := hF.done 7 (148, SP.is (.int .i64 s.nr)) (by rw [hD]; rfl) (hall 7 (by decide))
      obtain ⟨x149, h149⟩ : ∃ x, ac.eval (.tmp 149) = x := ⟨_, rfl⟩
      obtain ⟨x140, h140⟩ : ∃ x, ac.eval (.tmp 140) = x := ⟨_, rfl⟩
      obtain ⟨x150, h150⟩ : ∃ x, ac.eval (.tmp 150) = x := ⟨_, rfl⟩
      obtain ⟨x151, h151⟩ : ∃ x, ac.eval (.tmp 151) = x := ⟨_, rfl⟩
      have h152 : ac.eval (.tmp 152) = .int .i64 E := hF.done 12 (152, SP.is (.int .i64 E)) (by rw [hD]; rfl) (hall 12 (by decide))
      have f20 := hF.done 15 (20, SP.rl m gone) (by rw [hD]; rfl) (hall 15 (by decide))
      obtain ⟨x20, h20⟩ : ∃ x, ac.eval (.tmp 20) = x := ⟨_, rfl⟩
      replace f20 : (SP.rl m gone).P W x20 := by rw [← h20]; exact f20
      have h21 : ac.eval (.tmp 21) = .int .i64 E := hF.done 16 (21, SP.is (.int .i64 E)) (by rw [hD]; rfl) (hall 16 (by decide))
      have ea := hF.lay [(141, .pointer (some ⟨q, 0, none⟩)), (142, .int .i64 (k : Int)), (143, .pointer (some ⟨q, 0, none⟩)), (144, .pointer (some ⟨q, 3, none⟩)), (145, .pointer (some ⟨q, 3 + k * 70, none⟩)), (146, .agg L.toArray), (147, .pointer (some ⟨bS, 91, none⟩)), (148, .int .i64 s.nr), (149, x149), (140, x140), (150, x150), (151, x151), (152, .int .i64 E), (19, .pointer (some ⟨NN, 0, none⟩)), (20, x20), (21, .int .i64 E)] (by rw [hD, hsz]; rfl) (by simp only [List.forall_mem_cons, List.not_mem_nil, false_implies, implies_true, and_true]; exact ⟨h141, h142, h143, h144, h145, h146, h147, h148, h149, h140, h150, h151, h152, ea19, h20, h21⟩)
      rw [ha0] at ea
      simp only [List.foldl_cons, List.foldl_nil, List.setIfInBounds_toArray, List.set_cons_zero, List.set_cons_succ] at ea
      clear hF hall hr hl hD ax13 ay13 zs0 zs1 zs5 ha0 hsz h141 h142 h143 h144 h145 h146 h147 h148 h149 h140 h150 h151 h152 ea19 h20 h21
      subst ea
      obtain ⟨e2, r28, hR2, hA2⟩ := p19
      obtain ⟨V2, hV2⟩ : ∃ V, V = W := ⟨_, rfl⟩
      rw [← hV2] at r28 hR2 hb1 ⊢
      have HP3 : Hid (Pl w0 V2 q B Ls2 Es T ts) := HPV.out.below hb1
      have HR2 : Hid (Rf V2 e2 B st') := hR2
      have HA2 : Hid (Ap V.heap.size e e2) := hA2
      obtain ⟨Ay, cy, hx20, hLy⟩ := f20
      subst hx20
      have HLY : Hid (Lo V2 tP 90 (.slice Ay m cy) m (pcs gone)) := by rw [hV2]; exact hLy
      have HLX2 : Hid (Lo V2 tP 90 (.slice Ax m cx) m (pcs gone)) := HLX.out.be hb1
      clear hLy
      have hne : NN ≠ q := by have := HPV.out.row.lt; omega
      obtain ⟨D2, hD2⟩ : ∃ M, M = st'.dc e2 := ⟨_, rfl⟩
      rw [← hD2] at r28
      have HD2 : Hid (D2 = st'.dc e2) := hD2
      have HID : Hid ((Try.prog.info? tRL).map (·.size) = some D2.length) := by show _ = _; rw [hD2]; exact La.dinfo HOK.out.cf _
      have HIJ : Hid ((Try.prog.info? tRL).map (·.size) = some D2.toArray.size) := by show _ = _; rw [List.size_toArray]; exact HID.out
      have HDO : Hid (D2.toArray.all (·.oneCell') = true) := by show _ = _; rw [hD2]; exact hR2.one
      have HDL : Hid (D2.length = 70) := by show _ = _; rw [hD2]; exact La.dlen HOK.out.cf _
      obtain ⟨PC, hPC⟩ : ∃ M, M = prc (Ls2.map (·.1)) (Es.map fun e => e.2.dc e.1) T := ⟨_, rfl⟩
      have HPC : Hid (PC = prc (Ls2.map (·.1)) (Es.map fun e => e.2.dc e.1) T) := hPC
      have rq : Row V2 q PC tPr := by rw [hPC]; exact HP3.out.row
      have HPN : Hid (3 + k * 70 + D2.toArray.size ≤ PC.length) := by show _ ≤ _; rw [List.size_toArray, HDL.out, hPC, prc_len (by rw [List.length_map]; exact HP3.out.l3) (by rw [List.length_map]; exact HP3.out.e3) HP3.out.d70]; have := HK3.out; omega
      have hqn : w0.heap.size ≤ q := HP3.out.qn
      have gQ : Gro (· = q) V2 V2 := Gro.refl _ _
      clear hb1
      have hb1 : Below w0.heap.size w0 V2 := HP3.out.be
      have HPVR : Hid (V.heap.size ≤ V.heap.size ∧ ∀ l ∈ Ls2, Ld V l.1 l.2.1 B l.2.2) := ⟨Nat.le_refl _, fun l hl => HPV.out.ladm hl⟩
      clear hV2 hR2 hA2 hD2 hPC rs hbV HRR HRD HPV
      go_upto_region 15 with fail
      refine wp_named fun a0 ha0 => ?_
      have hsz : a0.tmps.size = 244 := by rw [ha0]; rfl
      have zs0 : a0.eval (.tmp 0) = .pointer (some ⟨q, 0, none⟩) := by rw [ha0]; rfl
      have zs1 : a0.eval (.tmp 1) = .int .i64 (k : Int) := by rw [ha0]; rfl
      have zs19 : a0.eval (.tmp 19) = .pointer (some ⟨NN, 0, none⟩) := by rw [ha0]; rfl
      obtain ⟨D, hD⟩ : ∃ D : List (Tmp × SP), D = [(153, SP.is (.pointer (some ⟨q, 0, none⟩))), (154, SP.is (.int .i64 (k : Int))), (155, SP.is (.agg D2.toArray)), (156, SP.is (.pointer (some ⟨q, 0, none⟩))), (157, SP.is (.pointer (some ⟨q, 3, none⟩))), (158, SP.is (.pointer (some ⟨q, 3 + k * 70, none⟩))), (1000, SP.any)] := ⟨_, rfl⟩
      refine wp_region_down (by kernel_rfl) (fun listed ac W => listed.size = 7 ∧ Fp D a0 listed ac W ∧ Below w0.heap.size w0 W ∧ Row W q (if listed.getD 6 false = true then (PC.take (3 + k * 70) ++ D2 ++ PC.drop (3 + k * 70 + D2.length)) else PC) tPr ∧ Row W NN D2 tRL ∧ Gro (· = q) V2 W) ?_ ?_ ?_
      · exact ⟨by simp, Fp.start D a0 _ _, Below.drew hb1, (by rw [if_neg (fun h => start_no h)]; exact Row.drew rq), Row.drew r28, gQ.below (Below.drew (Below.refl _ _))⟩
      · clear ha0 hb1 rq r28 gQ 
        intro listed ac W k hI hdn hk
        obtain ⟨hl, hF, hb1, rq, r28, gQ⟩ := hI
        have hk1 : k < 7 := List.mem_range.1 (List.mem_filter.1 hk).1
        have hl2 : ∀ j, (listed.setIfInBounds j true).size = 7 := fun j => by rw [Array.size_setIfInBounds]; exact hl
        rcases (show k = 0 ∨ k = 1 ∨ k = 2 ∨ k = 3 ∨ k = 4 ∨ k = 5 ∨ k = 6 by omega) with rfl | rfl | rfl | rfl | rfl | rfl | rfl
        · have hk3 := hk
          exact wpOp_plain rfl rfl (wp_move_v (ac.eval (.tmp 0)) rfl rfl ⟨hl2 0, (hF.put 0 153 (SP.is (.pointer (some ⟨q, 0, none⟩))) (ac.eval (.tmp 0)) (by rw [hD]; rfl) (((hF.keep 0 (by rw [hD]; rfl)).trans zs0)) (by rw [hD]; rfl) (by rw [hsz]; decide) (by rw [hl]; decide)), hb1, (by rw [getD_set _ _ _ (by decide)]; exact rq), r28, gQ⟩)
        · have hk3 := hk
          exact wpOp_plain rfl rfl (wp_move_v (ac.eval (.tmp 1)) rfl rfl ⟨hl2 1, (hF.put 1 154 (SP.is (.int .i64 (k : Int))) (ac.eval (.tmp 1)) (by rw [hD]; rfl) (((hF.keep 1 (by rw [hD]; rfl)).trans zs1)) (by rw [hD]; rfl) (by rw [hsz]; decide) (by rw [hl]; decide)), hb1, (by rw [getD_set _ _ _ (by decide)]; exact rq), r28, gQ⟩)
        · have hk3 := hk
          exact wpOp_plain rfl rfl (wp_load_mid tRL (.tmp 19) rfl NN 0 ((hF.keep 19 (by rw [hD]; rfl)).trans zs19) D2 _ r28.all Try.underlying44 rfl HID.out ⟨hl2 2, (hF.put 2 155 (SP.is (.agg D2.toArray)) (.agg D2.toArray) (by rw [hD]; rfl) rfl (by rw [hD]; rfl) (by rw [hsz]; decide) (by rw [hl]; decide)), hb1, (by rw [getD_set _ _ _ (by decide)]; exact rq), r28, gQ⟩)
        · have hk3 := hk
          have ea := (hF.done 0 (153, SP.is (.pointer (some ⟨q, 0, none⟩))) (by rw [hD]; rfl) (ready_dep hk 0 (by kernel_rfl)))
          exact wpOp_plain rfl rfl (wp_nilL rfl q ea ⟨hl2 3, (hF.put 3 156 (SP.is (.pointer (some ⟨q, 0, none⟩))) (.pointer (some ⟨q, 0, none⟩)) (by rw [hD]; rfl) rfl (by rw [hD]; rfl) (by rw [hsz]; decide) (by rw [hl]; decide)), hb1, (by rw [getD_set _ _ _ (by decide)]; exact rq), r28, gQ⟩)
        · have hk3 := hk
          have ea := (hF.done 3 (156, SP.is (.pointer (some ⟨q, 0, none⟩))) (by rw [hD]; rfl) (ready_dep hk 3 (by kernel_rfl)))
          exact wpOp_plain rfl rfl (wp_fPr1 rfl q ea ⟨hl2 4, (hF.put 4 157 (SP.is (.pointer (some ⟨q, 3, none⟩))) (.pointer (some ⟨q, 3, none⟩)) (by rw [hD]; rfl) rfl (by rw [hD]; rfl) (by rw [hsz]; decide) (by rw [hl]; decide)), hb1, (by rw [getD_set _ _ _ (by decide)]; exact rq), r28, gQ⟩)
        · have hk3 := hk
          have ea := (hF.done 4 (157, SP.is (.pointer (some ⟨q, 3, none⟩))) (by rw [hD]; rfl) (ready_dep hk 4 (by kernel_rfl)))
          have eb := (hF.done 1 (154, SP.is (.int .i64 (k : Int))) (by rw [hD]; rfl) (ready_dep hk 1 (by kernel_rfl)))
          exact wpOp_plain rfl rfl (wp_ixO tR3 tRL rfl q 3 k 70 3 (3 + k * 70) ea eb HK3.out und_R3 info_RL rfl ⟨hl2 5, (hF.put 5 158 (SP.is (.pointer (some ⟨q, 3 + k * 70, none⟩))) (.pointer (some ⟨q, 3 + k * 70, none⟩)) (by rw [hD]; rfl) rfl (by rw [hD]; rfl) (by rw [hsz]; decide) (by rw [hl]; decide)), hb1, (by rw [getD_set _ _ _ (by decide)]; exact rq), r28, gQ⟩)
        · have hk3 := hk
          have hno : ¬ listed.getD 6 false = true := not_yet hk
          rw [if_neg hno] at rq
          have T := rq.there (3 + k * 70) D2.toArray.size HPN.out
          have fin := Row.setCells (3 + k * 70) D2 rq (by have := HPN.out; rwa [List.size_toArray] at this)
          have hT : Fp D a0 listed ac (W.setCells q (3 + k * 70) D2) := hF.turn (by rw [hD]; simp only [List.forall_mem_cons, List.not_mem_nil, false_implies, implies_true, and_true]; exact ⟨fun _ h => h, fun _ h => h, fun _ h => h, fun _ h => h, fun _ h => h, fun _ h => h, fun _ h => h⟩)
          exact wpOp_plain rfl rfl (wp_store_mid tRL (.tmp 158) (.tmp 155) rfl q (3 + k * 70) D2.toArray (hF.done 5 (158, SP.is (.pointer (some ⟨q, 3 + k * 70, none⟩))) (by rw [hD]; rfl) (ready_dep hk 5 (by kernel_rfl))) (hF.done 2 (155, SP.is (.agg D2.toArray)) (by rw [hD]; rfl) (ready_dep hk 2 (by kernel_rfl))) T HIJ.out HDO.out ⟨hl2 6, (hT.skip 6 1000 (by rw [hD]; rfl) (by rw [hl]; decide)), below_setCells hb1 (by omega) _, (by rw [if_pos (getD_same (by rw [hl]; decide))]; exact fin), Row.setCells_other r28 _ _ _ (by omega), gQ.trans (gro_setsL W q (3 + k * 70) D2)⟩)
      · clear hb1 rq r28 gQ 
        intro listed ac W hI hr
        obtain ⟨hl, hF, hb1, rq, r28, gQ⟩ := hI
        have hall := all_listed (by kernel_rfl) hl hr
        rw [if_pos (hall 6 (by decide))] at rq
        have h153 : ac.eval (.tmp 153) = .pointer (some ⟨q, 0, none⟩) := hF.done 0 (153, SP.is (.pointer (some ⟨q, 0, none⟩))) (by rw [hD]; rfl) (hall 0 (by decide))
        have h154 : ac.eval (.tmp 154) = .int .i64 (k : Int) := hF.done 1 (154, SP.is (.int .i64 (k : Int))) (by rw [hD]; rfl) (hall 1 (by decide))
        have h155 : ac.eval (.tmp 155) = .agg D2.toArray := hF.done 2 (155, SP.is (.agg D2.toArray)) (by rw [hD]; rfl) (hall 2 (by decide))
        have h156 : ac.eval (.tmp 156) = .pointer (some ⟨q, 0, none⟩) := hF.done 3 (156, SP.is (.pointer (some ⟨q, 0, none⟩))) (by rw [hD]; rfl) (hall 3 (by decide))
        have h157 : ac.eval (.tmp 157) = .pointer (some ⟨q, 3, none⟩) := hF.done 4 (157, SP.is (.pointer (some ⟨q, 3, none⟩))) (by rw [hD]; rfl) (hall 4 (by decide))
        have h158 : ac.eval (.tmp 158) = .pointer (some ⟨q, 3 + k * 70, none⟩) := hF.done 5 (158, SP.is (.pointer (some ⟨q, 3 + k * 70, none⟩))) (by rw [hD]; rfl) (hall 5 (by decide))
        have ea := hF.lay [(153, .pointer (some ⟨q, 0, none⟩)), (154, .int .i64 (k : Int)), (155, .agg D2.toArray), (156, .pointer (some ⟨q, 0, none⟩)), (157, .pointer (some ⟨q, 3, none⟩)), (158, .pointer (some ⟨q, 3 + k * 70, none⟩))] (by rw [hD, hsz]; rfl) (by simp only [List.forall_mem_cons, List.not_mem_nil, false_implies, implies_true, and_true]; exact ⟨h153, h154, h155, h156, h157, h158⟩)
        rw [ha0] at ea
        simp only [List.foldl_cons, List.foldl_nil, List.setIfInBounds_toArray, List.set_cons_zero, List.set_cons_succ] at ea
        clear hF hall hr hl hD  zs0 zs1 zs19 ha0 hsz h153 h154 h155 h156 h157 h158
        subst ea
        have FP : Hid (Pl w0 W q B Ls2 (Es.set k (e2, st')) T ts) := HP3.out.setE HK3.out HR2.out (fun g eg l hl => by
          rcases HA2.out g eg with z | z
          · exact HP3.out.ra (e, st) (List.mem_of_getElem? HEK.out) g z l hl
          · intro tb
            have := (HPVR.out.2 l hl).lt g tb
            omega) (by rw [HPC.out, HD2.out] at rq; exact rq) gQ
        have FX : Hid (Lo W tP 90 (.slice Ax m cx) m (pcs gone)) := HLX2.out.gro gQ (fun g e1 z => HLX2.out.ne HP3.out.row (by decide) g e1 z)
        have FY : Hid (Lo W tP 90 (.slice Ay m cy) m (pcs gone)) := HLY.out.gro gQ (fun g e1 z => HLY.out.ne HP3.out.row (by decide) g e1 z)
        obtain ⟨Es2, hE2⟩ : ∃ l, l = Es.set k (e2, st') := ⟨_, rfl⟩
        rw [← hE2] at FP
        have HE2 : Hid (Es2 = Es.set k (e2, st')) := hE2
        have NX : Hid (∀ g, (Value.slice Ax m cx).ownBlock = some g → w0.heap.size ≤ g ∧ (∀ l ∈ Ls2, ¬ Tb l.1 l.2.1 g) ∧ (∀ e ∈ Es2, e.1.ownBlock ≠ some g) ∧ ∀ y ∈ ts, y.1.ownBlock ≠ some g) := fun g eg => by
          obtain ⟨⟨g1, g2⟩, g3⟩ := HNX.out g eg
          refine ⟨Nat.le_trans HP1.out.be.size g1, g3, fun x hx ex => ?_, fun y hy ey => ?_⟩
          · rw [hE2] at hx
            rcases List.mem_or_eq_of_mem_set hx with z | z
            · have := (HP1.out.rf x z).own.lt g ex; omega
            · subst z
              rcases HA2.out g ex with z | z
              · have := (HP1.out.rf _ (List.mem_of_getElem? HEK.out)).own.lt g z; omega
              · omega
          · obtain ⟨j, hj, rfl⟩ := List.getElem_of_mem hy
            have := (HP1.out.ti j _ (List.getElem?_eq_getElem hj)).1.lt g ey
            omega
        clear rq r28 gQ hb1 hE2
        obtain ⟨Y, hY⟩ : ∃ Y, Y = W := ⟨_, rfl⟩
        rw [← hY] at FP FX FY ⊢
        clear hY
        have HSM : Hid (Calls Try.prog 26 #[.slice Ax m cx, .slice Ay m cy] Y fun e w' => e = .returned (.bool true) ∧ Below Y.heap.size Y w') := same_any Y Ax Ay m m cx cy gone gone (Pr.ofLo FX.out HM.out.1 HGW.out) (Pr.ofLo FY.out HM.out.1 HGW.out) (by have := HM.out.2; omega) true (decide_eq_true rfl).symm
        go_upto_region 17 with (go_at_call 26; refine Calls.mono HSM.out ?_; rintro r Y1 ⟨rfl, q2⟩; have FP1 : Hid (Pl w0 Y1 q B Ls2 Es2 T ts) := FP.out.below q2; have FX1 : Hid (Lo Y1 tP 90 (.slice Ax m cx) m (pcs gone)) := FX.out.be q2; clear q2)
        have HOW : Hid (Calls Try.prog 59 #[.slice Ax m cx, .slice none 0 0] Y1 fun r w' => r = .returned (.bool true) ∧ Gro (fun g => (Value.slice Ax m cx).ownBlock = some g) Y1 w' ∧ Kl tP Y1 w') := owned_any m 0 (by have := HM.out.2; omega) (by decide) Ax none cx 0 gone [] HM.out.1 rfl Y1 (fun g => (Value.slice Ax m cx).ownBlock = some g) ⟨by rw [HM.out.1]; exact FX1.out, Lo.nil _ _ _, HGW.out, (fun _ z => by cases z), (fun g _ z => by cases z), Gro.refl _ _, (fun g z => .inl z), (fun g z => by cases z), Kl.refl _ _⟩
        go_upto_region 18 with (go_at_call 59; refine Calls.mono HOW.out ?_; rintro r Y2 ⟨rfl, q2, q3⟩; have FP2 : Hid (Pl w0 Y2 q B Ls2 Es2 T ts) := FP1.out.gro q2 (fun z => FX1.out.ne FP1.out.row (by decide) q z rfl) (fun g e1 z => lo_lw FX1.out FP1.out.tl (by decide) g z e1) (fun x hx g e1 z => (NX.out g z).2.2.1 x hx e1) (fun y hy g e1 z => (NX.out g z).2.2.2 y hy e1) (fun l hl g e1 z => (NX.out g z).2.1 l hl e1) (fun g z => (NX.out g z).1); have FX2 : Hid (∃ xs, Lo Y2 tP 90 (.slice Ax m cx) m xs) := FX1.out.kl q3; clear q2 q3)
        obtain ⟨xs, hxs⟩ := FX2.out
        have HKP : Hid (Calls Try.prog 60 #[.pointer (some ⟨q, 0, none⟩), .slice Ax m cx] Y2 _) := keep_any FP2.out.row (prc_T (by rw [List.length_map]; exact FP2.out.l3) (by rw [List.length_map]; exact FP2.out.e3) FP2.out.d70) FP2.out.tl hxs (by have := HM.out.2; omega) HTS.out
        clear hxs
        go_upto_region 19 with (go_at_call 60; refine Calls.mono HKP.out ?_; rintro r Y3 ⟨T2, rfl, q1, q2, q3, q4, q5⟩; have FP3 : Hid (Pl w0 Y3 q B Ls2 Es2 T2 (ts ++ [(.slice Ax m cx, m)])) := FP2.out.keep (by have := HM.out.2; omega) q1 q2 q3 q4 q5 (fun g z => (NX.out g z).1) (fun g z => (NX.out g z).2.1) (fun g z => (NX.out g z).2.2.1) (fun g z => (NX.out g z).2.2.2); clear q1 q2 q3 q4 q5)
        go_wp2_with fail
        go_ret
        exact ⟨by simp, v1, e2, st', T2, (.slice Ax m cx, m), by rw [← HL2.out, ← HE2.out]; exact FP3.out⟩

end Go.Proofs.Ytfdbjcdcfmnicaa
