/-
  LadderPlays: turn at Release and Hold.
-/
import Derived.Test.YtfdbjcdcfmnicaaLpM
namespace Go.Proofs.Ytfdbjcdcfmnicaa
open Go Go.RowKit
open Sha

set_option maxRecDepth 100000 in
set_option maxHeartbeats 16000000 in
theorem turn_rel {w0 w : World} {q : Nat} {B : Int} {Ls : List (Nat × Value × La)} {Es : List (Value × La)} {T : Value} {ts : List (Value × Nat)} (h : Pl w0 w q B Ls Es T ts) (hB2 : B < 4611686018427387900) {k p : Nat} {v e : Value} {st : La} (hk : Ls[k]? = some (p, v, st)) (he : Es[k]? = some (e, st)) (s : Sp16) (hs : s.Ok) (hkd : s.kd = 5) (S : List Value) (hS : S = s.cells) :
    Calls Try.prog 17 #[.pointer (some ⟨q, 0, none⟩), .int .i64 (k : Int), .agg S.toArray] w fun r w' => r = .returned (.bool true) ∧ ∃ v' e' st', Pl w0 w' q (B) (Ls.set k (p, v', st')) (Es.set k (e', st')) T ts := by
  obtain ⟨st', E, hr⟩ : ∃ st' E, st.rel s.nr = (st', E) := ⟨_, _, rfl⟩
  have hk3 : k < 3 := by have := (List.getElem?_eq_some_iff.1 hk).1; rw [h.l3] at this; exact this
  have HK3 : Hid (k < 3) := hk3
  have HPL : Hid (Pl w0 w q B Ls Es T ts) := h
  have HLK : Hid (Ls[k]? = some (p, v, st)) := hk
  have HEK : Hid (Es[k]? = some (e, st)) := he
  obtain ⟨C, hC⟩ : ∃ C, C = B := ⟨_, rfl⟩
  have HBC : Hid (B ≤ C) := by show _ ≤ _; omega
  have HNR : Hid (S[91]? = some (.int .i64 s.nr)) := by rw [hS]; exact Sp16.at_nr hs
  have HNW : Hid (S[90]? = some (.int .i64 s.now)) := by rw [hS]; exact Sp16.at_now hs
  have HKD : Hid (S[0]? = some (.int .i64 5)) := by rw [hS, ← hkd]; exact Sp16.at_kd s
  have HCP : Hid (∀ W, Pl w0 W q B Ls Es T ts → W.cell? ⟨q, k, none⟩ = some (.pointer (some ⟨p, 0, none⟩))) := fun W hP => hP.row.cell k _ (prc_p (by rw [List.getElem?_map, hk]; rfl))
  have HRL : Hid (∀ W, Pl w0 W q B Ls Es T ts → Calls Try.prog 28 #[.pointer (some ⟨p, 0, none⟩), .int .i64 s.nr] W fun e w' => e = .returned (.int .i64 E) ∧ Tn W w' p v C st') := fun W hP => by rw [hC]; exact release_any (hP.lad hk) (by omega) s.nr st' E hr
  obtain ⟨L, hL⟩ : ∃ L, L = st.dc e := ⟨_, rfl⟩
  have HIL : Hid ((Try.prog.info? tRL).map (·.size) = some L.length) := by show _ = _; rw [hL]; exact La.dinfo (h.rf _ (List.mem_of_getElem? he)).ok.cf _
  have HRD0 : Hid (∀ W C Ls2, Pl w0 W q C Ls2 Es T ts → W.rangeAt q (3 + k * 70) L) := fun W C Ls2 hP => hP.row.range (3 + k * 70) _ (fun j u hj => prc_d (by rw [List.length_map]; exact hP.l3) hP.d70 (by rw [List.getElem?_map, he]; rfl) j u (by rw [hL] at hj; exact hj))
  have HRR0 : Hid (∀ W Ls2, st'.Ok C → Pl w0 W q C Ls2 Es T ts → Calls Try.prog 62 #[.agg L.toArray, .int .i64 s.nr] W fun r w' => ∃ v', r = .returned (.tuple #[.agg (st'.dc v').toArray, .int .i64 E]) ∧ Rf w' v' C st' ∧ Nv W e v' ∧ Below W.heap.size W w') := fun W Ls2 hOK hP => rrel_any (hP.rf _ (List.mem_of_getElem? he)) (by omega) s.nr L hL st' E hr C hOK (Int.le_refl _)
  have HCC : Hid (C = B) := hC
  rw [← hC]
  clear h hk he hs hkd hS hr hk3 hL hB2 hC
  go_enter Try.func17, Try.ntmps17
  go_upto_region 26 with (refine wpList_bxG tSt rfl (.tmp 2) rfl S rfl ?_; intro X1 q1 q2 q3; clear q3; have ck : X1.cell? ⟨w.heap.size, 0, none⟩ = some (.int .i64 5) := q1.cell 0 _ HKD.out; have RS : Hid (Row X1 w.heap.size S tSt) := q1; have HP1 : Hid (Pl w0 X1 q B Ls Es T ts) := HPL.out.below q2; clear q1 q2; simp only [Act.put, List.setIfInBounds_toArray, List.set_cons_zero, List.set_cons_succ])
  obtain ⟨bS, hbS⟩ : ∃ b, b = w.heap.size := ⟨_, rfl⟩
  rw [← hbS] at RS ⊢
  clear hbS ck HPL
  have hP := HP1.out
  have rs := RS.out
  have hb1 := Below.refl X1.heap.size X1
  clear HP1 RS
  refine wp_named fun a0 ha0 => ?_
  have hsz : a0.tmps.size = 244 := by rw [ha0]; rfl
  have zs0 : a0.eval (.tmp 0) = .pointer (some ⟨q, 0, none⟩) := by rw [ha0]; rfl
  have zs1 : a0.eval (.tmp 1) = .int .i64 (k : Int) := by rw [ha0]; rfl
  have zs5 : a0.eval (.tmp 5) = .pointer (some ⟨bS, 0, none⟩) := by rw [ha0]; rfl
  obtain ⟨D, hD⟩ : ∃ D : List (Tmp × SP), D = [(214, SP.is (.pointer (some ⟨q, 0, none⟩))), (215, SP.is (.int .i64 (k : Int))), (216, SP.is (.pointer (some ⟨q, 0, none⟩))), (217, SP.is (.pointer (some ⟨q, 0, none⟩))), (218, SP.is (.pointer (some ⟨q, k, none⟩))), (219, SP.is (.pointer (some ⟨p, 0, none⟩))), (220, SP.is (.pointer (some ⟨bS, 91, none⟩))), (221, SP.is (.int .i64 s.nr)), (222, SP.is (.int .i64 E)), (27, SP.is (.int .i64 E))] := ⟨_, rfl⟩
  refine wp_region_then (by kernel_rfl) 8 (by decide) (by kernel_rfl) (fun listed ac W => Fp D a0 listed ac W ∧ Below X1.heap.size X1 W ∧ Row W bS S tSt ∧ Pl w0 W q B Ls Es T ts) (fun listed ac W => Fp D a0 listed ac W ∧ (∃ v1, Pl w0 W q C (Ls.set k (p, v1, st')) Es T ts) ∧ Row W bS S tSt) ?_ ?_ ?_ ?_ ?_
  · exact ⟨Fp.start D a0 _ _, Below.drew hb1, Row.drew rs, hP.below (Below.drew (Below.refl _ _))⟩
  · clear ha0 hb1 rs hP
    intro listed ac W k hl hI hdn hk hne hnl
    replace hl : listed.size = 10 := hl
    obtain ⟨hF, hb1, rs, hP⟩ := hI
    have hk1 : k < 10 := List.mem_range.1 (List.mem_filter.1 hk).1
    rcases (show k = 0 ∨ k = 1 ∨ k = 2 ∨ k = 3 ∨ k = 4 ∨ k = 5 ∨ k = 6 ∨ k = 7 ∨ k = 8 ∨ k = 9 by omega) with rfl | rfl | rfl | rfl | rfl | rfl | rfl | rfl | rfl | rfl
    · have hk3 := hk
      exact wpOp_plain rfl rfl (wp_move_v (ac.eval (.tmp 0)) rfl rfl ⟨(hF.put 0 214 (SP.is (.pointer (some ⟨q, 0, none⟩))) (ac.eval (.tmp 0)) (by rw [hD]; rfl) (((hF.keep 0 (by rw [hD]; rfl)).trans zs0)) (by rw [hD]; rfl) (by rw [hsz]; decide) (by rw [hl]; decide)), hb1, rs, hP⟩)
    · have hk3 := hk
      exact wpOp_plain rfl rfl (wp_move_v (ac.eval (.tmp 1)) rfl rfl ⟨(hF.put 1 215 (SP.is (.int .i64 (k : Int))) (ac.eval (.tmp 1)) (by rw [hD]; rfl) (((hF.keep 1 (by rw [hD]; rfl)).trans zs1)) (by rw [hD]; rfl) (by rw [hsz]; decide) (by rw [hl]; decide)), hb1, rs, hP⟩)
    · have hk3 := hk
      have ea := (hF.done 0 (214, SP.is (.pointer (some ⟨q, 0, none⟩))) (by rw [hD]; rfl) (ready_dep hk 0 (by kernel_rfl)))
      exact wpOp_plain rfl rfl (wp_nilL rfl q ea ⟨(hF.put 2 216 (SP.is (.pointer (some ⟨q, 0, none⟩))) (.pointer (some ⟨q, 0, none⟩)) (by rw [hD]; rfl) rfl (by rw [hD]; rfl) (by rw [hsz]; decide) (by rw [hl]; decide)), hb1, rs, hP⟩)
    · have hk3 := hk
      have ea := (hF.done 2 (216, SP.is (.pointer (some ⟨q, 0, none⟩))) (by rw [hD]; rfl) (ready_dep hk 2 (by kernel_rfl)))
      exact wpOp_plain rfl rfl (wp_fPr0 rfl q ea ⟨(hF.put 3 217 (SP.is (.pointer (some ⟨q, 0, none⟩))) (.pointer (some ⟨q, 0, none⟩)) (by rw [hD]; rfl) rfl (by rw [hD]; rfl) (by rw [hsz]; decide) (by rw [hl]; decide)), hb1, rs, hP⟩)
    · have hk3 := hk
      have ea := (hF.done 3 (217, SP.is (.pointer (some ⟨q, 0, none⟩))) (by rw [hD]; rfl) (ready_dep hk 3 (by kernel_rfl)))
      have eb := (hF.done 1 (215, SP.is (.int .i64 (k : Int))) (by rw [hD]; rfl) (ready_dep hk 1 (by kernel_rfl)))
      exact wpOp_plain rfl rfl (wp_ixO tL3 tLp rfl q 3 k 1 0 k ea eb HK3.out und_L3 info_Lp (by omega) ⟨(hF.put 4 218 (SP.is (.pointer (some ⟨q, k, none⟩))) (.pointer (some ⟨q, k, none⟩)) (by rw [hD]; rfl) rfl (by rw [hD]; rfl) (by rw [hsz]; decide) (by rw [hl]; decide)), hb1, rs, hP⟩)
    · have hk3 := hk
      have ea := (hF.done 4 (218, SP.is (.pointer (some ⟨q, k, none⟩))) (by rw [hD]; rfl) (ready_dep hk 4 (by kernel_rfl)))
      exact wpOp_plain rfl rfl (wp_ld1 q k (.pointer (some ⟨p, 0, none⟩)) rfl ea (ld_Lp W q k _ (HCP.out W (hP))) ⟨(hF.put 5 219 (SP.is (.pointer (some ⟨p, 0, none⟩))) (.pointer (some ⟨p, 0, none⟩)) (by rw [hD]; rfl) rfl (by rw [hD]; rfl) (by rw [hsz]; decide) (by rw [hl]; decide)), hb1, rs, hP⟩)
    · have hk3 := hk
      have ea := ((hF.keep 5 (by rw [hD]; rfl)).trans zs5)
      exact wpOp_plain rfl rfl (wp_fSt7 rfl bS ea ⟨(hF.put 6 220 (SP.is (.pointer (some ⟨bS, 91, none⟩))) (.pointer (some ⟨bS, 91, none⟩)) (by rw [hD]; rfl) rfl (by rw [hD]; rfl) (by rw [hsz]; decide) (by rw [hl]; decide)), hb1, rs, hP⟩)
    · have hk3 := hk
      have ea := (hF.done 6 (220, SP.is (.pointer (some ⟨bS, 91, none⟩))) (by rw [hD]; rfl) (ready_dep hk 6 (by kernel_rfl)))
      exact wpOp_plain rfl rfl (wp_ld1 bS 91 (.int .i64 s.nr) rfl ea (ld_int W bS 91 _ (rs.cell 91 _ HNR.out)) ⟨(hF.put 7 221 (SP.is (.int .i64 s.nr)) (.int .i64 s.nr) (by rw [hD]; rfl) rfl (by rw [hD]; rfl) (by rw [hsz]; decide) (by rw [hl]; decide)), hb1, rs, hP⟩)
    · exact absurd rfl hne
    · exact absurd (ready_dep hk 8 (by kernel_rfl)) hnl
  · clear ha0 hb1 rs hP
    intro listed ac W hl hI hdn hk
    replace hl : listed.size = 10 := hl
    obtain ⟨hF, hb1, rs, hP⟩ := hI
    have e219 := (hF.done 5 (219, SP.is (.pointer (some ⟨p, 0, none⟩))) (by rw [hD]; rfl) (ready_dep hk 5 (by kernel_rfl)))
    have e221 := (hF.done 7 (221, SP.is (.int .i64 s.nr)) (by rw [hD]; rfl) (ready_dep hk 7 (by kernel_rfl)))
    refine wpOp_plain rfl rfl (wp_fcall_v 28 #[.pointer (some ⟨p, 0, none⟩), .int .i64 s.nr] rfl rfl (by show [ac.eval (.tmp 219), ac.eval (.tmp 221)] = _; rw [show ac.eval (.tmp 219) = _ from e219, show ac.eval (.tmp 221) = _ from e221]) (by go_simp) ((HRL.out W hP).mono ?_))
    rintro e W2 ⟨rfl, hT2⟩
    have hT : Fp D a0 listed ac W2 := hF.turn (by rw [hD]; simp only [List.forall_mem_cons, List.not_mem_nil, false_implies, implies_true, and_true]; exact ⟨fun _ h => h, fun _ h => h, fun _ h => h, fun _ h => h, fun _ h => h, fun _ h => h, fun _ h => h, fun _ h => h, fun _ h => h, fun _ h => h⟩)
    exact ⟨_, rfl, (hT.put 8 222 (SP.is (.int .i64 E)) _ (by rw [hD]; rfl) rfl (by rw [hD]; rfl) (by rw [hsz]; decide) (by rw [hl]; decide)), (hP.turn HLK.out HBC.out hT2), (tn_row hP (List.mem_of_getElem? HLK.out) hT2 rs (by decide) (by decide))⟩
  · clear ha0 hb1 rs hP
    intro listed ac W k hl hJ hdn hk hne hyl
    replace hl : listed.size = 10 := hl
    obtain ⟨hF, hT, rs⟩ := hJ
    have hk1 : k < 10 := List.mem_range.1 (List.mem_filter.1 hk).1
    rcases (show k = 0 ∨ k = 1 ∨ k = 2 ∨ k = 3 ∨ k = 4 ∨ k = 5 ∨ k = 6 ∨ k = 7 ∨ k = 8 ∨ k = 9 by omega) with rfl | rfl | rfl | rfl | rfl | rfl | rfl | rfl | rfl | rfl
    · exact absurd (hdn 2 (hdn 3 (hdn 4 (hdn 5 (hdn 8 hyl 5 (by kernel_rfl)) 4 (by kernel_rfl)) 3 (by kernel_rfl)) 2 (by kernel_rfl)) 0 (by kernel_rfl)) (not_yet hk)
    · exact absurd (hdn 4 (hdn 5 (hdn 8 hyl 5 (by kernel_rfl)) 4 (by kernel_rfl)) 1 (by kernel_rfl)) (not_yet hk)
    · exact absurd (hdn 3 (hdn 4 (hdn 5 (hdn 8 hyl 5 (by kernel_rfl)) 4 (by kernel_rfl)) 3 (by kernel_rfl)) 2 (by kernel_rfl)) (not_yet hk)
    · exact absurd (hdn 4 (hdn 5 (hdn 8 hyl 5 (by kernel_rfl)) 4 (by kernel_rfl)) 3 (by kernel_rfl)) (not_yet hk)
    · exact absurd (hdn 5 (hdn 8 hyl 5 (by kernel_rfl)) 4 (by kernel_rfl)) (not_yet hk)
    · exact absurd (hdn 8 hyl 5 (by kernel_rfl)) (not_yet hk)
    · exact absurd (hdn 7 (hdn 8 hyl 7 (by kernel_rfl)) 6 (by kernel_rfl)) (not_yet hk)
    · exact absurd (hdn 8 hyl 7 (by kernel_rfl)) (not_yet hk)
    · exact absurd rfl hne
    · exact wpOp_plain rfl rfl (wp_assign_v (ac.eval (.tmp 222)) rfl rfl ⟨(hF.put 9 27 (SP.is (.int .i64 E)) _ (by rw [hD]; rfl) (hF.done 8 (222, SP.is (.int .i64 E)) (by rw [hD]; rfl) (ready_dep hk 8 (by kernel_rfl))) (by rw [hD]; rfl) (by rw [hsz]; decide) (by rw [hl]; decide)), hT, rs⟩)
  · clear hb1 rs hP
    intro listed ac W hl hJ hr
    replace hl : listed.size = 10 := hl
    obtain ⟨hF, hT, rs⟩ := hJ
    have hall := all_listed (by kernel_rfl) hl hr
    have h214 : ac.eval (.tmp 214) = .pointer (some ⟨q, 0, none⟩) := hF.done 0 (214, SP.is (.pointer (some ⟨q, 0, none⟩))) (by rw [hD]; rfl) (hall 0 (by decide))
    have h215 : ac.eval (.tmp 215) = .int .i64 (k : Int) := hF.done 1 (215, SP.is (.int .i64 (k : Int))) (by rw [hD]; rfl) (hall 1 (by decide))
    have h216 : ac.eval (.tmp 216) = .pointer (some ⟨q, 0, none⟩) := hF.done 2 (216, SP.is (.pointer (some ⟨q, 0, none⟩))) (by rw [hD]; rfl) (hall 2 (by decide))
    have h217 : ac.eval (.tmp 217) = .pointer (some ⟨q, 0, none⟩) := hF.done 3 (217, SP.is (.pointer (some ⟨q, 0, none⟩))) (by rw [hD]; rfl) (hall 3 (by decide))
    have h218 : ac.eval (.tmp 218) = .pointer (some ⟨q, k, none⟩) := hF.done 4 (218, SP.is (.pointer (some ⟨q, k, none⟩))) (by rw [hD]; rfl) (hall 4 (by decide))
    have h219 : ac.eval (.tmp 219) = .pointer (some ⟨p, 0, none⟩) := hF.done 5 (219, SP.is (.pointer (some ⟨p, 0, none⟩))) (by rw [hD]; rfl) (hall 5 (by decide))
    have h220 : ac.eval (.tmp 220) = .pointer (some ⟨bS, 91, none⟩) := hF.done 6 (220, SP.is (.pointer (some ⟨bS, 91, none⟩))) (by rw [hD]; rfl) (hall 6 (by decide))
    have h221 : ac.eval (.tmp 221) = .int .i64 s.nr := hF.done 7 (221, SP.is (.int .i64 s.nr)) (by rw [hD]; rfl) (hall 7 (by decide))
    have h222 : ac.eval (.tmp 222) = .int .i64 E := hF.done 8 (222, SP.is (.int .i64 E)) (by rw [hD]; rfl) (hall 8 (by decide))
    have h27 : ac.eval (.tmp 27) = .int .i64 E := hF.done 9 (27, SP.is (.int .i64 E)) (by rw [hD]; rfl) (hall 9 (by decide))
    have ea := hF.lay [(214, .pointer (some ⟨q, 0, none⟩)), (215, .int .i64 (k : Int)), (216, .pointer (some ⟨q, 0, none⟩)), (217, .pointer (some ⟨q, 0, none⟩)), (218, .pointer (some ⟨q, k, none⟩)), (219, .pointer (some ⟨p, 0, none⟩)), (220, .pointer (some ⟨bS, 91, none⟩)), (221, .int .i64 s.nr), (222, .int .i64 E), (27, .int .i64 E)] (by rw [hD, hsz]; rfl) (by simp only [List.forall_mem_cons, List.not_mem_nil, false_implies, implies_true, and_true]; exact ⟨h214, h215, h216, h217, h218, h219, h220, h221, h222, h27⟩)
    rw [ha0] at ea
    simp only [List.foldl_cons, List.foldl_nil, List.setIfInBounds_toArray, List.set_cons_zero, List.set_cons_succ] at ea
    clear hF hall hr hl hD zs0 zs1 zs5 ha0 hsz h214 h215 h216 h217 h218 h219 h220 h221 h222 h27
    subst ea
    obtain ⟨v1, hP2⟩ := hT
    obtain ⟨V, hV⟩ : ∃ V, V = W := ⟨_, rfl⟩
    rw [← hV] at hP2 rs ⊢
    obtain ⟨Ls2, hL2⟩ : ∃ l, l = Ls.set k (p, v1, st') := ⟨_, rfl⟩
    rw [← hL2] at hP2
    have HL2 : Hid (Ls2 = Ls.set k (p, v1, st')) := hL2
    have HOK : Hid (st'.Ok C) := by
      have hkl : k < Ls.length := (List.getElem?_eq_some_iff.1 HLK.out).1
      exact (hP2.lad (k := k) (l := (p, v1, st')) (by rw [hL2, List.getElem?_set_self hkl])).ok
    have HPV : Hid (Pl w0 V q C Ls2 Es T ts) := hP2
    have hbV := rs.lt
    have HPVL : Hid (∀ l ∈ Ls2, Ld V l.1 l.2.1 C l.2.2) := fun l hl => hP2.ladm hl
    have hb1 := Below.refl V.heap.size V
    have HRR : Hid (∀ W, Below V.heap.size V W → Calls Try.prog 62 #[.agg L.toArray, .int .i64 s.nr] W fun r w' => ∃ v', r = .returned (.tuple #[.agg (st'.dc v').toArray, .int .i64 E]) ∧ Rf w' v' C st' ∧ Nv W e v' ∧ Below W.heap.size W w') := fun W k => HRR0.out W Ls2 HOK.out (HPV.out.below k)
    have HRD : Hid (∀ W, Below V.heap.size V W → W.rangeAt q (3 + k * 70) L) := fun W k => HRD0.out W C Ls2 (HPV.out.below k)
    clear hV hL2 hP2 HRL HRR0 HRD0 HCP
    go_upto_region 27 with fail
    refine wp_named fun a0 ha0 => ?_
    have hsz : a0.tmps.size = 244 := by rw [ha0]; rfl
    have zs0 : a0.eval (.tmp 0) = .pointer (some ⟨q, 0, none⟩) := by rw [ha0]; rfl
    have zs1 : a0.eval (.tmp 1) = .int .i64 (k : Int) := by rw [ha0]; rfl
    have zs5 : a0.eval (.tmp 5) = .pointer (some ⟨bS, 0, none⟩) := by rw [ha0]; rfl
    obtain ⟨D, hD⟩ : ∃ D : List (Tmp × SP), D = [(224, SP.is (.pointer (some ⟨q, 0, none⟩))), (225, SP.is (.int .i64 (k : Int))), (226, SP.is (.pointer (some ⟨q, 0, none⟩))), (227, SP.is (.pointer (some ⟨q, 3, none⟩))), (228, SP.is (.pointer (some ⟨q, 3 + k * 70, none⟩))), (229, SP.is (.agg L.toArray)), (230, SP.is (.pointer (some ⟨bS, 91, none⟩))), (231, SP.is (.int .i64 s.nr)), (232, SP.rt V.heap.size e C st' [.int .i64 E]), (223, SP.rt V.heap.size e C st' [.int .i64 E]), (233, SP.ra V.heap.size e C st'), (234, SP.is (.int .i64 E)), (28, SP.any), (1000, SP.any), (29, SP.is (.int .i64 E))] := ⟨_, rfl⟩
    refine wp_region_down (by kernel_rfl) (fun listed ac W => ∃ (NN : Nat), listed.size = 15 ∧ Fp D a0 listed ac W ∧ Below V.heap.size V W ∧ Row W bS S tSt ∧ (listed.getD 12 false = true → ¬ listed.getD 13 false = true → ac.eval (.tmp 28) = .pointer (some ⟨NN, 0, none⟩) ∧ V.heap.size - 1 < NN ∧ Row W NN zRL tRL) ∧ (listed.getD 13 false = true → ac.eval (.tmp 28) = .pointer (some ⟨NN, 0, none⟩) ∧ V.heap.size - 1 < NN ∧ ∃ v', Row W NN (st'.dc v') tRL ∧ Rf W v' C st' ∧ Ap V.heap.size e v')) ?_ ?_ ?_
    · exact ⟨0, by simp, Fp.start D a0 _ _, Below.drew hb1, Row.drew rs, (fun h _ => (start_no h).elim), (fun h => (start_no h).elim)⟩
    · clear ha0 hb1 rs 
      intro listed ac W k hI hdn hk
      obtain ⟨NN, hl, hF, hb1, rs, ax12, ay12⟩ := hI
      have hk1 : k < 15 := List.mem_range.1 (List.mem_filter.1 hk).1
      have hl2 : ∀ j, (listed.setIfInBounds j true).size = 15 := fun j => by rw [Array.size_setIfInBounds]; exact hl
      rcases (show k = 0 ∨ k = 1 ∨ k = 2 ∨ k = 3 ∨ k = 4 ∨ k = 5 ∨ k = 6 ∨ k = 7 ∨ k = 8 ∨ k = 9 ∨ k = 10 ∨ k = 11 ∨ k = 12 ∨ k = 13 ∨ k = 14 by omega) with rfl | rfl | rfl | rfl | rfl | rfl | rfl | rfl | rfl | rfl | rfl | rfl | rfl | rfl | rfl
      · have hk3 := hk
        have hnsx : ¬ listed.getD 13 false = true := fun h => not_yet hk (hdn 13 h 0 (by kernel_rfl))
        exact wpOp_plain rfl rfl (wp_move_v (ac.eval (.tmp 0)) rfl rfl ⟨NN, hl2 0, (hF.put 0 224 (SP.is (.pointer (some ⟨q, 0, none⟩))) (ac.eval (.tmp 0)) (by rw [hD]; rfl) (((hF.keep 0 (by rw [hD]; rfl)).trans zs0)) (by rw [hD]; rfl) (by rw [hsz]; decide) (by rw [hl]; decide)), hb1, rs, (fun h1 h2 => ⟨(eval_put_other ac _ (by decide)).trans ((ax12 (by rwa [getD_set _ _ _ (by decide)] at h1) (by rwa [getD_set _ _ _ (by decide)] at h2)).1), (ax12 (by rwa [getD_set _ _ _ (by decide)] at h1) (by rwa [getD_set _ _ _ (by decide)] at h2)).2.1, (ax12 (by rwa [getD_set _ _ _ (by decide)] at h1) (by rwa [getD_set _ _ _ (by decide)] at h2)).2.2⟩), (fun h => absurd (by rwa [getD_set _ _ _ (by decide)] at h) hnsx)⟩)
      · have hk3 := hk
        have hnsx : ¬ listed.getD 13 false = true := fun h => not_yet hk (hdn 13 h 1 (by kernel_rfl))
        exact wpOp_plain rfl rfl (wp_move_v (ac.eval (.tmp 1)) rfl rfl ⟨NN, hl2 1, (hF.put 1 225 (SP.is (.int .i64 (k : Int))) (ac.eval (.tmp 1)) (by rw [hD]; rfl) (((hF.keep 1 (by rw [hD]; rfl)).trans zs1)) (by rw [hD]; rfl) (by rw [hsz]; decide) (by rw [hl]; decide)), hb1, rs, (fun h1 h2 => ⟨(eval_put_other ac _ (by decide)).trans ((ax12 (by rwa [getD_set _ _ _ (by decide)] at h1) (by rwa [getD_set _ _ _ (by decide)] at h2)).1), (ax12 (by rwa [getD_set _ _ _ (by decide)] at h1) (by rwa [getD_set _ _ _ (by decide)] at h2)).2.1, (ax12 (by rwa [getD_set _ _ _ (by decide)] at h1) (by rwa [getD_set _ _ _ (by decide)] at h2)).2.2⟩), (fun h => absurd (by rwa [getD_set _ _ _ (by decide)] at h) hnsx)⟩)
      · have hk3 := hk
        have hnsx : ¬ listed.getD 13 false = true := fun h => not_yet hk (hdn 13 h 2 (by kernel_rfl))
        have ea := (hF.done 0 (224, SP.is (.pointer (some ⟨q, 0, none⟩))) (by rw [hD]; rfl) (ready_dep hk 0 (by kernel_rfl)))
        exact wpOp_plain rfl rfl (wp_nilL rfl q ea ⟨NN, hl2 2, (hF.put 2 226 (SP.is (.pointer (some ⟨q, 0, none⟩))) (.pointer (some ⟨q, 0, none⟩)) (by rw [hD]; rfl) rfl (by rw [hD]; rfl) (by rw [hsz]; decide) (by rw [hl]; decide)), hb1, rs, (fun h1 h2 => ⟨(eval_put_other ac _ (by decide)).trans ((ax12 (by rwa [getD_set _ _ _ (by decide)] at h1) (by rwa [getD_set _ _ _ (by decide)] at h2)).1), (ax12 (by rwa [getD_set _ _ _ (by decide)] at h1) (by rwa [getD_set _ _ _ (by decide)] at h2)).2.1, (ax12 (by rwa [getD_set _ _ _ (by decide)] at h1) (by rwa [getD_set _ _ _ (by decide)] at h2)).2.2⟩), (fun h => absurd (by rwa [getD_set _ _ _ (by decide)] at h) hnsx)⟩)
      · have hk3 := hk
        have hnsx : ¬ listed.getD 13 false = true := fun h => not_yet hk (hdn 13 h 3 (by kernel_rfl))
        have ea := (hF.done 2 (226, SP.is (.pointer (some ⟨q, 0, none⟩))) (by rw [hD]; rfl) (ready_dep hk 2 (by kernel_rfl)))
        exact wpOp_plain rfl rfl (wp_fPr1 rfl q ea ⟨NN, hl2 3, (hF.put 3 227 (SP.is (.pointer (some ⟨q, 3, none⟩))) (.pointer (some ⟨q, 3, none⟩)) (by rw [hD]; rfl) rfl (by rw [hD]; rfl) (by rw [hsz]; decide) (by rw [hl]; decide)), hb1, rs, (fun h1 h2 => ⟨(eval_put_other ac _ (by decide)).trans ((ax12 (by rwa [getD_set _ _ _ (by decide)] at h1) (by rwa [getD_set _ _ _ (by decide)] at h2)).1), (ax12 (by rwa [getD_set _ _ _ (by decide)] at h1) (by rwa [getD_set _ _ _ (by decide)] at h2)).2.1, (ax12 (by rwa [getD_set _ _ _ (by decide)] at h1) (by rwa [getD_set _ _ _ (by decide)] at h2)).2.2⟩), (fun h => absurd (by rwa [getD_set _ _ _ (by decide)] at h) hnsx)⟩)
      · have hk3 := hk
        have hnsx : ¬ listed.getD 13 false = true := fun h => not_yet hk (hdn 13 h 4 (by kernel_rfl))
        have ea := (hF.done 3 (227, SP.is (.pointer (some ⟨q, 3, none⟩))) (by rw [hD]; rfl) (ready_dep hk 3 (by kernel_rfl)))
        have eb := (hF.done 1 (225, SP.is (.int .i64 (k : Int))) (by rw [hD]; rfl) (ready_dep hk 1 (by kernel_rfl)))
        exact wpOp_plain rfl rfl (wp_ixO tR3 tRL rfl q 3 k 70 3 (3 + k * 70) ea eb HK3.out und_R3 info_RL rfl ⟨NN, hl2 4, (hF.put 4 228 (SP.is (.pointer (some ⟨q, 3 + k * 70, none⟩))) (.pointer (some ⟨q, 3 + k * 70, none⟩)) (by rw [hD]; rfl) rfl (by rw [hD]; rfl) (by rw [hsz]; decide) (by rw [hl]; decide)), hb1, rs, (fun h1 h2 => ⟨(eval_put_other ac _ (by decide)).trans ((ax12 (by rwa [getD_set _ _ _ (by decide)] at h1) (by rwa [getD_set _ _ _ (by decide)] at h2)).1), (ax12 (by rwa [getD_set _ _ _ (by decide)] at h1) (by rwa [getD_set _ _ _ (by decide)] at h2)).2.1, (ax12 (by rwa [getD_set _ _ _ (by decide)] at h1) (by rwa [getD_set _ _ _ (by decide)] at h2)).2.2⟩), (fun h => absurd (by rwa [getD_set _ _ _ (by decide)] at h) hnsx)⟩)
      · have hk3 := hk
        have hnsx : ¬ listed.getD 13 false = true := fun h => not_yet hk (hdn 13 h 5 (by kernel_rfl))
        have ea := (hF.done 4 (228, SP.is (.pointer (some ⟨q, 3 + k * 70, none⟩))) (by rw [hD]; rfl) (ready_dep hk 4 (by kernel_rfl)))
        exact wpOp_plain rfl rfl (wp_load_mid tRL (.tmp 228) rfl q (3 + k * 70) ea L _ (HRD.out W (hb1)) Try.underlying44 rfl HIL.out ⟨NN, hl2 5, (hF.put 5 229 (SP.is (.agg L.toArray)) (.agg L.toArray) (by rw [hD]; rfl) rfl (by rw [hD]; rfl) (by rw [hsz]; decide) (by rw [hl]; decide)), hb1, rs, (fun h1 h2 => ⟨(eval_put_other ac _ (by decide)).trans ((ax12 (by rwa [getD_set _ _ _ (by decide)] at h1) (by rwa [getD_set _ _ _ (by decide)] at h2)).1), (ax12 (by rwa [getD_set _ _ _ (by decide)] at h1) (by rwa [getD_set _ _ _ (by decide)] at h2)).2.1, (ax12 (by rwa [getD_set _ _ _ (by decide)] at h1) (by rwa [getD_set _ _ _ (by decide)] at h2)).2.2⟩), (fun h => absurd (by rwa [getD_set _ _ _ (by decide)] at h) hnsx)⟩)
      · have hk3 := hk
        have hnsx : ¬ listed.getD 13 false = true := fun h => not_yet hk (hdn 13 h 6 (by kernel_rfl))
        have ea := ((hF.keep 5 (by rw [hD]; rfl)).trans zs5)
        exact wpOp_plain rfl rfl (wp_fSt7 rfl bS ea ⟨NN, hl2 6, (hF.put 6 230 (SP.is (.pointer (some ⟨bS, 91, none⟩))) (.pointer (some ⟨bS, 91, none⟩)) (by rw [hD]; rfl) rfl (by rw [hD]; rfl) (by rw [hsz]; decide) (by rw [hl]; decide)), hb1, rs, (fun h1 h2 => ⟨(eval_put_other ac _ (by decide)).trans ((ax12 (by rwa [getD_set _ _ _ (by decide)] at h1) (by rwa [getD_set _ _ _ (by decide)] at h2)).1), (ax12 (by rwa [getD_set _ _ _ (by decide)] at h1) (by rwa [getD_set _ _ _ (by decide)] at h2)).2.1, (ax12 (by rwa [getD_set _ _ _ (by decide)] at h1) (by rwa [getD_set _ _ _ (by decide)] at h2)).2.2⟩), (fun h => absurd (by rwa [getD_set _ _ _ (by decide)] at h) hnsx)⟩)
      · have hk3 := hk
        have hnsx : ¬ listed.getD 13 false = true := fun h => not_yet hk (hdn 13 h 7 (by kernel_rfl))
        have ea := (hF.done 6 (230, SP.is (.pointer (some ⟨bS, 91, none⟩))) (by rw [hD]; rfl) (ready_dep hk 6 (by kernel_rfl)))
        exact wpOp_plain rfl rfl (wp_ld1 bS 91 (.int .i64 s.nr) rfl ea (ld_int W bS 91 _ (rs.cell 91 _ HNR.out)) ⟨NN, hl2 7, (hF.put 7 231 (SP.is (.int .i64 s.nr)) (.int .i64 s.nr) (by rw [hD]; rfl) rfl (by rw [hD]; rfl) (by rw [hsz]; decide) (by rw [hl]; decide)), hb1, rs, (fun h1 h2 => ⟨(eval_put_other ac _ (by decide)).trans ((ax12 (by rwa [getD_set _ _ _ (by decide)] at h1) (by rwa [getD_set _ _ _ (by decide)] at h2)).1), (ax12 (by rwa [getD_set _ _ _ (by decide)] at h1) (by rwa [getD_set _ _ _ (by decide)] at h2)).2.1, (ax12 (by rwa [getD_set _ _ _ (by decide)] at h1) (by rwa [getD_set _ _ _ (by decide)] at h2)).2.2⟩), (fun h => absurd (by rwa [getD_set _ _ _ (by decide)] at h) hnsx)⟩)
      · have hk3 := hk
        have hnsx : ¬ listed.getD 13 false = true := fun h => not_yet hk (hdn 13 h 8 (by kernel_rfl))
        have e229 := (hF.done 5 (229, SP.is (.agg L.toArray)) (by rw [hD]; rfl) (ready_dep hk 5 (by kernel_rfl)))
        have e231 := (hF.done 7 (231, SP.is (.int .i64 s.nr)) (by rw [hD]; rfl) (ready_dep hk 7 (by kernel_rfl)))
        refine wpOp_plain rfl rfl (wp_fcall_v 62 #[.agg L.toArray, .int .i64 s.nr] rfl rfl (by show [ac.eval (.tmp 229), ac.eval (.tmp 231)] = _; rw [show ac.eval (.tmp 229) = _ from e229, show ac.eval (.tmp 231) = _ from e231]) (by go_simp) ((HRR.out W hb1).mono ?_))
        rintro e W2 ⟨v', rfl, hR, hN, hB⟩
        exact ⟨_, rfl, NN, hl2 8, ((hF.world hB).put 8 232 (SP.rt V.heap.size e C st' [.int .i64 E]) (.tuple #[.agg (st'.dc v').toArray, .int .i64 E]) (by rw [hD]; rfl) (⟨v', rfl, hR, Ap.of hN hb1.size⟩) (by rw [hD]; rfl) (by rw [hsz]; decide) (by rw [hl]; decide)), hb1.trans (hB.mono hb1.size), Row.below rs hB (Row.lt rs), (fun h1 h2 => ⟨(eval_put_other ac _ (by decide)).trans ((ax12 (by rwa [getD_set _ _ _ (by decide)] at h1) (by rwa [getD_set _ _ _ (by decide)] at h2)).1), (ax12 (by rwa [getD_set _ _ _ (by decide)] at h1) (by rwa [getD_set _ _ _ (by decide)] at h2)).2.1, Row.below (ax12 (by rwa [getD_set _ _ _ (by decide)] at h1) (by rwa [getD_set _ _ _ (by decide)] at h2)).2.2 hB (Row.lt (ax12 (by rwa [getD_set _ _ _ (by decide)] at h1) (by rwa [getD_set _ _ _ (by decide)] at h2)).2.2)⟩), (fun h => absurd (by rwa [getD_set _ _ _ (by decide)] at h) hnsx)⟩
      · have hk3 := hk
        have hnsx : ¬ listed.getD 13 false = true := fun h => not_yet hk (hdn 13 h 9 (by kernel_rfl))
        exact wpOp_plain rfl rfl (wp_move_v (ac.eval (.tmp 232)) rfl rfl ⟨NN, hl2 9, (hF.put 9 223 (SP.rt V.heap.size e C st' [.int .i64 E]) (ac.eval (.tmp 232)) (by rw [hD]; rfl) ((hF.done 8 (232, SP.rt V.heap.size e C st' [.int .i64 E]) (by rw [hD]; rfl) (ready_dep hk 8 (by kernel_rfl)))) (by rw [hD]; rfl) (by rw [hsz]; decide) (by rw [hl]; decide)), hb1, rs, (fun h1 h2 => ⟨(eval_put_other ac _ (by decide)).trans ((ax12 (by rwa [getD_set _ _ _ (by decide)] at h1) (by rwa [getD_set _ _ _ (by decide)] at h2)).1), (ax12 (by rwa [getD_set _ _ _ (by decide)] at h1) (by rwa [getD_set _ _ _ (by decide)] at h2)).2.1, (ax12 (by rwa [getD_set _ _ _ (by decide)] at h1) (by rwa [getD_set _ _ _ (by decide)] at h2)).2.2⟩), (fun h => absurd (by rwa [getD_set _ _ _ (by decide)] at h) hnsx)⟩)
      · have hk3 := hk
        have hnsx : ¬ listed.getD 13 false = true := fun h => not_yet hk (hdn 13 h 10 (by kernel_rfl))
        obtain ⟨v', e9, hR, hA⟩ := (hF.done 9 (223, SP.rt V.heap.size e C st' [.int .i64 E]) (by rw [hD]; rfl) (ready_dep hk 9 (by kernel_rfl)))
        exact wpOp_plain rfl rfl (wp_extract (.tmp 223) 0 rfl _ e9 (.agg (st'.dc v').toArray) rfl ⟨NN, hl2 10, (hF.put 10 233 (SP.ra V.heap.size e C st') (.agg (st'.dc v').toArray) (by rw [hD]; rfl) (⟨v', rfl, hR, hA⟩) (by rw [hD]; rfl) (by rw [hsz]; decide) (by rw [hl]; decide)), hb1, rs, (fun h1 h2 => ⟨(eval_put_other ac _ (by decide)).trans ((ax12 (by rwa [getD_set _ _ _ (by decide)] at h1) (by rwa [getD_set _ _ _ (by decide)] at h2)).1), (ax12 (by rwa [getD_set _ _ _ (by decide)] at h1) (by rwa [getD_set _ _ _ (by decide)] at h2)).2.1, (ax12 (by rwa [getD_set _ _ _ (by decide)] at h1) (by rwa [getD_set _ _ _ (by decide)] at h2)).2.2⟩), (fun h => absurd (by rwa [getD_set _ _ _ (by decide)] at h) hnsx)⟩)
      · have hk3 := hk
        obtain ⟨v', e9, hR, hA⟩ := (hF.done 9 (223, SP.rt V.heap.size e C st' [.int .i64 E]) (by rw [hD]; rfl) (ready_dep hk 9 (by kernel_rfl)))
        exact wpOp_plain rfl rfl (wp_extract (.tmp 223) 1 rfl _ e9 (.int .i64 E) rfl ⟨NN, hl2 11, (hF.put 11 234 (SP.is (.int .i64 E)) (.int .i64 E) (by rw [hD]; rfl) rfl (by rw [hD]; rfl) (by rw [hsz]; decide) (by rw [hl]; decide)), hb1, rs, (fun h1 h2 => ⟨(eval_put_other ac _ (by decide)).trans ((ax12 (by rwa [getD_set _ _ _ (by decide)] at h1) (by rwa [getD_set _ _ _ (by decide)] at h2)).1), (ax12 (by rwa [getD_set _ _ _ (by decide)] at h1) (by rwa [getD_set _ _ _ (by decide)] at h2)).2.1, (ax12 (by rwa [getD_set _ _ _ (by decide)] at h1) (by rwa [getD_set _ _ _ (by decide)] at h2)).2.2⟩), (fun h => ⟨(eval_put_other ac _ (by decide)).trans ((ay12 (by rwa [getD_set _ _ _ (by decide)] at h)).1), (ay12 (by rwa [getD_set _ _ _ (by decide)] at h)).2⟩)⟩)
      · have hk3 := hk
        have hnsx : ¬ listed.getD 13 false = true := fun h => not_yet hk (hdn 13 h 12 (by kernel_rfl))
        have hsm : V.heap.size - 1 < W.heap.size := (by have := hb1.size; have := Row.lt rs; omega)
        have hB : Below W.heap.size W (W.alloc (.cells zRL.toArray tRL)) := (Below.refl _ _).alloc (Nat.le_refl _) _
        exact wpOp_plain rfl rfl (wp_allocRL rfl ⟨W.heap.size, hl2 12, ((hF.world hB).put 12 28 (SP.any) (.pointer (some ⟨W.heap.size, 0, none⟩)) (by rw [hD]; rfl) trivial (by rw [hD]; rfl) (by rw [hsz]; decide) (by rw [hl]; decide)), hb1.alloc hb1.size _, Row.alloc rs _, (fun _ _ => ⟨eval_put_same ac _ (by rw [hF.size, hsz]; decide), hsm, Row.new' rfl rfl⟩), (fun h => absurd (by rwa [getD_set _ _ _ (by decide)] at h) hnsx)⟩)
      · have hk3 := hk
        obtain ⟨v', e9, hR, hA⟩ := (hF.done 10 (233, SP.ra V.heap.size e C st') (by rw [hD]; rfl) (ready_dep hk 10 (by kernel_rfl)))
        have hal := ready_dep hk 12 (by kernel_rfl)
        obtain ⟨e1, m1, y2⟩ := ax12 hal (not_yet hk)
        have T := y2.there 0 (st'.dc v').toArray.size (by rw [List.size_toArray, La.dlen HOK.out.cf, zRL_len]; decide)
        have hT : Fp D a0 listed ac (W.setCells NN 0 (st'.dc v')) := hF.turn (by rw [hD]; simp only [List.forall_mem_cons, List.not_mem_nil, false_implies, implies_true, and_true]; exact ⟨fun _ h => h, fun _ h => h, fun _ h => h, fun _ h => h, fun _ h => h, fun _ h => h, fun _ h => h, fun _ h => h, fun _ h => by obtain ⟨v1, e1, h1, h2⟩ := h; exact ⟨v1, e1, h1.set y2 (by decide) _ _, h2⟩, fun _ h => by obtain ⟨v1, e1, h1, h2⟩ := h; exact ⟨v1, e1, h1.set y2 (by decide) _ _, h2⟩, fun _ h => by obtain ⟨v1, e1, h1, h2⟩ := h; exact ⟨v1, e1, h1.set y2 (by decide) _ _, h2⟩, fun _ h => h, fun _ h => h, fun _ h => h, fun _ h => h⟩)
        exact wpOp_plain rfl rfl (wp_store_mid tRL (.tmp 28) (.tmp 233) rfl NN 0 (st'.dc v').toArray e1 e9 T (by rw [List.size_toArray]; exact La.dinfo HOK.out.cf _) hR.one ⟨NN, hl2 13, (hT.skip 13 1000 (by rw [hD]; rfl) (by rw [hl]; decide)), below_setCells hb1 (by omega) _, Row.setCells_other rs _ _ _ (by omega), (fun _ h => absurd (getD_same (by rw [hl]; decide)) h), (fun _ => ⟨e1, m1, ⟨v', y2.over (by rw [La.dlen HOK.out.cf, zRL_len]), hR.set y2 (by decide) _ _, hA⟩⟩)⟩)
      · have hk3 := hk
        exact wpOp_plain rfl rfl (wp_assign_v (ac.eval (.tmp 234)) rfl rfl ⟨NN, hl2 14, (hF.put 14 29 (SP.is (.int .i64 E)) (ac.eval (.tmp 234)) (by rw [hD]; rfl) ((hF.done 11 (234, SP.is (.int .i64 E)) (by rw [hD]; rfl) (ready_dep hk 11 (by kernel_rfl)))) (by rw [hD]; rfl) (by rw [hsz]; decide) (by rw [hl]; decide)), hb1, rs, (fun h1 h2 => ⟨(eval_put_other ac _ (by decide)).trans ((ax12 (by rwa [getD_set _ _ _ (by decide)] at h1) (by rwa [getD_set _ _ _ (by decide)] at h2)).1), (ax12 (by rwa [getD_set _ _ _ (by decide)] at h1) (by rwa [getD_set _ _ _ (by decide)] at h2)).2.1, (ax12 (by rwa [getD_set _ _ _ (by decide)] at h1) (by rwa [getD_set _ _ _ (by decide)] at h2)).2.2⟩), (fun h => ⟨(eval_put_other ac _ (by decide)).trans ((ay12 (by rwa [getD_set _ _ _ (by decide)] at h)).1), (ay12 (by rwa [getD_set _ _ _ (by decide)] at h)).2⟩)⟩)
    · clear hb1 rs 
      intro listed ac W hI hr
      obtain ⟨NN, hl, hF, hb1, rs, ax12, ay12⟩ := hI
      have hall := all_listed (by kernel_rfl) hl hr
      obtain ⟨ea28, m28, p28⟩ := ay12 (hall 13 (by decide))
      have h224 : ac.eval (.tmp 224) = .pointer (some ⟨q, 0, none⟩) := hF.done 0 (224, SP.is (.pointer (some ⟨q, 0, none⟩))) (by rw [hD]; rfl) (hall 0 (by decide))
      have h225 : ac.eval (.tmp 225) = .int .i64 (k : Int) := hF.done 1 (225, SP.is (.int .i64 (k : Int))) (by rw [hD]; rfl) (hall 1 (by decide))
      have h226 : ac.eval (.tmp 226) = .pointer (some ⟨q, 0, none⟩) := hF.done 2 (226, SP.is (.pointer (some ⟨q, 0, none⟩))) (by rw [hD]; rfl) (hall 2 (by decide))
      have h227 : ac.eval (.tmp 227) = .pointer (some ⟨q, 3, none⟩) := hF.done 3 (227, SP.is (.pointer (some ⟨q, 3, none⟩))) (by rw [hD]; rfl) (hall 3 (by decide))
      have h228 : ac.eval (.tmp 228) = .pointer (some ⟨q, 3 + k * 70, none⟩) := hF.done 4 (228, SP.is (.pointer (some ⟨q, 3 + k * 70, none⟩))) (by rw [hD]; rfl) (hall 4 (by decide))
      have h229 : ac.eval (.tmp 229) = .agg L.toArray := hF.done 5 (229, SP.is (.agg L.toArray)) (by rw [hD]; rfl) (hall 5 (by decide))
      have h230 : ac.eval (.tmp 230) = .pointer (some ⟨bS, 91, none⟩) := hF.done 6 (230, SP.is (.pointer (some ⟨bS, 91, none⟩))) (by rw [hD]; rfl) (hall 6 (by decide))
      have h231 : ac.eval (.tmp 231) = .int .i64 s.nr := hF.done 7 (231, SP.is (.int .i64 s.nr)) (by rw [hD]; rfl) (hall 7 (by decide))
      obtain ⟨x232, h232⟩ : ∃ x, ac.eval (.tmp 232) = x := ⟨_, rfl⟩
      obtain ⟨x223, h223⟩ : ∃ x, ac.eval (.tmp 223) = x := ⟨_, rfl⟩
      obtain ⟨x233, h233⟩ : ∃ x, ac.eval (.tmp 233) = x := ⟨_, rfl⟩
      have h234 : ac.eval (.tmp 234) = .int .i64 E := hF.done 11 (234, SP.is (.int .i64 E)) (by rw [hD]; rfl) (hall 11 (by decide))
      have h29 : ac.eval (.tmp 29) = .int .i64 E := hF.done 14 (29, SP.is (.int .i64 E)) (by rw [hD]; rfl) (hall 14 (by decide))
      have ea := hF.lay [(224, .pointer (some ⟨q, 0, none⟩)), (225, .int .i64 (k : Int)), (226, .pointer (some ⟨q, 0, none⟩)), (227, .pointer (some ⟨q, 3, none⟩)), (228, .pointer (some ⟨q, 3 + k * 70, none⟩)), (229, .agg L.toArray), (230, .pointer (some ⟨bS, 91, none⟩)), (231, .int .i64 s.nr), (232, x232), (223, x223), (233, x233), (234, .int .i64 E), (28, .pointer (some ⟨NN, 0, none⟩)), (29, .int .i64 E)] (by rw [hD, hsz]; rfl) (by simp only [List.forall_mem_cons, List.not_mem_nil, false_implies, implies_true, and_true]; exact ⟨h224, h225, h226, h227, h228, h229, h230, h231, h232, h223, h233, h234, ea28, h29⟩)
      rw [ha0] at ea
      simp only [List.foldl_cons, List.foldl_nil, List.setIfInBounds_toArray, List.set_cons_zero, List.set_cons_succ] at ea
      clear hF hall hr hl hD ax12 ay12 zs0 zs1 zs5 ha0 hsz h224 h225 h226 h227 h228 h229 h230 h231 h232 h223 h233 h234 ea28 h29
      subst ea
      obtain ⟨e2, r28, hR2, hA2⟩ := p28
      obtain ⟨V2, hV2⟩ : ∃ V, V = W := ⟨_, rfl⟩
      rw [← hV2] at r28 hR2 hb1 ⊢
      have HP3 : Hid (Pl w0 V2 q C Ls2 Es T ts) := HPV.out.below hb1
      have HR2 : Hid (Rf V2 e2 C st') := hR2
      have HA2 : Hid (Ap V.heap.size e e2) := hA2
      have hne : NN ≠ q := by have := HPV.out.row.lt; omega
      obtain ⟨D2, hD2⟩ : ∃ M, M = st'.dc e2 := ⟨_, rfl⟩
      rw [← hD2] at r28
      have HD2 : Hid (D2 = st'.dc e2) := hD2
      have HID : Hid ((Try.prog.info? tRL).map (·.size) = some D2.length) := by show _ = _; rw [hD2]; exact La.dinfo HOK.out.cf _
      have HIJ : Hid ((Try.prog.info? tRL).map (·.size) = some D2.toArray.size) := by show _ = _; rw [List.size_toArray]; exact HID.out
      have HDO : Hid (D2.toArray.all (·.oneCell') = true) := by show _ = _; rw [hD2]; exact hR2.one
      have HDL : Hid (D2.length = 70) := by show _ = _; rw [hD2]; exact La.dlen HOK.out.cf _
      obtain ⟨PC, hPC⟩ : ∃ M, M = prc (Ls2.map (·.1)) (Es.map fun e => e.2.dc e.1) T := ⟨_, rfl⟩
      have HPC : Hid (PC = prc (Ls2.map (·.1)) (Es.map fun e => e.2.dc e.1) T) := hPC
      have rq : Row V2 q PC tPr := by rw [hPC]; exact HP3.out.row
      have HPN : Hid (3 + k * 70 + D2.toArray.size ≤ PC.length) := by show _ ≤ _; rw [List.size_toArray, HDL.out, hPC, prc_len (by rw [List.length_map]; exact HP3.out.l3) (by rw [List.length_map]; exact HP3.out.e3) HP3.out.d70]; have := HK3.out; omega
      have hqn : w0.heap.size ≤ q := HP3.out.qn
      have gQ : Gro (· = q) V2 V2 := Gro.refl _ _
      clear hb1
      have hb1 : Below w0.heap.size w0 V2 := HP3.out.be
      clear hV2 hR2 hA2 hD2 hPC rs hbV HRR HRD HPV
      go_upto_region 28 with fail
      refine wp_named fun a0 ha0 => ?_
      have hsz : a0.tmps.size = 244 := by rw [ha0]; rfl
      have zs0 : a0.eval (.tmp 0) = .pointer (some ⟨q, 0, none⟩) := by rw [ha0]; rfl
      have zs1 : a0.eval (.tmp 1) = .int .i64 (k : Int) := by rw [ha0]; rfl
      have zs28 : a0.eval (.tmp 28) = .pointer (some ⟨NN, 0, none⟩) := by rw [ha0]; rfl
      obtain ⟨D, hD⟩ : ∃ D : List (Tmp × SP), D = [(235, SP.is (.pointer (some ⟨q, 0, none⟩))), (236, SP.is (.int .i64 (k : Int))), (237, SP.is (.agg D2.toArray)), (238, SP.is (.pointer (some ⟨q, 0, none⟩))), (239, SP.is (.pointer (some ⟨q, 3, none⟩))), (240, SP.is (.pointer (some ⟨q, 3 + k * 70, none⟩))), (1000, SP.any)] := ⟨_, rfl⟩
      refine wp_region_down (by kernel_rfl) (fun listed ac W => listed.size = 7 ∧ Fp D a0 listed ac W ∧ Below w0.heap.size w0 W ∧ Row W q (if listed.getD 6 false = true then (PC.take (3 + k * 70) ++ D2 ++ PC.drop (3 + k * 70 + D2.length)) else PC) tPr ∧ Row W NN D2 tRL ∧ Gro (· = q) V2 W) ?_ ?_ ?_
      · exact ⟨by simp, Fp.start D a0 _ _, Below.drew hb1, (by rw [if_neg (fun h => start_no h)]; exact Row.drew rq), Row.drew r28, gQ.below (Below.drew (Below.refl _ _))⟩
      · clear ha0 hb1 rq r28 gQ 
        intro listed ac W k hI hdn hk
        obtain ⟨hl, hF, hb1, rq, r28, gQ⟩ := hI
        have hk1 : k < 7 := List.mem_range.1 (List.mem_filter.1 hk).1
        have hl2 : ∀ j, (listed.setIfInBounds j true).size = 7 := fun j => by rw [Array.size_setIfInBounds]; exact hl
        rcases (show k = 0 ∨ k = 1 ∨ k = 2 ∨ k = 3 ∨ k = 4 ∨ k = 5 ∨ k = 6 by omega) with rfl | rfl | rfl | rfl | rfl | rfl | rfl
        · have hk3 := hk
          exact wpOp_plain rfl rfl (wp_move_v (ac.eval (.tmp 0)) rfl rfl ⟨hl2 0, (hF.put 0 235 (SP.is (.pointer (some ⟨q, 0, none⟩))) (ac.eval (.tmp 0)) (by rw [hD]; rfl) (((hF.keep 0 (by rw [hD]; rfl)).trans zs0)) (by rw [hD]; rfl) (by rw [hsz]; decide) (by rw [hl]; decide)), hb1, (by rw [getD_set _ _ _ (by decide)]; exact rq), r28, gQ⟩)
        · have hk3 := hk
          exact wpOp_plain rfl rfl (wp_move_v (ac.eval (.tmp 1)) rfl rfl ⟨hl2 1, (hF.put 1 236 (SP.is (.int .i64 (k : Int))) (ac.eval (.tmp 1)) (by rw [hD]; rfl) (((hF.keep 1 (by rw [hD]; rfl)).trans zs1)) (by rw [hD]; rfl) (by rw [hsz]; decide) (by rw [hl]; decide)), hb1, (by rw [getD_set _ _ _ (by decide)]; exact rq), r28, gQ⟩)
        · have hk3 := hk
          exact wpOp_plain rfl rfl (wp_load_mid tRL (.tmp 28) rfl NN 0 ((hF.keep 28 (by rw [hD]; rfl)).trans zs28) D2 _ r28.all Try.underlying44 rfl HID.out ⟨hl2 2, (hF.put 2 237 (SP.is (.agg D2.toArray)) (.agg D2.toArray) (by rw [hD]; rfl) rfl (by rw [hD]; rfl) (by rw [hsz]; decide) (by rw [hl]; decide)), hb1, (by rw [getD_set _ _ _ (by decide)]; exact rq), r28, gQ⟩)
        · have hk3 := hk
          have ea := (hF.done 0 (235, SP.is (.pointer (some ⟨q, 0, none⟩))) (by rw [hD]; rfl) (ready_dep hk 0 (by kernel_rfl)))
          exact wpOp_plain rfl rfl (wp_nilL rfl q ea ⟨hl2 3, (hF.put 3 238 (SP.is (.pointer (some ⟨q, 0, none⟩))) (.pointer (some ⟨q, 0, none⟩)) (by rw [hD]; rfl) rfl (by rw [hD]; rfl) (by rw [hsz]; decide) (by rw [hl]; decide)), hb1, (by rw [getD_set _ _ _ (by decide)]; exact rq), r28, gQ⟩)
        · have hk3 := hk
          have ea := (hF.done 3 (238, SP.is (.pointer (some ⟨q, 0, none⟩))) (by rw [hD]; rfl) (ready_dep hk 3 (by kernel_rfl)))
          exact wpOp_plain rfl rfl (wp_fPr1 rfl q ea ⟨hl2 4, (hF.put 4 239 (SP.is (.pointer (some ⟨q, 3, none⟩))) (.pointer (some ⟨q, 3, none⟩)) (by rw [hD]; rfl) rfl (by rw [hD]; rfl) (by rw [hsz]; decide) (by rw [hl]; decide)), hb1, (by rw [getD_set _ _ _ (by decide)]; exact rq), r28, gQ⟩)
        · have hk3 := hk
          have ea := (hF.done 4 (239, SP.is (.pointer (some ⟨q, 3, none⟩))) (by rw [hD]; rfl) (ready_dep hk 4 (by kernel_rfl)))
          have eb := (hF.done 1 (236, SP.is (.int .i64 (k : Int))) (by rw [hD]; rfl) (ready_dep hk 1 (by kernel_rfl)))
          exact wpOp_plain rfl rfl (wp_ixO tR3 tRL rfl q 3 k 70 3 (3 + k * 70) ea eb HK3.out und_R3 info_RL rfl ⟨hl2 5, (hF.put 5 240 (SP.is (.pointer (some ⟨q, 3 + k * 70, none⟩))) (.pointer (some ⟨q, 3 + k * 70, none⟩)) (by rw [hD]; rfl) rfl (by rw [hD]; rfl) (by rw [hsz]; decide) (by rw [hl]; decide)), hb1, (by rw [getD_set _ _ _ (by decide)]; exact rq), r28, gQ⟩)
        · have hk3 := hk
          have hno : ¬ listed.getD 6 false = true := not_yet hk
          rw [if_neg hno] at rq
          have T := rq.there (3 + k * 70) D2.toArray.size HPN.out
          have fin := Row.setCells (3 + k * 70) D2 rq (by have := HPN.out; rwa [List.size_toArray] at this)
          have hT : Fp D a0 listed ac (W.setCells q (3 + k * 70) D2) := hF.turn (by rw [hD]; simp only [List.forall_mem_cons, List.not_mem_nil, false_implies, implies_true, and_true]; exact ⟨fun _ h => h, fun _ h => h, fun _ h => h, fun _ h => h, fun _ h => h, fun _ h => h, fun _ h => h⟩)
          exact wpOp_plain rfl rfl (wp_store_mid tRL (.tmp 240) (.tmp 237) rfl q (3 + k * 70) D2.toArray (hF.done 5 (240, SP.is (.pointer (some ⟨q, 3 + k * 70, none⟩))) (by rw [hD]; rfl) (ready_dep hk 5 (by kernel_rfl))) (hF.done 2 (237, SP.is (.agg D2.toArray)) (by rw [hD]; rfl) (ready_dep hk 2 (by kernel_rfl))) T HIJ.out HDO.out ⟨hl2 6, (hT.skip 6 1000 (by rw [hD]; rfl) (by rw [hl]; decide)), below_setCells hb1 (by omega) _, (by rw [if_pos (getD_same (by rw [hl]; decide))]; exact fin), Row.setCells_other r28 _ _ _ (by omega), gQ.trans (gro_setsL W q (3 + k * 70) D2)⟩)
      · clear hb1 rq r28 gQ 
        intro listed ac W hI hr
        obtain ⟨hl, hF, hb1, rq, r28, gQ⟩ := hI
        have hall := all_listed (by kernel_rfl) hl hr
        rw [if_pos (hall 6 (by decide))] at rq
        have h235 : ac.eval (.tmp 235) = .pointer (some ⟨q, 0, none⟩) := hF.done 0 (235, SP.is (.pointer (some ⟨q, 0, none⟩))) (by rw [hD]; rfl) (hall 0 (by decide))
        have h236 : ac.eval (.tmp 236) = .int .i64 (k : Int) := hF.done 1 (236, SP.is (.int .i64 (k : Int))) (by rw [hD]; rfl) (hall 1 (by decide))
        have h237 : ac.eval (.tmp 237) = .agg D2.toArray := hF.done 2 (237, SP.is (.agg D2.toArray)) (by rw [hD]; rfl) (hall 2 (by decide))
        have h238 : ac.eval (.tmp 238) = .pointer (some ⟨q, 0, none⟩) := hF.done 3 (238, SP.is (.pointer (some ⟨q, 0, none⟩))) (by rw [hD]; rfl) (hall 3 (by decide))
        have h239 : ac.eval (.tmp 239) = .pointer (some ⟨q, 3, none⟩) := hF.done 4 (239, SP.is (.pointer (some ⟨q, 3, none⟩))) (by rw [hD]; rfl) (hall 4 (by decide))
        have h240 : ac.eval (.tmp 240) = .pointer (some ⟨q, 3 + k * 70, none⟩) := hF.done 5 (240, SP.is (.pointer (some ⟨q, 3 + k * 70, none⟩))) (by rw [hD]; rfl) (hall 5 (by decide))
        have ea := hF.lay [(235, .pointer (some ⟨q, 0, none⟩)), (236, .int .i64 (k : Int)), (237, .agg D2.toArray), (238, .pointer (some ⟨q, 0, none⟩)), (239, .pointer (some ⟨q, 3, none⟩)), (240, .pointer (some ⟨q, 3 + k * 70, none⟩))] (by rw [hD, hsz]; rfl) (by simp only [List.forall_mem_cons, List.not_mem_nil, false_implies, implies_true, and_true]; exact ⟨h235, h236, h237, h238, h239, h240⟩)
        rw [ha0] at ea
        simp only [List.foldl_cons, List.foldl_nil, List.setIfInBounds_toArray, List.set_cons_zero, List.set_cons_succ] at ea
        clear hF hall hr hl hD  zs0 zs1 zs28 ha0 hsz h235 h236 h237 h238 h239 h240
        subst ea
        have FP : Hid (Pl w0 W q C Ls2 (Es.set k (e2, st')) T ts) := HP3.out.setE HK3.out HR2.out (fun g eg l hl => by
          rcases HA2.out g eg with z | z
          · exact HP3.out.ra (e, st) (List.mem_of_getElem? HEK.out) g z l hl
          · intro tb
            have := (HPVL.out l hl).lt g tb
            omega) (by rw [HPC.out, HD2.out] at rq; exact rq) gQ
        clear rq r28 gQ hb1
        go_wp2_with fail
        go_ret
        exact ⟨by simp, v1, e2, st', by rw [← HL2.out]; exact FP.out⟩
set_option maxRecDepth 100000 in
set_option maxHeartbeats 16000000 in
theorem turn_hold {w0 w : World} {q : Nat} {B : Int} {Ls : List (Nat × Value × La)} {Es : List (Value × La)} {T : Value} {ts : List (Value × Nat)} (h : Pl w0 w q B Ls Es T ts) (hB2 : B < 4611686018427387900) {k p : Nat} {v e : Value} {st : La} (hk : Ls[k]? = some (p, v, st)) (he : Es[k]? = some (e, st)) (s : Sp16) (hs : s.Ok) (hkd : s.kd = 4) (S : List Value) (hS : S = s.cells) :
    Calls Try.prog 17 #[.pointer (some ⟨q, 0, none⟩), .int .i64 (k : Int), .agg S.toArray] w fun r w' => r = .returned (.bool true) ∧ ∃ v' e' st', Pl w0 w' q (B + 1) (Ls.set k (p, v', st')) (Es.set k (e', st')) T ts := by
  obtain ⟨st', E, hr⟩ : ∃ st' E, st.hold s.nr s.now = (st', E) := ⟨_, _, rfl⟩
  have hk3 : k < 3 := by have := (List.getElem?_eq_some_iff.1 hk).1; rw [h.l3] at this; exact this
  have HK3 : Hid (k < 3) := hk3
  have HPL : Hid (Pl w0 w q B Ls Es T ts) := h
  have HLK : Hid (Ls[k]? = some (p, v, st)) := hk
  have HEK : Hid (Es[k]? = some (e, st)) := he
  obtain ⟨C, hC⟩ : ∃ C, C = B + 1 := ⟨_, rfl⟩
  have HBC : Hid (B ≤ C) := by show _ ≤ _; omega
  have HNR : Hid (S[91]? = some (.int .i64 s.nr)) := by rw [hS]; exact Sp16.at_nr hs
  have HNW : Hid (S[90]? = some (.int .i64 s.now)) := by rw [hS]; exact Sp16.at_now hs
  have HKD : Hid (S[0]? = some (.int .i64 4)) := by rw [hS, ← hkd]; exact Sp16.at_kd s
  have HCP : Hid (∀ W, Pl w0 W q B Ls Es T ts → W.cell? ⟨q, k, none⟩ = some (.pointer (some ⟨p, 0, none⟩))) := fun W hP => hP.row.cell k _ (prc_p (by rw [List.getElem?_map, hk]; rfl))
  have HRL : Hid (∀ W, Pl w0 W q B Ls Es T ts → Calls Try.prog 27 #[.pointer (some ⟨p, 0, none⟩), .int .i64 s.nr, .int .i64 s.now] W fun e w' => e = .returned (.int .i64 E) ∧ Tn W w' p v C st') := fun W hP => by rw [hC]; exact hold_any (hP.lad hk) (by omega) s.nr s.now st' E hr
  obtain ⟨L, hL⟩ : ∃ L, L = st.dc e := ⟨_, rfl⟩
  have HIL : Hid ((Try.prog.info? tRL).map (·.size) = some L.length) := by show _ = _; rw [hL]; exact La.dinfo (h.rf _ (List.mem_of_getElem? he)).ok.cf _
  have HRD0 : Hid (∀ W C Ls2, Pl w0 W q C Ls2 Es T ts → W.rangeAt q (3 + k * 70) L) := fun W C Ls2 hP => hP.row.range (3 + k * 70) _ (fun j u hj => prc_d (by rw [List.length_map]; exact hP.l3) hP.d70 (by rw [List.getElem?_map, he]; rfl) j u (by rw [hL] at hj; exact hj))
  have HRR0 : Hid (∀ W Ls2, st'.Ok C → Pl w0 W q C Ls2 Es T ts → Calls Try.prog 61 #[.agg L.toArray, .int .i64 s.nr, .int .i64 s.now] W fun r w' => ∃ v', r = .returned (.tuple #[.agg (st'.dc v').toArray, .int .i64 E]) ∧ Rf w' v' C st' ∧ Nv W e v' ∧ Below W.heap.size W w') := fun W Ls2 hOK hP => rhold_any (hP.rf _ (List.mem_of_getElem? he)) (by omega) s.nr s.now L hL st' E hr C hOK (Int.le_refl _)
  have HCC : Hid (C = B + 1) := hC
  rw [← hC]
  clear h hk he hs hkd hS hr hk3 hL hB2 hC
  go_enter Try.func17, Try.ntmps17
  go_upto_region 21 with (refine wpList_bxG tSt rfl (.tmp 2) rfl S rfl ?_; intro X1 q1 q2 q3; clear q3; have ck : X1.cell? ⟨w.heap.size, 0, none⟩ = some (.int .i64 4) := q1.cell 0 _ HKD.out; have RS : Hid (Row X1 w.heap.size S tSt) := q1; have HP1 : Hid (Pl w0 X1 q B Ls Es T ts) := HPL.out.below q2; clear q1 q2; simp only [Act.put, List.setIfInBounds_toArray, List.set_cons_zero, List.set_cons_succ])
  obtain ⟨bS, hbS⟩ : ∃ b, b = w.heap.size := ⟨_, rfl⟩
  rw [← hbS] at RS ⊢
  clear hbS ck HPL
  have hP := HP1.out
  have rs := RS.out
  have hb1 := Below.refl X1.heap.size X1
  clear HP1 RS
  refine wp_named fun a0 ha0 => ?_
  have hsz : a0.tmps.size = 244 := by rw [ha0]; rfl
  have zs0 : a0.eval (.tmp 0) = .pointer (some ⟨q, 0, none⟩) := by rw [ha0]; rfl
  have zs1 : a0.eval (.tmp 1) = .int .i64 (k : Int) := by rw [ha0]; rfl
  have zs5 : a0.eval (.tmp 5) = .pointer (some ⟨bS, 0, none⟩) := by rw [ha0]; rfl
  obtain ⟨D, hD⟩ : ∃ D : List (Tmp × SP), D = [(178, SP.is (.pointer (some ⟨q, 0, none⟩))), (179, SP.is (.int .i64 (k : Int))), (180, SP.is (.pointer (some ⟨q, 0, none⟩))), (181, SP.is (.pointer (some ⟨q, 0, none⟩))), (182, SP.is (.pointer (some ⟨q, k, none⟩))), (183, SP.is (.pointer (some ⟨p, 0, none⟩))), (184, SP.is (.pointer (some ⟨bS, 91, none⟩))), (185, SP.is (.int .i64 s.nr)), (186, SP.is (.pointer (some ⟨bS, 90, none⟩))), (187, SP.is (.int .i64 s.now)), (188, SP.is (.int .i64 E)), (24, SP.is (.int .i64 E))] := ⟨_, rfl⟩
  refine wp_region_then (by kernel_rfl) 10 (by decide) (by kernel_rfl) (fun listed ac W => Fp D a0 listed ac W ∧ Below X1.heap.size X1 W ∧ Row W bS S tSt ∧ Pl w0 W q B Ls Es T ts) (fun listed ac W => Fp D a0 listed ac W ∧ (∃ v1, Pl w0 W q C (Ls.set k (p, v1, st')) Es T ts) ∧ Row W bS S tSt) ?_ ?_ ?_ ?_ ?_
  · exact ⟨Fp.start D a0 _ _, Below.drew hb1, Row.drew rs, hP.below (Below.drew (Below.refl _ _))⟩
  · clear ha0 hb1 rs hP
    intro listed ac W k hl hI hdn hk hne hnl
    replace hl : listed.size = 12 := hl
    obtain ⟨hF, hb1, rs, hP⟩ := hI
    have hk1 : k < 12 := List.mem_range.1 (List.mem_filter.1 hk).1
    rcases (show k = 0 ∨ k = 1 ∨ k = 2 ∨ k = 3 ∨ k = 4 ∨ k = 5 ∨ k = 6 ∨ k = 7 ∨ k = 8 ∨ k = 9 ∨ k = 10 ∨ k = 11 by omega) with rfl | rfl | rfl | rfl | rfl | rfl | rfl | rfl | rfl | rfl | rfl | rfl
    · have hk3 := hk
      exact wpOp_plain rfl rfl (wp_move_v (ac.eval (.tmp 0)) rfl rfl ⟨(hF.put 0 178 (SP.is (.pointer (some ⟨q, 0, none⟩))) (ac.eval (.tmp 0)) (by rw [hD]; rfl) (((hF.keep 0 (by rw [hD]; rfl)).trans zs0)) (by rw [hD]; rfl) (by rw [hsz]; decide) (by rw [hl]; decide)), hb1, rs, hP⟩)
    · have hk3 := hk
      exact wpOp_plain rfl rfl (wp_move_v (ac.eval (.tmp 1)) rfl rfl ⟨(hF.put 1 179 (SP.is (.int .i64 (k : Int))) (ac.eval (.tmp 1)) (by rw [hD]; rfl) (((hF.keep 1 (by rw [hD]; rfl)).trans zs1)) (by rw [hD]; rfl) (by rw [hsz]; decide) (by rw [hl]; decide)), hb1, rs, hP⟩)
    · have hk3 := hk
      have ea := (hF.done 0 (178, SP.is (.pointer (some ⟨q, 0, none⟩))) (by rw [hD]; rfl) (ready_dep hk 0 (by kernel_rfl)))
      exact wpOp_plain rfl rfl (wp_nilL rfl q ea ⟨(hF.put 2 180 (SP.is (.pointer (some ⟨q, 0, none⟩))) (.pointer (some ⟨q, 0, none⟩)) (by rw [hD]; rfl) rfl (by rw [hD]; rfl) (by rw [hsz]; decide) (by rw [hl]; decide)), hb1, rs, hP⟩)
    · have hk3 := hk
      have ea := (hF.done 2 (180, SP.is (.pointer (some ⟨q, 0, none⟩))) (by rw [hD]; rfl) (ready_dep hk 2 (by kernel_rfl)))
      exact wpOp_plain rfl rfl (wp_fPr0 rfl q ea ⟨(hF.put 3 181 (SP.is (.pointer (some ⟨q, 0, none⟩))) (.pointer (some ⟨q, 0, none⟩)) (by rw [hD]; rfl) rfl (by rw [hD]; rfl) (by rw [hsz]; decide) (by rw [hl]; decide)), hb1, rs, hP⟩)
    · have hk3 := hk
      have ea := (hF.done 3 (181, SP.is (.pointer (some ⟨q, 0, none⟩))) (by rw [hD]; rfl) (ready_dep hk 3 (by kernel_rfl)))
      have eb := (hF.done 1 (179, SP.is (.int .i64 (k : Int))) (by rw [hD]; rfl) (ready_dep hk 1 (by kernel_rfl)))
      exact wpOp_plain rfl rfl (wp_ixO tL3 tLp rfl q 3 k 1 0 k ea eb HK3.out und_L3 info_Lp (by omega) ⟨(hF.put 4 182 (SP.is (.pointer (some ⟨q, k, none⟩))) (.pointer (some ⟨q, k, none⟩)) (by rw [hD]; rfl) rfl (by rw [hD]; rfl) (by rw [hsz]; decide) (by rw [hl]; decide)), hb1, rs, hP⟩)
    · have hk3 := hk
      have ea := (hF.done 4 (182, SP.is (.pointer (some ⟨q, k, none⟩))) (by rw [hD]; rfl) (ready_dep hk 4 (by kernel_rfl)))
      exact wpOp_plain rfl rfl (wp_ld1 q k (.pointer (some ⟨p, 0, none⟩)) rfl ea (ld_Lp W q k _ (HCP.out W (hP))) ⟨(hF.put 5 183 (SP.is (.pointer (some ⟨p, 0, none⟩))) (.pointer (some ⟨p, 0, none⟩)) (by rw [hD]; rfl) rfl (by rw [hD]; rfl) (by rw [hsz]; decide) (by rw [hl]; decide)), hb1, rs, hP⟩)
    · have hk3 := hk
      have ea := ((hF.keep 5 (by rw [hD]; rfl)).trans zs5)
      exact wpOp_plain rfl rfl (wp_fSt7 rfl bS ea ⟨(hF.put 6 184 (SP.is (.pointer (some ⟨bS, 91, none⟩))) (.pointer (some ⟨bS, 91, none⟩)) (by rw [hD]; rfl) rfl (by rw [hD]; rfl) (by rw [hsz]; decide) (by rw [hl]; decide)), hb1, rs, hP⟩)
    · have hk3 := hk
      have ea := (hF.done 6 (184, SP.is (.pointer (some ⟨bS, 91, none⟩))) (by rw [hD]; rfl) (ready_dep hk 6 (by kernel_rfl)))
      exact wpOp_plain rfl rfl (wp_ld1 bS 91 (.int .i64 s.nr) rfl ea (ld_int W bS 91 _ (rs.cell 91 _ HNR.out)) ⟨(hF.put 7 185 (SP.is (.int .i64 s.nr)) (.int .i64 s.nr) (by rw [hD]; rfl) rfl (by rw [hD]; rfl) (by rw [hsz]; decide) (by rw [hl]; decide)), hb1, rs, hP⟩)
    · have hk3 := hk
      have ea := ((hF.keep 5 (by rw [hD]; rfl)).trans zs5)
      exact wpOp_plain rfl rfl (wp_fSt6 rfl bS ea ⟨(hF.put 8 186 (SP.is (.pointer (some ⟨bS, 90, none⟩))) (.pointer (some ⟨bS, 90, none⟩)) (by rw [hD]; rfl) rfl (by rw [hD]; rfl) (by rw [hsz]; decide) (by rw [hl]; decide)), hb1, rs, hP⟩)
    · have hk3 := hk
      have ea := (hF.done 8 (186, SP.is (.pointer (some ⟨bS, 90, none⟩))) (by rw [hD]; rfl) (ready_dep hk 8 (by kernel_rfl)))
      exact wpOp_plain rfl rfl (wp_ld1 bS 90 (.int .i64 s.now) rfl ea (ld_int W bS 90 _ (rs.cell 90 _ HNW.out)) ⟨(hF.put 9 187 (SP.is (.int .i64 s.now)) (.int .i64 s.now) (by rw [hD]; rfl) rfl (by rw [hD]; rfl) (by rw [hsz]; decide) (by rw [hl]; decide)), hb1, rs, hP⟩)
    · exact absurd rfl hne
    · exact absurd (ready_dep hk 10 (by kernel_rfl)) hnl
  · clear ha0 hb1 rs hP
    intro listed ac W hl hI hdn hk
    replace hl : listed.size = 12 := hl
    obtain ⟨hF, hb1, rs, hP⟩ := hI
    have e183 := (hF.done 5 (183, SP.is (.pointer (some ⟨p, 0, none⟩))) (by rw [hD]; rfl) (ready_dep hk 5 (by kernel_rfl)))
    have e185 := (hF.done 7 (185, SP.is (.int .i64 s.nr)) (by rw [hD]; rfl) (ready_dep hk 7 (by kernel_rfl)))
    have e187 := (hF.done 9 (187, SP.is (.int .i64 s.now)) (by rw [hD]; rfl) (ready_dep hk 9 (by kernel_rfl)))
    refine wpOp_plain rfl rfl (wp_fcall_v 27 #[.pointer (some ⟨p, 0, none⟩), .int .i64 s.nr, .int .i64 s.now] rfl rfl (by show [ac.eval (.tmp 183), ac.eval (.tmp 185), ac.eval (.tmp 187)] = _; rw [show ac.eval (.tmp 183) = _ from e183, show ac.eval (.tmp 185) = _ from e185, show ac.eval (.tmp 187) = _ from e187]) (by go_simp) ((HRL.out W hP).mono ?_))
    rintro e W2 ⟨rfl, hT2⟩
    have hT : Fp D a0 listed ac W2 := hF.turn (by rw [hD]; simp only [List.forall_mem_cons, List.not_mem_nil, false_implies, implies_true, and_true]; exact ⟨fun _ h => h, fun _ h => h, fun _ h => h, fun _ h => h, fun _ h => h, fun _ h => h, fun _ h => h, fun _ h => h, fun _ h => h, fun _ h => h, fun _ h => h, fun _ h => h⟩)
    exact ⟨_, rfl, (hT.put 10 188 (SP.is (.int .i64 E)) _ (by rw [hD]; rfl) rfl (by rw [hD]; rfl) (by rw [hsz]; decide) (by rw [hl]; decide)), (hP.turn HLK.out HBC.out hT2), (tn_row hP (List.mem_of_getElem? HLK.out) hT2 rs (by decide) (by decide))⟩
  · clear ha0 hb1 rs hP
    intro listed ac W k hl hJ hdn hk hne hyl
    replace hl : listed.size = 12 := hl
    obtain ⟨hF, hT, rs⟩ := hJ
    have hk1 : k < 12 := List.mem_range.1 (List.mem_filter.1 hk).1
    rcases (show k = 0 ∨ k = 1 ∨ k = 2 ∨ k = 3 ∨ k = 4 ∨ k = 5 ∨ k = 6 ∨ k = 7 ∨ k = 8 ∨ k = 9 ∨ k = 10 ∨ k = 11 by omega) with rfl | rfl | rfl | rfl | rfl | rfl | rfl | rfl | rfl | rfl | rfl | rfl
    · exact absurd (hdn 2 (hdn 3 (hdn 4 (hdn 5 (hdn 10 hyl 5 (by kernel_rfl)) 4 (by kernel_rfl)) 3 (by kernel_rfl)) 2 (by kernel_rfl)) 0 (by kernel_rfl)) (not_yet hk)
    · exact absurd (hdn 4 (hdn 5 (hdn 10 hyl 5 (by kernel_rfl)) 4 (by kernel_rfl)) 1 (by kernel_rfl)) (not_yet hk)
    · exact absurd (hdn 3 (hdn 4 (hdn 5 (hdn 10 hyl 5 (by kernel_rfl)) 4 (by kernel_rfl)) 3 (by kernel_rfl)) 2 (by kernel_rfl)) (not_yet hk)
    · exact absurd (hdn 4 (hdn 5 (hdn 10 hyl 5 (by kernel_rfl)) 4 (by kernel_rfl)) 3 (by kernel_rfl)) (not_yet hk)
    · exact absurd (hdn 5 (hdn 10 hyl 5 (by kernel_rfl)) 4 (by kernel_rfl)) (not_yet hk)
    · exact absurd (hdn 10 hyl 5 (by kernel_rfl)) (not_yet hk)
    · exact absurd (hdn 7 (hdn 10 hyl 7 (by kernel_rfl)) 6 (by kernel_rfl)) (not_yet hk)
    · exact absurd (hdn 10 hyl 7 (by kernel_rfl)) (not_yet hk)
    · exact absurd (hdn 9 (hdn 10 hyl 9 (by kernel_rfl)) 8 (by kernel_rfl)) (not_yet hk)
    · exact absurd (hdn 10 hyl 9 (by kernel_rfl)) (not_yet hk)
    · exact absurd rfl hne
    · exact wpOp_plain rfl rfl (wp_assign_v (ac.eval (.tmp 188)) rfl rfl ⟨(hF.put 11 24 (SP.is (.int .i64 E)) _ (by rw [hD]; rfl) (hF.done 10 (188, SP.is (.int .i64 E)) (by rw [hD]; rfl) (ready_dep hk 10 (by kernel_rfl))) (by rw [hD]; rfl) (by rw [hsz]; decide) (by rw [hl]; decide)), hT, rs⟩)
  · clear hb1 rs hP
    intro listed ac W hl hJ hr
    replace hl : listed.size = 12 := hl
    obtain ⟨hF, hT, rs⟩ := hJ
    have hall := all_listed (by kernel_rfl) hl hr
    have h178 : ac.eval (.tmp 178) = .pointer (some ⟨q, 0, none⟩) := hF.done 0 (178, SP.is (.pointer (some ⟨q, 0, none⟩))) (by rw [hD]; rfl) (hall 0 (by decide))
    have h179 : ac.eval (.tmp 179) = .int .i64 (k : Int) := hF.done 1 (179, SP.is (.int .i64 (k : Int))) (by rw [hD]; rfl) (hall 1 (by decide))
    have h180 : ac.eval (.tmp 180) = .pointer (some ⟨q, 0, none⟩) := hF.done 2 (180, SP.is (.pointer (some ⟨q, 0, none⟩))) (by rw [hD]; rfl) (hall 2 (by decide))
    have h181 : ac.eval (.tmp 181) = .pointer (some ⟨q, 0, none⟩) := hF.done 3 (181, SP.is (.pointer (some ⟨q, 0, none⟩))) (by rw [hD]; rfl) (hall 3 (by decide))
    have h182 : ac.eval (.tmp 182) = .pointer (some ⟨q, k, none⟩) := hF.done 4 (182, SP.is (.pointer (some ⟨q, k, none⟩))) (by rw [hD]; rfl) (hall 4 (by decide))
    have h183 : ac.eval (.tmp 183) = .pointer (some ⟨p, 0, none⟩) := hF.done 5 (183, SP.is (.pointer (some ⟨p, 0, none⟩))) (by rw [hD]; rfl) (hall 5 (by decide))
    have h184 : ac.eval (.tmp 184) = .pointer (some ⟨bS, 91, none⟩) := hF.done 6 (184, SP.is (.pointer (some ⟨bS, 91, none⟩))) (by rw [hD]; rfl) (hall 6 (by decide))
    have h185 : ac.eval (.tmp 185) = .int .i64 s.nr := hF.done 7 (185, SP.is (.int .i64 s.nr)) (by rw [hD]; rfl) (hall 7 (by decide))
    have h186 : ac.eval (.tmp 186) = .pointer (some ⟨bS, 90, none⟩) := hF.done 8 (186, SP.is (.pointer (some ⟨bS, 90, none⟩))) (by rw [hD]; rfl) (hall 8 (by decide))
    have h187 : ac.eval (.tmp 187) = .int .i64 s.now := hF.done 9 (187, SP.is (.int .i64 s.now)) (by rw [hD]; rfl) (hall 9 (by decide))
    have h188 : ac.eval (.tmp 188) = .int .i64 E := hF.done 10 (188, SP.is (.int .i64 E)) (by rw [hD]; rfl) (hall 10 (by decide))
    have h24 : ac.eval (.tmp 24) = .int .i64 E := hF.done 11 (24, SP.is (.int .i64 E)) (by rw [hD]; rfl) (hall 11 (by decide))
    have ea := hF.lay [(178, .pointer (some ⟨q, 0, none⟩)), (179, .int .i64 (k : Int)), (180, .pointer (some ⟨q, 0, none⟩)), (181, .pointer (some ⟨q, 0, none⟩)), (182, .pointer (some ⟨q, k, none⟩)), (183, .pointer (some ⟨p, 0, none⟩)), (184, .pointer (some ⟨bS, 91, none⟩)), (185, .int .i64 s.nr), (186, .pointer (some ⟨bS, 90, none⟩)), (187, .int .i64 s.now), (188, .int .i64 E), (24, .int .i64 E)] (by rw [hD, hsz]; rfl) (by simp only [List.forall_mem_cons, List.not_mem_nil, false_implies, implies_true, and_true]; exact ⟨h178, h179, h180, h181, h182, h183, h184, h185, h186, h187, h188, h24⟩)
    rw [ha0] at ea
    simp only [List.foldl_cons, List.foldl_nil, List.setIfInBounds_toArray, List.set_cons_zero, List.set_cons_succ] at ea
    clear hF hall hr hl hD zs0 zs1 zs5 ha0 hsz h178 h179 h180 h181 h182 h183 h184 h185 h186 h187 h188 h24
    subst ea
    obtain ⟨v1, hP2⟩ := hT
    obtain ⟨V, hV⟩ : ∃ V, V = W := ⟨_, rfl⟩
    rw [← hV] at hP2 rs ⊢
    obtain ⟨Ls2, hL2⟩ : ∃ l, l = Ls.set k (p, v1, st') := ⟨_, rfl⟩
    rw [← hL2] at hP2
    have HL2 : Hid (Ls2 = Ls.set k (p, v1, st')) := hL2
    have HOK : Hid (st'.Ok C) := by
      have hkl : k < Ls.length := (List.getElem?_eq_some_iff.1 HLK.out).1
      exact (hP2.lad (k := k) (l := (p, v1, st')) (by rw [hL2, List.getElem?_set_self hkl])).ok
    have HPV : Hid (Pl w0 V q C Ls2 Es T ts) := hP2
    have hbV := rs.lt
    have HPVL : Hid (∀ l ∈ Ls2, Ld V l.1 l.2.1 C l.2.2) := fun l hl => hP2.ladm hl
    have hb1 := Below.refl V.heap.size V
    have HRR : Hid (∀ W, Below V.heap.size V W → Calls Try.prog 61 #[.agg L.toArray, .int .i64 s.nr, .int .i64 s.now] W fun r w' => ∃ v', r = .returned (.tuple #[.agg (st'.dc v').toArray, .int .i64 E]) ∧ Rf w' v' C st' ∧ Nv W e v' ∧ Below W.heap.size W w') := fun W k => HRR0.out W Ls2 HOK.out (HPV.out.below k)
    have HRD : Hid (∀ W, Below V.heap.size V W → W.rangeAt q (3 + k * 70) L) := fun W k => HRD0.out W C Ls2 (HPV.out.below k)
    clear hV hL2 hP2 HRL HRR0 HRD0 HCP
    go_upto_region 22 with fail
    refine wp_named fun a0 ha0 => ?_
    have hsz : a0.tmps.size = 244 := by rw [ha0]; rfl
    have zs0 : a0.eval (.tmp 0) = .pointer (some ⟨q, 0, none⟩) := by rw [ha0]; rfl
    have zs1 : a0.eval (.tmp 1) = .int .i64 (k : Int) := by rw [ha0]; rfl
    have zs5 : a0.eval (.tmp 5) = .pointer (some ⟨bS, 0, none⟩) := by rw [ha0]; rfl
    obtain ⟨D, hD⟩ : ∃ D : List (Tmp × SP), D = [(190, SP.is (.pointer (some ⟨q, 0, none⟩))), (191, SP.is (.int .i64 (k : Int))), (192, SP.is (.pointer (some ⟨q, 0, none⟩))), (193, SP.is (.pointer (some ⟨q, 3, none⟩))), (194, SP.is (.pointer (some ⟨q, 3 + k * 70, none⟩))), (195, SP.is (.agg L.toArray)), (196, SP.is (.pointer (some ⟨bS, 91, none⟩))), (197, SP.is (.int .i64 s.nr)), (198, SP.is (.pointer (some ⟨bS, 90, none⟩))), (199, SP.is (.int .i64 s.now)), (200, SP.rt V.heap.size e C st' [.int .i64 E]), (189, SP.rt V.heap.size e C st' [.int .i64 E]), (201, SP.ra V.heap.size e C st'), (202, SP.is (.int .i64 E)), (25, SP.any), (1000, SP.any), (26, SP.is (.int .i64 E))] := ⟨_, rfl⟩
    refine wp_region_down (by kernel_rfl) (fun listed ac W => ∃ (NN : Nat), listed.size = 17 ∧ Fp D a0 listed ac W ∧ Below V.heap.size V W ∧ Row W bS S tSt ∧ (listed.getD 14 false = true → ¬ listed.getD 15 false = true → ac.eval (.tmp 25) = .pointer (some ⟨NN, 0, none⟩) ∧ V.heap.size - 1 < NN ∧ Row W NN zRL tRL) ∧ (listed.getD 15 false = true → ac.eval (.tmp 25) = .pointer (some ⟨NN, 0, none⟩) ∧ V.heap.size - 1 < NN ∧ ∃ v', Row W NN (st'.dc v') tRL ∧ Rf W v' C st' ∧ Ap V.heap.size e v')) ?_ ?_ ?_
    · exact ⟨0, by simp, Fp.start D a0 _ _, Below.drew hb1, Row.drew rs, (fun h _ => (start_no h).elim), (fun h => (start_no h).elim)⟩
    · clear ha0 hb1 rs 
      intro listed ac W k hI hdn hk
      obtain ⟨NN, hl, hF, hb1, rs, ax14, ay14⟩ := hI
      have hk1 : k < 17 := List.mem_range.1 (List.mem_filter.1 hk).1
      have hl2 : ∀ j, (listed.setIfInBounds j true).size = 17 := fun j => by rw [Array.size_setIfInBounds]; exact hl
      rcases (show k = 0 ∨ k = 1 ∨ k = 2 ∨ k = 3 ∨ k = 4 ∨ k = 5 ∨ k = 6 ∨ k = 7 ∨ k = 8 ∨ k = 9 ∨ k = 10 ∨ k = 11 ∨ k = 12 ∨ k = 13 ∨ k = 14 ∨ k = 15 ∨ k = 16 by omega) with rfl | rfl | rfl | rfl | rfl | rfl | rfl | rfl | rfl | rfl | rfl | rfl | rfl | rfl | rfl | rfl | rfl
      · have hk3 := hk
        have hnsx : ¬ listed.getD 15 false = true := fun h => not_yet hk (hdn 15 h 0 (by kernel_rfl))
        exact wpOp_plain rfl rfl (wp_move_v (ac.eval (.tmp 0)) rfl rfl ⟨NN, hl2 0, (hF.put 0 190 (SP.is (.pointer (some ⟨q, 0, none⟩))) (ac.eval (.tmp 0)) (by rw [hD]; rfl) (((hF.keep 0 (by rw [hD]; rfl)).trans zs0)) (by rw [hD]; rfl) (by rw [hsz]; decide) (by rw [hl]; decide)), hb1, rs, (fun h1 h2 => ⟨(eval_put_other ac _ (by decide)).trans ((ax14 (by rwa [getD_set _ _ _ (by decide)] at h1) (by rwa [getD_set _ _ _ (by decide)] at h2)).1), (ax14 (by rwa [getD_set _ _ _ (by decide)] at h1) (by rwa [getD_set _ _ _ (by decide)] at h2)).2.1, (ax14 (by rwa [getD_set _ _ _ (by decide)] at h1) (by rwa [getD_set _ _ _ (by decide)] at h2)).2.2⟩), (fun h => absurd (by rwa [getD_set _ _ _ (by decide)] at h) hnsx)⟩)
      · have hk3 := hk
        have hnsx : ¬ listed.getD 15 false = true := fun h => not_yet hk (hdn 15 h 1 (by kernel_rfl))
        exact wpOp_plain rfl rfl (wp_move_v (ac.eval (.tmp 1)) rfl rfl ⟨NN, hl2 1, (hF.put 1 191 (SP.is (.int .i64 (k : Int))) (ac.eval (.tmp 1)) (by rw [hD]; rfl) (((hF.keep 1 (by rw [hD]; rfl)).trans zs1)) (by rw [hD]; rfl) (by rw [hsz]; decide) (by rw [hl]; decide)), hb1, rs, (fun h1 h2 => ⟨(eval_put_other ac _ (by decide)).trans ((ax14 (by rwa [getD_set _ _ _ (by decide)] at h1) (by rwa [getD_set _ _ _ (by decide)] at h2)).1), (ax14 (by rwa [getD_set _ _ _ (by decide)] at h1) (by rwa [getD_set _ _ _ (by decide)] at h2)).2.1, (ax14 (by rwa [getD_set _ _ _ (by decide)] at h1) (by rwa [getD_set _ _ _ (by decide)] at h2)).2.2⟩), (fun h => absurd (by rwa [getD_set _ _ _ (by decide)] at h) hnsx)⟩)
      · have hk3 := hk
        have hnsx : ¬ listed.getD 15 false = true := fun h => not_yet hk (hdn 15 h 2 (by kernel_rfl))
        have ea := (hF.done 0 (190, SP.is (.pointer (some ⟨q, 0, none⟩))) (by rw [hD]; rfl) (ready_dep hk 0 (by kernel_rfl)))
        exact wpOp_plain rfl rfl (wp_nilL rfl q ea ⟨NN, hl2 2, (hF.put 2 192 (SP.is (.pointer (some ⟨q, 0, none⟩))) (.pointer (some ⟨q, 0, none⟩)) (by rw [hD]; rfl) rfl (by rw [hD]; rfl) (by rw [hsz]; decide) (by rw [hl]; decide)), hb1, rs, (fun h1 h2 => ⟨(eval_put_other ac _ (by decide)).trans ((ax14 (by rwa [getD_set _ _ _ (by decide)] at h1) (by rwa [getD_set _ _ _ (by decide)] at h2)).1), (ax14 (by rwa [getD_set _ _ _ (by decide)] at h1) (by rwa [getD_set _ _ _ (by decide)] at h2)).2.1, (ax14 (by rwa [getD_set _ _ _ (by decide)] at h1) (by rwa [getD_set _ _ _ (by decide)] at h2)).2.2⟩), (fun h => absurd (by rwa [getD_set _ _ _ (by decide)] at h) hnsx)⟩)
      · have hk3 := hk
        have hnsx : ¬ listed.getD 15 false = true := fun h => not_yet hk (hdn 15 h 3 (by kernel_rfl))
        have ea := (hF.done 2 (192, SP.is (.pointer (some ⟨q, 0, none⟩))) (by rw [hD]; rfl) (ready_dep hk 2 (by kernel_rfl)))
        exact wpOp_plain rfl rfl (wp_fPr1 rfl q ea ⟨NN, hl2 3, (hF.put 3 193 (SP.is (.pointer (some ⟨q, 3, none⟩))) (.pointer (some ⟨q, 3, none⟩)) (by rw [hD]; rfl) rfl (by rw [hD]; rfl) (by rw [hsz]; decide) (by rw [hl]; decide)), hb1, rs, (fun h1 h2 => ⟨(eval_put_other ac _ (by decide)).trans ((ax14 (by rwa [getD_set _ _ _ (by decide)] at h1) (by rwa [getD_set _ _ _ (by decide)] at h2)).1), (ax14 (by rwa [getD_set _ _ _ (by decide)] at h1) (by rwa [getD_set _ _ _ (by decide)] at h2)).2.1, (ax14 (by rwa [getD_set _ _ _ (by decide)] at h1) (by rwa [getD_set _ _ _ (by decide)] at h2)).2.2⟩), (fun h => absurd (by rwa [getD_set _ _ _ (by decide)] at h) hnsx)⟩)
      · have hk3 := hk
        have hnsx : ¬ listed.getD 15 false = true := fun h => not_yet hk (hdn 15 h 4 (by kernel_rfl))
        have ea := (hF.done 3 (193, SP.is (.pointer (some ⟨q, 3, none⟩))) (by rw [hD]; rfl) (ready_dep hk 3 (by kernel_rfl)))
        have eb := (hF.done 1 (191, SP.is (.int .i64 (k : Int))) (by rw [hD]; rfl) (ready_dep hk 1 (by kernel_rfl)))
        exact wpOp_plain rfl rfl (wp_ixO tR3 tRL rfl q 3 k 70 3 (3 + k * 70) ea eb HK3.out und_R3 info_RL rfl ⟨NN, hl2 4, (hF.put 4 194 (SP.is (.pointer (some ⟨q, 3 + k * 70, none⟩))) (.pointer (some ⟨q, 3 + k * 70, none⟩)) (by rw [hD]; rfl) rfl (by rw [hD]; rfl) (by rw [hsz]; decide) (by rw [hl]; decide)), hb1, rs, (fun h1 h2 => ⟨(eval_put_other ac _ (by decide)).trans ((ax14 (by rwa [getD_set _ _ _ (by decide)] at h1) (by rwa [getD_set _ _ _ (by decide)] at h2)).1), (ax14 (by rwa [getD_set _ _ _ (by decide)] at h1) (by rwa [getD_set _ _ _ (by decide)] at h2)).2.1, (ax14 (by rwa [getD_set _ _ _ (by decide)] at h1) (by rwa [getD_set _ _ _ (by decide)] at h2)).2.2⟩), (fun h => absurd (by rwa [getD_set _ _ _ (by decide)] at h) hnsx)⟩)
      · have hk3 := hk
        have hnsx : ¬ listed.getD 15 false = true := fun h => not_yet hk (hdn 15 h 5 (by kernel_rfl))
        have ea := (hF.done 4 (194, SP.is (.pointer (some ⟨q, 3 + k * 70, none⟩))) (by rw [hD]; rfl) (ready_dep hk 4 (by kernel_rfl)))
        exact wpOp_plain rfl rfl (wp_load_mid tRL (.tmp 194) rfl q (3 + k * 70) ea L _ (HRD.out W (hb1)) Try.underlying44 rfl HIL.out ⟨NN, hl2 5, (hF.put 5 195 (SP.is (.agg L.toArray)) (.agg L.toArray) (by rw [hD]; rfl) rfl (by rw [hD]; rfl) (by rw [hsz]; decide) (by rw [hl]; decide)), hb1, rs, (fun h1 h2 => ⟨(eval_put_other ac _ (by decide)).trans ((ax14 (by rwa [getD_set _ _ _ (by decide)] at h1) (by rwa [getD_set _ _ _ (by decide)] at h2)).1), (ax14 (by rwa [getD_set _ _ _ (by decide)] at h1) (by rwa [getD_set _ _ _ (by decide)] at h2)).2.1, (ax14 (by rwa [getD_set _ _ _ (by decide)] at h1) (by rwa [getD_set _ _ _ (by decide)] at h2)).2.2⟩), (fun h => absurd (by rwa [getD_set _ _ _ (by decide)] at h) hnsx)⟩)
      · have hk3 := hk
        have hnsx : ¬ listed.getD 15 false = true := fun h => not_yet hk (hdn 15 h 6 (by kernel_rfl))
        have ea := ((hF.keep 5 (by rw [hD]; rfl)).trans zs5)
        exact wpOp_plain rfl rfl (wp_fSt7 rfl bS ea ⟨NN, hl2 6, (hF.put 6 196 (SP.is (.pointer (some ⟨bS, 91, none⟩))) (.pointer (some ⟨bS, 91, none⟩)) (by rw [hD]; rfl) rfl (by rw [hD]; rfl) (by rw [hsz]; decide) (by rw [hl]; decide)), hb1, rs, (fun h1 h2 => ⟨(eval_put_other ac _ (by decide)).trans ((ax14 (by rwa [getD_set _ _ _ (by decide)] at h1) (by rwa [getD_set _ _ _ (by decide)] at h2)).1), (ax14 (by rwa [getD_set _ _ _ (by decide)] at h1) (by rwa [getD_set _ _ _ (by decide)] at h2)).2.1, (ax14 (by rwa [getD_set _ _ _ (by decide)] at h1) (by rwa [getD_set _ _ _ (by decide)] at h2)).2.2⟩), (fun h => absurd (by rwa [getD_set _ _ _ (by decide)] at h) hnsx)⟩)
      · have hk3 := hk
        have hnsx : ¬ listed.getD 15 false = true := fun h => not_yet hk (hdn 15 h 7 (by kernel_rfl))
        have ea := (hF.done 6 (196, SP.is (.pointer (some ⟨bS, 91, none⟩))) (by rw [hD]; rfl) (ready_dep hk 6 (by kernel_rfl)))
        exact wpOp_plain rfl rfl (wp_ld1 bS 91 (.int .i64 s.nr) rfl ea (ld_int W bS 91 _ (rs.cell 91 _ HNR.out)) ⟨NN, hl2 7, (hF.put 7 197 (SP.is (.int .i64 s.nr)) (.int .i64 s.nr) (by rw [hD]; rfl) rfl (by rw [hD]; rfl) (by rw [hsz]; decide) (by rw [hl]; decide)), hb1, rs, (fun h1 h2 => ⟨(eval_put_other ac _ (by decide)).trans ((ax14 (by rwa [getD_set _ _ _ (by decide)] at h1) (by rwa [getD_set _ _ _ (by decide)] at h2)).1), (ax14 (by rwa [getD_set _ _ _ (by decide)] at h1) (by rwa [getD_set _ _ _ (by decide)] at h2)).2.1, (ax14 (by rwa [getD_set _ _ _ (by decide)] at h1) (by rwa [getD_set _ _ _ (by decide)] at h2)).2.2⟩), (fun h => absurd (by rwa [getD_set _ _ _ (by decide)] at h) hnsx)⟩)
      · have hk3 := hk
        have hnsx : ¬ listed.getD 15 false = true := fun h => not_yet hk (hdn 15 h 8 (by kernel_rfl))
        have ea := ((hF.keep 5 (by rw [hD]; rfl)).trans zs5)
        exact wpOp_plain rfl rfl (wp_fSt6 rfl bS ea ⟨NN, hl2 8, (hF.put 8 198 (SP.is (.pointer (some ⟨bS, 90, none⟩))) (.pointer (some ⟨bS, 90, none⟩)) (by rw [hD]; rfl) rfl (by rw [hD]; rfl) (by rw [hsz]; decide) (by rw [hl]; decide)), hb1, rs, (fun h1 h2 => ⟨(eval_put_other ac _ (by decide)).trans ((ax14 (by rwa [getD_set _ _ _ (by decide)] at h1) (by rwa [getD_set _ _ _ (by decide)] at h2)).1), (ax14 (by rwa [getD_set _ _ _ (by decide)] at h1) (by rwa [getD_set _ _ _ (by decide)] at h2)).2.1, (ax14 (by rwa [getD_set _ _ _ (by decide)] at h1) (by rwa [getD_set _ _ _ (by decide)] at h2)).2.2⟩), (fun h => absurd (by rwa [getD_set _ _ _ (by decide)] at h) hnsx)⟩)
      · have hk3 := hk
        have hnsx : ¬ listed.getD 15 false = true := fun h => not_yet hk (hdn 15 h 9 (by kernel_rfl))
        have ea := (hF.done 8 (198, SP.is (.pointer (some ⟨bS, 90, none⟩))) (by rw [hD]; rfl) (ready_dep hk 8 (by kernel_rfl)))
        exact wpOp_plain rfl rfl (wp_ld1 bS 90 (.int .i64 s.now) rfl ea (ld_int W bS 90 _ (rs.cell 90 _ HNW.out)) ⟨NN, hl2 9, (hF.put 9 199 (SP.is (.int .i64 s.now)) (.int .i64 s.now) (by rw [hD]; rfl) rfl (by rw [hD]; rfl) (by rw [hsz]; decide) (by rw [hl]; decide)), hb1, rs, (fun h1 h2 => ⟨(eval_put_other ac _ (by decide)).trans ((ax14 (by rwa [getD_set _ _ _ (by decide)] at h1) (by rwa [getD_set _ _ _ (by decide)] at h2)).1), (ax14 (by rwa [getD_set _ _ _ (by decide)] at h1) (by rwa [getD_set _ _ _ (by decide)] at h2)).2.1, (ax14 (by rwa [getD_set _ _ _ (by decide)] at h1) (by rwa [getD_set _ _ _ (by decide)] at h2)).2.2⟩), (fun h => absurd (by rwa [getD_set _ _ _ (by decide)] at h) hnsx)⟩)
      · have hk3 := hk
        have hnsx : ¬ listed.getD 15 false = true := fun h => not_yet hk (hdn 15 h 10 (by kernel_rfl))
        have e195 := (hF.done 5 (195, SP.is (.agg L.toArray)) (by rw [hD]; rfl) (ready_dep hk 5 (by kernel_rfl)))
        have e197 := (hF.done 7 (197, SP.is (.int .i64 s.nr)) (by rw [hD]; rfl) (ready_dep hk 7 (by kernel_rfl)))
        have e199 := (hF.done 9 (199, SP.is (.int .i64 s.now)) (by rw [hD]; rfl) (ready_dep hk 9 (by kernel_rfl)))
        refine wpOp_plain rfl rfl (wp_fcall_v 61 #[.agg L.toArray, .int .i64 s.nr, .int .i64 s.now] rfl rfl (by show [ac.eval (.tmp 195), ac.eval (.tmp 197), ac.eval (.tmp 199)] = _; rw [show ac.eval (.tmp 195) = _ from e195, show ac.eval (.tmp 197) = _ from e197, show ac.eval (.tmp 199) = _ from e199]) (by go_simp) ((HRR.out W hb1).mono ?_))
        rintro e W2 ⟨v', rfl, hR, hN, hB⟩
        exact ⟨_, rfl, NN, hl2 10, ((hF.world hB).put 10 200 (SP.rt V.heap.size e C st' [.int .i64 E]) (.tuple #[.agg (st'.dc v').toArray, .int .i64 E]) (by rw [hD]; rfl) (⟨v', rfl, hR, Ap.of hN hb1.size⟩) (by rw [hD]; rfl) (by rw [hsz]; decide) (by rw [hl]; decide)), hb1.trans (hB.mono hb1.size), Row.below rs hB (Row.lt rs), (fun h1 h2 => ⟨(eval_put_other ac _ (by decide)).trans ((ax14 (by rwa [getD_set _ _ _ (by decide)] at h1) (by rwa [getD_set _ _ _ (by decide)] at h2)).1), (ax14 (by rwa [getD_set _ _ _ (by decide)] at h1) (by rwa [getD_set _ _ _ (by decide)] at h2)).2.1, Row.below (ax14 (by rwa [getD_set _ _ _ (by decide)] at h1) (by rwa [getD_set _ _ _ (by decide)] at h2)).2.2 hB (Row.lt (ax14 (by rwa [getD_set _ _ _ (by decide)] at h1) (by rwa [getD_set _ _ _ (by decide)] at h2)).2.2)⟩), (fun h => absurd (by rwa [getD_set _ _ _ (by decide)] at h) hnsx)⟩
      · have hk3 := hk
        have hnsx : ¬ listed.getD 15 false = true := fun h => not_yet hk (hdn 15 h 11 (by kernel_rfl))
        exact wpOp_plain rfl rfl (wp_move_v (ac.eval (.tmp 200)) rfl rfl ⟨NN, hl2 11, (hF.put 11 189 (SP.rt V.heap.size e C st' [.int .i64 E]) (ac.eval (.tmp 200)) (by rw [hD]; rfl) ((hF.done 10 (200, SP.rt V.heap.size e C st' [.int .i64 E]) (by rw [hD]; rfl) (ready_dep hk 10 (by kernel_rfl)))) (by rw [hD]; rfl) (by rw [hsz]; decide) (by rw [hl]; decide)), hb1, rs, (fun h1 h2 => ⟨(eval_put_other ac _ (by decide)).trans ((ax14 (by rwa [getD_set _ _ _ (by decide)] at h1) (by rwa [getD_set _ _ _ (by decide)] at h2)).1), (ax14 (by rwa [getD_set _ _ _ (by decide)] at h1) (by rwa [getD_set _ _ _ (by decide)] at h2)).2.1, (ax14 (by rwa [getD_set _ _ _ (by decide)] at h1) (by rwa [getD_set _ _ _ (by decide)] at h2)).2.2⟩), (fun h => absurd (by rwa [getD_set _ _ _ (by decide)] at h) hnsx)⟩)
      · have hk3 := hk
        have hnsx : ¬ listed.getD 15 false = true := fun h => not_yet hk (hdn 15 h 12 (by kernel_rfl))
        obtain ⟨v', e9, hR, hA⟩ := (hF.done 11 (189, SP.rt V.heap.size e C st' [.int .i64 E]) (by rw [hD]; rfl) (ready_dep hk 11 (by kernel_rfl)))
        exact wpOp_plain rfl rfl (wp_extract (.tmp 189) 0 rfl _ e9 (.agg (st'.dc v').toArray) rfl ⟨NN, hl2 12, (hF.put 12 201 (SP.ra V.heap.size e C st') (.agg (st'.dc v').toArray) (by rw [hD]; rfl) (⟨v', rfl, hR, hA⟩) (by rw [hD]; rfl) (by rw [hsz]; decide) (by rw [hl]; decide)), hb1, rs, (fun h1 h2 => ⟨(eval_put_other ac _ (by decide)).trans ((ax14 (by rwa [getD_set _ _ _ (by decide)] at h1) (by rwa [getD_set _ _ _ (by decide)] at h2)).1), (ax14 (by rwa [getD_set _ _ _ (by decide)] at h1) (by rwa [getD_set _ _ _ (by decide)] at h2)).2.1, (ax14 (by rwa [getD_set _ _ _ (by decide)] at h1) (by rwa [getD_set _ _ _ (by decide)] at h2)).2.2⟩), (fun h => absurd (by rwa [getD_set _ _ _ (by decide)] at h) hnsx)⟩)
      · have hk3 := hk
        obtain ⟨v', e9, hR, hA⟩ := (hF.done 11 (189, SP.rt V.heap.size e C st' [.int .i64 E]) (by rw [hD]; rfl) (ready_dep hk 11 (by kernel_rfl)))
        exact wpOp_plain rfl rfl (wp_extract (.tmp 189) 1 rfl _ e9 (.int .i64 E) rfl ⟨NN, hl2 13, (hF.put 13 202 (SP.is (.int .i64 E)) (.int .i64 E) (by rw [hD]; rfl) rfl (by rw [hD]; rfl) (by rw [hsz]; decide) (by rw [hl]; decide)), hb1, rs, (fun h1 h2 => ⟨(eval_put_other ac _ (by decide)).trans ((ax14 (by rwa [getD_set _ _ _ (by decide)] at h1) (by rwa [getD_set _ _ _ (by decide)] at h2)).1), (ax14 (by rwa [getD_set _ _ _ (by decide)] at h1) (by rwa [getD_set _ _ _ (by decide)] at h2)).2.1, (ax14 (by rwa [getD_set _ _ _ (by decide)] at h1) (by rwa [getD_set _ _ _ (by decide)] at h2)).2.2⟩), (fun h => ⟨(eval_put_other ac _ (by decide)).trans ((ay14 (by rwa [getD_set _ _ _ (by decide)] at h)).1), (ay14 (by rwa [getD_set _ _ _ (by decide)] at h)).2⟩)⟩)
      · have hk3 := hk
        have hnsx : ¬ listed.getD 15 false = true := fun h => not_yet hk (hdn 15 h 14 (by kernel_rfl))
        have hsm : V.heap.size - 1 < W.heap.size := (by have := hb1.size; have := Row.lt rs; omega)
        have hB : Below W.heap.size W (W.alloc (.cells zRL.toArray tRL)) := (Below.refl _ _).alloc (Nat.le_refl _) _
        exact wpOp_plain rfl rfl (wp_allocRL rfl ⟨W.heap.size, hl2 14, ((hF.world hB).put 14 25 (SP.any) (.pointer (some ⟨W.heap.size, 0, none⟩)) (by rw [hD]; rfl) trivial (by rw [hD]; rfl) (by rw [hsz]; decide) (by rw [hl]; decide)), hb1.alloc hb1.size _, Row.alloc rs _, (fun _ _ => ⟨eval_put_same ac _ (by rw [hF.size, hsz]; decide), hsm, Row.new' rfl rfl⟩), (fun h => absurd (by rwa [getD_set _ _ _ (by decide)] at h) hnsx)⟩)
      · have hk3 := hk
        obtain ⟨v', e9, hR, hA⟩ := (hF.done 12 (201, SP.ra V.heap.size e C st') (by rw [hD]; rfl) (ready_dep hk 12 (by kernel_rfl)))
        have hal := ready_dep hk 14 (by kernel_rfl)
        obtain ⟨e1, m1, y2⟩ := ax14 hal (not_yet hk)
        have T := y2.there 0 (st'.dc v').toArray.size (by rw [List.size_toArray, La.dlen HOK.out.cf, zRL_len]; decide)
        have hT : Fp D a0 listed ac (W.setCells NN 0 (st'.dc v')) := hF.turn (by rw [hD]; simp only [List.forall_mem_cons, List.not_mem_nil, false_implies, implies_true, and_true]; exact ⟨fun _ h => h, fun _ h => h, fun _ h => h, fun _ h => h, fun _ h => h, fun _ h => h, fun _ h => h, fun _ h => h, fun _ h => h, fun _ h => h, fun _ h => by obtain ⟨v1, e1, h1, h2⟩ := h; exact ⟨v1, e1, h1.set y2 (by decide) _ _, h2⟩, fun _ h => by obtain ⟨v1, e1, h1, h2⟩ := h; exact ⟨v1, e1, h1.set y2 (by decide) _ _, h2⟩, fun _ h => by obtain ⟨v1, e1, h1, h2⟩ := h; exact ⟨v1, e1, h1.set y2 (by decide) _ _, h2⟩, fun _ h => h, fun _ h => h, fun _ h => h, fun _ h => h⟩)
        exact wpOp_plain rfl rfl (wp_store_mid tRL (.tmp 25) (.tmp 201) rfl NN 0 (st'.dc v').toArray e1 e9 T (by rw [List.size_toArray]; exact La.dinfo HOK.out.cf _) hR.one ⟨NN, hl2 15, (hT.skip 15 1000 (by rw [hD]; rfl) (by rw [hl]; decide)), below_setCells hb1 (by omega) _, Row.setCells_other rs _ _ _ (by omega), (fun _ h => absurd (getD_same (by rw [hl]; decide)) h), (fun _ => ⟨e1, m1, ⟨v', y2.over (by rw [La.dlen HOK.out.cf, zRL_len]), hR.set y2 (by decide) _ _, hA⟩⟩)⟩)
      · have hk3 := hk
        exact wpOp_plain rfl rfl (wp_assign_v (ac.eval (.tmp 202)) rfl rfl ⟨NN, hl2 16, (hF.put 16 26 (SP.is (.int .i64 E)) (ac.eval (.tmp 202)) (by rw [hD]; rfl) ((hF.done 13 (202, SP.is (.int .i64 E)) (by rw [hD]; rfl) (ready_dep hk 13 (by kernel_rfl)))) (by rw [hD]; rfl) (by rw [hsz]; decide) (by rw [hl]; decide)), hb1, rs, (fun h1 h2 => ⟨(eval_put_other ac _ (by decide)).trans ((ax14 (by rwa [getD_set _ _ _ (by decide)] at h1) (by rwa [getD_set _ _ _ (by decide)] at h2)).1), (ax14 (by rwa [getD_set _ _ _ (by decide)] at h1) (by rwa [getD_set _ _ _ (by decide)] at h2)).2.1, (ax14 (by rwa [getD_set _ _ _ (by decide)] at h1) (by rwa [getD_set _ _ _ (by decide)] at h2)).2.2⟩), (fun h => ⟨(eval_put_other ac _ (by decide)).trans ((ay14 (by rwa [getD_set _ _ _ (by decide)] at h)).1), (ay14 (by rwa [getD_set _ _ _ (by decide)] at h)).2⟩)⟩)
    · clear hb1 rs 
      intro listed ac W hI hr
      obtain ⟨NN, hl, hF, hb1, rs, ax14, ay14⟩ := hI
      have hall := all_listed (by kernel_rfl) hl hr
      obtain ⟨ea25, m25, p25⟩ := ay14 (hall 15 (by decide))
      have h190 : ac.eval (.tmp 190) = .pointer (some ⟨q, 0, none⟩) := hF.done 0 (190, SP.is (.pointer (some ⟨q, 0, none⟩))) (by rw [hD]; rfl) (hall 0 (by decide))
      have h191 : ac.eval (.tmp 191) = .int .i64 (k : Int) := hF.done 1 (191, SP.is (.int .i64 (k : Int))) (by rw [hD]; rfl) (hall 1 (by decide))
      have h192 : ac.eval (.tmp 192) = .pointer (some ⟨q, 0, none⟩) := hF.done 2 (192, SP.is (.pointer (some ⟨q, 0, none⟩))) (by rw [hD]; rfl) (hall 2 (by decide))
      have h193 : ac.eval (.tmp 193) = .pointer (some ⟨q, 3, none⟩) := hF.done 3 (193, SP.is (.pointer (some ⟨q, 3, none⟩))) (by rw [hD]; rfl) (hall 3 (by decide))
      have h194 : ac.eval (.tmp 194) = .pointer (some ⟨q, 3 + k * 70, none⟩) := hF.done 4 (194, SP.is (.pointer (some ⟨q, 3 + k * 70, none⟩))) (by rw [hD]; rfl) (hall 4 (by decide))
      have h195 : ac.eval (.tmp 195) = .agg L.toArray := hF.done 5 (195, SP.is (.agg L.toArray)) (by rw [hD]; rfl) (hall 5 (by decide))
      have h196 : ac.eval (.tmp 196) = .pointer (some ⟨bS, 91, none⟩) := hF.done 6 (196, SP.is (.pointer (some ⟨bS, 91, none⟩))) (by rw [hD]; rfl) (hall 6 (by decide))
      have h197 : ac.eval (.tmp 197) = .int .i64 s.nr := hF.done 7 (197, SP.is (.int .i64 s.nr)) (by rw [hD]; rfl) (hall 7 (by decide))
      have h198 : ac.eval (.tmp 198) = .pointer (some ⟨bS, 90, none⟩) := hF.done 8 (198, SP.is (.pointer (some ⟨bS, 90, none⟩))) (by rw [hD]; rfl) (hall 8 (by decide))
      have h199 : ac.eval (.tmp 199) = .int .i64 s.now := hF.done 9 (199, SP.is (.int .i64 s.now)) (by rw [hD]; rfl) (hall 9 (by decide))
      obtain ⟨x200, h200⟩ : ∃ x, ac.eval (.tmp 200) = x := ⟨_, rfl⟩
      obtain ⟨x189, h189⟩ : ∃ x, ac.eval (.tmp 189) = x := ⟨_, rfl⟩
      obtain ⟨x201, h201⟩ : ∃ x, ac.eval (.tmp 201) = x := ⟨_, rfl⟩
      have h202 : ac.eval (.tmp 202) = .int .i64 E := hF.done 13 (202, SP.is (.int .i64 E)) (by rw [hD]; rfl) (hall 13 (by decide))
      have h26 : ac.eval (.tmp 26) = .int .i64 E := hF.done 16 (26, SP.is (.int .i64 E)) (by rw [hD]; rfl) (hall 16 (by decide))
      have ea := hF.lay [(190, .pointer (some ⟨q, 0, none⟩)), (191, .int .i64 (k : Int)), (192, .pointer (some ⟨q, 0, none⟩)), (193, .pointer (some ⟨q, 3, none⟩)), (194, .pointer (some ⟨q, 3 + k * 70, none⟩)), (195, .agg L.toArray), (196, .pointer (some ⟨bS, 91, none⟩)), (197, .int .i64 s.nr), (198, .pointer (some ⟨bS, 90, none⟩)), (199, .int .i64 s.now), (200, x200), (189, x189), (201, x201), (202, .int .i64 E), (25, .pointer (some ⟨NN, 0, none⟩)), (26, .int .i64 E)] (by rw [hD, hsz]; rfl) (by simp only [List.forall_mem_cons, List.not_mem_nil, false_implies, implies_true, and_true]; exact ⟨h190, h191, h192, h193, h194, h195, h196, h197, h198, h199, h200, h189, h201, h202, ea25, h26⟩)
      rw [ha0] at ea
      simp only [List.foldl_cons, List.foldl_nil, List.setIfInBounds_toArray, List.set_cons_zero, List.set_cons_succ] at ea
      clear hF hall hr hl hD ax14 ay14 zs0 zs1 zs5 ha0 hsz h190 h191 h192 h193 h194 h195 h196 h197 h198 h199 h200 h189 h201 h202 ea25 h26
      subst ea
      obtain ⟨e2, r28, hR2, hA2⟩ := p25
      obtain ⟨V2, hV2⟩ : ∃ V, V = W := ⟨_, rfl⟩
      rw [← hV2] at r28 hR2 hb1 ⊢
      have HP3 : Hid (Pl w0 V2 q C Ls2 Es T ts) := HPV.out.below hb1
      have HR2 : Hid (Rf V2 e2 C st') := hR2
      have HA2 : Hid (Ap V.heap.size e e2) := hA2
      have hne : NN ≠ q := by have := HPV.out.row.lt; omega
      obtain ⟨D2, hD2⟩ : ∃ M, M = st'.dc e2 := ⟨_, rfl⟩
      rw [← hD2] at r28
      have HD2 : Hid (D2 = st'.dc e2) := hD2
      have HID : Hid ((Try.prog.info? tRL).map (·.size) = some D2.length) := by show _ = _; rw [hD2]; exact La.dinfo HOK.out.cf _
      have HIJ : Hid ((Try.prog.info? tRL).map (·.size) = some D2.toArray.size) := by show _ = _; rw [List.size_toArray]; exact HID.out
      have HDO : Hid (D2.toArray.all (·.oneCell') = true) := by show _ = _; rw [hD2]; exact hR2.one
      have HDL : Hid (D2.length = 70) := by show _ = _; rw [hD2]; exact La.dlen HOK.out.cf _
      obtain ⟨PC, hPC⟩ : ∃ M, M = prc (Ls2.map (·.1)) (Es.map fun e => e.2.dc e.1) T := ⟨_, rfl⟩
      have HPC : Hid (PC = prc (Ls2.map (·.1)) (Es.map fun e => e.2.dc e.1) T) := hPC
      have rq : Row V2 q PC tPr := by rw [hPC]; exact HP3.out.row
      have HPN : Hid (3 + k * 70 + D2.toArray.size ≤ PC.length) := by show _ ≤ _; rw [List.size_toArray, HDL.out, hPC, prc_len (by rw [List.length_map]; exact HP3.out.l3) (by rw [List.length_map]; exact HP3.out.e3) HP3.out.d70]; have := HK3.out; omega
      have hqn : w0.heap.size ≤ q := HP3.out.qn
      have gQ : Gro (· = q) V2 V2 := Gro.refl _ _
      clear hb1
      have hb1 : Below w0.heap.size w0 V2 := HP3.out.be
      clear hV2 hR2 hA2 hD2 hPC rs hbV HRR HRD HPV
      go_upto_region 23 with fail
      refine wp_named fun a0 ha0 => ?_
      have hsz : a0.tmps.size = 244 := by rw [ha0]; rfl
      have zs0 : a0.eval (.tmp 0) = .pointer (some ⟨q, 0, none⟩) := by rw [ha0]; rfl
      have zs1 : a0.eval (.tmp 1) = .int .i64 (k : Int) := by rw [ha0]; rfl
      have zs25 : a0.eval (.tmp 25) = .pointer (some ⟨NN, 0, none⟩) := by rw [ha0]; rfl
      obtain ⟨D, hD⟩ : ∃ D : List (Tmp × SP), D = [(203, SP.is (.pointer (some ⟨q, 0, none⟩))), (204, SP.is (.int .i64 (k : Int))), (205, SP.is (.agg D2.toArray)), (206, SP.is (.pointer (some ⟨q, 0, none⟩))), (207, SP.is (.pointer (some ⟨q, 3, none⟩))), (208, SP.is (.pointer (some ⟨q, 3 + k * 70, none⟩))), (1000, SP.any)] := ⟨_, rfl⟩
      refine wp_region_down (by kernel_rfl) (fun listed ac W => listed.size = 7 ∧ Fp D a0 listed ac W ∧ Below w0.heap.size w0 W ∧ Row W q (if listed.getD 6 false = true then (PC.take (3 + k * 70) ++ D2 ++ PC.drop (3 + k * 70 + D2.length)) else PC) tPr ∧ Row W NN D2 tRL ∧ Gro (· = q) V2 W) ?_ ?_ ?_
      · exact ⟨by simp, Fp.start D a0 _ _, Below.drew hb1, (by rw [if_neg (fun h => start_no h)]; exact Row.drew rq), Row.drew r28, gQ.below (Below.drew (Below.refl _ _))⟩
      · clear ha0 hb1 rq r28 gQ 
        intro listed ac W k hI hdn hk
        obtain ⟨hl, hF, hb1, rq, r28, gQ⟩ := hI
        have hk1 : k < 7 := List.mem_range.1 (List.mem_filter.1 hk).1
        have hl2 : ∀ j, (listed.setIfInBounds j true).size = 7 := fun j => by rw [Array.size_setIfInBounds]; exact hl
        rcases (show k = 0 ∨ k = 1 ∨ k = 2 ∨ k = 3 ∨ k = 4 ∨ k = 5 ∨ k = 6 by omega) with rfl | rfl | rfl | rfl | rfl | rfl | rfl
        · have hk3 := hk
          exact wpOp_plain rfl rfl (wp_move_v (ac.eval (.tmp 0)) rfl rfl ⟨hl2 0, (hF.put 0 203 (SP.is (.pointer (some ⟨q, 0, none⟩))) (ac.eval (.tmp 0)) (by rw [hD]; rfl) (((hF.keep 0 (by rw [hD]; rfl)).trans zs0)) (by rw [hD]; rfl) (by rw [hsz]; decide) (by rw [hl]; decide)), hb1, (by rw [getD_set _ _ _ (by decide)]; exact rq), r28, gQ⟩)
        · have hk3 := hk
          exact wpOp_plain rfl rfl (wp_move_v (ac.eval (.tmp 1)) rfl rfl ⟨hl2 1, (hF.put 1 204 (SP.is (.int .i64 (k : Int))) (ac.eval (.tmp 1)) (by rw [hD]; rfl) (((hF.keep 1 (by rw [hD]; rfl)).trans zs1)) (by rw [hD]; rfl) (by rw [hsz]; decide) (by rw [hl]; decide)), hb1, (by rw [getD_set _ _ _ (by decide)]; exact rq), r28, gQ⟩)
        · have hk3 := hk
          exact wpOp_plain rfl rfl (wp_load_mid tRL (.tmp 25) rfl NN 0 ((hF.keep 25 (by rw [hD]; rfl)).trans zs25) D2 _ r28.all Try.underlying44 rfl HID.out ⟨hl2 2, (hF.put 2 205 (SP.is (.agg D2.toArray)) (.agg D2.toArray) (by rw [hD]; rfl) rfl (by rw [hD]; rfl) (by rw [hsz]; decide) (by rw [hl]; decide)), hb1, (by rw [getD_set _ _ _ (by decide)]; exact rq), r28, gQ⟩)
        · have hk3 := hk
          have ea := (hF.done 0 (203, SP.is (.pointer (some ⟨q, 0, none⟩))) (by rw [hD]; rfl) (ready_dep hk 0 (by kernel_rfl)))
          exact wpOp_plain rfl rfl (wp_nilL rfl q ea ⟨hl2 3, (hF.put 3 206 (SP.is (.pointer (some ⟨q, 0, none⟩))) (.pointer (some ⟨q, 0, none⟩)) (by rw [hD]; rfl) rfl (by rw [hD]; rfl) (by rw [hsz]; decide) (by rw [hl]; decide)), hb1, (by rw [getD_set _ _ _ (by decide)]; exact rq), r28, gQ⟩)
        · have hk3 := hk
          have ea := (hF.done 3 (206, SP.is (.pointer (some ⟨q, 0, none⟩))) (by rw [hD]; rfl) (ready_dep hk 3 (by kernel_rfl)))
          exact wpOp_plain rfl rfl (wp_fPr1 rfl q ea ⟨hl2 4, (hF.put 4 207 (SP.is (.pointer (some ⟨q, 3, none⟩))) (.pointer (some ⟨q, 3, none⟩)) (by rw [hD]; rfl) rfl (by rw [hD]; rfl) (by rw [hsz]; decide) (by rw [hl]; decide)), hb1, (by rw [getD_set _ _ _ (by decide)]; exact rq), r28, gQ⟩)
        · have hk3 := hk
          have ea := (hF.done 4 (207, SP.is (.pointer (some ⟨q, 3, none⟩))) (by rw [hD]; rfl) (ready_dep hk 4 (by kernel_rfl)))
          have eb := (hF.done 1 (204, SP.is (.int .i64 (k : Int))) (by rw [hD]; rfl) (ready_dep hk 1 (by kernel_rfl)))
          exact wpOp_plain rfl rfl (wp_ixO tR3 tRL rfl q 3 k 70 3 (3 + k * 70) ea eb HK3.out und_R3 info_RL rfl ⟨hl2 5, (hF.put 5 208 (SP.is (.pointer (some ⟨q, 3 + k * 70, none⟩))) (.pointer (some ⟨q, 3 + k * 70, none⟩)) (by rw [hD]; rfl) rfl (by rw [hD]; rfl) (by rw [hsz]; decide) (by rw [hl]; decide)), hb1, (by rw [getD_set _ _ _ (by decide)]; exact rq), r28, gQ⟩)
        · have hk3 := hk
          have hno : ¬ listed.getD 6 false = true := not_yet hk
          rw [if_neg hno] at rq
          have T := rq.there (3 + k * 70) D2.toArray.size HPN.out
          have fin := Row.setCells (3 + k * 70) D2 rq (by have := HPN.out; rwa [List.size_toArray] at this)
          have hT : Fp D a0 listed ac (W.setCells q (3 + k * 70) D2) := hF.turn (by rw [hD]; simp only [List.forall_mem_cons, List.not_mem_nil, false_implies, implies_true, and_true]; exact ⟨fun _ h => h, fun _ h => h, fun _ h => h, fun _ h => h, fun _ h => h, fun _ h => h, fun _ h => h⟩)
          exact wpOp_plain rfl rfl (wp_store_mid tRL (.tmp 208) (.tmp 205) rfl q (3 + k * 70) D2.toArray (hF.done 5 (208, SP.is (.pointer (some ⟨q, 3 + k * 70, none⟩))) (by rw [hD]; rfl) (ready_dep hk 5 (by kernel_rfl))) (hF.done 2 (205, SP.is (.agg D2.toArray)) (by rw [hD]; rfl) (ready_dep hk 2 (by kernel_rfl))) T HIJ.out HDO.out ⟨hl2 6, (hT.skip 6 1000 (by rw [hD]; rfl) (by rw [hl]; decide)), below_setCells hb1 (by omega) _, (by rw [if_pos (getD_same (by rw [hl]; decide))]; exact fin), Row.setCells_other r28 _ _ _ (by omega), gQ.trans (gro_setsL W q (3 + k * 70) D2)⟩)
      · clear hb1 rq r28 gQ 
        intro listed ac W hI hr
        obtain ⟨hl, hF, hb1, rq, r28, gQ⟩ := hI
        have hall := all_listed (by kernel_rfl) hl hr
        rw [if_pos (hall 6 (by decide))] at rq
        have h203 : ac.eval (.tmp 203) = .pointer (some ⟨q, 0, none⟩) := hF.done 0 (203, SP.is (.pointer (some ⟨q, 0, none⟩))) (by rw [hD]; rfl) (hall 0 (by decide))
        have h204 : ac.eval (.tmp 204) = .int .i64 (k : Int) := hF.done 1 (204, SP.is (.int .i64 (k : Int))) (by rw [hD]; rfl) (hall 1 (by decide))
        have h205 : ac.eval (.tmp 205) = .agg D2.toArray := hF.done 2 (205, SP.is (.agg D2.toArray)) (by rw [hD]; rfl) (hall 2 (by decide))
        have h206 : ac.eval (.tmp 206) = .pointer (some ⟨q, 0, none⟩) := hF.done 3 (206, SP.is (.pointer (some ⟨q, 0, none⟩))) (by rw [hD]; rfl) (hall 3 (by decide))
        have h207 : ac.eval (.tmp 207) = .pointer (some ⟨q, 3, none⟩) := hF.done 4 (207, SP.is (.pointer (some ⟨q, 3, none⟩))) (by rw [hD]; rfl) (hall 4 (by decide))
        have h208 : ac.eval (.tmp 208) = .pointer (some ⟨q, 3 + k * 70, none⟩) := hF.done 5 (208, SP.is (.pointer (some ⟨q, 3 + k * 70, none⟩))) (by rw [hD]; rfl) (hall 5 (by decide))
        have ea := hF.lay [(203, .pointer (some ⟨q, 0, none⟩)), (204, .int .i64 (k : Int)), (205, .agg D2.toArray), (206, .pointer (some ⟨q, 0, none⟩)), (207, .pointer (some ⟨q, 3, none⟩)), (208, .pointer (some ⟨q, 3 + k * 70, none⟩))] (by rw [hD, hsz]; rfl) (by simp only [List.forall_mem_cons, List.not_mem_nil, false_implies, implies_true, and_true]; exact ⟨h203, h204, h205, h206, h207, h208⟩)
        rw [ha0] at ea
        simp only [List.foldl_cons, List.foldl_nil, List.setIfInBounds_toArray, List.set_cons_zero, List.set_cons_succ] at ea
        clear hF hall hr hl hD  zs0 zs1 zs25 ha0 hsz h203 h204 h205 h206 h207 h208
        subst ea
        have FP : Hid (Pl w0 W q C Ls2 (Es.set k (e2, st')) T ts) := HP3.out.setE HK3.out HR2.out (fun g eg l hl => by
          rcases HA2.out g eg with z | z
          · exact HP3.out.ra (e, st) (List.mem_of_getElem? HEK.out) g z l hl
          · intro tb
            have := (HPVL.out l hl).lt g tb
            omega) (by rw [HPC.out, HD2.out] at rq; exact rq) gQ
        clear rq r28 gQ hb1
        go_wp2_with fail
        go_ret
        exact ⟨by simp, v1, e2, st', by rw [← HL2.out]; exact FP.out⟩

end Go.Proofs.Ytfdbjcdcfmnicaa
