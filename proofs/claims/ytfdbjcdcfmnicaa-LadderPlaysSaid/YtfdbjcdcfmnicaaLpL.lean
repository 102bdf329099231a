/-
  LadderPlays: turn at Post.
-/
import Derived.Test.YtfdbjcdcfmnicaaLpM
namespace Go.Proofs.Ytfdbjcdcfmnicaa
open Go Go.RowKit
open Sha

set_option maxRecDepth 100000 in
set_option maxHeartbeats 16000000 in
theorem turn_post {w0 w : World} {q : Nat} {B : Int} {Ls : List (Nat × Value × La)} {Es : List (Value × La)} {T : Value} {ts : List (Value × Nat)} (h : Pl w0 w q B Ls Es T ts) (hB0 : 0 ≤ B) (hB2 : B < 4611686018427387900) {k p : Nat} {v e : Value} {st : La} (hk : Ls[k]? = some (p, v, st)) (he : Es[k]? = some (e, st)) (s : Sp16) (hs : s.Ok) (hkd : s.kd = 1) (S : List Value) (hS : S = s.cells) :
    Calls Try.prog 17 #[.pointer (some ⟨q, 0, none⟩), .int .i64 (k : Int), .agg S.toArray] w fun r w' => r = .returned (.bool true) ∧ ∃ v' e' st', Pl w0 w' q (B + 1) (Ls.set k (p, v', st')) (Es.set k (e', st')) T ts := by
  obtain ⟨st', N, E, hr⟩ : ∃ st' N E, st.post s.c s.ad s.ib s.now = (st', N, E) := ⟨_, _, _, rfl⟩
  have hk3 : k < 3 := by have := (List.getElem?_eq_some_iff.1 hk).1; rw [h.l3] at this; exact this
  have HK3 : Hid (k < 3) := hk3
  have HPL : Hid (Pl w0 w q B Ls Es T ts) := h
  have HLK : Hid (Ls[k]? = some (p, v, st)) := hk
  have HEK : Hid (Es[k]? = some (e, st)) := he
  obtain ⟨C, hC⟩ : ∃ C, C = B + 1 := ⟨_, rfl⟩
  have HBC : Hid (B ≤ C) := by show _ ≤ _; omega
  obtain ⟨Lc, hLc⟩ : ∃ M, M = s.c.cells := ⟨_, rfl⟩
  have HIC : Hid ((Try.prog.info? tC).map (·.size) = some Lc.length) := by show _ = _; rw [hLc]; exact Cm.info hs.c
  have HIA : Hid ((Try.prog.info? tAd).map (·.size) = some (vB s.ad).length) := by show _ = _; rw [vB_length, hs.a]; exact info_A
  have HRC : Hid (∀ (j : Nat) (u : Value), Lc[j]? = some u → S[3 + j]? = some u) := fun j u hj => by rw [hS]; rw [hLc] at hj; exact Sp16.c_range s j u hj
  have HRA : Hid (∀ (j : Nat) (u : Value), (vB s.ad)[j]? = some u → S[69 + j]? = some u) := fun j u hj => by rw [hS]; exact Sp16.a_range hs j u hj
  have HIB : Hid (S[89]? = some (.int .i64 s.ib)) := by rw [hS]; exact Sp16.at_ib hs
  have HNW : Hid (S[90]? = some (.int .i64 s.now)) := by rw [hS]; exact Sp16.at_now hs
  have HKD : Hid (S[0]? = some (.int .i64 1)) := by rw [hS, ← hkd]; exact Sp16.at_kd s
  have HCP : Hid (∀ W, Pl w0 W q B Ls Es T ts → W.cell? ⟨q, k, none⟩ = some (.pointer (some ⟨p, 0, none⟩))) := fun W hP => hP.row.cell k _ (prc_p (by rw [List.getElem?_map, hk]; rfl))
  have HRL : Hid (∀ W, Pl w0 W q B Ls Es T ts → Calls Try.prog 23 #[.pointer (some ⟨p, 0, none⟩), .agg Lc.toArray, .agg (vB s.ad).toArray, .int .i64 s.ib, .int .i64 s.now] W fun e w' => e = .returned (.tuple #[.int .i64 N, .int .i64 E]) ∧ Tn W w' p v C st') := fun W hP => by rw [hC]; exact post_any (hP.lad hk) hB0 (by omega) s.c hs.c s.ad hs.a s.ib s.now Lc hLc st' N E hr
  obtain ⟨L, hL⟩ : ∃ L, L = st.dc e := ⟨_, rfl⟩
  have HIL : Hid ((Try.prog.info? tRL).map (·.size) = some L.length) := by show _ = _; rw [hL]; exact La.dinfo (h.rf _ (List.mem_of_getElem? he)).ok.cf _
  have HRD0 : Hid (∀ W C Ls2, Pl w0 W q C Ls2 Es T ts → W.rangeAt q (3 + k * 70) L) := fun W C Ls2 hP => hP.row.range (3 + k * 70) _ (fun j u hj => prc_d (by rw [List.length_map]; exact hP.l3) hP.d70 (by rw [List.getElem?_map, he]; rfl) j u (by rw [hL] at hj; exact hj))
  have HRR0 : Hid (∀ W Ls2, st'.Ok C → Pl w0 W q C Ls2 Es T ts → Calls Try.prog 56 #[.agg L.toArray, .agg Lc.toArray, .agg (vB s.ad).toArray, .int .i64 s.ib, .int .i64 s.now] W fun r w' => ∃ v', r = .returned (.tuple #[.agg (st'.dc v').toArray, .int .i64 N, .int .i64 E]) ∧ Rf w' v' C st' ∧ Nv W e v' ∧ Below W.heap.size W w') := fun W Ls2 hOK hP => (rpost_any (hP.rf _ (List.mem_of_getElem? he)) (by omega) (by omega) s.c hs.c s.ad hs.a s.ib s.now L Lc hL hLc st' N E hr).mono (fun r w' ⟨v', h1, h2, h3, h4⟩ => ⟨v', h1, ⟨h2.own, hOK⟩, h3, h4⟩)
  rw [← hC]
  clear h hk he hs hkd hS hr hk3 hL hB2 hC hB0 hLc
  go_enter Try.func17, Try.ntmps17
  go_upto_region 3 with (refine wpList_bxG tSt rfl (.tmp 2) rfl S rfl ?_; intro X1 q1 q2 q3; clear q3; have ck : X1.cell? ⟨w.heap.size, 0, none⟩ = some (.int .i64 1) := q1.cell 0 _ HKD.out; have RS : Hid (Row X1 w.heap.size S tSt) := q1; have HP1 : Hid (Pl w0 X1 q B Ls Es T ts) := HPL.out.below q2; clear q1 q2; simp only [Act.put, List.setIfInBounds_toArray, List.set_cons_zero, List.set_cons_succ])
  obtain ⟨bS, hbS⟩ : ∃ b, b = w.heap.size := ⟨_, rfl⟩
  rw [← hbS] at RS ⊢
  clear hbS ck HPL
  have hP := HP1.out
  have rs := RS.out
  have hb1 := Below.refl X1.heap.size X1
  clear HP1 RS
  refine wp_named fun a0 ha0 => ?_
  have hsz : a0.tmps.size = 244 := by rw [ha0]; rfl
  have zs0 : a0.eval (.tmp 0) = .pointer (some ⟨q, 0, none⟩) := by rw [ha0]; rfl
  have zs1 : a0.eval (.tmp 1) = .int .i64 (k : Int) := by rw [ha0]; rfl
  have zs5 : a0.eval (.tmp 5) = .pointer (some ⟨bS, 0, none⟩) := by rw [ha0]; rfl
  obtain ⟨D, hD⟩ : ∃ D : List (Tmp × SP), D = [(35, SP.is (.pointer (some ⟨q, 0, none⟩))), (36, SP.is (.int .i64 (k : Int))), (37, SP.is (.pointer (some ⟨q, 0, none⟩))), (38, SP.is (.pointer (some ⟨q, 0, none⟩))), (39, SP.is (.pointer (some ⟨q, k, none⟩))), (40, SP.is (.pointer (some ⟨p, 0, none⟩))), (41, SP.is (.pointer (some ⟨bS, 3, none⟩))), (42, SP.is (.agg Lc.toArray)), (43, SP.is (.pointer (some ⟨bS, 69, none⟩))), (44, SP.is (.agg (vB s.ad).toArray)), (45, SP.is (.pointer (some ⟨bS, 89, none⟩))), (46, SP.is (.int .i64 s.ib)), (47, SP.is (.pointer (some ⟨bS, 90, none⟩))), (48, SP.is (.int .i64 s.now)), (49, SP.is (.tuple #[.int .i64 N, .int .i64 E])), (34, SP.is (.tuple #[.int .i64 N, .int .i64 E])), (50, SP.is (.int .i64 N)), (51, SP.is (.int .i64 E)), (7, SP.is (.int .i64 N)), (8, SP.is (.int .i64 E))] := ⟨_, rfl⟩
  refine wp_region_then (by kernel_rfl) 14 (by decide) (by kernel_rfl) (fun listed ac W => Fp D a0 listed ac W ∧ Below X1.heap.size X1 W ∧ Row W bS S tSt ∧ Pl w0 W q B Ls Es T ts) (fun listed ac W => Fp D a0 listed ac W ∧ (∃ v1, Pl w0 W q C (Ls.set k (p, v1, st')) Es T ts) ∧ Row W bS S tSt) ?_ ?_ ?_ ?_ ?_
  · exact ⟨Fp.start D a0 _ _, Below.drew hb1, Row.drew rs, hP.below (Below.drew (Below.refl _ _))⟩
  · clear ha0 hb1 rs hP
    intro listed ac W k hl hI hdn hk hne hnl
    replace hl : listed.size = 20 := hl
    obtain ⟨hF, hb1, rs, hP⟩ := hI
    have hk1 : k < 20 := List.mem_range.1 (List.mem_filter.1 hk).1
    rcases (show k = 0 ∨ k = 1 ∨ k = 2 ∨ k = 3 ∨ k = 4 ∨ k = 5 ∨ k = 6 ∨ k = 7 ∨ k = 8 ∨ k = 9 ∨ k = 10 ∨ k = 11 ∨ k = 12 ∨ k = 13 ∨ k = 14 ∨ k = 15 ∨ k = 16 ∨ k = 17 ∨ k = 18 ∨ k = 19 by omega) with rfl | rfl | rfl | rfl | rfl | rfl | rfl | rfl | rfl | rfl | rfl | rfl | rfl | rfl | rfl | rfl | rfl | rfl | rfl | rfl
    · have hk3 := hk
      exact wpOp_plain rfl rfl (wp_move_v (ac.eval (.tmp 0)) rfl rfl ⟨(hF.put 0 35 (SP.is (.pointer (some ⟨q, 0, none⟩))) (ac.eval (.tmp 0)) (by rw [hD]; rfl) (((hF.keep 0 (by rw [hD]; rfl)).trans zs0)) (by rw [hD]; rfl) (by rw [hsz]; decide) (by rw [hl]; decide)), hb1, rs, hP⟩)
    · have hk3 := hk
      exact wpOp_plain rfl rfl (wp_move_v (ac.eval (.tmp 1)) rfl rfl ⟨(hF.put 1 36 (SP.is (.int .i64 (k : Int))) (ac.eval (.tmp 1)) (by rw [hD]; rfl) (((hF.keep 1 (by rw [hD]; rfl)).trans zs1)) (by rw [hD]; rfl) (by rw [hsz]; decide) (by rw [hl]; decide)), hb1, rs, hP⟩)
    · have hk3 := hk
      have ea := (hF.done 0 (35, SP.is (.pointer (some ⟨q, 0, none⟩))) (by rw [hD]; rfl) (ready_dep hk 0 (by kernel_rfl)))
      exact wpOp_plain rfl rfl (wp_nilL rfl q ea ⟨(hF.put 2 37 (SP.is (.pointer (some ⟨q, 0, none⟩))) (.pointer (some ⟨q, 0, none⟩)) (by rw [hD]; rfl) rfl (by rw [hD]; rfl) (by rw [hsz]; decide) (by rw [hl]; decide)), hb1, rs, hP⟩)
    · have hk3 := hk
      have ea := (hF.done 2 (37, SP.is (.pointer (some ⟨q, 0, none⟩))) (by rw [hD]; rfl) (ready_dep hk 2 (by kernel_rfl)))
      exact wpOp_plain rfl rfl (wp_fPr0 rfl q ea ⟨(hF.put 3 38 (SP.is (.pointer (some ⟨q, 0, none⟩))) (.pointer (some ⟨q, 0, none⟩)) (by rw [hD]; rfl) rfl (by rw [hD]; rfl) (by rw [hsz]; decide) (by rw [hl]; decide)), hb1, rs, hP⟩)
    · have hk3 := hk
      have ea := (hF.done 3 (38, SP.is (.pointer (some ⟨q, 0, none⟩))) (by rw [hD]; rfl) (ready_dep hk 3 (by kernel_rfl)))
      have eb := (hF.done 1 (36, SP.is (.int .i64 (k : Int))) (by rw [hD]; rfl) (ready_dep hk 1 (by kernel_rfl)))
      exact wpOp_plain rfl rfl (wp_ixO tL3 tLp rfl q 3 k 1 0 k ea eb HK3.out und_L3 info_Lp (by omega) ⟨(hF.put 4 39 (SP.is (.pointer (some ⟨q, k, none⟩))) (.pointer (some ⟨q, k, none⟩)) (by rw [hD]; rfl) rfl (by rw [hD]; rfl) (by rw [hsz]; decide) (by rw [hl]; decide)), hb1, rs, hP⟩)
    · have hk3 := hk
      have ea := (hF.done 4 (39, SP.is (.pointer (some ⟨q, k, none⟩))) (by rw [hD]; rfl) (ready_dep hk 4 (by kernel_rfl)))
      exact wpOp_plain rfl rfl (wp_ld1 q k (.pointer (some ⟨p, 0, none⟩)) rfl ea (ld_Lp W q k _ (HCP.out W (hP))) ⟨(hF.put 5 40 (SP.is (.pointer (some ⟨p, 0, none⟩))) (.pointer (some ⟨p, 0, none⟩)) (by rw [hD]; rfl) rfl (by rw [hD]; rfl) (by rw [hsz]; decide) (by rw [hl]; decide)), hb1, rs, hP⟩)
    · have hk3 := hk
      have ea := ((hF.keep 5 (by rw [hD]; rfl)).trans zs5)
      exact wpOp_plain rfl rfl (wp_fSt3 rfl bS ea ⟨(hF.put 6 41 (SP.is (.pointer (some ⟨bS, 3, none⟩))) (.pointer (some ⟨bS, 3, none⟩)) (by rw [hD]; rfl) rfl (by rw [hD]; rfl) (by rw [hsz]; decide) (by rw [hl]; decide)), hb1, rs, hP⟩)
    · have hk3 := hk
      have ea := (hF.done 6 (41, SP.is (.pointer (some ⟨bS, 3, none⟩))) (by rw [hD]; rfl) (ready_dep hk 6 (by kernel_rfl)))
      exact wpOp_plain rfl rfl (wp_load_mid tC (.tmp 41) rfl bS 3 ea Lc _ (rs.range 3 _ HRC.out) Try.underlying25 rfl HIC.out ⟨(hF.put 7 42 (SP.is (.agg Lc.toArray)) (.agg Lc.toArray) (by rw [hD]; rfl) rfl (by rw [hD]; rfl) (by rw [hsz]; decide) (by rw [hl]; decide)), hb1, rs, hP⟩)
    · have hk3 := hk
      have ea := ((hF.keep 5 (by rw [hD]; rfl)).trans zs5)
      exact wpOp_plain rfl rfl (wp_fSt4 rfl bS ea ⟨(hF.put 8 43 (SP.is (.pointer (some ⟨bS, 69, none⟩))) (.pointer (some ⟨bS, 69, none⟩)) (by rw [hD]; rfl) rfl (by rw [hD]; rfl) (by rw [hsz]; decide) (by rw [hl]; decide)), hb1, rs, hP⟩)
    · have hk3 := hk
      have ea := (hF.done 8 (43, SP.is (.pointer (some ⟨bS, 69, none⟩))) (by rw [hD]; rfl) (ready_dep hk 8 (by kernel_rfl)))
      exact wpOp_plain rfl rfl (wp_load_mid tAd (.tmp 43) rfl bS 69 ea (vB s.ad) _ (rs.range 69 _ HRA.out) Try.underlying51 rfl HIA.out ⟨(hF.put 9 44 (SP.is (.agg (vB s.ad).toArray)) (.agg (vB s.ad).toArray) (by rw [hD]; rfl) rfl (by rw [hD]; rfl) (by rw [hsz]; decide) (by rw [hl]; decide)), hb1, rs, hP⟩)
    · have hk3 := hk
      have ea := ((hF.keep 5 (by rw [hD]; rfl)).trans zs5)
      exact wpOp_plain rfl rfl (wp_fSt5 rfl bS ea ⟨(hF.put 10 45 (SP.is (.pointer (some ⟨bS, 89, none⟩))) (.pointer (some ⟨bS, 89, none⟩)) (by rw [hD]; rfl) rfl (by rw [hD]; rfl) (by rw [hsz]; decide) (by rw [hl]; decide)), hb1, rs, hP⟩)
    · have hk3 := hk
      have ea := (hF.done 10 (45, SP.is (.pointer (some ⟨bS, 89, none⟩))) (by rw [hD]; rfl) (ready_dep hk 10 (by kernel_rfl)))
      exact wpOp_plain rfl rfl (wp_ld1 bS 89 (.int .i64 s.ib) rfl ea (ld_int W bS 89 _ (rs.cell 89 _ HIB.out)) ⟨(hF.put 11 46 (SP.is (.int .i64 s.ib)) (.int .i64 s.ib) (by rw [hD]; rfl) rfl (by rw [hD]; rfl) (by rw [hsz]; decide) (by rw [hl]; decide)), hb1, rs, hP⟩)
    · have hk3 := hk
      have ea := ((hF.keep 5 (by rw [hD]; rfl)).trans zs5)
      exact wpOp_plain rfl rfl (wp_fSt6 rfl bS ea ⟨(hF.put 12 47 (SP.is (.pointer (some ⟨bS, 90, none⟩))) (.pointer (some ⟨bS, 90, none⟩)) (by rw [hD]; rfl) rfl (by rw [hD]; rfl) (by rw [hsz]; decide) (by rw [hl]; decide)), hb1, rs, hP⟩)
    · have hk3 := hk
      have ea := (hF.done 12 (47, SP.is (.pointer (some ⟨bS, 90, none⟩))) (by rw [hD]; rfl) (ready_dep hk 12 (by kernel_rfl)))
      exact wpOp_plain rfl rfl (wp_ld1 bS 90 (.int .i64 s.now) rfl ea (ld_int W bS 90 _ (rs.cell 90 _ HNW.out)) ⟨(hF.put 13 48 (SP.is (.int .i64 s.now)) (.int .i64 s.now) (by rw [hD]; rfl) rfl (by rw [hD]; rfl) (by rw [hsz]; decide) (by rw [hl]; decide)), hb1, rs, hP⟩)
    · exact absurd rfl hne
    · exact absurd (ready_dep hk 14 (by kernel_rfl)) hnl
    · exact absurd (hdn 15 (ready_dep hk 15 (by kernel_rfl)) 14 (by kernel_rfl)) hnl
    · exact absurd (hdn 15 (ready_dep hk 15 (by kernel_rfl)) 14 (by kernel_rfl)) hnl
    · exact absurd (hdn 15 (hdn 16 (ready_dep hk 16 (by kernel_rfl)) 15 (by kernel_rfl)) 14 (by kernel_rfl)) hnl
    · exact absurd (hdn 15 (hdn 17 (ready_dep hk 17 (by kernel_rfl)) 15 (by kernel_rfl)) 14 (by kernel_rfl)) hnl
  · clear ha0 hb1 rs hP
    intro listed ac W hl hI hdn hk
    replace hl : listed.size = 20 := hl
    obtain ⟨hF, hb1, rs, hP⟩ := hI
    have e40 := (hF.done 5 (40, SP.is (.pointer (some ⟨p, 0, none⟩))) (by rw [hD]; rfl) (ready_dep hk 5 (by kernel_rfl)))
    have e42 := (hF.done 7 (42, SP.is (.agg Lc.toArray)) (by rw [hD]; rfl) (ready_dep hk 7 (by kernel_rfl)))
    have e44 := (hF.done 9 (44, SP.is (.agg (vB s.ad).toArray)) (by rw [hD]; rfl) (ready_dep hk 9 (by kernel_rfl)))
    have e46 := (hF.done 11 (46, SP.is (.int .i64 s.ib)) (by rw [hD]; rfl) (ready_dep hk 11 (by kernel_rfl)))
    have e48 := (hF.done 13 (48, SP.is (.int .i64 s.now)) (by rw [hD]; rfl) (ready_dep hk 13 (by kernel_rfl)))
    refine wpOp_plain rfl rfl (wp_fcall_v 23 #[.pointer (some ⟨p, 0, none⟩), .agg Lc.toArray, .agg (vB s.ad).toArray, .int .i64 s.ib, .int .i64 s.now] rfl rfl (by show [ac.eval (.tmp 40), ac.eval (.tmp 42), ac.eval (.tmp 44), ac.eval (.tmp 46), ac.eval (.tmp 48)] = _; rw [show ac.eval (.tmp 40) = _ from e40, show ac.eval (.tmp 42) = _ from e42, show ac.eval (.tmp 44) = _ from e44, show ac.eval (.tmp 46) = _ from e46, show ac.eval (.tmp 48) = _ from e48]) (by go_simp) ((HRL.out W hP).mono ?_))
    rintro e W2 ⟨rfl, hT2⟩
    have hT : Fp D a0 listed ac W2 := hF.turn (by rw [hD]; simp only [List.forall_mem_cons, List.not_mem_nil, false_implies, implies_true, and_true]; exact ⟨fun _ h => h, fun _ h => h, fun _ h => h, fun _ h => h, fun _ h => h, fun _ h => h, fun _ h => h, fun _ h => h, fun _ h => h, fun _ h => h, fun _ h => h, fun _ h => h, fun _ h => h, fun _ h => h, fun _ h => h, fun _ h => h, fun _ h => h, fun _ h => h, fun _ h => h, fun _ h => h⟩)
    exact ⟨_, rfl, (hT.put 14 49 (SP.is (.tuple #[.int .i64 N, .int .i64 E])) _ (by rw [hD]; rfl) rfl (by rw [hD]; rfl) (by rw [hsz]; decide) (by rw [hl]; decide)), (hP.turn HLK.out HBC.out hT2), (tn_row hP (List.mem_of_getElem? HLK.out) hT2 rs (by decide) (by decide))⟩
  · clear ha0 hb1 rs hP
    intro listed ac W k hl hJ hdn hk hne hyl
    replace hl : listed.size = 20 := hl
    obtain ⟨hF, hT, rs⟩ := hJ
    have hk1 : k < 20 := List.mem_range.1 (List.mem_filter.1 hk).1
    rcases (show k = 0 ∨ k = 1 ∨ k = 2 ∨ k = 3 ∨ k = 4 ∨ k = 5 ∨ k = 6 ∨ k = 7 ∨ k = 8 ∨ k = 9 ∨ k = 10 ∨ k = 11 ∨ k = 12 ∨ k = 13 ∨ k = 14 ∨ k = 15 ∨ k = 16 ∨ k = 17 ∨ k = 18 ∨ k = 19 by omega) with rfl | rfl | rfl | rfl | rfl | rfl | rfl | rfl | rfl | rfl | rfl | rfl | rfl | rfl | rfl | rfl | rfl | rfl | rfl | rfl
    · exact absurd (hdn 2 (hdn 3 (hdn 4 (hdn 5 (hdn 14 hyl 5 (by kernel_rfl)) 4 (by kernel_rfl)) 3 (by kernel_rfl)) 2 (by kernel_rfl)) 0 (by kernel_rfl)) (not_yet hk)
    · exact absurd (hdn 4 (hdn 5 (hdn 14 hyl 5 (by kernel_rfl)) 4 (by kernel_rfl)) 1 (by kernel_rfl)) (not_yet hk)
    · exact absurd (hdn 3 (hdn 4 (hdn 5 (hdn 14 hyl 5 (by kernel_rfl)) 4 (by kernel_rfl)) 3 (by kernel_rfl)) 2 (by kernel_rfl)) (not_yet hk)
    · exact absurd (hdn 4 (hdn 5 (hdn 14 hyl 5 (by kernel_rfl)) 4 (by kernel_rfl)) 3 (by kernel_rfl)) (not_yet hk)
    · exact absurd (hdn 5 (hdn 14 hyl 5 (by kernel_rfl)) 4 (by kernel_rfl)) (not_yet hk)
    · exact absurd (hdn 14 hyl 5 (by kernel_rfl)) (not_yet hk)
    · exact absurd (hdn 7 (hdn 14 hyl 7 (by kernel_rfl)) 6 (by kernel_rfl)) (not_yet hk)
    · exact absurd (hdn 14 hyl 7 (by kernel_rfl)) (not_yet hk)
    · exact absurd (hdn 9 (hdn 14 hyl 9 (by kernel_rfl)) 8 (by kernel_rfl)) (not_yet hk)
    · exact absurd (hdn 14 hyl 9 (by kernel_rfl)) (not_yet hk)
    · exact absurd (hdn 11 (hdn 14 hyl 11 (by kernel_rfl)) 10 (by kernel_rfl)) (not_yet hk)
    · exact absurd (hdn 14 hyl 11 (by kernel_rfl)) (not_yet hk)
    · exact absurd (hdn 13 (hdn 14 hyl 13 (by kernel_rfl)) 12 (by kernel_rfl)) (not_yet hk)
    · exact absurd (hdn 14 hyl 13 (by kernel_rfl)) (not_yet hk)
    · exact absurd rfl hne
    · exact wpOp_plain rfl rfl (wp_move_v (ac.eval (.tmp 49)) rfl rfl ⟨(hF.put 15 34 (SP.is (.tuple #[.int .i64 N, .int .i64 E])) _ (by rw [hD]; rfl) (hF.done 14 (49, SP.is (.tuple #[.int .i64 N, .int .i64 E])) (by rw [hD]; rfl) (ready_dep hk 14 (by kernel_rfl))) (by rw [hD]; rfl) (by rw [hsz]; decide) (by rw [hl]; decide)), hT, rs⟩)
    · exact wpOp_plain rfl rfl (wp_extract (.tmp 34) 0 rfl _ (hF.done 15 (34, SP.is (.tuple #[.int .i64 N, .int .i64 E])) (by rw [hD]; rfl) (ready_dep hk 15 (by kernel_rfl))) _ rfl ⟨(hF.put 16 50 (SP.is (.int .i64 N)) _ (by rw [hD]; rfl) rfl (by rw [hD]; rfl) (by rw [hsz]; decide) (by rw [hl]; decide)), hT, rs⟩)
    · exact wpOp_plain rfl rfl (wp_extract (.tmp 34) 1 rfl _ (hF.done 15 (34, SP.is (.tuple #[.int .i64 N, .int .i64 E])) (by rw [hD]; rfl) (ready_dep hk 15 (by kernel_rfl))) _ rfl ⟨(hF.put 17 51 (SP.is (.int .i64 E)) _ (by rw [hD]; rfl) rfl (by rw [hD]; rfl) (by rw [hsz]; decide) (by rw [hl]; decide)), hT, rs⟩)
    · exact wpOp_plain rfl rfl (wp_assign_v (ac.eval (.tmp 50)) rfl rfl ⟨(hF.put 18 7 (SP.is (.int .i64 N)) _ (by rw [hD]; rfl) (hF.done 16 (50, SP.is (.int .i64 N)) (by rw [hD]; rfl) (ready_dep hk 16 (by kernel_rfl))) (by rw [hD]; rfl) (by rw [hsz]; decide) (by rw [hl]; decide)), hT, rs⟩)
    · exact wpOp_plain rfl rfl (wp_assign_v (ac.eval (.tmp 51)) rfl rfl ⟨(hF.put 19 8 (SP.is (.int .i64 E)) _ (by rw [hD]; rfl) (hF.done 17 (51, SP.is (.int .i64 E)) (by rw [hD]; rfl) (ready_dep hk 17 (by kernel_rfl))) (by rw [hD]; rfl) (by rw [hsz]; decide) (by rw [hl]; decide)), hT, rs⟩)
  · clear hb1 rs hP
    intro listed ac W hl hJ hr
    replace hl : listed.size = 20 := hl
    obtain ⟨hF, hT, rs⟩ := hJ
    have hall := all_listed (by kernel_rfl) hl hr
    have h35 : ac.eval (.tmp 35) = .pointer (some ⟨q, 0, none⟩) := hF.done 0 (35, SP.is (.pointer (some ⟨q, 0, none⟩))) (by rw [hD]; rfl) (hall 0 (by decide))
    have h36 : ac.eval (.tmp 36) = .int .i64 (k : Int) := hF.done 1 (36, SP.is (.int .i64 (k : Int))) (by rw [hD]; rfl) (hall 1 (by decide))
    have h37 : ac.eval (.tmp 37) = .pointer (some ⟨q, 0, none⟩) := hF.done 2 (37, SP.is (.pointer (some ⟨q, 0, none⟩))) (by rw [hD]; rfl) (hall 2 (by decide))
    have h38 : ac.eval (.tmp 38) = .pointer (some ⟨q, 0, none⟩) := hF.done 3 (38, SP.is (.pointer (some ⟨q, 0, none⟩))) (by rw [hD]; rfl) (hall 3 (by decide))
    have h39 : ac.eval (.tmp 39) = .pointer (some ⟨q, k, none⟩) := hF.done 4 (39, SP.is (.pointer (some ⟨q, k, none⟩))) (by rw [hD]; rfl) (hall 4 (by decide))
    have h40 : ac.eval (.tmp 40) = .pointer (some ⟨p, 0, none⟩) := hF.done 5 (40, SP.is (.pointer (some ⟨p, 0, none⟩))) (by rw [hD]; rfl) (hall 5 (by decide))
    have h41 : ac.eval (.tmp 41) = .pointer (some ⟨bS, 3, none⟩) := hF.done 6 (41, SP.is (.pointer (some ⟨bS, 3, none⟩))) (by rw [hD]; rfl) (hall 6 (by decide))
    have h42 : ac.eval (.tmp 42) = .agg Lc.toArray := hF.done 7 (42, SP.is (.agg Lc.toArray)) (by rw [hD]; rfl) (hall 7 (by decide))
    have h43 : ac.eval (.tmp 43) = .pointer (some ⟨bS, 69, none⟩) := hF.done 8 (43, SP.is (.pointer (some ⟨bS, 69, none⟩))) (by rw [hD]; rfl) (hall 8 (by decide))
    have h44 : ac.eval (.tmp 44) = .agg (vB s.ad).toArray := hF.done 9 (44, SP.is (.agg (vB s.ad).toArray)) (by rw [hD]; rfl) (hall 9 (by decide))
    have h45 : ac.eval (.tmp 45) = .pointer (some ⟨bS, 89, none⟩) := hF.done 10 (45, SP.is (.pointer (some ⟨bS, 89, none⟩))) (by rw [hD]; rfl) (hall 10 (by decide))
    have h46 : ac.eval (.tmp 46) = .int .i64 s.ib := hF.done 11 (46, SP.is (.int .i64 s.ib)) (by rw [hD]; rfl) (hall 11 (by decide))
    have h47 : ac.eval (.tmp 47) = .pointer (some ⟨bS, 90, none⟩) := hF.done 12 (47, SP.is (.pointer (some ⟨bS, 90, none⟩))) (by rw [hD]; rfl) (hall 12 (by decide))
    have h48 : ac.eval (.tmp 48) = .int .i64 s.now := hF.done 13 (48, SP.is (.int .i64 s.now)) (by rw [hD]; rfl) (hall 13 (by decide))
    have h49 : ac.eval (.tmp 49) = .tuple #[.int .i64 N, .int .i64 E] := hF.done 14 (49, SP.is (.tuple #[.int .i64 N, .int .i64 E])) (by rw [hD]; rfl) (hall 14 (by decide))
    have h34 : ac.eval (.tmp 34) = .tuple #[.int .i64 N, .int .i64 E] := hF.done 15 (34, SP.is (.tuple #[.int .i64 N, .int .i64 E])) (by rw [hD]; rfl) (hall 15 (by decide))
    have h50 : ac.eval (.tmp 50) = .int .i64 N := hF.done 16 (50, SP.is (.int .i64 N)) (by rw [hD]; rfl) (hall 16 (by decide))
    have h51 : ac.eval (.tmp 51) = .int .i64 E := hF.done 17 (51, SP.is (.int .i64 E)) (by rw [hD]; rfl) (hall 17 (by decide))
    have h7 : ac.eval (.tmp 7) = .int .i64 N := hF.done 18 (7, SP.is (.int .i64 N)) (by rw [hD]; rfl) (hall 18 (by decide))
    have h8 : ac.eval (.tmp 8) = .int .i64 E := hF.done 19 (8, SP.is (.int .i64 E)) (by rw [hD]; rfl) (hall 19 (by decide))
    have ea := hF.lay [(35, .pointer (some ⟨q, 0, none⟩)), (36, .int .i64 (k : Int)), (37, .pointer (some ⟨q, 0, none⟩)), (38, .pointer (some ⟨q, 0, none⟩)), (39, .pointer (some ⟨q, k, none⟩)), (40, .pointer (some ⟨p, 0, none⟩)), (41, .pointer (some ⟨bS, 3, none⟩)), (42, .agg Lc.toArray), (43, .pointer (some ⟨bS, 69, none⟩)), (44, .agg (vB s.ad).toArray), (45, .pointer (some ⟨bS, 89, none⟩)), (46, .int .i64 s.ib), (47, .pointer (some ⟨bS, 90, none⟩)), (48, .int .i64 s.now), (49, .tuple #[.int .i64 N, .int .i64 E]), (34, .tuple #[.int .i64 N, .int .i64 E]), (50, .int .i64 N), (51, .int .i64 E), (7, .int .i64 N), (8, .int .i64 E)] (by rw [hD, hsz]; rfl) (by simp only [List.forall_mem_cons, List.not_mem_nil, false_implies, implies_true, and_true]; exact ⟨h35, h36, h37, h38, h39, h40, h41, h42, h43, h44, h45, h46, h47, h48, h49, h34, h50, h51, h7, h8⟩)
    rw [ha0] at ea
    simp only [List.foldl_cons, List.foldl_nil, List.setIfInBounds_toArray, List.set_cons_zero, List.set_cons_succ] at ea
    clear hF hall hr hl hD zs0 zs1 zs5 ha0 hsz h35 h36 h37 h38 h39 h40 h41 h42 h43 h44 h45 h46 h47 h48 h49 h34 h50 h51 h7 h8
    subst ea
    obtain ⟨v1, hP2⟩ := hT
    obtain ⟨V, hV⟩ : ∃ V, V = W := ⟨_, rfl⟩
    rw [← hV] at hP2 rs ⊢
    obtain ⟨Ls2, hL2⟩ : ∃ l, l = Ls.set k (p, v1, st') := ⟨_, rfl⟩
    rw [← hL2] at hP2
    have HL2 : Hid (Ls2 = Ls.set k (p, v1, st')) := hL2
    have HOK : Hid (st'.Ok C) := by
      have hkl : k < Ls.length := (List.getElem?_eq_some_iff.1 HLK.out).1
      exact (hP2.lad (k := k) (l := (p, v1, st')) (by rw [hL2, List.getElem?_set_self hkl])).ok
    have HPV : Hid (Pl w0 V q C Ls2 Es T ts) := hP2
    have hbV := rs.lt
    have HPVL : Hid (∀ l ∈ Ls2, Ld V l.1 l.2.1 C l.2.2) := fun l hl => hP2.ladm hl
    have hb1 := Below.refl V.heap.size V
    have HRR : Hid (∀ W, Below V.heap.size V W → Calls Try.prog 56 #[.agg L.toArray, .agg Lc.toArray, .agg (vB s.ad).toArray, .int .i64 s.ib, .int .i64 s.now] W fun r w' => ∃ v', r = .returned (.tuple #[.agg (st'.dc v').toArray, .int .i64 N, .int .i64 E]) ∧ Rf w' v' C st' ∧ Nv W e v' ∧ Below W.heap.size W w') := fun W k => HRR0.out W Ls2 HOK.out (HPV.out.below k)
    have HRD : Hid (∀ W, Below V.heap.size V W → W.rangeAt q (3 + k * 70) L) := fun W k => HRD0.out W C Ls2 (HPV.out.below k)
    clear hV hL2 hP2 HRL HRR0 HRD0 HCP
    go_upto_region 4 with fail
    refine wp_named fun a0 ha0 => ?_
    have hsz : a0.tmps.size = 244 := by rw [ha0]; rfl
    have zs0 : a0.eval (.tmp 0) = .pointer (some ⟨q, 0, none⟩) := by rw [ha0]; rfl
    have zs1 : a0.eval (.tmp 1) = .int .i64 (k : Int) := by rw [ha0]; rfl
    have zs5 : a0.eval (.tmp 5) = .pointer (some ⟨bS, 0, none⟩) := by rw [ha0]; rfl
    obtain ⟨D, hD⟩ : ∃ D : List (Tmp × SP), D = [(53, SP.is (.pointer (some ⟨q, 0, none⟩))), (54, SP.is (.int .i64 (k : Int))), (55, SP.is (.pointer (some ⟨q, 0, none⟩))), (56, SP.is (.pointer (some ⟨q, 3, none⟩))), (57, SP.is (.pointer (some ⟨q, 3 + k * 70, none⟩))), (58, SP.is (.agg L.toArray)), (59, SP.is (.pointer (some ⟨bS, 3, none⟩))), (60, SP.is (.agg Lc.toArray)), (61, SP.is (.pointer (some ⟨bS, 69, none⟩))), (62, SP.is (.agg (vB s.ad).toArray)), (63, SP.is (.pointer (some ⟨bS, 89, none⟩))), (64, SP.is (.int .i64 s.ib)), (65, SP.is (.pointer (some ⟨bS, 90, none⟩))), (66, SP.is (.int .i64 s.now)), (67, SP.rt V.heap.size e C st' [.int .i64 N, .int .i64 E]), (52, SP.rt V.heap.size e C st' [.int .i64 N, .int .i64 E]), (68, SP.ra V.heap.size e C st'), (69, SP.is (.int .i64 N)), (70, SP.is (.int .i64 E)), (9, SP.any), (1000, SP.any), (10, SP.is (.int .i64 N)), (11, SP.is (.int .i64 E))] := ⟨_, rfl⟩
    refine wp_region_down (by kernel_rfl) (fun listed ac W => ∃ (NN : Nat), listed.size = 23 ∧ Fp D a0 listed ac W ∧ Below V.heap.size V W ∧ Row W bS S tSt ∧ (listed.getD 19 false = true → ¬ listed.getD 20 false = true → ac.eval (.tmp 9) = .pointer (some ⟨NN, 0, none⟩) ∧ V.heap.size - 1 < NN ∧ Row W NN zRL tRL) ∧ (listed.getD 20 false = true → ac.eval (.tmp 9) = .pointer (some ⟨NN, 0, none⟩) ∧ V.heap.size - 1 < NN ∧ ∃ v', Row W NN (st'.dc v') tRL ∧ Rf W v' C st' ∧ Ap V.heap.size e v')) ?_ ?_ ?_
    · exact ⟨0, by simp, Fp.start D a0 _ _, Below.drew hb1, Row.drew rs, (fun h _ => (start_no h).elim), (fun h => (start_no h).elim)⟩
    · clear ha0 hb1 rs 
      intro listed ac W k hI hdn hk
      obtain ⟨NN, hl, hF, hb1, rs, ax19, ay19⟩ := hI
      have hk1 : k < 23 := List.mem_range.1 (List.mem_filter.1 hk).1
      have hl2 : ∀ j, (listed.setIfInBounds j true).size = 23 := fun j => by rw [Array.size_setIfInBounds]; exact hl
      rcases (show k = 0 ∨ k = 1 ∨ k = 2 ∨ k = 3 ∨ k = 4 ∨ k = 5 ∨ k = 6 ∨ k = 7 ∨ k = 8 ∨ k = 9 ∨ k = 10 ∨ k = 11 ∨ k = 12 ∨ k = 13 ∨ k = 14 ∨ k = 15 ∨ k = 16 ∨ k = 17 ∨ k = 18 ∨ k = 19 ∨ k = 20 ∨ k = 21 ∨ k = 22 by omega) with rfl | rfl | rfl | rfl | rfl | rfl | rfl | rfl | rfl | rfl | rfl | rfl | rfl | rfl | rfl | rfl | rfl | rfl | rfl | rfl | rfl | rfl | rfl
      · have hk3 := hk
        have hnsx : ¬ listed.getD 20 false = true := fun h => not_yet hk (hdn 20 h 0 (by kernel_rfl))
        exact wpOp_plain rfl rfl (wp_move_v (ac.eval (.tmp 0)) rfl rfl ⟨NN, hl2 0, (hF.put 0 53 (SP.is (.pointer (some ⟨q, 0, none⟩))) (ac.eval (.tmp 0)) (by rw [hD]; rfl) (((hF.keep 0 (by rw [hD]; rfl)).trans zs0)) (by rw [hD]; rfl) (by rw [hsz]; decide) (by rw [hl]; decide)), hb1, rs, (fun h1 h2 => ⟨(eval_put_other ac _ (by decide)).trans ((ax19 (by rwa [getD_set _ _ _ (by decide)] at h1) (by rwa [getD_set _ _ _ (by decide)] at h2)).1), (ax19 (by rwa [getD_set _ _ _ (by decide)] at h1) (by rwa [getD_set _ _ _ (by decide)] at h2)).2.1, (ax19 (by rwa [getD_set _ _ _ (by decide)] at h1) (by rwa [getD_set _ _ _ (by decide)] at h2)).2.2⟩), (fun h => absurd (by rwa [getD_set _ _ _ (by decide)] at h) hnsx)⟩)
      · have hk3 := hk
        have hnsx : ¬ listed.getD 20 false = true := fun h => not_yet hk (hdn 20 h 1 (by kernel_rfl))
        exact wpOp_plain rfl rfl (wp_move_v (ac.eval (.tmp 1)) rfl rfl ⟨NN, hl2 1, (hF.put 1 54 (SP.is (.int .i64 (k : Int))) (ac.eval (.tmp 1)) (by rw [hD]; rfl) (((hF.keep 1 (by rw [hD]; rfl)).trans zs1)) (by rw [hD]; rfl) (by rw [hsz]; decide) (by rw [hl]; decide)), hb1, rs, (fun h1 h2 => ⟨(eval_put_other ac _ (by decide)).trans ((ax19 (by rwa [getD_set _ _ _ (by decide)] at h1) (by rwa [getD_set _ _ _ (by decide)] at h2)).1), (ax19 (by rwa [getD_set _ _ _ (by decide)] at h1) (by rwa [getD_set _ _ _ (by decide)] at h2)).2.1, (ax19 (by rwa [getD_set _ _ _ (by decide)] at h1) (by rwa [getD_set _ _ _ (by decide)] at h2)).2.2⟩), (fun h => absurd (by rwa [getD_set _ _ _ (by decide)] at h) hnsx)⟩)
      · have hk3 := hk
        have hnsx : ¬ listed.getD 20 false = true := fun h => not_yet hk (hdn 20 h 2 (by kernel_rfl))
        have ea := (hF.done 0 (53, SP.is (.pointer (some ⟨q, 0, none⟩))) (by rw [hD]; rfl) (ready_dep hk 0 (by kernel_rfl)))
        exact wpOp_plain rfl rfl (wp_nilL rfl q ea ⟨NN, hl2 2, (hF.put 2 55 (SP.is (.pointer (some ⟨q, 0, none⟩))) (.pointer (some ⟨q, 0, none⟩)) (by rw [hD]; rfl) rfl (by rw [hD]; rfl) (by rw [hsz]; decide) (by rw [hl]; decide)), hb1, rs, (fun h1 h2 => ⟨(eval_put_other ac _ (by decide)).trans ((ax19 (by rwa [getD_set _ _ _ (by decide)] at h1) (by rwa [getD_set _ _ _ (by decide)] at h2)).1), (ax19 (by rwa [getD_set _ _ _ (by decide)] at h1) (by rwa [getD_set _ _ _ (by decide)] at h2)).2.1, (ax19 (by rwa [getD_set _ _ _ (by decide)] at h1) (by rwa [getD_set _ _ _ (by decide)] at h2)).2.2⟩), (fun h => absurd (by rwa [getD_set _ _ _ (by decide)] at h) hnsx)⟩)
      · have hk3 := hk
        have hnsx : ¬ listed.getD 20 false = true := fun h => not_yet hk (hdn 20 h 3 (by kernel_rfl))
        have ea := (hF.done 2 (55, SP.is (.pointer (some ⟨q, 0, none⟩))) (by rw [hD]; rfl) (ready_dep hk 2 (by kernel_rfl)))
        exact wpOp_plain rfl rfl (wp_fPr1 rfl q ea ⟨NN, hl2 3, (hF.put 3 56 (SP.is (.pointer (some ⟨q, 3, none⟩))) (.pointer (some ⟨q, 3, none⟩)) (by rw [hD]; rfl) rfl (by rw [hD]; rfl) (by rw [hsz]; decide) (by rw [hl]; decide)), hb1, rs, (fun h1 h2 => ⟨(eval_put_other ac _ (by decide)).trans ((ax19 (by rwa [getD_set _ _ _ (by decide)] at h1) (by rwa [getD_set _ _ _ (by decide)] at h2)).1), (ax19 (by rwa [getD_set _ _ _ (by decide)] at h1) (by rwa [getD_set _ _ _ (by decide)] at h2)).2.1, (ax19 (by rwa [getD_set _ _ _ (by decide)] at h1) (by rwa [getD_set _ _ _ (by decide)] at h2)).2.2⟩), (fun h => absurd (by rwa [getD_set _ _ _ (by decide)] at h) hnsx)⟩)
      · have hk3 := hk
        have hnsx : ¬ listed.getD 20 false = true := fun h => not_yet hk (hdn 20 h 4 (by kernel_rfl))
        have ea := (hF.done 3 (56, SP.is (.pointer (some ⟨q, 3, none⟩))) (by rw [hD]; rfl) (ready_dep hk 3 (by kernel_rfl)))
        have eb := (hF.done 1 (54, SP.is (.int .i64 (k : Int))) (by rw [hD]; rfl) (ready_dep hk 1 (by kernel_rfl)))
        exact wpOp_plain rfl rfl (wp_ixO tR3 tRL rfl q 3 k 70 3 (3 + k * 70) ea eb HK3.out und_R3 info_RL rfl ⟨NN, hl2 4, (hF.put 4 57 (SP.is (.pointer (some ⟨q, 3 + k * 70, none⟩))) (.pointer (some ⟨q, 3 + k * 70, none⟩)) (by rw [hD]; rfl) rfl (by rw [hD]; rfl) (by rw [hsz]; decide) (by rw [hl]; decide)), hb1, rs, (fun h1 h2 => ⟨(eval_put_other ac _ (by decide)).trans ((ax19 (by rwa [getD_set _ _ _ (by decide)] at h1) (by rwa [getD_set _ _ _ (by decide)] at h2)).1), (ax19 (by rwa [getD_set _ _ _ (by decide)] at h1) (by rwa [getD_set _ _ _ (by decide)] at h2)).2.1, (ax19 (by rwa [getD_set _ _ _ (by decide)] at h1) (by rwa [getD_set _ _ _ (by decide)] at h2)).2.2⟩), (fun h => absurd (by rwa [getD_set _ _ _ (by decide)] at h) hnsx)⟩)
      · have hk3 := hk
        have hnsx : ¬ listed.getD 20 false = true := fun h => not_yet hk (hdn 20 h 5 (by kernel_rfl))
        have ea := (hF.done 4 (57, SP.is (.pointer (some ⟨q, 3 + k * 70, none⟩))) (by rw [hD]; rfl) (ready_dep hk 4 (by kernel_rfl)))
        exact wpOp_plain rfl rfl (wp_load_mid tRL (.tmp 57) rfl q (3 + k * 70) ea L _ (HRD.out W (hb1)) Try.underlying44 rfl HIL.out ⟨NN, hl2 5, (hF.put 5 58 (SP.is (.agg L.toArray)) (.agg L.toArray) (by rw [hD]; rfl) rfl (by rw [hD]; rfl) (by rw [hsz]; decide) (by rw [hl]; decide)), hb1, rs, (fun h1 h2 => ⟨(eval_put_other ac _ (by decide)).trans ((ax19 (by rwa [getD_set _ _ _ (by decide)] at h1) (by rwa [getD_set _ _ _ (by decide)] at h2)).1), (ax19 (by rwa [getD_set _ _ _ (by decide)] at h1) (by rwa [getD_set _ _ _ (by decide)] at h2)).2.1, (ax19 (by rwa [getD_set _ _ _ (by decide)] at h1) (by rwa [getD_set _ _ _ (by decide)] at h2)).2.2⟩), (fun h => absurd (by rwa [getD_set _ _ _ (by decide)] at h) hnsx)⟩)
      · have hk3 := hk
        have hnsx : ¬ listed.getD 20 false = true := fun h => not_yet hk (hdn 20 h 6 (by kernel_rfl))
        have ea := ((hF.keep 5 (by rw [hD]; rfl)).trans zs5)
        exact wpOp_plain rfl rfl (wp_fSt3 rfl bS ea ⟨NN, hl2 6, (hF.put 6 59 (SP.is (.pointer (some ⟨bS, 3, none⟩))) (.pointer (some ⟨bS, 3, none⟩)) (by rw [hD]; rfl) rfl (by rw [hD]; rfl) (by rw [hsz]; decide) (by rw [hl]; decide)), hb1, rs, (fun h1 h2 => ⟨(eval_put_other ac _ (by decide)).trans ((ax19 (by rwa [getD_set _ _ _ (by decide)] at h1) (by rwa [getD_set _ _ _ (by decide)] at h2)).1), (ax19 (by rwa [getD_set _ _ _ (by decide)] at h1) (by rwa [getD_set _ _ _ (by decide)] at h2)).2.1, (ax19 (by rwa [getD_set _ _ _ (by decide)] at h1) (by rwa [getD_set _ _ _ (by decide)] at h2)).2.2⟩), (fun h => absurd (by rwa [getD_set _ _ _ (by decide)] at h) hnsx)⟩)
      · have hk3 := hk
        have hnsx : ¬ listed.getD 20 false = true := fun h => not_yet hk (hdn 20 h 7 (by kernel_rfl))
        have ea := (hF.done 6 (59, SP.is (.pointer (some ⟨bS, 3, none⟩))) (by rw [hD]; rfl) (ready_dep hk 6 (by kernel_rfl)))
        exact wpOp_plain rfl rfl (wp_load_mid tC (.tmp 59) rfl bS 3 ea Lc _ (rs.range 3 _ HRC.out) Try.underlying25 rfl HIC.out ⟨NN, hl2 7, (hF.put 7 60 (SP.is (.agg Lc.toArray)) (.agg Lc.toArray) (by rw [hD]; rfl) rfl (by rw [hD]; rfl) (by rw [hsz]; decide) (by rw [hl]; decide)), hb1, rs, (fun h1 h2 => ⟨(eval_put_other ac _ (by decide)).trans ((ax19 (by rwa [getD_set _ _ _ (by decide)] at h1) (by rwa [getD_set _ _ _ (by decide)] at h2)).1), (ax19 (by rwa [getD_set _ _ _ (by decide)] at h1) (by rwa [getD_set _ _ _ (by decide)] at h2)).2.1, (ax19 (by rwa [getD_set _ _ _ (by decide)] at h1) (by rwa [getD_set _ _ _ (by decide)] at h2)).2.2⟩), (fun h => absurd (by rwa [getD_set _ _ _ (by decide)] at h) hnsx)⟩)
      · have hk3 := hk
        have hnsx : ¬ listed.getD 20 false = true := fun h => not_yet hk (hdn 20 h 8 (by kernel_rfl))
        have ea := ((hF.keep 5 (by rw [hD]; rfl)).trans zs5)
        exact wpOp_plain rfl rfl (wp_fSt4 rfl bS ea ⟨NN, hl2 8, (hF.put 8 61 (SP.is (.pointer (some ⟨bS, 69, none⟩))) (.pointer (some ⟨bS, 69, none⟩)) (by rw [hD]; rfl) rfl (by rw [hD]; rfl) (by rw [hsz]; decide) (by rw [hl]; decide)), hb1, rs, (fun h1 h2 => ⟨(eval_put_other ac _ (by decide)).trans ((ax19 (by rwa [getD_set _ _ _ (by decide)] at h1) (by rwa [getD_set _ _ _ (by decide)] at h2)).1), (ax19 (by rwa [getD_set _ _ _ (by decide)] at h1) (by rwa [getD_set _ _ _ (by decide)] at h2)).2.1, (ax19 (by rwa [getD_set _ _ _ (by decide)] at h1) (by rwa [getD_set _ _ _ (by decide)] at h2)).2.2⟩), (fun h => absurd (by rwa [getD_set _ _ _ (by decide)] at h) hnsx)⟩)
      · have hk3 := hk
        have hnsx : ¬ listed.getD 20 false = true := fun h => not_yet hk (hdn 20 h 9 (by kernel_rfl))
        have ea := (hF.done 8 (61, SP.is (.pointer (some ⟨bS, 69, none⟩))) (by rw [hD]; rfl) (ready_dep hk 8 (by kernel_rfl)))
        exact wpOp_plain rfl rfl (wp_load_mid tAd (.tmp 61) rfl bS 69 ea (vB s.ad) _ (rs.range 69 _ HRA.out) Try.underlying51 rfl HIA.out ⟨NN, hl2 9, (hF.put 9 62 (SP.is (.agg (vB s.ad).toArray)) (.agg (vB s.ad).toArray) (by rw [hD]; rfl) rfl (by rw [hD]; rfl) (by rw [hsz]; decide) (by rw [hl]; decide)), hb1, rs, (fun h1 h2 => ⟨(eval_put_other ac _ (by decide)).trans ((ax19 (by rwa [getD_set _ _ _ (by decide)] at h1) (by rwa [getD_set _ _ _ (by decide)] at h2)).1), (ax19 (by rwa [getD_set _ _ _ (by decide)] at h1) (by rwa [getD_set _ _ _ (by decide)] at h2)).2.1, (ax19 (by rwa [getD_set _ _ _ (by decide)] at h1) (by rwa [getD_set _ _ _ (by decide)] at h2)).2.2⟩), (fun h => absurd (by rwa [getD_set _ _ _ (by decide)] at h) hnsx)⟩)
      · have hk3 := hk
        have hnsx : ¬ listed.getD 20 false = true := fun h => not_yet hk (hdn 20 h 10 (by kernel_rfl))
        have ea := ((hF.keep 5 (by rw [hD]; rfl)).trans zs5)
        exact wpOp_plain rfl rfl (wp_fSt5 rfl bS ea ⟨NN, hl2 10, (hF.put 10 63 (SP.is (.pointer (some ⟨bS, 89, none⟩))) (.pointer (some ⟨bS, 89, none⟩)) (by rw [hD]; rfl) rfl (by rw [hD]; rfl) (by rw [hsz]; decide) (by rw [hl]; decide)), hb1, rs, (fun h1 h2 => ⟨(eval_put_other ac _ (by decide)).trans ((ax19 (by rwa [getD_set _ _ _ (by decide)] at h1) (by rwa [getD_set _ _ _ (by decide)] at h2)).1), (ax19 (by rwa [getD_set _ _ _ (by decide)] at h1) (by rwa [getD_set _ _ _ (by decide)] at h2)).2.1, (ax19 (by rwa [getD_set _ _ _ (by decide)] at h1) (by rwa [getD_set _ _ _ (by decide)] at h2)).2.2⟩), (fun h => absurd (by rwa [getD_set _ _ _ (by decide)] at h) hnsx)⟩)
      · have hk3 := hk
        have hnsx : ¬ listed.getD 20 false = true := fun h => not_yet hk (hdn 20 h 11 (by kernel_rfl))
        have ea := (hF.done 10 (63, SP.is (.pointer (some ⟨bS, 89, none⟩))) (by rw [hD]; rfl) (ready_dep hk 10 (by kernel_rfl)))
        exact wpOp_plain rfl rfl (wp_ld1 bS 89 (.int .i64 s.ib) rfl ea (ld_int W bS 89 _ (rs.cell 89 _ HIB.out)) ⟨NN, hl2 11, (hF.put 11 64 (SP.is (.int .i64 s.ib)) (.int .i64 s.ib) (by rw [hD]; rfl) rfl (by rw [hD]; rfl) (by rw [hsz]; decide) (by rw [hl]; decide)), hb1, rs, (fun h1 h2 => ⟨(eval_put_other ac _ (by decide)).trans ((ax19 (by rwa [getD_set _ _ _ (by decide)] at h1) (by rwa [getD_set _ _ _ (by decide)] at h2)).1), (ax19 (by rwa [getD_set _ _ _ (by decide)] at h1) (by rwa [getD_set _ _ _ (by decide)] at h2)).2.1, (ax19 (by rwa [getD_set _ _ _ (by decide)] at h1) (by rwa [getD_set _ _ _ (by decide)] at h2)).2.2⟩), (fun h => absurd (by rwa [getD_set _ _ _ (by decide)] at h) hnsx)⟩)
      · have hk3 := hk
        have hnsx : ¬ listed.getD 20 false = true := fun h => not_yet hk (hdn 20 h 12 (by kernel_rfl))
        have ea := ((hF.keep 5 (by rw [hD]; rfl)).trans zs5)
        exact wpOp_plain rfl rfl (wp_fSt6 rfl bS ea ⟨NN, hl2 12, (hF.put 12 65 (SP.is (.pointer (some ⟨bS, 90, none⟩))) (.pointer (some ⟨bS, 90, none⟩)) (by rw [hD]; rfl) rfl (by rw [hD]; rfl) (by rw [hsz]; decide) (by rw [hl]; decide)), hb1, rs, (fun h1 h2 => ⟨(eval_put_other ac _ (by decide)).trans ((ax19 (by rwa [getD_set _ _ _ (by decide)] at h1) (by rwa [getD_set _ _ _ (by decide)] at h2)).1), (ax19 (by rwa [getD_set _ _ _ (by decide)] at h1) (by rwa [getD_set _ _ _ (by decide)] at h2)).2.1, (ax19 (by rwa [getD_set _ _ _ (by decide)] at h1) (by rwa [getD_set _ _ _ (by decide)] at h2)).2.2⟩), (fun h => absurd (by rwa [getD_set _ _ _ (by decide)] at h) hnsx)⟩)
      · have hk3 := hk
        have hnsx : ¬ listed.getD 20 false = true := fun h => not_yet hk (hdn 20 h 13 (by kernel_rfl))
        have ea := (hF.done 12 (65, SP.is (.pointer (some ⟨bS, 90, none⟩))) (by rw [hD]; rfl) (ready_dep hk 12 (by kernel_rfl)))
        exact wpOp_plain rfl rfl (wp_ld1 bS 90 (.int .i64 s.now) rfl ea (ld_int W bS 90 _ (rs.cell 90 _ HNW.out)) ⟨NN, hl2 13, (hF.put 13 66 (SP.is (.int .i64 s.now)) (.int .i64 s.now) (by rw [hD]; rfl) rfl (by rw [hD]; rfl) (by rw [hsz]; decide) (by rw [hl]; decide)), hb1, rs, (fun h1 h2 => ⟨(eval_put_other ac _ (by decide)).trans ((ax19 (by rwa [getD_set _ _ _ (by decide)] at h1) (by rwa [getD_set _ _ _ (by decide)] at h2)).1), (ax19 (by rwa [getD_set _ _ _ (by decide)] at h1) (by rwa [getD_set _ _ _ (by decide)] at h2)).2.1, (ax19 (by rwa [getD_set _ _ _ (by decide)] at h1) (by rwa [getD_set _ _ _ (by decide)] at h2)).2.2⟩), (fun h => absurd (by rwa [getD_set _ _ _ (by decide)] at h) hnsx)⟩)
      · have hk3 := hk
        have hnsx : ¬ listed.getD 20 false = true := fun h => not_yet hk (hdn 20 h 14 (by kernel_rfl))
        have e58 := (hF.done 5 (58, SP.is (.agg L.toArray)) (by rw [hD]; rfl) (ready_dep hk 5 (by kernel_rfl)))
        have e60 := (hF.done 7 (60, SP.is (.agg Lc.toArray)) (by rw [hD]; rfl) (ready_dep hk 7 (by kernel_rfl)))
        have e62 := (hF.done 9 (62, SP.is (.agg (vB s.ad).toArray)) (by rw [hD]; rfl) (ready_dep hk 9 (by kernel_rfl)))
        have e64 := (hF.done 11 (64, SP.is (.int .i64 s.ib)) (by rw [hD]; rfl) (ready_dep hk 11 (by kernel_rfl)))
        have e66 := (hF.done 13 (66, SP.is (.int .i64 s.now)) (by rw [hD]; rfl) (ready_dep hk 13 (by kernel_rfl)))
        refine wpOp_plain rfl rfl (wp_fcall_v 56 #[.agg L.toArray, .agg Lc.toArray, .agg (vB s.ad).toArray, .int .i64 s.ib, .int .i64 s.now] rfl rfl (by show [ac.eval (.tmp 58), ac.eval (.tmp 60), ac.eval (.tmp 62), ac.eval (.tmp 64), ac.eval (.tmp 66)] = _; rw [show ac.eval (.tmp 58) = _ from e58, show ac.eval (.tmp 60) = _ from e60, show ac.eval (.tmp 62) = _ from e62, show ac.eval (.tmp 64) = _ from e64, show ac.eval (.tmp 66) = _ from e66]) (by go_simp) ((HRR.out W hb1).mono ?_))
        rintro e W2 ⟨v', rfl, hR, hN, hB⟩
        exact ⟨_, rfl, NN, hl2 14, ((hF.world hB).put 14 67 (SP.rt V.heap.size e C st' [.int .i64 N, .int .i64 E]) (.tuple #[.agg (st'.dc v').toArray, .int .i64 N, .int .i64 E]) (by rw [hD]; rfl) (⟨v', rfl, hR, Ap.of hN hb1.size⟩) (by rw [hD]; rfl) (by rw [hsz]; decide) (by rw [hl]; decide)), hb1.trans (hB.mono hb1.size), Row.below rs hB (Row.lt rs), (fun h1 h2 => ⟨(eval_put_other ac _ (by decide)).trans ((ax19 (by rwa [getD_set _ _ _ (by decide)] at h1) (by rwa [getD_set _ _ _ (by decide)] at h2)).1), (ax19 (by rwa [getD_set _ _ _ (by decide)] at h1) (by rwa [getD_set _ _ _ (by decide)] at h2)).2.1, Row.below (ax19 (by rwa [getD_set _ _ _ (by decide)] at h1) (by rwa [getD_set _ _ _ (by decide)] at h2)).2.2 hB (Row.lt (ax19 (by rwa [getD_set _ _ _ (by decide)] at h1) (by rwa [getD_set _ _ _ (by decide)] at h2)).2.2)⟩), (fun h => absurd (by rwa [getD_set _ _ _ (by decide)] at h) hnsx)⟩
      · have hk3 := hk
        have hnsx : ¬ listed.getD 20 false = true := fun h => not_yet hk (hdn 20 h 15 (by kernel_rfl))
        exact wpOp_plain rfl rfl (wp_move_v (ac.eval (.tmp 67)) rfl rfl ⟨NN, hl2 15, (hF.put 15 52 (SP.rt V.heap.size e C st' [.int .i64 N, .int .i64 E]) (ac.eval (.tmp 67)) (by rw [hD]; rfl) ((hF.done 14 (67, SP.rt V.heap.size e C st' [.int .i64 N, .int .i64 E]) (by rw [hD]; rfl) (ready_dep hk 14 (by kernel_rfl)))) (by rw [hD]; rfl) (by rw [hsz]; decide) (by rw [hl]; decide)), hb1, rs, (fun h1 h2 => ⟨(eval_put_other ac _ (by decide)).trans ((ax19 (by rwa [getD_set _ _ _ (by decide)] at h1) (by rwa [getD_set _ _ _ (by decide)] at h2)).1), (ax19 (by rwa [getD_set _ _ _ (by decide)] at h1) (by rwa [getD_set _ _ _ (by decide)] at h2)).2.1, (ax19 (by rwa [getD_set _ _ _ (by decide)] at h1) (by rwa [getD_set _ _ _ (by decide)] at h2)).2.2⟩), (fun h => absurd (by rwa [getD_set _ _ _ (by decide)] at h) hnsx)⟩)
      · have hk3 := hk
        have hnsx : ¬ listed.getD 20 false = true := fun h => not_yet hk (hdn 20 h 16 (by kernel_rfl))
        obtain ⟨v', e9, hR, hA⟩ := (hF.done 15 (52, SP.rt V.heap.size e C st' [.int .i64 N, .int .i64 E]) (by rw [hD]; rfl) (ready_dep hk 15 (by kernel_rfl)))
        exact wpOp_plain rfl rfl (wp_extract (.tmp 52) 0 rfl _ e9 (.agg (st'.dc v').toArray) rfl ⟨NN, hl2 16, (hF.put 16 68 (SP.ra V.heap.size e C st') (.agg (st'.dc v').toArray) (by rw [hD]; rfl) (⟨v', rfl, hR, hA⟩) (by rw [hD]; rfl) (by rw [hsz]; decide) (by rw [hl]; decide)), hb1, rs, (fun h1 h2 => ⟨(eval_put_other ac _ (by decide)).trans ((ax19 (by rwa [getD_set _ _ _ (by decide)] at h1) (by rwa [getD_set _ _ _ (by decide)] at h2)).1), (ax19 (by rwa [getD_set _ _ _ (by decide)] at h1) (by rwa [getD_set _ _ _ (by decide)] at h2)).2.1, (ax19 (by rwa [getD_set _ _ _ (by decide)] at h1) (by rwa [getD_set _ _ _ (by decide)] at h2)).2.2⟩), (fun h => absurd (by rwa [getD_set _ _ _ (by decide)] at h) hnsx)⟩)
      · have hk3 := hk
        obtain ⟨v', e9, hR, hA⟩ := (hF.done 15 (52, SP.rt V.heap.size e C st' [.int .i64 N, .int .i64 E]) (by rw [hD]; rfl) (ready_dep hk 15 (by kernel_rfl)))
        exact wpOp_plain rfl rfl (wp_extract (.tmp 52) 1 rfl _ e9 (.int .i64 N) rfl ⟨NN, hl2 17, (hF.put 17 69 (SP.is (.int .i64 N)) (.int .i64 N) (by rw [hD]; rfl) rfl (by rw [hD]; rfl) (by rw [hsz]; decide) (by rw [hl]; decide)), hb1, rs, (fun h1 h2 => ⟨(eval_put_other ac _ (by decide)).trans ((ax19 (by rwa [getD_set _ _ _ (by decide)] at h1) (by rwa [getD_set _ _ _ (by decide)] at h2)).1), (ax19 (by rwa [getD_set _ _ _ (by decide)] at h1) (by rwa [getD_set _ _ _ (by decide)] at h2)).2.1, (ax19 (by rwa [getD_set _ _ _ (by decide)] at h1) (by rwa [getD_set _ _ _ (by decide)] at h2)).2.2⟩), (fun h => ⟨(eval_put_other ac _ (by decide)).trans ((ay19 (by rwa [getD_set _ _ _ (by decide)] at h)).1), (ay19 (by rwa [getD_set _ _ _ (by decide)] at h)).2⟩)⟩)
      · have hk3 := hk
        obtain ⟨v', e9, hR, hA⟩ := (hF.done 15 (52, SP.rt V.heap.size e C st' [.int .i64 N, .int .i64 E]) (by rw [hD]; rfl) (ready_dep hk 15 (by kernel_rfl)))
        exact wpOp_plain rfl rfl (wp_extract (.tmp 52) 2 rfl _ e9 (.int .i64 E) rfl ⟨NN, hl2 18, (hF.put 18 70 (SP.is (.int .i64 E)) (.int .i64 E) (by rw [hD]; rfl) rfl (by rw [hD]; rfl) (by rw [hsz]; decide) (by rw [hl]; decide)), hb1, rs, (fun h1 h2 => ⟨(eval_put_other ac _ (by decide)).trans ((ax19 (by rwa [getD_set _ _ _ (by decide)] at h1) (by rwa [getD_set _ _ _ (by decide)] at h2)).1), (ax19 (by rwa [getD_set _ _ _ (by decide)] at h1) (by rwa [getD_set _ _ _ (by decide)] at h2)).2.1, (ax19 (by rwa [getD_set _ _ _ (by decide)] at h1) (by rwa [getD_set _ _ _ (by decide)] at h2)).2.2⟩), (fun h => ⟨(eval_put_other ac _ (by decide)).trans ((ay19 (by rwa [getD_set _ _ _ (by decide)] at h)).1), (ay19 (by rwa [getD_set _ _ _ (by decide)] at h)).2⟩)⟩)
      · have hk3 := hk
        have hnsx : ¬ listed.getD 20 false = true := fun h => not_yet hk (hdn 20 h 19 (by kernel_rfl))
        have hsm : V.heap.size - 1 < W.heap.size := (by have := hb1.size; have := Row.lt rs; omega)
        have hB : Below W.heap.size W (W.alloc (.cells zRL.toArray tRL)) := (Below.refl _ _).alloc (Nat.le_refl _) _
        exact wpOp_plain rfl rfl (wp_allocRL rfl ⟨W.heap.size, hl2 19, ((hF.world hB).put 19 9 (SP.any) (.pointer (some ⟨W.heap.size, 0, none⟩)) (by rw [hD]; rfl) trivial (by rw [hD]; rfl) (by rw [hsz]; decide) (by rw [hl]; decide)), hb1.alloc hb1.size _, Row.alloc rs _, (fun _ _ => ⟨eval_put_same ac _ (by rw [hF.size, hsz]; decide), hsm, Row.new' rfl rfl⟩), (fun h => absurd (by rwa [getD_set _ _ _ (by decide)] at h) hnsx)⟩)
      · have hk3 := hk
        obtain ⟨v', e9, hR, hA⟩ := (hF.done 16 (68, SP.ra V.heap.size e C st') (by rw [hD]; rfl) (ready_dep hk 16 (by kernel_rfl)))
        have hal := ready_dep hk 19 (by kernel_rfl)
        obtain ⟨e1, m1, y2⟩ := ax19 hal (not_yet hk)
        have T := y2.there 0 (st'.dc v').toArray.size (by rw [List.size_toArray, La.dlen HOK.out.cf, zRL_len]; decide)
        have hT : Fp D a0 listed ac (W.setCells NN 0 (st'.dc v')) := hF.turn (by rw [hD]; simp only [List.forall_mem_cons, List.not_mem_nil, false_implies, implies_true, and_true]; exact ⟨fun _ h => h, fun _ h => h, fun _ h => h, fun _ h => h, fun _ h => h, fun _ h => h, fun _ h => h, fun _ h => h, fun _ h => h, fun _ h => h, fun _ h => h, fun _ h => h, fun _ h => h, fun _ h => h, fun _ h => by obtain ⟨v1, e1, h1, h2⟩ := h; exact ⟨v1, e1, h1.set y2 (by decide) _ _, h2⟩, fun _ h => by obtain ⟨v1, e1, h1, h2⟩ := h; exact ⟨v1, e1, h1.set y2 (by decide) _ _, h2⟩, fun _ h => by obtain ⟨v1, e1, h1, h2⟩ := h; exact ⟨v1, e1, h1.set y2 (by decide) _ _, h2⟩, fun _ h => h, fun _ h => h, fun _ h => h, fun _ h => h, fun _ h => h, fun _ h => h⟩)
        exact wpOp_plain rfl rfl (wp_store_mid tRL (.tmp 9) (.tmp 68) rfl NN 0 (st'.dc v').toArray e1 e9 T (by rw [List.size_toArray]; exact La.dinfo HOK.out.cf _) hR.one ⟨NN, hl2 20, (hT.skip 20 1000 (by rw [hD]; rfl) (by rw [hl]; decide)), below_setCells hb1 (by omega) _, Row.setCells_other rs _ _ _ (by omega), (fun _ h => absurd (getD_same (by rw [hl]; decide)) h), (fun _ => ⟨e1, m1, ⟨v', y2.over (by rw [La.dlen HOK.out.cf, zRL_len]), hR.set y2 (by decide) _ _, hA⟩⟩)⟩)
      · have hk3 := hk
        exact wpOp_plain rfl rfl (wp_assign_v (ac.eval (.tmp 69)) rfl rfl ⟨NN, hl2 21, (hF.put 21 10 (SP.is (.int .i64 N)) (ac.eval (.tmp 69)) (by rw [hD]; rfl) ((hF.done 17 (69, SP.is (.int .i64 N)) (by rw [hD]; rfl) (ready_dep hk 17 (by kernel_rfl)))) (by rw [hD]; rfl) (by rw [hsz]; decide) (by rw [hl]; decide)), hb1, rs, (fun h1 h2 => ⟨(eval_put_other ac _ (by decide)).trans ((ax19 (by rwa [getD_set _ _ _ (by decide)] at h1) (by rwa [getD_set _ _ _ (by decide)] at h2)).1), (ax19 (by rwa [getD_set _ _ _ (by decide)] at h1) (by rwa [getD_set _ _ _ (by decide)] at h2)).2.1, (ax19 (by rwa [getD_set _ _ _ (by decide)] at h1) (by rwa [getD_set _ _ _ (by decide)] at h2)).2.2⟩), (fun h => ⟨(eval_put_other ac _ (by decide)).trans ((ay19 (by rwa [getD_set _ _ _ (by decide)] at h)).1), (ay19 (by rwa [getD_set _ _ _ (by decide)] at h)).2⟩)⟩)
      · have hk3 := hk
        exact wpOp_plain rfl rfl (wp_assign_v (ac.eval (.tmp 70)) rfl rfl ⟨NN, hl2 22, (hF.put 22 11 (SP.is (.int .i64 E)) (ac.eval (.tmp 70)) (by rw [hD]; rfl) ((hF.done 18 (70, SP.is (.int .i64 E)) (by rw [hD]; rfl) (ready_dep hk 18 (by kernel_rfl)))) (by rw [hD]; rfl) (by rw [hsz]; decide) (by rw [hl]; decide)), hb1, rs, (fun h1 h2 => ⟨(eval_put_other ac _ (by decide)).trans ((ax19 (by rwa [getD_set _ _ _ (by decide)] at h1) (by rwa [getD_set _ _ _ (by decide)] at h2)).1), (ax19 (by rwa [getD_set _ _ _ (by decide)] at h1) (by rwa [getD_set _ _ _ (by decide)] at h2)).2.1, (ax19 (by rwa [getD_set _ _ _ (by decide)] at h1) (by rwa [getD_set _ _ _ (by decide)] at h2)).2.2⟩), (fun h => ⟨(eval_put_other ac _ (by decide)).trans ((ay19 (by rwa [getD_set _ _ _ (by decide)] at h)).1), (ay19 (by rwa [getD_set _ _ _ (by decide)] at h)).2⟩)⟩)
    · clear hb1 rs 
      intro listed ac W hI hr
      obtain ⟨NN, hl, hF, hb1, rs, ax19, ay19⟩ := hI
      have hall := all_listed (by kernel_rfl) hl hr
      obtain ⟨ea9, m9, p9⟩ := ay19 (hall 20 (by decide))
      have h53 : ac.eval (.tmp 53) = .pointer (some ⟨q, 0, none⟩) := hF.done 0 (53, SP.is (.pointer (some ⟨q, 0, none⟩))) (by rw [hD]; rfl) (hall 0 (by decide))
      have h54 : ac.eval (.tmp 54) = .int .i64 (k : Int) := hF.done 1 (54, SP.is (.int .i64 (k : Int))) (by rw [hD]; rfl) (hall 1 (by decide))
      have h55 : ac.eval (.tmp 55) = .pointer (some ⟨q, 0, none⟩) := hF.done 2 (55, SP.is (.pointer (some ⟨q, 0, none⟩))) (by rw [hD]; rfl) (hall 2 (by decide))
      have h56 : ac.eval (.tmp 56) = .pointer (some ⟨q, 3, none⟩) := hF.done 3 (56, SP.is (.pointer (some ⟨q, 3, none⟩))) (by rw [hD]; rfl) (hall 3 (by decide))
      have h57 : ac.eval (.tmp 57) = .pointer (some ⟨q, 3 + k * 70, none⟩) := hF.done 4 (57, SP.is (.pointer (some ⟨q, 3 + k * 70, none⟩))) (by rw [hD]; rfl) (hall 4 (by decide))
      have h58 : ac.eval (.tmp 58) = .agg L.toArray := hF.done 5 (58, SP.is (.agg L.toArray)) (by rw [hD]; rfl) (hall 5 (by decide))
      have h59 : ac.eval (.tmp 59) = .pointer (some ⟨bS, 3, none⟩) := hF.done 6 (59, SP.is (.pointer (some ⟨bS, 3, none⟩))) (by rw [hD]; rfl) (hall 6 (by decide))
      have h60 : ac.eval (.tmp 60) = .agg Lc.toArray := hF.done 7 (60, SP.is (.agg Lc.toArray)) (by rw [hD]; rfl) (hall 7 (by decide))
      have h61 : ac.eval (.tmp 61) = .pointer (some ⟨bS, 69, none⟩) := hF.done 8 (61, SP.is (.pointer (some ⟨bS, 69, none⟩))) (by rw [hD]; rfl) (hall 8 (by decide))
      have h62 : ac.eval (.tmp 62) = .agg (vB s.ad).toArray := hF.done 9 (62, SP.is (.agg (vB s.ad).toArray)) (by rw [hD]; rfl) (hall 9 (by decide))
      have h63 : ac.eval (.tmp 63) = .pointer (some ⟨bS, 89, none⟩) := hF.done 10 (63, SP.is (.pointer (some ⟨bS, 89, none⟩))) (by rw [hD]; rfl) (hall 10 (by decide))
      have h64 : ac.eval (.tmp 64) = .int .i64 s.ib := hF.done 11 (64, SP.is (.int .i64 s.ib)) (by rw [hD]; rfl) (hall 11 (by decide))
      have h65 : ac.eval (.tmp 65) = .pointer (some ⟨bS, 90, none⟩) := hF.done 12 (65, SP.is (.pointer (some ⟨bS, 90, none⟩))) (by rw [hD]; rfl) (hall 12 (by decide))
      have h66 : ac.eval (.tmp 66) = .int .i64 s.now := hF.done 13 (66, SP.is (.int .i64 s.now)) (by rw [hD]; rfl) (hall 13 (by decide))
      obtain ⟨x67, h67⟩ : ∃ x, ac.eval (.tmp 67) = x := ⟨_, rfl⟩
      obtain ⟨x52, h52⟩ : ∃ x, ac.eval (.tmp 52) = x := ⟨_, rfl⟩
      obtain ⟨x68, h68⟩ : ∃ x, ac.eval (.tmp 68) = x := ⟨_, rfl⟩
      have h69 : ac.eval (.tmp 69) = .int .i64 N := hF.done 17 (69, SP.is (.int .i64 N)) (by rw [hD]; rfl) (hall 17 (by decide))
      have h70 : ac.eval (.tmp 70) = .int .i64 E := hF.done 18 (70, SP.is (.int .i64 E)) (by rw [hD]; rfl) (hall 18 (by decide))
      have h10 : ac.eval (.tmp 10) = .int .i64 N := hF.done 21 (10, SP.is (.int .i64 N)) (by rw [hD]; rfl) (hall 21 (by decide))
      have h11 : ac.eval (.tmp 11) = .int .i64 E := hF.done 22 (11, SP.is (.int .i64 E)) (by rw [hD]; rfl) (hall 22 (by decide))
      have ea := hF.lay [(53, .pointer (some ⟨q, 0, none⟩)), (54, .int .i64 (k : Int)), (55, .pointer (some ⟨q, 0, none⟩)), (56, .pointer (some ⟨q, 3, none⟩)), (57, .pointer (some ⟨q, 3 + k * 70, none⟩)), (58, .agg L.toArray), (59, .pointer (some ⟨bS, 3, none⟩)), (60, .agg Lc.toArray), (61, .pointer (some ⟨bS, 69, none⟩)), (62, .agg (vB s.ad).toArray), (63, .pointer (some ⟨bS, 89, none⟩)), (64, .int .i64 s.ib), (65, .pointer (some ⟨bS, 90, none⟩)), (66, .int .i64 s.now), (67, x67), (52, x52), (68, x68), (69, .int .i64 N), (70, .int .i64 E), (9, .pointer (some ⟨NN, 0, none⟩)), (10, .int .i64 N), (11, .int .i64 E)] (by rw [hD, hsz]; rfl) (by simp only [List.forall_mem_cons, List.not_mem_nil, false_implies, implies_true, and_true]; exact ⟨h53, h54, h55, h56, h57, h58, h59, h60, h61, h62, h63, h64, h65, h66, h67, h52, h68, h69, h70, ea9, h10, h11⟩)
      rw [ha0] at ea
      simp only [List.foldl_cons, List.foldl_nil, List.setIfInBounds_toArray, List.set_cons_zero, List.set_cons_succ] at ea
      clear hF hall hr hl hD ax19 ay19 zs0 zs1 zs5 ha0 hsz h53 h54 h55 h56 h57 h58 h59 h60 h61 h62 h63 h64 h65 h66 h67 h52 h68 h69 h70 ea9 h10 h11
      subst ea
      obtain ⟨e2, r28, hR2, hA2⟩ := p9
      obtain ⟨V2, hV2⟩ : ∃ V, V = W := ⟨_, rfl⟩
      rw [← hV2] at r28 hR2 hb1 ⊢
      have HP3 : Hid (Pl w0 V2 q C Ls2 Es T ts) := HPV.out.below hb1
      have HR2 : Hid (Rf V2 e2 C st') := hR2
      have HA2 : Hid (Ap V.heap.size e e2) := hA2
      have hne : NN ≠ q := by have := HPV.out.row.lt; omega
      obtain ⟨D2, hD2⟩ : ∃ M, M = st'.dc e2 := ⟨_, rfl⟩
      rw [← hD2] at r28
      have HD2 : Hid (D2 = st'.dc e2) := hD2
      have HID : Hid ((Try.prog.info? tRL).map (·.size) = some D2.length) := by show _ = _; rw [hD2]; exact La.dinfo HOK.out.cf _
      have HIJ : Hid ((Try.prog.info? tRL).map (·.size) = some D2.toArray.size) := by show _ = _; rw [List.size_toArray]; exact HID.out
      have HDO : Hid (D2.toArray.all (·.oneCell') = true) := by show _ = _; rw [hD2]; exact hR2.one
      have HDL : Hid (D2.length = 70) := by show _ = _; rw [hD2]; exact La.dlen HOK.out.cf _
      obtain ⟨PC, hPC⟩ : ∃ M, M = prc (Ls2.map (·.1)) (Es.map fun e => e.2.dc e.1) T := ⟨_, rfl⟩
      have HPC : Hid (PC = prc (Ls2.map (·.1)) (Es.map fun e => e.2.dc e.1) T) := hPC
      have rq : Row V2 q PC tPr := by rw [hPC]; exact HP3.out.row
      have HPN : Hid (3 + k * 70 + D2.toArray.size ≤ PC.length) := by show _ ≤ _; rw [List.size_toArray, HDL.out, hPC, prc_len (by rw [List.length_map]; exact HP3.out.l3) (by rw [List.length_map]; exact HP3.out.e3) HP3.out.d70]; have := HK3.out; omega
      have hqn : w0.heap.size ≤ q := HP3.out.qn
      have gQ : Gro (· = q) V2 V2 := Gro.refl _ _
      clear hb1
      have hb1 : Below w0.heap.size w0 V2 := HP3.out.be
      clear hV2 hR2 hA2 hD2 hPC rs hbV HRR HRD HPV
      go_upto_region 5 with fail
      refine wp_named fun a0 ha0 => ?_
      have hsz : a0.tmps.size = 244 := by rw [ha0]; rfl
      have zs0 : a0.eval (.tmp 0) = .pointer (some ⟨q, 0, none⟩) := by rw [ha0]; rfl
      have zs1 : a0.eval (.tmp 1) = .int .i64 (k : Int) := by rw [ha0]; rfl
      have zs9 : a0.eval (.tmp 9) = .pointer (some ⟨NN, 0, none⟩) := by rw [ha0]; rfl
      obtain ⟨D, hD⟩ : ∃ D : List (Tmp × SP), D = [(71, SP.is (.pointer (some ⟨q, 0, none⟩))), (72, SP.is (.int .i64 (k : Int))), (73, SP.is (.agg D2.toArray)), (74, SP.is (.pointer (some ⟨q, 0, none⟩))), (75, SP.is (.pointer (some ⟨q, 3, none⟩))), (76, SP.is (.pointer (some ⟨q, 3 + k * 70, none⟩))), (1000, SP.any)] := ⟨_, rfl⟩
      refine wp_region_down (by kernel_rfl) (fun listed ac W => listed.size = 7 ∧ Fp D a0 listed ac W ∧ Below w0.heap.size w0 W ∧ Row W q (if listed.getD 6 false = true then (PC.take (3 + k * 70) ++ D2 ++ PC.drop (3 + k * 70 + D2.length)) else PC) tPr ∧ Row W NN D2 tRL ∧ Gro (· = q) V2 W) ?_ ?_ ?_
      · exact ⟨by simp, Fp.start D a0 _ _, Below.drew hb1, (by rw [if_neg (fun h => start_no h)]; exact Row.drew rq), Row.drew r28, gQ.below (Below.drew (Below.refl _ _))⟩
      · clear ha0 hb1 rq r28 gQ 
        intro listed ac W k hI hdn hk
        obtain ⟨hl, hF, hb1, rq, r28, gQ⟩ := hI
        have hk1 : k < 7 := List.mem_range.1 (List.mem_filter.1 hk).1
        have hl2 : ∀ j, (listed.setIfInBounds j true).size = 7 := fun j => by rw [Array.size_setIfInBounds]; exact hl
        rcases (show k = 0 ∨ k = 1 ∨ k = 2 ∨ k = 3 ∨ k = 4 ∨ k = 5 ∨ k = 6 by omega) with rfl | rfl | rfl | rfl | rfl | rfl | rfl
        · have hk3 := hk
          exact wpOp_plain rfl rfl (wp_move_v (ac.eval (.tmp 0)) rfl rfl ⟨hl2 0, (hF.put 0 71 (SP.is (.pointer (some ⟨q, 0, none⟩))) (ac.eval (.tmp 0)) (by rw [hD]; rfl) (((hF.keep 0 (by rw [hD]; rfl)).trans zs0)) (by rw [hD]; rfl) (by rw [hsz]; decide) (by rw [hl]; decide)), hb1, (by rw [getD_set _ _ _ (by decide)]; exact rq), r28, gQ⟩)
        · have hk3 := hk
          exact wpOp_plain rfl rfl (wp_move_v (ac.eval (.tmp 1)) rfl rfl ⟨hl2 1, (hF.put 1 72 (SP.is (.int .i64 (k : Int))) (ac.eval (.tmp 1)) (by rw [hD]; rfl) (((hF.keep 1 (by rw [hD]; rfl)).trans zs1)) (by rw [hD]; rfl) (by rw [hsz]; decide) (by rw [hl]; decide)), hb1, (by rw [getD_set _ _ _ (by decide)]; exact rq), r28, gQ⟩)
        · have hk3 := hk
          exact wpOp_plain rfl rfl (wp_load_mid tRL (.tmp 9) rfl NN 0 ((hF.keep 9 (by rw [hD]; rfl)).trans zs9) D2 _ r28.all Try.underlying44 rfl HID.out ⟨hl2 2, (hF.put 2 73 (SP.is (.agg D2.toArray)) (.agg D2.toArray) (by rw [hD]; rfl) rfl (by rw [hD]; rfl) (by rw [hsz]; decide) (by rw [hl]; decide)), hb1, (by rw [getD_set _ _ _ (by decide)]; exact rq), r28, gQ⟩)
        · have hk3 := hk
          have ea := (hF.done 0 (71, SP.is (.pointer (some ⟨q, 0, none⟩))) (by rw [hD]; rfl) (ready_dep hk 0 (by kernel_rfl)))
          exact wpOp_plain rfl rfl (wp_nilL rfl q ea ⟨hl2 3, (hF.put 3 74 (SP.is (.pointer (some ⟨q, 0, none⟩))) (.pointer (some ⟨q, 0, none⟩)) (by rw [hD]; rfl) rfl (by rw [hD]; rfl) (by rw [hsz]; decide) (by rw [hl]; decide)), hb1, (by rw [getD_set _ _ _ (by decide)]; exact rq), r28, gQ⟩)
        · have hk3 := hk
          have ea := (hF.done 3 (74, SP.is (.pointer (some ⟨q, 0, none⟩))) (by rw [hD]; rfl) (ready_dep hk 3 (by kernel_rfl)))
          exact wpOp_plain rfl rfl (wp_fPr1 rfl q ea ⟨hl2 4, (hF.put 4 75 (SP.is (.pointer (some ⟨q, 3, none⟩))) (.pointer (some ⟨q, 3, none⟩)) (by rw [hD]; rfl) rfl (by rw [hD]; rfl) (by rw [hsz]; decide) (by rw [hl]; decide)), hb1, (by rw [getD_set _ _ _ (by decide)]; exact rq), r28, gQ⟩)
        · have hk3 := hk
          have ea := (hF.done 4 (75, SP.is (.pointer (some ⟨q, 3, none⟩))) (by rw [hD]; rfl) (ready_dep hk 4 (by kernel_rfl)))
          have eb := (hF.done 1 (72, SP.is (.int .i64 (k : Int))) (by rw [hD]; rfl) (ready_dep hk 1 (by kernel_rfl)))
          exact wpOp_plain rfl rfl (wp_ixO tR3 tRL rfl q 3 k 70 3 (3 + k * 70) ea eb HK3.out und_R3 info_RL rfl ⟨hl2 5, (hF.put 5 76 (SP.is (.pointer (some ⟨q, 3 + k * 70, none⟩))) (.pointer (some ⟨q, 3 + k * 70, none⟩)) (by rw [hD]; rfl) rfl (by rw [hD]; rfl) (by rw [hsz]; decide) (by rw [hl]; decide)), hb1, (by rw [getD_set _ _ _ (by decide)]; exact rq), r28, gQ⟩)
        · have hk3 := hk
          have hno : ¬ listed.getD 6 false = true := not_yet hk
          rw [if_neg hno] at rq
          have T := rq.there (3 + k * 70) D2.toArray.size HPN.out
          have fin := Row.setCells (3 + k * 70) D2 rq (by have := HPN.out; rwa [List.size_toArray] at this)
          have hT : Fp D a0 listed ac (W.setCells q (3 + k * 70) D2) := hF.turn (by rw [hD]; simp only [List.forall_mem_cons, List.not_mem_nil, false_implies, implies_true, and_true]; exact ⟨fun _ h => h, fun _ h => h, fun _ h => h, fun _ h => h, fun _ h => h, fun _ h => h, fun _ h => h⟩)
          exact wpOp_plain rfl rfl (wp_store_mid tRL (.tmp 76) (.tmp 73) rfl q (3 + k * 70) D2.toArray (hF.done 5 (76, SP.is (.pointer (some ⟨q, 3 + k * 70, none⟩))) (by rw [hD]; rfl) (ready_dep hk 5 (by kernel_rfl))) (hF.done 2 (73, SP.is (.agg D2.toArray)) (by rw [hD]; rfl) (ready_dep hk 2 (by kernel_rfl))) T HIJ.out HDO.out ⟨hl2 6, (hT.skip 6 1000 (by rw [hD]; rfl) (by rw [hl]; decide)), below_setCells hb1 (by omega) _, (by rw [if_pos (getD_same (by rw [hl]; decide))]; exact fin), Row.setCells_other r28 _ _ _ (by omega), gQ.trans (gro_setsL W q (3 + k * 70) D2)⟩)
      · clear hb1 rq r28 gQ 
        intro listed ac W hI hr
        obtain ⟨hl, hF, hb1, rq, r28, gQ⟩ := hI
        have hall := all_listed (by kernel_rfl) hl hr
        rw [if_pos (hall 6 (by decide))] at rq
        have h71 : ac.eval (.tmp 71) = .pointer (some ⟨q, 0, none⟩) := hF.done 0 (71, SP.is (.pointer (some ⟨q, 0, none⟩))) (by rw [hD]; rfl) (hall 0 (by decide))
        have h72 : ac.eval (.tmp 72) = .int .i64 (k : Int) := hF.done 1 (72, SP.is (.int .i64 (k : Int))) (by rw [hD]; rfl) (hall 1 (by decide))
        have h73 : ac.eval (.tmp 73) = .agg D2.toArray := hF.done 2 (73, SP.is (.agg D2.toArray)) (by rw [hD]; rfl) (hall 2 (by decide))
        have h74 : ac.eval (.tmp 74) = .pointer (some ⟨q, 0, none⟩) := hF.done 3 (74, SP.is (.pointer (some ⟨q, 0, none⟩))) (by rw [hD]; rfl) (hall 3 (by decide))
        have h75 : ac.eval (.tmp 75) = .pointer (some ⟨q, 3, none⟩) := hF.done 4 (75, SP.is (.pointer (some ⟨q, 3, none⟩))) (by rw [hD]; rfl) (hall 4 (by decide))
        have h76 : ac.eval (.tmp 76) = .pointer (some ⟨q, 3 + k * 70, none⟩) := hF.done 5 (76, SP.is (.pointer (some ⟨q, 3 + k * 70, none⟩))) (by rw [hD]; rfl) (hall 5 (by decide))
        have ea := hF.lay [(71, .pointer (some ⟨q, 0, none⟩)), (72, .int .i64 (k : Int)), (73, .agg D2.toArray), (74, .pointer (some ⟨q, 0, none⟩)), (75, .pointer (some ⟨q, 3, none⟩)), (76, .pointer (some ⟨q, 3 + k * 70, none⟩))] (by rw [hD, hsz]; rfl) (by simp only [List.forall_mem_cons, List.not_mem_nil, false_implies, implies_true, and_true]; exact ⟨h71, h72, h73, h74, h75, h76⟩)
        rw [ha0] at ea
        simp only [List.foldl_cons, List.foldl_nil, List.setIfInBounds_toArray, List.set_cons_zero, List.set_cons_succ] at ea
        clear hF hall hr hl hD  zs0 zs1 zs9 ha0 hsz h71 h72 h73 h74 h75 h76
        subst ea
        have FP : Hid (Pl w0 W q C Ls2 (Es.set k (e2, st')) T ts) := HP3.out.setE HK3.out HR2.out (fun g eg l hl => by
          rcases HA2.out g eg with z | z
          · exact HP3.out.ra (e, st) (List.mem_of_getElem? HEK.out) g z l hl
          · intro tb
            have := (HPVL.out l hl).lt g tb
            omega) (by rw [HPC.out, HD2.out] at rq; exact rq) gQ
        clear rq r28 gQ hb1
        go_wp2_with fail
        go_ret
        exact ⟨by simp, v1, e2, st', by rw [← HL2.out]; exact FP.out⟩

end Go.Proofs.Ytfdbjcdcfmnicaa
