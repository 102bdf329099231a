/-
  LadderPlays: turn at Confirm.
-/
import Derived.Test.YtfdbjcdcfmnicaaLpM
namespace Go.Proofs.Ytfdbjcdcfmnicaa
open Go Go.RowKit
open Sha

theorem confirm_wfL {B : Int} {st st' : La} {now E : Int} {y : Pn} (hok : st.Ok B) (h : st.confirm now = (st', y, E)) : y.Wf := by
  unfold La.confirm at h
  split at h
  · cases h; exact zP_wf
  · split at h
    · cases h; exact zP_wf
    · rename_i x rest hp
      split at h
      · cases h; exact zP_wf
      · split at h
        · cases h; exact zP_wf
        · cases h; exact hok.pw y (by rw [hp]; exact List.mem_cons_self ..)
/-- A block that is new is written. -/
theorem Pl.newN {w0 w V : World} {q : Nat} {B : Int} {Ls : List (Nat × Value × La)} {Es : List (Value × La)} {T : Value} {ts : List (Value × Nat)} {k p N : Nat} {v v1 : Value} {st st' : La} (h : Pl w0 w q B (Ls.set k (p, v1, st')) Es T ts) (hV : Pl w0 V q B Ls Es T ts) (hk : Ls[k]? = some (p, v, st)) (hv1 : v1.ownBlock = v.ownBlock) (hN : V.heap.size ≤ N) (o : Nat) (vs : List Value) : Pl w0 (w.setCells N o vs) q B (Ls.set k (p, v1, st')) Es T ts :=
  h.gro (gro_setsL w N o vs) (fun e => by have := hV.row.lt; omega) (fun g e z => by have := Lw.lt hV.tl g e; omega) (fun x hx g e z => by have := (hV.rf x hx).own.lt g e; omega) (fun y hy g e z => by obtain ⟨j, hj, rfl⟩ := List.getElem_of_mem hy; have := (hV.ti j _ (List.getElem?_eq_getElem hj)).1.lt g e; omega) (fun l hl g e z => by
    rcases List.mem_or_eq_of_mem_set hl with y | y
    · have := (hV.ladm y).lt g e; omega
    · subst y
      have := (hV.lad hk).lt g (e.imp id (fun x => by rw [← hv1]; exact x))
      omega) (fun g z => by have := hV.be.size; omega)
set_option maxRecDepth 100000 in
set_option maxHeartbeats 16000000 in
theorem turn_conf {w0 w : World} {q : Nat} {B : Int} {Ls : List (Nat × Value × La)} {Es : List (Value × La)} {T : Value} {ts : List (Value × Nat)} (h : Pl w0 w q B Ls Es T ts) {k p : Nat} {v e : Value} {st : La} (hk : Ls[k]? = some (p, v, st)) (he : Es[k]? = some (e, st)) (s : Sp16) (hs : s.Ok) (hkd : s.kd = 2) (S : List Value) (hS : S = s.cells) :
    Calls Try.prog 17 #[.pointer (some ⟨q, 0, none⟩), .int .i64 (k : Int), .agg S.toArray] w fun r w' => r = .returned (.bool true) ∧ ∃ v' e' st', Pl w0 w' q B (Ls.set k (p, v', st')) (Es.set k (e', st')) T ts := by
  obtain ⟨st', y, E, hr⟩ : ∃ st' y E, st.confirm s.now = (st', y, E) := ⟨_, _, _, rfl⟩
  have hk3 : k < 3 := by have := (List.getElem?_eq_some_iff.1 hk).1; rw [h.l3] at this; exact this
  have HK3 : Hid (k < 3) := hk3
  have HPL : Hid (Pl w0 w q B Ls Es T ts) := h
  have HLK : Hid (Ls[k]? = some (p, v, st)) := hk
  have HEK : Hid (Es[k]? = some (e, st)) := he
  have HYW : Hid y.Wf := confirm_wfL (st := st) (B := B) (h.lad hk).ok hr
  obtain ⟨Ly, hLy⟩ : ∃ M, M = y.cells := ⟨_, rfl⟩
  have HLY : Hid (Ly = y.cells) := hLy
  have HIY : Hid ((Try.prog.info? tP).map (·.size) = some Ly.length) := by show _ = _; rw [hLy]; exact Pn.info HYW.out
  have HYJ : Hid ((Try.prog.info? tP).map (·.size) = some Ly.toArray.size) := by show _ = _; rw [List.size_toArray]; exact HIY.out
  have HYO : Hid (Ly.toArray.all (·.oneCell') = true) := by show _ = _; rw [hLy]; exact all_one (Pn.one y)
  have HYL : Hid (Ly.length = zP.cells.length) := by show _ = _; rw [hLy]; exact (Pn.len HYW.out).trans (Pn.len zP_wf).symm
  have HYT : Hid (0 + Ly.toArray.size ≤ zP.cells.length) := by show _ ≤ _; rw [List.size_toArray, HYL.out]; omega
  have HNW : Hid (S[90]? = some (.int .i64 s.now)) := by rw [hS]; exact Sp16.at_now hs
  have HKD : Hid (S[0]? = some (.int .i64 2)) := by rw [hS, ← hkd]; exact Sp16.at_kd s
  have HCP0 : Hid ((prc (Ls.map (·.1)) (Es.map fun e => e.2.dc e.1) T)[k]? = some (.pointer (some ⟨p, 0, none⟩))) := prc_p (by rw [List.getElem?_map, hk]; rfl)
  have HRL : Hid (∀ W, Pl w0 W q B Ls Es T ts → Calls Try.prog 24 #[.pointer (some ⟨p, 0, none⟩), .int .i64 s.now] W fun r w' => r = .returned (.tuple #[.agg Ly.toArray, .int .i64 E]) ∧ Ts W w' p v B st') := fun W hP => by rw [hLy]; exact confirm_any (hP.lad hk) s.now st' y E hr
  obtain ⟨L, hL⟩ : ∃ L, L = st.dc e := ⟨_, rfl⟩
  have HIL : Hid ((Try.prog.info? tRL).map (·.size) = some L.length) := by show _ = _; rw [hL]; exact La.dinfo (h.rf _ (List.mem_of_getElem? he)).ok.cf _
  have HRD0 : Hid (∀ W Ls2, Pl w0 W q B Ls2 Es T ts → W.rangeAt q (3 + k * 70) L) := fun W Ls2 hP => hP.row.range (3 + k * 70) _ (fun j u hj => prc_d (by rw [List.length_map]; exact hP.l3) hP.d70 (by rw [List.getElem?_map, he]; rfl) j u (by rw [hL] at hj; exact hj))
  have HRR0 : Hid (∀ W Ls2, Pl w0 W q B Ls2 Es T ts → Calls Try.prog 57 #[.agg L.toArray, .int .i64 s.now] W fun r w' => ∃ v', r = .returned (.tuple #[.agg (st'.dc v').toArray, .agg Ly.toArray, .int .i64 E]) ∧ Rf w' v' B st' ∧ Nv W e v' ∧ Below W.heap.size W w') := fun W Ls2 hP => by rw [hLy]; exact rconfirm_any (hP.rf _ (List.mem_of_getElem? he)) s.now L hL st' y E hr
  clear h hk he hs hkd hS hr hk3 hL hLy
  go_enter Try.func17, Try.ntmps17
  go_upto_region 8 with (refine wpList_bxG tSt rfl (.tmp 2) rfl S rfl ?_; intro X1 q1 q2 q3; clear q3; have ck : X1.cell? ⟨w.heap.size, 0, none⟩ = some (.int .i64 2) := q1.cell 0 _ HKD.out; have RS : Hid (Row X1 w.heap.size S tSt) := q1; have HP1 : Hid (Pl w0 X1 q B Ls Es T ts) := HPL.out.below q2; clear q1 q2; simp only [Act.put, List.setIfInBounds_toArray, List.set_cons_zero, List.set_cons_succ])
  obtain ⟨bS, hbS⟩ : ∃ b, b = w.heap.size := ⟨_, rfl⟩
  rw [← hbS] at RS ⊢
  clear hbS ck HPL
  have hpre := HP1.out
  have rs := RS.out
  obtain ⟨PC, hPC⟩ : ∃ M, M = prc (Ls.map (·.1)) (Es.map fun e => e.2.dc e.1) T := ⟨_, rfl⟩
  rw [← hPC] at HCP0
  have rq : Row X1 q PC tPr := by rw [hPC]; exact HP1.out.row
  have HTQ : Hid (¬ Tb p v q) := tb_ty HP1.out (List.mem_of_getElem? HLK.out) HP1.out.row (by decide) (by decide)
  have HTS : Hid (¬ Tb p v bS) := tb_ty HP1.out (List.mem_of_getElem? HLK.out) RS.out (by decide) (by decide)
  have HTL : Hid (∀ g, Tb p v g → g < X1.heap.size) := fun g z => (HP1.out.lad HLK.out).lt g z
  have hqX := rq.lt
  have hbX := rs.lt
  have hw0 := HP1.out.be.size
  have hb1 := HP1.out.be
  have HX1 : Hid (∀ W, Below w0.heap.size w0 W → True) := fun _ _ => trivial
  clear RS hPC HX1
  refine wp_named fun a0 ha0 => ?_
  have hsz : a0.tmps.size = 244 := by rw [ha0]; rfl
  have zs0 : a0.eval (.tmp 0) = .pointer (some ⟨q, 0, none⟩) := by rw [ha0]; rfl
  have zs1 : a0.eval (.tmp 1) = .int .i64 (k : Int) := by rw [ha0]; rfl
  have zs5 : a0.eval (.tmp 5) = .pointer (some ⟨bS, 0, none⟩) := by rw [ha0]; rfl
  obtain ⟨D, hD⟩ : ∃ D : List (Tmp × SP), D = [(88, SP.is (.pointer (some ⟨q, 0, none⟩))), (89, SP.is (.int .i64 (k : Int))), (90, SP.is (.pointer (some ⟨q, 0, none⟩))), (91, SP.is (.pointer (some ⟨q, 0, none⟩))), (92, SP.is (.pointer (some ⟨q, k, none⟩))), (93, SP.is (.pointer (some ⟨p, 0, none⟩))), (94, SP.is (.pointer (some ⟨bS, 90, none⟩))), (95, SP.is (.int .i64 s.now)), (96, SP.is (.tuple #[.agg Ly.toArray, .int .i64 E])), (87, SP.is (.tuple #[.agg Ly.toArray, .int .i64 E])), (97, SP.is (.agg Ly.toArray)), (98, SP.is (.int .i64 E)), (12, SP.any), (1000, SP.any), (13, SP.is (.int .i64 E))] := ⟨_, rfl⟩
  refine wp_region_down (by kernel_rfl) (fun listed ac W => ∃ NN : Nat, listed.size = 15 ∧ Fp D a0 listed ac W ∧ Below w0.heap.size w0 W ∧ X1.heap.size ≤ W.heap.size ∧ Row W q PC tPr ∧ Row W bS S tSt ∧ (¬ listed.getD 8 false = true → Pl w0 W q B Ls Es T ts) ∧ (listed.getD 8 false = true → (∃ v1, v1.ownBlock = v.ownBlock ∧ Pl w0 W q B (Ls.set k (p, v1, st')) Es T ts)) ∧ (listed.getD 12 false = true → ac.eval (.tmp 12) = .pointer (some ⟨NN, 0, none⟩) ∧ X1.heap.size ≤ NN ∧ Row W NN (if listed.getD 13 false = true then Ly else zP.cells) tP)) ?_ ?_ ?_
  · exact ⟨0, by simp, Fp.start D a0 _ _, Below.drew hb1, Nat.le_refl _, Row.drew rq, Row.drew rs, (fun _ => hpre.below (Below.drew (Below.refl _ _))), (fun h => (start_no h).elim), (fun h => (start_no h).elim)⟩
  · clear ha0 hb1 rq rs hpre
    intro listed ac W k hI hdn hk
    obtain ⟨NN, hl, hF, hb1, hszW, rq, rs, hpre, hpost, hal⟩ := hI
    have hk1 : k < 15 := List.mem_range.1 (List.mem_filter.1 hk).1
    have hl2 : ∀ j, (listed.setIfInBounds j true).size = 15 := fun j => by rw [Array.size_setIfInBounds]; exact hl
    rcases (show k = 0 ∨ k = 1 ∨ k = 2 ∨ k = 3 ∨ k = 4 ∨ k = 5 ∨ k = 6 ∨ k = 7 ∨ k = 8 ∨ k = 9 ∨ k = 10 ∨ k = 11 ∨ k = 12 ∨ k = 13 ∨ k = 14 by omega) with rfl | rfl | rfl | rfl | rfl | rfl | rfl | rfl | rfl | rfl | rfl | rfl | rfl | rfl | rfl
    · have hk3 := hk
      exact wpOp_plain rfl rfl (wp_move_v (ac.eval (.tmp 0)) rfl rfl ⟨NN, hl2 0, (hF.put 0 88 (SP.is (.pointer (some ⟨q, 0, none⟩))) (ac.eval (.tmp 0)) (by rw [hD]; rfl) (((hF.keep 0 (by rw [hD]; rfl)).trans zs0)) (by rw [hD]; rfl) (by rw [hsz]; decide) (by rw [hl]; decide)), hb1, hszW, rq, rs, (fun h => hpre (by rwa [getD_set _ _ _ (by decide)] at h)), (fun h => hpost (by rwa [getD_set _ _ _ (by decide)] at h)), (fun h => ⟨(eval_put_other ac _ (by decide)).trans (hal (by rwa [getD_set _ _ _ (by decide)] at h)).1, (hal (by rwa [getD_set _ _ _ (by decide)] at h)).2.1, by rw [getD_set _ _ _ (by decide)]; exact (hal (by rwa [getD_set _ _ _ (by decide)] at h)).2.2⟩)⟩)
    · have hk3 := hk
      exact wpOp_plain rfl rfl (wp_move_v (ac.eval (.tmp 1)) rfl rfl ⟨NN, hl2 1, (hF.put 1 89 (SP.is (.int .i64 (k : Int))) (ac.eval (.tmp 1)) (by rw [hD]; rfl) (((hF.keep 1 (by rw [hD]; rfl)).trans zs1)) (by rw [hD]; rfl) (by rw [hsz]; decide) (by rw [hl]; decide)), hb1, hszW, rq, rs, (fun h => hpre (by rwa [getD_set _ _ _ (by decide)] at h)), (fun h => hpost (by rwa [getD_set _ _ _ (by decide)] at h)), (fun h => ⟨(eval_put_other ac _ (by decide)).trans (hal (by rwa [getD_set _ _ _ (by decide)] at h)).1, (hal (by rwa [getD_set _ _ _ (by decide)] at h)).2.1, by rw [getD_set _ _ _ (by decide)]; exact (hal (by rwa [getD_set _ _ _ (by decide)] at h)).2.2⟩)⟩)
    · have hk3 := hk
      have ea := (hF.done 0 (88, SP.is (.pointer (some ⟨q, 0, none⟩))) (by rw [hD]; rfl) (ready_dep hk 0 (by kernel_rfl)))
      exact wpOp_plain rfl rfl (wp_nilL rfl q ea ⟨NN, hl2 2, (hF.put 2 90 (SP.is (.pointer (some ⟨q, 0, none⟩))) (.pointer (some ⟨q, 0, none⟩)) (by rw [hD]; rfl) rfl (by rw [hD]; rfl) (by rw [hsz]; decide) (by rw [hl]; decide)), hb1, hszW, rq, rs, (fun h => hpre (by rwa [getD_set _ _ _ (by decide)] at h)), (fun h => hpost (by rwa [getD_set _ _ _ (by decide)] at h)), (fun h => ⟨(eval_put_other ac _ (by decide)).trans (hal (by rwa [getD_set _ _ _ (by decide)] at h)).1, (hal (by rwa [getD_set _ _ _ (by decide)] at h)).2.1, by rw [getD_set _ _ _ (by decide)]; exact (hal (by rwa [getD_set _ _ _ (by decide)] at h)).2.2⟩)⟩)
    · have hk3 := hk
      have ea := (hF.done 2 (90, SP.is (.pointer (some ⟨q, 0, none⟩))) (by rw [hD]; rfl) (ready_dep hk 2 (by kernel_rfl)))
      exact wpOp_plain rfl rfl (wp_fPr0 rfl q ea ⟨NN, hl2 3, (hF.put 3 91 (SP.is (.pointer (some ⟨q, 0, none⟩))) (.pointer (some ⟨q, 0, none⟩)) (by rw [hD]; rfl) rfl (by rw [hD]; rfl) (by rw [hsz]; decide) (by rw [hl]; decide)), hb1, hszW, rq, rs, (fun h => hpre (by rwa [getD_set _ _ _ (by decide)] at h)), (fun h => hpost (by rwa [getD_set _ _ _ (by decide)] at h)), (fun h => ⟨(eval_put_other ac _ (by decide)).trans (hal (by rwa [getD_set _ _ _ (by decide)] at h)).1, (hal (by rwa [getD_set _ _ _ (by decide)] at h)).2.1, by rw [getD_set _ _ _ (by decide)]; exact (hal (by rwa [getD_set _ _ _ (by decide)] at h)).2.2⟩)⟩)
    · have hk3 := hk
      have ea := (hF.done 3 (91, SP.is (.pointer (some ⟨q, 0, none⟩))) (by rw [hD]; rfl) (ready_dep hk 3 (by kernel_rfl)))
      have eb := (hF.done 1 (89, SP.is (.int .i64 (k : Int))) (by rw [hD]; rfl) (ready_dep hk 1 (by kernel_rfl)))
      exact wpOp_plain rfl rfl (wp_ixO tL3 tLp rfl q 3 k 1 0 k ea eb HK3.out und_L3 info_Lp (by omega) ⟨NN, hl2 4, (hF.put 4 92 (SP.is (.pointer (some ⟨q, k, none⟩))) (.pointer (some ⟨q, k, none⟩)) (by rw [hD]; rfl) rfl (by rw [hD]; rfl) (by rw [hsz]; decide) (by rw [hl]; decide)), hb1, hszW, rq, rs, (fun h => hpre (by rwa [getD_set _ _ _ (by decide)] at h)), (fun h => hpost (by rwa [getD_set _ _ _ (by decide)] at h)), (fun h => ⟨(eval_put_other ac _ (by decide)).trans (hal (by rwa [getD_set _ _ _ (by decide)] at h)).1, (hal (by rwa [getD_set _ _ _ (by decide)] at h)).2.1, by rw [getD_set _ _ _ (by decide)]; exact (hal (by rwa [getD_set _ _ _ (by decide)] at h)).2.2⟩)⟩)
    · have hk3 := hk
      have ea := (hF.done 4 (92, SP.is (.pointer (some ⟨q, k, none⟩))) (by rw [hD]; rfl) (ready_dep hk 4 (by kernel_rfl)))
      exact wpOp_plain rfl rfl (wp_ld1 q k (.pointer (some ⟨p, 0, none⟩)) rfl ea (ld_Lp W q k _ (rq.cell k _ HCP0.out)) ⟨NN, hl2 5, (hF.put 5 93 (SP.is (.pointer (some ⟨p, 0, none⟩))) (.pointer (some ⟨p, 0, none⟩)) (by rw [hD]; rfl) rfl (by rw [hD]; rfl) (by rw [hsz]; decide) (by rw [hl]; decide)), hb1, hszW, rq, rs, (fun h => hpre (by rwa [getD_set _ _ _ (by decide)] at h)), (fun h => hpost (by rwa [getD_set _ _ _ (by decide)] at h)), (fun h => ⟨(eval_put_other ac _ (by decide)).trans (hal (by rwa [getD_set _ _ _ (by decide)] at h)).1, (hal (by rwa [getD_set _ _ _ (by decide)] at h)).2.1, by rw [getD_set _ _ _ (by decide)]; exact (hal (by rwa [getD_set _ _ _ (by decide)] at h)).2.2⟩)⟩)
    · have hk3 := hk
      have ea := ((hF.keep 5 (by rw [hD]; rfl)).trans zs5)
      exact wpOp_plain rfl rfl (wp_fSt6 rfl bS ea ⟨NN, hl2 6, (hF.put 6 94 (SP.is (.pointer (some ⟨bS, 90, none⟩))) (.pointer (some ⟨bS, 90, none⟩)) (by rw [hD]; rfl) rfl (by rw [hD]; rfl) (by rw [hsz]; decide) (by rw [hl]; decide)), hb1, hszW, rq, rs, (fun h => hpre (by rwa [getD_set _ _ _ (by decide)] at h)), (fun h => hpost (by rwa [getD_set _ _ _ (by decide)] at h)), (fun h => ⟨(eval_put_other ac _ (by decide)).trans (hal (by rwa [getD_set _ _ _ (by decide)] at h)).1, (hal (by rwa [getD_set _ _ _ (by decide)] at h)).2.1, by rw [getD_set _ _ _ (by decide)]; exact (hal (by rwa [getD_set _ _ _ (by decide)] at h)).2.2⟩)⟩)
    · have hk3 := hk
      have ea := (hF.done 6 (94, SP.is (.pointer (some ⟨bS, 90, none⟩))) (by rw [hD]; rfl) (ready_dep hk 6 (by kernel_rfl)))
      exact wpOp_plain rfl rfl (wp_ld1 bS 90 (.int .i64 s.now) rfl ea (ld_int W bS 90 _ (rs.cell 90 _ HNW.out)) ⟨NN, hl2 7, (hF.put 7 95 (SP.is (.int .i64 s.now)) (.int .i64 s.now) (by rw [hD]; rfl) rfl (by rw [hD]; rfl) (by rw [hsz]; decide) (by rw [hl]; decide)), hb1, hszW, rq, rs, (fun h => hpre (by rwa [getD_set _ _ _ (by decide)] at h)), (fun h => hpost (by rwa [getD_set _ _ _ (by decide)] at h)), (fun h => ⟨(eval_put_other ac _ (by decide)).trans (hal (by rwa [getD_set _ _ _ (by decide)] at h)).1, (hal (by rwa [getD_set _ _ _ (by decide)] at h)).2.1, by rw [getD_set _ _ _ (by decide)]; exact (hal (by rwa [getD_set _ _ _ (by decide)] at h)).2.2⟩)⟩)
    · have hk3 := hk
      have e93 := (hF.done 5 (93, SP.is (.pointer (some ⟨p, 0, none⟩))) (by rw [hD]; rfl) (ready_dep hk 5 (by kernel_rfl)))
      have e95 := (hF.done 7 (95, SP.is (.int .i64 s.now)) (by rw [hD]; rfl) (ready_dep hk 7 (by kernel_rfl)))
      have hp0 := hpre (not_yet hk)
      refine wpOp_plain rfl rfl (wp_fcall_v 24 #[.pointer (some ⟨p, 0, none⟩), .int .i64 s.now] rfl rfl (by show [ac.eval (.tmp 93), ac.eval (.tmp 95)] = _; rw [show ac.eval (.tmp 93) = _ from e93, show ac.eval (.tmp 95) = _ from e95]) (by go_simp) ((HRL.out W hp0).mono ?_))
      rintro e W2 ⟨rfl, hT2⟩
      have hG : Gro (Tb p v) W W2 := (by obtain ⟨_, _, g, _⟩ := hT2; exact g)
      have hno : ¬ listed.getD 8 false = true := not_yet hk
      have hT : Fp D a0 listed ac W2 := hF.turn (by rw [hD]; simp only [List.forall_mem_cons, List.not_mem_nil, false_implies, implies_true, and_true]; exact ⟨fun _ h => h, fun _ h => h, fun _ h => h, fun _ h => h, fun _ h => h, fun _ h => h, fun _ h => h, fun _ h => h, fun _ h => h, fun _ h => h, fun _ h => h, fun _ h => h, fun _ h => h, fun _ h => h, fun _ h => h⟩)
      have hPO : (∃ v1, v1.ownBlock = v.ownBlock ∧ Pl w0 W2 q B (Ls.set k (p, v1, st')) Es T ts) := (hp0.turnS HLK.out (Int.le_refl _) hT2)
      exact ⟨_, rfl, NN, hl2 8, (hT.put 8 96 (SP.is (.tuple #[.agg Ly.toArray, .int .i64 E])) (.tuple #[.agg Ly.toArray, .int .i64 E]) (by rw [hD]; rfl) rfl (by rw [hD]; rfl) (by rw [hsz]; decide) (by rw [hl]; decide)), (by obtain ⟨_, _, z⟩ := hPO; exact z.be), Nat.le_trans hszW hG.size, hG.row rq HTQ.out, hG.row rs HTS.out, (fun h => absurd (getD_same (by rw [hl]; decide)) h), (fun _ => hPO), (fun h => ⟨(eval_put_other ac _ (by decide)).trans (hal (by rwa [getD_set _ _ _ (by decide)] at h)).1, (hal (by rwa [getD_set _ _ _ (by decide)] at h)).2.1, by rw [getD_set _ _ _ (by decide)]; exact hG.row (hal (by rwa [getD_set _ _ _ (by decide)] at h)).2.2 (fun z => by have := HTL.out NN z; have := (hal (by rwa [getD_set _ _ _ (by decide)] at h)).2.1; omega)⟩)⟩
    · have hk3 := hk
      exact wpOp_plain rfl rfl (wp_move_v (ac.eval (.tmp 96)) rfl rfl ⟨NN, hl2 9, (hF.put 9 87 (SP.is (.tuple #[.agg Ly.toArray, .int .i64 E])) (ac.eval (.tmp 96)) (by rw [hD]; rfl) ((hF.done 8 (96, SP.is (.tuple #[.agg Ly.toArray, .int .i64 E])) (by rw [hD]; rfl) (ready_dep hk 8 (by kernel_rfl)))) (by rw [hD]; rfl) (by rw [hsz]; decide) (by rw [hl]; decide)), hb1, hszW, rq, rs, (fun h => hpre (by rwa [getD_set _ _ _ (by decide)] at h)), (fun h => hpost (by rwa [getD_set _ _ _ (by decide)] at h)), (fun h => ⟨(eval_put_other ac _ (by decide)).trans (hal (by rwa [getD_set _ _ _ (by decide)] at h)).1, (hal (by rwa [getD_set _ _ _ (by decide)] at h)).2.1, by rw [getD_set _ _ _ (by decide)]; exact (hal (by rwa [getD_set _ _ _ (by decide)] at h)).2.2⟩)⟩)
    · have hk3 := hk
      exact wpOp_plain rfl rfl (wp_extract (.tmp 87) 0 rfl _ (hF.done 9 (87, SP.is (.tuple #[.agg Ly.toArray, .int .i64 E])) (by rw [hD]; rfl) (ready_dep hk 9 (by kernel_rfl))) _ rfl ⟨NN, hl2 10, (hF.put 10 97 (SP.is (.agg Ly.toArray)) (_) (by rw [hD]; rfl) rfl (by rw [hD]; rfl) (by rw [hsz]; decide) (by rw [hl]; decide)), hb1, hszW, rq, rs, (fun h => hpre (by rwa [getD_set _ _ _ (by decide)] at h)), (fun h => hpost (by rwa [getD_set _ _ _ (by decide)] at h)), (fun h => ⟨(eval_put_other ac _ (by decide)).trans (hal (by rwa [getD_set _ _ _ (by decide)] at h)).1, (hal (by rwa [getD_set _ _ _ (by decide)] at h)).2.1, by rw [getD_set _ _ _ (by decide)]; exact (hal (by rwa [getD_set _ _ _ (by decide)] at h)).2.2⟩)⟩)
    · have hk3 := hk
      exact wpOp_plain rfl rfl (wp_extract (.tmp 87) 1 rfl _ (hF.done 9 (87, SP.is (.tuple #[.agg Ly.toArray, .int .i64 E])) (by rw [hD]; rfl) (ready_dep hk 9 (by kernel_rfl))) _ rfl ⟨NN, hl2 11, (hF.put 11 98 (SP.is (.int .i64 E)) (_) (by rw [hD]; rfl) rfl (by rw [hD]; rfl) (by rw [hsz]; decide) (by rw [hl]; decide)), hb1, hszW, rq, rs, (fun h => hpre (by rwa [getD_set _ _ _ (by decide)] at h)), (fun h => hpost (by rwa [getD_set _ _ _ (by decide)] at h)), (fun h => ⟨(eval_put_other ac _ (by decide)).trans (hal (by rwa [getD_set _ _ _ (by decide)] at h)).1, (hal (by rwa [getD_set _ _ _ (by decide)] at h)).2.1, by rw [getD_set _ _ _ (by decide)]; exact (hal (by rwa [getD_set _ _ _ (by decide)] at h)).2.2⟩)⟩)
    · have hk3 := hk
      have hB : Below W.heap.size W (W.alloc (.cells zP.cells.toArray tP)) := (Below.refl _ _).alloc (Nat.le_refl _) _
      have hns : ¬ listed.getD 13 false = true := fun h => not_yet hk (hdn 13 h 12 (by kernel_rfl))
      have hlo : X1.heap.size ≤ W.heap.size := hszW
      exact wpOp_plain rfl rfl (wp_allocPn rfl ⟨W.heap.size, hl2 12, ((hF.world hB).put 12 12 (SP.any) (.pointer (some ⟨W.heap.size, 0, none⟩)) (by rw [hD]; rfl) trivial (by rw [hD]; rfl) (by rw [hsz]; decide) (by rw [hl]; decide)), hb1.alloc hb1.size _, Nat.le_trans hszW hB.size, Row.alloc rq _, Row.alloc rs _, (fun h => (hpre (by rwa [getD_set _ _ _ (by decide)] at h)).below hB), (fun h => (by obtain ⟨v1, h1, h2⟩ := (hpost (by rwa [getD_set _ _ _ (by decide)] at h)); exact ⟨v1, h1, h2.below hB⟩)), (fun _ => ⟨eval_put_same ac _ (by rw [hF.size, hsz]; decide), hlo, by rw [getD_set _ _ _ (by decide), if_neg hns]; exact Row.new' rfl rfl⟩)⟩)
    · have hk3 := hk
      have hal0 := hal (ready_dep hk 12 (by kernel_rfl))
      obtain ⟨e1, m1, y2⟩ := hal0
      rw [if_neg (not_yet hk)] at y2
      have T := y2.there 0 Ly.toArray.size HYT.out
      have fin := y2.over (vs := Ly) HYL.out
      have hcd := ready_dep hk 8 (by kernel_rfl)
      have hT : Fp D a0 listed ac (W.setCells NN 0 Ly) := hF.turn (by rw [hD]; simp only [List.forall_mem_cons, List.not_mem_nil, false_implies, implies_true, and_true]; exact ⟨fun _ h => h, fun _ h => h, fun _ h => h, fun _ h => h, fun _ h => h, fun _ h => h, fun _ h => h, fun _ h => h, fun _ h => h, fun _ h => h, fun _ h => h, fun _ h => h, fun _ h => h, fun _ h => h, fun _ h => h⟩)
      exact wpOp_plain rfl rfl (wp_store_mid tP (.tmp 12) (.tmp 97) rfl NN 0 Ly.toArray e1 (hF.done 10 (97, SP.is (.agg Ly.toArray)) (by rw [hD]; rfl) (ready_dep hk 10 (by kernel_rfl))) T HYJ.out HYO.out ⟨NN, hl2 13, (hT.skip 13 1000 (by rw [hD]; rfl) (by rw [hl]; decide)), below_setCells hb1 (by omega) _, (by rw [size_setsL]; exact hszW), Row.setCells_other rq _ _ _ (by omega), Row.setCells_other rs _ _ _ (by omega), (fun h => absurd (by rw [getD_set _ _ _ (by decide)]; exact hcd) h), (fun _ => (by obtain ⟨v1, h1, h2⟩ := (hpost hcd); exact ⟨v1, h1, h2.newN HP1.out HLK.out h1 m1 0 Ly⟩)), (fun _ => ⟨e1, m1, by rw [if_pos (getD_same (by rw [hl]; decide))]; exact fin⟩)⟩)
    · have hk3 := hk
      exact wpOp_plain rfl rfl (wp_assign_v (ac.eval (.tmp 98)) rfl rfl ⟨NN, hl2 14, (hF.put 14 13 (SP.is (.int .i64 E)) (ac.eval (.tmp 98)) (by rw [hD]; rfl) ((hF.done 11 (98, SP.is (.int .i64 E)) (by rw [hD]; rfl) (ready_dep hk 11 (by kernel_rfl)))) (by rw [hD]; rfl) (by rw [hsz]; decide) (by rw [hl]; decide)), hb1, hszW, rq, rs, (fun h => hpre (by rwa [getD_set _ _ _ (by decide)] at h)), (fun h => hpost (by rwa [getD_set _ _ _ (by decide)] at h)), (fun h => ⟨(eval_put_other ac _ (by decide)).trans (hal (by rwa [getD_set _ _ _ (by decide)] at h)).1, (hal (by rwa [getD_set _ _ _ (by decide)] at h)).2.1, by rw [getD_set _ _ _ (by decide)]; exact (hal (by rwa [getD_set _ _ _ (by decide)] at h)).2.2⟩)⟩)
  · clear hb1 rq rs hpre
    intro listed ac W hI hr
    obtain ⟨NN, hl, hF, hb1, hszW, rq, rs, hpre, hpost, hal⟩ := hI
    have hall := all_listed (by kernel_rfl) hl hr
    replace hpost := hpost (hall 8 (by decide))
    obtain ⟨ea12, mN, rN⟩ := hal (hall 12 (by decide))
    rw [if_pos (hall 13 (by decide))] at rN
    have h88 : ac.eval (.tmp 88) = .pointer (some ⟨q, 0, none⟩) := hF.done 0 (88, SP.is (.pointer (some ⟨q, 0, none⟩))) (by rw [hD]; rfl) (hall 0 (by decide))
    have h89 : ac.eval (.tmp 89) = .int .i64 (k : Int) := hF.done 1 (89, SP.is (.int .i64 (k : Int))) (by rw [hD]; rfl) (hall 1 (by decide))
    have h90 : ac.eval (.tmp 90) = .pointer (some ⟨q, 0, none⟩) := hF.done 2 (90, SP.is (.pointer (some ⟨q, 0, none⟩))) (by rw [hD]; rfl) (hall 2 (by decide))
    have h91 : ac.eval (.tmp 91) = .pointer (some ⟨q, 0, none⟩) := hF.done 3 (91, SP.is (.pointer (some ⟨q, 0, none⟩))) (by rw [hD]; rfl) (hall 3 (by decide))
    have h92 : ac.eval (.tmp 92) = .pointer (some ⟨q, k, none⟩) := hF.done 4 (92, SP.is (.pointer (some ⟨q, k, none⟩))) (by rw [hD]; rfl) (hall 4 (by decide))
    have h93 : ac.eval (.tmp 93) = .pointer (some ⟨p, 0, none⟩) := hF.done 5 (93, SP.is (.pointer (some ⟨p, 0, none⟩))) (by rw [hD]; rfl) (hall 5 (by decide))
    have h94 : ac.eval (.tmp 94) = .pointer (some ⟨bS, 90, none⟩) := hF.done 6 (94, SP.is (.pointer (some ⟨bS, 90, none⟩))) (by rw [hD]; rfl) (hall 6 (by decide))
    have h95 : ac.eval (.tmp 95) = .int .i64 s.now := hF.done 7 (95, SP.is (.int .i64 s.now)) (by rw [hD]; rfl) (hall 7 (by decide))
    have h96 : ac.eval (.tmp 96) = .tuple #[.agg Ly.toArray, .int .i64 E] := hF.done 8 (96, SP.is (.tuple #[.agg Ly.toArray, .int .i64 E])) (by rw [hD]; rfl) (hall 8 (by decide))
    have h87 : ac.eval (.tmp 87) = .tuple #[.agg Ly.toArray, .int .i64 E] := hF.done 9 (87, SP.is (.tuple #[.agg Ly.toArray, .int .i64 E])) (by rw [hD]; rfl) (hall 9 (by decide))
    have h97 : ac.eval (.tmp 97) = .agg Ly.toArray := hF.done 10 (97, SP.is (.agg Ly.toArray)) (by rw [hD]; rfl) (hall 10 (by decide))
    have h98 : ac.eval (.tmp 98) = .int .i64 E := hF.done 11 (98, SP.is (.int .i64 E)) (by rw [hD]; rfl) (hall 11 (by decide))
    have h13 : ac.eval (.tmp 13) = .int .i64 E := hF.done 14 (13, SP.is (.int .i64 E)) (by rw [hD]; rfl) (hall 14 (by decide))
    have ea := hF.lay [(88, .pointer (some ⟨q, 0, none⟩)), (89, .int .i64 (k : Int)), (90, .pointer (some ⟨q, 0, none⟩)), (91, .pointer (some ⟨q, 0, none⟩)), (92, .pointer (some ⟨q, k, none⟩)), (93, .pointer (some ⟨p, 0, none⟩)), (94, .pointer (some ⟨bS, 90, none⟩)), (95, .int .i64 s.now), (96, .tuple #[.agg Ly.toArray, .int .i64 E]), (87, .tuple #[.agg Ly.toArray, .int .i64 E]), (97, .agg Ly.toArray), (98, .int .i64 E), (12, .pointer (some ⟨NN, 0, none⟩)), (13, .int .i64 E)] (by rw [hD, hsz]; rfl) (by simp only [List.forall_mem_cons, List.not_mem_nil, false_implies, implies_true, and_true]; exact ⟨h88, h89, h90, h91, h92, h93, h94, h95, h96, h87, h97, h98, ea12, h13⟩)
    rw [ha0] at ea
    simp only [List.foldl_cons, List.foldl_nil, List.setIfInBounds_toArray, List.set_cons_zero, List.set_cons_succ] at ea
    clear hF hall hr hl hD hpre hal zs0 zs1 zs5 ha0 hsz h88 h89 h90 h91 h92 h93 h94 h95 h96 h87 h97 h98 ea12 h13
    subst ea
    obtain ⟨v1, hv1, hP2⟩ := hpost
    obtain ⟨V, hV⟩ : ∃ V, V = W := ⟨_, rfl⟩
    rw [← hV] at hP2 rs rN hszW ⊢
    obtain ⟨Ls2, hL2⟩ : ∃ l, l = Ls.set k (p, v1, st') := ⟨_, rfl⟩
    rw [← hL2] at hP2
    have HL2 : Hid (Ls2 = Ls.set k (p, v1, st')) := hL2
    have HPV : Hid (Pl w0 V q B Ls2 Es T ts) := hP2
    have HEL : Hid (∀ g, e.ownBlock = some g → g < V.heap.size) := fun g z => (hP2.rf _ (List.mem_of_getElem? HEK.out)).own.lt g z
    have HRN : Hid (Row V NN Ly tP) := rN
    have HNN : Hid (X1.heap.size ≤ NN) := mN
    have hbV := rs.lt
    clear hb1
    have hb1 := Below.refl V.heap.size V
    have HPVL : Hid (∀ l ∈ Ls2, Ld V l.1 l.2.1 B l.2.2) := fun l hl => hP2.ladm hl
    have HRR : Hid (∀ W, Below V.heap.size V W → Calls Try.prog 57 #[.agg L.toArray, .int .i64 s.now] W fun r w' => ∃ v', r = .returned (.tuple #[.agg (st'.dc v').toArray, .agg Ly.toArray, .int .i64 E]) ∧ Rf w' v' B st' ∧ Nv W e v' ∧ Below W.heap.size W w') := fun W k => HRR0.out W Ls2 (HPV.out.below k)
    have HRD : Hid (∀ W, Below V.heap.size V W → W.rangeAt q (3 + k * 70) L) := fun W k => HRD0.out W Ls2 (HPV.out.below k)
    have HOK : Hid (st'.Ok B) := by
      have hkl : k < Ls.length := (List.getElem?_eq_some_iff.1 HLK.out).1
      exact (hP2.lad (k := k) (l := (p, v1, st')) (by rw [hL2, List.getElem?_set_self hkl])).ok
    clear hV hL2 hP2 HRL HRR0 HRD0 HCP0 rN rq mN hszW hqX hbX hw0 hv1
    go_upto_region 9 with fail
    refine wp_named fun a0 ha0 => ?_
    have hsz : a0.tmps.size = 244 := by rw [ha0]; rfl
    have zs0 : a0.eval (.tmp 0) = .pointer (some ⟨q, 0, none⟩) := by rw [ha0]; rfl
    have zs1 : a0.eval (.tmp 1) = .int .i64 (k : Int) := by rw [ha0]; rfl
    have zs5 : a0.eval (.tmp 5) = .pointer (some ⟨bS, 0, none⟩) := by rw [ha0]; rfl
    obtain ⟨D, hD⟩ : ∃ D : List (Tmp × SP), D = [(100, SP.is (.pointer (some ⟨q, 0, none⟩))), (101, SP.is (.int .i64 (k : Int))), (102, SP.is (.pointer (some ⟨q, 0, none⟩))), (103, SP.is (.pointer (some ⟨q, 3, none⟩))), (104, SP.is (.pointer (some ⟨q, 3 + k * 70, none⟩))), (105, SP.is (.agg L.toArray)), (106, SP.is (.pointer (some ⟨bS, 90, none⟩))), (107, SP.is (.int .i64 s.now)), (108, SP.any), (99, SP.any), (109, SP.any), (110, SP.is (.agg Ly.toArray)), (111, SP.is (.int .i64 E)), (14, SP.any), (15, SP.any), (1000, SP.any), (1000, SP.any), (16, SP.is (.int .i64 E))] := ⟨_, rfl⟩
    refine wp_region_down (by kernel_rfl) (fun listed ac W => ∃ (N1 N2 : Nat) (vv : Value), listed.size = 18 ∧ Fp D a0 listed ac W ∧ Below V.heap.size V W ∧ Row W bS S tSt ∧ (listed.getD 8 false = true → ac.eval (.tmp 108) = .tuple #[.agg (st'.dc vv).toArray, .agg Ly.toArray, .int .i64 E] ∧ Rf W vv B st' ∧ Ap V.heap.size e vv) ∧ (listed.getD 9 false = true → ac.eval (.tmp 99) = .tuple #[.agg (st'.dc vv).toArray, .agg Ly.toArray, .int .i64 E]) ∧ (listed.getD 10 false = true → ac.eval (.tmp 109) = .agg (st'.dc vv).toArray) ∧ (listed.getD 13 false = true → ac.eval (.tmp 14) = .pointer (some ⟨N1, 0, none⟩) ∧ V.heap.size ≤ N1 ∧ Row W N1 (if listed.getD 15 false = true then st'.dc vv else zRL) tRL) ∧ (listed.getD 14 false = true → ac.eval (.tmp 15) = .pointer (some ⟨N2, 0, none⟩) ∧ V.heap.size ≤ N2 ∧ Row W N2 (if listed.getD 16 false = true then Ly else zP.cells) tP) ∧ (listed.getD 8 false = true → listed.getD 14 false = true → vv.ownBlock ≠ some N2)) ?_ ?_ ?_
    · exact ⟨0, 0, .bool false, by simp, Fp.start D a0 _ _, Below.drew hb1, Row.drew rs, (fun h => (start_no h).elim), (fun h => (start_no h).elim), (fun h => (start_no h).elim), (fun h => (start_no h).elim), (fun h => (start_no h).elim), (fun h _ => (start_no h).elim)⟩
    · clear ha0 hb1 rs
      intro listed ac W k hI hdn hk
      obtain ⟨N1, N2, vv, hl, hF, hb1, rs, hc, hm, hx, h1, h2, h3⟩ := hI
      have hk1 : k < 18 := List.mem_range.1 (List.mem_filter.1 hk).1
      have hl2 : ∀ j, (listed.setIfInBounds j true).size = 18 := fun j => by rw [Array.size_setIfInBounds]; exact hl
      rcases (show k = 0 ∨ k = 1 ∨ k = 2 ∨ k = 3 ∨ k = 4 ∨ k = 5 ∨ k = 6 ∨ k = 7 ∨ k = 8 ∨ k = 9 ∨ k = 10 ∨ k = 11 ∨ k = 12 ∨ k = 13 ∨ k = 14 ∨ k = 15 ∨ k = 16 ∨ k = 17 by omega) with rfl | rfl | rfl | rfl | rfl | rfl | rfl | rfl | rfl | rfl | rfl | rfl | rfl | rfl | rfl | rfl | rfl | rfl
      · have hk3 := hk
        exact wpOp_plain rfl rfl (wp_move_v (ac.eval (.tmp 0)) rfl rfl ⟨N1, N2, vv, hl2 0, (hF.put 0 100 (SP.is (.pointer (some ⟨q, 0, none⟩))) (ac.eval (.tmp 0)) (by rw [hD]; rfl) (((hF.keep 0 (by rw [hD]; rfl)).trans zs0)) (by rw [hD]; rfl) (by rw [hsz]; decide) (by rw [hl]; decide)), hb1, rs, (fun h => ⟨(eval_put_other ac _ (by decide)).trans (hc (by rwa [getD_set _ _ _ (by decide)] at h)).1, (hc (by rwa [getD_set _ _ _ (by decide)] at h)).2⟩), (fun h => (eval_put_other ac _ (by decide)).trans (hm (by rwa [getD_set _ _ _ (by decide)] at h))), (fun h => (eval_put_other ac _ (by decide)).trans (hx (by rwa [getD_set _ _ _ (by decide)] at h))), (fun h => ⟨(eval_put_other ac _ (by decide)).trans (h1 (by rwa [getD_set _ _ _ (by decide)] at h)).1, (h1 (by rwa [getD_set _ _ _ (by decide)] at h)).2.1, by rw [getD_set _ _ _ (by decide)]; exact (h1 (by rwa [getD_set _ _ _ (by decide)] at h)).2.2⟩), (fun h => ⟨(eval_put_other ac _ (by decide)).trans (h2 (by rwa [getD_set _ _ _ (by decide)] at h)).1, (h2 (by rwa [getD_set _ _ _ (by decide)] at h)).2.1, by rw [getD_set _ _ _ (by decide)]; exact (h2 (by rwa [getD_set _ _ _ (by decide)] at h)).2.2⟩), (fun h h2 => h3 (by rwa [getD_set _ _ _ (by decide)] at h) (by rwa [getD_set _ _ _ (by decide)] at h2))⟩)
      · have hk3 := hk
        exact wpOp_plain rfl rfl (wp_move_v (ac.eval (.tmp 1)) rfl rfl ⟨N1, N2, vv, hl2 1, (hF.put 1 101 (SP.is (.int .i64 (k : Int))) (ac.eval (.tmp 1)) (by rw [hD]; rfl) (((hF.keep 1 (by rw [hD]; rfl)).trans zs1)) (by rw [hD]; rfl) (by rw [hsz]; decide) (by rw [hl]; decide)), hb1, rs, (fun h => ⟨(eval_put_other ac _ (by decide)).trans (hc (by rwa [getD_set _ _ _ (by decide)] at h)).1, (hc (by rwa [getD_set _ _ _ (by decide)] at h)).2⟩), (fun h => (eval_put_other ac _ (by decide)).trans (hm (by rwa [getD_set _ _ _ (by decide)] at h))), (fun h => (eval_put_other ac _ (by decide)).trans (hx (by rwa [getD_set _ _ _ (by decide)] at h))), (fun h => ⟨(eval_put_other ac _ (by decide)).trans (h1 (by rwa [getD_set _ _ _ (by decide)] at h)).1, (h1 (by rwa [getD_set _ _ _ (by decide)] at h)).2.1, by rw [getD_set _ _ _ (by decide)]; exact (h1 (by rwa [getD_set _ _ _ (by decide)] at h)).2.2⟩), (fun h => ⟨(eval_put_other ac _ (by decide)).trans (h2 (by rwa [getD_set _ _ _ (by decide)] at h)).1, (h2 (by rwa [getD_set _ _ _ (by decide)] at h)).2.1, by rw [getD_set _ _ _ (by decide)]; exact (h2 (by rwa [getD_set _ _ _ (by decide)] at h)).2.2⟩), (fun h h2 => h3 (by rwa [getD_set _ _ _ (by decide)] at h) (by rwa [getD_set _ _ _ (by decide)] at h2))⟩)
      · have hk3 := hk
        have ea := (hF.done 0 (100, SP.is (.pointer (some ⟨q, 0, none⟩))) (by rw [hD]; rfl) (ready_dep hk 0 (by kernel_rfl)))
        exact wpOp_plain rfl rfl (wp_nilL rfl q ea ⟨N1, N2, vv, hl2 2, (hF.put 2 102 (SP.is (.pointer (some ⟨q, 0, none⟩))) (.pointer (some ⟨q, 0, none⟩)) (by rw [hD]; rfl) rfl (by rw [hD]; rfl) (by rw [hsz]; decide) (by rw [hl]; decide)), hb1, rs, (fun h => ⟨(eval_put_other ac _ (by decide)).trans (hc (by rwa [getD_set _ _ _ (by decide)] at h)).1, (hc (by rwa [getD_set _ _ _ (by decide)] at h)).2⟩), (fun h => (eval_put_other ac _ (by decide)).trans (hm (by rwa [getD_set _ _ _ (by decide)] at h))), (fun h => (eval_put_other ac _ (by decide)).trans (hx (by rwa [getD_set _ _ _ (by decide)] at h))), (fun h => ⟨(eval_put_other ac _ (by decide)).trans (h1 (by rwa [getD_set _ _ _ (by decide)] at h)).1, (h1 (by rwa [getD_set _ _ _ (by decide)] at h)).2.1, by rw [getD_set _ _ _ (by decide)]; exact (h1 (by rwa [getD_set _ _ _ (by decide)] at h)).2.2⟩), (fun h => ⟨(eval_put_other ac _ (by decide)).trans (h2 (by rwa [getD_set _ _ _ (by decide)] at h)).1, (h2 (by rwa [getD_set _ _ _ (by decide)] at h)).2.1, by rw [getD_set _ _ _ (by decide)]; exact (h2 (by rwa [getD_set _ _ _ (by decide)] at h)).2.2⟩), (fun h h2 => h3 (by rwa [getD_set _ _ _ (by decide)] at h) (by rwa [getD_set _ _ _ (by decide)] at h2))⟩)
      · have hk3 := hk
        have ea := (hF.done 2 (102, SP.is (.pointer (some ⟨q, 0, none⟩))) (by rw [hD]; rfl) (ready_dep hk 2 (by kernel_rfl)))
        exact wpOp_plain rfl rfl (wp_fPr1 rfl q ea ⟨N1, N2, vv, hl2 3, (hF.put 3 103 (SP.is (.pointer (some ⟨q, 3, none⟩))) (.pointer (some ⟨q, 3, none⟩)) (by rw [hD]; rfl) rfl (by rw [hD]; rfl) (by rw [hsz]; decide) (by rw [hl]; decide)), hb1, rs, (fun h => ⟨(eval_put_other ac _ (by decide)).trans (hc (by rwa [getD_set _ _ _ (by decide)] at h)).1, (hc (by rwa [getD_set _ _ _ (by decide)] at h)).2⟩), (fun h => (eval_put_other ac _ (by decide)).trans (hm (by rwa [getD_set _ _ _ (by decide)] at h))), (fun h => (eval_put_other ac _ (by decide)).trans (hx (by rwa [getD_set _ _ _ (by decide)] at h))), (fun h => ⟨(eval_put_other ac _ (by decide)).trans (h1 (by rwa [getD_set _ _ _ (by decide)] at h)).1, (h1 (by rwa [getD_set _ _ _ (by decide)] at h)).2.1, by rw [getD_set _ _ _ (by decide)]; exact (h1 (by rwa [getD_set _ _ _ (by decide)] at h)).2.2⟩), (fun h => ⟨(eval_put_other ac _ (by decide)).trans (h2 (by rwa [getD_set _ _ _ (by decide)] at h)).1, (h2 (by rwa [getD_set _ _ _ (by decide)] at h)).2.1, by rw [getD_set _ _ _ (by decide)]; exact (h2 (by rwa [getD_set _ _ _ (by decide)] at h)).2.2⟩), (fun h h2 => h3 (by rwa [getD_set _ _ _ (by decide)] at h) (by rwa [getD_set _ _ _ (by decide)] at h2))⟩)
      · have hk3 := hk
        have ea := (hF.done 3 (103, SP.is (.pointer (some ⟨q, 3, none⟩))) (by rw [hD]; rfl) (ready_dep hk 3 (by kernel_rfl)))
        have eb := (hF.done 1 (101, SP.is (.int .i64 (k : Int))) (by rw [hD]; rfl) (ready_dep hk 1 (by kernel_rfl)))
        exact wpOp_plain rfl rfl (wp_ixO tR3 tRL rfl q 3 k 70 3 (3 + k * 70) ea eb HK3.out und_R3 info_RL rfl ⟨N1, N2, vv, hl2 4, (hF.put 4 104 (SP.is (.pointer (some ⟨q, 3 + k * 70, none⟩))) (.pointer (some ⟨q, 3 + k * 70, none⟩)) (by rw [hD]; rfl) rfl (by rw [hD]; rfl) (by rw [hsz]; decide) (by rw [hl]; decide)), hb1, rs, (fun h => ⟨(eval_put_other ac _ (by decide)).trans (hc (by rwa [getD_set _ _ _ (by decide)] at h)).1, (hc (by rwa [getD_set _ _ _ (by decide)] at h)).2⟩), (fun h => (eval_put_other ac _ (by decide)).trans (hm (by rwa [getD_set _ _ _ (by decide)] at h))), (fun h => (eval_put_other ac _ (by decide)).trans (hx (by rwa [getD_set _ _ _ (by decide)] at h))), (fun h => ⟨(eval_put_other ac _ (by decide)).trans (h1 (by rwa [getD_set _ _ _ (by decide)] at h)).1, (h1 (by rwa [getD_set _ _ _ (by decide)] at h)).2.1, by rw [getD_set _ _ _ (by decide)]; exact (h1 (by rwa [getD_set _ _ _ (by decide)] at h)).2.2⟩), (fun h => ⟨(eval_put_other ac _ (by decide)).trans (h2 (by rwa [getD_set _ _ _ (by decide)] at h)).1, (h2 (by rwa [getD_set _ _ _ (by decide)] at h)).2.1, by rw [getD_set _ _ _ (by decide)]; exact (h2 (by rwa [getD_set _ _ _ (by decide)] at h)).2.2⟩), (fun h h2 => h3 (by rwa [getD_set _ _ _ (by decide)] at h) (by rwa [getD_set _ _ _ (by decide)] at h2))⟩)
      · have hk3 := hk
        have ea := (hF.done 4 (104, SP.is (.pointer (some ⟨q, 3 + k * 70, none⟩))) (by rw [hD]; rfl) (ready_dep hk 4 (by kernel_rfl)))
        exact wpOp_plain rfl rfl (wp_load_mid tRL (.tmp 104) rfl q (3 + k * 70) ea L _ (HRD.out W (hb1)) Try.underlying44 rfl HIL.out ⟨N1, N2, vv, hl2 5, (hF.put 5 105 (SP.is (.agg L.toArray)) (.agg L.toArray) (by rw [hD]; rfl) rfl (by rw [hD]; rfl) (by rw [hsz]; decide) (by rw [hl]; decide)), hb1, rs, (fun h => ⟨(eval_put_other ac _ (by decide)).trans (hc (by rwa [getD_set _ _ _ (by decide)] at h)).1, (hc (by rwa [getD_set _ _ _ (by decide)] at h)).2⟩), (fun h => (eval_put_other ac _ (by decide)).trans (hm (by rwa [getD_set _ _ _ (by decide)] at h))), (fun h => (eval_put_other ac _ (by decide)).trans (hx (by rwa [getD_set _ _ _ (by decide)] at h))), (fun h => ⟨(eval_put_other ac _ (by decide)).trans (h1 (by rwa [getD_set _ _ _ (by decide)] at h)).1, (h1 (by rwa [getD_set _ _ _ (by decide)] at h)).2.1, by rw [getD_set _ _ _ (by decide)]; exact (h1 (by rwa [getD_set _ _ _ (by decide)] at h)).2.2⟩), (fun h => ⟨(eval_put_other ac _ (by decide)).trans (h2 (by rwa [getD_set _ _ _ (by decide)] at h)).1, (h2 (by rwa [getD_set _ _ _ (by decide)] at h)).2.1, by rw [getD_set _ _ _ (by decide)]; exact (h2 (by rwa [getD_set _ _ _ (by decide)] at h)).2.2⟩), (fun h h2 => h3 (by rwa [getD_set _ _ _ (by decide)] at h) (by rwa [getD_set _ _ _ (by decide)] at h2))⟩)
      · have hk3 := hk
        have ea := ((hF.keep 5 (by rw [hD]; rfl)).trans zs5)
        exact wpOp_plain rfl rfl (wp_fSt6 rfl bS ea ⟨N1, N2, vv, hl2 6, (hF.put 6 106 (SP.is (.pointer (some ⟨bS, 90, none⟩))) (.pointer (some ⟨bS, 90, none⟩)) (by rw [hD]; rfl) rfl (by rw [hD]; rfl) (by rw [hsz]; decide) (by rw [hl]; decide)), hb1, rs, (fun h => ⟨(eval_put_other ac _ (by decide)).trans (hc (by rwa [getD_set _ _ _ (by decide)] at h)).1, (hc (by rwa [getD_set _ _ _ (by decide)] at h)).2⟩), (fun h => (eval_put_other ac _ (by decide)).trans (hm (by rwa [getD_set _ _ _ (by decide)] at h))), (fun h => (eval_put_other ac _ (by decide)).trans (hx (by rwa [getD_set _ _ _ (by decide)] at h))), (fun h => ⟨(eval_put_other ac _ (by decide)).trans (h1 (by rwa [getD_set _ _ _ (by decide)] at h)).1, (h1 (by rwa [getD_set _ _ _ (by decide)] at h)).2.1, by rw [getD_set _ _ _ (by decide)]; exact (h1 (by rwa [getD_set _ _ _ (by decide)] at h)).2.2⟩), (fun h => ⟨(eval_put_other ac _ (by decide)).trans (h2 (by rwa [getD_set _ _ _ (by decide)] at h)).1, (h2 (by rwa [getD_set _ _ _ (by decide)] at h)).2.1, by rw [getD_set _ _ _ (by decide)]; exact (h2 (by rwa [getD_set _ _ _ (by decide)] at h)).2.2⟩), (fun h h2 => h3 (by rwa [getD_set _ _ _ (by decide)] at h) (by rwa [getD_set _ _ _ (by decide)] at h2))⟩)
      · have hk3 := hk
        have ea := (hF.done 6 (106, SP.is (.pointer (some ⟨bS, 90, none⟩))) (by rw [hD]; rfl) (ready_dep hk 6 (by kernel_rfl)))
        exact wpOp_plain rfl rfl (wp_ld1 bS 90 (.int .i64 s.now) rfl ea (ld_int W bS 90 _ (rs.cell 90 _ HNW.out)) ⟨N1, N2, vv, hl2 7, (hF.put 7 107 (SP.is (.int .i64 s.now)) (.int .i64 s.now) (by rw [hD]; rfl) rfl (by rw [hD]; rfl) (by rw [hsz]; decide) (by rw [hl]; decide)), hb1, rs, (fun h => ⟨(eval_put_other ac _ (by decide)).trans (hc (by rwa [getD_set _ _ _ (by decide)] at h)).1, (hc (by rwa [getD_set _ _ _ (by decide)] at h)).2⟩), (fun h => (eval_put_other ac _ (by decide)).trans (hm (by rwa [getD_set _ _ _ (by decide)] at h))), (fun h => (eval_put_other ac _ (by decide)).trans (hx (by rwa [getD_set _ _ _ (by decide)] at h))), (fun h => ⟨(eval_put_other ac _ (by decide)).trans (h1 (by rwa [getD_set _ _ _ (by decide)] at h)).1, (h1 (by rwa [getD_set _ _ _ (by decide)] at h)).2.1, by rw [getD_set _ _ _ (by decide)]; exact (h1 (by rwa [getD_set _ _ _ (by decide)] at h)).2.2⟩), (fun h => ⟨(eval_put_other ac _ (by decide)).trans (h2 (by rwa [getD_set _ _ _ (by decide)] at h)).1, (h2 (by rwa [getD_set _ _ _ (by decide)] at h)).2.1, by rw [getD_set _ _ _ (by decide)]; exact (h2 (by rwa [getD_set _ _ _ (by decide)] at h)).2.2⟩), (fun h h2 => h3 (by rwa [getD_set _ _ _ (by decide)] at h) (by rwa [getD_set _ _ _ (by decide)] at h2))⟩)
      · have hk3 := hk
        have e105 := (hF.done 5 (105, SP.is (.agg L.toArray)) (by rw [hD]; rfl) (ready_dep hk 5 (by kernel_rfl)))
        have e107 := (hF.done 7 (107, SP.is (.int .i64 s.now)) (by rw [hD]; rfl) (ready_dep hk 7 (by kernel_rfl)))
        have hno : ¬ listed.getD 8 false = true := not_yet hk
        have hns1 : ¬ listed.getD 15 false = true := fun h => hno (hdn 15 h 8 (by kernel_rfl))
        refine wpOp_plain rfl rfl (wp_fcall_v 57 #[.agg L.toArray, .int .i64 s.now] rfl rfl (by show [ac.eval (.tmp 105), ac.eval (.tmp 107)] = _; rw [show ac.eval (.tmp 105) = _ from e105, show ac.eval (.tmp 107) = _ from e107]) (by go_simp) ((HRR.out W hb1).mono ?_))
        rintro r W2 ⟨v', rfl, hR, hN, hB⟩
        exact ⟨_, rfl, N1, N2, v', hl2 8, ((hF.world hB).put 8 108 (SP.any) (.tuple #[.agg (st'.dc v').toArray, .agg Ly.toArray, .int .i64 E]) (by rw [hD]; rfl) trivial (by rw [hD]; rfl) (by rw [hsz]; decide) (by rw [hl]; decide)), hb1.trans (hB.mono hb1.size), Row.below rs hB (Row.lt rs), (fun _ => ⟨eval_put_same ac _ (by rw [hF.size, hsz]; decide), hR, Ap.of hN hb1.size⟩), (fun h => absurd (hdn 9 (by rwa [getD_set _ _ _ (by decide)] at h) 8 (by kernel_rfl)) hno), (fun h => absurd (hdn 9 (hdn 10 (by rwa [getD_set _ _ _ (by decide)] at h) 9 (by kernel_rfl)) 8 (by kernel_rfl)) hno), (fun h => ⟨(eval_put_other ac _ (by decide)).trans (h1 (by rwa [getD_set _ _ _ (by decide)] at h)).1, (h1 (by rwa [getD_set _ _ _ (by decide)] at h)).2.1, by rw [getD_set _ _ _ (by decide), if_neg hns1]; have z := (h1 (by rwa [getD_set _ _ _ (by decide)] at h)).2.2; rw [if_neg hns1] at z; exact Row.below z hB (Row.lt z)⟩), (fun h => ⟨(eval_put_other ac _ (by decide)).trans (h2 (by rwa [getD_set _ _ _ (by decide)] at h)).1, (h2 (by rwa [getD_set _ _ _ (by decide)] at h)).2.1, by rw [getD_set _ _ _ (by decide)]; exact Row.below (h2 (by rwa [getD_set _ _ _ (by decide)] at h)).2.2 hB (Row.lt (h2 (by rwa [getD_set _ _ _ (by decide)] at h)).2.2)⟩), (fun _ h own => by have z1 := Row.lt (h2 (by rwa [getD_set _ _ _ (by decide)] at h)).2.2; have z2 := (h2 (by rwa [getD_set _ _ _ (by decide)] at h)).2.1; exact hN.elim (fun z => by rw [z] at own; have := HEL.out _ own; omega) (fun z => by have := z _ own; omega))⟩
      · have hk3 := hk
        exact wpOp_plain rfl rfl (wp_move_v (.tuple #[.agg (st'.dc vv).toArray, .agg Ly.toArray, .int .i64 E]) rfl (hc (ready_dep hk 8 (by kernel_rfl))).1 ⟨N1, N2, vv, hl2 9, (hF.put 9 99 (SP.any) (.tuple #[.agg (st'.dc vv).toArray, .agg Ly.toArray, .int .i64 E]) (by rw [hD]; rfl) trivial (by rw [hD]; rfl) (by rw [hsz]; decide) (by rw [hl]; decide)), hb1, rs, (fun h => ⟨(eval_put_other ac _ (by decide)).trans (hc (by rwa [getD_set _ _ _ (by decide)] at h)).1, (hc (by rwa [getD_set _ _ _ (by decide)] at h)).2⟩), (fun _ => eval_put_same ac _ (by rw [hF.size, hsz]; decide)), (fun h => (eval_put_other ac _ (by decide)).trans (hx (by rwa [getD_set _ _ _ (by decide)] at h))), (fun h => ⟨(eval_put_other ac _ (by decide)).trans (h1 (by rwa [getD_set _ _ _ (by decide)] at h)).1, (h1 (by rwa [getD_set _ _ _ (by decide)] at h)).2.1, by rw [getD_set _ _ _ (by decide)]; exact (h1 (by rwa [getD_set _ _ _ (by decide)] at h)).2.2⟩), (fun h => ⟨(eval_put_other ac _ (by decide)).trans (h2 (by rwa [getD_set _ _ _ (by decide)] at h)).1, (h2 (by rwa [getD_set _ _ _ (by decide)] at h)).2.1, by rw [getD_set _ _ _ (by decide)]; exact (h2 (by rwa [getD_set _ _ _ (by decide)] at h)).2.2⟩), (fun h h2 => h3 (by rwa [getD_set _ _ _ (by decide)] at h) (by rwa [getD_set _ _ _ (by decide)] at h2))⟩)
      · have hk3 := hk
        exact wpOp_plain rfl rfl (wp_extract (.tmp 99) 0 rfl _ (hm (ready_dep hk 9 (by kernel_rfl))) (.agg (st'.dc vv).toArray) rfl ⟨N1, N2, vv, hl2 10, (hF.put 10 109 (SP.any) (.agg (st'.dc vv).toArray) (by rw [hD]; rfl) trivial (by rw [hD]; rfl) (by rw [hsz]; decide) (by rw [hl]; decide)), hb1, rs, (fun h => ⟨(eval_put_other ac _ (by decide)).trans (hc (by rwa [getD_set _ _ _ (by decide)] at h)).1, (hc (by rwa [getD_set _ _ _ (by decide)] at h)).2⟩), (fun h => (eval_put_other ac _ (by decide)).trans (hm (by rwa [getD_set _ _ _ (by decide)] at h))), (fun _ => eval_put_same ac _ (by rw [hF.size, hsz]; decide)), (fun h => ⟨(eval_put_other ac _ (by decide)).trans (h1 (by rwa [getD_set _ _ _ (by decide)] at h)).1, (h1 (by rwa [getD_set _ _ _ (by decide)] at h)).2.1, by rw [getD_set _ _ _ (by decide)]; exact (h1 (by rwa [getD_set _ _ _ (by decide)] at h)).2.2⟩), (fun h => ⟨(eval_put_other ac _ (by decide)).trans (h2 (by rwa [getD_set _ _ _ (by decide)] at h)).1, (h2 (by rwa [getD_set _ _ _ (by decide)] at h)).2.1, by rw [getD_set _ _ _ (by decide)]; exact (h2 (by rwa [getD_set _ _ _ (by decide)] at h)).2.2⟩), (fun h h2 => h3 (by rwa [getD_set _ _ _ (by decide)] at h) (by rwa [getD_set _ _ _ (by decide)] at h2))⟩)
      · have hk3 := hk
        exact wpOp_plain rfl rfl (wp_extract (.tmp 99) 1 rfl _ (hm (ready_dep hk 9 (by kernel_rfl))) (.agg Ly.toArray) rfl ⟨N1, N2, vv, hl2 11, (hF.put 11 110 (SP.is (.agg Ly.toArray)) (.agg Ly.toArray) (by rw [hD]; rfl) rfl (by rw [hD]; rfl) (by rw [hsz]; decide) (by rw [hl]; decide)), hb1, rs, (fun h => ⟨(eval_put_other ac _ (by decide)).trans (hc (by rwa [getD_set _ _ _ (by decide)] at h)).1, (hc (by rwa [getD_set _ _ _ (by decide)] at h)).2⟩), (fun h => (eval_put_other ac _ (by decide)).trans (hm (by rwa [getD_set _ _ _ (by decide)] at h))), (fun h => (eval_put_other ac _ (by decide)).trans (hx (by rwa [getD_set _ _ _ (by decide)] at h))), (fun h => ⟨(eval_put_other ac _ (by decide)).trans (h1 (by rwa [getD_set _ _ _ (by decide)] at h)).1, (h1 (by rwa [getD_set _ _ _ (by decide)] at h)).2.1, by rw [getD_set _ _ _ (by decide)]; exact (h1 (by rwa [getD_set _ _ _ (by decide)] at h)).2.2⟩), (fun h => ⟨(eval_put_other ac _ (by decide)).trans (h2 (by rwa [getD_set _ _ _ (by decide)] at h)).1, (h2 (by rwa [getD_set _ _ _ (by decide)] at h)).2.1, by rw [getD_set _ _ _ (by decide)]; exact (h2 (by rwa [getD_set _ _ _ (by decide)] at h)).2.2⟩), (fun h h2 => h3 (by rwa [getD_set _ _ _ (by decide)] at h) (by rwa [getD_set _ _ _ (by decide)] at h2))⟩)
      · have hk3 := hk
        exact wpOp_plain rfl rfl (wp_extract (.tmp 99) 2 rfl _ (hm (ready_dep hk 9 (by kernel_rfl))) (.int .i64 E) rfl ⟨N1, N2, vv, hl2 12, (hF.put 12 111 (SP.is (.int .i64 E)) (.int .i64 E) (by rw [hD]; rfl) rfl (by rw [hD]; rfl) (by rw [hsz]; decide) (by rw [hl]; decide)), hb1, rs, (fun h => ⟨(eval_put_other ac _ (by decide)).trans (hc (by rwa [getD_set _ _ _ (by decide)] at h)).1, (hc (by rwa [getD_set _ _ _ (by decide)] at h)).2⟩), (fun h => (eval_put_other ac _ (by decide)).trans (hm (by rwa [getD_set _ _ _ (by decide)] at h))), (fun h => (eval_put_other ac _ (by decide)).trans (hx (by rwa [getD_set _ _ _ (by decide)] at h))), (fun h => ⟨(eval_put_other ac _ (by decide)).trans (h1 (by rwa [getD_set _ _ _ (by decide)] at h)).1, (h1 (by rwa [getD_set _ _ _ (by decide)] at h)).2.1, by rw [getD_set _ _ _ (by decide)]; exact (h1 (by rwa [getD_set _ _ _ (by decide)] at h)).2.2⟩), (fun h => ⟨(eval_put_other ac _ (by decide)).trans (h2 (by rwa [getD_set _ _ _ (by decide)] at h)).1, (h2 (by rwa [getD_set _ _ _ (by decide)] at h)).2.1, by rw [getD_set _ _ _ (by decide)]; exact (h2 (by rwa [getD_set _ _ _ (by decide)] at h)).2.2⟩), (fun h h2 => h3 (by rwa [getD_set _ _ _ (by decide)] at h) (by rwa [getD_set _ _ _ (by decide)] at h2))⟩)
      · have hk3 := hk
        have hB : Below W.heap.size W (W.alloc (.cells zRL.toArray tRL)) := (Below.refl _ _).alloc (Nat.le_refl _) _
        have hns : ¬ listed.getD 15 false = true := fun h => not_yet hk (hdn 15 h 13 (by kernel_rfl))
        exact wpOp_plain rfl rfl (wp_allocRL rfl ⟨W.heap.size, N2, vv, hl2 13, ((hF.world hB).put 13 14 (SP.any) (.pointer (some ⟨W.heap.size, 0, none⟩)) (by rw [hD]; rfl) trivial (by rw [hD]; rfl) (by rw [hsz]; decide) (by rw [hl]; decide)), hb1.alloc hb1.size _, Row.alloc rs _, (fun h => ⟨(eval_put_other ac _ (by decide)).trans (hc (by rwa [getD_set _ _ _ (by decide)] at h)).1, (hc (by rwa [getD_set _ _ _ (by decide)] at h)).2.1.be hB, (hc (by rwa [getD_set _ _ _ (by decide)] at h)).2.2⟩), (fun h => (eval_put_other ac _ (by decide)).trans (hm (by rwa [getD_set _ _ _ (by decide)] at h))), (fun h => (eval_put_other ac _ (by decide)).trans (hx (by rwa [getD_set _ _ _ (by decide)] at h))), (fun _ => ⟨eval_put_same ac _ (by rw [hF.size, hsz]; decide), hb1.size, by rw [getD_set _ _ _ (by decide), if_neg hns]; exact Row.new' rfl rfl⟩), (fun h => ⟨(eval_put_other ac _ (by decide)).trans (h2 (by rwa [getD_set _ _ _ (by decide)] at h)).1, (h2 (by rwa [getD_set _ _ _ (by decide)] at h)).2.1, by rw [getD_set _ _ _ (by decide)]; exact Row.alloc (h2 (by rwa [getD_set _ _ _ (by decide)] at h)).2.2 _⟩), (fun h h2 => h3 (by rwa [getD_set _ _ _ (by decide)] at h) (by rwa [getD_set _ _ _ (by decide)] at h2))⟩)
      · have hk3 := hk
        have hB : Below W.heap.size W (W.alloc (.cells zP.cells.toArray tP)) := (Below.refl _ _).alloc (Nat.le_refl _) _
        have hns : ¬ listed.getD 16 false = true := fun h => not_yet hk (hdn 16 h 14 (by kernel_rfl))
        exact wpOp_plain rfl rfl (wp_allocPn rfl ⟨N1, W.heap.size, vv, hl2 14, ((hF.world hB).put 14 15 (SP.any) (.pointer (some ⟨W.heap.size, 0, none⟩)) (by rw [hD]; rfl) trivial (by rw [hD]; rfl) (by rw [hsz]; decide) (by rw [hl]; decide)), hb1.alloc hb1.size _, Row.alloc rs _, (fun h => ⟨(eval_put_other ac _ (by decide)).trans (hc (by rwa [getD_set _ _ _ (by decide)] at h)).1, (hc (by rwa [getD_set _ _ _ (by decide)] at h)).2.1.be hB, (hc (by rwa [getD_set _ _ _ (by decide)] at h)).2.2⟩), (fun h => (eval_put_other ac _ (by decide)).trans (hm (by rwa [getD_set _ _ _ (by decide)] at h))), (fun h => (eval_put_other ac _ (by decide)).trans (hx (by rwa [getD_set _ _ _ (by decide)] at h))), (fun h => ⟨(eval_put_other ac _ (by decide)).trans (h1 (by rwa [getD_set _ _ _ (by decide)] at h)).1, (h1 (by rwa [getD_set _ _ _ (by decide)] at h)).2.1, by rw [getD_set _ _ _ (by decide)]; exact Row.alloc (h1 (by rwa [getD_set _ _ _ (by decide)] at h)).2.2 _⟩), (fun _ => ⟨eval_put_same ac _ (by rw [hF.size, hsz]; decide), hb1.size, by rw [getD_set _ _ _ (by decide), if_neg hns]; exact Row.new' rfl rfl⟩), (fun h _ own => by have := (hc (by rwa [getD_set _ _ _ (by decide)] at h)).2.1.own.lt _ own; omega)⟩)
      · have hk3 := hk
        obtain ⟨e1, m1, y2⟩ := h1 (ready_dep hk 13 (by kernel_rfl))
        rw [if_neg (not_yet hk)] at y2
        have hcd := hc (ready_dep hk 8 (by kernel_rfl))
        have T := y2.there 0 (st'.dc vv).toArray.size (by rw [List.size_toArray, La.dlen HOK.out.cf, zRL_len]; decide)
        have fin := y2.over (vs := st'.dc vv) (by rw [La.dlen HOK.out.cf, zRL_len])
        have hT : Fp D a0 listed ac (W.setCells N1 0 (st'.dc vv)) := hF.turn (by rw [hD]; simp only [List.forall_mem_cons, List.not_mem_nil, false_implies, implies_true, and_true]; exact ⟨fun _ h => h, fun _ h => h, fun _ h => h, fun _ h => h, fun _ h => h, fun _ h => h, fun _ h => h, fun _ h => h, fun _ h => h, fun _ h => h, fun _ h => h, fun _ h => h, fun _ h => h, fun _ h => h, fun _ h => h, fun _ h => h, fun _ h => h, fun _ h => h⟩)
        exact wpOp_plain rfl rfl (wp_store_mid tRL (.tmp 14) (.tmp 109) rfl N1 0 (st'.dc vv).toArray e1 (hx (ready_dep hk 10 (by kernel_rfl))) T (by rw [List.size_toArray]; exact La.dinfo HOK.out.cf _) hcd.2.1.one ⟨N1, N2, vv, hl2 15, (hT.skip 15 1000 (by rw [hD]; rfl) (by rw [hl]; decide)), below_setCells hb1 m1 _, Row.setCells_other rs _ _ _ (by omega), (fun h => ⟨(hc (by rwa [getD_set _ _ _ (by decide)] at h)).1, hcd.2.1.set y2 (by decide) _ _, (hc (by rwa [getD_set _ _ _ (by decide)] at h)).2.2⟩), (fun h => (hm (by rwa [getD_set _ _ _ (by decide)] at h))), (fun h => (hx (by rwa [getD_set _ _ _ (by decide)] at h))), (fun _ => ⟨e1, m1, by rw [if_pos (getD_same (by rw [hl]; decide))]; exact fin⟩), (fun h => ⟨(h2 (by rwa [getD_set _ _ _ (by decide)] at h)).1, (h2 (by rwa [getD_set _ _ _ (by decide)] at h)).2.1, by rw [getD_set _ _ _ (by decide)]; exact Row.setCells_other (h2 (by rwa [getD_set _ _ _ (by decide)] at h)).2.2 _ _ _ (fun z => by have zz := (h2 (by rwa [getD_set _ _ _ (by decide)] at h)).2.2; rw [z] at zz; exact absurd (row_ty zz y2) (by decide))⟩), (fun h h2 => h3 (by rwa [getD_set _ _ _ (by decide)] at h) (by rwa [getD_set _ _ _ (by decide)] at h2))⟩)
      · have hk3 := hk
        obtain ⟨e1, m1, y2⟩ := h2 (ready_dep hk 14 (by kernel_rfl))
        rw [if_neg (not_yet hk)] at y2
        have hcd := hc (ready_dep hk 8 (by kernel_rfl))
        have T := y2.there 0 Ly.toArray.size HYT.out
        have fin := y2.over (vs := Ly) HYL.out
        have hT : Fp D a0 listed ac (W.setCells N2 0 Ly) := hF.turn (by rw [hD]; simp only [List.forall_mem_cons, List.not_mem_nil, false_implies, implies_true, and_true]; exact ⟨fun _ h => h, fun _ h => h, fun _ h => h, fun _ h => h, fun _ h => h, fun _ h => h, fun _ h => h, fun _ h => h, fun _ h => h, fun _ h => h, fun _ h => h, fun _ h => h, fun _ h => h, fun _ h => h, fun _ h => h, fun _ h => h, fun _ h => h, fun _ h => h⟩)
        exact wpOp_plain rfl rfl (wp_store_mid tP (.tmp 15) (.tmp 110) rfl N2 0 Ly.toArray e1 (hF.done 11 (110, SP.is (.agg Ly.toArray)) (by rw [hD]; rfl) (ready_dep hk 11 (by kernel_rfl))) T HYJ.out HYO.out ⟨N1, N2, vv, hl2 16, (hT.skip 16 1000 (by rw [hD]; rfl) (by rw [hl]; decide)), below_setCells hb1 m1 _, Row.setCells_other rs _ _ _ (by omega), (fun h => ⟨(hc (by rwa [getD_set _ _ _ (by decide)] at h)).1, ⟨hcd.2.1.own.gro (gro_setsL W N2 0 Ly) (fun g e1 e2 => h3 (ready_dep hk 8 (by kernel_rfl)) (ready_dep hk 14 (by kernel_rfl)) (by rw [← e2]; exact e1)), hcd.2.1.ok⟩, (hc (by rwa [getD_set _ _ _ (by decide)] at h)).2.2⟩), (fun h => (hm (by rwa [getD_set _ _ _ (by decide)] at h))), (fun h => (hx (by rwa [getD_set _ _ _ (by decide)] at h))), (fun h => ⟨(h1 (by rwa [getD_set _ _ _ (by decide)] at h)).1, (h1 (by rwa [getD_set _ _ _ (by decide)] at h)).2.1, by rw [getD_set _ _ _ (by decide)]; exact Row.setCells_other (h1 (by rwa [getD_set _ _ _ (by decide)] at h)).2.2 _ _ _ (fun z => by have zz := (h1 (by rwa [getD_set _ _ _ (by decide)] at h)).2.2; rw [z] at zz; exact absurd (row_ty zz y2) (by decide))⟩), (fun _ => ⟨e1, m1, by rw [if_pos (getD_same (by rw [hl]; decide))]; exact fin⟩), (fun h h2 => h3 (by rwa [getD_set _ _ _ (by decide)] at h) (by rwa [getD_set _ _ _ (by decide)] at h2))⟩)
      · have hk3 := hk
        exact wpOp_plain rfl rfl (wp_assign_v (ac.eval (.tmp 111)) rfl rfl ⟨N1, N2, vv, hl2 17, (hF.put 17 16 (SP.is (.int .i64 E)) (ac.eval (.tmp 111)) (by rw [hD]; rfl) ((hF.done 12 (111, SP.is (.int .i64 E)) (by rw [hD]; rfl) (ready_dep hk 12 (by kernel_rfl)))) (by rw [hD]; rfl) (by rw [hsz]; decide) (by rw [hl]; decide)), hb1, rs, (fun h => ⟨(eval_put_other ac _ (by decide)).trans (hc (by rwa [getD_set _ _ _ (by decide)] at h)).1, (hc (by rwa [getD_set _ _ _ (by decide)] at h)).2⟩), (fun h => (eval_put_other ac _ (by decide)).trans (hm (by rwa [getD_set _ _ _ (by decide)] at h))), (fun h => (eval_put_other ac _ (by decide)).trans (hx (by rwa [getD_set _ _ _ (by decide)] at h))), (fun h => ⟨(eval_put_other ac _ (by decide)).trans (h1 (by rwa [getD_set _ _ _ (by decide)] at h)).1, (h1 (by rwa [getD_set _ _ _ (by decide)] at h)).2.1, by rw [getD_set _ _ _ (by decide)]; exact (h1 (by rwa [getD_set _ _ _ (by decide)] at h)).2.2⟩), (fun h => ⟨(eval_put_other ac _ (by decide)).trans (h2 (by rwa [getD_set _ _ _ (by decide)] at h)).1, (h2 (by rwa [getD_set _ _ _ (by decide)] at h)).2.1, by rw [getD_set _ _ _ (by decide)]; exact (h2 (by rwa [getD_set _ _ _ (by decide)] at h)).2.2⟩), (fun h h2 => h3 (by rwa [getD_set _ _ _ (by decide)] at h) (by rwa [getD_set _ _ _ (by decide)] at h2))⟩)
    · clear hb1 rs
      intro listed ac W hI hr
      obtain ⟨N1, N2, vv, hl, hF, hb1, rs, hc, hm, hx, h1, h2, h3⟩ := hI
      have hall := all_listed (by kernel_rfl) hl hr
      obtain ⟨ec, hRv, hAv⟩ := hc (hall 8 (by decide))
      have em := hm (hall 9 (by decide))
      have ex := hx (hall 10 (by decide))
      obtain ⟨ea1, mN1, r14⟩ := h1 (hall 13 (by decide))
      obtain ⟨ea2, mN2, r15⟩ := h2 (hall 14 (by decide))
      rw [if_pos (hall 15 (by decide))] at r14
      rw [if_pos (hall 16 (by decide))] at r15
      have h_100 : ac.eval (.tmp 100) = .pointer (some ⟨q, 0, none⟩) := hF.done 0 (100, SP.is (.pointer (some ⟨q, 0, none⟩))) (by rw [hD]; rfl) (hall 0 (by decide))
      have h_101 : ac.eval (.tmp 101) = .int .i64 (k : Int) := hF.done 1 (101, SP.is (.int .i64 (k : Int))) (by rw [hD]; rfl) (hall 1 (by decide))
      have h_102 : ac.eval (.tmp 102) = .pointer (some ⟨q, 0, none⟩) := hF.done 2 (102, SP.is (.pointer (some ⟨q, 0, none⟩))) (by rw [hD]; rfl) (hall 2 (by decide))
      have h_103 : ac.eval (.tmp 103) = .pointer (some ⟨q, 3, none⟩) := hF.done 3 (103, SP.is (.pointer (some ⟨q, 3, none⟩))) (by rw [hD]; rfl) (hall 3 (by decide))
      have h_104 : ac.eval (.tmp 104) = .pointer (some ⟨q, 3 + k * 70, none⟩) := hF.done 4 (104, SP.is (.pointer (some ⟨q, 3 + k * 70, none⟩))) (by rw [hD]; rfl) (hall 4 (by decide))
      have h_105 : ac.eval (.tmp 105) = .agg L.toArray := hF.done 5 (105, SP.is (.agg L.toArray)) (by rw [hD]; rfl) (hall 5 (by decide))
      have h_106 : ac.eval (.tmp 106) = .pointer (some ⟨bS, 90, none⟩) := hF.done 6 (106, SP.is (.pointer (some ⟨bS, 90, none⟩))) (by rw [hD]; rfl) (hall 6 (by decide))
      have h_107 : ac.eval (.tmp 107) = .int .i64 s.now := hF.done 7 (107, SP.is (.int .i64 s.now)) (by rw [hD]; rfl) (hall 7 (by decide))
      have h_110 : ac.eval (.tmp 110) = .agg Ly.toArray := hF.done 11 (110, SP.is (.agg Ly.toArray)) (by rw [hD]; rfl) (hall 11 (by decide))
      have h_111 : ac.eval (.tmp 111) = .int .i64 E := hF.done 12 (111, SP.is (.int .i64 E)) (by rw [hD]; rfl) (hall 12 (by decide))
      have h_16 : ac.eval (.tmp 16) = .int .i64 E := hF.done 17 (16, SP.is (.int .i64 E)) (by rw [hD]; rfl) (hall 17 (by decide))
      have ea := hF.lay [(100, .pointer (some ⟨q, 0, none⟩)), (101, .int .i64 (k : Int)), (102, .pointer (some ⟨q, 0, none⟩)), (103, .pointer (some ⟨q, 3, none⟩)), (104, .pointer (some ⟨q, 3 + k * 70, none⟩)), (105, .agg L.toArray), (106, .pointer (some ⟨bS, 90, none⟩)), (107, .int .i64 s.now), (108, .tuple #[.agg (st'.dc vv).toArray, .agg Ly.toArray, .int .i64 E]), (99, .tuple #[.agg (st'.dc vv).toArray, .agg Ly.toArray, .int .i64 E]), (109, .agg (st'.dc vv).toArray), (110, .agg Ly.toArray), (111, .int .i64 E), (14, .pointer (some ⟨N1, 0, none⟩)), (15, .pointer (some ⟨N2, 0, none⟩)), (16, .int .i64 E)] (by rw [hD, hsz]; rfl) (by simp only [List.forall_mem_cons, List.not_mem_nil, false_implies, implies_true, and_true]; exact ⟨h_100, h_101, h_102, h_103, h_104, h_105, h_106, h_107, ec, em, ex, h_110, h_111, ea1, ea2, h_16⟩)
      rw [ha0] at ea
      simp only [List.foldl_cons, List.foldl_nil, List.setIfInBounds_toArray, List.set_cons_zero, List.set_cons_succ] at ea
      clear hF hall hr hl hD hc hm hx h1 h2 h3 zs0 zs1 zs5 ha0 hsz h_100 h_101 h_102 h_103 h_104 h_105 h_106 h_107 ec em ex h_110 h_111 ea1 ea2 h_16
      subst ea
      obtain ⟨e2, he2⟩ : ∃ x, x = vv := ⟨_, rfl⟩
      rw [← he2] at r14 hRv hAv ⊢
      have r28 := r14
      have hR2 := hRv
      have hA2 := hAv
      clear he2 r14 hRv hAv
      have HRN2 : Hid (Row W NN Ly tP) := Row.below HRN.out hb1 HRN.out.lt
      have HR15 : Hid (Row W N2 Ly tP) := r15
      clear r15
      rw [show W = W from rfl] at HRN2
      obtain ⟨V2, hV2⟩ : ∃ V, V = W := ⟨_, rfl⟩
      rw [← hV2] at r28 hR2 hb1 HRN2 HR15 ⊢
      have HP3 : Hid (Pl w0 V2 q B Ls2 Es T ts) := HPV.out.below hb1
      have HR2 : Hid (Rf V2 e2 B st') := hR2
      have HA2 : Hid (Ap V.heap.size e e2) := hA2
      have hne : N1 ≠ q := by have := HPV.out.row.lt; omega
      obtain ⟨D2, hD2⟩ : ∃ M, M = st'.dc e2 := ⟨_, rfl⟩
      rw [← hD2] at r28
      have HD2 : Hid (D2 = st'.dc e2) := hD2
      have HID : Hid ((Try.prog.info? tRL).map (·.size) = some D2.length) := by show _ = _; rw [hD2]; exact La.dinfo HOK.out.cf _
      have HIJ : Hid ((Try.prog.info? tRL).map (·.size) = some D2.toArray.size) := by show _ = _; rw [List.size_toArray]; exact HID.out
      have HDO : Hid (D2.toArray.all (·.oneCell') = true) := by show _ = _; rw [hD2]; exact hR2.one
      have HDL : Hid (D2.length = 70) := by show _ = _; rw [hD2]; exact La.dlen HOK.out.cf _
      obtain ⟨PC, hPC⟩ : ∃ M, M = prc (Ls2.map (·.1)) (Es.map fun e => e.2.dc e.1) T := ⟨_, rfl⟩
      have HPC : Hid (PC = prc (Ls2.map (·.1)) (Es.map fun e => e.2.dc e.1) T) := hPC
      have rq : Row V2 q PC tPr := by rw [hPC]; exact HP3.out.row
      have HPN : Hid (3 + k * 70 + D2.toArray.size ≤ PC.length) := by show _ ≤ _; rw [List.size_toArray, HDL.out, hPC, prc_len (by rw [List.length_map]; exact HP3.out.l3) (by rw [List.length_map]; exact HP3.out.e3) HP3.out.d70]; have := HK3.out; omega
      have hqn : w0.heap.size ≤ q := HP3.out.qn
      have gQ : Gro (· = q) V2 V2 := Gro.refl _ _
      clear hb1
      have hb1 : Below w0.heap.size w0 V2 := HP3.out.be
      clear hV2 hR2 hA2 hD2 hPC rs hbV HRR HRD HPV
      go_upto_region 10 with fail
      refine wp_named fun a0 ha0 => ?_
      have hsz : a0.tmps.size = 244 := by rw [ha0]; rfl
      have zs0 : a0.eval (.tmp 0) = .pointer (some ⟨q, 0, none⟩) := by rw [ha0]; rfl
      have zs1 : a0.eval (.tmp 1) = .int .i64 (k : Int) := by rw [ha0]; rfl
      have zs14 : a0.eval (.tmp 14) = .pointer (some ⟨N1, 0, none⟩) := by rw [ha0]; rfl
      obtain ⟨D, hD⟩ : ∃ D : List (Tmp × SP), D = [(112, SP.is (.pointer (some ⟨q, 0, none⟩))), (113, SP.is (.int .i64 (k : Int))), (114, SP.is (.agg D2.toArray)), (115, SP.is (.pointer (some ⟨q, 0, none⟩))), (116, SP.is (.pointer (some ⟨q, 3, none⟩))), (117, SP.is (.pointer (some ⟨q, 3 + k * 70, none⟩))), (1000, SP.any)] := ⟨_, rfl⟩
      refine wp_region_down (by kernel_rfl) (fun listed ac W => listed.size = 7 ∧ Fp D a0 listed ac W ∧ Below w0.heap.size w0 W ∧ Row W q (if listed.getD 6 false = true then (PC.take (3 + k * 70) ++ D2 ++ PC.drop (3 + k * 70 + D2.length)) else PC) tPr ∧ Row W N1 D2 tRL ∧ Gro (· = q) V2 W) ?_ ?_ ?_
      · exact ⟨by simp, Fp.start D a0 _ _, Below.drew hb1, (by rw [if_neg (fun h => start_no h)]; exact Row.drew rq), Row.drew r28, gQ.below (Below.drew (Below.refl _ _))⟩
      · clear ha0 hb1 rq r28 gQ 
        intro listed ac W k hI hdn hk
        obtain ⟨hl, hF, hb1, rq, r28, gQ⟩ := hI
        have hk1 : k < 7 := List.mem_range.1 (List.mem_filter.1 hk).1
        have hl2 : ∀ j, (listed.setIfInBounds j true).size = 7 := fun j => by rw [Array.size_setIfInBounds]; exact hl
        rcases (show k = 0 ∨ k = 1 ∨ k = 2 ∨ k = 3 ∨ k = 4 ∨ k = 5 ∨ k = 6 by omega) with rfl | rfl | rfl | rfl | rfl | rfl | rfl
        · have hk3 := hk
          exact wpOp_plain rfl rfl (wp_move_v (ac.eval (.tmp 0)) rfl rfl ⟨hl2 0, (hF.put 0 112 (SP.is (.pointer (some ⟨q, 0, none⟩))) (ac.eval (.tmp 0)) (by rw [hD]; rfl) (((hF.keep 0 (by rw [hD]; rfl)).trans zs0)) (by rw [hD]; rfl) (by rw [hsz]; decide) (by rw [hl]; decide)), hb1, (by rw [getD_set _ _ _ (by decide)]; exact rq), r28, gQ⟩)
        · have hk3 := hk
          exact wpOp_plain rfl rfl (wp_move_v (ac.eval (.tmp 1)) rfl rfl ⟨hl2 1, (hF.put 1 113 (SP.is (.int .i64 (k : Int))) (ac.eval (.tmp 1)) (by rw [hD]; rfl) (((hF.keep 1 (by rw [hD]; rfl)).trans zs1)) (by rw [hD]; rfl) (by rw [hsz]; decide) (by rw [hl]; decide)), hb1, (by rw [getD_set _ _ _ (by decide)]; exact rq), r28, gQ⟩)
        · have hk3 := hk
          exact wpOp_plain rfl rfl (wp_load_mid tRL (.tmp 14) rfl N1 0 ((hF.keep 14 (by rw [hD]; rfl)).trans zs14) D2 _ r28.all Try.underlying44 rfl HID.out ⟨hl2 2, (hF.put 2 114 (SP.is (.agg D2.toArray)) (.agg D2.toArray) (by rw [hD]; rfl) rfl (by rw [hD]; rfl) (by rw [hsz]; decide) (by rw [hl]; decide)), hb1, (by rw [getD_set _ _ _ (by decide)]; exact rq), r28, gQ⟩)
        · have hk3 := hk
          have ea := (hF.done 0 (112, SP.is (.pointer (some ⟨q, 0, none⟩))) (by rw [hD]; rfl) (ready_dep hk 0 (by kernel_rfl)))
          exact wpOp_plain rfl rfl (wp_nilL rfl q ea ⟨hl2 3, (hF.put 3 115 (SP.is (.pointer (some ⟨q, 0, none⟩))) (.pointer (some ⟨q, 0, none⟩)) (by rw [hD]; rfl) rfl (by rw [hD]; rfl) (by rw [hsz]; decide) (by rw [hl]; decide)), hb1, (by rw [getD_set _ _ _ (by decide)]; exact rq), r28, gQ⟩)
        · have hk3 := hk
          have ea := (hF.done 3 (115, SP.is (.pointer (some ⟨q, 0, none⟩))) (by rw [hD]; rfl) (ready_dep hk 3 (by kernel_rfl)))
          exact wpOp_plain rfl rfl (wp_fPr1 rfl q ea ⟨hl2 4, (hF.put 4 116 (SP.is (.pointer (some ⟨q, 3, none⟩))) (.pointer (some ⟨q, 3, none⟩)) (by rw [hD]; rfl) rfl (by rw [hD]; rfl) (by rw [hsz]; decide) (by rw [hl]; decide)), hb1, (by rw [getD_set _ _ _ (by decide)]; exact rq), r28, gQ⟩)
        · have hk3 := hk
          have ea := (hF.done 4 (116, SP.is (.pointer (some ⟨q, 3, none⟩))) (by rw [hD]; rfl) (ready_dep hk 4 (by kernel_rfl)))
          have eb := (hF.done 1 (113, SP.is (.int .i64 (k : Int))) (by rw [hD]; rfl) (ready_dep hk 1 (by kernel_rfl)))
          exact wpOp_plain rfl rfl (wp_ixO tR3 tRL rfl q 3 k 70 3 (3 + k * 70) ea eb HK3.out und_R3 info_RL rfl ⟨hl2 5, (hF.put 5 117 (SP.is (.pointer (some ⟨q, 3 + k * 70, none⟩))) (.pointer (some ⟨q, 3 + k * 70, none⟩)) (by rw [hD]; rfl) rfl (by rw [hD]; rfl) (by rw [hsz]; decide) (by rw [hl]; decide)), hb1, (by rw [getD_set _ _ _ (by decide)]; exact rq), r28, gQ⟩)
        · have hk3 := hk
          have hno : ¬ listed.getD 6 false = true := not_yet hk
          rw [if_neg hno] at rq
          have T := rq.there (3 + k * 70) D2.toArray.size HPN.out
          have fin := Row.setCells (3 + k * 70) D2 rq (by have := HPN.out; rwa [List.size_toArray] at this)
          have hT : Fp D a0 listed ac (W.setCells q (3 + k * 70) D2) := hF.turn (by rw [hD]; simp only [List.forall_mem_cons, List.not_mem_nil, false_implies, implies_true, and_true]; exact ⟨fun _ h => h, fun _ h => h, fun _ h => h, fun _ h => h, fun _ h => h, fun _ h => h, fun _ h => h⟩)
          exact wpOp_plain rfl rfl (wp_store_mid tRL (.tmp 117) (.tmp 114) rfl q (3 + k * 70) D2.toArray (hF.done 5 (117, SP.is (.pointer (some ⟨q, 3 + k * 70, none⟩))) (by rw [hD]; rfl) (ready_dep hk 5 (by kernel_rfl))) (hF.done 2 (114, SP.is (.agg D2.toArray)) (by rw [hD]; rfl) (ready_dep hk 2 (by kernel_rfl))) T HIJ.out HDO.out ⟨hl2 6, (hT.skip 6 1000 (by rw [hD]; rfl) (by rw [hl]; decide)), below_setCells hb1 (by omega) _, (by rw [if_pos (getD_same (by rw [hl]; decide))]; exact fin), Row.setCells_other r28 _ _ _ (by omega), gQ.trans (gro_setsL W q (3 + k * 70) D2)⟩)
      · clear hb1 rq r28 gQ 
        intro listed ac W hI hr
        obtain ⟨hl, hF, hb1, rq, r28, gQ⟩ := hI
        have hall := all_listed (by kernel_rfl) hl hr
        rw [if_pos (hall 6 (by decide))] at rq
        have h112 : ac.eval (.tmp 112) = .pointer (some ⟨q, 0, none⟩) := hF.done 0 (112, SP.is (.pointer (some ⟨q, 0, none⟩))) (by rw [hD]; rfl) (hall 0 (by decide))
        have h113 : ac.eval (.tmp 113) = .int .i64 (k : Int) := hF.done 1 (113, SP.is (.int .i64 (k : Int))) (by rw [hD]; rfl) (hall 1 (by decide))
        have h114 : ac.eval (.tmp 114) = .agg D2.toArray := hF.done 2 (114, SP.is (.agg D2.toArray)) (by rw [hD]; rfl) (hall 2 (by decide))
        have h115 : ac.eval (.tmp 115) = .pointer (some ⟨q, 0, none⟩) := hF.done 3 (115, SP.is (.pointer (some ⟨q, 0, none⟩))) (by rw [hD]; rfl) (hall 3 (by decide))
        have h116 : ac.eval (.tmp 116) = .pointer (some ⟨q, 3, none⟩) := hF.done 4 (116, SP.is (.pointer (some ⟨q, 3, none⟩))) (by rw [hD]; rfl) (hall 4 (by decide))
        have h117 : ac.eval (.tmp 117) = .pointer (some ⟨q, 3 + k * 70, none⟩) := hF.done 5 (117, SP.is (.pointer (some ⟨q, 3 + k * 70, none⟩))) (by rw [hD]; rfl) (hall 5 (by decide))
        have ea := hF.lay [(112, .pointer (some ⟨q, 0, none⟩)), (113, .int .i64 (k : Int)), (114, .agg D2.toArray), (115, .pointer (some ⟨q, 0, none⟩)), (116, .pointer (some ⟨q, 3, none⟩)), (117, .pointer (some ⟨q, 3 + k * 70, none⟩))] (by rw [hD, hsz]; rfl) (by simp only [List.forall_mem_cons, List.not_mem_nil, false_implies, implies_true, and_true]; exact ⟨h112, h113, h114, h115, h116, h117⟩)
        rw [ha0] at ea
        simp only [List.foldl_cons, List.foldl_nil, List.setIfInBounds_toArray, List.set_cons_zero, List.set_cons_succ] at ea
        clear hF hall hr hl hD  zs0 zs1 zs14 ha0 hsz h112 h113 h114 h115 h116 h117
        subst ea
        have FP : Hid (Pl w0 W q B Ls2 (Es.set k (e2, st')) T ts) := HP3.out.setE HK3.out HR2.out (fun g eg l hl => by
          rcases HA2.out g eg with z | z
          · exact HP3.out.ra (e, st) (List.mem_of_getElem? HEK.out) g z l hl
          · intro tb
            have := (HPVL.out l hl).lt g tb
            omega) (by rw [HPC.out, HD2.out] at rq; exact rq) gQ
        have F12 : Hid (Row W NN Ly tP) := gQ.row HRN2.out (fun z => absurd (row_ty (z ▸ HRN2.out) HP3.out.row) (by decide))
        have F15 : Hid (Row W N2 Ly tP) := gQ.row HR15.out (fun z => absurd (row_ty (z ▸ HR15.out) HP3.out.row) (by decide))
        clear rq r28 gQ hb1
        rw [HLY.out] at F12 F15
        have HIY2 : Hid ((Try.prog.info? tP).map (·.size) = some y.cells.length) := Pn.info HYW.out
        go_wp2_with (first
          | (refine wpList_ldS rfl tP (.tmp 12) rfl NN 0 rfl y.cells _ F12.out.all Try.underlying66 rfl HIY2.out ?_; simp only [Act.put, List.setIfInBounds_toArray, List.set_cons_zero, List.set_cons_succ])
          | (refine wpList_ldS rfl tP (.tmp 15) rfl N2 0 rfl y.cells _ F15.out.all Try.underlying66 rfl HIY2.out ?_; simp only [Act.put, List.setIfInBounds_toArray, List.set_cons_zero, List.set_cons_succ])
          | (refine wpList_eqP rfl (.tmp 118) (.tmp 119) _ rfl y y HYW.out HYW.out rfl rfl true (decide_eq_true rfl) ?_; simp only [Act.put, List.setIfInBounds_toArray, List.set_cons_zero, List.set_cons_succ]))
        go_ret
        exact ⟨by simp, v1, e2, st', by rw [← HL2.out]; exact FP.out⟩

end Go.Proofs.Ytfdbjcdcfmnicaa
