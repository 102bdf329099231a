/-
  LadderPlays: look at Find and Before.
-/
import Derived.Test.YtfdbjcdcfmnicaaLpM
namespace Go.Proofs.Ytfdbjcdcfmnicaa
open Go Go.RowKit
open Sha

theorem find_wf {B : Int} {st : La} (h : st.Ok B) {nr : Int} {y : Pn} {E : Int} (hr : st.find nr = (y, E)) : y.Wf := by
  cases hi : fiN st.pend nr with
  | none =>
    simp only [La.find, hi] at hr
    obtain ⟨rfl, _⟩ := Prod.mk.inj hr
    exact zP_wf
  | some i =>
    have hl := (fiN_lt hi).1
    simp only [La.find, hi, List.getElem?_eq_getElem hl] at hr
    obtain ⟨rfl, _⟩ := Prod.mk.inj hr
    exact h.pw _ (List.getElem_mem hl)
theorem lfind_any {w : World} {p : Nat} {v : Value} {B : Int} {st : La} (h : Ld w p v B st) (nr : Int) (y : Pn) (E : Int) (hr : st.find nr = (y, E)) : Calls Try.prog 31 #[.pointer (some ⟨p, 0, none⟩), .int .i64 nr] w fun e w' => e = .returned (.tuple #[.agg y.cells.toArray, .int .i64 E]) ∧ Below w.heap.size w w' := by
  cases hi : fiN st.pend nr with
  | none =>
    simp only [La.find, hi] at hr
    obtain ⟨rfl, rfl⟩ := Prod.mk.inj hr
    exact find_none h nr hi
  | some i =>
    have hl := (fiN_lt hi).1
    simp only [La.find, hi, List.getElem?_eq_getElem hl] at hr
    obtain ⟨rfl, rfl⟩ := Prod.mk.inj hr
    exact find_some h nr i _ hi (List.getElem?_eq_getElem hl)
theorem bef_wf {B : Int} {st : La} (h : st.Ok B) {nr : Int} {y : Cm} {E : Int} (hr : st.bef nr = (y, E)) : y.Wf := by
  cases hi : fiN st.pend nr with
  | none =>
    simp only [La.bef, hi] at hr
    obtain ⟨rfl, _⟩ := Prod.mk.inj hr
    exact zC_wf
  | some i =>
    simp only [La.bef, hi] at hr
    obtain ⟨rfl, _⟩ := Prod.mk.inj hr
    exact (La.beh_wf h i (Nat.le_of_lt (fiN_lt hi).1)).1
theorem lbefore_any {w : World} {p : Nat} {v : Value} {B : Int} {st : La} (h : Ld w p v B st) (nr : Int) (y : Cm) (E : Int) (hr : st.bef nr = (y, E)) : Calls Try.prog 64 #[.pointer (some ⟨p, 0, none⟩), .int .i64 nr] w fun e w' => e = .returned (.tuple #[.agg y.cells.toArray, .int .i64 E]) ∧ Below w.heap.size w w' := by
  cases hi : fiN st.pend nr with
  | none =>
    simp only [La.bef, hi] at hr
    obtain ⟨rfl, rfl⟩ := Prod.mk.inj hr
    exact before_none h nr hi
  | some i =>
    simp only [La.bef, hi] at hr
    obtain ⟨rfl, rfl⟩ := Prod.mk.inj hr
    exact before_some h nr i hi (fiN_lt hi).1 _ rfl
set_option maxRecDepth 100000 in
set_option maxHeartbeats 16000000 in
theorem look_find {w0 w : World} {q : Nat} {B : Int} {Ls : List (Nat × Value × La)} {Es : List (Value × La)} {T : Value} {ts : List (Value × Nat)} (h : Pl w0 w q B Ls Es T ts) {k p : Nat} {v e : Value} {st : La} (hk : Ls[k]? = some (p, v, st)) (he : Es[k]? = some (e, st)) (s : Sp16) (hs : s.Ok) (hkd : s.kd = 6) (S : List Value) (hS : S = s.cells) :
    Calls Try.prog 18 #[.pointer (some ⟨q, 0, none⟩), .int .i64 (k : Int), .agg S.toArray] w fun r w' => r = .returned (.bool true) ∧ Pl w0 w' q B Ls Es T ts := by
  obtain ⟨y, E, hr⟩ : ∃ y E, st.find s.nr = (y, E) := ⟨_, _, rfl⟩
  have HYW : Hid y.Wf := find_wf (h.lad hk).ok hr
  obtain ⟨Ly, hLy⟩ : ∃ M, M = y.cells := ⟨_, rfl⟩
  have HLY : Hid (Ly = y.cells) := hLy
  have HIY : Hid ((Try.prog.info? tP).map (·.size) = some Ly.length) := by show _ = _; rw [hLy]; exact Pn.info HYW.out
  have HYJ : Hid ((Try.prog.info? tP).map (·.size) = some Ly.toArray.size) := by show _ = _; rw [List.size_toArray]; exact HIY.out
  have HYO : Hid (Ly.toArray.all (·.oneCell') = true) := by show _ = _; rw [hLy]; exact all_one (Pn.one y)
  have HYL : Hid (Ly.length = zP.cells.length) := by show _ = _; rw [hLy]; exact (Pn.len HYW.out).trans (Pn.len zP_wf).symm
  have HYT : Hid (0 + Ly.toArray.size ≤ zP.cells.length) := by show _ ≤ _; rw [List.size_toArray, HYL.out]; omega
  have HRL0 : Hid (∀ W, Pl w0 W q B Ls Es T ts → Calls Try.prog 31 #[.pointer (some ⟨p, 0, none⟩), .int .i64 s.nr] W fun r w' => r = .returned (.tuple #[.agg Ly.toArray, .int .i64 E]) ∧ Below W.heap.size W w') := fun W hP => by rw [hLy]; exact lfind_any (hP.lad hk) s.nr y E hr
  have hk3 : k < 3 := by have := (List.getElem?_eq_some_iff.1 hk).1; rw [h.l3] at this; exact this
  have HK3 : Hid (k < 3) := hk3
  have HPL : Hid (Pl w0 w q B Ls Es T ts) := h
  have HLK : Hid (Ls[k]? = some (p, v, st)) := hk
  have HEK : Hid (Es[k]? = some (e, st)) := he
  have HNR : Hid (S[91]? = some (.int .i64 s.nr)) := by rw [hS]; exact Sp16.at_nr hs
  have HKD : Hid (S[0]? = some (.int .i64 6)) := by rw [hS, ← hkd]; exact Sp16.at_kd s
  have HCP0 : Hid (∀ W, Pl w0 W q B Ls Es T ts → W.cell? ⟨q, k, none⟩ = some (.pointer (some ⟨p, 0, none⟩))) := fun W hP => hP.row.cell k _ (prc_p (by rw [List.getElem?_map, hk]; rfl))
  obtain ⟨L, hL⟩ : ∃ L, L = st.dc e := ⟨_, rfl⟩
  have HIL : Hid ((Try.prog.info? tRL).map (·.size) = some L.length) := by show _ = _; rw [hL]; exact La.dinfo (h.rf _ (List.mem_of_getElem? he)).ok.cf _
  have HRD0 : Hid (∀ W, Pl w0 W q B Ls Es T ts → W.rangeAt q (3 + k * 70) L) := fun W hP => hP.row.range (3 + k * 70) _ (fun j u hj => prc_d (by rw [List.length_map]; exact hP.l3) hP.d70 (by rw [List.getElem?_map, he]; rfl) j u (by rw [hL] at hj; exact hj))
  have HRR0 : Hid (∀ W, Pl w0 W q B Ls Es T ts → Calls Try.prog 63 #[.agg L.toArray, .int .i64 s.nr] W fun r w' => r = .returned (.tuple #[.agg Ly.toArray, .int .i64 E]) ∧ Below W.heap.size W w') := fun W hP => by rw [hLy]; exact rfind_any (hP.rf _ (List.mem_of_getElem? he)) s.nr L hL y E hr
  clear hLy hr
  clear h hk he hs hkd hS hk3 hL
  go_enter Try.func18, Try.ntmps18
  go_upto_region 3 with (refine wpList_bxG tSt rfl (.tmp 2) rfl S rfl ?_; intro X1 q1 q2 q3; clear q3; have ck : X1.cell? ⟨w.heap.size, 0, none⟩ = some (.int .i64 6) := q1.cell 0 _ HKD.out; have RS : Hid (Row X1 w.heap.size S tSt) := q1; have HP1 : Hid (Pl w0 X1 q B Ls Es T ts) := HPL.out.below q2; clear q1 q2; simp only [Act.put, List.setIfInBounds_toArray, List.set_cons_zero, List.set_cons_succ])
  obtain ⟨bS, hbS⟩ : ∃ b, b = w.heap.size := ⟨_, rfl⟩
  rw [← hbS] at RS ⊢
  clear hbS ck HPL
  have HCP : Hid (∀ W, Below X1.heap.size X1 W → W.cell? ⟨q, k, none⟩ = some (.pointer (some ⟨p, 0, none⟩))) := fun W k => HCP0.out W (HP1.out.below k)
  have HRL : Hid (∀ W, Below X1.heap.size X1 W → Calls Try.prog 31 #[.pointer (some ⟨p, 0, none⟩), .int .i64 s.nr] W fun r w' => r = .returned (.tuple #[.agg Ly.toArray, .int .i64 E]) ∧ Below W.heap.size W w') := fun W k => HRL0.out W (HP1.out.below k)
  have rs := RS.out
  have hbX := rs.lt
  have hb1 := Below.refl X1.heap.size X1
  clear HCP0 HRL0 RS
  refine wp_named fun a0 ha0 => ?_
  have hsz : a0.tmps.size = 259 := by rw [ha0]; rfl
  have zs0 : a0.eval (.tmp 0) = .pointer (some ⟨q, 0, none⟩) := by rw [ha0]; rfl
  have zs1 : a0.eval (.tmp 1) = .int .i64 (k : Int) := by rw [ha0]; rfl
  have zs5 : a0.eval (.tmp 5) = .pointer (some ⟨bS, 0, none⟩) := by rw [ha0]; rfl
  obtain ⟨D, hD⟩ : ∃ D : List (Tmp × SP), D = [(34, SP.is (.pointer (some ⟨q, 0, none⟩))), (35, SP.is (.int .i64 (k : Int))), (36, SP.is (.pointer (some ⟨q, 0, none⟩))), (37, SP.is (.pointer (some ⟨q, 0, none⟩))), (38, SP.is (.pointer (some ⟨q, k, none⟩))), (39, SP.is (.pointer (some ⟨p, 0, none⟩))), (40, SP.is (.pointer (some ⟨bS, 91, none⟩))), (41, SP.is (.int .i64 s.nr)), (42, SP.is (.tuple #[.agg Ly.toArray, .int .i64 E])), (33, SP.is (.tuple #[.agg Ly.toArray, .int .i64 E])), (43, SP.is (.agg Ly.toArray)), (44, SP.is (.int .i64 E)), (7, SP.any), (1000, SP.any), (8, SP.is (.int .i64 E))] := ⟨_, rfl⟩
  refine wp_region_down (by kernel_rfl) (fun listed ac W => ∃ (N1 : Nat), listed.size = 15 ∧ Fp D a0 listed ac W ∧ Below X1.heap.size X1 W ∧ Row W bS S tSt ∧ (listed.getD 12 false = true → ac.eval (.tmp 7) = .pointer (some ⟨N1, 0, none⟩) ∧ X1.heap.size - 1 < N1 ∧ Row W N1 (if listed.getD 13 false = true then Ly else zP.cells) tP) ∧ (listed.getD 13 false = true → listed.getD 12 false = true)) ?_ ?_ ?_
  · exact ⟨0, by simp, Fp.start D a0 _ _, Below.drew hb1, Row.drew rs, (fun h => (start_no h).elim), (fun h => (start_no h).elim)⟩
  · clear ha0 hb1 rs 
    intro listed ac W k hI hdn hk
    obtain ⟨N1, hl, hF, hb1, rs, al12, as12⟩ := hI
    have hk1 : k < 15 := List.mem_range.1 (List.mem_filter.1 hk).1
    have hl2 : ∀ j, (listed.setIfInBounds j true).size = 15 := fun j => by rw [Array.size_setIfInBounds]; exact hl
    rcases (show k = 0 ∨ k = 1 ∨ k = 2 ∨ k = 3 ∨ k = 4 ∨ k = 5 ∨ k = 6 ∨ k = 7 ∨ k = 8 ∨ k = 9 ∨ k = 10 ∨ k = 11 ∨ k = 12 ∨ k = 13 ∨ k = 14 by omega) with rfl | rfl | rfl | rfl | rfl | rfl | rfl | rfl | rfl | rfl | rfl | rfl | rfl | rfl | rfl
    · have hk3 := hk
      exact wpOp_plain rfl rfl (wp_move_v (ac.eval (.tmp 0)) rfl rfl ⟨N1, hl2 0, (hF.put 0 34 (SP.is (.pointer (some ⟨q, 0, none⟩))) (ac.eval (.tmp 0)) (by rw [hD]; rfl) (((hF.keep 0 (by rw [hD]; rfl)).trans zs0)) (by rw [hD]; rfl) (by rw [hsz]; decide) (by rw [hl]; decide)), hb1, rs, (fun h => ⟨(eval_put_other ac _ (by decide)).trans ((al12 (by rwa [getD_set _ _ _ (by decide)] at h)).1), (al12 (by rwa [getD_set _ _ _ (by decide)] at h)).2.1, by rw [getD_set _ _ _ (by decide)]; exact (al12 (by rwa [getD_set _ _ _ (by decide)] at h)).2.2⟩), (fun h => by rw [getD_set _ _ _ (by decide)]; exact as12 (by rwa [getD_set _ _ _ (by decide)] at h))⟩)
    · have hk3 := hk
      exact wpOp_plain rfl rfl (wp_move_v (ac.eval (.tmp 1)) rfl rfl ⟨N1, hl2 1, (hF.put 1 35 (SP.is (.int .i64 (k : Int))) (ac.eval (.tmp 1)) (by rw [hD]; rfl) (((hF.keep 1 (by rw [hD]; rfl)).trans zs1)) (by rw [hD]; rfl) (by rw [hsz]; decide) (by rw [hl]; decide)), hb1, rs, (fun h => ⟨(eval_put_other ac _ (by decide)).trans ((al12 (by rwa [getD_set _ _ _ (by decide)] at h)).1), (al12 (by rwa [getD_set _ _ _ (by decide)] at h)).2.1, by rw [getD_set _ _ _ (by decide)]; exact (al12 (by rwa [getD_set _ _ _ (by decide)] at h)).2.2⟩), (fun h => by rw [getD_set _ _ _ (by decide)]; exact as12 (by rwa [getD_set _ _ _ (by decide)] at h))⟩)
    · have hk3 := hk
      have ea := (hF.done 0 (34, SP.is (.pointer (some ⟨q, 0, none⟩))) (by rw [hD]; rfl) (ready_dep hk 0 (by kernel_rfl)))
      exact wpOp_plain rfl rfl (wp_nilL rfl q ea ⟨N1, hl2 2, (hF.put 2 36 (SP.is (.pointer (some ⟨q, 0, none⟩))) (.pointer (some ⟨q, 0, none⟩)) (by rw [hD]; rfl) rfl (by rw [hD]; rfl) (by rw [hsz]; decide) (by rw [hl]; decide)), hb1, rs, (fun h => ⟨(eval_put_other ac _ (by decide)).trans ((al12 (by rwa [getD_set _ _ _ (by decide)] at h)).1), (al12 (by rwa [getD_set _ _ _ (by decide)] at h)).2.1, by rw [getD_set _ _ _ (by decide)]; exact (al12 (by rwa [getD_set _ _ _ (by decide)] at h)).2.2⟩), (fun h => by rw [getD_set _ _ _ (by decide)]; exact as12 (by rwa [getD_set _ _ _ (by decide)] at h))⟩)
    · have hk3 := hk
      have ea := (hF.done 2 (36, SP.is (.pointer (some ⟨q, 0, none⟩))) (by rw [hD]; rfl) (ready_dep hk 2 (by kernel_rfl)))
      exact wpOp_plain rfl rfl (wp_fPr0 rfl q ea ⟨N1, hl2 3, (hF.put 3 37 (SP.is (.pointer (some ⟨q, 0, none⟩))) (.pointer (some ⟨q, 0, none⟩)) (by rw [hD]; rfl) rfl (by rw [hD]; rfl) (by rw [hsz]; decide) (by rw [hl]; decide)), hb1, rs, (fun h => ⟨(eval_put_other ac _ (by decide)).trans ((al12 (by rwa [getD_set _ _ _ (by decide)] at h)).1), (al12 (by rwa [getD_set _ _ _ (by decide)] at h)).2.1, by rw [getD_set _ _ _ (by decide)]; exact (al12 (by rwa [getD_set _ _ _ (by decide)] at h)).2.2⟩), (fun h => by rw [getD_set _ _ _ (by decide)]; exact as12 (by rwa [getD_set _ _ _ (by decide)] at h))⟩)
    · have hk3 := hk
      have ea := (hF.done 3 (37, SP.is (.pointer (some ⟨q, 0, none⟩))) (by rw [hD]; rfl) (ready_dep hk 3 (by kernel_rfl)))
      have eb := (hF.done 1 (35, SP.is (.int .i64 (k : Int))) (by rw [hD]; rfl) (ready_dep hk 1 (by kernel_rfl)))
      exact wpOp_plain rfl rfl (wp_ixO tL3 tLp rfl q 3 k 1 0 k ea eb HK3.out und_L3 info_Lp (by omega) ⟨N1, hl2 4, (hF.put 4 38 (SP.is (.pointer (some ⟨q, k, none⟩))) (.pointer (some ⟨q, k, none⟩)) (by rw [hD]; rfl) rfl (by rw [hD]; rfl) (by rw [hsz]; decide) (by rw [hl]; decide)), hb1, rs, (fun h => ⟨(eval_put_other ac _ (by decide)).trans ((al12 (by rwa [getD_set _ _ _ (by decide)] at h)).1), (al12 (by rwa [getD_set _ _ _ (by decide)] at h)).2.1, by rw [getD_set _ _ _ (by decide)]; exact (al12 (by rwa [getD_set _ _ _ (by decide)] at h)).2.2⟩), (fun h => by rw [getD_set _ _ _ (by decide)]; exact as12 (by rwa [getD_set _ _ _ (by decide)] at h))⟩)
    · have hk3 := hk
      have ea := (hF.done 4 (38, SP.is (.pointer (some ⟨q, k, none⟩))) (by rw [hD]; rfl) (ready_dep hk 4 (by kernel_rfl)))
      exact wpOp_plain rfl rfl (wp_ld1 q k (.pointer (some ⟨p, 0, none⟩)) rfl ea (ld_Lp W q k _ (HCP.out W (hb1))) ⟨N1, hl2 5, (hF.put 5 39 (SP.is (.pointer (some ⟨p, 0, none⟩))) (.pointer (some ⟨p, 0, none⟩)) (by rw [hD]; rfl) rfl (by rw [hD]; rfl) (by rw [hsz]; decide) (by rw [hl]; decide)), hb1, rs, (fun h => ⟨(eval_put_other ac _ (by decide)).trans ((al12 (by rwa [getD_set _ _ _ (by decide)] at h)).1), (al12 (by rwa [getD_set _ _ _ (by decide)] at h)).2.1, by rw [getD_set _ _ _ (by decide)]; exact (al12 (by rwa [getD_set _ _ _ (by decide)] at h)).2.2⟩), (fun h => by rw [getD_set _ _ _ (by decide)]; exact as12 (by rwa [getD_set _ _ _ (by decide)] at h))⟩)
    · have hk3 := hk
      have ea := ((hF.keep 5 (by rw [hD]; rfl)).trans zs5)
      exact wpOp_plain rfl rfl (wp_fSt7 rfl bS ea ⟨N1, hl2 6, (hF.put 6 40 (SP.is (.pointer (some ⟨bS, 91, none⟩))) (.pointer (some ⟨bS, 91, none⟩)) (by rw [hD]; rfl) rfl (by rw [hD]; rfl) (by rw [hsz]; decide) (by rw [hl]; decide)), hb1, rs, (fun h => ⟨(eval_put_other ac _ (by decide)).trans ((al12 (by rwa [getD_set _ _ _ (by decide)] at h)).1), (al12 (by rwa [getD_set _ _ _ (by decide)] at h)).2.1, by rw [getD_set _ _ _ (by decide)]; exact (al12 (by rwa [getD_set _ _ _ (by decide)] at h)).2.2⟩), (fun h => by rw [getD_set _ _ _ (by decide)]; exact as12 (by rwa [getD_set _ _ _ (by decide)] at h))⟩)
    · have hk3 := hk
      have ea := (hF.done 6 (40, SP.is (.pointer (some ⟨bS, 91, none⟩))) (by rw [hD]; rfl) (ready_dep hk 6 (by kernel_rfl)))
      exact wpOp_plain rfl rfl (wp_ld1 bS 91 (.int .i64 s.nr) rfl ea (ld_int W bS 91 _ (rs.cell 91 _ HNR.out)) ⟨N1, hl2 7, (hF.put 7 41 (SP.is (.int .i64 s.nr)) (.int .i64 s.nr) (by rw [hD]; rfl) rfl (by rw [hD]; rfl) (by rw [hsz]; decide) (by rw [hl]; decide)), hb1, rs, (fun h => ⟨(eval_put_other ac _ (by decide)).trans ((al12 (by rwa [getD_set _ _ _ (by decide)] at h)).1), (al12 (by rwa [getD_set _ _ _ (by decide)] at h)).2.1, by rw [getD_set _ _ _ (by decide)]; exact (al12 (by rwa [getD_set _ _ _ (by decide)] at h)).2.2⟩), (fun h => by rw [getD_set _ _ _ (by decide)]; exact as12 (by rwa [getD_set _ _ _ (by decide)] at h))⟩)
    · have hk3 := hk
      have e39 := (hF.done 5 (39, SP.is (.pointer (some ⟨p, 0, none⟩))) (by rw [hD]; rfl) (ready_dep hk 5 (by kernel_rfl)))
      have e41 := (hF.done 7 (41, SP.is (.int .i64 s.nr)) (by rw [hD]; rfl) (ready_dep hk 7 (by kernel_rfl)))
      refine wpOp_plain rfl rfl (wp_fcall_v 31 #[.pointer (some ⟨p, 0, none⟩), .int .i64 s.nr] rfl rfl (by show [ac.eval (.tmp 39), ac.eval (.tmp 41)] = _; rw [show ac.eval (.tmp 39) = _ from e39, show ac.eval (.tmp 41) = _ from e41]) (by go_simp) ((HRL.out W hb1).mono ?_))
      rintro e W2 ⟨rfl, hB⟩
      exact ⟨_, rfl, N1, hl2 8, ((hF.world hB).put 8 42 (SP.is (.tuple #[.agg Ly.toArray, .int .i64 E])) (.tuple #[.agg Ly.toArray, .int .i64 E]) (by rw [hD]; rfl) rfl (by rw [hD]; rfl) (by rw [hsz]; decide) (by rw [hl]; decide)), hb1.trans (hB.mono hb1.size), Row.below rs hB (Row.lt rs), (fun h => ⟨(eval_put_other ac _ (by decide)).trans ((al12 (by rwa [getD_set _ _ _ (by decide)] at h)).1), (al12 (by rwa [getD_set _ _ _ (by decide)] at h)).2.1, by rw [getD_set _ _ _ (by decide)]; exact Row.below (al12 (by rwa [getD_set _ _ _ (by decide)] at h)).2.2 hB (Row.lt (al12 (by rwa [getD_set _ _ _ (by decide)] at h)).2.2)⟩), (fun h => by rw [getD_set _ _ _ (by decide)]; exact as12 (by rwa [getD_set _ _ _ (by decide)] at h))⟩
    · have hk3 := hk
      exact wpOp_plain rfl rfl (wp_move_v (ac.eval (.tmp 42)) rfl rfl ⟨N1, hl2 9, (hF.put 9 33 (SP.is (.tuple #[.agg Ly.toArray, .int .i64 E])) (ac.eval (.tmp 42)) (by rw [hD]; rfl) ((hF.done 8 (42, SP.is (.tuple #[.agg Ly.toArray, .int .i64 E])) (by rw [hD]; rfl) (ready_dep hk 8 (by kernel_rfl)))) (by rw [hD]; rfl) (by rw [hsz]; decide) (by rw [hl]; decide)), hb1, rs, (fun h => ⟨(eval_put_other ac _ (by decide)).trans ((al12 (by rwa [getD_set _ _ _ (by decide)] at h)).1), (al12 (by rwa [getD_set _ _ _ (by decide)] at h)).2.1, by rw [getD_set _ _ _ (by decide)]; exact (al12 (by rwa [getD_set _ _ _ (by decide)] at h)).2.2⟩), (fun h => by rw [getD_set _ _ _ (by decide)]; exact as12 (by rwa [getD_set _ _ _ (by decide)] at h))⟩)
    · have hk3 := hk
      exact wpOp_plain rfl rfl (wp_extract (.tmp 33) 0 rfl _ (hF.done 9 (33, SP.is (.tuple #[.agg Ly.toArray, .int .i64 E])) (by rw [hD]; rfl) (ready_dep hk 9 (by kernel_rfl))) (.agg Ly.toArray) rfl ⟨N1, hl2 10, (hF.put 10 43 (SP.is (.agg Ly.toArray)) (.agg Ly.toArray) (by rw [hD]; rfl) rfl (by rw [hD]; rfl) (by rw [hsz]; decide) (by rw [hl]; decide)), hb1, rs, (fun h => ⟨(eval_put_other ac _ (by decide)).trans ((al12 (by rwa [getD_set _ _ _ (by decide)] at h)).1), (al12 (by rwa [getD_set _ _ _ (by decide)] at h)).2.1, by rw [getD_set _ _ _ (by decide)]; exact (al12 (by rwa [getD_set _ _ _ (by decide)] at h)).2.2⟩), (fun h => by rw [getD_set _ _ _ (by decide)]; exact as12 (by rwa [getD_set _ _ _ (by decide)] at h))⟩)
    · have hk3 := hk
      exact wpOp_plain rfl rfl (wp_extract (.tmp 33) 1 rfl _ (hF.done 9 (33, SP.is (.tuple #[.agg Ly.toArray, .int .i64 E])) (by rw [hD]; rfl) (ready_dep hk 9 (by kernel_rfl))) (.int .i64 E) rfl ⟨N1, hl2 11, (hF.put 11 44 (SP.is (.int .i64 E)) (.int .i64 E) (by rw [hD]; rfl) rfl (by rw [hD]; rfl) (by rw [hsz]; decide) (by rw [hl]; decide)), hb1, rs, (fun h => ⟨(eval_put_other ac _ (by decide)).trans ((al12 (by rwa [getD_set _ _ _ (by decide)] at h)).1), (al12 (by rwa [getD_set _ _ _ (by decide)] at h)).2.1, by rw [getD_set _ _ _ (by decide)]; exact (al12 (by rwa [getD_set _ _ _ (by decide)] at h)).2.2⟩), (fun h => by rw [getD_set _ _ _ (by decide)]; exact as12 (by rwa [getD_set _ _ _ (by decide)] at h))⟩)
    · have hk3 := hk
      have hsm : X1.heap.size - 1 < W.heap.size := (by have := hb1.size; have := Row.lt rs; omega)
      have hB : Below W.heap.size W (W.alloc (.cells zP.cells.toArray tP)) := (Below.refl _ _).alloc (Nat.le_refl _) _
      have hns : ¬ listed.getD 13 false = true := fun h => not_yet hk (as12 h)
      exact wpOp_plain rfl rfl (wp_allocPn rfl ⟨W.heap.size, hl2 12, ((hF.world hB).put 12 7 (SP.any) (.pointer (some ⟨W.heap.size, 0, none⟩)) (by rw [hD]; rfl) trivial (by rw [hD]; rfl) (by rw [hsz]; decide) (by rw [hl]; decide)), hb1.alloc hb1.size _, Row.alloc rs _, (fun _ => ⟨eval_put_same ac _ (by rw [hF.size, hsz]; decide), hsm, by rw [getD_set _ _ _ (by decide), if_neg hns]; exact Row.new' rfl rfl⟩), (fun _ => getD_same (by rw [hl]; decide))⟩)
    · have hk3 := hk
      have hal := ready_dep hk 12 (by kernel_rfl)
      obtain ⟨e1, m1, y2⟩ := al12 hal
      rw [if_neg (not_yet hk)] at y2
      have T := y2.there 0 Ly.toArray.size HYT.out
      have fin := y2.over (vs := Ly) HYL.out
      have hT : Fp D a0 listed ac (W.setCells N1 0 Ly) := hF.turn (by rw [hD]; simp only [List.forall_mem_cons, List.not_mem_nil, false_implies, implies_true, and_true]; exact ⟨fun _ h => h, fun _ h => h, fun _ h => h, fun _ h => h, fun _ h => h, fun _ h => h, fun _ h => h, fun _ h => h, fun _ h => h, fun _ h => h, fun _ h => h, fun _ h => h, fun _ h => h, fun _ h => h, fun _ h => h⟩)
      exact wpOp_plain rfl rfl (wp_store_mid tP (.tmp 7) (.tmp 43) rfl N1 0 Ly.toArray e1 (hF.done 10 (43, SP.is (.agg Ly.toArray)) (by rw [hD]; rfl) (ready_dep hk 10 (by kernel_rfl))) T HYJ.out HYO.out ⟨N1, hl2 13, (hT.skip 13 1000 (by rw [hD]; rfl) (by rw [hl]; decide)), below_setCells hb1 (by omega) _, Row.setCells_other rs _ _ _ (by omega), (fun _ => ⟨e1, m1, by rw [if_pos (getD_same (by rw [hl]; decide))]; exact fin⟩), (fun _ => by rw [getD_set _ _ _ (by decide)]; exact hal)⟩)
    · have hk3 := hk
      exact wpOp_plain rfl rfl (wp_assign_v (ac.eval (.tmp 44)) rfl rfl ⟨N1, hl2 14, (hF.put 14 8 (SP.is (.int .i64 E)) (ac.eval (.tmp 44)) (by rw [hD]; rfl) ((hF.done 11 (44, SP.is (.int .i64 E)) (by rw [hD]; rfl) (ready_dep hk 11 (by kernel_rfl)))) (by rw [hD]; rfl) (by rw [hsz]; decide) (by rw [hl]; decide)), hb1, rs, (fun h => ⟨(eval_put_other ac _ (by decide)).trans ((al12 (by rwa [getD_set _ _ _ (by decide)] at h)).1), (al12 (by rwa [getD_set _ _ _ (by decide)] at h)).2.1, by rw [getD_set _ _ _ (by decide)]; exact (al12 (by rwa [getD_set _ _ _ (by decide)] at h)).2.2⟩), (fun h => by rw [getD_set _ _ _ (by decide)]; exact as12 (by rwa [getD_set _ _ _ (by decide)] at h))⟩)
  · clear hb1 rs 
    intro listed ac W hI hr
    obtain ⟨N1, hl, hF, hb1, rs, al12, as12⟩ := hI
    have hall := all_listed (by kernel_rfl) hl hr
    obtain ⟨ea7, m7, p7⟩ := al12 (hall 12 (by decide))
    rw [if_pos (hall 13 (by decide))] at p7
    have h34 : ac.eval (.tmp 34) = .pointer (some ⟨q, 0, none⟩) := hF.done 0 (34, SP.is (.pointer (some ⟨q, 0, none⟩))) (by rw [hD]; rfl) (hall 0 (by decide))
    have h35 : ac.eval (.tmp 35) = .int .i64 (k : Int) := hF.done 1 (35, SP.is (.int .i64 (k : Int))) (by rw [hD]; rfl) (hall 1 (by decide))
    have h36 : ac.eval (.tmp 36) = .pointer (some ⟨q, 0, none⟩) := hF.done 2 (36, SP.is (.pointer (some ⟨q, 0, none⟩))) (by rw [hD]; rfl) (hall 2 (by decide))
    have h37 : ac.eval (.tmp 37) = .pointer (some ⟨q, 0, none⟩) := hF.done 3 (37, SP.is (.pointer (some ⟨q, 0, none⟩))) (by rw [hD]; rfl) (hall 3 (by decide))
    have h38 : ac.eval (.tmp 38) = .pointer (some ⟨q, k, none⟩) := hF.done 4 (38, SP.is (.pointer (some ⟨q, k, none⟩))) (by rw [hD]; rfl) (hall 4 (by decide))
    have h39 : ac.eval (.tmp 39) = .pointer (some ⟨p, 0, none⟩) := hF.done 5 (39, SP.is (.pointer (some ⟨p, 0, none⟩))) (by rw [hD]; rfl) (hall 5 (by decide))
    have h40 : ac.eval (.tmp 40) = .pointer (some ⟨bS, 91, none⟩) := hF.done 6 (40, SP.is (.pointer (some ⟨bS, 91, none⟩))) (by rw [hD]; rfl) (hall 6 (by decide))
    have h41 : ac.eval (.tmp 41) = .int .i64 s.nr := hF.done 7 (41, SP.is (.int .i64 s.nr)) (by rw [hD]; rfl) (hall 7 (by decide))
    have h42 : ac.eval (.tmp 42) = .tuple #[.agg Ly.toArray, .int .i64 E] := hF.done 8 (42, SP.is (.tuple #[.agg Ly.toArray, .int .i64 E])) (by rw [hD]; rfl) (hall 8 (by decide))
    have h33 : ac.eval (.tmp 33) = .tuple #[.agg Ly.toArray, .int .i64 E] := hF.done 9 (33, SP.is (.tuple #[.agg Ly.toArray, .int .i64 E])) (by rw [hD]; rfl) (hall 9 (by decide))
    have h43 : ac.eval (.tmp 43) = .agg Ly.toArray := hF.done 10 (43, SP.is (.agg Ly.toArray)) (by rw [hD]; rfl) (hall 10 (by decide))
    have h44 : ac.eval (.tmp 44) = .int .i64 E := hF.done 11 (44, SP.is (.int .i64 E)) (by rw [hD]; rfl) (hall 11 (by decide))
    have h8 : ac.eval (.tmp 8) = .int .i64 E := hF.done 14 (8, SP.is (.int .i64 E)) (by rw [hD]; rfl) (hall 14 (by decide))
    have ea := hF.lay [(34, .pointer (some ⟨q, 0, none⟩)), (35, .int .i64 (k : Int)), (36, .pointer (some ⟨q, 0, none⟩)), (37, .pointer (some ⟨q, 0, none⟩)), (38, .pointer (some ⟨q, k, none⟩)), (39, .pointer (some ⟨p, 0, none⟩)), (40, .pointer (some ⟨bS, 91, none⟩)), (41, .int .i64 s.nr), (42, .tuple #[.agg Ly.toArray, .int .i64 E]), (33, .tuple #[.agg Ly.toArray, .int .i64 E]), (43, .agg Ly.toArray), (44, .int .i64 E), (7, .pointer (some ⟨N1, 0, none⟩)), (8, .int .i64 E)] (by rw [hD, hsz]; rfl) (by simp only [List.forall_mem_cons, List.not_mem_nil, false_implies, implies_true, and_true]; exact ⟨h34, h35, h36, h37, h38, h39, h40, h41, h42, h33, h43, h44, ea7, h8⟩)
    rw [ha0] at ea
    simp only [List.foldl_cons, List.foldl_nil, List.setIfInBounds_toArray, List.set_cons_zero, List.set_cons_succ] at ea
    clear hF hall hr hl hD al12 as12 zs0 zs1 zs5 ha0 hsz h34 h35 h36 h37 h38 h39 h40 h41 h42 h33 h43 h44 ea7 h8
    subst ea
    have HPV : Hid (Pl w0 W q B Ls Es T ts) := HP1.out.below hb1
    obtain ⟨V, hV⟩ : ∃ V, V = W := ⟨_, rfl⟩
    rw [← hV] at HPV rs p7 ⊢
    have r7 := p7
    have HRD : Hid (∀ W, Below V.heap.size V W → W.rangeAt q (3 + k * 70) L) := fun W k => HRD0.out W (HPV.out.below k)
    have HRR : Hid (∀ W, Below V.heap.size V W → Calls Try.prog 63 #[.agg L.toArray, .int .i64 s.nr] W fun r w' => r = .returned (.tuple #[.agg Ly.toArray, .int .i64 E]) ∧ Below W.heap.size W w') := fun W k => HRR0.out W (HPV.out.below k)
    have hbV := rs.lt
    have hbV7 := r7.lt
    clear hb1
    have hb1 := Below.refl V.heap.size V
    clear hV p7 HRL HCP HRR0 HRD0 HP1
    go_upto_region 4 with fail
    refine wp_named fun a0 ha0 => ?_
    have hsz : a0.tmps.size = 259 := by rw [ha0]; rfl
    have zs0 : a0.eval (.tmp 0) = .pointer (some ⟨q, 0, none⟩) := by rw [ha0]; rfl
    have zs1 : a0.eval (.tmp 1) = .int .i64 (k : Int) := by rw [ha0]; rfl
    have zs5 : a0.eval (.tmp 5) = .pointer (some ⟨bS, 0, none⟩) := by rw [ha0]; rfl
    obtain ⟨D, hD⟩ : ∃ D : List (Tmp × SP), D = [(46, SP.is (.pointer (some ⟨q, 0, none⟩))), (47, SP.is (.int .i64 (k : Int))), (48, SP.is (.pointer (some ⟨q, 0, none⟩))), (49, SP.is (.pointer (some ⟨q, 3, none⟩))), (50, SP.is (.pointer (some ⟨q, 3 + k * 70, none⟩))), (51, SP.is (.agg L.toArray)), (52, SP.is (.pointer (some ⟨bS, 91, none⟩))), (53, SP.is (.int .i64 s.nr)), (54, SP.is (.tuple #[.agg Ly.toArray, .int .i64 E])), (45, SP.is (.tuple #[.agg Ly.toArray, .int .i64 E])), (55, SP.is (.agg Ly.toArray)), (56, SP.is (.int .i64 E)), (9, SP.any), (1000, SP.any), (10, SP.is (.int .i64 E))] := ⟨_, rfl⟩
    refine wp_region_down (by kernel_rfl) (fun listed ac W => ∃ (N2 : Nat), listed.size = 15 ∧ Fp D a0 listed ac W ∧ Below V.heap.size V W ∧ Row W bS S tSt ∧ Row W N1 Ly tP ∧ (listed.getD 12 false = true → ac.eval (.tmp 9) = .pointer (some ⟨N2, 0, none⟩) ∧ V.heap.size - 1 < N2 ∧ Row W N2 (if listed.getD 13 false = true then Ly else zP.cells) tP) ∧ (listed.getD 13 false = true → listed.getD 12 false = true)) ?_ ?_ ?_
    · exact ⟨0, by simp, Fp.start D a0 _ _, Below.drew hb1, Row.drew rs, Row.drew r7, (fun h => (start_no h).elim), (fun h => (start_no h).elim)⟩
    · clear ha0 hb1 rs r7 
      intro listed ac W k hI hdn hk
      obtain ⟨N2, hl, hF, hb1, rs, r7, al12, as12⟩ := hI
      have hk1 : k < 15 := List.mem_range.1 (List.mem_filter.1 hk).1
      have hl2 : ∀ j, (listed.setIfInBounds j true).size = 15 := fun j => by rw [Array.size_setIfInBounds]; exact hl
      rcases (show k = 0 ∨ k = 1 ∨ k = 2 ∨ k = 3 ∨ k = 4 ∨ k = 5 ∨ k = 6 ∨ k = 7 ∨ k = 8 ∨ k = 9 ∨ k = 10 ∨ k = 11 ∨ k = 12 ∨ k = 13 ∨ k = 14 by omega) with rfl | rfl | rfl | rfl | rfl | rfl | rfl | rfl | rfl | rfl | rfl | rfl | rfl | rfl | rfl
      · have hk3 := hk
        exact wpOp_plain rfl rfl (wp_move_v (ac.eval (.tmp 0)) rfl rfl ⟨N2, hl2 0, (hF.put 0 46 (SP.is (.pointer (some ⟨q, 0, none⟩))) (ac.eval (.tmp 0)) (by rw [hD]; rfl) (((hF.keep 0 (by rw [hD]; rfl)).trans zs0)) (by rw [hD]; rfl) (by rw [hsz]; decide) (by rw [hl]; decide)), hb1, rs, r7, (fun h => ⟨(eval_put_other ac _ (by decide)).trans ((al12 (by rwa [getD_set _ _ _ (by decide)] at h)).1), (al12 (by rwa [getD_set _ _ _ (by decide)] at h)).2.1, by rw [getD_set _ _ _ (by decide)]; exact (al12 (by rwa [getD_set _ _ _ (by decide)] at h)).2.2⟩), (fun h => by rw [getD_set _ _ _ (by decide)]; exact as12 (by rwa [getD_set _ _ _ (by decide)] at h))⟩)
      · have hk3 := hk
        exact wpOp_plain rfl rfl (wp_move_v (ac.eval (.tmp 1)) rfl rfl ⟨N2, hl2 1, (hF.put 1 47 (SP.is (.int .i64 (k : Int))) (ac.eval (.tmp 1)) (by rw [hD]; rfl) (((hF.keep 1 (by rw [hD]; rfl)).trans zs1)) (by rw [hD]; rfl) (by rw [hsz]; decide) (by rw [hl]; decide)), hb1, rs, r7, (fun h => ⟨(eval_put_other ac _ (by decide)).trans ((al12 (by rwa [getD_set _ _ _ (by decide)] at h)).1), (al12 (by rwa [getD_set _ _ _ (by decide)] at h)).2.1, by rw [getD_set _ _ _ (by decide)]; exact (al12 (by rwa [getD_set _ _ _ (by decide)] at h)).2.2⟩), (fun h => by rw [getD_set _ _ _ (by decide)]; exact as12 (by rwa [getD_set _ _ _ (by decide)] at h))⟩)
      · have hk3 := hk
        have ea := (hF.done 0 (46, SP.is (.pointer (some ⟨q, 0, none⟩))) (by rw [hD]; rfl) (ready_dep hk 0 (by kernel_rfl)))
        exact wpOp_plain rfl rfl (wp_nilL rfl q ea ⟨N2, hl2 2, (hF.put 2 48 (SP.is (.pointer (some ⟨q, 0, none⟩))) (.pointer (some ⟨q, 0, none⟩)) (by rw [hD]; rfl) rfl (by rw [hD]; rfl) (by rw [hsz]; decide) (by rw [hl]; decide)), hb1, rs, r7, (fun h => ⟨(eval_put_other ac _ (by decide)).trans ((al12 (by rwa [getD_set _ _ _ (by decide)] at h)).1), (al12 (by rwa [getD_set _ _ _ (by decide)] at h)).2.1, by rw [getD_set _ _ _ (by decide)]; exact (al12 (by rwa [getD_set _ _ _ (by decide)] at h)).2.2⟩), (fun h => by rw [getD_set _ _ _ (by decide)]; exact as12 (by rwa [getD_set _ _ _ (by decide)] at h))⟩)
      · have hk3 := hk
        have ea := (hF.done 2 (48, SP.is (.pointer (some ⟨q, 0, none⟩))) (by rw [hD]; rfl) (ready_dep hk 2 (by kernel_rfl)))
        exact wpOp_plain rfl rfl (wp_fPr1 rfl q ea ⟨N2, hl2 3, (hF.put 3 49 (SP.is (.pointer (some ⟨q, 3, none⟩))) (.pointer (some ⟨q, 3, none⟩)) (by rw [hD]; rfl) rfl (by rw [hD]; rfl) (by rw [hsz]; decide) (by rw [hl]; decide)), hb1, rs, r7, (fun h => ⟨(eval_put_other ac _ (by decide)).trans ((al12 (by rwa [getD_set _ _ _ (by decide)] at h)).1), (al12 (by rwa [getD_set _ _ _ (by decide)] at h)).2.1, by rw [getD_set _ _ _ (by decide)]; exact (al12 (by rwa [getD_set _ _ _ (by decide)] at h)).2.2⟩), (fun h => by rw [getD_set _ _ _ (by decide)]; exact as12 (by rwa [getD_set _ _ _ (by decide)] at h))⟩)
      · have hk3 := hk
        have ea := (hF.done 3 (49, SP.is (.pointer (some ⟨q, 3, none⟩))) (by rw [hD]; rfl) (ready_dep hk 3 (by kernel_rfl)))
        have eb := (hF.done 1 (47, SP.is (.int .i64 (k : Int))) (by rw [hD]; rfl) (ready_dep hk 1 (by kernel_rfl)))
        exact wpOp_plain rfl rfl (wp_ixO tR3 tRL rfl q 3 k 70 3 (3 + k * 70) ea eb HK3.out und_R3 info_RL rfl ⟨N2, hl2 4, (hF.put 4 50 (SP.is (.pointer (some ⟨q, 3 + k * 70, none⟩))) (.pointer (some ⟨q, 3 + k * 70, none⟩)) (by rw [hD]; rfl) rfl (by rw [hD]; rfl) (by rw [hsz]; decide) (by rw [hl]; decide)), hb1, rs, r7, (fun h => ⟨(eval_put_other ac _ (by decide)).trans ((al12 (by rwa [getD_set _ _ _ (by decide)] at h)).1), (al12 (by rwa [getD_set _ _ _ (by decide)] at h)).2.1, by rw [getD_set _ _ _ (by decide)]; exact (al12 (by rwa [getD_set _ _ _ (by decide)] at h)).2.2⟩), (fun h => by rw [getD_set _ _ _ (by decide)]; exact as12 (by rwa [getD_set _ _ _ (by decide)] at h))⟩)
      · have hk3 := hk
        have ea := (hF.done 4 (50, SP.is (.pointer (some ⟨q, 3 + k * 70, none⟩))) (by rw [hD]; rfl) (ready_dep hk 4 (by kernel_rfl)))
        exact wpOp_plain rfl rfl (wp_load_mid tRL (.tmp 50) rfl q (3 + k * 70) ea L _ (HRD.out W (hb1)) Try.underlying44 rfl HIL.out ⟨N2, hl2 5, (hF.put 5 51 (SP.is (.agg L.toArray)) (.agg L.toArray) (by rw [hD]; rfl) rfl (by rw [hD]; rfl) (by rw [hsz]; decide) (by rw [hl]; decide)), hb1, rs, r7, (fun h => ⟨(eval_put_other ac _ (by decide)).trans ((al12 (by rwa [getD_set _ _ _ (by decide)] at h)).1), (al12 (by rwa [getD_set _ _ _ (by decide)] at h)).2.1, by rw [getD_set _ _ _ (by decide)]; exact (al12 (by rwa [getD_set _ _ _ (by decide)] at h)).2.2⟩), (fun h => by rw [getD_set _ _ _ (by decide)]; exact as12 (by rwa [getD_set _ _ _ (by decide)] at h))⟩)
      · have hk3 := hk
        have ea := ((hF.keep 5 (by rw [hD]; rfl)).trans zs5)
        exact wpOp_plain rfl rfl (wp_fSt7 rfl bS ea ⟨N2, hl2 6, (hF.put 6 52 (SP.is (.pointer (some ⟨bS, 91, none⟩))) (.pointer (some ⟨bS, 91, none⟩)) (by rw [hD]; rfl) rfl (by rw [hD]; rfl) (by rw [hsz]; decide) (by rw [hl]; decide)), hb1, rs, r7, (fun h => ⟨(eval_put_other ac _ (by decide)).trans ((al12 (by rwa [getD_set _ _ _ (by decide)] at h)).1), (al12 (by rwa [getD_set _ _ _ (by decide)] at h)).2.1, by rw [getD_set _ _ _ (by decide)]; exact (al12 (by rwa [getD_set _ _ _ (by decide)] at h)).2.2⟩), (fun h => by rw [getD_set _ _ _ (by decide)]; exact as12 (by rwa [getD_set _ _ _ (by decide)] at h))⟩)
      · have hk3 := hk
        have ea := (hF.done 6 (52, SP.is (.pointer (some ⟨bS, 91, none⟩))) (by rw [hD]; rfl) (ready_dep hk 6 (by kernel_rfl)))
        exact wpOp_plain rfl rfl (wp_ld1 bS 91 (.int .i64 s.nr) rfl ea (ld_int W bS 91 _ (rs.cell 91 _ HNR.out)) ⟨N2, hl2 7, (hF.put 7 53 (SP.is (.int .i64 s.nr)) (.int .i64 s.nr) (by rw [hD]; rfl) rfl (by rw [hD]; rfl) (by rw [hsz]; decide) (by rw [hl]; decide)), hb1, rs, r7, (fun h => ⟨(eval_put_other ac _ (by decide)).trans ((al12 (by rwa [getD_set _ _ _ (by decide)] at h)).1), (al12 (by rwa [getD_set _ _ _ (by decide)] at h)).2.1, by rw [getD_set _ _ _ (by decide)]; exact (al12 (by rwa [getD_set _ _ _ (by decide)] at h)).2.2⟩), (fun h => by rw [getD_set _ _ _ (by decide)]; exact as12 (by rwa [getD_set _ _ _ (by decide)] at h))⟩)
      · have hk3 := hk
        have e51 := (hF.done 5 (51, SP.is (.agg L.toArray)) (by rw [hD]; rfl) (ready_dep hk 5 (by kernel_rfl)))
        have e53 := (hF.done 7 (53, SP.is (.int .i64 s.nr)) (by rw [hD]; rfl) (ready_dep hk 7 (by kernel_rfl)))
        refine wpOp_plain rfl rfl (wp_fcall_v 63 #[.agg L.toArray, .int .i64 s.nr] rfl rfl (by show [ac.eval (.tmp 51), ac.eval (.tmp 53)] = _; rw [show ac.eval (.tmp 51) = _ from e51, show ac.eval (.tmp 53) = _ from e53]) (by go_simp) ((HRR.out W hb1).mono ?_))
        rintro e W2 ⟨rfl, hB⟩
        exact ⟨_, rfl, N2, hl2 8, ((hF.world hB).put 8 54 (SP.is (.tuple #[.agg Ly.toArray, .int .i64 E])) (.tuple #[.agg Ly.toArray, .int .i64 E]) (by rw [hD]; rfl) rfl (by rw [hD]; rfl) (by rw [hsz]; decide) (by rw [hl]; decide)), hb1.trans (hB.mono hb1.size), Row.below rs hB (Row.lt rs), Row.below r7 hB (Row.lt r7), (fun h => ⟨(eval_put_other ac _ (by decide)).trans ((al12 (by rwa [getD_set _ _ _ (by decide)] at h)).1), (al12 (by rwa [getD_set _ _ _ (by decide)] at h)).2.1, by rw [getD_set _ _ _ (by decide)]; exact Row.below (al12 (by rwa [getD_set _ _ _ (by decide)] at h)).2.2 hB (Row.lt (al12 (by rwa [getD_set _ _ _ (by decide)] at h)).2.2)⟩), (fun h => by rw [getD_set _ _ _ (by decide)]; exact as12 (by rwa [getD_set _ _ _ (by decide)] at h))⟩
      · have hk3 := hk
        exact wpOp_plain rfl rfl (wp_move_v (ac.eval (.tmp 54)) rfl rfl ⟨N2, hl2 9, (hF.put 9 45 (SP.is (.tuple #[.agg Ly.toArray, .int .i64 E])) (ac.eval (.tmp 54)) (by rw [hD]; rfl) ((hF.done 8 (54, SP.is (.tuple #[.agg Ly.toArray, .int .i64 E])) (by rw [hD]; rfl) (ready_dep hk 8 (by kernel_rfl)))) (by rw [hD]; rfl) (by rw [hsz]; decide) (by rw [hl]; decide)), hb1, rs, r7, (fun h => ⟨(eval_put_other ac _ (by decide)).trans ((al12 (by rwa [getD_set _ _ _ (by decide)] at h)).1), (al12 (by rwa [getD_set _ _ _ (by decide)] at h)).2.1, by rw [getD_set _ _ _ (by decide)]; exact (al12 (by rwa [getD_set _ _ _ (by decide)] at h)).2.2⟩), (fun h => by rw [getD_set _ _ _ (by decide)]; exact as12 (by rwa [getD_set _ _ _ (by decide)] at h))⟩)
      · have hk3 := hk
        exact wpOp_plain rfl rfl (wp_extract (.tmp 45) 0 rfl _ (hF.done 9 (45, SP.is (.tuple #[.agg Ly.toArray, .int .i64 E])) (by rw [hD]; rfl) (ready_dep hk 9 (by kernel_rfl))) (.agg Ly.toArray) rfl ⟨N2, hl2 10, (hF.put 10 55 (SP.is (.agg Ly.toArray)) (.agg Ly.toArray) (by rw [hD]; rfl) rfl (by rw [hD]; rfl) (by rw [hsz]; decide) (by rw [hl]; decide)), hb1, rs, r7, (fun h => ⟨(eval_put_other ac _ (by decide)).trans ((al12 (by rwa [getD_set _ _ _ (by decide)] at h)).1), (al12 (by rwa [getD_set _ _ _ (by decide)] at h)).2.1, by rw [getD_set _ _ _ (by decide)]; exact (al12 (by rwa [getD_set _ _ _ (by decide)] at h)).2.2⟩), (fun h => by rw [getD_set _ _ _ (by decide)]; exact as12 (by rwa [getD_set _ _ _ (by decide)] at h))⟩)
      · have hk3 := hk
        exact wpOp_plain rfl rfl (wp_extract (.tmp 45) 1 rfl _ (hF.done 9 (45, SP.is (.tuple #[.agg Ly.toArray, .int .i64 E])) (by rw [hD]; rfl) (ready_dep hk 9 (by kernel_rfl))) (.int .i64 E) rfl ⟨N2, hl2 11, (hF.put 11 56 (SP.is (.int .i64 E)) (.int .i64 E) (by rw [hD]; rfl) rfl (by rw [hD]; rfl) (by rw [hsz]; decide) (by rw [hl]; decide)), hb1, rs, r7, (fun h => ⟨(eval_put_other ac _ (by decide)).trans ((al12 (by rwa [getD_set _ _ _ (by decide)] at h)).1), (al12 (by rwa [getD_set _ _ _ (by decide)] at h)).2.1, by rw [getD_set _ _ _ (by decide)]; exact (al12 (by rwa [getD_set _ _ _ (by decide)] at h)).2.2⟩), (fun h => by rw [getD_set _ _ _ (by decide)]; exact as12 (by rwa [getD_set _ _ _ (by decide)] at h))⟩)
      · have hk3 := hk
        have hsm : V.heap.size - 1 < W.heap.size := (by have := hb1.size; have := Row.lt rs; omega)
        have hB : Below W.heap.size W (W.alloc (.cells zP.cells.toArray tP)) := (Below.refl _ _).alloc (Nat.le_refl _) _
        have hns : ¬ listed.getD 13 false = true := fun h => not_yet hk (as12 h)
        exact wpOp_plain rfl rfl (wp_allocPn rfl ⟨W.heap.size, hl2 12, ((hF.world hB).put 12 9 (SP.any) (.pointer (some ⟨W.heap.size, 0, none⟩)) (by rw [hD]; rfl) trivial (by rw [hD]; rfl) (by rw [hsz]; decide) (by rw [hl]; decide)), hb1.alloc hb1.size _, Row.alloc rs _, Row.alloc r7 _, (fun _ => ⟨eval_put_same ac _ (by rw [hF.size, hsz]; decide), hsm, by rw [getD_set _ _ _ (by decide), if_neg hns]; exact Row.new' rfl rfl⟩), (fun _ => getD_same (by rw [hl]; decide))⟩)
      · have hk3 := hk
        have hal := ready_dep hk 12 (by kernel_rfl)
        obtain ⟨e1, m1, y2⟩ := al12 hal
        rw [if_neg (not_yet hk)] at y2
        have T := y2.there 0 Ly.toArray.size HYT.out
        have fin := y2.over (vs := Ly) HYL.out
        have hT : Fp D a0 listed ac (W.setCells N2 0 Ly) := hF.turn (by rw [hD]; simp only [List.forall_mem_cons, List.not_mem_nil, false_implies, implies_true, and_true]; exact ⟨fun _ h => h, fun _ h => h, fun _ h => h, fun _ h => h, fun _ h => h, fun _ h => h, fun _ h => h, fun _ h => h, fun _ h => h, fun _ h => h, fun _ h => h, fun _ h => h, fun _ h => h, fun _ h => h, fun _ h => h⟩)
        exact wpOp_plain rfl rfl (wp_store_mid tP (.tmp 9) (.tmp 55) rfl N2 0 Ly.toArray e1 (hF.done 10 (55, SP.is (.agg Ly.toArray)) (by rw [hD]; rfl) (ready_dep hk 10 (by kernel_rfl))) T HYJ.out HYO.out ⟨N2, hl2 13, (hT.skip 13 1000 (by rw [hD]; rfl) (by rw [hl]; decide)), below_setCells hb1 (by omega) _, Row.setCells_other rs _ _ _ (by omega), Row.setCells_other r7 _ _ _ (by omega), (fun _ => ⟨e1, m1, by rw [if_pos (getD_same (by rw [hl]; decide))]; exact fin⟩), (fun _ => by rw [getD_set _ _ _ (by decide)]; exact hal)⟩)
      · have hk3 := hk
        exact wpOp_plain rfl rfl (wp_assign_v (ac.eval (.tmp 56)) rfl rfl ⟨N2, hl2 14, (hF.put 14 10 (SP.is (.int .i64 E)) (ac.eval (.tmp 56)) (by rw [hD]; rfl) ((hF.done 11 (56, SP.is (.int .i64 E)) (by rw [hD]; rfl) (ready_dep hk 11 (by kernel_rfl)))) (by rw [hD]; rfl) (by rw [hsz]; decide) (by rw [hl]; decide)), hb1, rs, r7, (fun h => ⟨(eval_put_other ac _ (by decide)).trans ((al12 (by rwa [getD_set _ _ _ (by decide)] at h)).1), (al12 (by rwa [getD_set _ _ _ (by decide)] at h)).2.1, by rw [getD_set _ _ _ (by decide)]; exact (al12 (by rwa [getD_set _ _ _ (by decide)] at h)).2.2⟩), (fun h => by rw [getD_set _ _ _ (by decide)]; exact as12 (by rwa [getD_set _ _ _ (by decide)] at h))⟩)
    · clear hb1 rs r7 
      intro listed ac W hI hr
      obtain ⟨N2, hl, hF, hb1, rs, r7, al12, as12⟩ := hI
      have hall := all_listed (by kernel_rfl) hl hr
      obtain ⟨ea9, m9, p9⟩ := al12 (hall 12 (by decide))
      rw [if_pos (hall 13 (by decide))] at p9
      have h46 : ac.eval (.tmp 46) = .pointer (some ⟨q, 0, none⟩) := hF.done 0 (46, SP.is (.pointer (some ⟨q, 0, none⟩))) (by rw [hD]; rfl) (hall 0 (by decide))
      have h47 : ac.eval (.tmp 47) = .int .i64 (k : Int) := hF.done 1 (47, SP.is (.int .i64 (k : Int))) (by rw [hD]; rfl) (hall 1 (by decide))
      have h48 : ac.eval (.tmp 48) = .pointer (some ⟨q, 0, none⟩) := hF.done 2 (48, SP.is (.pointer (some ⟨q, 0, none⟩))) (by rw [hD]; rfl) (hall 2 (by decide))
      have h49 : ac.eval (.tmp 49) = .pointer (some ⟨q, 3, none⟩) := hF.done 3 (49, SP.is (.pointer (some ⟨q, 3, none⟩))) (by rw [hD]; rfl) (hall 3 (by decide))
      have h50 : ac.eval (.tmp 50) = .pointer (some ⟨q, 3 + k * 70, none⟩) := hF.done 4 (50, SP.is (.pointer (some ⟨q, 3 + k * 70, none⟩))) (by rw [hD]; rfl) (hall 4 (by decide))
      have h51 : ac.eval (.tmp 51) = .agg L.toArray := hF.done 5 (51, SP.is (.agg L.toArray)) (by rw [hD]; rfl) (hall 5 (by decide))
      have h52 : ac.eval (.tmp 52) = .pointer (some ⟨bS, 91, none⟩) := hF.done 6 (52, SP.is (.pointer (some ⟨bS, 91, none⟩))) (by rw [hD]; rfl) (hall 6 (by decide))
      have h53 : ac.eval (.tmp 53) = .int .i64 s.nr := hF.done 7 (53, SP.is (.int .i64 s.nr)) (by rw [hD]; rfl) (hall 7 (by decide))
      have h54 : ac.eval (.tmp 54) = .tuple #[.agg Ly.toArray, .int .i64 E] := hF.done 8 (54, SP.is (.tuple #[.agg Ly.toArray, .int .i64 E])) (by rw [hD]; rfl) (hall 8 (by decide))
      have h45 : ac.eval (.tmp 45) = .tuple #[.agg Ly.toArray, .int .i64 E] := hF.done 9 (45, SP.is (.tuple #[.agg Ly.toArray, .int .i64 E])) (by rw [hD]; rfl) (hall 9 (by decide))
      have h55 : ac.eval (.tmp 55) = .agg Ly.toArray := hF.done 10 (55, SP.is (.agg Ly.toArray)) (by rw [hD]; rfl) (hall 10 (by decide))
      have h56 : ac.eval (.tmp 56) = .int .i64 E := hF.done 11 (56, SP.is (.int .i64 E)) (by rw [hD]; rfl) (hall 11 (by decide))
      have h10 : ac.eval (.tmp 10) = .int .i64 E := hF.done 14 (10, SP.is (.int .i64 E)) (by rw [hD]; rfl) (hall 14 (by decide))
      have ea := hF.lay [(46, .pointer (some ⟨q, 0, none⟩)), (47, .int .i64 (k : Int)), (48, .pointer (some ⟨q, 0, none⟩)), (49, .pointer (some ⟨q, 3, none⟩)), (50, .pointer (some ⟨q, 3 + k * 70, none⟩)), (51, .agg L.toArray), (52, .pointer (some ⟨bS, 91, none⟩)), (53, .int .i64 s.nr), (54, .tuple #[.agg Ly.toArray, .int .i64 E]), (45, .tuple #[.agg Ly.toArray, .int .i64 E]), (55, .agg Ly.toArray), (56, .int .i64 E), (9, .pointer (some ⟨N2, 0, none⟩)), (10, .int .i64 E)] (by rw [hD, hsz]; rfl) (by simp only [List.forall_mem_cons, List.not_mem_nil, false_implies, implies_true, and_true]; exact ⟨h46, h47, h48, h49, h50, h51, h52, h53, h54, h45, h55, h56, ea9, h10⟩)
      rw [ha0] at ea
      simp only [List.foldl_cons, List.foldl_nil, List.setIfInBounds_toArray, List.set_cons_zero, List.set_cons_succ] at ea
      clear hF hall hr hl hD al12 as12 zs0 zs1 zs5 ha0 hsz h46 h47 h48 h49 h50 h51 h52 h53 h54 h45 h55 h56 ea9 h10
      subst ea
      have FP : Hid (Pl w0 W q B Ls Es T ts) := HPV.out.below hb1
      have F1 : Hid (Row W N1 Ly tP) := r7
      have F2 : Hid (Row W N2 Ly tP) := p9
      clear rs r7 p9 hb1
      rw [HLY.out] at F1 F2
      have HIY2 : Hid ((Try.prog.info? tP).map (·.size) = some y.cells.length) := Pn.info HYW.out
      go_upto_region 5 with fail
      go_wp2_with (first
        | (refine wpList_ldS rfl tP (.tmp 7) rfl N1 0 rfl y.cells _ F1.out.all Try.underlying66 rfl HIY2.out ?_; simp only [Act.put, List.setIfInBounds_toArray, List.set_cons_zero, List.set_cons_succ])
        | (refine wpList_ldS rfl tP (.tmp 9) rfl N2 0 rfl y.cells _ F2.out.all Try.underlying66 rfl HIY2.out ?_; simp only [Act.put, List.setIfInBounds_toArray, List.set_cons_zero, List.set_cons_succ])
        | (refine wpList_eqP rfl (.tmp 57) (.tmp 58) _ rfl y y HYW.out HYW.out rfl rfl true (decide_eq_true rfl) ?_; simp only [Act.put, List.setIfInBounds_toArray, List.set_cons_zero, List.set_cons_succ]))
      go_ret
      exact ⟨by simp, FP.out⟩
set_option maxRecDepth 100000 in
set_option maxHeartbeats 16000000 in
theorem look_before {w0 w : World} {q : Nat} {B : Int} {Ls : List (Nat × Value × La)} {Es : List (Value × La)} {T : Value} {ts : List (Value × Nat)} (h : Pl w0 w q B Ls Es T ts) {k p : Nat} {v e : Value} {st : La} (hk : Ls[k]? = some (p, v, st)) (he : Es[k]? = some (e, st)) (s : Sp16) (hs : s.Ok) (hkd : s.kd = 7) (S : List Value) (hS : S = s.cells) :
    Calls Try.prog 18 #[.pointer (some ⟨q, 0, none⟩), .int .i64 (k : Int), .agg S.toArray] w fun r w' => r = .returned (.bool true) ∧ Pl w0 w' q B Ls Es T ts := by
  obtain ⟨y, E, hr⟩ : ∃ y E, st.bef s.nr = (y, E) := ⟨_, _, rfl⟩
  have HYW : Hid y.Wf := bef_wf (h.lad hk).ok hr
  obtain ⟨Ly, hLy⟩ : ∃ M, M = y.cells := ⟨_, rfl⟩
  have HLY : Hid (Ly = y.cells) := hLy
  have HIY : Hid ((Try.prog.info? tC).map (·.size) = some Ly.length) := by show _ = _; rw [hLy]; exact Cm.info HYW.out
  have HYJ : Hid ((Try.prog.info? tC).map (·.size) = some Ly.toArray.size) := by show _ = _; rw [List.size_toArray]; exact HIY.out
  have HYO : Hid (Ly.toArray.all (·.oneCell') = true) := by show _ = _; rw [hLy]; exact all_one (Cm.one y)
  have HYL : Hid (Ly.length = zC.cells.length) := by show _ = _; rw [hLy]; exact (Cm.len HYW.out).trans (Cm.len zC_wf).symm
  have HYT : Hid (0 + Ly.toArray.size ≤ zC.cells.length) := by show _ ≤ _; rw [List.size_toArray, HYL.out]; omega
  have HRL0 : Hid (∀ W, Pl w0 W q B Ls Es T ts → Calls Try.prog 64 #[.pointer (some ⟨p, 0, none⟩), .int .i64 s.nr] W fun r w' => r = .returned (.tuple #[.agg Ly.toArray, .int .i64 E]) ∧ Below W.heap.size W w') := fun W hP => by rw [hLy]; exact lbefore_any (hP.lad hk) s.nr y E hr
  have hk3 : k < 3 := by have := (List.getElem?_eq_some_iff.1 hk).1; rw [h.l3] at this; exact this
  have HK3 : Hid (k < 3) := hk3
  have HPL : Hid (Pl w0 w q B Ls Es T ts) := h
  have HLK : Hid (Ls[k]? = some (p, v, st)) := hk
  have HEK : Hid (Es[k]? = some (e, st)) := he
  have HNR : Hid (S[91]? = some (.int .i64 s.nr)) := by rw [hS]; exact Sp16.at_nr hs
  have HKD : Hid (S[0]? = some (.int .i64 7)) := by rw [hS, ← hkd]; exact Sp16.at_kd s
  have HCP0 : Hid (∀ W, Pl w0 W q B Ls Es T ts → W.cell? ⟨q, k, none⟩ = some (.pointer (some ⟨p, 0, none⟩))) := fun W hP => hP.row.cell k _ (prc_p (by rw [List.getElem?_map, hk]; rfl))
  obtain ⟨L, hL⟩ : ∃ L, L = st.dc e := ⟨_, rfl⟩
  have HIL : Hid ((Try.prog.info? tRL).map (·.size) = some L.length) := by show _ = _; rw [hL]; exact La.dinfo (h.rf _ (List.mem_of_getElem? he)).ok.cf _
  have HRD0 : Hid (∀ W, Pl w0 W q B Ls Es T ts → W.rangeAt q (3 + k * 70) L) := fun W hP => hP.row.range (3 + k * 70) _ (fun j u hj => prc_d (by rw [List.length_map]; exact hP.l3) hP.d70 (by rw [List.getElem?_map, he]; rfl) j u (by rw [hL] at hj; exact hj))
  have HRR0 : Hid (∀ W, Pl w0 W q B Ls Es T ts → Calls Try.prog 65 #[.agg L.toArray, .int .i64 s.nr] W fun r w' => r = .returned (.tuple #[.agg Ly.toArray, .int .i64 E]) ∧ Below W.heap.size W w') := fun W hP => by rw [hLy]; exact rbefore_any (hP.rf _ (List.mem_of_getElem? he)) s.nr L hL y E hr
  clear hLy hr
  clear h hk he hs hkd hS hk3 hL
  go_enter Try.func18, Try.ntmps18
  go_upto_region 7 with (refine wpList_bxG tSt rfl (.tmp 2) rfl S rfl ?_; intro X1 q1 q2 q3; clear q3; have ck : X1.cell? ⟨w.heap.size, 0, none⟩ = some (.int .i64 7) := q1.cell 0 _ HKD.out; have RS : Hid (Row X1 w.heap.size S tSt) := q1; have HP1 : Hid (Pl w0 X1 q B Ls Es T ts) := HPL.out.below q2; clear q1 q2; simp only [Act.put, List.setIfInBounds_toArray, List.set_cons_zero, List.set_cons_succ])
  obtain ⟨bS, hbS⟩ : ∃ b, b = w.heap.size := ⟨_, rfl⟩
  rw [← hbS] at RS ⊢
  clear hbS ck HPL
  have HCP : Hid (∀ W, Below X1.heap.size X1 W → W.cell? ⟨q, k, none⟩ = some (.pointer (some ⟨p, 0, none⟩))) := fun W k => HCP0.out W (HP1.out.below k)
  have HRL : Hid (∀ W, Below X1.heap.size X1 W → Calls Try.prog 64 #[.pointer (some ⟨p, 0, none⟩), .int .i64 s.nr] W fun r w' => r = .returned (.tuple #[.agg Ly.toArray, .int .i64 E]) ∧ Below W.heap.size W w') := fun W k => HRL0.out W (HP1.out.below k)
  have rs := RS.out
  have hbX := rs.lt
  have hb1 := Below.refl X1.heap.size X1
  clear HCP0 HRL0 RS
  refine wp_named fun a0 ha0 => ?_
  have hsz : a0.tmps.size = 259 := by rw [ha0]; rfl
  have zs0 : a0.eval (.tmp 0) = .pointer (some ⟨q, 0, none⟩) := by rw [ha0]; rfl
  have zs1 : a0.eval (.tmp 1) = .int .i64 (k : Int) := by rw [ha0]; rfl
  have zs5 : a0.eval (.tmp 5) = .pointer (some ⟨bS, 0, none⟩) := by rw [ha0]; rfl
  obtain ⟨D, hD⟩ : ∃ D : List (Tmp × SP), D = [(68, SP.is (.pointer (some ⟨q, 0, none⟩))), (69, SP.is (.int .i64 (k : Int))), (70, SP.is (.pointer (some ⟨q, 0, none⟩))), (71, SP.is (.pointer (some ⟨q, 0, none⟩))), (72, SP.is (.pointer (some ⟨q, k, none⟩))), (73, SP.is (.pointer (some ⟨p, 0, none⟩))), (74, SP.is (.pointer (some ⟨bS, 91, none⟩))), (75, SP.is (.int .i64 s.nr)), (76, SP.is (.tuple #[.agg Ly.toArray, .int .i64 E])), (67, SP.is (.tuple #[.agg Ly.toArray, .int .i64 E])), (77, SP.is (.agg Ly.toArray)), (78, SP.is (.int .i64 E)), (11, SP.any), (1000, SP.any), (12, SP.is (.int .i64 E))] := ⟨_, rfl⟩
  refine wp_region_down (by kernel_rfl) (fun listed ac W => ∃ (N1 : Nat), listed.size = 15 ∧ Fp D a0 listed ac W ∧ Below X1.heap.size X1 W ∧ Row W bS S tSt ∧ (listed.getD 12 false = true → ac.eval (.tmp 11) = .pointer (some ⟨N1, 0, none⟩) ∧ X1.heap.size - 1 < N1 ∧ Row W N1 (if listed.getD 13 false = true then Ly else zC.cells) tC) ∧ (listed.getD 13 false = true → listed.getD 12 false = true)) ?_ ?_ ?_
  · exact ⟨0, by simp, Fp.start D a0 _ _, Below.drew hb1, Row.drew rs, (fun h => (start_no h).elim), (fun h => (start_no h).elim)⟩
  · clear ha0 hb1 rs 
    intro listed ac W k hI hdn hk
    obtain ⟨N1, hl, hF, hb1, rs, al12, as12⟩ := hI
    have hk1 : k < 15 := List.mem_range.1 (List.mem_filter.1 hk).1
    have hl2 : ∀ j, (listed.setIfInBounds j true).size = 15 := fun j => by rw [Array.size_setIfInBounds]; exact hl
    rcases (show k = 0 ∨ k = 1 ∨ k = 2 ∨ k = 3 ∨ k = 4 ∨ k = 5 ∨ k = 6 ∨ k = 7 ∨ k = 8 ∨ k = 9 ∨ k = 10 ∨ k = 11 ∨ k = 12 ∨ k = 13 ∨ k = 14 by omega) with rfl | rfl | rfl | rfl | rfl | rfl | rfl | rfl | rfl | rfl | rfl | rfl | rfl | rfl | rfl
    · have hk3 := hk
      exact wpOp_plain rfl rfl (wp_move_v (ac.eval (.tmp 0)) rfl rfl ⟨N1, hl2 0, (hF.put 0 68 (SP.is (.pointer (some ⟨q, 0, none⟩))) (ac.eval (.tmp 0)) (by rw [hD]; rfl) (((hF.keep 0 (by rw [hD]; rfl)).trans zs0)) (by rw [hD]; rfl) (by rw [hsz]; decide) (by rw [hl]; decide)), hb1, rs, (fun h => ⟨(eval_put_other ac _ (by decide)).trans ((al12 (by rwa [getD_set _ _ _ (by decide)] at h)).1), (al12 (by rwa [getD_set _ _ _ (by decide)] at h)).2.1, by rw [getD_set _ _ _ (by decide)]; exact (al12 (by rwa [getD_set _ _ _ (by decide)] at h)).2.2⟩), (fun h => by rw [getD_set _ _ _ (by decide)]; exact as12 (by rwa [getD_set _ _ _ (by decide)] at h))⟩)
    · have hk3 := hk
      exact wpOp_plain rfl rfl (wp_move_v (ac.eval (.tmp 1)) rfl rfl ⟨N1, hl2 1, (hF.put 1 69 (SP.is (.int .i64 (k : Int))) (ac.eval (.tmp 1)) (by rw [hD]; rfl) (((hF.keep 1 (by rw [hD]; rfl)).trans zs1)) (by rw [hD]; rfl) (by rw [hsz]; decide) (by rw [hl]; decide)), hb1, rs, (fun h => ⟨(eval_put_other ac _ (by decide)).trans ((al12 (by rwa [getD_set _ _ _ (by decide)] at h)).1), (al12 (by rwa [getD_set _ _ _ (by decide)] at h)).2.1, by rw [getD_set _ _ _ (by decide)]; exact (al12 (by rwa [getD_set _ _ _ (by decide)] at h)).2.2⟩), (fun h => by rw [getD_set _ _ _ (by decide)]; exact as12 (by rwa [getD_set _ _ _ (by decide)] at h))⟩)
    · have hk3 := hk
      have ea := (hF.done 0 (68, SP.is (.pointer (some ⟨q, 0, none⟩))) (by rw [hD]; rfl) (ready_dep hk 0 (by kernel_rfl)))
      exact wpOp_plain rfl rfl (wp_nilL rfl q ea ⟨N1, hl2 2, (hF.put 2 70 (SP.is (.pointer (some ⟨q, 0, none⟩))) (.pointer (some ⟨q, 0, none⟩)) (by rw [hD]; rfl) rfl (by rw [hD]; rfl) (by rw [hsz]; decide) (by rw [hl]; decide)), hb1, rs, (fun h => ⟨(eval_put_other ac _ (by decide)).trans ((al12 (by rwa [getD_set _ _ _ (by decide)] at h)).1), (al12 (by rwa [getD_set _ _ _ (by decide)] at h)).2.1, by rw [getD_set _ _ _ (by decide)]; exact (al12 (by rwa [getD_set _ _ _ (by decide)] at h)).2.2⟩), (fun h => by rw [getD_set _ _ _ (by decide)]; exact as12 (by rwa [getD_set _ _ _ (by decide)] at h))⟩)
    · have hk3 := hk
      have ea := (hF.done 2 (70, SP.is (.pointer (some ⟨q, 0, none⟩))) (by rw [hD]; rfl) (ready_dep hk 2 (by kernel_rfl)))
      exact wpOp_plain rfl rfl (wp_fPr0 rfl q ea ⟨N1, hl2 3, (hF.put 3 71 (SP.is (.pointer (some ⟨q, 0, none⟩))) (.pointer (some ⟨q, 0, none⟩)) (by rw [hD]; rfl) rfl (by rw [hD]; rfl) (by rw [hsz]; decide) (by rw [hl]; decide)), hb1, rs, (fun h => ⟨(eval_put_other ac _ (by decide)).trans ((al12 (by rwa [getD_set _ _ _ (by decide)] at h)).1), (al12 (by rwa [getD_set _ _ _ (by decide)] at h)).2.1, by rw [getD_set _ _ _ (by decide)]; exact (al12 (by rwa [getD_set _ _ _ (by decide)] at h)).2.2⟩), (fun h => by rw [getD_set _ _ _ (by decide)]; exact as12 (by rwa [getD_set _ _ _ (by decide)] at h))⟩)
    · have hk3 := hk
      have ea := (hF.done 3 (71, SP.is (.pointer (some ⟨q, 0, none⟩))) (by rw [hD]; rfl) (ready_dep hk 3 (by kernel_rfl)))
      have eb := (hF.done 1 (69, SP.is (.int .i64 (k : Int))) (by rw [hD]; rfl) (ready_dep hk 1 (by kernel_rfl)))
      exact wpOp_plain rfl rfl (wp_ixO tL3 tLp rfl q 3 k 1 0 k ea eb HK3.out und_L3 info_Lp (by omega) ⟨N1, hl2 4, (hF.put 4 72 (SP.is (.pointer (some ⟨q, k, none⟩))) (.pointer (some ⟨q, k, none⟩)) (by rw [hD]; rfl) rfl (by rw [hD]; rfl) (by rw [hsz]; decide) (by rw [hl]; decide)), hb1, rs, (fun h => ⟨(eval_put_other ac _ (by decide)).trans ((al12 (by rwa [getD_set _ _ _ (by decide)] at h)).1), (al12 (by rwa [getD_set _ _ _ (by decide)] at h)).2.1, by rw [getD_set _ _ _ (by decide)]; exact (al12 (by rwa [getD_set _ _ _ (by decide)] at h)).2.2⟩), (fun h => by rw [getD_set _ _ _ (by decide)]; exact as12 (by rwa [getD_set _ _ _ (by decide)] at h))⟩)
    · have hk3 := hk
      have ea := (hF.done 4 (72, SP.is (.pointer (some ⟨q, k, none⟩))) (by rw [hD]; rfl) (ready_dep hk 4 (by kernel_rfl)))
      exact wpOp_plain rfl rfl (wp_ld1 q k (.pointer (some ⟨p, 0, none⟩)) rfl ea (ld_Lp W q k _ (HCP.out W (hb1))) ⟨N1, hl2 5, (hF.put 5 73 (SP.is (.pointer (some ⟨p, 0, none⟩))) (.pointer (some ⟨p, 0, none⟩)) (by rw [hD]; rfl) rfl (by rw [hD]; rfl) (by rw [hsz]; decide) (by rw [hl]; decide)), hb1, rs, (fun h => ⟨(eval_put_other ac _ (by decide)).trans ((al12 (by rwa [getD_set _ _ _ (by decide)] at h)).1), (al12 (by rwa [getD_set _ _ _ (by decide)] at h)).2.1, by rw [getD_set _ _ _ (by decide)]; exact (al12 (by rwa [getD_set _ _ _ (by decide)] at h)).2.2⟩), (fun h => by rw [getD_set _ _ _ (by decide)]; exact as12 (by rwa [getD_set _ _ _ (by decide)] at h))⟩)
    · have hk3 := hk
      have ea := ((hF.keep 5 (by rw [hD]; rfl)).trans zs5)
      exact wpOp_plain rfl rfl (wp_fSt7 rfl bS ea ⟨N1, hl2 6, (hF.put 6 74 (SP.is (.pointer (some ⟨bS, 91, none⟩))) (.pointer (some ⟨bS, 91, none⟩)) (by rw [hD]; rfl) rfl (by rw [hD]; rfl) (by rw [hsz]; decide) (by rw [hl]; decide)), hb1, rs, (fun h => ⟨(eval_put_other ac _ (by decide)).trans ((al12 (by rwa [getD_set _ _ _ (by decide)] at h)).1), (al12 (by rwa [getD_set _ _ _ (by decide)] at h)).2.1, by rw [getD_set _ _ _ (by decide)]; exact (al12 (by rwa [getD_set _ _ _ (by decide)] at h)).2.2⟩), (fun h => by rw [getD_set _ _ _ (by decide)]; exact as12 (by rwa [getD_set _ _ _ (by decide)] at h))⟩)
    · have hk3 := hk
      have ea := (hF.done 6 (74, SP.is (.pointer (some ⟨bS, 91, none⟩))) (by rw [hD]; rfl) (ready_dep hk 6 (by kernel_rfl)))
      exact wpOp_plain rfl rfl (wp_ld1 bS 91 (.int .i64 s.nr) rfl ea (ld_int W bS 91 _ (rs.cell 91 _ HNR.out)) ⟨N1, hl2 7, (hF.put 7 75 (SP.is (.int .i64 s.nr)) (.int .i64 s.nr) (by rw [hD]; rfl) rfl (by rw [hD]; rfl) (by rw [hsz]; decide) (by rw [hl]; decide)), hb1, rs, (fun h => ⟨(eval_put_other ac _ (by decide)).trans ((al12 (by rwa [getD_set _ _ _ (by decide)] at h)).1), (al12 (by rwa [getD_set _ _ _ (by decide)] at h)).2.1, by rw [getD_set _ _ _ (by decide)]; exact (al12 (by rwa [getD_set _ _ _ (by decide)] at h)).2.2⟩), (fun h => by rw [getD_set _ _ _ (by decide)]; exact as12 (by rwa [getD_set _ _ _ (by decide)] at h))⟩)
    · have hk3 := hk
      have e73 := (hF.done 5 (73, SP.is (.pointer (some ⟨p, 0, none⟩))) (by rw [hD]; rfl) (ready_dep hk 5 (by kernel_rfl)))
      have e75 := (hF.done 7 (75, SP.is (.int .i64 s.nr)) (by rw [hD]; rfl) (ready_dep hk 7 (by kernel_rfl)))
      refine wpOp_plain rfl rfl (wp_fcall_v 64 #[.pointer (some ⟨p, 0, none⟩), .int .i64 s.nr] rfl rfl (by show [ac.eval (.tmp 73), ac.eval (.tmp 75)] = _; rw [show ac.eval (.tmp 73) = _ from e73, show ac.eval (.tmp 75) = _ from e75]) (by go_simp) ((HRL.out W hb1).mono ?_))
      rintro e W2 ⟨rfl, hB⟩
      exact ⟨_, rfl, N1, hl2 8, ((hF.world hB).put 8 76 (SP.is (.tuple #[.agg Ly.toArray, .int .i64 E])) (.tuple #[.agg Ly.toArray, .int .i64 E]) (by rw [hD]; rfl) rfl (by rw [hD]; rfl) (by rw [hsz]; decide) (by rw [hl]; decide)), hb1.trans (hB.mono hb1.size), Row.below rs hB (Row.lt rs), (fun h => ⟨(eval_put_other ac _ (by decide)).trans ((al12 (by rwa [getD_set _ _ _ (by decide)] at h)).1), (al12 (by rwa [getD_set _ _ _ (by decide)] at h)).2.1, by rw [getD_set _ _ _ (by decide)]; exact Row.below (al12 (by rwa [getD_set _ _ _ (by decide)] at h)).2.2 hB (Row.lt (al12 (by rwa [getD_set _ _ _ (by decide)] at h)).2.2)⟩), (fun h => by rw [getD_set _ _ _ (by decide)]; exact as12 (by rwa [getD_set _ _ _ (by decide)] at h))⟩
    · have hk3 := hk
      exact wpOp_plain rfl rfl (wp_move_v (ac.eval (.tmp 76)) rfl rfl ⟨N1, hl2 9, (hF.put 9 67 (SP.is (.tuple #[.agg Ly.toArray, .int .i64 E])) (ac.eval (.tmp 76)) (by rw [hD]; rfl) ((hF.done 8 (76, SP.is (.tuple #[.agg Ly.toArray, .int .i64 E])) (by rw [hD]; rfl) (ready_dep hk 8 (by kernel_rfl)))) (by rw [hD]; rfl) (by rw [hsz]; decide) (by rw [hl]; decide)), hb1, rs, (fun h => ⟨(eval_put_other ac _ (by decide)).trans ((al12 (by rwa [getD_set _ _ _ (by decide)] at h)).1), (al12 (by rwa [getD_set _ _ _ (by decide)] at h)).2.1, by rw [getD_set _ _ _ (by decide)]; exact (al12 (by rwa [getD_set _ _ _ (by decide)] at h)).2.2⟩), (fun h => by rw [getD_set _ _ _ (by decide)]; exact as12 (by rwa [getD_set _ _ _ (by decide)] at h))⟩)
    · have hk3 := hk
      exact wpOp_plain rfl rfl (wp_extract (.tmp 67) 0 rfl _ (hF.done 9 (67, SP.is (.tuple #[.agg Ly.toArray, .int .i64 E])) (by rw [hD]; rfl) (ready_dep hk 9 (by kernel_rfl))) (.agg Ly.toArray) rfl ⟨N1, hl2 10, (hF.put 10 77 (SP.is (.agg Ly.toArray)) (.agg Ly.toArray) (by rw [hD]; rfl) rfl (by rw [hD]; rfl) (by rw [hsz]; decide) (by rw [hl]; decide)), hb1, rs, (fun h => ⟨(eval_put_other ac _ (by decide)).trans ((al12 (by rwa [getD_set _ _ _ (by decide)] at h)).1), (al12 (by rwa [getD_set _ _ _ (by decide)] at h)).2.1, by rw [getD_set _ _ _ (by decide)]; exact (al12 (by rwa [getD_set _ _ _ (by decide)] at h)).2.2⟩), (fun h => by rw [getD_set _ _ _ (by decide)]; exact as12 (by rwa [getD_set _ _ _ (by decide)] at h))⟩)
    · have hk3 := hk
      exact wpOp_plain rfl rfl (wp_extract (.tmp 67) 1 rfl _ (hF.done 9 (67, SP.is (.tuple #[.agg Ly.toArray, .int .i64 E])) (by rw [hD]; rfl) (ready_dep hk 9 (by kernel_rfl))) (.int .i64 E) rfl ⟨N1, hl2 11, (hF.put 11 78 (SP.is (.int .i64 E)) (.int .i64 E) (by rw [hD]; rfl) rfl (by rw [hD]; rfl) (by rw [hsz]; decide) (by rw [hl]; decide)), hb1, rs, (fun h => ⟨(eval_put_other ac _ (by decide)).trans ((al12 (by rwa [getD_set _ _ _ (by decide)] at h)).1), (al12 (by rwa [getD_set _ _ _ (by decide)] at h)).2.1, by rw [getD_set _ _ _ (by decide)]; exact (al12 (by rwa [getD_set _ _ _ (by decide)] at h)).2.2⟩), (fun h => by rw [getD_set _ _ _ (by decide)]; exact as12 (by rwa [getD_set _ _ _ (by decide)] at h))⟩)
    · have hk3 := hk
      have hsm : X1.heap.size - 1 < W.heap.size := (by have := hb1.size; have := Row.lt rs; omega)
      have hB : Below W.heap.size W (W.alloc (.cells zC.cells.toArray tC)) := (Below.refl _ _).alloc (Nat.le_refl _) _
      have hns : ¬ listed.getD 13 false = true := fun h => not_yet hk (as12 h)
      exact wpOp_plain rfl rfl (wp_allocCm rfl ⟨W.heap.size, hl2 12, ((hF.world hB).put 12 11 (SP.any) (.pointer (some ⟨W.heap.size, 0, none⟩)) (by rw [hD]; rfl) trivial (by rw [hD]; rfl) (by rw [hsz]; decide) (by rw [hl]; decide)), hb1.alloc hb1.size _, Row.alloc rs _, (fun _ => ⟨eval_put_same ac _ (by rw [hF.size, hsz]; decide), hsm, by rw [getD_set _ _ _ (by decide), if_neg hns]; exact Row.new' rfl rfl⟩), (fun _ => getD_same (by rw [hl]; decide))⟩)
    · have hk3 := hk
      have hal := ready_dep hk 12 (by kernel_rfl)
      obtain ⟨e1, m1, y2⟩ := al12 hal
      rw [if_neg (not_yet hk)] at y2
      have T := y2.there 0 Ly.toArray.size HYT.out
      have fin := y2.over (vs := Ly) HYL.out
      have hT : Fp D a0 listed ac (W.setCells N1 0 Ly) := hF.turn (by rw [hD]; simp only [List.forall_mem_cons, List.not_mem_nil, false_implies, implies_true, and_true]; exact ⟨fun _ h => h, fun _ h => h, fun _ h => h, fun _ h => h, fun _ h => h, fun _ h => h, fun _ h => h, fun _ h => h, fun _ h => h, fun _ h => h, fun _ h => h, fun _ h => h, fun _ h => h, fun _ h => h, fun _ h => h⟩)
      exact wpOp_plain rfl rfl (wp_store_mid tC (.tmp 11) (.tmp 77) rfl N1 0 Ly.toArray e1 (hF.done 10 (77, SP.is (.agg Ly.toArray)) (by rw [hD]; rfl) (ready_dep hk 10 (by kernel_rfl))) T HYJ.out HYO.out ⟨N1, hl2 13, (hT.skip 13 1000 (by rw [hD]; rfl) (by rw [hl]; decide)), below_setCells hb1 (by omega) _, Row.setCells_other rs _ _ _ (by omega), (fun _ => ⟨e1, m1, by rw [if_pos (getD_same (by rw [hl]; decide))]; exact fin⟩), (fun _ => by rw [getD_set _ _ _ (by decide)]; exact hal)⟩)
    · have hk3 := hk
      exact wpOp_plain rfl rfl (wp_assign_v (ac.eval (.tmp 78)) rfl rfl ⟨N1, hl2 14, (hF.put 14 12 (SP.is (.int .i64 E)) (ac.eval (.tmp 78)) (by rw [hD]; rfl) ((hF.done 11 (78, SP.is (.int .i64 E)) (by rw [hD]; rfl) (ready_dep hk 11 (by kernel_rfl)))) (by rw [hD]; rfl) (by rw [hsz]; decide) (by rw [hl]; decide)), hb1, rs, (fun h => ⟨(eval_put_other ac _ (by decide)).trans ((al12 (by rwa [getD_set _ _ _ (by decide)] at h)).1), (al12 (by rwa [getD_set _ _ _ (by decide)] at h)).2.1, by rw [getD_set _ _ _ (by decide)]; exact (al12 (by rwa [getD_set _ _ _ (by decide)] at h)).2.2⟩), (fun h => by rw [getD_set _ _ _ (by decide)]; exact as12 (by rwa [getD_set _ _ _ (by decide)] at h))⟩)
  · clear hb1 rs 
    intro listed ac W hI hr
    obtain ⟨N1, hl, hF, hb1, rs, al12, as12⟩ := hI
    have hall := all_listed (by kernel_rfl) hl hr
    obtain ⟨ea11, m11, p11⟩ := al12 (hall 12 (by decide))
    rw [if_pos (hall 13 (by decide))] at p11
    have h68 : ac.eval (.tmp 68) = .pointer (some ⟨q, 0, none⟩) := hF.done 0 (68, SP.is (.pointer (some ⟨q, 0, none⟩))) (by rw [hD]; rfl) (hall 0 (by decide))
    have h69 : ac.eval (.tmp 69) = .int .i64 (k : Int) := hF.done 1 (69, SP.is (.int .i64 (k : Int))) (by rw [hD]; rfl) (hall 1 (by decide))
    have h70 : ac.eval (.tmp 70) = .pointer (some ⟨q, 0, none⟩) := hF.done 2 (70, SP.is (.pointer (some ⟨q, 0, none⟩))) (by rw [hD]; rfl) (hall 2 (by decide))
    have h71 : ac.eval (.tmp 71) = .pointer (some ⟨q, 0, none⟩) := hF.done 3 (71, SP.is (.pointer (some ⟨q, 0, none⟩))) (by rw [hD]; rfl) (hall 3 (by decide))
    have h72 : ac.eval (.tmp 72) = .pointer (some ⟨q, k, none⟩) := hF.done 4 (72, SP.is (.pointer (some ⟨q, k, none⟩))) (by rw [hD]; rfl) (hall 4 (by decide))
    have h73 : ac.eval (.tmp 73) = .pointer (some ⟨p, 0, none⟩) := hF.done 5 (73, SP.is (.pointer (some ⟨p, 0, none⟩))) (by rw [hD]; rfl) (hall 5 (by decide))
    have h74 : ac.eval (.tmp 74) = .pointer (some ⟨bS, 91, none⟩) := hF.done 6 (74, SP.is (.pointer (some ⟨bS, 91, none⟩))) (by rw [hD]; rfl) (hall 6 (by decide))
    have h75 : ac.eval (.tmp 75) = .int .i64 s.nr := hF.done 7 (75, SP.is (.int .i64 s.nr)) (by rw [hD]; rfl) (hall 7 (by decide))
    have h76 : ac.eval (.tmp 76) = .tuple #[.agg Ly.toArray, .int .i64 E] := hF.done 8 (76, SP.is (.tuple #[.agg Ly.toArray, .int .i64 E])) (by rw [hD]; rfl) (hall 8 (by decide))
    have h67 : ac.eval (.tmp 67) = .tuple #[.agg Ly.toArray, .int .i64 E] := hF.done 9 (67, SP.is (.tuple #[.agg Ly.toArray, .int .i64 E])) (by rw [hD]; rfl) (hall 9 (by decide))
    have h77 : ac.eval (.tmp 77) = .agg Ly.toArray := hF.done 10 (77, SP.is (.agg Ly.toArray)) (by rw [hD]; rfl) (hall 10 (by decide))
    have h78 : ac.eval (.tmp 78) = .int .i64 E := hF.done 11 (78, SP.is (.int .i64 E)) (by rw [hD]; rfl) (hall 11 (by decide))
    have h12 : ac.eval (.tmp 12) = .int .i64 E := hF.done 14 (12, SP.is (.int .i64 E)) (by rw [hD]; rfl) (hall 14 (by decide))
    have ea := hF.lay [(68, .pointer (some ⟨q, 0, none⟩)), (69, .int .i64 (k : Int)), (70, .pointer (some ⟨q, 0, none⟩)), (71, .pointer (some ⟨q, 0, none⟩)), (72, .pointer (some ⟨q, k, none⟩)), (73, .pointer (some ⟨p, 0, none⟩)), (74, .pointer (some ⟨bS, 91, none⟩)), (75, .int .i64 s.nr), (76, .tuple #[.agg Ly.toArray, .int .i64 E]), (67, .tuple #[.agg Ly.toArray, .int .i64 E]), (77, .agg Ly.toArray), (78, .int .i64 E), (11, .pointer (some ⟨N1, 0, none⟩)), (12, .int .i64 E)] (by rw [hD, hsz]; rfl) (by simp only [List.forall_mem_cons, List.not_mem_nil, false_implies, implies_true, and_true]; exact ⟨h68, h69, h70, h71, h72, h73, h74, h75, h76, h67, h77, h78, ea11, h12⟩)
    rw [ha0] at ea
    simp only [List.foldl_cons, List.foldl_nil, List.setIfInBounds_toArray, List.set_cons_zero, List.set_cons_succ] at ea
    clear hF hall hr hl hD al12 as12 zs0 zs1 zs5 ha0 hsz h68 h69 h70 h71 h72 h73 h74 h75 h76 h67 h77 h78 ea11 h12
    subst ea
    have HPV : Hid (Pl w0 W q B Ls Es T ts) := HP1.out.below hb1
    obtain ⟨V, hV⟩ : ∃ V, V = W := ⟨_, rfl⟩
    rw [← hV] at HPV rs p11 ⊢
    have r7 := p11
    have HRD : Hid (∀ W, Below V.heap.size V W → W.rangeAt q (3 + k * 70) L) := fun W k => HRD0.out W (HPV.out.below k)
    have HRR : Hid (∀ W, Below V.heap.size V W → Calls Try.prog 65 #[.agg L.toArray, .int .i64 s.nr] W fun r w' => r = .returned (.tuple #[.agg Ly.toArray, .int .i64 E]) ∧ Below W.heap.size W w') := fun W k => HRR0.out W (HPV.out.below k)
    have hbV := rs.lt
    have hbV7 := r7.lt
    clear hb1
    have hb1 := Below.refl V.heap.size V
    clear hV p11 HRL HCP HRR0 HRD0 HP1
    go_upto_region 8 with fail
    refine wp_named fun a0 ha0 => ?_
    have hsz : a0.tmps.size = 259 := by rw [ha0]; rfl
    have zs0 : a0.eval (.tmp 0) = .pointer (some ⟨q, 0, none⟩) := by rw [ha0]; rfl
    have zs1 : a0.eval (.tmp 1) = .int .i64 (k : Int) := by rw [ha0]; rfl
    have zs5 : a0.eval (.tmp 5) = .pointer (some ⟨bS, 0, none⟩) := by rw [ha0]; rfl
    obtain ⟨D, hD⟩ : ∃ D : List (Tmp × SP), D = [(80, SP.is (.pointer (some ⟨q, 0, none⟩))), (81, SP.is (.int .i64 (k : Int))), (82, SP.is (.pointer (some ⟨q, 0, none⟩))), (83, SP.is (.pointer (some ⟨q, 3, none⟩))), (84, SP.is (.pointer (some ⟨q, 3 + k * 70, none⟩))), (85, SP.is (.agg L.toArray)), (86, SP.is (.pointer (some ⟨bS, 91, none⟩))), (87, SP.is (.int .i64 s.nr)), (88, SP.is (.tuple #[.agg Ly.toArray, .int .i64 E])), (79, SP.is (.tuple #[.agg Ly.toArray, .int .i64 E])), (89, SP.is (.agg Ly.toArray)), (90, SP.is (.int .i64 E)), (13, SP.any), (1000, SP.any), (14, SP.is (.int .i64 E))] := ⟨_, rfl⟩
    refine wp_region_down (by kernel_rfl) (fun listed ac W => ∃ (N2 : Nat), listed.size = 15 ∧ Fp D a0 listed ac W ∧ Below V.heap.size V W ∧ Row W bS S tSt ∧ Row W N1 Ly tC ∧ (listed.getD 12 false = true → ac.eval (.tmp 13) = .pointer (some ⟨N2, 0, none⟩) ∧ V.heap.size - 1 < N2 ∧ Row W N2 (if listed.getD 13 false = true then Ly else zC.cells) tC) ∧ (listed.getD 13 false = true → listed.getD 12 false = true)) ?_ ?_ ?_
    · exact ⟨0, by simp, Fp.start D a0 _ _, Below.drew hb1, Row.drew rs, Row.drew r7, (fun h => (start_no h).elim), (fun h => (start_no h).elim)⟩
    · clear ha0 hb1 rs r7 
      intro listed ac W k hI hdn hk
      obtain ⟨N2, hl, hF, hb1, rs, r7, al12, as12⟩ := hI
      have hk1 : k < 15 := List.mem_range.1 (List.mem_filter.1 hk).1
      have hl2 : ∀ j, (listed.setIfInBounds j true).size = 15 := fun j => by rw [Array.size_setIfInBounds]; exact hl
      rcases (show k = 0 ∨ k = 1 ∨ k = 2 ∨ k = 3 ∨ k = 4 ∨ k = 5 ∨ k = 6 ∨ k = 7 ∨ k = 8 ∨ k = 9 ∨ k = 10 ∨ k = 11 ∨ k = 12 ∨ k = 13 ∨ k = 14 by omega) with rfl | rfl | rfl | rfl | rfl | rfl | rfl | rfl | rfl | rfl | rfl | rfl | rfl | rfl | rfl
      · have hk3 := hk
        exact wpOp_plain rfl rfl (wp_move_v (ac.eval (.tmp 0)) rfl rfl ⟨N2, hl2 0, (hF.put 0 80 (SP.is (.pointer (some ⟨q, 0, none⟩))) (ac.eval (.tmp 0)) (by rw [hD]; rfl) (((hF.keep 0 (by rw [hD]; rfl)).trans zs0)) (by rw [hD]; rfl) (by rw [hsz]; decide) (by rw [hl]; decide)), hb1, rs, r7, (fun h => ⟨(eval_put_other ac _ (by decide)).trans ((al12 (by rwa [getD_set _ _ _ (by decide)] at h)).1), (al12 (by rwa [getD_set _ _ _ (by decide)] at h)).2.1, by rw [getD_set _ _ _ (by decide)]; exact (al12 (by rwa [getD_set _ _ _ (by decide)] at h)).2.2⟩), (fun h => by rw [getD_set _ _ _ (by decide)]; exact as12 (by rwa [getD_set _ _ _ (by decide)] at h))⟩)
      · have hk3 := hk
        exact wpOp_plain rfl rfl (wp_move_v (ac.eval (.tmp 1)) rfl rfl ⟨N2, hl2 1, (hF.put 1 81 (SP.is (.int .i64 (k : Int))) (ac.eval (.tmp 1)) (by rw [hD]; rfl) (((hF.keep 1 (by rw [hD]; rfl)).trans zs1)) (by rw [hD]; rfl) (by rw [hsz]; decide) (by rw [hl]; decide)), hb1, rs, r7, (fun h => ⟨(eval_put_other ac _ (by decide)).trans ((al12 (by rwa [getD_set _ _ _ (by decide)] at h)).1), (al12 (by rwa [getD_set _ _ _ (by decide)] at h)).2.1, by rw [getD_set _ _ _ (by decide)]; exact (al12 (by rwa [getD_set _ _ _ (by decide)] at h)).2.2⟩), (fun h => by rw [getD_set _ _ _ (by decide)]; exact as12 (by rwa [getD_set _ _ _ (by decide)] at h))⟩)
      · have hk3 := hk
        have ea := (hF.done 0 (80, SP.is (.pointer (some ⟨q, 0, none⟩))) (by rw [hD]; rfl) (ready_dep hk 0 (by kernel_rfl)))
        exact wpOp_plain rfl rfl (wp_nilL rfl q ea ⟨N2, hl2 2, (hF.put 2 82 (SP.is (.pointer (some ⟨q, 0, none⟩))) (.pointer (some ⟨q, 0, none⟩)) (by rw [hD]; rfl) rfl (by rw [hD]; rfl) (by rw [hsz]; decide) (by rw [hl]; decide)), hb1, rs, r7, (fun h => ⟨(eval_put_other ac _ (by decide)).trans ((al12 (by rwa [getD_set _ _ _ (by decide)] at h)).1), (al12 (by rwa [getD_set _ _ _ (by decide)] at h)).2.1, by rw [getD_set _ _ _ (by decide)]; exact (al12 (by rwa [getD_set _ _ _ (by decide)] at h)).2.2⟩), (fun h => by rw [getD_set _ _ _ (by decide)]; exact as12 (by rwa [getD_set _ _ _ (by decide)] at h))⟩)
      · have hk3 := hk
        have ea := (hF.done 2 (82, SP.is (.pointer (some ⟨q, 0, none⟩))) (by rw [hD]; rfl) (ready_dep hk 2 (by kernel_rfl)))
        exact wpOp_plain rfl rfl (wp_fPr1 rfl q ea ⟨N2, hl2 3, (hF.put 3 83 (SP.is (.pointer (some ⟨q, 3, none⟩))) (.pointer (some ⟨q, 3, none⟩)) (by rw [hD]; rfl) rfl (by rw [hD]; rfl) (by rw [hsz]; decide) (by rw [hl]; decide)), hb1, rs, r7, (fun h => ⟨(eval_put_other ac _ (by decide)).trans ((al12 (by rwa [getD_set _ _ _ (by decide)] at h)).1), (al12 (by rwa [getD_set _ _ _ (by decide)] at h)).2.1, by rw [getD_set _ _ _ (by decide)]; exact (al12 (by rwa [getD_set _ _ _ (by decide)] at h)).2.2⟩), (fun h => by rw [getD_set _ _ _ (by decide)]; exact as12 (by rwa [getD_set _ _ _ (by decide)] at h))⟩)
      · have hk3 := hk
        have ea := (hF.done 3 (83, SP.is (.pointer (some ⟨q, 3, none⟩))) (by rw [hD]; rfl) (ready_dep hk 3 (by kernel_rfl)))
        have eb := (hF.done 1 (81, SP.is (.int .i64 (k : Int))) (by rw [hD]; rfl) (ready_dep hk 1 (by kernel_rfl)))
        exact wpOp_plain rfl rfl (wp_ixO tR3 tRL rfl q 3 k 70 3 (3 + k * 70) ea eb HK3.out und_R3 info_RL rfl ⟨N2, hl2 4, (hF.put 4 84 (SP.is (.pointer (some ⟨q, 3 + k * 70, none⟩))) (.pointer (some ⟨q, 3 + k * 70, none⟩)) (by rw [hD]; rfl) rfl (by rw [hD]; rfl) (by rw [hsz]; decide) (by rw [hl]; decide)), hb1, rs, r7, (fun h => ⟨(eval_put_other ac _ (by decide)).trans ((al12 (by rwa [getD_set _ _ _ (by decide)] at h)).1), (al12 (by rwa [getD_set _ _ _ (by decide)] at h)).2.1, by rw [getD_set _ _ _ (by decide)]; exact (al12 (by rwa [getD_set _ _ _ (by decide)] at h)).2.2⟩), (fun h => by rw [getD_set _ _ _ (by decide)]; exact as12 (by rwa [getD_set _ _ _ (by decide)] at h))⟩)
      · have hk3 := hk
        have ea := (hF.done 4 (84, SP.is (.pointer (some ⟨q, 3 + k * 70, none⟩))) (by rw [hD]; rfl) (ready_dep hk 4 (by kernel_rfl)))
        exact wpOp_plain rfl rfl (wp_load_mid tRL (.tmp 84) rfl q (3 + k * 70) ea L _ (HRD.out W (hb1)) Try.underlying44 rfl HIL.out ⟨N2, hl2 5, (hF.put 5 85 (SP.is (.agg L.toArray)) (.agg L.toArray) (by rw [hD]; rfl) rfl (by rw [hD]; rfl) (by rw [hsz]; decide) (by rw [hl]; decide)), hb1, rs, r7, (fun h => ⟨(eval_put_other ac _ (by decide)).trans ((al12 (by rwa [getD_set _ _ _ (by decide)] at h)).1), (al12 (by rwa [getD_set _ _ _ (by decide)] at h)).2.1, by rw [getD_set _ _ _ (by decide)]; exact (al12 (by rwa [getD_set _ _ _ (by decide)] at h)).2.2⟩), (fun h => by rw [getD_set _ _ _ (by decide)]; exact as12 (by rwa [getD_set _ _ _ (by decide)] at h))⟩)
      · have hk3 := hk
        have ea := ((hF.keep 5 (by rw [hD]; rfl)).trans zs5)
        exact wpOp_plain rfl rfl (wp_fSt7 rfl bS ea ⟨N2, hl2 6, (hF.put 6 86 (SP.is (.pointer (some ⟨bS, 91, none⟩))) (.pointer (some ⟨bS, 91, none⟩)) (by rw [hD]; rfl) rfl (by rw [hD]; rfl) (by rw [hsz]; decide) (by rw [hl]; decide)), hb1, rs, r7, (fun h => ⟨(eval_put_other ac _ (by decide)).trans ((al12 (by rwa [getD_set _ _ _ (by decide)] at h)).1), (al12 (by rwa [getD_set _ _ _ (by decide)] at h)).2.1, by rw [getD_set _ _ _ (by decide)]; exact (al12 (by rwa [getD_set _ _ _ (by decide)] at h)).2.2⟩), (fun h => by rw [getD_set _ _ _ (by decide)]; exact as12 (by rwa [getD_set _ _ _ (by decide)] at h))⟩)
      · have hk3 := hk
        have ea := (hF.done 6 (86, SP.is (.pointer (some ⟨bS, 91, none⟩))) (by rw [hD]; rfl) (ready_dep hk 6 (by kernel_rfl)))
        exact wpOp_plain rfl rfl (wp_ld1 bS 91 (.int .i64 s.nr) rfl ea (ld_int W bS 91 _ (rs.cell 91 _ HNR.out)) ⟨N2, hl2 7, (hF.put 7 87 (SP.is (.int .i64 s.nr)) (.int .i64 s.nr) (by rw [hD]; rfl) rfl (by rw [hD]; rfl) (by rw [hsz]; decide) (by rw [hl]; decide)), hb1, rs, r7, (fun h => ⟨(eval_put_other ac _ (by decide)).trans ((al12 (by rwa [getD_set _ _ _ (by decide)] at h)).1), (al12 (by rwa [getD_set _ _ _ (by decide)] at h)).2.1, by rw [getD_set _ _ _ (by decide)]; exact (al12 (by rwa [getD_set _ _ _ (by decide)] at h)).2.2⟩), (fun h => by rw [getD_set _ _ _ (by decide)]; exact as12 (by rwa [getD_set _ _ _ (by decide)] at h))⟩)
      · have hk3 := hk
        have e85 := (hF.done 5 (85, SP.is (.agg L.toArray)) (by rw [hD]; rfl) (ready_dep hk 5 (by kernel_rfl)))
        have e87 := (hF.done 7 (87, SP.is (.int .i64 s.nr)) (by rw [hD]; rfl) (ready_dep hk 7 (by kernel_rfl)))
        refine wpOp_plain rfl rfl (wp_fcall_v 65 #[.agg L.toArray, .int .i64 s.nr] rfl rfl (by show [ac.eval (.tmp 85), ac.eval (.tmp 87)] = _; rw [show ac.eval (.tmp 85) = _ from e85, show ac.eval (.tmp 87) = _ from e87]) (by go_simp) ((HRR.out W hb1).mono ?_))
        rintro e W2 ⟨rfl, hB⟩
        exact ⟨_, rfl, N2, hl2 8, ((hF.world hB).put 8 88 (SP.is (.tuple #[.agg Ly.toArray, .int .i64 E])) (.tuple #[.agg Ly.toArray, .int .i64 E]) (by rw [hD]; rfl) rfl (by rw [hD]; rfl) (by rw [hsz]; decide) (by rw [hl]; decide)), hb1.trans (hB.mono hb1.size), Row.below rs hB (Row.lt rs), Row.below r7 hB (Row.lt r7), (fun h => ⟨(eval_put_other ac _ (by decide)).trans ((al12 (by rwa [getD_set _ _ _ (by decide)] at h)).1), (al12 (by rwa [getD_set _ _ _ (by decide)] at h)).2.1, by rw [getD_set _ _ _ (by decide)]; exact Row.below (al12 (by rwa [getD_set _ _ _ (by decide)] at h)).2.2 hB (Row.lt (al12 (by rwa [getD_set _ _ _ (by decide)] at h)).2.2)⟩), (fun h => by rw [getD_set _ _ _ (by decide)]; exact as12 (by rwa [getD_set _ _ _ (by decide)] at h))⟩
      · have hk3 := hk
        exact wpOp_plain rfl rfl (wp_move_v (ac.eval (.tmp 88)) rfl rfl ⟨N2, hl2 9, (hF.put 9 79 (SP.is (.tuple #[.agg Ly.toArray, .int .i64 E])) (ac.eval (.tmp 88)) (by rw [hD]; rfl) ((hF.done 8 (88, SP.is (.tuple #[.agg Ly.toArray, .int .i64 E])) (by rw [hD]; rfl) (ready_dep hk 8 (by kernel_rfl)))) (by rw [hD]; rfl) (by rw [hsz]; decide) (by rw [hl]; decide)), hb1, rs, r7, (fun h => ⟨(eval_put_other ac _ (by decide)).trans ((al12 (by rwa [getD_set _ _ _ (by decide)] at h)).1), (al12 (by rwa [getD_set _ _ _ (by decide)] at h)).2.1, by rw [getD_set _ _ _ (by decide)]; exact (al12 (by rwa [getD_set _ _ _ (by decide)] at h)).2.2⟩), (fun h => by rw [getD_set _ _ _ (by decide)]; exact as12 (by rwa [getD_set _ _ _ (by decide)] at h))⟩)
      · have hk3 := hk
        exact wpOp_plain rfl rfl (wp_extract (.tmp 79) 0 rfl _ (hF.done 9 (79, SP.is (.tuple #[.agg Ly.toArray, .int .i64 E])) (by rw [hD]; rfl) (ready_dep hk 9 (by kernel_rfl))) (.agg Ly.toArray) rfl ⟨N2, hl2 10, (hF.put 10 89 (SP.is (.agg Ly.toArray)) (.agg Ly.toArray) (by rw [hD]; rfl) rfl (by rw [hD]; rfl) (by rw [hsz]; decide) (by rw [hl]; decide)), hb1, rs, r7, (fun h => ⟨(eval_put_other ac _ (by decide)).trans ((al12 (by rwa [getD_set _ _ _ (by decide)] at h)).1), (al12 (by rwa [getD_set _ _ _ (by decide)] at h)).2.1, by rw [getD_set _ _ _ (by decide)]; exact (al12 (by rwa [getD_set _ _ _ (by decide)] at h)).2.2⟩), (fun h => by rw [getD_set _ _ _ (by decide)]; exact as12 (by rwa [getD_set _ _ _ (by decide)] at h))⟩)
      · have hk3 := hk
        exact wpOp_plain rfl rfl (wp_extract (.tmp 79) 1 rfl _ (hF.done 9 (79, SP.is (.tuple #[.agg Ly.toArray, .int .i64 E])) (by rw [hD]; rfl) (ready_dep hk 9 (by kernel_rfl))) (.int .i64 E) rfl ⟨N2, hl2 11, (hF.put 11 90 (SP.is (.int .i64 E)) (.int .i64 E) (by rw [hD]; rfl) rfl (by rw [hD]; rfl) (by rw [hsz]; decide) (by rw [hl]; decide)), hb1, rs, r7, (fun h => ⟨(eval_put_other ac _ (by decide)).trans ((al12 (by rwa [getD_set _ _ _ (by decide)] at h)).1), (al12 (by rwa [getD_set _ _ _ (by decide)] at h)).2.1, by rw [getD_set _ _ _ (by decide)]; exact (al12 (by rwa [getD_set _ _ _ (by decide)] at h)).2.2⟩), (fun h => by rw [getD_set _ _ _ (by decide)]; exact as12 (by rwa [getD_set _ _ _ (by decide)] at h))⟩)
      · have hk3 := hk
        have hsm : V.heap.size - 1 < W.heap.size := (by have := hb1.size; have := Row.lt rs; omega)
        have hB : Below W.heap.size W (W.alloc (.cells zC.cells.toArray tC)) := (Below.refl _ _).alloc (Nat.le_refl _) _
        have hns : ¬ listed.getD 13 false = true := fun h => not_yet hk (as12 h)
        exact wpOp_plain rfl rfl (wp_allocCm rfl ⟨W.heap.size, hl2 12, ((hF.world hB).put 12 13 (SP.any) (.pointer (some ⟨W.heap.size, 0, none⟩)) (by rw [hD]; rfl) trivial (by rw [hD]; rfl) (by rw [hsz]; decide) (by rw [hl]; decide)), hb1.alloc hb1.size _, Row.alloc rs _, Row.alloc r7 _, (fun _ => ⟨eval_put_same ac _ (by rw [hF.size, hsz]; decide), hsm, by rw [getD_set _ _ _ (by decide), if_neg hns]; exact Row.new' rfl rfl⟩), (fun _ => getD_same (by rw [hl]; decide))⟩)
      · have hk3 := hk
        have hal := ready_dep hk 12 (by kernel_rfl)
        obtain ⟨e1, m1, y2⟩ := al12 hal
        rw [if_neg (not_yet hk)] at y2
        have T := y2.there 0 Ly.toArray.size HYT.out
        have fin := y2.over (vs := Ly) HYL.out
        have hT : Fp D a0 listed ac (W.setCells N2 0 Ly) := hF.turn (by rw [hD]; simp only [List.forall_mem_cons, List.not_mem_nil, false_implies, implies_true, and_true]; exact ⟨fun _ h => h, fun _ h => h, fun _ h => h, fun _ h => h, fun _ h => h, fun _ h => h, fun _ h => h, fun _ h => h, fun _ h => h, fun _ h => h, fun _ h => h, fun _ h => h, fun _ h => h, fun _ h => h, fun _ h => h⟩)
        exact wpOp_plain rfl rfl (wp_store_mid tC (.tmp 13) (.tmp 89) rfl N2 0 Ly.toArray e1 (hF.done 10 (89, SP.is (.agg Ly.toArray)) (by rw [hD]; rfl) (ready_dep hk 10 (by kernel_rfl))) T HYJ.out HYO.out ⟨N2, hl2 13, (hT.skip 13 1000 (by rw [hD]; rfl) (by rw [hl]; decide)), below_setCells hb1 (by omega) _, Row.setCells_other rs _ _ _ (by omega), Row.setCells_other r7 _ _ _ (by omega), (fun _ => ⟨e1, m1, by rw [if_pos (getD_same (by rw [hl]; decide))]; exact fin⟩), (fun _ => by rw [getD_set _ _ _ (by decide)]; exact hal)⟩)
      · have hk3 := hk
        exact wpOp_plain rfl rfl (wp_assign_v (ac.eval (.tmp 90)) rfl rfl ⟨N2, hl2 14, (hF.put 14 14 (SP.is (.int .i64 E)) (ac.eval (.tmp 90)) (by rw [hD]; rfl) ((hF.done 11 (90, SP.is (.int .i64 E)) (by rw [hD]; rfl) (ready_dep hk 11 (by kernel_rfl)))) (by rw [hD]; rfl) (by rw [hsz]; decide) (by rw [hl]; decide)), hb1, rs, r7, (fun h => ⟨(eval_put_other ac _ (by decide)).trans ((al12 (by rwa [getD_set _ _ _ (by decide)] at h)).1), (al12 (by rwa [getD_set _ _ _ (by decide)] at h)).2.1, by rw [getD_set _ _ _ (by decide)]; exact (al12 (by rwa [getD_set _ _ _ (by decide)] at h)).2.2⟩), (fun h => by rw [getD_set _ _ _ (by decide)]; exact as12 (by rwa [getD_set _ _ _ (by decide)] at h))⟩)
    · clear hb1 rs r7 
      intro listed ac W hI hr
      obtain ⟨N2, hl, hF, hb1, rs, r7, al12, as12⟩ := hI
      have hall := all_listed (by kernel_rfl) hl hr
      obtain ⟨ea13, m13, p13⟩ := al12 (hall 12 (by decide))
      rw [if_pos (hall 13 (by decide))] at p13
      have h80 : ac.eval (.tmp 80) = .pointer (some ⟨q, 0, none⟩) := hF.done 0 (80, SP.is (.pointer (some ⟨q, 0, none⟩))) (by rw [hD]; rfl) (hall 0 (by decide))
      have h81 : ac.eval (.tmp 81) = .int .i64 (k : Int) := hF.done 1 (81, SP.is (.int .i64 (k : Int))) (by rw [hD]; rfl) (hall 1 (by decide))
      have h82 : ac.eval (.tmp 82) = .pointer (some ⟨q, 0, none⟩) := hF.done 2 (82, SP.is (.pointer (some ⟨q, 0, none⟩))) (by rw [hD]; rfl) (hall 2 (by decide))
      have h83 : ac.eval (.tmp 83) = .pointer (some ⟨q, 3, none⟩) := hF.done 3 (83, SP.is (.pointer (some ⟨q, 3, none⟩))) (by rw [hD]; rfl) (hall 3 (by decide))
      have h84 : ac.eval (.tmp 84) = .pointer (some ⟨q, 3 + k * 70, none⟩) := hF.done 4 (84, SP.is (.pointer (some ⟨q, 3 + k * 70, none⟩))) (by rw [hD]; rfl) (hall 4 (by decide))
      have h85 : ac.eval (.tmp 85) = .agg L.toArray := hF.done 5 (85, SP.is (.agg L.toArray)) (by rw [hD]; rfl) (hall 5 (by decide))
      have h86 : ac.eval (.tmp 86) = .pointer (some ⟨bS, 91, none⟩) := hF.done 6 (86, SP.is (.pointer (some ⟨bS, 91, none⟩))) (by rw [hD]; rfl) (hall 6 (by decide))
      have h87 : ac.eval (.tmp 87) = .int .i64 s.nr := hF.done 7 (87, SP.is (.int .i64 s.nr)) (by rw [hD]; rfl) (hall 7 (by decide))
      have h88 : ac.eval (.tmp 88) = .tuple #[.agg Ly.toArray, .int .i64 E] := hF.done 8 (88, SP.is (.tuple #[.agg Ly.toArray, .int .i64 E])) (by rw [hD]; rfl) (hall 8 (by decide))
      have h79 : ac.eval (.tmp 79) = .tuple #[.agg Ly.toArray, .int .i64 E] := hF.done 9 (79, SP.is (.tuple #[.agg Ly.toArray, .int .i64 E])) (by rw [hD]; rfl) (hall 9 (by decide))
      have h89 : ac.eval (.tmp 89) = .agg Ly.toArray := hF.done 10 (89, SP.is (.agg Ly.toArray)) (by rw [hD]; rfl) (hall 10 (by decide))
      have h90 : ac.eval (.tmp 90) = .int .i64 E := hF.done 11 (90, SP.is (.int .i64 E)) (by rw [hD]; rfl) (hall 11 (by decide))
      have h14 : ac.eval (.tmp 14) = .int .i64 E := hF.done 14 (14, SP.is (.int .i64 E)) (by rw [hD]; rfl) (hall 14 (by decide))
      have ea := hF.lay [(80, .pointer (some ⟨q, 0, none⟩)), (81, .int .i64 (k : Int)), (82, .pointer (some ⟨q, 0, none⟩)), (83, .pointer (some ⟨q, 3, none⟩)), (84, .pointer (some ⟨q, 3 + k * 70, none⟩)), (85, .agg L.toArray), (86, .pointer (some ⟨bS, 91, none⟩)), (87, .int .i64 s.nr), (88, .tuple #[.agg Ly.toArray, .int .i64 E]), (79, .tuple #[.agg Ly.toArray, .int .i64 E]), (89, .agg Ly.toArray), (90, .int .i64 E), (13, .pointer (some ⟨N2, 0, none⟩)), (14, .int .i64 E)] (by rw [hD, hsz]; rfl) (by simp only [List.forall_mem_cons, List.not_mem_nil, false_implies, implies_true, and_true]; exact ⟨h80, h81, h82, h83, h84, h85, h86, h87, h88, h79, h89, h90, ea13, h14⟩)
      rw [ha0] at ea
      simp only [List.foldl_cons, List.foldl_nil, List.setIfInBounds_toArray, List.set_cons_zero, List.set_cons_succ] at ea
      clear hF hall hr hl hD al12 as12 zs0 zs1 zs5 ha0 hsz h80 h81 h82 h83 h84 h85 h86 h87 h88 h79 h89 h90 ea13 h14
      subst ea
      have FP : Hid (Pl w0 W q B Ls Es T ts) := HPV.out.below hb1
      have F1 : Hid (Row W N1 Ly tC) := r7
      have F2 : Hid (Row W N2 Ly tC) := p13
      clear rs r7 p13 hb1
      rw [HLY.out] at F1 F2
      have HIY2 : Hid ((Try.prog.info? tC).map (·.size) = some y.cells.length) := Cm.info HYW.out
      go_upto_region 9 with fail
      go_wp2_with (first
        | (refine wpList_ldS rfl tC (.tmp 11) rfl N1 0 rfl y.cells _ F1.out.all Try.underlying25 rfl HIY2.out ?_; simp only [Act.put, List.setIfInBounds_toArray, List.set_cons_zero, List.set_cons_succ])
        | (refine wpList_ldS rfl tC (.tmp 13) rfl N2 0 rfl y.cells _ F2.out.all Try.underlying25 rfl HIY2.out ?_; simp only [Act.put, List.setIfInBounds_toArray, List.set_cons_zero, List.set_cons_succ])
        | (refine wpList_eqC rfl (.tmp 91) (.tmp 92) _ rfl y y HYW.out HYW.out rfl rfl true (decide_eq_true rfl) ?_; simp only [Act.put, List.setIfInBounds_toArray, List.set_cons_zero, List.set_cons_succ]))
      go_ret
      exact ⟨by simp, FP.out⟩

end Go.Proofs.Ytfdbjcdcfmnicaa
