/-
  LadderPlays: a ladder takes a place; look at Copy, New and other kinds.
-/
import Derived.Test.YtfdbjcdcfmnicaaLpM
namespace Go.Proofs.Ytfdbjcdcfmnicaa
open Go Go.RowKit
open Sha

/-- A new ladder takes a place. -/
theorem Pl.setL {w0 w V X : World} {q : Nat} {B : Int} {Ls : List (Nat × Value × La)} {Es : List (Value × La)} {T : Value} {ts : List (Value × Nat)} (h : Pl w0 w q B Ls Es T ts) (hV : Pl w0 V q B Ls Es T ts) {k : Nat} (hk : k < 3) {p' : Nat} {v' : Value} {st' : La} (d : Ld w p' v' B st') (hn : ∀ g, Tb p' v' g → V.heap.size ≤ g) (hX : Row X q ((prc (Ls.map (·.1)) (Es.map fun e => e.2.dc e.1) T).set k (ptL p')) tPr) (hg : Gro (· = q) w X) : Pl w0 X q B (Ls.set k (p', v', st')) Es T ts := by
  rw [prc_setp (by rw [List.length_map]; exact h.l3) hk, show (Ls.map (·.1)).set k p' = (Ls.set k (p', v', st')).map (·.1) by rw [List.map_set]] at hX
  have nq : ∀ {v : Value} {n : Nat} {xs : List Value}, Lo w tP 90 v n xs → ∀ g, v.ownBlock = some g → ¬ g = q := fun hl g e z => hl.ne h.row (by decide) g e z
  have hq := hV.row.lt
  have hset : ∀ l ∈ Ls.set k (p', v', st'), l ∈ Ls ∨ l = (p', v', st') := fun l hl => List.mem_or_eq_of_mem_set hl
  refine ⟨⟨h.be.trans (hg.to_below h.be.size (fun g e => by rw [e]; exact h.qn)), (fun _ q => by cases q), fun l hl => ?_, fun l hl g e => ?_, (fun _ q => by cases q), ?_⟩, by rw [List.length_set]; exact h.l3, h.e3, hX, h.qn, fun e he => ⟨(h.rf e he).own.gro hg (nq (h.rf e he).own), (h.rf e he).ok⟩, fun e he g e1 l hl => ?_, Lw.gro h.tl hg (fun g e z => Lw.ne h.tl h.row (by decide) g e z), h.tn, fun j y hy => ⟨(h.ti j y hy).1.gro hg (nq (h.ti j y hy).1), (h.ti j y hy).2⟩, fun y hy g e1 l hl => ?_⟩
  · obtain ⟨x, hx, rfl⟩ := List.mem_map.1 hl
    rcases hset x hx with z | z
    · exact (h.ladm z).gro hg (fun g e z2 => by subst z2; exact tb_ty h z h.row (by decide) (by decide) e)
    · subst z
      exact d.gro hg (fun g e z2 => by have := hn g e; omega)
  · obtain ⟨x, hx, rfl⟩ := List.mem_map.1 hl
    rcases hset x hx with z | z
    · exact h.hp.new (x.1, x.2.1, B, x.2.2) (List.mem_map.2 ⟨x, z, rfl⟩) g e
    · subst z
      exact Nat.le_trans hV.be.size (hn g e)
  · have hl := h.hp.ll
    rw [List.pairwise_map] at hl ⊢
    rw [List.pairwise_iff_getElem] at hl ⊢
    intro i j hi hj hij g e1 e2
    have hi' : i < Ls.length := by rw [List.length_set] at hi; exact hi
    have hj' : j < Ls.length := by rw [List.length_set] at hj; exact hj
    by_cases ei : i = k
    · subst ei
      rw [List.getElem_set_self] at e1
      rw [List.getElem_set_ne (by omega)] at e2
      have := hn g e1
      have := (hV.ladm (List.getElem_mem hj')).lt g e2
      omega
    · rw [List.getElem_set_ne (Ne.symm ei)] at e1
      by_cases ej : j = k
      · subst ej
        rw [List.getElem_set_self] at e2
        have := hn g e2
        have := (hV.ladm (List.getElem_mem hi')).lt g e1
        omega
      · rw [List.getElem_set_ne (Ne.symm ej)] at e2
        exact hl i j hi' hj' hij g e1 e2
  · rcases hset l hl with z | z
    · exact h.ra e he g e1 l z
    · subst z
      intro tb
      have := hn g tb
      have := (hV.rf e he).own.lt g e1
      omega
  · rcases hset l hl with z | z
    · exact h.ta y hy g e1 l z
    · subst z
      intro tb
      obtain ⟨j, hj, rfl⟩ := List.getElem_of_mem hy
      have := hn g tb
      have := (hV.ti j _ (List.getElem?_eq_getElem hj)).1.lt g e1
      omega
theorem rows_ne {w : World} {g g' : Nat} {a b : List Value} {s t : TypeId} (h : Row w g a s) (k : Row w g' b t) (ht : s ≠ t) : g ≠ g' := fun e => by subst e; exact ht (row_ty h k)
theorem Sp16.at_to (s : Sp16) : s.cells[2]? = some (.int .i64 s.«to») := rfl
theorem Sp16.at_wd {s : Sp16} (h : s.Ok) : s.cells[93]? = some (.int .i64 s.wd) := Sp16.tail h 4
set_option maxRecDepth 100000 in
set_option maxHeartbeats 16000000 in
theorem look_copy {w0 w : World} {q : Nat} {B : Int} {Ls : List (Nat × Value × La)} {Es : List (Value × La)} {T : Value} {ts : List (Value × Nat)} (h : Pl w0 w q B Ls Es T ts) {k p : Nat} {v e : Value} {st : La} (hk : Ls[k]? = some (p, v, st)) (he : Es[k]? = some (e, st)) (s : Sp16) (hs : s.Ok) (hto : B64 s.«to») (hkd : s.kd = 11) (S : List Value) (hS : S = s.cells) :
    Calls Try.prog 18 #[.pointer (some ⟨q, 0, none⟩), .int .i64 (k : Int), .agg S.toArray] w fun r w' => r = .returned (.bool true) ∧ ∃ p' v', Pl w0 w' q B (Ls.set (pk s.«to» 3) (p', v', st)) (Es.set (pk s.«to» 3) (e, st)) T ts := by
  have HTO : Hid (S[2]? = some (.int .i64 s.«to»)) := by rw [hS]; exact Sp16.at_to s
  obtain ⟨j, hj⟩ : ∃ j, j = pk s.«to» 3 := ⟨_, rfl⟩
  have HJ : Hid (j < 3) := by show _ < _; rw [hj]; exact pk_lt s.«to» 3 (by decide)
  have HPK : Hid (∀ W, Calls Try.prog 16 #[.int .i64 s.«to», .int .i64 3] W fun e w' => e = .returned (.int .i64 (j : Int)) ∧ w' = W) := fun W => by rw [hj]; exact pick_any s.«to» 3 hto (by decide) (by decide) W
  rw [← hj]
  have HCY : Hid (∀ W, Pl w0 W q B Ls Es T ts → Calls Try.prog 32 #[.pointer (some ⟨p, 0, none⟩)] W fun r w' => ∃ p' v', r = .returned (.pointer (some ⟨p', 0, none⟩)) ∧ Ld w' p' v' B st ∧ W.heap.size ≤ p' ∧ Fresh W.heap.size v' ∧ Below W.heap.size W w') := fun W hP => copy_any (hP.lad hk)
  have hk3 : k < 3 := by have := (List.getElem?_eq_some_iff.1 hk).1; rw [h.l3] at this; exact this
  have HK3 : Hid (k < 3) := hk3
  have HPL : Hid (Pl w0 w q B Ls Es T ts) := h
  have HLK : Hid (Ls[k]? = some (p, v, st)) := hk
  have HEK : Hid (Es[k]? = some (e, st)) := he
  have HNR : Hid (S[91]? = some (.int .i64 s.nr)) := by rw [hS]; exact Sp16.at_nr hs
  have HKD : Hid (S[0]? = some (.int .i64 11)) := by rw [hS, ← hkd]; exact Sp16.at_kd s
  have HCP0 : Hid (∀ W, Pl w0 W q B Ls Es T ts → W.cell? ⟨q, k, none⟩ = some (.pointer (some ⟨p, 0, none⟩))) := fun W hP => hP.row.cell k _ (prc_p (by rw [List.getElem?_map, hk]; rfl))
  obtain ⟨L, hL⟩ : ∃ L, L = st.dc e := ⟨_, rfl⟩
  have HIL : Hid ((Try.prog.info? tRL).map (·.size) = some L.length) := by show _ = _; rw [hL]; exact La.dinfo (h.rf _ (List.mem_of_getElem? he)).ok.cf _
  have HRD0 : Hid (∀ W, Pl w0 W q B Ls Es T ts → W.rangeAt q (3 + k * 70) L) := fun W hP => hP.row.range (3 + k * 70) _ (fun j u hj => prc_d (by rw [List.length_map]; exact hP.l3) hP.d70 (by rw [List.getElem?_map, he]; rfl) j u (by rw [hL] at hj; exact hj))
  have HLL : Hid (L = st.dc e) := hL
  clear hto hj
  clear h hk he hs hkd hS hk3 hL
  go_enter Try.func18, Try.ntmps18
  go_upto_region 27 with (refine wpList_bxG tSt rfl (.tmp 2) rfl S rfl ?_; intro X1 q1 q2 q3; clear q3; have ck : X1.cell? ⟨w.heap.size, 0, none⟩ = some (.int .i64 11) := q1.cell 0 _ HKD.out; have RS : Hid (Row X1 w.heap.size S tSt) := q1; have HP1 : Hid (Pl w0 X1 q B Ls Es T ts) := HPL.out.below q2; clear q1 q2; simp only [Act.put, List.setIfInBounds_toArray, List.set_cons_zero, List.set_cons_succ])
  obtain ⟨bS, hbS⟩ : ∃ b, b = w.heap.size := ⟨_, rfl⟩
  rw [← hbS] at RS ⊢
  clear hbS ck HPL
  go_upto_region 31 with (first
        | (refine wpList_plain rfl (fun _ hK => wp_ixO tL3 tLp rfl q 3 k 1 0 k rfl rfl HK3.out und_L3 info_Lp (by omega) (hK _ _ ?_)); simp only [Act.put, List.setIfInBounds_toArray, List.set_cons_zero, List.set_cons_succ])
        | (refine wpList_plain rfl (fun _ hK => wp_ld1 q k (.pointer (some ⟨p, 0, none⟩)) rfl rfl (ld_Lp _ q k _ (HCP0.out _ HP1.out)) (hK _ _ ?_)); simp only [Act.put, List.setIfInBounds_toArray, List.set_cons_zero, List.set_cons_succ])
        | (go_at_call 32; refine Calls.mono (HCY.out _ HP1.out) ?_; rintro r X2 ⟨p', v', rfl, q1, q2, q3, q4⟩; have HP2 : Hid (Pl w0 X2 q B Ls Es T ts) := HP1.out.below q4; have D2 : Hid (Ld X2 p' v' B st) := q1; have N2 : Hid (∀ g, Tb p' v' g → X1.heap.size ≤ g) := (fun g z => by { rcases z with z | z; rw [z]; exact q2; exact q3 g z }); have c2 : X2.cell? ⟨bS, 2, none⟩ = some (.int .i64 s.«to») := (Row.below RS.out q4 RS.out.lt).cell 2 _ HTO.out; clear q1 q2 q3 q4 RS)
        | (go_at_call 16; refine Calls.mono (HPK.out _) ?_; rintro r X3 ⟨rfl, q2⟩; subst q2; clear c2))
  clear HPK HCY HCP0
  go_upto_region 32 with (first
        | (refine wpList_plain rfl (fun _ hK => wp_ixO tL3 tLp rfl q 3 j 1 0 j rfl rfl HJ.out und_L3 info_Lp (by omega) (hK _ _ ?_)); simp only [Act.put, List.setIfInBounds_toArray, List.set_cons_zero, List.set_cons_succ])
        | (refine wpList_st1 rfl tLp (.tmp 205) (.tmp 202) rfl q j (.pointer (some ⟨p', 0, none⟩)) (prc (Ls.map (·.1)) (Es.map fun e => e.2.dc e.1) T) tPr rfl rfl rfl HP2.out.row (by { rw [prc_len (by rw [List.length_map]; exact HP2.out.l3) (by rw [List.length_map]; exact HP2.out.e3) HP2.out.d70]; have := HJ.out; omega }) info_Lp rfl ?_; intro X4 q1 q2; have HP4 : Hid (Pl w0 X4 q B (Ls.set j (p', v', st)) Es T ts) := HP2.out.setL HP1.out HJ.out D2.out N2.out q1 q2; clear q1 q2; simp only [Act.put]))
  clear HP2 D2 N2
  obtain ⟨Ls2, hL2⟩ : ∃ l, l = Ls.set j (p', v', st) := ⟨_, rfl⟩
  rw [← hL2] at HP4
  have HL2 : Hid (Ls2 = Ls.set j (p', v', st)) := hL2
  have HRF : Hid (Rf X4 e B st) := HP4.out.rf _ (List.mem_of_getElem? HEK.out)
  have HRA : Hid (∀ g, e.ownBlock = some g → ∀ l ∈ Ls2, ¬ Tb l.1 l.2.1 g) := fun g z => HP4.out.ra _ (List.mem_of_getElem? HEK.out) g z
  have HLO : Hid (L.toArray.all (·.oneCell') = true) := by show _ = _; rw [HLL.out]; exact HRF.out.one
  have HLJ : Hid ((Try.prog.info? tRL).map (·.size) = some L.toArray.size) := by show _ = _; rw [List.size_toArray]; exact HIL.out
  have HLN : Hid (L.length = 70) := by show _ = _; rw [HLL.out]; exact La.dlen HRF.out.ok.cf _
  obtain ⟨PC, hPC⟩ : ∃ M, M = prc (Ls2.map (·.1)) (Es.map fun e => e.2.dc e.1) T := ⟨_, rfl⟩
  have HPC : Hid (PC = prc (Ls2.map (·.1)) (Es.map fun e => e.2.dc e.1) T) := hPC
  have rq : Row X4 q PC tPr := by rw [hPC]; exact HP4.out.row
  have HPN : Hid (3 + j * 70 + L.toArray.size ≤ PC.length) := by show _ ≤ _; rw [List.size_toArray, HLN.out, hPC, prc_len (by rw [List.length_map]; exact HP4.out.l3) (by rw [List.length_map]; exact HP4.out.e3) HP4.out.d70]; have := HJ.out; omega
  have HRG : Hid (∀ (i : Nat) (u : Value), L[i]? = some u → PC[3 + k * 70 + i]? = some u) := fun i u hi => by rw [hPC]; exact prc_d (by rw [List.length_map]; exact HP4.out.l3) HP4.out.d70 (by rw [List.getElem?_map, HEK.out]; rfl) i u (by rw [HLL.out] at hi; exact hi)
  have hqn : w0.heap.size ≤ q := HP4.out.qn
  have gQ : Gro (· = q) X4 X4 := Gro.refl _ _
  have hb1 : Below w0.heap.size w0 X4 := HP4.out.be
  clear HP1 hL2 hPC HRD0 HTO
  refine wp_named fun a0 ha0 => ?_
  have hsz : a0.tmps.size = 259 := by rw [ha0]; rfl
  have zs0 : a0.eval (.tmp 0) = .pointer (some ⟨q, 0, none⟩) := by rw [ha0]; rfl
  have zs1 : a0.eval (.tmp 1) = .int .i64 (k : Int) := by rw [ha0]; rfl
  have zs24 : a0.eval (.tmp 24) = .int .i64 (j : Int) := by rw [ha0]; rfl
  obtain ⟨D, hD⟩ : ∃ D : List (Tmp × SP), D = [(206, SP.is (.pointer (some ⟨q, 0, none⟩))), (207, SP.is (.int .i64 (j : Int))), (208, SP.is (.pointer (some ⟨q, 0, none⟩))), (209, SP.is (.int .i64 (k : Int))), (210, SP.is (.pointer (some ⟨q, 0, none⟩))), (211, SP.is (.pointer (some ⟨q, 3, none⟩))), (212, SP.is (.pointer (some ⟨q, 3 + k * 70, none⟩))), (213, SP.is (.agg L.toArray)), (214, SP.is (.pointer (some ⟨q, 0, none⟩))), (215, SP.is (.pointer (some ⟨q, 3, none⟩))), (216, SP.is (.pointer (some ⟨q, 3 + j * 70, none⟩))), (1000, SP.any)] := ⟨_, rfl⟩
  refine wp_region_down (by kernel_rfl) (fun listed ac W => listed.size = 12 ∧ Fp D a0 listed ac W ∧ Below w0.heap.size w0 W ∧ Row W q (if listed.getD 11 false = true then (PC.take (3 + j * 70) ++ L ++ PC.drop (3 + j * 70 + L.length)) else PC) tPr ∧ Gro (· = q) X4 W) ?_ ?_ ?_
  · exact ⟨by simp, Fp.start D a0 _ _, Below.drew hb1, (by rw [if_neg (fun h => start_no h)]; exact Row.drew rq), gQ.below (Below.drew (Below.refl _ _))⟩
  · clear ha0 hb1 rq gQ 
    intro listed ac W k hI hdn hk
    obtain ⟨hl, hF, hb1, rq, gQ⟩ := hI
    have hk1 : k < 12 := List.mem_range.1 (List.mem_filter.1 hk).1
    have hl2 : ∀ j, (listed.setIfInBounds j true).size = 12 := fun j => by rw [Array.size_setIfInBounds]; exact hl
    rcases (show k = 0 ∨ k = 1 ∨ k = 2 ∨ k = 3 ∨ k = 4 ∨ k = 5 ∨ k = 6 ∨ k = 7 ∨ k = 8 ∨ k = 9 ∨ k = 10 ∨ k = 11 by omega) with rfl | rfl | rfl | rfl | rfl | rfl | rfl | rfl | rfl | rfl | rfl | rfl
    · have hk3 := hk
      exact wpOp_plain rfl rfl (wp_move_v (ac.eval (.tmp 0)) rfl rfl ⟨hl2 0, (hF.put 0 206 (SP.is (.pointer (some ⟨q, 0, none⟩))) (ac.eval (.tmp 0)) (by rw [hD]; rfl) (((hF.keep 0 (by rw [hD]; rfl)).trans zs0)) (by rw [hD]; rfl) (by rw [hsz]; decide) (by rw [hl]; decide)), hb1, (by rw [getD_set _ _ _ (by decide)]; exact rq), gQ⟩)
    · have hk3 := hk
      exact wpOp_plain rfl rfl (wp_move_v (ac.eval (.tmp 24)) rfl rfl ⟨hl2 1, (hF.put 1 207 (SP.is (.int .i64 (j : Int))) (ac.eval (.tmp 24)) (by rw [hD]; rfl) (((hF.keep 24 (by rw [hD]; rfl)).trans zs24)) (by rw [hD]; rfl) (by rw [hsz]; decide) (by rw [hl]; decide)), hb1, (by rw [getD_set _ _ _ (by decide)]; exact rq), gQ⟩)
    · have hk3 := hk
      exact wpOp_plain rfl rfl (wp_move_v (ac.eval (.tmp 0)) rfl rfl ⟨hl2 2, (hF.put 2 208 (SP.is (.pointer (some ⟨q, 0, none⟩))) (ac.eval (.tmp 0)) (by rw [hD]; rfl) (((hF.keep 0 (by rw [hD]; rfl)).trans zs0)) (by rw [hD]; rfl) (by rw [hsz]; decide) (by rw [hl]; decide)), hb1, (by rw [getD_set _ _ _ (by decide)]; exact rq), gQ⟩)
    · have hk3 := hk
      exact wpOp_plain rfl rfl (wp_move_v (ac.eval (.tmp 1)) rfl rfl ⟨hl2 3, (hF.put 3 209 (SP.is (.int .i64 (k : Int))) (ac.eval (.tmp 1)) (by rw [hD]; rfl) (((hF.keep 1 (by rw [hD]; rfl)).trans zs1)) (by rw [hD]; rfl) (by rw [hsz]; decide) (by rw [hl]; decide)), hb1, (by rw [getD_set _ _ _ (by decide)]; exact rq), gQ⟩)
    · have hk3 := hk
      have ea := (hF.done 2 (208, SP.is (.pointer (some ⟨q, 0, none⟩))) (by rw [hD]; rfl) (ready_dep hk 2 (by kernel_rfl)))
      exact wpOp_plain rfl rfl (wp_nilL rfl q ea ⟨hl2 4, (hF.put 4 210 (SP.is (.pointer (some ⟨q, 0, none⟩))) (.pointer (some ⟨q, 0, none⟩)) (by rw [hD]; rfl) rfl (by rw [hD]; rfl) (by rw [hsz]; decide) (by rw [hl]; decide)), hb1, (by rw [getD_set _ _ _ (by decide)]; exact rq), gQ⟩)
    · have hk3 := hk
      have ea := (hF.done 4 (210, SP.is (.pointer (some ⟨q, 0, none⟩))) (by rw [hD]; rfl) (ready_dep hk 4 (by kernel_rfl)))
      exact wpOp_plain rfl rfl (wp_fPr1 rfl q ea ⟨hl2 5, (hF.put 5 211 (SP.is (.pointer (some ⟨q, 3, none⟩))) (.pointer (some ⟨q, 3, none⟩)) (by rw [hD]; rfl) rfl (by rw [hD]; rfl) (by rw [hsz]; decide) (by rw [hl]; decide)), hb1, (by rw [getD_set _ _ _ (by decide)]; exact rq), gQ⟩)
    · have hk3 := hk
      have ea := (hF.done 5 (211, SP.is (.pointer (some ⟨q, 3, none⟩))) (by rw [hD]; rfl) (ready_dep hk 5 (by kernel_rfl)))
      have eb := (hF.done 3 (209, SP.is (.int .i64 (k : Int))) (by rw [hD]; rfl) (ready_dep hk 3 (by kernel_rfl)))
      exact wpOp_plain rfl rfl (wp_ixO tR3 tRL rfl q 3 k 70 3 (3 + k * 70) ea eb HK3.out und_R3 info_RL rfl ⟨hl2 6, (hF.put 6 212 (SP.is (.pointer (some ⟨q, 3 + k * 70, none⟩))) (.pointer (some ⟨q, 3 + k * 70, none⟩)) (by rw [hD]; rfl) rfl (by rw [hD]; rfl) (by rw [hsz]; decide) (by rw [hl]; decide)), hb1, (by rw [getD_set _ _ _ (by decide)]; exact rq), gQ⟩)
    · have hk3 := hk
      have ea := (hF.done 6 (212, SP.is (.pointer (some ⟨q, 3 + k * 70, none⟩))) (by rw [hD]; rfl) (ready_dep hk 6 (by kernel_rfl)))
      exact wpOp_plain rfl rfl (wp_load_mid tRL (.tmp 212) rfl q (3 + k * 70) ea L _ (by { have rq2 : Row W q PC tPr := (by rwa [if_neg (fun h => not_yet hk (hdn 11 h 7 (by kernel_rfl)))] at rq); exact rq2.range (3 + k * 70) _ HRG.out }) Try.underlying44 rfl HIL.out ⟨hl2 7, (hF.put 7 213 (SP.is (.agg L.toArray)) (.agg L.toArray) (by rw [hD]; rfl) rfl (by rw [hD]; rfl) (by rw [hsz]; decide) (by rw [hl]; decide)), hb1, (by rw [getD_set _ _ _ (by decide)]; exact rq), gQ⟩)
    · have hk3 := hk
      have ea := (hF.done 0 (206, SP.is (.pointer (some ⟨q, 0, none⟩))) (by rw [hD]; rfl) (ready_dep hk 0 (by kernel_rfl)))
      exact wpOp_plain rfl rfl (wp_nilL rfl q ea ⟨hl2 8, (hF.put 8 214 (SP.is (.pointer (some ⟨q, 0, none⟩))) (.pointer (some ⟨q, 0, none⟩)) (by rw [hD]; rfl) rfl (by rw [hD]; rfl) (by rw [hsz]; decide) (by rw [hl]; decide)), hb1, (by rw [getD_set _ _ _ (by decide)]; exact rq), gQ⟩)
    · have hk3 := hk
      have ea := (hF.done 8 (214, SP.is (.pointer (some ⟨q, 0, none⟩))) (by rw [hD]; rfl) (ready_dep hk 8 (by kernel_rfl)))
      exact wpOp_plain rfl rfl (wp_fPr1 rfl q ea ⟨hl2 9, (hF.put 9 215 (SP.is (.pointer (some ⟨q, 3, none⟩))) (.pointer (some ⟨q, 3, none⟩)) (by rw [hD]; rfl) rfl (by rw [hD]; rfl) (by rw [hsz]; decide) (by rw [hl]; decide)), hb1, (by rw [getD_set _ _ _ (by decide)]; exact rq), gQ⟩)
    · have hk3 := hk
      have ea := (hF.done 9 (215, SP.is (.pointer (some ⟨q, 3, none⟩))) (by rw [hD]; rfl) (ready_dep hk 9 (by kernel_rfl)))
      have eb := (hF.done 1 (207, SP.is (.int .i64 (j : Int))) (by rw [hD]; rfl) (ready_dep hk 1 (by kernel_rfl)))
      exact wpOp_plain rfl rfl (wp_ixO tR3 tRL rfl q 3 j 70 3 (3 + j * 70) ea eb HJ.out und_R3 info_RL rfl ⟨hl2 10, (hF.put 10 216 (SP.is (.pointer (some ⟨q, 3 + j * 70, none⟩))) (.pointer (some ⟨q, 3 + j * 70, none⟩)) (by rw [hD]; rfl) rfl (by rw [hD]; rfl) (by rw [hsz]; decide) (by rw [hl]; decide)), hb1, (by rw [getD_set _ _ _ (by decide)]; exact rq), gQ⟩)
    · have hk3 := hk
      have hno : ¬ listed.getD 11 false = true := not_yet hk
      rw [if_neg hno] at rq
      have T := rq.there (3 + j * 70) L.toArray.size HPN.out
      have fin := Row.setCells (3 + j * 70) L rq (by have := HPN.out; rwa [List.size_toArray] at this)
      have hT : Fp D a0 listed ac (W.setCells q (3 + j * 70) L) := hF.turn (by rw [hD]; simp only [List.forall_mem_cons, List.not_mem_nil, false_implies, implies_true, and_true]; exact ⟨fun _ h => h, fun _ h => h, fun _ h => h, fun _ h => h, fun _ h => h, fun _ h => h, fun _ h => h, fun _ h => h, fun _ h => h, fun _ h => h, fun _ h => h, fun _ h => h⟩)
      exact wpOp_plain rfl rfl (wp_store_mid tRL (.tmp 216) (.tmp 213) rfl q (3 + j * 70) L.toArray (hF.done 10 (216, SP.is (.pointer (some ⟨q, 3 + j * 70, none⟩))) (by rw [hD]; rfl) (ready_dep hk 10 (by kernel_rfl))) (hF.done 7 (213, SP.is (.agg L.toArray)) (by rw [hD]; rfl) (ready_dep hk 7 (by kernel_rfl))) T HLJ.out HLO.out ⟨hl2 11, (hT.skip 11 1000 (by rw [hD]; rfl) (by rw [hl]; decide)), below_setCells hb1 (by omega) _, (by rw [if_pos (getD_same (by rw [hl]; decide))]; exact fin), gQ.trans (gro_setsL W q (3 + j * 70) L)⟩)
  · clear hb1 rq gQ 
    intro listed ac W hI hr
    obtain ⟨hl, hF, hb1, rq, gQ⟩ := hI
    have hall := all_listed (by kernel_rfl) hl hr
    rw [if_pos (hall 11 (by decide))] at rq
    have h206 : ac.eval (.tmp 206) = .pointer (some ⟨q, 0, none⟩) := hF.done 0 (206, SP.is (.pointer (some ⟨q, 0, none⟩))) (by rw [hD]; rfl) (hall 0 (by decide))
    have h207 : ac.eval (.tmp 207) = .int .i64 (j : Int) := hF.done 1 (207, SP.is (.int .i64 (j : Int))) (by rw [hD]; rfl) (hall 1 (by decide))
    have h208 : ac.eval (.tmp 208) = .pointer (some ⟨q, 0, none⟩) := hF.done 2 (208, SP.is (.pointer (some ⟨q, 0, none⟩))) (by rw [hD]; rfl) (hall 2 (by decide))
    have h209 : ac.eval (.tmp 209) = .int .i64 (k : Int) := hF.done 3 (209, SP.is (.int .i64 (k : Int))) (by rw [hD]; rfl) (hall 3 (by decide))
    have h210 : ac.eval (.tmp 210) = .pointer (some ⟨q, 0, none⟩) := hF.done 4 (210, SP.is (.pointer (some ⟨q, 0, none⟩))) (by rw [hD]; rfl) (hall 4 (by decide))
    have h211 : ac.eval (.tmp 211) = .pointer (some ⟨q, 3, none⟩) := hF.done 5 (211, SP.is (.pointer (some ⟨q, 3, none⟩))) (by rw [hD]; rfl) (hall 5 (by decide))
    have h212 : ac.eval (.tmp 212) = .pointer (some ⟨q, 3 + k * 70, none⟩) := hF.done 6 (212, SP.is (.pointer (some ⟨q, 3 + k * 70, none⟩))) (by rw [hD]; rfl) (hall 6 (by decide))
    have h213 : ac.eval (.tmp 213) = .agg L.toArray := hF.done 7 (213, SP.is (.agg L.toArray)) (by rw [hD]; rfl) (hall 7 (by decide))
    have h214 : ac.eval (.tmp 214) = .pointer (some ⟨q, 0, none⟩) := hF.done 8 (214, SP.is (.pointer (some ⟨q, 0, none⟩))) (by rw [hD]; rfl) (hall 8 (by decide))
    have h215 : ac.eval (.tmp 215) = .pointer (some ⟨q, 3, none⟩) := hF.done 9 (215, SP.is (.pointer (some ⟨q, 3, none⟩))) (by rw [hD]; rfl) (hall 9 (by decide))
    have h216 : ac.eval (.tmp 216) = .pointer (some ⟨q, 3 + j * 70, none⟩) := hF.done 10 (216, SP.is (.pointer (some ⟨q, 3 + j * 70, none⟩))) (by rw [hD]; rfl) (hall 10 (by decide))
    have ea := hF.lay [(206, .pointer (some ⟨q, 0, none⟩)), (207, .int .i64 (j : Int)), (208, .pointer (some ⟨q, 0, none⟩)), (209, .int .i64 (k : Int)), (210, .pointer (some ⟨q, 0, none⟩)), (211, .pointer (some ⟨q, 3, none⟩)), (212, .pointer (some ⟨q, 3 + k * 70, none⟩)), (213, .agg L.toArray), (214, .pointer (some ⟨q, 0, none⟩)), (215, .pointer (some ⟨q, 3, none⟩)), (216, .pointer (some ⟨q, 3 + j * 70, none⟩))] (by rw [hD, hsz]; rfl) (by simp only [List.forall_mem_cons, List.not_mem_nil, false_implies, implies_true, and_true]; exact ⟨h206, h207, h208, h209, h210, h211, h212, h213, h214, h215, h216⟩)
    rw [ha0] at ea
    simp only [List.foldl_cons, List.foldl_nil, List.setIfInBounds_toArray, List.set_cons_zero, List.set_cons_succ] at ea
    clear hF hall hr hl hD  zs0 zs1 zs24 ha0 hsz h206 h207 h208 h209 h210 h211 h212 h213 h214 h215 h216
    subst ea
    have FP : Hid (Pl w0 W q B Ls2 (Es.set j (e, st)) T ts) := HP4.out.setE HJ.out HRF.out HRA.out (by rw [HPC.out, HLL.out] at rq; exact rq) gQ
    clear rq gQ hb1
    go_wp2_with fail
    go_ret
    exact ⟨by simp, p', v', by rw [← HL2.out]; exact FP.out⟩

end Go.Proofs.Ytfdbjcdcfmnicaa
