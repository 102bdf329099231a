/-
  LadderPlays: look at New.
-/
import Derived.Test.YtfdbjcdcfmnicaaLpR
namespace Go.Proofs.Ytfdbjcdcfmnicaa
open Go Go.RowKit
open Sha

set_option maxRecDepth 100000 in
set_option maxHeartbeats 16000000 in
theorem look_new_ok {w0 w : World} {q : Nat} {B : Int} {Ls : List (Nat × Value × La)} {Es : List (Value × La)} {T : Value} {ts : List (Value × Nat)} (h : Pl w0 w q B Ls Es T ts) {k p : Nat} {v e : Value} {st : La} (hk : Ls[k]? = some (p, v, st)) (he : Es[k]? = some (e, st)) (s : Sp16) (hs : s.Ok) (hB0 : 0 ≤ B) (hnew : newE s.c s.wd = 0) (hkd : s.kd = 12) (S : List Value) (hS : S = s.cells) :
    Calls Try.prog 18 #[.pointer (some ⟨q, 0, none⟩), .int .i64 (k : Int), .agg S.toArray] w fun r w' => r = .returned (.bool true) ∧ ∃ p' v' st', Pl w0 w' q B (Ls.set k (p', v', st')) (Es.set k (.slice none 0 0, st')) T ts := by
  have HWD : Hid (S[93]? = some (.int .i64 s.wd)) := by rw [hS]; exact Sp16.at_wd hs
  obtain ⟨Lc, hLc⟩ : ∃ M, M = s.c.cells := ⟨_, rfl⟩
  have HIC : Hid ((Try.prog.info? tC).map (·.size) = some Lc.length) := by show _ = _; rw [hLc]; exact Cm.info hs.c
  have HRC : Hid (∀ (j : Nat) (u : Value), Lc[j]? = some u → S[3 + j]? = some u) := fun j u hj => by rw [hS]; rw [hLc] at hj; exact Sp16.c_range s j u hj
  obtain ⟨E, hE⟩ : ∃ E, newE s.c s.wd = E := ⟨_, rfl⟩
  obtain ⟨Lz, hLz⟩ : ∃ M, M = newV s.c s.wd := ⟨_, rfl⟩
  rw [hnew] at hE
  subst hE
  have hz2 : Lz = (La0 s.c s.wd).dc (.slice none 0 0) := by rw [hLz]; unfold newV; rw [if_pos hnew]
  have hok0 : (La0 s.c s.wd).Ok B := by
    unfold newE at hnew
    split at hnew
    · rename_i hm
      split at hnew
      · rename_i hw
        exact La0_ok hs.c ((mayB_iff _).1 hm) hw.1 hw.2 hB0
      · cases hnew
    · cases hnew
  have HOK : Hid ((La0 s.c s.wd).Ok B) := hok0
  have HLZ : Hid (Lz = (La0 s.c s.wd).dc (.slice none 0 0)) := hz2
  have HZN : Hid (Lz.length = 70) := by show _ = _; rw [hz2]; exact La.dlen hs.c _
  have HZO : Hid (Lz.toArray.all (·.oneCell') = true) := by show _ = _; rw [hz2]; exact all_one (La.done _ _ _ _)
  have HNW : Hid (∀ W, Calls Try.prog 21 #[.agg Lc.toArray, .int .i64 s.wd] W fun e w' => ∃ p, e = .returned (.tuple #[.pointer (some ⟨p, 0, none⟩), .int .i64 0]) ∧ Ld w' p (.slice none 0 0) B (La0 s.c s.wd) ∧ W.heap.size ≤ p ∧ Below W.heap.size W w') := fun W => new_ok s.c hs.c s.wd Lc hLc hnew hB0 W
  have HRN : Hid (∀ W, Calls Try.prog 55 #[.agg Lc.toArray, .int .i64 s.wd] W fun e w' => e = .returned (.tuple #[.agg Lz.toArray, .int .i64 0]) ∧ Below W.heap.size W w') := fun W => by rw [hLz]; exact rnew_any s.c hs.c s.wd Lc hLc 0 hnew W
  clear hz2 hok0
  have HZI : Hid ((Try.prog.info? tRL).map (·.size) = some Lz.length) := by show _ = _; rw [HZN.out]; exact info_RL
  have hk3 : k < 3 := by have := (List.getElem?_eq_some_iff.1 hk).1; rw [h.l3] at this; exact this
  have HK3 : Hid (k < 3) := hk3
  have HPL : Hid (Pl w0 w q B Ls Es T ts) := h
  have HLK : Hid (Ls[k]? = some (p, v, st)) := hk
  have HEK : Hid (Es[k]? = some (e, st)) := he
  have HNR : Hid (S[91]? = some (.int .i64 s.nr)) := by rw [hS]; exact Sp16.at_nr hs
  have HKD : Hid (S[0]? = some (.int .i64 12)) := by rw [hS, ← hkd]; exact Sp16.at_kd s
  have HCP0 : Hid (∀ W, Pl w0 W q B Ls Es T ts → W.cell? ⟨q, k, none⟩ = some (.pointer (some ⟨p, 0, none⟩))) := fun W hP => hP.row.cell k _ (prc_p (by rw [List.getElem?_map, hk]; rfl))
  obtain ⟨L, hL⟩ : ∃ L, L = st.dc e := ⟨_, rfl⟩
  have HIL : Hid ((Try.prog.info? tRL).map (·.size) = some L.length) := by show _ = _; rw [hL]; exact La.dinfo (h.rf _ (List.mem_of_getElem? he)).ok.cf _
  have HRD0 : Hid (∀ W, Pl w0 W q B Ls Es T ts → W.rangeAt q (3 + k * 70) L) := fun W hP => hP.row.range (3 + k * 70) _ (fun j u hj => prc_d (by rw [List.length_map]; exact hP.l3) hP.d70 (by rw [List.getElem?_map, he]; rfl) j u (by rw [hL] at hj; exact hj))
  clear hLc hLz hnew hB0
  clear h hk he hs hkd hS hk3 hL
  go_enter Try.func18, Try.ntmps18
  go_upto_region 34 with (refine wpList_bxG tSt rfl (.tmp 2) rfl S rfl ?_; intro X1 q1 q2 q3; clear q3; have ck : X1.cell? ⟨w.heap.size, 0, none⟩ = some (.int .i64 12) := q1.cell 0 _ HKD.out; have RS : Hid (Row X1 w.heap.size S tSt) := q1; have HP1 : Hid (Pl w0 X1 q B Ls Es T ts) := HPL.out.below q2; clear q1 q2; simp only [Act.put, List.setIfInBounds_toArray, List.set_cons_zero, List.set_cons_succ])
  obtain ⟨bS, hbS⟩ : ∃ b, b = w.heap.size := ⟨_, rfl⟩
  rw [← hbS] at RS ⊢
  clear hbS ck HPL
  have rs1 := RS.out
  have cw1 : X1.cell? ⟨bS, 93, none⟩ = some (.int .i64 s.wd) := rs1.cell 93 _ HWD.out
  clear rs1
  go_upto_region 35 with (first
        | (refine wpList_ldS rfl tC (.tmp 220) rfl bS 3 rfl Lc _ (RS.out.range 3 _ HRC.out) Try.underlying25 rfl HIC.out ?_; simp only [Act.put, List.setIfInBounds_toArray, List.set_cons_zero, List.set_cons_succ])
        | (go_at_call 21; refine Calls.mono (HNW.out _) ?_; rintro r X2 ⟨p', rfl, q1, q2, q3⟩; have HP2 : Hid (Pl w0 X2 q B Ls Es T ts) := HP1.out.below q3; have D2 : Hid (Ld X2 p' (.slice none 0 0) B (La0 s.c s.wd)) := q1; have N2 : Hid (∀ g, Tb p' (.slice none 0 0) g → X1.heap.size ≤ g) := (fun g z => by { rcases z with z | z; rw [z]; exact q2; cases z }); have RS2 : Hid (Row X2 bS S tSt) := Row.below RS.out q3 RS.out.lt; clear q1 q2 q3 cw1))
  have cw2 : X2.cell? ⟨bS, 93, none⟩ = some (.int .i64 s.wd) := RS2.out.cell 93 _ HWD.out
  go_upto_region 36 with (first
        | (refine wpList_ldS rfl tC (.tmp 228) rfl bS 3 rfl Lc _ (RS2.out.range 3 _ HRC.out) Try.underlying25 rfl HIC.out ?_; simp only [Act.put, List.setIfInBounds_toArray, List.set_cons_zero, List.set_cons_succ])
        | (go_at_call 55; refine Calls.mono (HRN.out _) ?_; rintro r X3 ⟨rfl, q3⟩; have HP3 : Hid (Pl w0 X3 q B Ls Es T ts) := HP2.out.below q3; have D3 : Hid (Ld X3 p' (.slice none 0 0) B (La0 s.c s.wd)) := D2.out.be q3; clear q3)
        | (refine wpList_alRL rfl rfl ?_; intro X4 q1 q2 q3; clear q3; have RZ : Hid (Row X4 X3.heap.size zRL tRL) := q1; have HP4 : Hid (Pl w0 X4 q B Ls Es T ts) := HP3.out.below q2; have D4 : Hid (Ld X4 p' (.slice none 0 0) B (La0 s.c s.wd)) := D3.out.be q2; clear q1 q2; simp only [Act.put, List.setIfInBounds_toArray, List.set_cons_zero, List.set_cons_succ])
        | (refine wpList_stL rfl tRL (.tmp 27) (.tmp 233) rfl X3.heap.size Lz zRL tRL rfl rfl RZ.out (HZN.out.trans zRL_len.symm) HZI.out HZO.out ?_; intro X5 q1 q2; have R5 : Hid (Row X5 X3.heap.size Lz tRL) := q1; have HP5 : Hid (Pl w0 X5 q B Ls Es T ts) := HP4.out.fresh HP3.out q2 (fun g z => by { rw [z]; exact Nat.le_refl _ }); have D5 : Hid (Ld X5 p' (.slice none 0 0) B (La0 s.c s.wd)) := D4.out.gro q2 (fun g e1 z => by { have := D3.out.lt g e1; omega }); clear q1 q2 RZ; simp only [Act.put]))
  clear cw2 HNW HRN
  clear D2 D3 D4 HP2 HP3 HP4
  go_upto_region 40 with (first
        | (refine wpList_plain rfl (fun _ hK => wp_ixO tL3 tLp rfl q 3 k 1 0 k rfl rfl HK3.out und_L3 info_Lp (by omega) (hK _ _ ?_)); simp only [Act.put, List.setIfInBounds_toArray, List.set_cons_zero, List.set_cons_succ])
        | (refine wpList_st1 rfl tLp (.tmp 252) (.tmp 249) rfl q k (.pointer (some ⟨p', 0, none⟩)) (prc (Ls.map (·.1)) (Es.map fun e => e.2.dc e.1) T) tPr rfl rfl rfl HP5.out.row (by { rw [prc_len (by rw [List.length_map]; exact HP5.out.l3) (by rw [List.length_map]; exact HP5.out.e3) HP5.out.d70]; have := HK3.out; omega }) info_Lp rfl ?_; intro X6 q1 q2; have HP6 : Hid (Pl w0 X6 q B (Ls.set k (p', .slice none 0 0, La0 s.c s.wd)) Es T ts) := HP5.out.setL HP1.out HK3.out D5.out N2.out q1 q2; have R6 : Hid (Row X6 X3.heap.size Lz tRL) := q2.row R5.out (rows_ne R5.out HP5.out.row (by decide)); clear q1 q2; simp only [Act.put]))
  clear D5 N2
  obtain ⟨Ls2, hL2⟩ : ∃ l, l = Ls.set k (p', .slice none 0 0, La0 s.c s.wd) := ⟨_, rfl⟩
  rw [← hL2] at HP6
  have HL2 : Hid (Ls2 = Ls.set k (p', .slice none 0 0, La0 s.c s.wd)) := hL2
  have HZJ : Hid ((Try.prog.info? tRL).map (·.size) = some Lz.toArray.size) := by show _ = _; rw [List.size_toArray]; exact HZI.out
  obtain ⟨PC, hPC⟩ : ∃ M, M = prc (Ls2.map (·.1)) (Es.map fun e => e.2.dc e.1) T := ⟨_, rfl⟩
  have HPC : Hid (PC = prc (Ls2.map (·.1)) (Es.map fun e => e.2.dc e.1) T) := hPC
  have rq : Row X6 q PC tPr := by rw [hPC]; exact HP6.out.row
  have r27 := R6.out
  obtain ⟨bZ, hbZ⟩ : ∃ b, b = X3.heap.size := ⟨_, rfl⟩
  rw [← hbZ] at r27 ⊢
  have hne : bZ ≠ q := rows_ne r27 HP6.out.row (by decide)
  have HPN : Hid (3 + k * 70 + Lz.toArray.size ≤ PC.length) := by show _ ≤ _; rw [List.size_toArray, HZN.out, hPC, prc_len (by rw [List.length_map]; exact HP6.out.l3) (by rw [List.length_map]; exact HP6.out.e3) HP6.out.d70]; have := HK3.out; omega
  have hqn : w0.heap.size ≤ q := HP6.out.qn
  have gQ : Gro (· = q) X6 X6 := Gro.refl _ _
  have hb1 : Below w0.heap.size w0 X6 := HP6.out.be
  clear HP1 hL2 hPC R6 R5 hbZ HRD0 HWD HP5
  refine wp_named fun a0 ha0 => ?_
  have hsz : a0.tmps.size = 259 := by rw [ha0]; rfl
  have zs0 : a0.eval (.tmp 0) = .pointer (some ⟨q, 0, none⟩) := by rw [ha0]; rfl
  have zs1 : a0.eval (.tmp 1) = .int .i64 (k : Int) := by rw [ha0]; rfl
  have zs27 : a0.eval (.tmp 27) = .pointer (some ⟨bZ, 0, none⟩) := by rw [ha0]; rfl
  obtain ⟨D, hD⟩ : ∃ D : List (Tmp × SP), D = [(253, SP.is (.pointer (some ⟨q, 0, none⟩))), (254, SP.is (.int .i64 (k : Int))), (255, SP.is (.agg Lz.toArray)), (256, SP.is (.pointer (some ⟨q, 0, none⟩))), (257, SP.is (.pointer (some ⟨q, 3, none⟩))), (258, SP.is (.pointer (some ⟨q, 3 + k * 70, none⟩))), (1000, SP.any)] := ⟨_, rfl⟩
  refine wp_region_down (by kernel_rfl) (fun listed ac W => listed.size = 7 ∧ Fp D a0 listed ac W ∧ Below w0.heap.size w0 W ∧ Row W q (if listed.getD 6 false = true then (PC.take (3 + k * 70) ++ Lz ++ PC.drop (3 + k * 70 + Lz.length)) else PC) tPr ∧ Row W bZ Lz tRL ∧ Gro (· = q) X6 W) ?_ ?_ ?_
  · exact ⟨by simp, Fp.start D a0 _ _, Below.drew hb1, (by rw [if_neg (fun h => start_no h)]; exact Row.drew rq), Row.drew r27, gQ.below (Below.drew (Below.refl _ _))⟩
  · clear ha0 hb1 rq r27 gQ 
    intro listed ac W k hI hdn hk
    obtain ⟨hl, hF, hb1, rq, r27, gQ⟩ := hI
    have hk1 : k < 7 := List.mem_range.1 (List.mem_filter.1 hk).1
    have hl2 : ∀ j, (listed.setIfInBounds j true).size = 7 := fun j => by rw [Array.size_setIfInBounds]; exact hl
    rcases (show k = 0 ∨ k = 1 ∨ k = 2 ∨ k = 3 ∨ k = 4 ∨ k = 5 ∨ k = 6 by omega) with rfl | rfl | rfl | rfl | rfl | rfl | rfl
    · have hk3 := hk
      exact wpOp_plain rfl rfl (wp_move_v (ac.eval (.tmp 0)) rfl rfl ⟨hl2 0, (hF.put 0 253 (SP.is (.pointer (some ⟨q, 0, none⟩))) (ac.eval (.tmp 0)) (by rw [hD]; rfl) (((hF.keep 0 (by rw [hD]; rfl)).trans zs0)) (by rw [hD]; rfl) (by rw [hsz]; decide) (by rw [hl]; decide)), hb1, (by rw [getD_set _ _ _ (by decide)]; exact rq), r27, gQ⟩)
    · have hk3 := hk
      exact wpOp_plain rfl rfl (wp_move_v (ac.eval (.tmp 1)) rfl rfl ⟨hl2 1, (hF.put 1 254 (SP.is (.int .i64 (k : Int))) (ac.eval (.tmp 1)) (by rw [hD]; rfl) (((hF.keep 1 (by rw [hD]; rfl)).trans zs1)) (by rw [hD]; rfl) (by rw [hsz]; decide) (by rw [hl]; decide)), hb1, (by rw [getD_set _ _ _ (by decide)]; exact rq), r27, gQ⟩)
    · have hk3 := hk
      exact wpOp_plain rfl rfl (wp_load_mid tRL (.tmp 27) rfl bZ 0 ((hF.keep 27 (by rw [hD]; rfl)).trans zs27) Lz _ r27.all Try.underlying44 rfl HZI.out ⟨hl2 2, (hF.put 2 255 (SP.is (.agg Lz.toArray)) (.agg Lz.toArray) (by rw [hD]; rfl) rfl (by rw [hD]; rfl) (by rw [hsz]; decide) (by rw [hl]; decide)), hb1, (by rw [getD_set _ _ _ (by decide)]; exact rq), r27, gQ⟩)
    · have hk3 := hk
      have ea := (hF.done 0 (253, SP.is (.pointer (some ⟨q, 0, none⟩))) (by rw [hD]; rfl) (ready_dep hk 0 (by kernel_rfl)))
      exact wpOp_plain rfl rfl (wp_nilL rfl q ea ⟨hl2 3, (hF.put 3 256 (SP.is (.pointer (some ⟨q, 0, none⟩))) (.pointer (some ⟨q, 0, none⟩)) (by rw [hD]; rfl) rfl (by rw [hD]; rfl) (by rw [hsz]; decide) (by rw [hl]; decide)), hb1, (by rw [getD_set _ _ _ (by decide)]; exact rq), r27, gQ⟩)
    · have hk3 := hk
      have ea := (hF.done 3 (256, SP.is (.pointer (some ⟨q, 0, none⟩))) (by rw [hD]; rfl) (ready_dep hk 3 (by kernel_rfl)))
      exact wpOp_plain rfl rfl (wp_fPr1 rfl q ea ⟨hl2 4, (hF.put 4 257 (SP.is (.pointer (some ⟨q, 3, none⟩))) (.pointer (some ⟨q, 3, none⟩)) (by rw [hD]; rfl) rfl (by rw [hD]; rfl) (by rw [hsz]; decide) (by rw [hl]; decide)), hb1, (by rw [getD_set _ _ _ (by decide)]; exact rq), r27, gQ⟩)
    · have hk3 := hk
      have ea := (hF.done 4 (257, SP.is (.pointer (some ⟨q, 3, none⟩))) (by rw [hD]; rfl) (ready_dep hk 4 (by kernel_rfl)))
      have eb := (hF.done 1 (254, SP.is (.int .i64 (k : Int))) (by rw [hD]; rfl) (ready_dep hk 1 (by kernel_rfl)))
      exact wpOp_plain rfl rfl (wp_ixO tR3 tRL rfl q 3 k 70 3 (3 + k * 70) ea eb HK3.out und_R3 info_RL rfl ⟨hl2 5, (hF.put 5 258 (SP.is (.pointer (some ⟨q, 3 + k * 70, none⟩))) (.pointer (some ⟨q, 3 + k * 70, none⟩)) (by rw [hD]; rfl) rfl (by rw [hD]; rfl) (by rw [hsz]; decide) (by rw [hl]; decide)), hb1, (by rw [getD_set _ _ _ (by decide)]; exact rq), r27, gQ⟩)
    · have hk3 := hk
      have hno : ¬ listed.getD 6 false = true := not_yet hk
      rw [if_neg hno] at rq
      have T := rq.there (3 + k * 70) Lz.toArray.size HPN.out
      have fin := Row.setCells (3 + k * 70) Lz rq (by have := HPN.out; rwa [List.size_toArray] at this)
      have hT : Fp D a0 listed ac (W.setCells q (3 + k * 70) Lz) := hF.turn (by rw [hD]; simp only [List.forall_mem_cons, List.not_mem_nil, false_implies, implies_true, and_true]; exact ⟨fun _ h => h, fun _ h => h, fun _ h => h, fun _ h => h, fun _ h => h, fun _ h => h, fun _ h => h⟩)
      exact wpOp_plain rfl rfl (wp_store_mid tRL (.tmp 258) (.tmp 255) rfl q (3 + k * 70) Lz.toArray (hF.done 5 (258, SP.is (.pointer (some ⟨q, 3 + k * 70, none⟩))) (by rw [hD]; rfl) (ready_dep hk 5 (by kernel_rfl))) (hF.done 2 (255, SP.is (.agg Lz.toArray)) (by rw [hD]; rfl) (ready_dep hk 2 (by kernel_rfl))) T HZJ.out HZO.out ⟨hl2 6, (hT.skip 6 1000 (by rw [hD]; rfl) (by rw [hl]; decide)), below_setCells hb1 (by omega) _, (by rw [if_pos (getD_same (by rw [hl]; decide))]; exact fin), Row.setCells_other r27 _ _ _ (by omega), gQ.trans (gro_setsL W q (3 + k * 70) Lz)⟩)
  · clear hb1 rq r27 gQ 
    intro listed ac W hI hr
    obtain ⟨hl, hF, hb1, rq, r27, gQ⟩ := hI
    have hall := all_listed (by kernel_rfl) hl hr
    rw [if_pos (hall 6 (by decide))] at rq
    have h253 : ac.eval (.tmp 253) = .pointer (some ⟨q, 0, none⟩) := hF.done 0 (253, SP.is (.pointer (some ⟨q, 0, none⟩))) (by rw [hD]; rfl) (hall 0 (by decide))
    have h254 : ac.eval (.tmp 254) = .int .i64 (k : Int) := hF.done 1 (254, SP.is (.int .i64 (k : Int))) (by rw [hD]; rfl) (hall 1 (by decide))
    have h255 : ac.eval (.tmp 255) = .agg Lz.toArray := hF.done 2 (255, SP.is (.agg Lz.toArray)) (by rw [hD]; rfl) (hall 2 (by decide))
    have h256 : ac.eval (.tmp 256) = .pointer (some ⟨q, 0, none⟩) := hF.done 3 (256, SP.is (.pointer (some ⟨q, 0, none⟩))) (by rw [hD]; rfl) (hall 3 (by decide))
    have h257 : ac.eval (.tmp 257) = .pointer (some ⟨q, 3, none⟩) := hF.done 4 (257, SP.is (.pointer (some ⟨q, 3, none⟩))) (by rw [hD]; rfl) (hall 4 (by decide))
    have h258 : ac.eval (.tmp 258) = .pointer (some ⟨q, 3 + k * 70, none⟩) := hF.done 5 (258, SP.is (.pointer (some ⟨q, 3 + k * 70, none⟩))) (by rw [hD]; rfl) (hall 5 (by decide))
    have ea := hF.lay [(253, .pointer (some ⟨q, 0, none⟩)), (254, .int .i64 (k : Int)), (255, .agg Lz.toArray), (256, .pointer (some ⟨q, 0, none⟩)), (257, .pointer (some ⟨q, 3, none⟩)), (258, .pointer (some ⟨q, 3 + k * 70, none⟩))] (by rw [hD, hsz]; rfl) (by simp only [List.forall_mem_cons, List.not_mem_nil, false_implies, implies_true, and_true]; exact ⟨h253, h254, h255, h256, h257, h258⟩)
    rw [ha0] at ea
    simp only [List.foldl_cons, List.foldl_nil, List.setIfInBounds_toArray, List.set_cons_zero, List.set_cons_succ] at ea
    clear hF hall hr hl hD  zs0 zs1 zs27 ha0 hsz h253 h254 h255 h256 h257 h258
    subst ea
    have FP : Hid (Pl w0 W q B Ls2 (Es.set k (.slice none 0 0, La0 s.c s.wd)) T ts) := HP6.out.setE HK3.out ⟨Lo.nil _ _ _, HOK.out⟩ (fun g z => by cases z) (by rw [HPC.out, HLZ.out] at rq; exact rq) gQ
    clear rq r27 gQ hb1
    go_wp2_with fail
    go_ret
    exact ⟨by simp, p', .slice none 0 0, La0 s.c s.wd, by rw [← HL2.out]; exact FP.out⟩

end Go.Proofs.Ytfdbjcdcfmnicaa
