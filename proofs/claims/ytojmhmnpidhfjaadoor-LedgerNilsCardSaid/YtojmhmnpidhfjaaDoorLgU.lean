/-
  Mint, Move.
-/
import Derived.Test.YtojmhmnpidhfjaaDoorLgT
namespace Go.Proofs.YtojmhmnpidhfjaaDoor
open Go Go.RowKit Go.Maps
open Sha
open Wd

set_option maxRecDepth 100000 in
set_option maxHeartbeats 4000000 in
theorem mint_ok (w0 : World) (S q : Nat) (f f1 f2 : ByteArray → List (BitVec 8)) (hq : q < 999970) (n b d : Nat) (hn : n < 1000000) (hnb : n + b < 1000000) (hdb : d + b < 1000000) (hb0 : b ≠ 0) (hf : f tK = 1#8 :: wB n) (who : List (BitVec 8)) (h1 : who.length = 20) (hA : (∀ q' W, q' < 1000000 → Lg w0 W S q' f → Calls Tryd.prog 35 #[.agg #[.pointer (some ⟨S, 0, none⟩), .int .u8 5], .string (bK who)] W fun e w' => e = .returned (.tuple #[.agg (sm (d : Int)), .int .i64 0]) ∧ Lg w0 w' S (q' + 1) f ∧ Kp W w')) (hf1 : f1 = upd f tK (1#8 :: wB (n + b))) (hf2 : f2 = upd f1 (bK who) (wB (d + b))) (LA : List Value) (hLA : LA = [.int .u64 (b : Int), .int .u64 0, .int .u64 0, .int .u64 0]) (w : World) (h : Lg w0 w S q f) :
    Calls Tryd.prog 9 #[.pointer (some ⟨S, 0, none⟩), .int .i64 5, .agg (vB who).toArray, .agg LA.toArray] w fun e w' => e = .returned (.int .i64 0) ∧ Lg w0 w' S (q + 4) f2 ∧ Kp w w' := by
  obtain ⟨LP, hLP⟩ : ∃ L : List Value, L = [.pointer (some ⟨S, 0, none⟩), .int .u8 5] := ⟨_, rfl⟩
  obtain ⟨LT, hLT⟩ : ∃ L : List Value, L = [.bool true, .bool false, .int .u64 (n : Int), .int .u64 0, .int .u64 0, .int .u64 0] := ⟨_, rfl⟩
  obtain ⟨LS, hLS⟩ : ∃ L : List Value, L = [.int .u64 (n : Int), .int .u64 0, .int .u64 0, .int .u64 0] := ⟨_, rfl⟩
  obtain ⟨LU, hLU⟩ : ∃ L : List Value, L = [.int .u64 ((n + b : Nat) : Int), .int .u64 0, .int .u64 0, .int .u64 0] := ⟨_, rfl⟩
  obtain ⟨N0, heN0⟩ : ∃ L : List Value, L = [.string (bK who), .int .u64 ((d + b : Nat) : Int), .int .u64 0, .int .u64 0, .int .u64 0] := ⟨_, rfl⟩
  have HPE : Hid (LP = [.pointer (some ⟨S, 0, none⟩), .int .u8 5]) := hLP
  have HPI : Hid ((Tryd.prog.info? 61).map (·.size) = some LP.length) := by show _ = _; rw [hLP]; exact info_pg
  have HPN : Hid (LP.length = zP.length) := by show _ = _; rw [hLP]; rfl
  have HPO : Hid (LP.toArray.all (·.oneCell') = true) := pg_one hLP
  have HLTE : Hid (LT = [.bool true, .bool false, .int .u64 (n : Int), .int .u64 0, .int .u64 0, .int .u64 0]) := hLT
  have HLTI : Hid ((Tryd.prog.info? 33).map (·.size) = some LT.length) := by show _ = _; rw [hLT]; exact info_tok
  have HLTN : Hid (LT.length = zK.length) := by show _ = _; rw [hLT]; rfl
  have HLTO : Hid (LT.toArray.all (·.oneCell') = true) := tok_one hLT
  have HLAE : Hid (LA = [.int .u64 (b : Int), .int .u64 0, .int .u64 0, .int .u64 0]) := hLA
  have HLAI : Hid ((Tryd.prog.info? 26).map (·.size) = some LA.length) := by show _ = _; rw [hLA]; exact info_w4l
  have HLAJ : Hid ((Tryd.prog.info? 26).map (·.size) = some LA.toArray.size) := by show _ = _; rw [List.size_toArray, hLA]; exact info_w4l
  have HLAN : Hid (LA.length = zW.length) := by show _ = _; rw [hLA]; rfl
  have HLAO : Hid (LA.toArray.all (·.oneCell') = true) := by show _ = true; rw [hLA, ← Array.all_toList]; rfl
  have HLSE : Hid (LS = [.int .u64 (n : Int), .int .u64 0, .int .u64 0, .int .u64 0]) := hLS
  have HLSI : Hid ((Tryd.prog.info? 26).map (·.size) = some LS.length) := by show _ = _; rw [hLS]; exact info_w4l
  have HLSJ : Hid ((Tryd.prog.info? 26).map (·.size) = some LS.toArray.size) := by show _ = _; rw [List.size_toArray, hLS]; exact info_w4l
  have HLSN : Hid (LS.length = zW.length) := by show _ = _; rw [hLS]; rfl
  have HLSO : Hid (LS.toArray.all (·.oneCell') = true) := by show _ = true; rw [hLS, ← Array.all_toList]; rfl
  have HLUE : Hid (LU = [.int .u64 ((n + b : Nat) : Int), .int .u64 0, .int .u64 0, .int .u64 0]) := hLU
  have HLUI : Hid ((Tryd.prog.info? 26).map (·.size) = some LU.length) := by show _ = _; rw [hLU]; exact info_w4l
  have HLUJ : Hid ((Tryd.prog.info? 26).map (·.size) = some LU.toArray.size) := by show _ = _; rw [List.size_toArray, hLU]; exact info_w4l
  have HLUN : Hid (LU.length = zW.length) := by show _ = _; rw [hLU]; rfl
  have HLUO : Hid (LU.toArray.all (·.oneCell') = true) := by show _ = true; rw [hLU, ← Array.all_toList]; rfl
  have HEN0 : Hid (N0 = [.string (bK who), .int .u64 ((d + b : Nat) : Int), .int .u64 0, .int .u64 0, .int .u64 0]) := heN0
  have HIN0 : Hid ((Tryd.prog.info? 68).map (·.size) = some N0.length) := by show _ = _; rw [heN0]; exact info_line
  have HJN0 : Hid ((Tryd.prog.info? 68).map (·.size) = some N0.toArray.size) := by show _ = _; rw [List.size_toArray, heN0]; exact info_line
  have HNN0 : Hid (N0.length = zL.length) := by show _ = _; rw [heN0]; rfl
  have HON0 : Hid (N0.toArray.all (·.oneCell') = true) := line_one heN0
  have Hwho : Hid (who.length = 20) := h1
  have HIw : Hid ((Tryd.prog.info? 23).map (·.size) = some (vB who).length) := info_adr h1
  have HQ : Hid (q < 999970) := hq
  have HN : Hid (n < 1000000 ∧ n + b < 1000000 ∧ d + b < 1000000 ∧ b ≠ 0) := ⟨hn, hnb, hdb, hb0⟩
  have HF : Hid (f tK = 1#8 :: wB n) := hf
  have HF1 : Hid (f1 = _) := hf1
  have HF2 : Hid (f2 = _) := hf2
  have HAA : Hid _ := hA
  have HG : Hid (Lg w0 w S q f) := h
  have HW0 : Hid (w0.heap.size ≤ w.heap.size) := h.bel.size
  have HAD : Hid (∀ W, Calls Tryd.prog 28 #[.agg LS.toArray, .agg LA.toArray] W fun e w' => e = .returned (.tuple #[.agg LU.toArray, .int .i64 0]) ∧ Below W.heap.size W w') := fun W => by rw [hLS, hLA, hLU]; exact addS n b hnb W
  clear hLP hLT hLS hLU heN0 hLA h1 hq hn hnb hdb hb0 hf hf1 hf2 hA h
  go_enter Tryd.func9, Tryd.ntmps9
  go_wp2_with (first
    | (refine wpList_boxG 23 rfl (.tmp 2) rfl (vB who) rfl ?_; intro X0 q1 q2 q3; have Q0 : Hid (Row X0 _ (vB who) 23) := q1; have B0 : Hid (Below _ _ X0) := q2; clear q1 q2 q3; simp only [Act.put, List.setIfInBounds_toArray, List.set_cons_zero, List.set_cons_succ])
    | (refine wpList_boxG 26 rfl (.tmp 3) rfl LA rfl ?_; intro X1 q1 q2 q3; have Q1 : Hid (Row X1 _ LA 26) := q1; have B1 : Hid (Below _ _ X1) := q2; clear q1 q2 q3; simp only [Act.put, List.setIfInBounds_toArray, List.set_cons_zero, List.set_cons_succ]))
  obtain ⟨b6, hb6⟩ : ∃ b, b = w.heap.size := ⟨_, rfl⟩
  obtain ⟨b7, hb7⟩ : ∃ b, b = X0.heap.size := ⟨_, rfl⟩
  have c00 := B0.out
  have c01 := c00.trans (B1.out.mono c00.size)
  have c11 := B1.out
  have R6 : Hid (Row X1 b6 (vB who) 23) := by rw [hb6]; exact Row.below Q0.out c11 Q0.out.lt
  have HWb6 : Hid (w.heap.size ≤ b6) := by show _ ≤ _; rw [hb6]; exact Nat.le_refl _
  have R7 : Hid (Row X1 b7 LA 26) := by rw [hb7]; exact Q1.out
  have HWb7 : Hid (w.heap.size ≤ b7) := by show _ ≤ _; rw [hb7]; exact c00.size
  have Nb6b7 : Hid (b6 ≠ b7) := by show _ ≠ _; have := Q0.out.lt; rw [hb6, hb7]; omega
  have BX : Hid (Below w.heap.size w X1) := c01
  rw [← hb6, ← hb7]
  clear hb6 hb7 c00 c01 c11 Q0 B0 Q1 B1
  replace HG : Hid (Lg w0 X1 S q f) := HG.out.be BX.out
  have HK : Hid (Kp w X1) := Kp.of_below BX.out
  clear BX
  refine Calls.mono (askRun w0 S q f (by have := HQ.out; omega) n HN.out.1 HF.out LP LT HPE.out HLTE.out X1 HG.out) ?_
  rintro e V ⟨rfl, hG, hK⟩
  replace R6 : Hid (Row V b6 (vB who) 23) := hK.row _ _ _ (by decide) R6.out
  replace R7 : Hid (Row V b7 LA 26) := hK.row _ _ _ (by decide) R7.out
  replace HG : Hid (Lg w0 V S (q + 1) f) := hG
  replace HK : Hid (Kp w V) := HK.out.trans hK
  clear hG hK
  go_upto_region 2 with (first
    | (refine wpList_allocP rfl rfl ?_; intro XP q1 q2 q3; have RP1 : Hid (Row XP V.heap.size zP 61) := q1; have BP : Hid (Below V.heap.size V XP) := q2; have NE12 : Hid (XP.heap.size ≠ V.heap.size) := (by show _ ≠ _; rw [q3]; omega); clear q1 q2 q3; simp only [Act.put, List.setIfInBounds_toArray, List.set_cons_zero, List.set_cons_succ])
    | (refine wpList_allocK rfl rfl ?_; intro XK q1 q2 q3; have RK1 : Hid (Row XK XP.heap.size zK 33) := q1; have BK : Hid (Below XP.heap.size XP XK) := q2; have RP2 : Hid (Row XK V.heap.size zP 61) := Row.below RP1.out q2 RP1.out.lt; clear q1 q2 q3; simp only [Act.put, List.setIfInBounds_toArray, List.set_cons_zero, List.set_cons_succ])
    | (refine wpList_storeL rfl 61 (.tmp 9) (.tmp 18) rfl V.heap.size LP zP 61 rfl rfl RP2.out HPN.out HPI.out HPO.out ?_; intro YP q1 q2; have HYP : Hid (YP = _) := q1; have RYP : Hid (Row YP V.heap.size LP 61) := q2; have RK2 : Hid (Row YP XP.heap.size zK 33) := (by rw [q1]; exact Row.setCells_other RK1.out _ _ _ NE12.out); clear q1 q2; simp only [Act.put])
    | (refine wpList_storeL rfl 33 (.tmp 10) (.tmp 19) rfl XP.heap.size LT zK 33 rfl rfl RK2.out HLTN.out HLTI.out HLTO.out ?_; intro YK q1 q2; have HYK : Hid (YK = _) := q1; have RYK : Hid (Row YK XP.heap.size LT 33) := q2; clear q1 q2; simp only [Act.put]))
  obtain ⟨p1, hp1⟩ : ∃ p, p = V.heap.size := ⟨_, rfl⟩
  obtain ⟨p2, hp2⟩ : ∃ p, p = XP.heap.size := ⟨_, rfl⟩
  have b12 : Below V.heap.size V YK := by rw [HYK.out, HYP.out]; exact below_setCells (below_setCells (BP.out.trans (BK.out.mono BP.out.size)) (Nat.le_refl _) _) BP.out.size _
  have R1 : Hid (Row YK p1 LP 61) := by rw [HYK.out, hp1]; exact Row.setCells_other RYP.out _ _ _ (Ne.symm NE12.out)
  have R2 : Hid (Row YK p2 LT 33) := by rw [hp2]; exact RYK.out
  have h12 : p1 ≠ p2 := by rw [hp1, hp2]; exact Ne.symm NE12.out
  have H12 : Hid (p1 ≠ p2) := h12
  have HP1 : Hid (p1 = V.heap.size) := hp1
  have HP2 : Hid (V.heap.size ≤ p2) := by rw [hp2]; exact BP.out.size
  rw [← hp1, ← hp2]
  clear hp1 hp2 h12 BP BK RP1 RP2 RK1 RK2 NE12 HYP RYP HYK RYK
  replace R6 : Hid (Row YK b6 (vB who) 23) := Row.below R6.out b12 R6.out.lt
  replace R7 : Hid (Row YK b7 LA 26) := Row.below R7.out b12 R7.out.lt
  replace HG : Hid (Lg w0 YK S (q + 1) f) := HG.out.be b12
  replace HK : Hid (Kp w YK) := HK.out.trans (Kp.of_below b12)
  have RS : Hid (YK.rangeAt p2 2 LS) := by show World.rangeAt _ _ _ _; rw [HLSE.out]; exact tok_am HLTE.out R2.out
  have RA7 : Hid (YK.rangeAt b7 0 LA) := R7.out.all
  clear b12
  go_wp2_with (first
    | (refine wpList_load_w rfl 26 (.tmp 25) rfl p2 2 rfl LS _ RS.out Tryd.underlying26 rfl HLSI.out ?_; simp only [Act.put, List.setIfInBounds_toArray, List.set_cons_zero, List.set_cons_succ])
    | (refine wpList_load_w rfl 26 (.tmp 7) rfl b7 0 rfl LA _ RA7.out Tryd.underlying26 rfl HLAI.out ?_; simp only [Act.put, List.setIfInBounds_toArray, List.set_cons_zero, List.set_cons_succ]))
  refine Calls.mono (HAD.out YK) ?_
  rintro e V2 ⟨rfl, hB⟩
  replace R1 : Hid (Row V2 p1 LP 61) := Row.below R1.out hB R1.out.lt
  replace R2 : Hid (Row V2 p2 LT 33) := Row.below R2.out hB R2.out.lt
  replace R6 : Hid (Row V2 b6 (vB who) 23) := Row.below R6.out hB R6.out.lt
  replace R7 : Hid (Row V2 b7 LA 26) := Row.below R7.out hB R7.out.lt
  replace HG : Hid (Lg w0 V2 S (q + 1) f) := HG.out.be hB
  replace HK : Hid (Kp w V2) := HK.out.trans (Kp.of_below hB)
  obtain ⟨b12', hb12'⟩ : ∃ b, b = V2.heap.size := ⟨_, rfl⟩
  have HB12 : Hid (b12' = V2.heap.size) := hb12'
  clear hB hb12' RS RA7
  go_upto_region 7 with (first
    | (refine wpList_allocW rfl rfl ?_; intro X12 q1 q2 q3; have Q12 : Hid (Row X12 _ zW 26) := q1; have B12 : Hid (Below _ _ X12) := q2; clear q1 q2 q3; simp only [Act.put, List.setIfInBounds_toArray, List.set_cons_zero, List.set_cons_succ])
    | (refine wpList_storeL rfl 26 (.tmp 12) (.tmp 29) rfl V2.heap.size LU zW 26 rfl rfl Q12.out HLUN.out HLUI.out HLUO.out ?_; intro Y12 q1 q2; have HY12 : Hid (Y12 = _) := q1; have RY12 : Hid (Row Y12 V2.heap.size LU 26) := q2; clear q1 q2; simp only [Act.put]))
  rw [← HB12.out] at RY12 HY12
  rw [← HB12.out]
  have c12 : Below V2.heap.size V2 Y12 := by rw [HY12.out]; exact below_setCells B12.out (by rw [HB12.out]; exact Nat.le_refl _) _
  have rp := Row.below R1.out c12 R1.out.lt
  have r2 := Row.below R2.out c12 R2.out.lt
  have r6 := Row.below R6.out c12 R6.out.lt
  have rq := Row.below R7.out c12 R7.out.lt
  have r12 := RY12.out
  have hG := HG.out.be c12
  have hK := HK.out.trans (Kp.of_below c12)
  have hw0 : w0.heap.size ≤ Y12.heap.size := hG.bel.size
  have hwf : w.heap.size ≤ Y12.heap.size := hK.size
  have hb1 := Below.refl Y12.heap.size Y12
  clear c12 R1 R2 R6 R7 RY12 HY12 B12 Q12 HG HK HB12
  refine wp_named fun a0 ha0 => ?_
  have hsz : a0.tmps.size = 50 := by rw [ha0]; rfl
  have zs9 : a0.eval (.tmp 9) = .pointer (some ⟨p1, 0, none⟩) := by rw [ha0]; rfl
  have zs6 : a0.eval (.tmp 6) = .pointer (some ⟨b6, 0, none⟩) := by rw [ha0]; rfl
  have zs7 : a0.eval (.tmp 7) = .pointer (some ⟨b7, 0, none⟩) := by rw [ha0]; rfl
  have lt_rp : p1 < Y12.heap.size := rp.lt
  have lt_r2 : p2 < Y12.heap.size := r2.lt
  have lt_r6 : b6 < Y12.heap.size := r6.lt
  have lt_rq : b7 < Y12.heap.size := rq.lt
  have lt_r12 : b12' < Y12.heap.size := r12.lt
  obtain ⟨D, hD⟩ : ∃ D : List (Tmp × SP), D = [(34, SP.is (.agg LP.toArray)), (35, SP.is (.agg LP.toArray)), (36, SP.is (.agg (vB who).toArray)), (37, SP.is (.string (bK who))), (38, SP.is (.agg LA.toArray)), (39, SP.is (.tuple #[.agg N0.toArray, .int .i64 0])), (33, SP.is (.tuple #[.agg N0.toArray, .int .i64 0])), (40, SP.is (.agg N0.toArray)), (41, SP.is (.int .i64 0)), (13, SP.any), (1000, SP.any), (11, SP.is (.int .i64 0))] := ⟨_, rfl⟩
  refine wp_region_then (by kernel_rfl) 5 (by decide) (by kernel_rfl) (fun listed ac W => Fp D a0 listed ac W ∧ Below Y12.heap.size Y12 W ∧ Row W p1 LP 61 ∧ Row W p2 LT 33 ∧ Row W b6 ((vB who)) 23 ∧ Row W b7 LA 26 ∧ Row W (b12') LU 26 ∧ Lg w0 W S (q + 1) f ∧ Kp w W ∧ (listed.getD 9 false = true → ∃ N, ac.eval (.tmp 13) = .pointer (some ⟨N, 0, none⟩) ∧ Y12.heap.size ≤ N ∧ Row W N zL 68)) (fun listed ac W => Fp D a0 listed ac W ∧ Y12.heap.size ≤ W.heap.size ∧ Row W p1 LP 61 ∧ Row W p2 LT 33 ∧ Row W b6 ((vB who)) 23 ∧ Row W b7 LA 26 ∧ Row W (b12') LU 26 ∧ Lg w0 W S (q + 1 + 1) f ∧ Kp w W ∧ (listed.getD 9 false = true → ∃ N, ac.eval (.tmp 13) = .pointer (some ⟨N, 0, none⟩) ∧ Y12.heap.size ≤ N ∧ Row W N (if listed.getD 10 false = true then N0 else zL) 68)) ?_ ?_ ?_ ?_ ?_
  · exact ⟨Fp.start D a0 _ _, Below.drew hb1, Row.drew rp, Row.drew r2, Row.drew r6, Row.drew rq, Row.drew r12, hG.below (Below.drew (Below.refl _ _)), hK.below (Below.drew (Below.refl _ _)), (fun h => (start_no h).elim)⟩
  · clear ha0 hb1 rp r2 r6 rq r12 hG hK
    intro listed ac W k hl hI hdn hk hne hnl
    replace hl : listed.size = 12 := hl
    obtain ⟨hF, hb1, rp, r2, r6, rq, r12, hG, hK, al9⟩ := hI
    have hk1 : k < 12 := List.mem_range.1 (List.mem_filter.1 hk).1
    rcases (show k = 0 ∨ k = 1 ∨ k = 2 ∨ k = 3 ∨ k = 4 ∨ k = 5 ∨ k = 6 ∨ k = 7 ∨ k = 8 ∨ k = 9 ∨ k = 10 ∨ k = 11 by omega) with rfl | rfl | rfl | rfl | rfl | rfl | rfl | rfl | rfl | rfl | rfl | rfl
    · have hk3 := hk
      exact wpOp_plain rfl rfl (wp_load_mid 61 (.tmp 9) rfl p1 0 ((hF.keep 9 (by rw [hD]; rfl)).trans zs9) LP _ rp.all Tryd.underlying61 rfl HPI.out ⟨(hF.put 0 34 (SP.is (.agg LP.toArray)) (.agg LP.toArray) (by rw [hD]; rfl) rfl (by rw [hD]; rfl) (by rw [hsz]; decide) (by rw [hl]; decide)), hb1, rp, r2, r6, rq, r12, hG, hK, (fun h => by obtain ⟨N, e, hN, r⟩ := al9 (by rwa [getD_set _ _ _ (by decide)] at h); exact ⟨N, (eval_put_other ac _ (by decide)).trans e, hN, r⟩)⟩)
    · have hk3 := hk
      exact wpOp_plain rfl rfl (wp_load_mid 61 (.tmp 9) rfl p1 0 ((hF.keep 9 (by rw [hD]; rfl)).trans zs9) LP _ rp.all Tryd.underlying61 rfl HPI.out ⟨(hF.put 1 35 (SP.is (.agg LP.toArray)) (.agg LP.toArray) (by rw [hD]; rfl) rfl (by rw [hD]; rfl) (by rw [hsz]; decide) (by rw [hl]; decide)), hb1, rp, r2, r6, rq, r12, hG, hK, (fun h => by obtain ⟨N, e, hN, r⟩ := al9 (by rwa [getD_set _ _ _ (by decide)] at h); exact ⟨N, (eval_put_other ac _ (by decide)).trans e, hN, r⟩)⟩)
    · have hk3 := hk
      exact wpOp_plain rfl rfl (wp_load_mid 23 (.tmp 6) rfl b6 0 ((hF.keep 6 (by rw [hD]; rfl)).trans zs6) ((vB who)) _ r6.all Tryd.underlying23 rfl HIw.out ⟨(hF.put 2 36 (SP.is (.agg (vB who).toArray)) (.agg (vB who).toArray) (by rw [hD]; rfl) rfl (by rw [hD]; rfl) (by rw [hsz]; decide) (by rw [hl]; decide)), hb1, rp, r2, r6, rq, r12, hG, hK, (fun h => by obtain ⟨N, e, hN, r⟩ := al9 (by rwa [getD_set _ _ _ (by decide)] at h); exact ⟨N, (eval_put_other ac _ (by decide)).trans e, hN, r⟩)⟩)
    · have hk3 := hk
      have ea1 := (hF.done 1 (35, SP.is (.agg LP.toArray)) (by rw [hD]; rfl) (ready_dep hk 1 (by kernel_rfl)))
      have ea2 := (hF.done 2 (36, SP.is (.agg (vB who).toArray)) (by rw [hD]; rfl) (ready_dep hk 2 (by kernel_rfl)))
      refine wpOp_plain rfl rfl (wp_fcall_v 30 #[.agg LP.toArray, .agg (vB who).toArray] rfl rfl (by show [ac.eval (.tmp 35), ac.eval (.tmp 36)] = _; rw [show ac.eval (.tmp 35) = .agg LP.toArray from ea1, show ac.eval (.tmp 36) = .agg (vB who).toArray from ea2]) (by go_simp) (((show Calls Tryd.prog 30 #[.agg LP.toArray, .agg (vB who).toArray] W _ by rw [HPE.out]; exact bkey S who Hwho.out W)).mono ?_))
      rintro e W2 ⟨rfl, hB⟩
      exact ⟨_, rfl, ((hF.world hB).put 3 37 (SP.is (.string (bK who))) (.string (bK who)) (by rw [hD]; rfl) rfl (by rw [hD]; rfl) (by rw [hsz]; decide) (by rw [hl]; decide)), hb1.trans (hB.mono hb1.size), Row.below rp hB (Row.lt rp), Row.below r2 hB (Row.lt r2), Row.below r6 hB (Row.lt r6), Row.below rq hB (Row.lt rq), Row.below r12 hB (Row.lt r12), hG.below hB, hK.below hB, (fun h => by obtain ⟨N, e, hN, r⟩ := al9 (by rwa [getD_set _ _ _ (by decide)] at h); exact ⟨N, (eval_put_other ac _ (by decide)).trans e, hN, Row.below r hB (Row.lt r)⟩)⟩
    · have hk3 := hk
      exact wpOp_plain rfl rfl (wp_load_mid 26 (.tmp 7) rfl b7 0 ((hF.keep 7 (by rw [hD]; rfl)).trans zs7) LA _ rq.all Tryd.underlying26 rfl HLAI.out ⟨(hF.put 4 38 (SP.is (.agg LA.toArray)) (.agg LA.toArray) (by rw [hD]; rfl) rfl (by rw [hD]; rfl) (by rw [hsz]; decide) (by rw [hl]; decide)), hb1, rp, r2, r6, rq, r12, hG, hK, (fun h => by obtain ⟨N, e, hN, r⟩ := al9 (by rwa [getD_set _ _ _ (by decide)] at h); exact ⟨N, (eval_put_other ac _ (by decide)).trans e, hN, r⟩)⟩)
    · exact absurd rfl hne
    · exact absurd (ready_dep hk 5 (by kernel_rfl)) hnl
    · exact absurd (hdn 6 (ready_dep hk 6 (by kernel_rfl)) 5 (by kernel_rfl)) hnl
    · exact absurd (hdn 6 (ready_dep hk 6 (by kernel_rfl)) 5 (by kernel_rfl)) hnl
    · have hk3 := hk
      have hB : Below W.heap.size W (W.alloc (Obj.cells zL.toArray 68)) := (Below.refl _ _).alloc (Nat.le_refl _) _
      exact wpOp_plain rfl rfl (wp_allocLn rfl ⟨((hF.world hB).put 9 13 (SP.any) (.pointer (some ⟨W.heap.size, 0, none⟩)) (by rw [hD]; rfl) trivial (by rw [hD]; rfl) (by rw [hsz]; decide) (by rw [hl]; decide)), hb1.trans (hB.mono hb1.size), Row.alloc rp _, Row.alloc r2 _, Row.alloc r6 _, Row.alloc rq _, Row.alloc r12 _, hG.below hB, hK.below hB, (fun _ => ⟨W.heap.size, eval_put_same ac _ (by rw [hF.size, hsz]; decide), hb1.size, Row.new' rfl rfl⟩)⟩)
    · exact absurd (hdn 6 (hdn 7 (ready_dep hk 7 (by kernel_rfl)) 6 (by kernel_rfl)) 5 (by kernel_rfl)) hnl
    · exact absurd (hdn 6 (hdn 8 (ready_dep hk 8 (by kernel_rfl)) 6 (by kernel_rfl)) 5 (by kernel_rfl)) hnl
  · clear ha0 hb1 rp r2 r6 rq r12 hG hK
    intro listed ac W hl hI hdn hk
    replace hl : listed.size = 12 := hl
    obtain ⟨hF, hb1, rp, r2, r6, rq, r12, hG, hK, al9⟩ := hI
    have eb1 := (hF.done 0 (34, SP.is (.agg LP.toArray)) (by rw [hD]; rfl) (ready_dep hk 0 (by kernel_rfl)))
    have eb2 := (hF.done 3 (37, SP.is (.string (bK who))) (by rw [hD]; rfl) (ready_dep hk 3 (by kernel_rfl)))
    have eb3 := (hF.done 4 (38, SP.is (.agg LA.toArray)) (by rw [hD]; rfl) (ready_dep hk 4 (by kernel_rfl)))
    have hns10 : ¬ listed.getD 10 false = true := fun h => not_yet hk (hdn 6 (hdn 7 (hdn 10 h 7 (by kernel_rfl)) 6 (by kernel_rfl)) 5 (by kernel_rfl))
    refine wpOp_plain rfl rfl (wp_fcall_v 29 #[.agg LP.toArray, .string (bK who), .agg LA.toArray] rfl rfl (by show [ac.eval (.tmp 34), ac.eval (.tmp 37), ac.eval (.tmp 38)] = _; rw [show ac.eval (.tmp 34) = .agg LP.toArray from eb1, show ac.eval (.tmp 37) = .string (bK who) from eb2, show ac.eval (.tmp 38) = .agg LA.toArray from eb3]) (by go_simp) (((show Calls Tryd.prog 29 #[.agg LP.toArray, .string (bK who), .agg LA.toArray] W fun e w' => e = .returned (.tuple #[.agg N0.toArray, .int .i64 0]) ∧ Lg w0 w' S (q + 1 + 1) f ∧ Kp W w' by rw [HPE.out, HLAE.out, HEN0.out]; exact greater_ok w0 S (q + 1) f (bK who) d b HN.out.2.2.1 (fun W hW => HAA.out (q + 1) W (by have := HQ.out; omega) hW) W hG)).mono ?_))
    rintro e W2 ⟨rfl, hG2, hK2⟩
    have hT : Fp D a0 listed ac W2 := hF.turn (by rw [hD]; simp only [List.forall_mem_cons, List.not_mem_nil, false_implies, implies_true, and_true]; exact ⟨fun _ h => h, fun _ h => h, fun _ h => h, fun _ h => h, fun _ h => h, fun _ h => h, fun _ h => h, fun _ h => h, fun _ h => h, fun _ h => h, fun _ h => h, fun _ h => h⟩)
    exact ⟨_, rfl, (hT.put 5 39 (SP.is (.tuple #[.agg N0.toArray, .int .i64 0])) (_) (by rw [hD]; rfl) rfl (by rw [hD]; rfl) (by rw [hsz]; decide) (by rw [hl]; decide)), Nat.le_trans hb1.size hK2.size, hK2.row _ _ _ (by decide) rp, hK2.row _ _ _ (by decide) r2, hK2.row _ _ _ (by decide) r6, hK2.row _ _ _ (by decide) rq, hK2.row _ _ _ (by decide) r12, hG2, hK.trans hK2, (fun h => by obtain ⟨N, e, hN, r⟩ := al9 (by rwa [getD_set _ _ _ (by decide)] at h); exact ⟨N, (eval_put_other ac _ (by decide)).trans e, hN, by rw [getD_set _ _ _ (by decide), if_neg hns10]; exact hK2.row _ _ _ (by decide) r⟩)⟩
  · clear ha0 hb1 rp r2 r6 rq r12 hG hK
    intro listed ac W k hl hJ hdn hk hne hyl
    replace hl : listed.size = 12 := hl
    obtain ⟨hF, hS, rp, r2, r6, rq, r12, hG, hK, al9⟩ := hJ
    have hk1 : k < 12 := List.mem_range.1 (List.mem_filter.1 hk).1
    rcases (show k = 0 ∨ k = 1 ∨ k = 2 ∨ k = 3 ∨ k = 4 ∨ k = 5 ∨ k = 6 ∨ k = 7 ∨ k = 8 ∨ k = 9 ∨ k = 10 ∨ k = 11 by omega) with rfl | rfl | rfl | rfl | rfl | rfl | rfl | rfl | rfl | rfl | rfl | rfl
    · exact absurd (hdn 5 hyl 0 (by kernel_rfl)) (not_yet hk)
    · exact absurd (hdn 3 (hdn 5 hyl 3 (by kernel_rfl)) 1 (by kernel_rfl)) (not_yet hk)
    · exact absurd (hdn 3 (hdn 5 hyl 3 (by kernel_rfl)) 2 (by kernel_rfl)) (not_yet hk)
    · exact absurd (hdn 5 hyl 3 (by kernel_rfl)) (not_yet hk)
    · exact absurd (hdn 5 hyl 4 (by kernel_rfl)) (not_yet hk)
    · exact absurd rfl hne
    · have hk3 := hk
      exact wpOp_plain rfl rfl (wp_move_v (ac.eval (.tmp 39)) rfl rfl ⟨(hF.put 6 33 (SP.is (.tuple #[.agg N0.toArray, .int .i64 0])) (ac.eval (.tmp 39)) (by rw [hD]; rfl) ((hF.done 5 (39, SP.is (.tuple #[.agg N0.toArray, .int .i64 0])) (by rw [hD]; rfl) (ready_dep hk 5 (by kernel_rfl)))) (by rw [hD]; rfl) (by rw [hsz]; decide) (by rw [hl]; decide)), hS, rp, r2, r6, rq, r12, hG, hK, (fun h => by obtain ⟨N, e, hN, r⟩ := al9 (by rwa [getD_set _ _ _ (by decide)] at h); exact ⟨N, (eval_put_other ac _ (by decide)).trans e, hN, by rw [getD_set _ _ _ (by decide)]; exact r⟩)⟩)
    · have hk3 := hk
      exact wpOp_plain rfl rfl (wp_extract (.tmp 33) 0 rfl _ (hF.done 6 (33, SP.is (.tuple #[.agg N0.toArray, .int .i64 0])) (by rw [hD]; rfl) (ready_dep hk 6 (by kernel_rfl))) (.agg N0.toArray) rfl ⟨(hF.put 7 40 (SP.is (.agg N0.toArray)) (.agg N0.toArray) (by rw [hD]; rfl) rfl (by rw [hD]; rfl) (by rw [hsz]; decide) (by rw [hl]; decide)), hS, rp, r2, r6, rq, r12, hG, hK, (fun h => by obtain ⟨N, e, hN, r⟩ := al9 (by rwa [getD_set _ _ _ (by decide)] at h); exact ⟨N, (eval_put_other ac _ (by decide)).trans e, hN, by rw [getD_set _ _ _ (by decide)]; exact r⟩)⟩)
    · have hk3 := hk
      exact wpOp_plain rfl rfl (wp_extract (.tmp 33) 1 rfl _ (hF.done 6 (33, SP.is (.tuple #[.agg N0.toArray, .int .i64 0])) (by rw [hD]; rfl) (ready_dep hk 6 (by kernel_rfl))) (.int .i64 0) rfl ⟨(hF.put 8 41 (SP.is (.int .i64 0)) (.int .i64 0) (by rw [hD]; rfl) rfl (by rw [hD]; rfl) (by rw [hsz]; decide) (by rw [hl]; decide)), hS, rp, r2, r6, rq, r12, hG, hK, (fun h => by obtain ⟨N, e, hN, r⟩ := al9 (by rwa [getD_set _ _ _ (by decide)] at h); exact ⟨N, (eval_put_other ac _ (by decide)).trans e, hN, by rw [getD_set _ _ _ (by decide)]; exact r⟩)⟩)
    · have hk3 := hk
      have hB : Below W.heap.size W (W.alloc (Obj.cells zL.toArray 68)) := (Below.refl _ _).alloc (Nat.le_refl _) _
      have hns : ¬ listed.getD 10 false = true := fun h => not_yet hk (hdn 10 h 9 (by kernel_rfl))
      exact wpOp_plain rfl rfl (wp_allocLn rfl ⟨((hF.world hB).put 9 13 (SP.any) (.pointer (some ⟨W.heap.size, 0, none⟩)) (by rw [hD]; rfl) trivial (by rw [hD]; rfl) (by rw [hsz]; decide) (by rw [hl]; decide)), Nat.le_trans hS hB.size, Row.alloc rp _, Row.alloc r2 _, Row.alloc r6 _, Row.alloc rq _, Row.alloc r12 _, hG.below hB, hK.below hB, (fun _ => ⟨W.heap.size, eval_put_same ac _ (by rw [hF.size, hsz]; decide), hS, (by rw [getD_set _ _ _ (by decide), if_neg hns]; exact Row.new' rfl rfl)⟩)⟩)
    · have hk3 := hk
      obtain ⟨N, e, hN, r⟩ := al9 (ready_dep hk 9 (by kernel_rfl))
      rw [if_neg (not_yet hk)] at r
      have hT : Fp D a0 listed ac (W.setCells N 0 N0) := hF.turn (by rw [hD]; simp only [List.forall_mem_cons, List.not_mem_nil, false_implies, implies_true, and_true]; exact ⟨fun _ h => h, fun _ h => h, fun _ h => h, fun _ h => h, fun _ h => h, fun _ h => h, fun _ h => h, fun _ h => h, fun _ h => h, fun _ h => h, fun _ h => h, fun _ h => h⟩)
      exact wpOp_plain rfl rfl (wp_store_mid 68 (.tmp 13) (.tmp 40) rfl N 0 N0.toArray e (hF.done 7 (40, SP.is (.agg N0.toArray)) (by rw [hD]; rfl) (ready_dep hk 7 (by kernel_rfl))) (r.there 0 _ (by rw [List.size_toArray, HNN0.out]; decide)) HJN0.out HON0.out ⟨(hT.skip 10 1000 (by rw [hD]; rfl) (by rw [hl]; decide)), (by rw [size_setCells]; exact hS), Row.setCells_other rp _ _ _ (by omega), Row.setCells_other r2 _ _ _ (by omega), Row.setCells_other r6 _ _ _ (by omega), Row.setCells_other rq _ _ _ (by omega), Row.setCells_other r12 _ _ _ (by omega), hG.kept r (by decide) (by decide) (by decide) (by decide) (fun k hk => heap_sets _ _ _ _ _ hk) (below_setCells hG.bel (Nat.le_trans hw0 hN) _), Kp.kept N (Nat.le_trans hwf hN) hK (fun k hk => heap_sets _ _ _ _ _ hk) (below_setCells (Below.refl 0 _) (Nat.zero_le N) _).size, (fun _ => ⟨N, e, hN, by rw [if_pos (getD_same (by rw [hl]; decide))]; exact r.over HNN0.out⟩)⟩)
    · have hk3 := hk
      exact wpOp_plain rfl rfl (wp_assign_v (ac.eval (.tmp 41)) rfl rfl ⟨(hF.put 11 11 (SP.is (.int .i64 0)) (ac.eval (.tmp 41)) (by rw [hD]; rfl) ((hF.done 8 (41, SP.is (.int .i64 0)) (by rw [hD]; rfl) (ready_dep hk 8 (by kernel_rfl)))) (by rw [hD]; rfl) (by rw [hsz]; decide) (by rw [hl]; decide)), hS, rp, r2, r6, rq, r12, hG, hK, (fun h => by obtain ⟨N, e, hN, r⟩ := al9 (by rwa [getD_set _ _ _ (by decide)] at h); exact ⟨N, (eval_put_other ac _ (by decide)).trans e, hN, by rw [getD_set _ _ _ (by decide)]; exact r⟩)⟩)
  · clear hb1 rp r2 r6 rq r12 hG hK
    intro listed ac W hl hJ hr
    replace hl : listed.size = 12 := hl
    obtain ⟨hF, hS, rp, r2, r6, rq, r12, hG, hK, al9⟩ := hJ
    have hall := all_listed (by kernel_rfl) hl hr
    obtain ⟨N9, ea13, hN9, rN9⟩ := al9 (hall 9 (by decide))
    rw [if_pos (hall 10 (by decide))] at rN9
    have h34 : ac.eval (.tmp 34) = .agg LP.toArray := hF.done 0 (34, SP.is (.agg LP.toArray)) (by rw [hD]; rfl) (hall 0 (by decide))
    have h35 : ac.eval (.tmp 35) = .agg LP.toArray := hF.done 1 (35, SP.is (.agg LP.toArray)) (by rw [hD]; rfl) (hall 1 (by decide))
    have h36 : ac.eval (.tmp 36) = .agg (vB who).toArray := hF.done 2 (36, SP.is (.agg (vB who).toArray)) (by rw [hD]; rfl) (hall 2 (by decide))
    have h37 : ac.eval (.tmp 37) = .string (bK who) := hF.done 3 (37, SP.is (.string (bK who))) (by rw [hD]; rfl) (hall 3 (by decide))
    have h38 : ac.eval (.tmp 38) = .agg LA.toArray := hF.done 4 (38, SP.is (.agg LA.toArray)) (by rw [hD]; rfl) (hall 4 (by decide))
    have h39 : ac.eval (.tmp 39) = .tuple #[.agg N0.toArray, .int .i64 0] := hF.done 5 (39, SP.is (.tuple #[.agg N0.toArray, .int .i64 0])) (by rw [hD]; rfl) (hall 5 (by decide))
    have h33 : ac.eval (.tmp 33) = .tuple #[.agg N0.toArray, .int .i64 0] := hF.done 6 (33, SP.is (.tuple #[.agg N0.toArray, .int .i64 0])) (by rw [hD]; rfl) (hall 6 (by decide))
    have h40 : ac.eval (.tmp 40) = .agg N0.toArray := hF.done 7 (40, SP.is (.agg N0.toArray)) (by rw [hD]; rfl) (hall 7 (by decide))
    have h41 : ac.eval (.tmp 41) = .int .i64 0 := hF.done 8 (41, SP.is (.int .i64 0)) (by rw [hD]; rfl) (hall 8 (by decide))
    have h11 : ac.eval (.tmp 11) = .int .i64 0 := hF.done 11 (11, SP.is (.int .i64 0)) (by rw [hD]; rfl) (hall 11 (by decide))
    have ea := hF.lay [(34, .agg LP.toArray), (35, .agg LP.toArray), (36, .agg (vB who).toArray), (37, .string (bK who)), (38, .agg LA.toArray), (39, .tuple #[.agg N0.toArray, .int .i64 0]), (33, .tuple #[.agg N0.toArray, .int .i64 0]), (40, .agg N0.toArray), (41, .int .i64 0), (13, .pointer (some ⟨N9, 0, none⟩)), (11, .int .i64 0)] (by rw [hD, hsz]; rfl) (by simp only [List.forall_mem_cons, List.not_mem_nil, false_implies, implies_true, and_true]; exact ⟨h34, h35, h36, h37, h38, h39, h33, h40, h41, ea13, h11⟩)
    rw [ha0] at ea
    simp only [List.foldl_cons, List.foldl_nil, List.setIfInBounds_toArray, List.set_cons_zero, List.set_cons_succ] at ea
    clear hF hall hr hl hD zs9 zs6 zs7 ha0 hsz h34 h35 h36 h37 h38 h39 h33 h40 h41 ea13 h11 al9 lt_rp lt_r2 lt_r6 lt_rq lt_r12
    subst ea
    obtain ⟨V3, hV⟩ : ∃ V, V = W := ⟨_, rfl⟩
    rw [← hV]
    rw [← hV] at hG hK rp r2 r12 rN9
    have HG : Hid (Lg w0 V3 S (q + 1 + 1) f) := hG
    have HK : Hid (Kp w V3) := hK
    have S1 : Hid (V3.rangeAt p1 0 LP) := rp.all
    have S2 : Hid (V3.rangeAt p2 0 LT) := r2.all
    have S12 : Hid (V3.rangeAt b12' 0 LU) := r12.all
    have S13 : Hid (V3.rangeAt N9 0 N0) := rN9.all
    have HT : Hid _ := turn_ok w0 S (q + 1 + 1) f f1 f2 (by have := HQ.out; omega) n (n + b) HN.out.2.1 (by have := HN.out.2.2.2; omega) (bK who) (bK_key Hwho.out) (d + b) HN.out.2.2.1 (by have := HN.out.2.2.2; omega) HF1.out HF2.out LP LT LU N0 HPE.out HLTE.out HLUE.out HEN0.out V3 hG
    clear hV hG hK rp r2 r6 rq r12 rN9 hS hN9 hw0 hwf
    go_wp2_with (first
      | (refine wpList_load_w rfl 61 (.tmp 9) rfl p1 0 rfl LP _ S1.out Tryd.underlying61 rfl HPI.out ?_; simp only [Act.put, List.setIfInBounds_toArray, List.set_cons_zero, List.set_cons_succ])
      | (refine wpList_load_w rfl 33 (.tmp 10) rfl p2 0 rfl LT _ S2.out Tryd.underlying33 rfl HLTI.out ?_; simp only [Act.put, List.setIfInBounds_toArray, List.set_cons_zero, List.set_cons_succ])
      | (refine wpList_load_w rfl 26 (.tmp 12) rfl b12' 0 rfl LU _ S12.out Tryd.underlying26 rfl HLUI.out ?_; simp only [Act.put, List.setIfInBounds_toArray, List.set_cons_zero, List.set_cons_succ])
      | (refine wpList_load_w rfl 68 (.tmp 13) rfl N9 0 rfl N0 _ S13.out Tryd.underlying68 rfl HIN0.out ?_; simp only [Act.put, List.setIfInBounds_toArray, List.set_cons_zero, List.set_cons_succ]))
    refine Calls.mono HT.out ?_
    rintro e V4 ⟨rfl, hG, hK⟩
    have HG4 : Hid (Lg w0 V4 S (q + 1 + 1 + 2) f2) := hG
    have HK4 : Hid (Kp w V4) := HK.out.trans hK
    clear hG hK HT
    go_wp2_with fail
    go_ret
    exact ⟨rfl, HG4.out, HK4.out⟩
set_option maxRecDepth 100000 in
set_option maxHeartbeats 4000000 in
theorem moveL_no (w0 : World) (S q : Nat) (f : ByteArray → List (BitVec 8)) (hq : q < 999970) (n : Nat) (hn : n < 1000000) (hf : f tK = 1#8 :: wB n) (fr tw : List (BitVec 8)) (h1 : fr.length = 20) (h2 : tw.length = 20) (a b : Nat) (hab : a < b) (hb : b < 1000000) (hA : (∀ q' W, q' < 1000000 → Lg w0 W S q' f → Calls Tryd.prog 35 #[.agg #[.pointer (some ⟨S, 0, none⟩), .int .u8 5], .string (bK fr)] W fun e w' => e = .returned (.tuple #[.agg (sm (a : Int)), .int .i64 0]) ∧ Lg w0 w' S (q' + 1) f ∧ Kp W w')) (LA : List Value) (hLA : LA = [.int .u64 (b : Int), .int .u64 0, .int .u64 0, .int .u64 0]) (w : World) (h : Lg w0 w S q f) :
    Calls Tryd.prog 10 #[.pointer (some ⟨S, 0, none⟩), .int .i64 5, .agg (vB fr).toArray, .agg (vB tw).toArray, .agg LA.toArray] w fun e w' => e = .returned (.int .i64 85) ∧ Lg w0 w' S (q + 2) f ∧ Kp w w' := by
  obtain ⟨LP, hLP⟩ : ∃ L : List Value, L = [.pointer (some ⟨S, 0, none⟩), .int .u8 5] := ⟨_, rfl⟩
  obtain ⟨LT, hLT⟩ : ∃ L : List Value, L = [.bool true, .bool false, .int .u64 (n : Int), .int .u64 0, .int .u64 0, .int .u64 0] := ⟨_, rfl⟩
  have HPE : Hid (LP = [.pointer (some ⟨S, 0, none⟩), .int .u8 5]) := hLP
  have HPI : Hid ((Tryd.prog.info? 61).map (·.size) = some LP.length) := by show _ = _; rw [hLP]; exact info_pg
  have HPN : Hid (LP.length = zP.length) := by show _ = _; rw [hLP]; rfl
  have HPO : Hid (LP.toArray.all (·.oneCell') = true) := pg_one hLP
  have HLTE : Hid (LT = [.bool true, .bool false, .int .u64 (n : Int), .int .u64 0, .int .u64 0, .int .u64 0]) := hLT
  have HLTI : Hid ((Tryd.prog.info? 33).map (·.size) = some LT.length) := by show _ = _; rw [hLT]; exact info_tok
  have HLTN : Hid (LT.length = zK.length) := by show _ = _; rw [hLT]; rfl
  have HLTO : Hid (LT.toArray.all (·.oneCell') = true) := tok_one hLT
  have HLAE : Hid (LA = [.int .u64 (b : Int), .int .u64 0, .int .u64 0, .int .u64 0]) := hLA
  have HLAI : Hid ((Tryd.prog.info? 26).map (·.size) = some LA.length) := by show _ = _; rw [hLA]; exact info_w4l
  have HLAJ : Hid ((Tryd.prog.info? 26).map (·.size) = some LA.toArray.size) := by show _ = _; rw [List.size_toArray, hLA]; exact info_w4l
  have HLAN : Hid (LA.length = zW.length) := by show _ = _; rw [hLA]; rfl
  have HLAO : Hid (LA.toArray.all (·.oneCell') = true) := by show _ = true; rw [hLA, ← Array.all_toList]; rfl
  have HMV : Hid (∀ W, Lg w0 W S (q + 1) f → _) := fun W hW => move_no w0 S (q + 1) f (by omega) fr tw h1 h2 a b hab hb hA LP LA hLP hLA W hW
  have HIf : Hid ((Tryd.prog.info? 23).map (·.size) = some (vB fr).length) := info_adr h1
  have HIt : Hid ((Tryd.prog.info? 23).map (·.size) = some (vB tw).length) := info_adr h2
  have HQ : Hid (q < 999970) := hq
  have HN : Hid (n < 1000000) := hn
  have HF : Hid (f tK = 1#8 :: wB n) := hf
  have HG : Hid (Lg w0 w S q f) := h
  clear hLP hLT hLA h1 h2 hq hn hf hA h hab hb
  go_enter Tryd.func10, Tryd.ntmps10
  go_wp2_with (first
    | (refine wpList_boxG 23 rfl (.tmp 2) rfl (vB fr) rfl ?_; intro X0 q1 q2 q3; have Q0 : Hid (Row X0 _ (vB fr) 23) := q1; have B0 : Hid (Below _ _ X0) := q2; clear q1 q2 q3; simp only [Act.put, List.setIfInBounds_toArray, List.set_cons_zero, List.set_cons_succ])
    | (refine wpList_boxG 23 rfl (.tmp 3) rfl (vB tw) rfl ?_; intro X1 q1 q2 q3; have Q1 : Hid (Row X1 _ (vB tw) 23) := q1; have B1 : Hid (Below _ _ X1) := q2; clear q1 q2 q3; simp only [Act.put, List.setIfInBounds_toArray, List.set_cons_zero, List.set_cons_succ])
    | (refine wpList_boxG 26 rfl (.tmp 4) rfl LA rfl ?_; intro X2 q1 q2 q3; have Q2 : Hid (Row X2 _ LA 26) := q1; have B2 : Hid (Below _ _ X2) := q2; clear q1 q2 q3; simp only [Act.put, List.setIfInBounds_toArray, List.set_cons_zero, List.set_cons_succ]))
  obtain ⟨b7, hb7⟩ : ∃ b, b = w.heap.size := ⟨_, rfl⟩
  obtain ⟨b8, hb8⟩ : ∃ b, b = X0.heap.size := ⟨_, rfl⟩
  obtain ⟨b9, hb9⟩ : ∃ b, b = X1.heap.size := ⟨_, rfl⟩
  have c00 := B0.out
  have c01 := c00.trans (B1.out.mono c00.size)
  have c02 := c01.trans (B2.out.mono c01.size)
  have c11 := B1.out
  have c12 := c11.trans (B2.out.mono c11.size)
  have c22 := B2.out
  have R7 : Hid (Row X2 b7 (vB fr) 23) := by rw [hb7]; exact Row.below Q0.out c12 Q0.out.lt
  have HWb7 : Hid (w.heap.size ≤ b7) := by show _ ≤ _; rw [hb7]; exact Nat.le_refl _
  have R8 : Hid (Row X2 b8 (vB tw) 23) := by rw [hb8]; exact Row.below Q1.out c22 Q1.out.lt
  have HWb8 : Hid (w.heap.size ≤ b8) := by show _ ≤ _; rw [hb8]; exact c00.size
  have R9 : Hid (Row X2 b9 LA 26) := by rw [hb9]; exact Q2.out
  have HWb9 : Hid (w.heap.size ≤ b9) := by show _ ≤ _; rw [hb9]; exact c01.size
  have Nb7b8 : Hid (b7 ≠ b8) := by show _ ≠ _; have := Q0.out.lt; rw [hb7, hb8]; omega
  have Nb7b9 : Hid (b7 ≠ b9) := by show _ ≠ _; have := Q0.out.lt; rw [hb7, hb9]; have := c11.size; omega
  have Nb8b9 : Hid (b8 ≠ b9) := by show _ ≠ _; have := Q1.out.lt; rw [hb8, hb9]; omega
  have BX : Hid (Below w.heap.size w X2) := c02
  rw [← hb7, ← hb8, ← hb9]
  clear hb7 hb8 hb9 c00 c01 c02 c11 c12 c22 Q0 B0 Q1 B1 Q2 B2
  replace HG : Hid (Lg w0 X2 S q f) := HG.out.be BX.out
  have HK : Hid (Kp w X2) := Kp.of_below BX.out
  clear BX
  refine Calls.mono (askRun w0 S q f (by have := HQ.out; omega) n HN.out HF.out LP LT HPE.out HLTE.out X2 HG.out) ?_
  rintro e V ⟨rfl, hG, hK⟩
  replace R7 : Hid (Row V b7 (vB fr) 23) := hK.row _ _ _ (by decide) R7.out
  replace R8 : Hid (Row V b8 (vB tw) 23) := hK.row _ _ _ (by decide) R8.out
  replace R9 : Hid (Row V b9 LA 26) := hK.row _ _ _ (by decide) R9.out
  replace HG : Hid (Lg w0 V S (q + 1) f) := hG
  replace HK : Hid (Kp w V) := HK.out.trans hK
  clear hG hK
  go_upto_region 2 with (first
    | (refine wpList_allocP rfl rfl ?_; intro XP q1 q2 q3; have RP1 : Hid (Row XP V.heap.size zP 61) := q1; have BP : Hid (Below V.heap.size V XP) := q2; have NE12 : Hid (XP.heap.size ≠ V.heap.size) := (by show _ ≠ _; rw [q3]; omega); clear q1 q2 q3; simp only [Act.put, List.setIfInBounds_toArray, List.set_cons_zero, List.set_cons_succ])
    | (refine wpList_allocK rfl rfl ?_; intro XK q1 q2 q3; have RK1 : Hid (Row XK XP.heap.size zK 33) := q1; have BK : Hid (Below XP.heap.size XP XK) := q2; have RP2 : Hid (Row XK V.heap.size zP 61) := Row.below RP1.out q2 RP1.out.lt; clear q1 q2 q3; simp only [Act.put, List.setIfInBounds_toArray, List.set_cons_zero, List.set_cons_succ])
    | (refine wpList_storeL rfl 61 (.tmp 11) (.tmp 19) rfl V.heap.size LP zP 61 rfl rfl RP2.out HPN.out HPI.out HPO.out ?_; intro YP q1 q2; have HYP : Hid (YP = _) := q1; have RYP : Hid (Row YP V.heap.size LP 61) := q2; have RK2 : Hid (Row YP XP.heap.size zK 33) := (by rw [q1]; exact Row.setCells_other RK1.out _ _ _ NE12.out); clear q1 q2; simp only [Act.put])
    | (refine wpList_storeL rfl 33 (.tmp 12) (.tmp 20) rfl XP.heap.size LT zK 33 rfl rfl RK2.out HLTN.out HLTI.out HLTO.out ?_; intro YK q1 q2; have HYK : Hid (YK = _) := q1; have RYK : Hid (Row YK XP.heap.size LT 33) := q2; clear q1 q2; simp only [Act.put]))
  obtain ⟨p1, hp1⟩ : ∃ p, p = V.heap.size := ⟨_, rfl⟩
  obtain ⟨p2, hp2⟩ : ∃ p, p = XP.heap.size := ⟨_, rfl⟩
  have b12 : Below V.heap.size V YK := by rw [HYK.out, HYP.out]; exact below_setCells (below_setCells (BP.out.trans (BK.out.mono BP.out.size)) (Nat.le_refl _) _) BP.out.size _
  have R1 : Hid (Row YK p1 LP 61) := by rw [HYK.out, hp1]; exact Row.setCells_other RYP.out _ _ _ (Ne.symm NE12.out)
  have R2 : Hid (Row YK p2 LT 33) := by rw [hp2]; exact RYK.out
  have h12 : p1 ≠ p2 := by rw [hp1, hp2]; exact Ne.symm NE12.out
  have H12 : Hid (p1 ≠ p2) := h12
  have HP1 : Hid (p1 = V.heap.size) := hp1
  have HP2 : Hid (V.heap.size ≤ p2) := by rw [hp2]; exact BP.out.size
  rw [← hp1, ← hp2]
  clear hp1 hp2 h12 BP BK RP1 RP2 RK1 RK2 NE12 HYP RYP HYK RYK
  have S7 : Hid (YK.rangeAt b7 0 (vB fr)) := (Row.below R7.out b12 R7.out.lt).all
  have S8 : Hid (YK.rangeAt b8 0 (vB tw)) := (Row.below R8.out b12 R8.out.lt).all
  have S9 : Hid (YK.rangeAt b9 0 LA) := (Row.below R9.out b12 R9.out.lt).all
  have S1 : Hid (YK.rangeAt p1 0 LP) := R1.out.all
  replace HG : Hid (Lg w0 YK S (q + 1) f) := HG.out.be b12
  replace HK : Hid (Kp w YK) := HK.out.trans (Kp.of_below b12)
  have HM : Hid _ := HMV.out YK HG.out
  clear b12 HMV
  go_wp2_with (first
    | (refine wpList_load_w rfl 61 (.tmp 11) rfl p1 0 rfl LP _ S1.out Tryd.underlying61 rfl HPI.out ?_; simp only [Act.put, List.setIfInBounds_toArray, List.set_cons_zero, List.set_cons_succ])
    | (refine wpList_load_w rfl 23 (.tmp 7) rfl b7 0 rfl (vB fr) _ S7.out Tryd.underlying23 rfl HIf.out ?_; simp only [Act.put, List.setIfInBounds_toArray, List.set_cons_zero, List.set_cons_succ])
    | (refine wpList_load_w rfl 23 (.tmp 8) rfl b8 0 rfl (vB tw) _ S8.out Tryd.underlying23 rfl HIt.out ?_; simp only [Act.put, List.setIfInBounds_toArray, List.set_cons_zero, List.set_cons_succ])
    | (refine wpList_load_w rfl 26 (.tmp 9) rfl b9 0 rfl LA _ S9.out Tryd.underlying26 rfl HLAI.out ?_; simp only [Act.put, List.setIfInBounds_toArray, List.set_cons_zero, List.set_cons_succ]))
  refine Calls.mono HM.out ?_
  rintro e V2 ⟨rfl, hG, hK⟩
  have HG2 : Hid (Lg w0 V2 S (q + 1 + 1) f) := hG
  have HK2 : Hid (Kp w V2) := HK.out.trans hK
  clear hG hK HM
  go_wp2_with fail
  go_ret
  exact ⟨rfl, HG2.out, HK2.out⟩
set_option maxRecDepth 100000 in
set_option maxHeartbeats 4000000 in
theorem moveL_ok (w0 : World) (S q : Nat) (f f1 f2 : ByteArray → List (BitVec 8)) (hq : q < 999970) (n : Nat) (hn : n < 1000000) (hf : f tK = 1#8 :: wB n) (fr tw : List (BitVec 8)) (h1 : fr.length = 20) (h2 : tw.length = 20) (a b : Nat) (hab : b ≤ a) (ha : a < 1000000) (d : Nat) (hdb : d + b < 1000000) (hb0 : b ≠ 0) (hlt : b ≠ a) (hne : fr ≠ tw) (hA : (∀ q' W, q' < 1000000 → Lg w0 W S q' f → Calls Tryd.prog 35 #[.agg #[.pointer (some ⟨S, 0, none⟩), .int .u8 5], .string (bK fr)] W fun e w' => e = .returned (.tuple #[.agg (sm (a : Int)), .int .i64 0]) ∧ Lg w0 w' S (q' + 1) f ∧ Kp W w')) (hC : (∀ q' W, q' < 1000000 → Lg w0 W S q' f → Calls Tryd.prog 35 #[.agg #[.pointer (some ⟨S, 0, none⟩), .int .u8 5], .string (bK tw)] W fun e w' => e = .returned (.tuple #[.agg (sm (d : Int)), .int .i64 0]) ∧ Lg w0 w' S (q' + 1) f ∧ Kp W w')) (hf1 : f1 = upd f (bK fr) (wB (a - b))) (hf2 : f2 = upd f1 (bK tw) (wB (d + b))) (LA : List Value) (hLA : LA = [.int .u64 (b : Int), .int .u64 0, .int .u64 0, .int .u64 0]) (w : World) (h : Lg w0 w S q f) :
    Calls Tryd.prog 10 #[.pointer (some ⟨S, 0, none⟩), .int .i64 5, .agg (vB fr).toArray, .agg (vB tw).toArray, .agg LA.toArray] w fun e w' => e = .returned (.int .i64 0) ∧ Lg w0 w' S (q + 5) f2 ∧ Kp w w' := by
  obtain ⟨LP, hLP⟩ : ∃ L : List Value, L = [.pointer (some ⟨S, 0, none⟩), .int .u8 5] := ⟨_, rfl⟩
  obtain ⟨LT, hLT⟩ : ∃ L : List Value, L = [.bool true, .bool false, .int .u64 (n : Int), .int .u64 0, .int .u64 0, .int .u64 0] := ⟨_, rfl⟩
  have HPE : Hid (LP = [.pointer (some ⟨S, 0, none⟩), .int .u8 5]) := hLP
  have HPI : Hid ((Tryd.prog.info? 61).map (·.size) = some LP.length) := by show _ = _; rw [hLP]; exact info_pg
  have HPN : Hid (LP.length = zP.length) := by show _ = _; rw [hLP]; rfl
  have HPO : Hid (LP.toArray.all (·.oneCell') = true) := pg_one hLP
  have HLTE : Hid (LT = [.bool true, .bool false, .int .u64 (n : Int), .int .u64 0, .int .u64 0, .int .u64 0]) := hLT
  have HLTI : Hid ((Tryd.prog.info? 33).map (·.size) = some LT.length) := by show _ = _; rw [hLT]; exact info_tok
  have HLTN : Hid (LT.length = zK.length) := by show _ = _; rw [hLT]; rfl
  have HLTO : Hid (LT.toArray.all (·.oneCell') = true) := tok_one hLT
  have HLAE : Hid (LA = [.int .u64 (b : Int), .int .u64 0, .int .u64 0, .int .u64 0]) := hLA
  have HLAI : Hid ((Tryd.prog.info? 26).map (·.size) = some LA.length) := by show _ = _; rw [hLA]; exact info_w4l
  have HLAJ : Hid ((Tryd.prog.info? 26).map (·.size) = some LA.toArray.size) := by show _ = _; rw [List.size_toArray, hLA]; exact info_w4l
  have HLAN : Hid (LA.length = zW.length) := by show _ = _; rw [hLA]; rfl
  have HLAO : Hid (LA.toArray.all (·.oneCell') = true) := by show _ = true; rw [hLA, ← Array.all_toList]; rfl
  obtain ⟨N0, heN0⟩ : ∃ L : List Value, L = [.string (bK fr), .int .u64 ((a - b : Nat) : Int), .int .u64 0, .int .u64 0, .int .u64 0] := ⟨_, rfl⟩
  obtain ⟨N1, heN1⟩ : ∃ L : List Value, L = [.string (bK tw), .int .u64 ((d + b : Nat) : Int), .int .u64 0, .int .u64 0, .int .u64 0] := ⟨_, rfl⟩
  have HE0 : Hid (N0 = _) := heN0
  have HE1 : Hid (N1 = _) := heN1
  have HMV : Hid (∀ W, Lg w0 W S (q + 1) f → _) := fun W hW => move_ok w0 S (q + 1) f (by omega) fr tw h1 h2 a b hab ha d hdb hb0 hne hA hC LP LA hLP hLA N0 N1 heN0 heN1 W hW
  have HLL : Hid (∀ g LL W, LL = N0 ++ N1 → Row W g LL 68 → Lg w0 W S (q + 1 + 1 + 1) f → _) := fun g LL W hl hr hW => layL2 w0 S (q + 1 + 1 + 1) f f1 f2 (by omega) (bK fr) (bK_key h1) (a - b) (by omega) (by omega) N0 heN0 (bK tw) (bK_key h2) (d + b) hdb (by omega) N1 heN1 hf1 hf2 g LL hl LP hLP W hr hW
  have HIf : Hid ((Tryd.prog.info? 23).map (·.size) = some (vB fr).length) := info_adr h1
  have HIt : Hid ((Tryd.prog.info? 23).map (·.size) = some (vB tw).length) := info_adr h2
  have HQ : Hid (q < 999970) := hq
  have HN : Hid (n < 1000000) := hn
  have HF : Hid (f tK = 1#8 :: wB n) := hf
  have HG : Hid (Lg w0 w S q f) := h
  clear hLP hLT hLA h1 h2 hq hn hf hA h hab ha hdb hb0 hlt hne hC hf1 hf2 heN0 heN1
  go_enter Tryd.func10, Tryd.ntmps10
  go_wp2_with (first
    | (refine wpList_boxG 23 rfl (.tmp 2) rfl (vB fr) rfl ?_; intro X0 q1 q2 q3; have Q0 : Hid (Row X0 _ (vB fr) 23) := q1; have B0 : Hid (Below _ _ X0) := q2; clear q1 q2 q3; simp only [Act.put, List.setIfInBounds_toArray, List.set_cons_zero, List.set_cons_succ])
    | (refine wpList_boxG 23 rfl (.tmp 3) rfl (vB tw) rfl ?_; intro X1 q1 q2 q3; have Q1 : Hid (Row X1 _ (vB tw) 23) := q1; have B1 : Hid (Below _ _ X1) := q2; clear q1 q2 q3; simp only [Act.put, List.setIfInBounds_toArray, List.set_cons_zero, List.set_cons_succ])
    | (refine wpList_boxG 26 rfl (.tmp 4) rfl LA rfl ?_; intro X2 q1 q2 q3; have Q2 : Hid (Row X2 _ LA 26) := q1; have B2 : Hid (Below _ _ X2) := q2; clear q1 q2 q3; simp only [Act.put, List.setIfInBounds_toArray, List.set_cons_zero, List.set_cons_succ]))
  obtain ⟨b7, hb7⟩ : ∃ b, b = w.heap.size := ⟨_, rfl⟩
  obtain ⟨b8, hb8⟩ : ∃ b, b = X0.heap.size := ⟨_, rfl⟩
  obtain ⟨b9, hb9⟩ : ∃ b, b = X1.heap.size := ⟨_, rfl⟩
  have c00 := B0.out
  have c01 := c00.trans (B1.out.mono c00.size)
  have c02 := c01.trans (B2.out.mono c01.size)
  have c11 := B1.out
  have c12 := c11.trans (B2.out.mono c11.size)
  have c22 := B2.out
  have R7 : Hid (Row X2 b7 (vB fr) 23) := by rw [hb7]; exact Row.below Q0.out c12 Q0.out.lt
  have HWb7 : Hid (w.heap.size ≤ b7) := by show _ ≤ _; rw [hb7]; exact Nat.le_refl _
  have R8 : Hid (Row X2 b8 (vB tw) 23) := by rw [hb8]; exact Row.below Q1.out c22 Q1.out.lt
  have HWb8 : Hid (w.heap.size ≤ b8) := by show _ ≤ _; rw [hb8]; exact c00.size
  have R9 : Hid (Row X2 b9 LA 26) := by rw [hb9]; exact Q2.out
  have HWb9 : Hid (w.heap.size ≤ b9) := by show _ ≤ _; rw [hb9]; exact c01.size
  have Nb7b8 : Hid (b7 ≠ b8) := by show _ ≠ _; have := Q0.out.lt; rw [hb7, hb8]; omega
  have Nb7b9 : Hid (b7 ≠ b9) := by show _ ≠ _; have := Q0.out.lt; rw [hb7, hb9]; have := c11.size; omega
  have Nb8b9 : Hid (b8 ≠ b9) := by show _ ≠ _; have := Q1.out.lt; rw [hb8, hb9]; omega
  have BX : Hid (Below w.heap.size w X2) := c02
  rw [← hb7, ← hb8, ← hb9]
  clear hb7 hb8 hb9 c00 c01 c02 c11 c12 c22 Q0 B0 Q1 B1 Q2 B2
  replace HG : Hid (Lg w0 X2 S q f) := HG.out.be BX.out
  have HK : Hid (Kp w X2) := Kp.of_below BX.out
  clear BX
  refine Calls.mono (askRun w0 S q f (by have := HQ.out; omega) n HN.out HF.out LP LT HPE.out HLTE.out X2 HG.out) ?_
  rintro e V ⟨rfl, hG, hK⟩
  replace R7 : Hid (Row V b7 (vB fr) 23) := hK.row _ _ _ (by decide) R7.out
  replace R8 : Hid (Row V b8 (vB tw) 23) := hK.row _ _ _ (by decide) R8.out
  replace R9 : Hid (Row V b9 LA 26) := hK.row _ _ _ (by decide) R9.out
  replace HG : Hid (Lg w0 V S (q + 1) f) := hG
  replace HK : Hid (Kp w V) := HK.out.trans hK
  clear hG hK
  go_upto_region 2 with (first
    | (refine wpList_allocP rfl rfl ?_; intro XP q1 q2 q3; have RP1 : Hid (Row XP V.heap.size zP 61) := q1; have BP : Hid (Below V.heap.size V XP) := q2; have NE12 : Hid (XP.heap.size ≠ V.heap.size) := (by show _ ≠ _; rw [q3]; omega); clear q1 q2 q3; simp only [Act.put, List.setIfInBounds_toArray, List.set_cons_zero, List.set_cons_succ])
    | (refine wpList_allocK rfl rfl ?_; intro XK q1 q2 q3; have RK1 : Hid (Row XK XP.heap.size zK 33) := q1; have BK : Hid (Below XP.heap.size XP XK) := q2; have RP2 : Hid (Row XK V.heap.size zP 61) := Row.below RP1.out q2 RP1.out.lt; clear q1 q2 q3; simp only [Act.put, List.setIfInBounds_toArray, List.set_cons_zero, List.set_cons_succ])
    | (refine wpList_storeL rfl 61 (.tmp 11) (.tmp 19) rfl V.heap.size LP zP 61 rfl rfl RP2.out HPN.out HPI.out HPO.out ?_; intro YP q1 q2; have HYP : Hid (YP = _) := q1; have RYP : Hid (Row YP V.heap.size LP 61) := q2; have RK2 : Hid (Row YP XP.heap.size zK 33) := (by rw [q1]; exact Row.setCells_other RK1.out _ _ _ NE12.out); clear q1 q2; simp only [Act.put])
    | (refine wpList_storeL rfl 33 (.tmp 12) (.tmp 20) rfl XP.heap.size LT zK 33 rfl rfl RK2.out HLTN.out HLTI.out HLTO.out ?_; intro YK q1 q2; have HYK : Hid (YK = _) := q1; have RYK : Hid (Row YK XP.heap.size LT 33) := q2; clear q1 q2; simp only [Act.put]))
  obtain ⟨p1, hp1⟩ : ∃ p, p = V.heap.size := ⟨_, rfl⟩
  obtain ⟨p2, hp2⟩ : ∃ p, p = XP.heap.size := ⟨_, rfl⟩
  have b12 : Below V.heap.size V YK := by rw [HYK.out, HYP.out]; exact below_setCells (below_setCells (BP.out.trans (BK.out.mono BP.out.size)) (Nat.le_refl _) _) BP.out.size _
  have R1 : Hid (Row YK p1 LP 61) := by rw [HYK.out, hp1]; exact Row.setCells_other RYP.out _ _ _ (Ne.symm NE12.out)
  have R2 : Hid (Row YK p2 LT 33) := by rw [hp2]; exact RYK.out
  have h12 : p1 ≠ p2 := by rw [hp1, hp2]; exact Ne.symm NE12.out
  have H12 : Hid (p1 ≠ p2) := h12
  have HP1 : Hid (p1 = V.heap.size) := hp1
  have HP2 : Hid (V.heap.size ≤ p2) := by rw [hp2]; exact BP.out.size
  rw [← hp1, ← hp2]
  clear hp1 hp2 h12 BP BK RP1 RP2 RK1 RK2 NE12 HYP RYP HYK RYK
  have S7 : Hid (YK.rangeAt b7 0 (vB fr)) := (Row.below R7.out b12 R7.out.lt).all
  have S8 : Hid (YK.rangeAt b8 0 (vB tw)) := (Row.below R8.out b12 R8.out.lt).all
  have S9 : Hid (YK.rangeAt b9 0 LA) := (Row.below R9.out b12 R9.out.lt).all
  have S1 : Hid (YK.rangeAt p1 0 LP) := R1.out.all
  replace HG : Hid (Lg w0 YK S (q + 1) f) := HG.out.be b12
  replace HK : Hid (Kp w YK) := HK.out.trans (Kp.of_below b12)
  have HM : Hid _ := HMV.out YK HG.out
  clear b12 HMV
  go_wp2_with (first
    | (refine wpList_load_w rfl 61 (.tmp 11) rfl p1 0 rfl LP _ S1.out Tryd.underlying61 rfl HPI.out ?_; simp only [Act.put, List.setIfInBounds_toArray, List.set_cons_zero, List.set_cons_succ])
    | (refine wpList_load_w rfl 23 (.tmp 7) rfl b7 0 rfl (vB fr) _ S7.out Tryd.underlying23 rfl HIf.out ?_; simp only [Act.put, List.setIfInBounds_toArray, List.set_cons_zero, List.set_cons_succ])
    | (refine wpList_load_w rfl 23 (.tmp 8) rfl b8 0 rfl (vB tw) _ S8.out Tryd.underlying23 rfl HIt.out ?_; simp only [Act.put, List.setIfInBounds_toArray, List.set_cons_zero, List.set_cons_succ])
    | (refine wpList_load_w rfl 26 (.tmp 9) rfl b9 0 rfl LA _ S9.out Tryd.underlying26 rfl HLAI.out ?_; simp only [Act.put, List.setIfInBounds_toArray, List.set_cons_zero, List.set_cons_succ]))
  refine Calls.mono HM.out ?_
  rintro e V2 ⟨g, rfl, hR, hG, hK⟩
  have HK2 : Hid (Kp w V2) := HK.out.trans hK
  have T1 : Hid (V2.rangeAt p1 0 LP) := (hK.row _ _ _ (by decide) R1.out).all
  have HL2 : Hid _ := HLL.out g (N0 ++ N1) V2 rfl hR hG
  clear hR hG hK HM HLL
  go_wp2_with (refine wpList_load_w rfl 61 (.tmp 11) rfl p1 0 rfl LP _ T1.out Tryd.underlying61 rfl HPI.out ?_; simp only [Act.put, List.setIfInBounds_toArray, List.set_cons_zero, List.set_cons_succ])
  refine Calls.mono HL2.out ?_
  rintro e V3 ⟨rfl, hG, hK⟩
  have HG3 : Hid (Lg w0 V3 S (q + 1 + 1 + 1 + 2) f2) := hG
  have HK3 : Hid (Kp w V3) := HK2.out.trans hK
  clear hG hK HL2
  go_wp2_with fail
  go_ret
  exact ⟨rfl, HG3.out, HK3.out⟩

end Go.Proofs.YtojmhmnpidhfjaaDoor
