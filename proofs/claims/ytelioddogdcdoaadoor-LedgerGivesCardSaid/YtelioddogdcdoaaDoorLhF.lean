/-
  layToken, layLines.
-/
import Derived.Test.YtelioddogdcdoaaDoorLhE
namespace Go.Proofs.YtelioddogdcdoaaDoor
open Go Go.RowKit Go.Maps
open Sha
open Wd

theorem laidG (a : Nat) (ha : a < 2 ^ 256) (LA : List Value) (hLA : LA = wq a) (w : World) : Calls Tryd.prog 46 #[.agg LA.toArray] w fun e w' => ∃ A n c, e = .returned (.slice A n c) ∧ n = (enc a).length ∧ Bw w' (.slice A n c) (enc a) ∧ (A = none → n = 0 ∧ c = 0) ∧ Below w.heap.size w w' := by
  by_cases h0 : a = 0
  · subst h0
    refine (laid0 LA hLA w).mono ?_
    rintro e V ⟨rfl, hB⟩
    exact ⟨none, 0, 0, rfl, rfl, Bw.nil V, fun _ => ⟨rfl, rfl⟩, hB⟩
  · refine (laidN a ha h0 LA hLA w).mono ?_
    rintro e V ⟨N, hN, hR, rfl, hB⟩
    have he : enc a = wB a := by unfold enc; rw [if_neg h0]
    refine ⟨some ⟨N, 0, none⟩, 32, 32, rfl, by rw [he, wB_len], ?_, fun e => (nomatch e), hB⟩
    have q := row_bw hR (by rw [wB_len]; decide)
    rw [wB_len] at q
    rw [he]
    exact q
theorem enc_len (a : Nat) : (enc a).length ≤ 32 := by
  unfold enc
  by_cases h : a = 0
  · rw [if_pos h]; exact Nat.zero_le _
  · rw [if_neg h, wB_len]; exact Nat.le_refl _
/-- What is laid of an amount. -/
def SP.enc (a : Nat) : SP := ⟨fun W v => ∃ A n c, v = .slice A n c ∧ n = (_root_.Go.Proofs.YtelioddogdcdoaaDoor.enc a).length ∧ Bw W (.slice A n c) (_root_.Go.Proofs.YtelioddogdcdoaaDoor.enc a) ∧ (A = none → n = 0 ∧ c = 0), fun _ _ _ hB ⟨A, n, c, e, h1, r, h⟩ => ⟨A, n, c, e, h1, Bw.be r hB, h⟩⟩
set_option maxRecDepth 100000 in
set_option maxHeartbeats 4000000 in
theorem layTG (w0 : World) (S q : Nat) (f : ByteArray → List (BitVec 8)) (f2 : ByteArray → List (BitVec 8)) (hq : q < 999990) (t : Nat) (ht : t < 64) (a : Nat) (LP LT : List Value) (hLP : LP = pgl S t) (hLT : LT = tkl true false a) (hf2 : f2 = upd f (tKt t) (1#8 :: wB a)) (w : World) (h : Lg w0 w S q f) :
    Calls Tryd.prog 21 #[.agg LP.toArray, .agg LT.toArray] w fun e w' => e = .returned (.int .i64 0) ∧ Lg w0 w' S (q + 1) f2 ∧ Kp w w' := by
  obtain ⟨LA, hLA⟩ : ∃ L : List Value, L = wq a := ⟨_, rfl⟩
  have HLPE : Hid (LP = pgl S t) := hLP
  have HLPI : Hid ((Tryd.prog.info? 58).map (·.size) = some LP.length) := by show _ = _; rw [hLP]; exact info_pgl S t
  have HLPJ : Hid ((Tryd.prog.info? 58).map (·.size) = some LP.toArray.size) := by show _ = _; rw [List.size_toArray, hLP]; exact info_pgl S t
  have HLPN : Hid (LP.length = zP.length) := by show _ = _; rw [hLP]; exact rfl
  have HLPO : Hid (LP.toArray.all (·.oneCell') = true) := by show _ = true; rw [hLP]; exact pgl_one S t
  have HLTE : Hid (LT = tkl true false a) := hLT
  have HLTI : Hid ((Tryd.prog.info? 44).map (·.size) = some LT.length) := by show _ = _; rw [hLT]; exact info_tkl _ _ _
  have HLTJ : Hid ((Tryd.prog.info? 44).map (·.size) = some LT.toArray.size) := by show _ = _; rw [List.size_toArray, hLT]; exact info_tkl _ _ _
  have HLTN : Hid (LT.length = zK.length) := by show _ = _; rw [hLT]; exact tkl_len _ _ _
  have HLTO : Hid (LT.toArray.all (·.oneCell') = true) := by show _ = true; rw [hLT]; exact tkl_one _ _ _
  have HLAE : Hid (LA = wq a) := hLA
  have HLAI : Hid ((Tryd.prog.info? 25).map (·.size) = some LA.length) := by show _ = _; rw [hLA]; exact info_wq _
  have HLAJ : Hid ((Tryd.prog.info? 25).map (·.size) = some LA.toArray.size) := by show _ = _; rw [List.size_toArray, hLA]; exact info_wq _
  have HLAN : Hid (LA.length = zW.length) := by show _ = _; rw [hLA]; exact wq_len _
  have HLAO : Hid (LA.toArray.all (·.oneCell') = true) := by show _ = true; rw [hLA]; exact wq_one _
  have HT64 : Hid (t < 64) := ht
  have HF2 : Hid (f2 = _) := hf2
  have HQ : Hid (q < 999990) := hq
  have HG : Hid (Lg w0 w S q f) := h
  clear hLP hLT hLA hf2 hq h ht
  go_enter Tryd.func21, Tryd.ntmps21
  go_upto_region 1 with (first
    | (refine wpList_boxG 58 rfl (.tmp 0) rfl LP rfl ?_; intro X0 q1 q2 q3; have Q0 : Hid (Row X0 _ LP 58) := q1; have B0 : Hid (Below _ _ X0) := q2; clear q1 q2 q3; simp only [Act.put, List.setIfInBounds_toArray, List.set_cons_zero, List.set_cons_succ])
    | (refine wpList_boxG 44 rfl (.tmp 1) rfl LT rfl ?_; intro X1 q1 q2 q3; have Q1 : Hid (Row X1 _ LT 44) := q1; have B1 : Hid (Below _ _ X1) := q2; clear q1 q2 q3; simp only [Act.put, List.setIfInBounds_toArray, List.set_cons_zero, List.set_cons_succ]))
  obtain ⟨b2, hb2⟩ : ∃ b, b = w.heap.size := ⟨_, rfl⟩
  obtain ⟨b3, hb3⟩ : ∃ b, b = X0.heap.size := ⟨_, rfl⟩
  have c00 := B0.out
  have c01 := c00.trans (B1.out.mono c00.size)
  have c11 := B1.out
  have R2 : Hid (Row X1 b2 LP 58) := by rw [hb2]; exact Row.below Q0.out c11 Q0.out.lt
  have HWb2 : Hid (w.heap.size ≤ b2) := by show _ ≤ _; rw [hb2]; exact Nat.le_refl _
  have R3 : Hid (Row X1 b3 LT 44) := by rw [hb3]; exact Q1.out
  have HWb3 : Hid (w.heap.size ≤ b3) := by show _ ≤ _; rw [hb3]; exact c00.size
  have Nb2b3 : Hid (b2 ≠ b3) := by show _ ≠ _; have := Q0.out.lt; rw [hb2, hb3]; omega
  have BX : Hid (Below w.heap.size w X1) := c01
  rw [← hb2, ← hb3]
  clear hb2 hb3 c00 c01 c11 Q0 B0 Q1 B1
  replace HG : Hid (Lg w0 X1 S q f) := HG.out.be BX.out
  have HK : Hid (Kp w X1) := Kp.of_below BX.out
  have c1 := R3.out.cell 1 (.bool false) (by rw [HLTE.out]; rfl)
  clear BX
  go_upto_region 4 with fail
  have r2 := R2.out
  have r3 := R3.out
  have hG := HG.out
  have hK := HK.out
  have hb1 := Below.refl X1.heap.size X1
  clear R2 R3 HG HK c1
  refine wp_named fun a0 ha0 => ?_
  have hsz : a0.tmps.size = 19 := by rw [ha0]; rfl
  have zs2 : a0.eval (.tmp 2) = .pointer (some ⟨b2, 0, none⟩) := by rw [ha0]; rfl
  have zs3 : a0.eval (.tmp 3) = .pointer (some ⟨b3, 0, none⟩) := by rw [ha0]; rfl
  have zs5 : a0.eval (.tmp 5) = .int .u8 1 := by rw [ha0]; rfl
  obtain ⟨D, hD⟩ : ∃ D : List (Tmp × SP), D = [(8, SP.is (.pointer (some ⟨b2, 0, none⟩))), (9, SP.is (.pointer (some ⟨S, 0, none⟩))), (10, SP.is (.agg LP.toArray)), (11, SP.is (.string (tKt t))), (12, SP.is (.int .u8 1)), (13, SP.any), (14, SP.is (.pointer (some ⟨b3, 2, none⟩))), (15, SP.is (.agg LA.toArray)), (16, SP.any), (17, SP.any), (18, SP.is (.int .i64 0)), (4, SP.is (.int .i64 0))] := ⟨_, rfl⟩
  refine wp_region_then (by kernel_rfl) 10 (by decide) (by kernel_rfl) (fun listed ac W => Fp D a0 listed ac W ∧ Below X1.heap.size X1 W ∧ Row W b2 LP 58 ∧ Row W b3 LT 44 ∧ Lg w0 W S q f ∧ Kp w W ∧ (listed.getD 5 false = true → (SP.by 1 [1#8]).P W (ac.eval (.tmp 13))) ∧ (listed.getD 8 false = true → (SP.by 32 (wB a)).P W (ac.eval (.tmp 16))) ∧ (listed.getD 9 false = true → (SP.own 33 (1#8 :: wB a)).P W (ac.eval (.tmp 17)))) (fun listed ac W => Fp D a0 listed ac W ∧ Lg w0 W S (q + 1) f2 ∧ Kp w W) ?_ ?_ ?_ ?_ ?_
  · exact ⟨Fp.start D a0 _ _, Below.drew hb1, Row.drew r2, Row.drew r3, hG.below (Below.drew (Below.refl _ _)), hK.below (Below.drew (Below.refl _ _)), (fun h => (start_no h).elim), (fun h => (start_no h).elim), (fun h => (start_no h).elim)⟩
  · clear ha0 hb1 r2 r3 hG hK
    intro listed ac W k hl hI hdn hk hne hnl
    replace hl : listed.size = 12 := hl
    obtain ⟨hF, hb1, r2, r3, hG, hK, ti5, ti8, ti9⟩ := hI
    have hk1 : k < 12 := List.mem_range.1 (List.mem_filter.1 hk).1
    rcases (show k = 0 ∨ k = 1 ∨ k = 2 ∨ k = 3 ∨ k = 4 ∨ k = 5 ∨ k = 6 ∨ k = 7 ∨ k = 8 ∨ k = 9 ∨ k = 10 ∨ k = 11 by omega) with rfl | rfl | rfl | rfl | rfl | rfl | rfl | rfl | rfl | rfl | rfl | rfl
    · have hk3 := hk
      have e2 := ((hF.keep 2 (by rw [hD]; rfl)).trans zs2)
      exact wpOp_plain rfl rfl (wp_f_p0 b2 rfl e2 ⟨(hF.put 0 8 (SP.is (.pointer (some ⟨b2, 0, none⟩))) (.pointer (some ⟨b2, 0, none⟩)) (by rw [hD]; rfl) rfl (by rw [hD]; rfl) (by rw [hsz]; decide) (by rw [hl]; decide)), hb1, r2, r3, hG, hK, (fun h1 => by change (SP.by 1 [1#8]).P _ ((ac.put (some 8) _).eval (.tmp 13)); rw [eval_put_other ac _ (by decide)]; exact ti5 (by rwa [getD_set _ _ _ (by decide)] at h1)), (fun h1 => by change (SP.by 32 (wB a)).P _ ((ac.put (some 8) _).eval (.tmp 16)); rw [eval_put_other ac _ (by decide)]; exact ti8 (by rwa [getD_set _ _ _ (by decide)] at h1)), (fun h1 => by change (SP.own 33 (1#8 :: wB a)).P _ ((ac.put (some 8) _).eval (.tmp 17)); rw [eval_put_other ac _ (by decide)]; exact ti9 (by rwa [getD_set _ _ _ (by decide)] at h1))⟩)
    · have hk3 := hk
      have e8 := (hF.done 0 (8, SP.is (.pointer (some ⟨b2, 0, none⟩))) (by rw [hD]; rfl) (ready_dep hk 0 (by kernel_rfl)))
      exact wpOp_plain rfl rfl (wp_loadp rfl b2 0 e8 _ (r2.cell 0 _ (by rw [HLPE.out]; rfl)) ⟨(hF.put 1 9 (SP.is (.pointer (some ⟨S, 0, none⟩))) (.pointer (some ⟨S, 0, none⟩)) (by rw [hD]; rfl) rfl (by rw [hD]; rfl) (by rw [hsz]; decide) (by rw [hl]; decide)), hb1, r2, r3, hG, hK, (fun h1 => by change (SP.by 1 [1#8]).P _ ((ac.put (some 9) _).eval (.tmp 13)); rw [eval_put_other ac _ (by decide)]; exact ti5 (by rwa [getD_set _ _ _ (by decide)] at h1)), (fun h1 => by change (SP.by 32 (wB a)).P _ ((ac.put (some 9) _).eval (.tmp 16)); rw [eval_put_other ac _ (by decide)]; exact ti8 (by rwa [getD_set _ _ _ (by decide)] at h1)), (fun h1 => by change (SP.own 33 (1#8 :: wB a)).P _ ((ac.put (some 9) _).eval (.tmp 17)); rw [eval_put_other ac _ (by decide)]; exact ti9 (by rwa [getD_set _ _ _ (by decide)] at h1))⟩)
    · have hk3 := hk
      exact wpOp_plain rfl rfl (wp_load_mid 58 (.tmp 2) rfl b2 0 ((hF.keep 2 (by rw [hD]; rfl)).trans zs2) LP _ r2.all Tryd.underlying58 rfl HLPI.out ⟨(hF.put 2 10 (SP.is (.agg LP.toArray)) (.agg LP.toArray) (by rw [hD]; rfl) rfl (by rw [hD]; rfl) (by rw [hsz]; decide) (by rw [hl]; decide)), hb1, r2, r3, hG, hK, (fun h1 => by change (SP.by 1 [1#8]).P _ ((ac.put (some 10) _).eval (.tmp 13)); rw [eval_put_other ac _ (by decide)]; exact ti5 (by rwa [getD_set _ _ _ (by decide)] at h1)), (fun h1 => by change (SP.by 32 (wB a)).P _ ((ac.put (some 10) _).eval (.tmp 16)); rw [eval_put_other ac _ (by decide)]; exact ti8 (by rwa [getD_set _ _ _ (by decide)] at h1)), (fun h1 => by change (SP.own 33 (1#8 :: wB a)).P _ ((ac.put (some 10) _).eval (.tmp 17)); rw [eval_put_other ac _ (by decide)]; exact ti9 (by rwa [getD_set _ _ _ (by decide)] at h1))⟩)
    · have hk3 := hk
      have e10 := (hF.done 2 (10, SP.is (.agg LP.toArray)) (by rw [hD]; rfl) (ready_dep hk 2 (by kernel_rfl)))
      refine wpOp_plain rfl rfl (wp_fcall_v 40 #[.agg LP.toArray, .string ⟨#[116]⟩, .slice none 0 0] rfl rfl (by show [ac.eval (.tmp 10), .string ⟨#[116]⟩, .slice none 0 0] = _; rw [show ac.eval (.tmp 10) = .agg LP.toArray from e10]) (by go_simp) (((show Calls Tryd.prog 40 #[.agg LP.toArray, .string ⟨#[116]⟩, .slice none 0 0] W _ by rw [HLPE.out]; exact keyT S t HT64.out W)).mono ?_))
      rintro e W2 ⟨rfl, hB⟩
      exact ⟨_, rfl, ((hF.world hB).put 3 11 (SP.is (.string (tKt t))) (.string (tKt t)) (by rw [hD]; rfl) rfl (by rw [hD]; rfl) (by rw [hsz]; decide) (by rw [hl]; decide)), hb1.trans (hB.mono hb1.size), Row.below r2 hB (Row.lt r2), Row.below r3 hB (Row.lt r3), hG.below hB, hK.below hB, (fun h1 => by change (SP.by 1 [1#8]).P _ ((ac.put (some 11) _).eval (.tmp 13)); rw [eval_put_other ac _ (by decide)]; exact (SP.by 1 [1#8]).st _ _ _ hB (ti5 (by rwa [getD_set _ _ _ (by decide)] at h1))), (fun h1 => by change (SP.by 32 (wB a)).P _ ((ac.put (some 11) _).eval (.tmp 16)); rw [eval_put_other ac _ (by decide)]; exact (SP.by 32 (wB a)).st _ _ _ hB (ti8 (by rwa [getD_set _ _ _ (by decide)] at h1))), (fun h1 => by change (SP.own 33 (1#8 :: wB a)).P _ ((ac.put (some 11) _).eval (.tmp 17)); rw [eval_put_other ac _ (by decide)]; exact (SP.own 33 (1#8 :: wB a)).st _ _ _ hB (ti9 (by rwa [getD_set _ _ _ (by decide)] at h1)))⟩
    · have hk3 := hk
      exact wpOp_plain rfl rfl (wp_move_v (ac.eval (.tmp 5)) rfl rfl ⟨(hF.put 4 12 (SP.is (.int .u8 1)) (ac.eval (.tmp 5)) (by rw [hD]; rfl) (((hF.keep 5 (by rw [hD]; rfl)).trans zs5)) (by rw [hD]; rfl) (by rw [hsz]; decide) (by rw [hl]; decide)), hb1, r2, r3, hG, hK, (fun h1 => by change (SP.by 1 [1#8]).P _ ((ac.put (some 12) _).eval (.tmp 13)); rw [eval_put_other ac _ (by decide)]; exact ti5 (by rwa [getD_set _ _ _ (by decide)] at h1)), (fun h1 => by change (SP.by 32 (wB a)).P _ ((ac.put (some 12) _).eval (.tmp 16)); rw [eval_put_other ac _ (by decide)]; exact ti8 (by rwa [getD_set _ _ _ (by decide)] at h1)), (fun h1 => by change (SP.own 33 (1#8 :: wB a)).P _ ((ac.put (some 12) _).eval (.tmp 17)); rw [eval_put_other ac _ (by decide)]; exact ti9 (by rwa [getD_set _ _ _ (by decide)] at h1))⟩)
    · have hk3 := hk
      have e12 := (hF.done 4 (12, SP.is (.int .u8 1)) (by rw [hD]; rfl) (ready_dep hk 4 (by kernel_rfl)))
      have hB : Below W.heap.size W (W.alloc (Obj.cells ((vB [1#8]) : List Value).toArray 5)) := (Below.refl _ _).alloc (Nat.le_refl _) _
      exact wpOp_plain rfl rfl (wp_build1 52 5 1 _ (vB [1#8]) rfl Tryd.underlying52 info_u8 zero_u8 rfl (by decide) (by decide) (fun v hv => by obtain rfl := List.mem_singleton.1 hv; rfl) (by show [(0, ac.eval (.tmp 12))] = _; rw [show ac.eval (.tmp 12) = .int .u8 1 from e12]; rfl) ⟨((hF.world hB).put 5 13 (SP.any) (.slice (some ⟨W.heap.size, 0, none⟩) 1 1) (by rw [hD]; rfl) trivial (by rw [hD]; rfl) (by rw [hsz]; decide) (by rw [hl]; decide)), hb1.trans (hB.mono hb1.size), Row.below r2 hB (Row.lt r2), Row.below r3 hB (Row.lt r3), hG.below hB, hK.below hB, (fun _ => by change (SP.by 1 [1#8]).P _ ((ac.put (some 13) _).eval (.tmp 13)); rw [eval_put_same ac _ (by rw [hF.size, hsz]; decide)]; exact ⟨W.heap.size, rfl, Row.new' rfl rfl⟩), (fun h1 => by change (SP.by 32 (wB a)).P _ ((ac.put (some 13) _).eval (.tmp 16)); rw [eval_put_other ac _ (by decide)]; exact (SP.by 32 (wB a)).st _ _ _ hB (ti8 (by rwa [getD_set _ _ _ (by decide)] at h1))), (fun h1 => by change (SP.own 33 (1#8 :: wB a)).P _ ((ac.put (some 13) _).eval (.tmp 17)); rw [eval_put_other ac _ (by decide)]; exact (SP.own 33 (1#8 :: wB a)).st _ _ _ hB (ti9 (by rwa [getD_set _ _ _ (by decide)] at h1)))⟩)
    · have hk3 := hk
      have e3 := ((hF.keep 3 (by rw [hD]; rfl)).trans zs3)
      exact wpOp_plain rfl rfl (wp_f_t2 b3 rfl e3 ⟨(hF.put 6 14 (SP.is (.pointer (some ⟨b3, 2, none⟩))) (.pointer (some ⟨b3, 2, none⟩)) (by rw [hD]; rfl) rfl (by rw [hD]; rfl) (by rw [hsz]; decide) (by rw [hl]; decide)), hb1, r2, r3, hG, hK, (fun h1 => by change (SP.by 1 [1#8]).P _ ((ac.put (some 14) _).eval (.tmp 13)); rw [eval_put_other ac _ (by decide)]; exact ti5 (by rwa [getD_set _ _ _ (by decide)] at h1)), (fun h1 => by change (SP.by 32 (wB a)).P _ ((ac.put (some 14) _).eval (.tmp 16)); rw [eval_put_other ac _ (by decide)]; exact ti8 (by rwa [getD_set _ _ _ (by decide)] at h1)), (fun h1 => by change (SP.own 33 (1#8 :: wB a)).P _ ((ac.put (some 14) _).eval (.tmp 17)); rw [eval_put_other ac _ (by decide)]; exact ti9 (by rwa [getD_set _ _ _ (by decide)] at h1))⟩)
    · have hk3 := hk
      exact wpOp_plain rfl rfl (wp_load_mid 25 (.tmp 14) rfl b3 2 (hF.done 6 (14, SP.is (.pointer (some ⟨b3, 2, none⟩))) (by rw [hD]; rfl) (ready_dep hk 6 (by kernel_rfl))) LA _ (by rw [HLAE.out]; have q := r3; rw [HLTE.out] at q; exact tkl_am q) Tryd.underlying25 rfl HLAI.out ⟨(hF.put 7 15 (SP.is (.agg LA.toArray)) (.agg LA.toArray) (by rw [hD]; rfl) rfl (by rw [hD]; rfl) (by rw [hsz]; decide) (by rw [hl]; decide)), hb1, r2, r3, hG, hK, (fun h1 => by change (SP.by 1 [1#8]).P _ ((ac.put (some 15) _).eval (.tmp 13)); rw [eval_put_other ac _ (by decide)]; exact ti5 (by rwa [getD_set _ _ _ (by decide)] at h1)), (fun h1 => by change (SP.by 32 (wB a)).P _ ((ac.put (some 15) _).eval (.tmp 16)); rw [eval_put_other ac _ (by decide)]; exact ti8 (by rwa [getD_set _ _ _ (by decide)] at h1)), (fun h1 => by change (SP.own 33 (1#8 :: wB a)).P _ ((ac.put (some 15) _).eval (.tmp 17)); rw [eval_put_other ac _ (by decide)]; exact ti9 (by rwa [getD_set _ _ _ (by decide)] at h1))⟩)
    · have hk3 := hk
      have e15 := (hF.done 7 (15, SP.is (.agg LA.toArray)) (by rw [hD]; rfl) (ready_dep hk 7 (by kernel_rfl)))
      refine wpOp_plain rfl rfl (wp_fcall_v 43 #[.agg LA.toArray] rfl rfl (by show [ac.eval (.tmp 15)] = _; rw [show ac.eval (.tmp 15) = .agg LA.toArray from e15]) (by go_simp) (((show Calls Tryd.prog 43 #[.agg LA.toArray] W _ by rw [HLAE.out]; exact bytesG W a)).mono ?_))
      rintro e W2 ⟨N, hN, hR, rfl, hB⟩
      exact ⟨_, rfl, ((hF.world hB).put 8 16 (SP.any) (.slice (some ⟨N, 0, none⟩) 32 32) (by rw [hD]; rfl) trivial (by rw [hD]; rfl) (by rw [hsz]; decide) (by rw [hl]; decide)), hb1.trans (hB.mono hb1.size), Row.below r2 hB (Row.lt r2), Row.below r3 hB (Row.lt r3), hG.below hB, hK.below hB, (fun h1 => by change (SP.by 1 [1#8]).P _ ((ac.put (some 16) _).eval (.tmp 13)); rw [eval_put_other ac _ (by decide)]; exact (SP.by 1 [1#8]).st _ _ _ hB (ti5 (by rwa [getD_set _ _ _ (by decide)] at h1))), (fun _ => by change (SP.by 32 (wB a)).P _ ((ac.put (some 16) _).eval (.tmp 16)); rw [eval_put_same ac _ (by rw [hF.size, hsz]; decide)]; exact ⟨N, rfl, hR⟩), (fun h1 => by change (SP.own 33 (1#8 :: wB a)).P _ ((ac.put (some 16) _).eval (.tmp 17)); rw [eval_put_other ac _ (by decide)]; exact (SP.own 33 (1#8 :: wB a)).st _ _ _ hB (ti9 (by rwa [getD_set _ _ _ (by decide)] at h1)))⟩
    · have hk3 := hk
      obtain ⟨n1, e13, q13⟩ := (ti5 (ready_dep hk 5 (by kernel_rfl)))
      obtain ⟨n2, e16, q16⟩ := (ti8 (ready_dep hk 8 (by kernel_rfl)))
      refine wpOp_plain rfl rfl (wp_appb (.tmp 13) (.tmp 16) rfl n1 n2 1 32 33 [1#8] (wB a) rfl (wB_len a) rfl (by decide) (by decide) e13 q13 e16 q16 ?_)
      intro A c W2 hw1 hnn hB
      exact ⟨((hF.world hB).put 9 17 (SP.any) (.slice A 33 c) (by rw [hD]; rfl) trivial (by rw [hD]; rfl) (by rw [hsz]; decide) (by rw [hl]; decide)), hb1.trans (hB.mono hb1.size), Row.below r2 hB (Row.lt r2), Row.below r3 hB (Row.lt r3), hG.below hB, hK.below hB, (fun h1 => by change (SP.by 1 [1#8]).P _ ((ac.put (some 17) _).eval (.tmp 13)); rw [eval_put_other ac _ (by decide)]; exact (SP.by 1 [1#8]).st _ _ _ hB (ti5 (by rwa [getD_set _ _ _ (by decide)] at h1))), (fun h1 => by change (SP.by 32 (wB a)).P _ ((ac.put (some 17) _).eval (.tmp 16)); rw [eval_put_other ac _ (by decide)]; exact (SP.by 32 (wB a)).st _ _ _ hB (ti8 (by rwa [getD_set _ _ _ (by decide)] at h1))), (fun _ => by change (SP.own 33 (1#8 :: wB a)).P _ ((ac.put (some 17) _).eval (.tmp 17)); rw [eval_put_same ac _ (by rw [hF.size, hsz]; decide)]; exact ⟨A, c, rfl, hw1, hnn⟩)⟩
    · exact absurd rfl hne
    · exact absurd (ready_dep hk 10 (by kernel_rfl)) hnl
  · clear ha0 hb1 r2 r3 hG hK
    intro listed ac W hl hI hdn hk
    replace hl : listed.size = 12 := hl
    obtain ⟨hF, hb1, r2, r3, hG, hK, ti5, ti8, ti9⟩ := hI
    have e9 := (hF.done 1 (9, SP.is (.pointer (some ⟨S, 0, none⟩))) (by rw [hD]; rfl) (ready_dep hk 1 (by kernel_rfl)))
    have e11 := (hF.done 3 (11, SP.is (.string (tKt t))) (by rw [hD]; rfl) (ready_dep hk 3 (by kernel_rfl)))
    obtain ⟨A, c, e17, hw1, hnn⟩ := (ti9 (ready_dep hk 9 (by kernel_rfl)))
    refine wpOp_plain rfl rfl (wp_fcall_v 42 #[.pointer (some ⟨S, 0, none⟩), .string (tKt t), .slice A 33 c] rfl rfl (by show [ac.eval (.tmp 9), ac.eval (.tmp 11), ac.eval (.tmp 17)] = _; rw [show ac.eval (.tmp 9) = _ from e9, show ac.eval (.tmp 11) = _ from e11, e17]) (by go_simp) (((show Calls Tryd.prog 42 #[.pointer (some ⟨S, 0, none⟩), .string (tKt t), .slice A 33 c] W fun e w' => e = .returned (.int .i64 0) ∧ Lg w0 w' S (q + 1) f2 ∧ Kp W w' by rw [HF2.out]; exact put_lg w0 S q f (by have := HQ.out; omega) (tKt t) (tKt_key t) A 33 c (1#8 :: wB a) (by rw [List.length_cons, wB_len]) (by decide) (fun e => (hnn e).elim) W hG (fun W2 k2 => Bw.sl (k2.bw hw1)))).mono ?_))
    rintro e W2 ⟨rfl, hG2, hK2⟩
    have hT : Fp D a0 listed ac W2 := hF.turn (by rw [hD]; simp only [List.forall_mem_cons, List.not_mem_nil, false_implies, implies_true, and_true]; exact ⟨fun _ h => h, fun _ h => h, fun _ h => h, fun _ h => h, fun _ h => h, fun _ h => h, fun _ h => h, fun _ h => h, fun _ h => h, fun _ h => h, fun _ h => h, fun _ h => h⟩)
    exact ⟨_, rfl, (hT.put 10 18 (SP.is (.int .i64 0)) _ (by rw [hD]; rfl) rfl (by rw [hD]; rfl) (by rw [hsz]; decide) (by rw [hl]; decide)), hG2, hK.trans hK2⟩
  · clear ha0 hb1 r2 r3 hG hK
    intro listed ac W k hl hJ hdn hk hne hyl
    replace hl : listed.size = 12 := hl
    obtain ⟨hF, hG, hK⟩ := hJ
    have hk1 : k < 12 := List.mem_range.1 (List.mem_filter.1 hk).1
    rcases (show k = 0 ∨ k = 1 ∨ k = 2 ∨ k = 3 ∨ k = 4 ∨ k = 5 ∨ k = 6 ∨ k = 7 ∨ k = 8 ∨ k = 9 ∨ k = 10 ∨ k = 11 by omega) with rfl | rfl | rfl | rfl | rfl | rfl | rfl | rfl | rfl | rfl | rfl | rfl
    · exact absurd (hdn 1 (hdn 10 hyl 1 (by kernel_rfl)) 0 (by kernel_rfl)) (not_yet hk)
    · exact absurd (hdn 10 hyl 1 (by kernel_rfl)) (not_yet hk)
    · exact absurd (hdn 3 (hdn 10 hyl 3 (by kernel_rfl)) 2 (by kernel_rfl)) (not_yet hk)
    · exact absurd (hdn 10 hyl 3 (by kernel_rfl)) (not_yet hk)
    · exact absurd (hdn 5 (hdn 9 (hdn 10 hyl 9 (by kernel_rfl)) 5 (by kernel_rfl)) 4 (by kernel_rfl)) (not_yet hk)
    · exact absurd (hdn 9 (hdn 10 hyl 9 (by kernel_rfl)) 5 (by kernel_rfl)) (not_yet hk)
    · exact absurd (hdn 7 (hdn 8 (hdn 9 (hdn 10 hyl 9 (by kernel_rfl)) 8 (by kernel_rfl)) 7 (by kernel_rfl)) 6 (by kernel_rfl)) (not_yet hk)
    · exact absurd (hdn 8 (hdn 9 (hdn 10 hyl 9 (by kernel_rfl)) 8 (by kernel_rfl)) 7 (by kernel_rfl)) (not_yet hk)
    · exact absurd (hdn 9 (hdn 10 hyl 9 (by kernel_rfl)) 8 (by kernel_rfl)) (not_yet hk)
    · exact absurd (hdn 10 hyl 9 (by kernel_rfl)) (not_yet hk)
    · exact absurd rfl hne
    · exact wpOp_plain rfl rfl (wp_assign_v (ac.eval (.tmp 18)) rfl rfl ⟨(hF.put 11 4 (SP.is (.int .i64 0)) _ (by rw [hD]; rfl) (hF.done 10 (18, SP.is (.int .i64 0)) (by rw [hD]; rfl) (ready_dep hk 10 (by kernel_rfl))) (by rw [hD]; rfl) (by rw [hsz]; decide) (by rw [hl]; decide)), hG, hK⟩)
  · clear hb1 r2 r3 hG hK
    intro listed ac W hl hJ hr
    replace hl : listed.size = 12 := hl
    obtain ⟨hF, hG, hK⟩ := hJ
    have hall := all_listed (by kernel_rfl) hl hr
    have h8 : ac.eval (.tmp 8) = .pointer (some ⟨b2, 0, none⟩) := hF.done 0 (8, SP.is (.pointer (some ⟨b2, 0, none⟩))) (by rw [hD]; rfl) (hall 0 (by decide))
    have h9 : ac.eval (.tmp 9) = .pointer (some ⟨S, 0, none⟩) := hF.done 1 (9, SP.is (.pointer (some ⟨S, 0, none⟩))) (by rw [hD]; rfl) (hall 1 (by decide))
    have h10 : ac.eval (.tmp 10) = .agg LP.toArray := hF.done 2 (10, SP.is (.agg LP.toArray)) (by rw [hD]; rfl) (hall 2 (by decide))
    have h11 : ac.eval (.tmp 11) = .string (tKt t) := hF.done 3 (11, SP.is (.string (tKt t))) (by rw [hD]; rfl) (hall 3 (by decide))
    have h12 : ac.eval (.tmp 12) = .int .u8 1 := hF.done 4 (12, SP.is (.int .u8 1)) (by rw [hD]; rfl) (hall 4 (by decide))
    obtain ⟨x13, h13⟩ : ∃ x, ac.eval (.tmp 13) = x := ⟨_, rfl⟩
    have h14 : ac.eval (.tmp 14) = .pointer (some ⟨b3, 2, none⟩) := hF.done 6 (14, SP.is (.pointer (some ⟨b3, 2, none⟩))) (by rw [hD]; rfl) (hall 6 (by decide))
    have h15 : ac.eval (.tmp 15) = .agg LA.toArray := hF.done 7 (15, SP.is (.agg LA.toArray)) (by rw [hD]; rfl) (hall 7 (by decide))
    obtain ⟨x16, h16⟩ : ∃ x, ac.eval (.tmp 16) = x := ⟨_, rfl⟩
    obtain ⟨x17, h17⟩ : ∃ x, ac.eval (.tmp 17) = x := ⟨_, rfl⟩
    have h18 : ac.eval (.tmp 18) = .int .i64 0 := hF.done 10 (18, SP.is (.int .i64 0)) (by rw [hD]; rfl) (hall 10 (by decide))
    have h4 : ac.eval (.tmp 4) = .int .i64 0 := hF.done 11 (4, SP.is (.int .i64 0)) (by rw [hD]; rfl) (hall 11 (by decide))
    have ea := hF.lay [(8, .pointer (some ⟨b2, 0, none⟩)), (9, .pointer (some ⟨S, 0, none⟩)), (10, .agg LP.toArray), (11, .string (tKt t)), (12, .int .u8 1), (13, x13), (14, .pointer (some ⟨b3, 2, none⟩)), (15, .agg LA.toArray), (16, x16), (17, x17), (18, .int .i64 0), (4, .int .i64 0)] (by rw [hD, hsz]; rfl) (by simp only [List.forall_mem_cons, List.not_mem_nil, false_implies, implies_true, and_true]; exact ⟨h8, h9, h10, h11, h12, h13, h14, h15, h16, h17, h18, h4⟩)
    rw [ha0] at ea
    simp only [List.foldl_cons, List.foldl_nil, List.setIfInBounds_toArray, List.set_cons_zero, List.set_cons_succ] at ea
    clear hF hall hr hl hD zs2 zs3 zs5 ha0 hsz h8 h9 h10 h11 h12 h13 h14 h15 h16 h17 h18 h4
    subst ea
    have HG : Hid (Lg w0 W S (q + 1) f2) := hG
    have HK : Hid (Kp w W) := hK
    clear hG hK
    go_wp2_with fail
    go_ret
    exact ⟨rfl, HG.out, HK.out⟩
theorem seg {w : World} {g n k : Nat} {CU p x y : List Value} {t : TypeId} (r : Row w g CU t) (h : CU.take n = p ++ (x ++ y)) (hp : p.length = k) : w.rangeAt g k x := r.range k _ (fun j v hj => by
  have hlt : j < x.length := (List.getElem?_eq_some_iff.1 hj).1
  have e : (CU.take n)[k + j]? = some v := by
    rw [h, List.getElem?_append_right (by omega), hp, Nat.add_sub_cancel_left, List.getElem?_append_left hlt]
    exact hj
  rw [List.getElem?_take] at e
  split at e
  · exact e
  · cases e)
set_option maxRecDepth 100000 in
set_option maxHeartbeats 4000000 in
theorem layLG0 (w0 : World) (S q : Nat) (f : ByteArray → List (BitVec 8)) (LP : List Value) (w : World) (h : Lg w0 w S q f) :
    Calls Tryd.prog 29 #[.agg LP.toArray, .slice none 0 0] w fun e w' => e = .returned (.int .i64 0) ∧ Lg w0 w' S q f ∧ Kp w w' := by
  have HG : Hid (Lg w0 w S q f) := h
  clear h
  go_enter Tryd.func29, Tryd.ntmps29
  go_wp2_with (refine wpList_boxG 58 rfl (.tmp 0) rfl LP rfl ?_; intro V0 q1 q2 q3; have R2 : Hid (Row V0 _ LP 58) := q1; have B0 : Hid (Below _ _ V0) := q2; clear q1 q2 q3; simp only [Act.put, List.setIfInBounds_toArray, List.set_cons_zero, List.set_cons_succ])
  refine wp_loop_rounds 1 ?_
  rw [rounds_succ]
  go_wp2_with fail
  go_ret
  exact ⟨rfl, HG.out.be B0.out, Kp.of_below B0.out⟩
set_option maxRecDepth 100000 in
set_option maxHeartbeats 4000000 in
theorem layLG1 (w0 : World) (S q : Nat) (f f1 : ByteArray → List (BitVec 8)) (hq : q < 999980) (t : Nat) (s0 : ByteArray) (hs0 : isK s0.size = true) (n0 : Nat) (hl0 : n0 < 2 ^ 256) (N0 : List Value) (hN0 : N0 = lnl s0 n0) (hf0 : f1 = upd f s0 (enc n0)) (g cap : Nat) (CU : List Value) (hCU : CU.take 5 = N0 ++ []) (LP : List Value) (hLP : LP = pgl S t) (w : World) (hR : Row w g CU 65) (h : Lg w0 w S q f) :
    Calls Tryd.prog 29 #[.agg LP.toArray, .slice (some ⟨g, 0, none⟩) 1 cap] w fun e w' => e = .returned (.int .i64 0) ∧ Lg w0 w' S (q + 1) f1 ∧ Kp w w' := by
  have HLPE : Hid (LP = pgl S t) := hLP
  have HLPI : Hid ((Tryd.prog.info? 58).map (·.size) = some LP.length) := by show _ = _; rw [hLP]; exact info_pgl S t
  have HLPJ : Hid ((Tryd.prog.info? 58).map (·.size) = some LP.toArray.size) := by show _ = _; rw [List.size_toArray, hLP]; exact info_pgl S t
  have HLPN : Hid (LP.length = zP.length) := by show _ = _; rw [hLP]; exact rfl
  have HLPO : Hid (LP.toArray.all (·.oneCell') = true) := by show _ = true; rw [hLP]; exact pgl_one S t
  have HQ : Hid (q < 999980) := hq
  have HG : Hid (Lg w0 w S q f) := h
  have HR : Hid (Row w g CU 65) := hR
  obtain ⟨A0, hA0⟩ : ∃ L : List Value, L = wq n0 := ⟨_, rfl⟩
  have HA0E : Hid (A0 = wq n0) := hA0
  have HA0I : Hid ((Tryd.prog.info? 25).map (·.size) = some A0.length) := by show _ = _; rw [hA0]; exact info_wq _
  have HA0J : Hid ((Tryd.prog.info? 25).map (·.size) = some A0.toArray.size) := by show _ = _; rw [List.size_toArray, hA0]; exact info_wq _
  have HA0N : Hid (A0.length = zW.length) := by show _ = _; rw [hA0]; exact wq_len _
  have HA0O : Hid (A0.toArray.all (·.oneCell') = true) := by show _ = true; rw [hA0]; exact wq_one _
  have HN0E : Hid (N0 = lnl s0 n0) := hN0
  have HN0I : Hid ((Tryd.prog.info? 65).map (·.size) = some N0.length) := by show _ = _; rw [hN0]; exact info_lnl _ _
  have HN0J : Hid ((Tryd.prog.info? 65).map (·.size) = some N0.toArray.size) := by show _ = _; rw [List.size_toArray, hN0]; exact info_lnl _ _
  have HN0N : Hid (N0.length = zL.length) := by show _ = _; rw [hN0]; exact lnl_len _ _
  have HN0O : Hid (N0.toArray.all (·.oneCell') = true) := by show _ = true; rw [hN0]; exact lnl_one _ _
  have HS0 : Hid (isK s0.size = true) := hs0
  have HL0 : Hid (n0 < 2 ^ 256) := hl0
  have HF0 : Hid (f1 = upd f s0 (enc n0)) := hf0
  have HSG0 : Hid (CU.take 5 = (([] : List Value)) ++ (N0 ++ [])) := hCU.trans (by simp)
  have HPL0 : Hid ((([] : List Value)).length = 0) := by show _ = _; simp
  clear hLP hCU hq h hR hA0 hN0 hs0 hl0 hf0
  go_enter Tryd.func29, Tryd.ntmps29
  go_wp2_with (refine wpList_boxG 58 rfl (.tmp 0) rfl LP rfl ?_; intro V0 q1 q2 q3; have R2 : Hid (Row V0 _ LP 58) := q1; have B0 : Hid (Below _ _ V0) := q2; clear q1 q2 q3; simp only [Act.put, List.setIfInBounds_toArray, List.set_cons_zero, List.set_cons_succ])
  obtain ⟨b2, hb2⟩ : ∃ b, b = w.heap.size := ⟨_, rfl⟩
  replace R2 : Hid (Row V0 b2 LP 58) := by rw [hb2]; exact R2.out
  rw [← hb2]
  replace HG : Hid (Lg w0 V0 S q f) := HG.out.be B0.out
  have HK : Hid (Kp w V0) := Kp.of_below B0.out
  replace HR : Hid (Row V0 g CU 65) := Row.below HR.out B0.out HR.out.lt
  clear hb2 B0
  refine wp_loop_rounds 2 ?_
  rw [rounds_succ]
  have RG : Hid (V0.rangeAt g 0 N0) := seg HR.out HSG0.out HPL0.out
  obtain ⟨b6, hb6⟩ : ∃ b, b = V0.heap.size := ⟨_, rfl⟩
  have HB6 : Hid (b6 = V0.heap.size) := hb6
  clear hb6
  go_upto_region 4 with (first
    | (refine wpList_load_w rfl 65 (.tmp 12) rfl g 0 rfl N0 _ RG.out Tryd.underlying65 rfl HN0I.out ?_; simp only [Act.put, List.setIfInBounds_toArray, List.set_cons_zero, List.set_cons_succ])
    | (refine wpList_allocL rfl rfl ?_; intro X6 q1 q2 q3; have R6 : Hid (Row X6 _ zL 65) := q1; have B6 : Hid (Below _ _ X6) := q2; clear q1 q2 q3; simp only [Act.put, List.setIfInBounds_toArray, List.set_cons_zero, List.set_cons_succ])
    | (refine wpList_storeL rfl 65 (.tmp 6) (.tmp 13) rfl V0.heap.size N0 zL 65 rfl rfl R6.out HN0N.out HN0I.out HN0O.out ?_; intro Y6 q1 q2; have HY6 : Hid (Y6 = _) := q1; have RY6 : Hid (Row Y6 V0.heap.size N0 65) := q2; clear q1 q2; simp only [Act.put]))
  rw [← HB6.out] at RY6 HY6
  rw [← HB6.out]
  have b8 : Below V0.heap.size V0 Y6 := by rw [HY6.out]; exact below_setCells B6.out (by rw [HB6.out]; exact Nat.le_refl _) _
  have r2 := Row.below R2.out b8 R2.out.lt
  have r6 := RY6.out
  have hG := HG.out.be b8
  have hK := HK.out.trans (Kp.of_below b8)
  have hb1 := Below.refl Y6.heap.size Y6
  have hR := Row.below HR.out b8 HR.out.lt
  clear R2 RY6 HG HK B6 HY6 HB6 R6 b8 RG HR
  refine wp_named fun a0 ha0 => ?_
  have hsz : a0.tmps.size = 26 := by rw [ha0]; rfl
  have zs2 : a0.eval (.tmp 2) = .pointer (some ⟨b2, 0, none⟩) := by rw [ha0]; rfl
  have zs6 : a0.eval (.tmp 6) = .pointer (some ⟨b6, 0, none⟩) := by rw [ha0]; rfl
  obtain ⟨D, hD⟩ : ∃ D : List (Tmp × SP), D = [(14, SP.is (.pointer (some ⟨b2, 0, none⟩))), (15, SP.is (.pointer (some ⟨S, 0, none⟩))), (16, SP.is (.pointer (some ⟨b6, 0, none⟩))), (17, SP.is (.string s0)), (18, SP.is (.pointer (some ⟨b6, 1, none⟩))), (19, SP.is (.agg A0.toArray)), (20, SP.any), (21, SP.is (.int .i64 0)), (7, SP.is (.int .i64 0))] := ⟨_, rfl⟩
  refine wp_region_then (by kernel_rfl) 7 (by decide) (by kernel_rfl) (fun listed ac W => Fp D a0 listed ac W ∧ Below Y6.heap.size Y6 W ∧ Row W b2 LP 58 ∧ Row W b6 N0 65 ∧ Row W g CU 65 ∧ Lg w0 W S (q) f ∧ Kp w W ∧ (listed.getD 6 false = true → (SP.enc n0).P W (ac.eval (.tmp 20)))) (fun listed ac W => Fp D a0 listed ac W ∧ Lg w0 W S (q + 1) f1 ∧ Kp w W ∧ Row W b2 LP 58 ∧ Row W g CU 65) ?_ ?_ ?_ ?_ ?_
  · exact ⟨Fp.start D a0 _ _, Below.drew hb1, Row.drew r2, Row.drew r6, Row.drew hR, hG.below (Below.drew (Below.refl _ _)), hK.below (Below.drew (Below.refl _ _)), (fun h => (start_no h).elim)⟩
  · clear ha0 hb1 r2 r6 hR hG hK
    intro listed ac W k hl hI hdn hk hne hnl
    replace hl : listed.size = 9 := hl
    obtain ⟨hF, hb1, r2, r6, hR, hG, hK, ti6⟩ := hI
    have hk1 : k < 9 := List.mem_range.1 (List.mem_filter.1 hk).1
    rcases (show k = 0 ∨ k = 1 ∨ k = 2 ∨ k = 3 ∨ k = 4 ∨ k = 5 ∨ k = 6 ∨ k = 7 ∨ k = 8 by omega) with rfl | rfl | rfl | rfl | rfl | rfl | rfl | rfl | rfl
    · have hk3 := hk
      have e2 := ((hF.keep 2 (by rw [hD]; rfl)).trans zs2)
      exact wpOp_plain rfl rfl (wp_f_p0 b2 rfl e2 ⟨(hF.put 0 14 (SP.is (.pointer (some ⟨b2, 0, none⟩))) (.pointer (some ⟨b2, 0, none⟩)) (by rw [hD]; rfl) rfl (by rw [hD]; rfl) (by rw [hsz]; decide) (by rw [hl]; decide)), hb1, r2, r6, hR, hG, hK, (fun h1 => by change (SP.enc n0).P _ ((ac.put (some 14) _).eval (.tmp 20)); rw [eval_put_other ac _ (by decide)]; exact ti6 (by rwa [getD_set _ _ _ (by decide)] at h1))⟩)
    · have hk3 := hk
      have e14 := (hF.done 0 (14, SP.is (.pointer (some ⟨b2, 0, none⟩))) (by rw [hD]; rfl) (ready_dep hk 0 (by kernel_rfl)))
      exact wpOp_plain rfl rfl (wp_loadp rfl b2 0 e14 _ (r2.cell 0 _ (by rw [HLPE.out]; rfl)) ⟨(hF.put 1 15 (SP.is (.pointer (some ⟨S, 0, none⟩))) (.pointer (some ⟨S, 0, none⟩)) (by rw [hD]; rfl) rfl (by rw [hD]; rfl) (by rw [hsz]; decide) (by rw [hl]; decide)), hb1, r2, r6, hR, hG, hK, (fun h1 => by change (SP.enc n0).P _ ((ac.put (some 15) _).eval (.tmp 20)); rw [eval_put_other ac _ (by decide)]; exact ti6 (by rwa [getD_set _ _ _ (by decide)] at h1))⟩)
    · have hk3 := hk
      have e6 := ((hF.keep 6 (by rw [hD]; rfl)).trans zs6)
      exact wpOp_plain rfl rfl (wp_f_l b6 0 (.inl rfl) rfl e6 ⟨(hF.put 2 16 (SP.is (.pointer (some ⟨b6, 0, none⟩))) (.pointer (some ⟨b6, 0, none⟩)) (by rw [hD]; rfl) rfl (by rw [hD]; rfl) (by rw [hsz]; decide) (by rw [hl]; decide)), hb1, r2, r6, hR, hG, hK, (fun h1 => by change (SP.enc n0).P _ ((ac.put (some 16) _).eval (.tmp 20)); rw [eval_put_other ac _ (by decide)]; exact ti6 (by rwa [getD_set _ _ _ (by decide)] at h1))⟩)
    · have hk3 := hk
      have e16 := (hF.done 2 (16, SP.is (.pointer (some ⟨b6, 0, none⟩))) (by rw [hD]; rfl) (ready_dep hk 2 (by kernel_rfl)))
      exact wpOp_plain rfl rfl (wp_loads rfl b6 0 e16 _ (by have q := r6; rw [HN0E.out] at q; exact lnl_s q) ⟨(hF.put 3 17 (SP.is (.string s0)) (.string s0) (by rw [hD]; rfl) rfl (by rw [hD]; rfl) (by rw [hsz]; decide) (by rw [hl]; decide)), hb1, r2, r6, hR, hG, hK, (fun h1 => by change (SP.enc n0).P _ ((ac.put (some 17) _).eval (.tmp 20)); rw [eval_put_other ac _ (by decide)]; exact ti6 (by rwa [getD_set _ _ _ (by decide)] at h1))⟩)
    · have hk3 := hk
      have e6 := ((hF.keep 6 (by rw [hD]; rfl)).trans zs6)
      exact wpOp_plain rfl rfl (wp_f_l b6 1 (.inr rfl) rfl e6 ⟨(hF.put 4 18 (SP.is (.pointer (some ⟨b6, 1, none⟩))) (.pointer (some ⟨b6, 1, none⟩)) (by rw [hD]; rfl) rfl (by rw [hD]; rfl) (by rw [hsz]; decide) (by rw [hl]; decide)), hb1, r2, r6, hR, hG, hK, (fun h1 => by change (SP.enc n0).P _ ((ac.put (some 18) _).eval (.tmp 20)); rw [eval_put_other ac _ (by decide)]; exact ti6 (by rwa [getD_set _ _ _ (by decide)] at h1))⟩)
    · have hk3 := hk
      exact wpOp_plain rfl rfl (wp_load_mid 25 (.tmp 18) rfl b6 1 (hF.done 4 (18, SP.is (.pointer (some ⟨b6, 1, none⟩))) (by rw [hD]; rfl) (ready_dep hk 4 (by kernel_rfl))) A0 _ (by rw [HA0E.out]; have q := r6; rw [HN0E.out] at q; exact lnl_am q) Tryd.underlying25 rfl HA0I.out ⟨(hF.put 5 19 (SP.is (.agg A0.toArray)) (.agg A0.toArray) (by rw [hD]; rfl) rfl (by rw [hD]; rfl) (by rw [hsz]; decide) (by rw [hl]; decide)), hb1, r2, r6, hR, hG, hK, (fun h1 => by change (SP.enc n0).P _ ((ac.put (some 19) _).eval (.tmp 20)); rw [eval_put_other ac _ (by decide)]; exact ti6 (by rwa [getD_set _ _ _ (by decide)] at h1))⟩)
    · have hk3 := hk
      have e19 := (hF.done 5 (19, SP.is (.agg A0.toArray)) (by rw [hD]; rfl) (ready_dep hk 5 (by kernel_rfl)))
      refine wpOp_plain rfl rfl (wp_fcall_v 46 #[.agg A0.toArray] rfl rfl (by show [ac.eval (.tmp 19)] = _; rw [show ac.eval (.tmp 19) = .agg A0.toArray from e19]) (by go_simp) ((laidG n0 HL0.out A0 HA0E.out W).mono ?_))
      rintro e W2 ⟨A, n, c, rfl, hln, hbw, hnn, hB⟩
      exact ⟨_, rfl, ((hF.world hB).put 6 20 (SP.any) (.slice A n c) (by rw [hD]; rfl) trivial (by rw [hD]; rfl) (by rw [hsz]; decide) (by rw [hl]; decide)), hb1.trans (hB.mono hb1.size), Row.below r2 hB (Row.lt r2), Row.below r6 hB (Row.lt r6), Row.below hR hB (Row.lt hR), hG.below hB, hK.below hB, (fun _ => by change (SP.enc n0).P _ ((ac.put (some 20) _).eval (.tmp 20)); rw [eval_put_same ac _ (by rw [hF.size, hsz]; decide)]; exact ⟨A, n, c, rfl, hln, hbw, hnn⟩)⟩
    · exact absurd rfl hne
    · exact absurd (ready_dep hk 7 (by kernel_rfl)) hnl
  · clear ha0 hb1 r2 r6 hR hG hK
    intro listed ac W hl hI hdn hk
    replace hl : listed.size = 9 := hl
    obtain ⟨hF, hb1, r2, r6, hR, hG, hK, ti6⟩ := hI
    have e15 := (hF.done 1 (15, SP.is (.pointer (some ⟨S, 0, none⟩))) (by rw [hD]; rfl) (ready_dep hk 1 (by kernel_rfl)))
    have e17 := (hF.done 3 (17, SP.is (.string s0)) (by rw [hD]; rfl) (ready_dep hk 3 (by kernel_rfl)))
    obtain ⟨A, n, c, e20, hln, hbw, hnn⟩ := (ti6 (ready_dep hk 6 (by kernel_rfl)))
    refine wpOp_plain rfl rfl (wp_fcall_v 42 #[.pointer (some ⟨S, 0, none⟩), .string s0, .slice A n c] rfl rfl (by show [ac.eval (.tmp 15), ac.eval (.tmp 17), ac.eval (.tmp 20)] = _; rw [show ac.eval (.tmp 15) = _ from e15, show ac.eval (.tmp 17) = _ from e17, e20]) (by go_simp) (((show Calls Tryd.prog 42 #[.pointer (some ⟨S, 0, none⟩), .string s0, .slice A n c] W fun e w' => e = .returned (.int .i64 0) ∧ Lg w0 w' S (q + 1) f1 ∧ Kp W w' by rw [HF0.out]; exact put_lg w0 S (q) f (by have := HQ.out; omega) s0 HS0.out A n c (enc n0) hln.symm (by rw [hln]; exact Nat.le_trans (enc_len n0) (by decide)) hnn W hG (fun W2 k2 => Bw.sl (k2.bw hbw)))).mono ?_))
    rintro e W2 ⟨rfl, hG2, hK2⟩
    have hT : Fp D a0 listed ac W2 := hF.turn (by rw [hD]; simp only [List.forall_mem_cons, List.not_mem_nil, false_implies, implies_true, and_true]; exact ⟨fun _ h => h, fun _ h => h, fun _ h => h, fun _ h => h, fun _ h => h, fun _ h => h, fun _ h => h, fun _ h => h, fun _ h => h⟩)
    exact ⟨_, rfl, (hT.put 7 21 (SP.is (.int .i64 0)) _ (by rw [hD]; rfl) rfl (by rw [hD]; rfl) (by rw [hsz]; decide) (by rw [hl]; decide)), hG2, hK.trans hK2, hK2.row _ _ _ (by decide) r2, hK2.row _ _ _ (by decide) hR⟩
  · clear ha0 hb1 r2 r6 hR hG hK
    intro listed ac W k hl hJ hdn hk hne hyl
    replace hl : listed.size = 9 := hl
    obtain ⟨hF, hG, hK, r2, hR⟩ := hJ
    have hk1 : k < 9 := List.mem_range.1 (List.mem_filter.1 hk).1
    rcases (show k = 0 ∨ k = 1 ∨ k = 2 ∨ k = 3 ∨ k = 4 ∨ k = 5 ∨ k = 6 ∨ k = 7 ∨ k = 8 by omega) with rfl | rfl | rfl | rfl | rfl | rfl | rfl | rfl | rfl
    · exact absurd (hdn 1 (hdn 7 hyl 1 (by kernel_rfl)) 0 (by kernel_rfl)) (not_yet hk)
    · exact absurd (hdn 7 hyl 1 (by kernel_rfl)) (not_yet hk)
    · exact absurd (hdn 3 (hdn 7 hyl 3 (by kernel_rfl)) 2 (by kernel_rfl)) (not_yet hk)
    · exact absurd (hdn 7 hyl 3 (by kernel_rfl)) (not_yet hk)
    · exact absurd (hdn 5 (hdn 6 (hdn 7 hyl 6 (by kernel_rfl)) 5 (by kernel_rfl)) 4 (by kernel_rfl)) (not_yet hk)
    · exact absurd (hdn 6 (hdn 7 hyl 6 (by kernel_rfl)) 5 (by kernel_rfl)) (not_yet hk)
    · exact absurd (hdn 7 hyl 6 (by kernel_rfl)) (not_yet hk)
    · exact absurd rfl hne
    · exact wpOp_plain rfl rfl (wp_assign_v (ac.eval (.tmp 21)) rfl rfl ⟨(hF.put 8 7 (SP.is (.int .i64 0)) _ (by rw [hD]; rfl) (hF.done 7 (21, SP.is (.int .i64 0)) (by rw [hD]; rfl) (ready_dep hk 7 (by kernel_rfl))) (by rw [hD]; rfl) (by rw [hsz]; decide) (by rw [hl]; decide)), hG, hK, r2, hR⟩)
  · clear hb1 r2 r6 hR hG hK
    intro listed ac W hl hJ hr
    replace hl : listed.size = 9 := hl
    obtain ⟨hF, hG, hK, r2, hR⟩ := hJ
    have hall := all_listed (by kernel_rfl) hl hr
    have h14 : ac.eval (.tmp 14) = .pointer (some ⟨b2, 0, none⟩) := hF.done 0 (14, SP.is (.pointer (some ⟨b2, 0, none⟩))) (by rw [hD]; rfl) (hall 0 (by decide))
    have h15 : ac.eval (.tmp 15) = .pointer (some ⟨S, 0, none⟩) := hF.done 1 (15, SP.is (.pointer (some ⟨S, 0, none⟩))) (by rw [hD]; rfl) (hall 1 (by decide))
    have h16 : ac.eval (.tmp 16) = .pointer (some ⟨b6, 0, none⟩) := hF.done 2 (16, SP.is (.pointer (some ⟨b6, 0, none⟩))) (by rw [hD]; rfl) (hall 2 (by decide))
    have h17 : ac.eval (.tmp 17) = .string s0 := hF.done 3 (17, SP.is (.string s0)) (by rw [hD]; rfl) (hall 3 (by decide))
    have h18 : ac.eval (.tmp 18) = .pointer (some ⟨b6, 1, none⟩) := hF.done 4 (18, SP.is (.pointer (some ⟨b6, 1, none⟩))) (by rw [hD]; rfl) (hall 4 (by decide))
    have h19 : ac.eval (.tmp 19) = .agg A0.toArray := hF.done 5 (19, SP.is (.agg A0.toArray)) (by rw [hD]; rfl) (hall 5 (by decide))
    obtain ⟨x20, h20⟩ : ∃ x, ac.eval (.tmp 20) = x := ⟨_, rfl⟩
    have h21 : ac.eval (.tmp 21) = .int .i64 0 := hF.done 7 (21, SP.is (.int .i64 0)) (by rw [hD]; rfl) (hall 7 (by decide))
    have h7 : ac.eval (.tmp 7) = .int .i64 0 := hF.done 8 (7, SP.is (.int .i64 0)) (by rw [hD]; rfl) (hall 8 (by decide))
    have ea := hF.lay [(14, .pointer (some ⟨b2, 0, none⟩)), (15, .pointer (some ⟨S, 0, none⟩)), (16, .pointer (some ⟨b6, 0, none⟩)), (17, .string s0), (18, .pointer (some ⟨b6, 1, none⟩)), (19, .agg A0.toArray), (20, x20), (21, .int .i64 0), (7, .int .i64 0)] (by rw [hD, hsz]; rfl) (by simp only [List.forall_mem_cons, List.not_mem_nil, false_implies, implies_true, and_true]; exact ⟨h14, h15, h16, h17, h18, h19, h20, h21, h7⟩)
    rw [ha0] at ea
    simp only [List.foldl_cons, List.foldl_nil, List.setIfInBounds_toArray, List.set_cons_zero, List.set_cons_succ] at ea
    clear hF hall hr hl hD zs2 zs6 ha0 hsz h14 h15 h16 h17 h18 h19 h20 h21 h7
    subst ea
    obtain ⟨V1, hV⟩ : ∃ V, V = W := ⟨_, rfl⟩
    rw [← hV]
    rw [← hV] at hG hK r2 hR
    clear hV
    have HG : Hid (Lg w0 V1 S (q + 1) f1) := hG
    have HK : Hid (Kp w V1) := hK
    have R2 : Hid (Row V1 b2 LP 58) := r2
    have HR : Hid (Row V1 g CU 65) := hR
    clear hG hK r2 hR
    go_wp2_with fail
    rw [rounds_succ]
    go_wp2_with fail
    go_ret
    exact ⟨rfl, HG.out, HK.out⟩
set_option maxRecDepth 100000 in
set_option maxHeartbeats 4000000 in
theorem layLG2 (w0 : World) (S q : Nat) (f f1 f2 : ByteArray → List (BitVec 8)) (hq : q < 999980) (t : Nat) (s0 : ByteArray) (hs0 : isK s0.size = true) (n0 : Nat) (hl0 : n0 < 2 ^ 256) (N0 : List Value) (hN0 : N0 = lnl s0 n0) (s1 : ByteArray) (hs1 : isK s1.size = true) (n1 : Nat) (hl1 : n1 < 2 ^ 256) (N1 : List Value) (hN1 : N1 = lnl s1 n1) (hf0 : f1 = upd f s0 (enc n0)) (hf1 : f2 = upd f1 s1 (enc n1)) (g cap : Nat) (CU : List Value) (hCU : CU.take 10 = N0 ++ (N1 ++ [])) (LP : List Value) (hLP : LP = pgl S t) (w : World) (hR : Row w g CU 65) (h : Lg w0 w S q f) :
    Calls Tryd.prog 29 #[.agg LP.toArray, .slice (some ⟨g, 0, none⟩) 2 cap] w fun e w' => e = .returned (.int .i64 0) ∧ Lg w0 w' S (q + 2) f2 ∧ Kp w w' := by
  have HLPE : Hid (LP = pgl S t) := hLP
  have HLPI : Hid ((Tryd.prog.info? 58).map (·.size) = some LP.length) := by show _ = _; rw [hLP]; exact info_pgl S t
  have HLPJ : Hid ((Tryd.prog.info? 58).map (·.size) = some LP.toArray.size) := by show _ = _; rw [List.size_toArray, hLP]; exact info_pgl S t
  have HLPN : Hid (LP.length = zP.length) := by show _ = _; rw [hLP]; exact rfl
  have HLPO : Hid (LP.toArray.all (·.oneCell') = true) := by show _ = true; rw [hLP]; exact pgl_one S t
  have HQ : Hid (q < 999980) := hq
  have HG : Hid (Lg w0 w S q f) := h
  have HR : Hid (Row w g CU 65) := hR
  obtain ⟨A0, hA0⟩ : ∃ L : List Value, L = wq n0 := ⟨_, rfl⟩
  have HA0E : Hid (A0 = wq n0) := hA0
  have HA0I : Hid ((Tryd.prog.info? 25).map (·.size) = some A0.length) := by show _ = _; rw [hA0]; exact info_wq _
  have HA0J : Hid ((Tryd.prog.info? 25).map (·.size) = some A0.toArray.size) := by show _ = _; rw [List.size_toArray, hA0]; exact info_wq _
  have HA0N : Hid (A0.length = zW.length) := by show _ = _; rw [hA0]; exact wq_len _
  have HA0O : Hid (A0.toArray.all (·.oneCell') = true) := by show _ = true; rw [hA0]; exact wq_one _
  have HN0E : Hid (N0 = lnl s0 n0) := hN0
  have HN0I : Hid ((Tryd.prog.info? 65).map (·.size) = some N0.length) := by show _ = _; rw [hN0]; exact info_lnl _ _
  have HN0J : Hid ((Tryd.prog.info? 65).map (·.size) = some N0.toArray.size) := by show _ = _; rw [List.size_toArray, hN0]; exact info_lnl _ _
  have HN0N : Hid (N0.length = zL.length) := by show _ = _; rw [hN0]; exact lnl_len _ _
  have HN0O : Hid (N0.toArray.all (·.oneCell') = true) := by show _ = true; rw [hN0]; exact lnl_one _ _
  have HS0 : Hid (isK s0.size = true) := hs0
  have HL0 : Hid (n0 < 2 ^ 256) := hl0
  have HF0 : Hid (f1 = upd f s0 (enc n0)) := hf0
  have HSG0 : Hid (CU.take 10 = (([] : List Value)) ++ (N0 ++ (N1 ++ []))) := hCU.trans (by simp)
  have HPL0 : Hid ((([] : List Value)).length = 0) := by show _ = _; simp
  obtain ⟨A1, hA1⟩ : ∃ L : List Value, L = wq n1 := ⟨_, rfl⟩
  have HA1E : Hid (A1 = wq n1) := hA1
  have HA1I : Hid ((Tryd.prog.info? 25).map (·.size) = some A1.length) := by show _ = _; rw [hA1]; exact info_wq _
  have HA1J : Hid ((Tryd.prog.info? 25).map (·.size) = some A1.toArray.size) := by show _ = _; rw [List.size_toArray, hA1]; exact info_wq _
  have HA1N : Hid (A1.length = zW.length) := by show _ = _; rw [hA1]; exact wq_len _
  have HA1O : Hid (A1.toArray.all (·.oneCell') = true) := by show _ = true; rw [hA1]; exact wq_one _
  have HN1E : Hid (N1 = lnl s1 n1) := hN1
  have HN1I : Hid ((Tryd.prog.info? 65).map (·.size) = some N1.length) := by show _ = _; rw [hN1]; exact info_lnl _ _
  have HN1J : Hid ((Tryd.prog.info? 65).map (·.size) = some N1.toArray.size) := by show _ = _; rw [List.size_toArray, hN1]; exact info_lnl _ _
  have HN1N : Hid (N1.length = zL.length) := by show _ = _; rw [hN1]; exact lnl_len _ _
  have HN1O : Hid (N1.toArray.all (·.oneCell') = true) := by show _ = true; rw [hN1]; exact lnl_one _ _
  have HS1 : Hid (isK s1.size = true) := hs1
  have HL1 : Hid (n1 < 2 ^ 256) := hl1
  have HF1 : Hid (f2 = upd f1 s1 (enc n1)) := hf1
  have HSG1 : Hid (CU.take 10 = (N0) ++ (N1 ++ [])) := hCU.trans (by simp)
  have HPL1 : Hid ((N0).length = 5) := by show _ = _; simp [hN0, lnl_len]
  clear hLP hCU hq h hR hA0 hN0 hs0 hl0 hf0 hA1 hN1 hs1 hl1 hf1
  go_enter Tryd.func29, Tryd.ntmps29
  go_wp2_with (refine wpList_boxG 58 rfl (.tmp 0) rfl LP rfl ?_; intro V0 q1 q2 q3; have R2 : Hid (Row V0 _ LP 58) := q1; have B0 : Hid (Below _ _ V0) := q2; clear q1 q2 q3; simp only [Act.put, List.setIfInBounds_toArray, List.set_cons_zero, List.set_cons_succ])
  obtain ⟨b2, hb2⟩ : ∃ b, b = w.heap.size := ⟨_, rfl⟩
  replace R2 : Hid (Row V0 b2 LP 58) := by rw [hb2]; exact R2.out
  rw [← hb2]
  replace HG : Hid (Lg w0 V0 S q f) := HG.out.be B0.out
  have HK : Hid (Kp w V0) := Kp.of_below B0.out
  replace HR : Hid (Row V0 g CU 65) := Row.below HR.out B0.out HR.out.lt
  clear hb2 B0
  refine wp_loop_rounds 3 ?_
  rw [rounds_succ]
  have RG : Hid (V0.rangeAt g 0 N0) := seg HR.out HSG0.out HPL0.out
  obtain ⟨b6, hb6⟩ : ∃ b, b = V0.heap.size := ⟨_, rfl⟩
  have HB6 : Hid (b6 = V0.heap.size) := hb6
  clear hb6
  go_upto_region 4 with (first
    | (refine wpList_load_w rfl 65 (.tmp 12) rfl g 0 rfl N0 _ RG.out Tryd.underlying65 rfl HN0I.out ?_; simp only [Act.put, List.setIfInBounds_toArray, List.set_cons_zero, List.set_cons_succ])
    | (refine wpList_allocL rfl rfl ?_; intro X6 q1 q2 q3; have R6 : Hid (Row X6 _ zL 65) := q1; have B6 : Hid (Below _ _ X6) := q2; clear q1 q2 q3; simp only [Act.put, List.setIfInBounds_toArray, List.set_cons_zero, List.set_cons_succ])
    | (refine wpList_storeL rfl 65 (.tmp 6) (.tmp 13) rfl V0.heap.size N0 zL 65 rfl rfl R6.out HN0N.out HN0I.out HN0O.out ?_; intro Y6 q1 q2; have HY6 : Hid (Y6 = _) := q1; have RY6 : Hid (Row Y6 V0.heap.size N0 65) := q2; clear q1 q2; simp only [Act.put]))
  rw [← HB6.out] at RY6 HY6
  rw [← HB6.out]
  have b8 : Below V0.heap.size V0 Y6 := by rw [HY6.out]; exact below_setCells B6.out (by rw [HB6.out]; exact Nat.le_refl _) _
  have r2 := Row.below R2.out b8 R2.out.lt
  have r6 := RY6.out
  have hG := HG.out.be b8
  have hK := HK.out.trans (Kp.of_below b8)
  have hb1 := Below.refl Y6.heap.size Y6
  have hR := Row.below HR.out b8 HR.out.lt
  clear R2 RY6 HG HK B6 HY6 HB6 R6 b8 RG HR
  refine wp_named fun a0 ha0 => ?_
  have hsz : a0.tmps.size = 26 := by rw [ha0]; rfl
  have zs2 : a0.eval (.tmp 2) = .pointer (some ⟨b2, 0, none⟩) := by rw [ha0]; rfl
  have zs6 : a0.eval (.tmp 6) = .pointer (some ⟨b6, 0, none⟩) := by rw [ha0]; rfl
  obtain ⟨D, hD⟩ : ∃ D : List (Tmp × SP), D = [(14, SP.is (.pointer (some ⟨b2, 0, none⟩))), (15, SP.is (.pointer (some ⟨S, 0, none⟩))), (16, SP.is (.pointer (some ⟨b6, 0, none⟩))), (17, SP.is (.string s0)), (18, SP.is (.pointer (some ⟨b6, 1, none⟩))), (19, SP.is (.agg A0.toArray)), (20, SP.any), (21, SP.is (.int .i64 0)), (7, SP.is (.int .i64 0))] := ⟨_, rfl⟩
  refine wp_region_then (by kernel_rfl) 7 (by decide) (by kernel_rfl) (fun listed ac W => Fp D a0 listed ac W ∧ Below Y6.heap.size Y6 W ∧ Row W b2 LP 58 ∧ Row W b6 N0 65 ∧ Row W g CU 65 ∧ Lg w0 W S (q) f ∧ Kp w W ∧ (listed.getD 6 false = true → (SP.enc n0).P W (ac.eval (.tmp 20)))) (fun listed ac W => Fp D a0 listed ac W ∧ Lg w0 W S (q + 1) f1 ∧ Kp w W ∧ Row W b2 LP 58 ∧ Row W g CU 65) ?_ ?_ ?_ ?_ ?_
  · exact ⟨Fp.start D a0 _ _, Below.drew hb1, Row.drew r2, Row.drew r6, Row.drew hR, hG.below (Below.drew (Below.refl _ _)), hK.below (Below.drew (Below.refl _ _)), (fun h => (start_no h).elim)⟩
  · clear ha0 hb1 r2 r6 hR hG hK
    intro listed ac W k hl hI hdn hk hne hnl
    replace hl : listed.size = 9 := hl
    obtain ⟨hF, hb1, r2, r6, hR, hG, hK, ti6⟩ := hI
    have hk1 : k < 9 := List.mem_range.1 (List.mem_filter.1 hk).1
    rcases (show k = 0 ∨ k = 1 ∨ k = 2 ∨ k = 3 ∨ k = 4 ∨ k = 5 ∨ k = 6 ∨ k = 7 ∨ k = 8 by omega) with rfl | rfl | rfl | rfl | rfl | rfl | rfl | rfl | rfl
    · have hk3 := hk
      have e2 := ((hF.keep 2 (by rw [hD]; rfl)).trans zs2)
      exact wpOp_plain rfl rfl (wp_f_p0 b2 rfl e2 ⟨(hF.put 0 14 (SP.is (.pointer (some ⟨b2, 0, none⟩))) (.pointer (some ⟨b2, 0, none⟩)) (by rw [hD]; rfl) rfl (by rw [hD]; rfl) (by rw [hsz]; decide) (by rw [hl]; decide)), hb1, r2, r6, hR, hG, hK, (fun h1 => by change (SP.enc n0).P _ ((ac.put (some 14) _).eval (.tmp 20)); rw [eval_put_other ac _ (by decide)]; exact ti6 (by rwa [getD_set _ _ _ (by decide)] at h1))⟩)
    · have hk3 := hk
      have e14 := (hF.done 0 (14, SP.is (.pointer (some ⟨b2, 0, none⟩))) (by rw [hD]; rfl) (ready_dep hk 0 (by kernel_rfl)))
      exact wpOp_plain rfl rfl (wp_loadp rfl b2 0 e14 _ (r2.cell 0 _ (by rw [HLPE.out]; rfl)) ⟨(hF.put 1 15 (SP.is (.pointer (some ⟨S, 0, none⟩))) (.pointer (some ⟨S, 0, none⟩)) (by rw [hD]; rfl) rfl (by rw [hD]; rfl) (by rw [hsz]; decide) (by rw [hl]; decide)), hb1, r2, r6, hR, hG, hK, (fun h1 => by change (SP.enc n0).P _ ((ac.put (some 15) _).eval (.tmp 20)); rw [eval_put_other ac _ (by decide)]; exact ti6 (by rwa [getD_set _ _ _ (by decide)] at h1))⟩)
    · have hk3 := hk
      have e6 := ((hF.keep 6 (by rw [hD]; rfl)).trans zs6)
      exact wpOp_plain rfl rfl (wp_f_l b6 0 (.inl rfl) rfl e6 ⟨(hF.put 2 16 (SP.is (.pointer (some ⟨b6, 0, none⟩))) (.pointer (some ⟨b6, 0, none⟩)) (by rw [hD]; rfl) rfl (by rw [hD]; rfl) (by rw [hsz]; decide) (by rw [hl]; decide)), hb1, r2, r6, hR, hG, hK, (fun h1 => by change (SP.enc n0).P _ ((ac.put (some 16) _).eval (.tmp 20)); rw [eval_put_other ac _ (by decide)]; exact ti6 (by rwa [getD_set _ _ _ (by decide)] at h1))⟩)
    · have hk3 := hk
      have e16 := (hF.done 2 (16, SP.is (.pointer (some ⟨b6, 0, none⟩))) (by rw [hD]; rfl) (ready_dep hk 2 (by kernel_rfl)))
      exact wpOp_plain rfl rfl (wp_loads rfl b6 0 e16 _ (by have q := r6; rw [HN0E.out] at q; exact lnl_s q) ⟨(hF.put 3 17 (SP.is (.string s0)) (.string s0) (by rw [hD]; rfl) rfl (by rw [hD]; rfl) (by rw [hsz]; decide) (by rw [hl]; decide)), hb1, r2, r6, hR, hG, hK, (fun h1 => by change (SP.enc n0).P _ ((ac.put (some 17) _).eval (.tmp 20)); rw [eval_put_other ac _ (by decide)]; exact ti6 (by rwa [getD_set _ _ _ (by decide)] at h1))⟩)
    · have hk3 := hk
      have e6 := ((hF.keep 6 (by rw [hD]; rfl)).trans zs6)
      exact wpOp_plain rfl rfl (wp_f_l b6 1 (.inr rfl) rfl e6 ⟨(hF.put 4 18 (SP.is (.pointer (some ⟨b6, 1, none⟩))) (.pointer (some ⟨b6, 1, none⟩)) (by rw [hD]; rfl) rfl (by rw [hD]; rfl) (by rw [hsz]; decide) (by rw [hl]; decide)), hb1, r2, r6, hR, hG, hK, (fun h1 => by change (SP.enc n0).P _ ((ac.put (some 18) _).eval (.tmp 20)); rw [eval_put_other ac _ (by decide)]; exact ti6 (by rwa [getD_set _ _ _ (by decide)] at h1))⟩)
    · have hk3 := hk
      exact wpOp_plain rfl rfl (wp_load_mid 25 (.tmp 18) rfl b6 1 (hF.done 4 (18, SP.is (.pointer (some ⟨b6, 1, none⟩))) (by rw [hD]; rfl) (ready_dep hk 4 (by kernel_rfl))) A0 _ (by rw [HA0E.out]; have q := r6; rw [HN0E.out] at q; exact lnl_am q) Tryd.underlying25 rfl HA0I.out ⟨(hF.put 5 19 (SP.is (.agg A0.toArray)) (.agg A0.toArray) (by rw [hD]; rfl) rfl (by rw [hD]; rfl) (by rw [hsz]; decide) (by rw [hl]; decide)), hb1, r2, r6, hR, hG, hK, (fun h1 => by change (SP.enc n0).P _ ((ac.put (some 19) _).eval (.tmp 20)); rw [eval_put_other ac _ (by decide)]; exact ti6 (by rwa [getD_set _ _ _ (by decide)] at h1))⟩)
    · have hk3 := hk
      have e19 := (hF.done 5 (19, SP.is (.agg A0.toArray)) (by rw [hD]; rfl) (ready_dep hk 5 (by kernel_rfl)))
      refine wpOp_plain rfl rfl (wp_fcall_v 46 #[.agg A0.toArray] rfl rfl (by show [ac.eval (.tmp 19)] = _; rw [show ac.eval (.tmp 19) = .agg A0.toArray from e19]) (by go_simp) ((laidG n0 HL0.out A0 HA0E.out W).mono ?_))
      rintro e W2 ⟨A, n, c, rfl, hln, hbw, hnn, hB⟩
      exact ⟨_, rfl, ((hF.world hB).put 6 20 (SP.any) (.slice A n c) (by rw [hD]; rfl) trivial (by rw [hD]; rfl) (by rw [hsz]; decide) (by rw [hl]; decide)), hb1.trans (hB.mono hb1.size), Row.below r2 hB (Row.lt r2), Row.below r6 hB (Row.lt r6), Row.below hR hB (Row.lt hR), hG.below hB, hK.below hB, (fun _ => by change (SP.enc n0).P _ ((ac.put (some 20) _).eval (.tmp 20)); rw [eval_put_same ac _ (by rw [hF.size, hsz]; decide)]; exact ⟨A, n, c, rfl, hln, hbw, hnn⟩)⟩
    · exact absurd rfl hne
    · exact absurd (ready_dep hk 7 (by kernel_rfl)) hnl
  · clear ha0 hb1 r2 r6 hR hG hK
    intro listed ac W hl hI hdn hk
    replace hl : listed.size = 9 := hl
    obtain ⟨hF, hb1, r2, r6, hR, hG, hK, ti6⟩ := hI
    have e15 := (hF.done 1 (15, SP.is (.pointer (some ⟨S, 0, none⟩))) (by rw [hD]; rfl) (ready_dep hk 1 (by kernel_rfl)))
    have e17 := (hF.done 3 (17, SP.is (.string s0)) (by rw [hD]; rfl) (ready_dep hk 3 (by kernel_rfl)))
    obtain ⟨A, n, c, e20, hln, hbw, hnn⟩ := (ti6 (ready_dep hk 6 (by kernel_rfl)))
    refine wpOp_plain rfl rfl (wp_fcall_v 42 #[.pointer (some ⟨S, 0, none⟩), .string s0, .slice A n c] rfl rfl (by show [ac.eval (.tmp 15), ac.eval (.tmp 17), ac.eval (.tmp 20)] = _; rw [show ac.eval (.tmp 15) = _ from e15, show ac.eval (.tmp 17) = _ from e17, e20]) (by go_simp) (((show Calls Tryd.prog 42 #[.pointer (some ⟨S, 0, none⟩), .string s0, .slice A n c] W fun e w' => e = .returned (.int .i64 0) ∧ Lg w0 w' S (q + 1) f1 ∧ Kp W w' by rw [HF0.out]; exact put_lg w0 S (q) f (by have := HQ.out; omega) s0 HS0.out A n c (enc n0) hln.symm (by rw [hln]; exact Nat.le_trans (enc_len n0) (by decide)) hnn W hG (fun W2 k2 => Bw.sl (k2.bw hbw)))).mono ?_))
    rintro e W2 ⟨rfl, hG2, hK2⟩
    have hT : Fp D a0 listed ac W2 := hF.turn (by rw [hD]; simp only [List.forall_mem_cons, List.not_mem_nil, false_implies, implies_true, and_true]; exact ⟨fun _ h => h, fun _ h => h, fun _ h => h, fun _ h => h, fun _ h => h, fun _ h => h, fun _ h => h, fun _ h => h, fun _ h => h⟩)
    exact ⟨_, rfl, (hT.put 7 21 (SP.is (.int .i64 0)) _ (by rw [hD]; rfl) rfl (by rw [hD]; rfl) (by rw [hsz]; decide) (by rw [hl]; decide)), hG2, hK.trans hK2, hK2.row _ _ _ (by decide) r2, hK2.row _ _ _ (by decide) hR⟩
  · clear ha0 hb1 r2 r6 hR hG hK
    intro listed ac W k hl hJ hdn hk hne hyl
    replace hl : listed.size = 9 := hl
    obtain ⟨hF, hG, hK, r2, hR⟩ := hJ
    have hk1 : k < 9 := List.mem_range.1 (List.mem_filter.1 hk).1
    rcases (show k = 0 ∨ k = 1 ∨ k = 2 ∨ k = 3 ∨ k = 4 ∨ k = 5 ∨ k = 6 ∨ k = 7 ∨ k = 8 by omega) with rfl | rfl | rfl | rfl | rfl | rfl | rfl | rfl | rfl
    · exact absurd (hdn 1 (hdn 7 hyl 1 (by kernel_rfl)) 0 (by kernel_rfl)) (not_yet hk)
    · exact absurd (hdn 7 hyl 1 (by kernel_rfl)) (not_yet hk)
    · exact absurd (hdn 3 (hdn 7 hyl 3 (by kernel_rfl)) 2 (by kernel_rfl)) (not_yet hk)
    · exact absurd (hdn 7 hyl 3 (by kernel_rfl)) (not_yet hk)
    · exact absurd (hdn 5 (hdn 6 (hdn 7 hyl 6 (by kernel_rfl)) 5 (by kernel_rfl)) 4 (by kernel_rfl)) (not_yet hk)
    · exact absurd (hdn 6 (hdn 7 hyl 6 (by kernel_rfl)) 5 (by kernel_rfl)) (not_yet hk)
    · exact absurd (hdn 7 hyl 6 (by kernel_rfl)) (not_yet hk)
    · exact absurd rfl hne
    · exact wpOp_plain rfl rfl (wp_assign_v (ac.eval (.tmp 21)) rfl rfl ⟨(hF.put 8 7 (SP.is (.int .i64 0)) _ (by rw [hD]; rfl) (hF.done 7 (21, SP.is (.int .i64 0)) (by rw [hD]; rfl) (ready_dep hk 7 (by kernel_rfl))) (by rw [hD]; rfl) (by rw [hsz]; decide) (by rw [hl]; decide)), hG, hK, r2, hR⟩)
  · clear hb1 r2 r6 hR hG hK
    intro listed ac W hl hJ hr
    replace hl : listed.size = 9 := hl
    obtain ⟨hF, hG, hK, r2, hR⟩ := hJ
    have hall := all_listed (by kernel_rfl) hl hr
    have h14 : ac.eval (.tmp 14) = .pointer (some ⟨b2, 0, none⟩) := hF.done 0 (14, SP.is (.pointer (some ⟨b2, 0, none⟩))) (by rw [hD]; rfl) (hall 0 (by decide))
    have h15 : ac.eval (.tmp 15) = .pointer (some ⟨S, 0, none⟩) := hF.done 1 (15, SP.is (.pointer (some ⟨S, 0, none⟩))) (by rw [hD]; rfl) (hall 1 (by decide))
    have h16 : ac.eval (.tmp 16) = .pointer (some ⟨b6, 0, none⟩) := hF.done 2 (16, SP.is (.pointer (some ⟨b6, 0, none⟩))) (by rw [hD]; rfl) (hall 2 (by decide))
    have h17 : ac.eval (.tmp 17) = .string s0 := hF.done 3 (17, SP.is (.string s0)) (by rw [hD]; rfl) (hall 3 (by decide))
    have h18 : ac.eval (.tmp 18) = .pointer (some ⟨b6, 1, none⟩) := hF.done 4 (18, SP.is (.pointer (some ⟨b6, 1, none⟩))) (by rw [hD]; rfl) (hall 4 (by decide))
    have h19 : ac.eval (.tmp 19) = .agg A0.toArray := hF.done 5 (19, SP.is (.agg A0.toArray)) (by rw [hD]; rfl) (hall 5 (by decide))
    obtain ⟨x20, h20⟩ : ∃ x, ac.eval (.tmp 20) = x := ⟨_, rfl⟩
    have h21 : ac.eval (.tmp 21) = .int .i64 0 := hF.done 7 (21, SP.is (.int .i64 0)) (by rw [hD]; rfl) (hall 7 (by decide))
    have h7 : ac.eval (.tmp 7) = .int .i64 0 := hF.done 8 (7, SP.is (.int .i64 0)) (by rw [hD]; rfl) (hall 8 (by decide))
    have ea := hF.lay [(14, .pointer (some ⟨b2, 0, none⟩)), (15, .pointer (some ⟨S, 0, none⟩)), (16, .pointer (some ⟨b6, 0, none⟩)), (17, .string s0), (18, .pointer (some ⟨b6, 1, none⟩)), (19, .agg A0.toArray), (20, x20), (21, .int .i64 0), (7, .int .i64 0)] (by rw [hD, hsz]; rfl) (by simp only [List.forall_mem_cons, List.not_mem_nil, false_implies, implies_true, and_true]; exact ⟨h14, h15, h16, h17, h18, h19, h20, h21, h7⟩)
    rw [ha0] at ea
    simp only [List.foldl_cons, List.foldl_nil, List.setIfInBounds_toArray, List.set_cons_zero, List.set_cons_succ] at ea
    clear hF hall hr hl hD zs2 zs6 ha0 hsz h14 h15 h16 h17 h18 h19 h20 h21 h7
    subst ea
    obtain ⟨V1, hV⟩ : ∃ V, V = W := ⟨_, rfl⟩
    rw [← hV]
    rw [← hV] at hG hK r2 hR
    clear hV
    have HG : Hid (Lg w0 V1 S (q + 1) f1) := hG
    have HK : Hid (Kp w V1) := hK
    have R2 : Hid (Row V1 b2 LP 58) := r2
    have HR : Hid (Row V1 g CU 65) := hR
    clear hG hK r2 hR
    go_wp2_with fail
    rw [rounds_succ]
    have RG : Hid (V1.rangeAt g 5 N1) := seg HR.out HSG1.out HPL1.out
    obtain ⟨b6, hb6⟩ : ∃ b, b = V1.heap.size := ⟨_, rfl⟩
    have HB6 : Hid (b6 = V1.heap.size) := hb6
    clear hb6
    go_upto_region 4 with (first
      | (refine wpList_load_w rfl 65 (.tmp 12) rfl g 5 rfl N1 _ RG.out Tryd.underlying65 rfl HN1I.out ?_; simp only [Act.put, List.setIfInBounds_toArray, List.set_cons_zero, List.set_cons_succ])
      | (refine wpList_allocL rfl rfl ?_; intro X6 q1 q2 q3; have R6 : Hid (Row X6 _ zL 65) := q1; have B6 : Hid (Below _ _ X6) := q2; clear q1 q2 q3; simp only [Act.put, List.setIfInBounds_toArray, List.set_cons_zero, List.set_cons_succ])
      | (refine wpList_storeL rfl 65 (.tmp 6) (.tmp 13) rfl V1.heap.size N1 zL 65 rfl rfl R6.out HN1N.out HN1I.out HN1O.out ?_; intro Y6 q1 q2; have HY6 : Hid (Y6 = _) := q1; have RY6 : Hid (Row Y6 V1.heap.size N1 65) := q2; clear q1 q2; simp only [Act.put]))
    rw [← HB6.out] at RY6 HY6
    rw [← HB6.out]
    have b8 : Below V1.heap.size V1 Y6 := by rw [HY6.out]; exact below_setCells B6.out (by rw [HB6.out]; exact Nat.le_refl _) _
    have r2 := Row.below R2.out b8 R2.out.lt
    have r6 := RY6.out
    have hG := HG.out.be b8
    have hK := HK.out.trans (Kp.of_below b8)
    have hb1 := Below.refl Y6.heap.size Y6
    have hR := Row.below HR.out b8 HR.out.lt
    clear R2 RY6 HG HK B6 HY6 HB6 R6 b8 RG HR
    refine wp_named fun a0 ha0 => ?_
    have hsz : a0.tmps.size = 26 := by rw [ha0]; rfl
    have zs2 : a0.eval (.tmp 2) = .pointer (some ⟨b2, 0, none⟩) := by rw [ha0]; rfl
    have zs6 : a0.eval (.tmp 6) = .pointer (some ⟨b6, 0, none⟩) := by rw [ha0]; rfl
    obtain ⟨D, hD⟩ : ∃ D : List (Tmp × SP), D = [(14, SP.is (.pointer (some ⟨b2, 0, none⟩))), (15, SP.is (.pointer (some ⟨S, 0, none⟩))), (16, SP.is (.pointer (some ⟨b6, 0, none⟩))), (17, SP.is (.string s1)), (18, SP.is (.pointer (some ⟨b6, 1, none⟩))), (19, SP.is (.agg A1.toArray)), (20, SP.any), (21, SP.is (.int .i64 0)), (7, SP.is (.int .i64 0))] := ⟨_, rfl⟩
    refine wp_region_then (by kernel_rfl) 7 (by decide) (by kernel_rfl) (fun listed ac W => Fp D a0 listed ac W ∧ Below Y6.heap.size Y6 W ∧ Row W b2 LP 58 ∧ Row W b6 N1 65 ∧ Row W g CU 65 ∧ Lg w0 W S (q + 1) f1 ∧ Kp w W ∧ (listed.getD 6 false = true → (SP.enc n1).P W (ac.eval (.tmp 20)))) (fun listed ac W => Fp D a0 listed ac W ∧ Lg w0 W S (q + 1 + 1) f2 ∧ Kp w W ∧ Row W b2 LP 58 ∧ Row W g CU 65) ?_ ?_ ?_ ?_ ?_
    · exact ⟨Fp.start D a0 _ _, Below.drew hb1, Row.drew r2, Row.drew r6, Row.drew hR, hG.below (Below.drew (Below.refl _ _)), hK.below (Below.drew (Below.refl _ _)), (fun h => (start_no h).elim)⟩
    · clear ha0 hb1 r2 r6 hR hG hK
      intro listed ac W k hl hI hdn hk hne hnl
      replace hl : listed.size = 9 := hl
      obtain ⟨hF, hb1, r2, r6, hR, hG, hK, ti6⟩ := hI
      have hk1 : k < 9 := List.mem_range.1 (List.mem_filter.1 hk).1
      rcases (show k = 0 ∨ k = 1 ∨ k = 2 ∨ k = 3 ∨ k = 4 ∨ k = 5 ∨ k = 6 ∨ k = 7 ∨ k = 8 by omega) with rfl | rfl | rfl | rfl | rfl | rfl | rfl | rfl | rfl
      · have hk3 := hk
        have e2 := ((hF.keep 2 (by rw [hD]; rfl)).trans zs2)
        exact wpOp_plain rfl rfl (wp_f_p0 b2 rfl e2 ⟨(hF.put 0 14 (SP.is (.pointer (some ⟨b2, 0, none⟩))) (.pointer (some ⟨b2, 0, none⟩)) (by rw [hD]; rfl) rfl (by rw [hD]; rfl) (by rw [hsz]; decide) (by rw [hl]; decide)), hb1, r2, r6, hR, hG, hK, (fun h1 => by change (SP.enc n1).P _ ((ac.put (some 14) _).eval (.tmp 20)); rw [eval_put_other ac _ (by decide)]; exact ti6 (by rwa [getD_set _ _ _ (by decide)] at h1))⟩)
      · have hk3 := hk
        have e14 := (hF.done 0 (14, SP.is (.pointer (some ⟨b2, 0, none⟩))) (by rw [hD]; rfl) (ready_dep hk 0 (by kernel_rfl)))
        exact wpOp_plain rfl rfl (wp_loadp rfl b2 0 e14 _ (r2.cell 0 _ (by rw [HLPE.out]; rfl)) ⟨(hF.put 1 15 (SP.is (.pointer (some ⟨S, 0, none⟩))) (.pointer (some ⟨S, 0, none⟩)) (by rw [hD]; rfl) rfl (by rw [hD]; rfl) (by rw [hsz]; decide) (by rw [hl]; decide)), hb1, r2, r6, hR, hG, hK, (fun h1 => by change (SP.enc n1).P _ ((ac.put (some 15) _).eval (.tmp 20)); rw [eval_put_other ac _ (by decide)]; exact ti6 (by rwa [getD_set _ _ _ (by decide)] at h1))⟩)
      · have hk3 := hk
        have e6 := ((hF.keep 6 (by rw [hD]; rfl)).trans zs6)
        exact wpOp_plain rfl rfl (wp_f_l b6 0 (.inl rfl) rfl e6 ⟨(hF.put 2 16 (SP.is (.pointer (some ⟨b6, 0, none⟩))) (.pointer (some ⟨b6, 0, none⟩)) (by rw [hD]; rfl) rfl (by rw [hD]; rfl) (by rw [hsz]; decide) (by rw [hl]; decide)), hb1, r2, r6, hR, hG, hK, (fun h1 => by change (SP.enc n1).P _ ((ac.put (some 16) _).eval (.tmp 20)); rw [eval_put_other ac _ (by decide)]; exact ti6 (by rwa [getD_set _ _ _ (by decide)] at h1))⟩)
      · have hk3 := hk
        have e16 := (hF.done 2 (16, SP.is (.pointer (some ⟨b6, 0, none⟩))) (by rw [hD]; rfl) (ready_dep hk 2 (by kernel_rfl)))
        exact wpOp_plain rfl rfl (wp_loads rfl b6 0 e16 _ (by have q := r6; rw [HN1E.out] at q; exact lnl_s q) ⟨(hF.put 3 17 (SP.is (.string s1)) (.string s1) (by rw [hD]; rfl) rfl (by rw [hD]; rfl) (by rw [hsz]; decide) (by rw [hl]; decide)), hb1, r2, r6, hR, hG, hK, (fun h1 => by change (SP.enc n1).P _ ((ac.put (some 17) _).eval (.tmp 20)); rw [eval_put_other ac _ (by decide)]; exact ti6 (by rwa [getD_set _ _ _ (by decide)] at h1))⟩)
      · have hk3 := hk
        have e6 := ((hF.keep 6 (by rw [hD]; rfl)).trans zs6)
        exact wpOp_plain rfl rfl (wp_f_l b6 1 (.inr rfl) rfl e6 ⟨(hF.put 4 18 (SP.is (.pointer (some ⟨b6, 1, none⟩))) (.pointer (some ⟨b6, 1, none⟩)) (by rw [hD]; rfl) rfl (by rw [hD]; rfl) (by rw [hsz]; decide) (by rw [hl]; decide)), hb1, r2, r6, hR, hG, hK, (fun h1 => by change (SP.enc n1).P _ ((ac.put (some 18) _).eval (.tmp 20)); rw [eval_put_other ac _ (by decide)]; exact ti6 (by rwa [getD_set _ _ _ (by decide)] at h1))⟩)
      · have hk3 := hk
        exact wpOp_plain rfl rfl (wp_load_mid 25 (.tmp 18) rfl b6 1 (hF.done 4 (18, SP.is (.pointer (some ⟨b6, 1, none⟩))) (by rw [hD]; rfl) (ready_dep hk 4 (by kernel_rfl))) A1 _ (by rw [HA1E.out]; have q := r6; rw [HN1E.out] at q; exact lnl_am q) Tryd.underlying25 rfl HA1I.out ⟨(hF.put 5 19 (SP.is (.agg A1.toArray)) (.agg A1.toArray) (by rw [hD]; rfl) rfl (by rw [hD]; rfl) (by rw [hsz]; decide) (by rw [hl]; decide)), hb1, r2, r6, hR, hG, hK, (fun h1 => by change (SP.enc n1).P _ ((ac.put (some 19) _).eval (.tmp 20)); rw [eval_put_other ac _ (by decide)]; exact ti6 (by rwa [getD_set _ _ _ (by decide)] at h1))⟩)
      · have hk3 := hk
        have e19 := (hF.done 5 (19, SP.is (.agg A1.toArray)) (by rw [hD]; rfl) (ready_dep hk 5 (by kernel_rfl)))
        refine wpOp_plain rfl rfl (wp_fcall_v 46 #[.agg A1.toArray] rfl rfl (by show [ac.eval (.tmp 19)] = _; rw [show ac.eval (.tmp 19) = .agg A1.toArray from e19]) (by go_simp) ((laidG n1 HL1.out A1 HA1E.out W).mono ?_))
        rintro e W2 ⟨A, n, c, rfl, hln, hbw, hnn, hB⟩
        exact ⟨_, rfl, ((hF.world hB).put 6 20 (SP.any) (.slice A n c) (by rw [hD]; rfl) trivial (by rw [hD]; rfl) (by rw [hsz]; decide) (by rw [hl]; decide)), hb1.trans (hB.mono hb1.size), Row.below r2 hB (Row.lt r2), Row.below r6 hB (Row.lt r6), Row.below hR hB (Row.lt hR), hG.below hB, hK.below hB, (fun _ => by change (SP.enc n1).P _ ((ac.put (some 20) _).eval (.tmp 20)); rw [eval_put_same ac _ (by rw [hF.size, hsz]; decide)]; exact ⟨A, n, c, rfl, hln, hbw, hnn⟩)⟩
      · exact absurd rfl hne
      · exact absurd (ready_dep hk 7 (by kernel_rfl)) hnl
    · clear ha0 hb1 r2 r6 hR hG hK
      intro listed ac W hl hI hdn hk
      replace hl : listed.size = 9 := hl
      obtain ⟨hF, hb1, r2, r6, hR, hG, hK, ti6⟩ := hI
      have e15 := (hF.done 1 (15, SP.is (.pointer (some ⟨S, 0, none⟩))) (by rw [hD]; rfl) (ready_dep hk 1 (by kernel_rfl)))
      have e17 := (hF.done 3 (17, SP.is (.string s1)) (by rw [hD]; rfl) (ready_dep hk 3 (by kernel_rfl)))
      obtain ⟨A, n, c, e20, hln, hbw, hnn⟩ := (ti6 (ready_dep hk 6 (by kernel_rfl)))
      refine wpOp_plain rfl rfl (wp_fcall_v 42 #[.pointer (some ⟨S, 0, none⟩), .string s1, .slice A n c] rfl rfl (by show [ac.eval (.tmp 15), ac.eval (.tmp 17), ac.eval (.tmp 20)] = _; rw [show ac.eval (.tmp 15) = _ from e15, show ac.eval (.tmp 17) = _ from e17, e20]) (by go_simp) (((show Calls Tryd.prog 42 #[.pointer (some ⟨S, 0, none⟩), .string s1, .slice A n c] W fun e w' => e = .returned (.int .i64 0) ∧ Lg w0 w' S (q + 1 + 1) f2 ∧ Kp W w' by rw [HF1.out]; exact put_lg w0 S (q + 1) f1 (by have := HQ.out; omega) s1 HS1.out A n c (enc n1) hln.symm (by rw [hln]; exact Nat.le_trans (enc_len n1) (by decide)) hnn W hG (fun W2 k2 => Bw.sl (k2.bw hbw)))).mono ?_))
      rintro e W2 ⟨rfl, hG2, hK2⟩
      have hT : Fp D a0 listed ac W2 := hF.turn (by rw [hD]; simp only [List.forall_mem_cons, List.not_mem_nil, false_implies, implies_true, and_true]; exact ⟨fun _ h => h, fun _ h => h, fun _ h => h, fun _ h => h, fun _ h => h, fun _ h => h, fun _ h => h, fun _ h => h, fun _ h => h⟩)
      exact ⟨_, rfl, (hT.put 7 21 (SP.is (.int .i64 0)) _ (by rw [hD]; rfl) rfl (by rw [hD]; rfl) (by rw [hsz]; decide) (by rw [hl]; decide)), hG2, hK.trans hK2, hK2.row _ _ _ (by decide) r2, hK2.row _ _ _ (by decide) hR⟩
    · clear ha0 hb1 r2 r6 hR hG hK
      intro listed ac W k hl hJ hdn hk hne hyl
      replace hl : listed.size = 9 := hl
      obtain ⟨hF, hG, hK, r2, hR⟩ := hJ
      have hk1 : k < 9 := List.mem_range.1 (List.mem_filter.1 hk).1
      rcases (show k = 0 ∨ k = 1 ∨ k = 2 ∨ k = 3 ∨ k = 4 ∨ k = 5 ∨ k = 6 ∨ k = 7 ∨ k = 8 by omega) with rfl | rfl | rfl | rfl | rfl | rfl | rfl | rfl | rfl
      · exact absurd (hdn 1 (hdn 7 hyl 1 (by kernel_rfl)) 0 (by kernel_rfl)) (not_yet hk)
      · exact absurd (hdn 7 hyl 1 (by kernel_rfl)) (not_yet hk)
      · exact absurd (hdn 3 (hdn 7 hyl 3 (by kernel_rfl)) 2 (by kernel_rfl)) (not_yet hk)
      · exact absurd (hdn 7 hyl 3 (by kernel_rfl)) (not_yet hk)
      · exact absurd (hdn 5 (hdn 6 (hdn 7 hyl 6 (by kernel_rfl)) 5 (by kernel_rfl)) 4 (by kernel_rfl)) (not_yet hk)
      · exact absurd (hdn 6 (hdn 7 hyl 6 (by kernel_rfl)) 5 (by kernel_rfl)) (not_yet hk)
      · exact absurd (hdn 7 hyl 6 (by kernel_rfl)) (not_yet hk)
      · exact absurd rfl hne
      · exact wpOp_plain rfl rfl (wp_assign_v (ac.eval (.tmp 21)) rfl rfl ⟨(hF.put 8 7 (SP.is (.int .i64 0)) _ (by rw [hD]; rfl) (hF.done 7 (21, SP.is (.int .i64 0)) (by rw [hD]; rfl) (ready_dep hk 7 (by kernel_rfl))) (by rw [hD]; rfl) (by rw [hsz]; decide) (by rw [hl]; decide)), hG, hK, r2, hR⟩)
    · clear hb1 r2 r6 hR hG hK
      intro listed ac W hl hJ hr
      replace hl : listed.size = 9 := hl
      obtain ⟨hF, hG, hK, r2, hR⟩ := hJ
      have hall := all_listed (by kernel_rfl) hl hr
      have h14 : ac.eval (.tmp 14) = .pointer (some ⟨b2, 0, none⟩) := hF.done 0 (14, SP.is (.pointer (some ⟨b2, 0, none⟩))) (by rw [hD]; rfl) (hall 0 (by decide))
      have h15 : ac.eval (.tmp 15) = .pointer (some ⟨S, 0, none⟩) := hF.done 1 (15, SP.is (.pointer (some ⟨S, 0, none⟩))) (by rw [hD]; rfl) (hall 1 (by decide))
      have h16 : ac.eval (.tmp 16) = .pointer (some ⟨b6, 0, none⟩) := hF.done 2 (16, SP.is (.pointer (some ⟨b6, 0, none⟩))) (by rw [hD]; rfl) (hall 2 (by decide))
      have h17 : ac.eval (.tmp 17) = .string s1 := hF.done 3 (17, SP.is (.string s1)) (by rw [hD]; rfl) (hall 3 (by decide))
      have h18 : ac.eval (.tmp 18) = .pointer (some ⟨b6, 1, none⟩) := hF.done 4 (18, SP.is (.pointer (some ⟨b6, 1, none⟩))) (by rw [hD]; rfl) (hall 4 (by decide))
      have h19 : ac.eval (.tmp 19) = .agg A1.toArray := hF.done 5 (19, SP.is (.agg A1.toArray)) (by rw [hD]; rfl) (hall 5 (by decide))
      obtain ⟨x20, h20⟩ : ∃ x, ac.eval (.tmp 20) = x := ⟨_, rfl⟩
      have h21 : ac.eval (.tmp 21) = .int .i64 0 := hF.done 7 (21, SP.is (.int .i64 0)) (by rw [hD]; rfl) (hall 7 (by decide))
      have h7 : ac.eval (.tmp 7) = .int .i64 0 := hF.done 8 (7, SP.is (.int .i64 0)) (by rw [hD]; rfl) (hall 8 (by decide))
      have ea := hF.lay [(14, .pointer (some ⟨b2, 0, none⟩)), (15, .pointer (some ⟨S, 0, none⟩)), (16, .pointer (some ⟨b6, 0, none⟩)), (17, .string s1), (18, .pointer (some ⟨b6, 1, none⟩)), (19, .agg A1.toArray), (20, x20), (21, .int .i64 0), (7, .int .i64 0)] (by rw [hD, hsz]; rfl) (by simp only [List.forall_mem_cons, List.not_mem_nil, false_implies, implies_true, and_true]; exact ⟨h14, h15, h16, h17, h18, h19, h20, h21, h7⟩)
      rw [ha0] at ea
      simp only [List.foldl_cons, List.foldl_nil, List.setIfInBounds_toArray, List.set_cons_zero, List.set_cons_succ] at ea
      clear hF hall hr hl hD zs2 zs6 ha0 hsz h14 h15 h16 h17 h18 h19 h20 h21 h7
      subst ea
      obtain ⟨V2, hV⟩ : ∃ V, V = W := ⟨_, rfl⟩
      rw [← hV]
      rw [← hV] at hG hK r2 hR
      clear hV
      have HG : Hid (Lg w0 V2 S (q + 1 + 1) f2) := hG
      have HK : Hid (Kp w V2) := hK
      have R2 : Hid (Row V2 b2 LP 58) := r2
      have HR : Hid (Row V2 g CU 65) := hR
      clear hG hK r2 hR
      go_wp2_with fail
      rw [rounds_succ]
      go_wp2_with fail
      go_ret
      exact ⟨rfl, HG.out, HK.out⟩
set_option maxRecDepth 100000 in
set_option maxHeartbeats 4000000 in
theorem layLG3 (w0 : World) (S q : Nat) (f f1 f2 f3 : ByteArray → List (BitVec 8)) (hq : q < 999980) (t : Nat) (s0 : ByteArray) (hs0 : isK s0.size = true) (n0 : Nat) (hl0 : n0 < 2 ^ 256) (N0 : List Value) (hN0 : N0 = lnl s0 n0) (s1 : ByteArray) (hs1 : isK s1.size = true) (n1 : Nat) (hl1 : n1 < 2 ^ 256) (N1 : List Value) (hN1 : N1 = lnl s1 n1) (s2 : ByteArray) (hs2 : isK s2.size = true) (n2 : Nat) (hl2 : n2 < 2 ^ 256) (N2 : List Value) (hN2 : N2 = lnl s2 n2) (hf0 : f1 = upd f s0 (enc n0)) (hf1 : f2 = upd f1 s1 (enc n1)) (hf2 : f3 = upd f2 s2 (enc n2)) (g cap : Nat) (CU : List Value) (hCU : CU.take 15 = N0 ++ (N1 ++ (N2 ++ []))) (LP : List Value) (hLP : LP = pgl S t) (w : World) (hR : Row w g CU 65) (h : Lg w0 w S q f) :
    Calls Tryd.prog 29 #[.agg LP.toArray, .slice (some ⟨g, 0, none⟩) 3 cap] w fun e w' => e = .returned (.int .i64 0) ∧ Lg w0 w' S (q + 3) f3 ∧ Kp w w' := by
  have HLPE : Hid (LP = pgl S t) := hLP
  have HLPI : Hid ((Tryd.prog.info? 58).map (·.size) = some LP.length) := by show _ = _; rw [hLP]; exact info_pgl S t
  have HLPJ : Hid ((Tryd.prog.info? 58).map (·.size) = some LP.toArray.size) := by show _ = _; rw [List.size_toArray, hLP]; exact info_pgl S t
  have HLPN : Hid (LP.length = zP.length) := by show _ = _; rw [hLP]; exact rfl
  have HLPO : Hid (LP.toArray.all (·.oneCell') = true) := by show _ = true; rw [hLP]; exact pgl_one S t
  have HQ : Hid (q < 999980) := hq
  have HG : Hid (Lg w0 w S q f) := h
  have HR : Hid (Row w g CU 65) := hR
  obtain ⟨A0, hA0⟩ : ∃ L : List Value, L = wq n0 := ⟨_, rfl⟩
  have HA0E : Hid (A0 = wq n0) := hA0
  have HA0I : Hid ((Tryd.prog.info? 25).map (·.size) = some A0.length) := by show _ = _; rw [hA0]; exact info_wq _
  have HA0J : Hid ((Tryd.prog.info? 25).map (·.size) = some A0.toArray.size) := by show _ = _; rw [List.size_toArray, hA0]; exact info_wq _
  have HA0N : Hid (A0.length = zW.length) := by show _ = _; rw [hA0]; exact wq_len _
  have HA0O : Hid (A0.toArray.all (·.oneCell') = true) := by show _ = true; rw [hA0]; exact wq_one _
  have HN0E : Hid (N0 = lnl s0 n0) := hN0
  have HN0I : Hid ((Tryd.prog.info? 65).map (·.size) = some N0.length) := by show _ = _; rw [hN0]; exact info_lnl _ _
  have HN0J : Hid ((Tryd.prog.info? 65).map (·.size) = some N0.toArray.size) := by show _ = _; rw [List.size_toArray, hN0]; exact info_lnl _ _
  have HN0N : Hid (N0.length = zL.length) := by show _ = _; rw [hN0]; exact lnl_len _ _
  have HN0O : Hid (N0.toArray.all (·.oneCell') = true) := by show _ = true; rw [hN0]; exact lnl_one _ _
  have HS0 : Hid (isK s0.size = true) := hs0
  have HL0 : Hid (n0 < 2 ^ 256) := hl0
  have HF0 : Hid (f1 = upd f s0 (enc n0)) := hf0
  have HSG0 : Hid (CU.take 15 = (([] : List Value)) ++ (N0 ++ (N1 ++ (N2 ++ [])))) := hCU.trans (by simp)
  have HPL0 : Hid ((([] : List Value)).length = 0) := by show _ = _; simp
  obtain ⟨A1, hA1⟩ : ∃ L : List Value, L = wq n1 := ⟨_, rfl⟩
  have HA1E : Hid (A1 = wq n1) := hA1
  have HA1I : Hid ((Tryd.prog.info? 25).map (·.size) = some A1.length) := by show _ = _; rw [hA1]; exact info_wq _
  have HA1J : Hid ((Tryd.prog.info? 25).map (·.size) = some A1.toArray.size) := by show _ = _; rw [List.size_toArray, hA1]; exact info_wq _
  have HA1N : Hid (A1.length = zW.length) := by show _ = _; rw [hA1]; exact wq_len _
  have HA1O : Hid (A1.toArray.all (·.oneCell') = true) := by show _ = true; rw [hA1]; exact wq_one _
  have HN1E : Hid (N1 = lnl s1 n1) := hN1
  have HN1I : Hid ((Tryd.prog.info? 65).map (·.size) = some N1.length) := by show _ = _; rw [hN1]; exact info_lnl _ _
  have HN1J : Hid ((Tryd.prog.info? 65).map (·.size) = some N1.toArray.size) := by show _ = _; rw [List.size_toArray, hN1]; exact info_lnl _ _
  have HN1N : Hid (N1.length = zL.length) := by show _ = _; rw [hN1]; exact lnl_len _ _
  have HN1O : Hid (N1.toArray.all (·.oneCell') = true) := by show _ = true; rw [hN1]; exact lnl_one _ _
  have HS1 : Hid (isK s1.size = true) := hs1
  have HL1 : Hid (n1 < 2 ^ 256) := hl1
  have HF1 : Hid (f2 = upd f1 s1 (enc n1)) := hf1
  have HSG1 : Hid (CU.take 15 = (N0) ++ (N1 ++ (N2 ++ []))) := hCU.trans (by simp)
  have HPL1 : Hid ((N0).length = 5) := by show _ = _; simp [hN0, lnl_len]
  obtain ⟨A2, hA2⟩ : ∃ L : List Value, L = wq n2 := ⟨_, rfl⟩
  have HA2E : Hid (A2 = wq n2) := hA2
  have HA2I : Hid ((Tryd.prog.info? 25).map (·.size) = some A2.length) := by show _ = _; rw [hA2]; exact info_wq _
  have HA2J : Hid ((Tryd.prog.info? 25).map (·.size) = some A2.toArray.size) := by show _ = _; rw [List.size_toArray, hA2]; exact info_wq _
  have HA2N : Hid (A2.length = zW.length) := by show _ = _; rw [hA2]; exact wq_len _
  have HA2O : Hid (A2.toArray.all (·.oneCell') = true) := by show _ = true; rw [hA2]; exact wq_one _
  have HN2E : Hid (N2 = lnl s2 n2) := hN2
  have HN2I : Hid ((Tryd.prog.info? 65).map (·.size) = some N2.length) := by show _ = _; rw [hN2]; exact info_lnl _ _
  have HN2J : Hid ((Tryd.prog.info? 65).map (·.size) = some N2.toArray.size) := by show _ = _; rw [List.size_toArray, hN2]; exact info_lnl _ _
  have HN2N : Hid (N2.length = zL.length) := by show _ = _; rw [hN2]; exact lnl_len _ _
  have HN2O : Hid (N2.toArray.all (·.oneCell') = true) := by show _ = true; rw [hN2]; exact lnl_one _ _
  have HS2 : Hid (isK s2.size = true) := hs2
  have HL2 : Hid (n2 < 2 ^ 256) := hl2
  have HF2 : Hid (f3 = upd f2 s2 (enc n2)) := hf2
  have HSG2 : Hid (CU.take 15 = (N0 ++ N1) ++ (N2 ++ [])) := hCU.trans (by simp)
  have HPL2 : Hid ((N0 ++ N1).length = 10) := by show _ = _; simp [hN0, lnl_len, hN1, lnl_len]
  clear hLP hCU hq h hR hA0 hN0 hs0 hl0 hf0 hA1 hN1 hs1 hl1 hf1 hA2 hN2 hs2 hl2 hf2
  go_enter Tryd.func29, Tryd.ntmps29
  go_wp2_with (refine wpList_boxG 58 rfl (.tmp 0) rfl LP rfl ?_; intro V0 q1 q2 q3; have R2 : Hid (Row V0 _ LP 58) := q1; have B0 : Hid (Below _ _ V0) := q2; clear q1 q2 q3; simp only [Act.put, List.setIfInBounds_toArray, List.set_cons_zero, List.set_cons_succ])
  obtain ⟨b2, hb2⟩ : ∃ b, b = w.heap.size := ⟨_, rfl⟩
  replace R2 : Hid (Row V0 b2 LP 58) := by rw [hb2]; exact R2.out
  rw [← hb2]
  replace HG : Hid (Lg w0 V0 S q f) := HG.out.be B0.out
  have HK : Hid (Kp w V0) := Kp.of_below B0.out
  replace HR : Hid (Row V0 g CU 65) := Row.below HR.out B0.out HR.out.lt
  clear hb2 B0
  refine wp_loop_rounds 4 ?_
  rw [rounds_succ]
  have RG : Hid (V0.rangeAt g 0 N0) := seg HR.out HSG0.out HPL0.out
  obtain ⟨b6, hb6⟩ : ∃ b, b = V0.heap.size := ⟨_, rfl⟩
  have HB6 : Hid (b6 = V0.heap.size) := hb6
  clear hb6
  go_upto_region 4 with (first
    | (refine wpList_load_w rfl 65 (.tmp 12) rfl g 0 rfl N0 _ RG.out Tryd.underlying65 rfl HN0I.out ?_; simp only [Act.put, List.setIfInBounds_toArray, List.set_cons_zero, List.set_cons_succ])
    | (refine wpList_allocL rfl rfl ?_; intro X6 q1 q2 q3; have R6 : Hid (Row X6 _ zL 65) := q1; have B6 : Hid (Below _ _ X6) := q2; clear q1 q2 q3; simp only [Act.put, List.setIfInBounds_toArray, List.set_cons_zero, List.set_cons_succ])
    | (refine wpList_storeL rfl 65 (.tmp 6) (.tmp 13) rfl V0.heap.size N0 zL 65 rfl rfl R6.out HN0N.out HN0I.out HN0O.out ?_; intro Y6 q1 q2; have HY6 : Hid (Y6 = _) := q1; have RY6 : Hid (Row Y6 V0.heap.size N0 65) := q2; clear q1 q2; simp only [Act.put]))
  rw [← HB6.out] at RY6 HY6
  rw [← HB6.out]
  have b8 : Below V0.heap.size V0 Y6 := by rw [HY6.out]; exact below_setCells B6.out (by rw [HB6.out]; exact Nat.le_refl _) _
  have r2 := Row.below R2.out b8 R2.out.lt
  have r6 := RY6.out
  have hG := HG.out.be b8
  have hK := HK.out.trans (Kp.of_below b8)
  have hb1 := Below.refl Y6.heap.size Y6
  have hR := Row.below HR.out b8 HR.out.lt
  clear R2 RY6 HG HK B6 HY6 HB6 R6 b8 RG HR
  refine wp_named fun a0 ha0 => ?_
  have hsz : a0.tmps.size = 26 := by rw [ha0]; rfl
  have zs2 : a0.eval (.tmp 2) = .pointer (some ⟨b2, 0, none⟩) := by rw [ha0]; rfl
  have zs6 : a0.eval (.tmp 6) = .pointer (some ⟨b6, 0, none⟩) := by rw [ha0]; rfl
  obtain ⟨D, hD⟩ : ∃ D : List (Tmp × SP), D = [(14, SP.is (.pointer (some ⟨b2, 0, none⟩))), (15, SP.is (.pointer (some ⟨S, 0, none⟩))), (16, SP.is (.pointer (some ⟨b6, 0, none⟩))), (17, SP.is (.string s0)), (18, SP.is (.pointer (some ⟨b6, 1, none⟩))), (19, SP.is (.agg A0.toArray)), (20, SP.any), (21, SP.is (.int .i64 0)), (7, SP.is (.int .i64 0))] := ⟨_, rfl⟩
  refine wp_region_then (by kernel_rfl) 7 (by decide) (by kernel_rfl) (fun listed ac W => Fp D a0 listed ac W ∧ Below Y6.heap.size Y6 W ∧ Row W b2 LP 58 ∧ Row W b6 N0 65 ∧ Row W g CU 65 ∧ Lg w0 W S (q) f ∧ Kp w W ∧ (listed.getD 6 false = true → (SP.enc n0).P W (ac.eval (.tmp 20)))) (fun listed ac W => Fp D a0 listed ac W ∧ Lg w0 W S (q + 1) f1 ∧ Kp w W ∧ Row W b2 LP 58 ∧ Row W g CU 65) ?_ ?_ ?_ ?_ ?_
  · exact ⟨Fp.start D a0 _ _, Below.drew hb1, Row.drew r2, Row.drew r6, Row.drew hR, hG.below (Below.drew (Below.refl _ _)), hK.below (Below.drew (Below.refl _ _)), (fun h => (start_no h).elim)⟩
  · clear ha0 hb1 r2 r6 hR hG hK
    intro listed ac W k hl hI hdn hk hne hnl
    replace hl : listed.size = 9 := hl
    obtain ⟨hF, hb1, r2, r6, hR, hG, hK, ti6⟩ := hI
    have hk1 : k < 9 := List.mem_range.1 (List.mem_filter.1 hk).1
    rcases (show k = 0 ∨ k = 1 ∨ k = 2 ∨ k = 3 ∨ k = 4 ∨ k = 5 ∨ k = 6 ∨ k = 7 ∨ k = 8 by omega) with rfl | rfl | rfl | rfl | rfl | rfl | rfl | rfl | rfl
    · have hk3 := hk
      have e2 := ((hF.keep 2 (by rw [hD]; rfl)).trans zs2)
      exact wpOp_plain rfl rfl (wp_f_p0 b2 rfl e2 ⟨(hF.put 0 14 (SP.is (.pointer (some ⟨b2, 0, none⟩))) (.pointer (some ⟨b2, 0, none⟩)) (by rw [hD]; rfl) rfl (by rw [hD]; rfl) (by rw [hsz]; decide) (by rw [hl]; decide)), hb1, r2, r6, hR, hG, hK, (fun h1 => by change (SP.enc n0).P _ ((ac.put (some 14) _).eval (.tmp 20)); rw [eval_put_other ac _ (by decide)]; exact ti6 (by rwa [getD_set _ _ _ (by decide)] at h1))⟩)
    · have hk3 := hk
      have e14 := (hF.done 0 (14, SP.is (.pointer (some ⟨b2, 0, none⟩))) (by rw [hD]; rfl) (ready_dep hk 0 (by kernel_rfl)))
      exact wpOp_plain rfl rfl (wp_loadp rfl b2 0 e14 _ (r2.cell 0 _ (by rw [HLPE.out]; rfl)) ⟨(hF.put 1 15 (SP.is (.pointer (some ⟨S, 0, none⟩))) (.pointer (some ⟨S, 0, none⟩)) (by rw [hD]; rfl) rfl (by rw [hD]; rfl) (by rw [hsz]; decide) (by rw [hl]; decide)), hb1, r2, r6, hR, hG, hK, (fun h1 => by change (SP.enc n0).P _ ((ac.put (some 15) _).eval (.tmp 20)); rw [eval_put_other ac _ (by decide)]; exact ti6 (by rwa [getD_set _ _ _ (by decide)] at h1))⟩)
    · have hk3 := hk
      have e6 := ((hF.keep 6 (by rw [hD]; rfl)).trans zs6)
      exact wpOp_plain rfl rfl (wp_f_l b6 0 (.inl rfl) rfl e6 ⟨(hF.put 2 16 (SP.is (.pointer (some ⟨b6, 0, none⟩))) (.pointer (some ⟨b6, 0, none⟩)) (by rw [hD]; rfl) rfl (by rw [hD]; rfl) (by rw [hsz]; decide) (by rw [hl]; decide)), hb1, r2, r6, hR, hG, hK, (fun h1 => by change (SP.enc n0).P _ ((ac.put (some 16) _).eval (.tmp 20)); rw [eval_put_other ac _ (by decide)]; exact ti6 (by rwa [getD_set _ _ _ (by decide)] at h1))⟩)
    · have hk3 := hk
      have e16 := (hF.done 2 (16, SP.is (.pointer (some ⟨b6, 0, none⟩))) (by rw [hD]; rfl) (ready_dep hk 2 (by kernel_rfl)))
      exact wpOp_plain rfl rfl (wp_loads rfl b6 0 e16 _ (by have q := r6; rw [HN0E.out] at q; exact lnl_s q) ⟨(hF.put 3 17 (SP.is (.string s0)) (.string s0) (by rw [hD]; rfl) rfl (by rw [hD]; rfl) (by rw [hsz]; decide) (by rw [hl]; decide)), hb1, r2, r6, hR, hG, hK, (fun h1 => by change (SP.enc n0).P _ ((ac.put (some 17) _).eval (.tmp 20)); rw [eval_put_other ac _ (by decide)]; exact ti6 (by rwa [getD_set _ _ _ (by decide)] at h1))⟩)
    · have hk3 := hk
      have e6 := ((hF.keep 6 (by rw [hD]; rfl)).trans zs6)
      exact wpOp_plain rfl rfl (wp_f_l b6 1 (.inr rfl) rfl e6 ⟨(hF.put 4 18 (SP.is (.pointer (some ⟨b6, 1, none⟩))) (.pointer (some ⟨b6, 1, none⟩)) (by rw [hD]; rfl) rfl (by rw [hD]; rfl) (by rw [hsz]; decide) (by rw [hl]; decide)), hb1, r2, r6, hR, hG, hK, (fun h1 => by change (SP.enc n0).P _ ((ac.put (some 18) _).eval (.tmp 20)); rw [eval_put_other ac _ (by decide)]; exact ti6 (by rwa [getD_set _ _ _ (by decide)] at h1))⟩)
    · have hk3 := hk
      exact wpOp_plain rfl rfl (wp_load_mid 25 (.tmp 18) rfl b6 1 (hF.done 4 (18, SP.is (.pointer (some ⟨b6, 1, none⟩))) (by rw [hD]; rfl) (ready_dep hk 4 (by kernel_rfl))) A0 _ (by rw [HA0E.out]; have q := r6; rw [HN0E.out] at q; exact lnl_am q) Tryd.underlying25 rfl HA0I.out ⟨(hF.put 5 19 (SP.is (.agg A0.toArray)) (.agg A0.toArray) (by rw [hD]; rfl) rfl (by rw [hD]; rfl) (by rw [hsz]; decide) (by rw [hl]; decide)), hb1, r2, r6, hR, hG, hK, (fun h1 => by change (SP.enc n0).P _ ((ac.put (some 19) _).eval (.tmp 20)); rw [eval_put_other ac _ (by decide)]; exact ti6 (by rwa [getD_set _ _ _ (by decide)] at h1))⟩)
    · have hk3 := hk
      have e19 := (hF.done 5 (19, SP.is (.agg A0.toArray)) (by rw [hD]; rfl) (ready_dep hk 5 (by kernel_rfl)))
      refine wpOp_plain rfl rfl (wp_fcall_v 46 #[.agg A0.toArray] rfl rfl (by show [ac.eval (.tmp 19)] = _; rw [show ac.eval (.tmp 19) = .agg A0.toArray from e19]) (by go_simp) ((laidG n0 HL0.out A0 HA0E.out W).mono ?_))
      rintro e W2 ⟨A, n, c, rfl, hln, hbw, hnn, hB⟩
      exact ⟨_, rfl, ((hF.world hB).put 6 20 (SP.any) (.slice A n c) (by rw [hD]; rfl) trivial (by rw [hD]; rfl) (by rw [hsz]; decide) (by rw [hl]; decide)), hb1.trans (hB.mono hb1.size), Row.below r2 hB (Row.lt r2), Row.below r6 hB (Row.lt r6), Row.below hR hB (Row.lt hR), hG.below hB, hK.below hB, (fun _ => by change (SP.enc n0).P _ ((ac.put (some 20) _).eval (.tmp 20)); rw [eval_put_same ac _ (by rw [hF.size, hsz]; decide)]; exact ⟨A, n, c, rfl, hln, hbw, hnn⟩)⟩
    · exact absurd rfl hne
    · exact absurd (ready_dep hk 7 (by kernel_rfl)) hnl
  · clear ha0 hb1 r2 r6 hR hG hK
    intro listed ac W hl hI hdn hk
    replace hl : listed.size = 9 := hl
    obtain ⟨hF, hb1, r2, r6, hR, hG, hK, ti6⟩ := hI
    have e15 := (hF.done 1 (15, SP.is (.pointer (some ⟨S, 0, none⟩))) (by rw [hD]; rfl) (ready_dep hk 1 (by kernel_rfl)))
    have e17 := (hF.done 3 (17, SP.is (.string s0)) (by rw [hD]; rfl) (ready_dep hk 3 (by kernel_rfl)))
    obtain ⟨A, n, c, e20, hln, hbw, hnn⟩ := (ti6 (ready_dep hk 6 (by kernel_rfl)))
    refine wpOp_plain rfl rfl (wp_fcall_v 42 #[.pointer (some ⟨S, 0, none⟩), .string s0, .slice A n c] rfl rfl (by show [ac.eval (.tmp 15), ac.eval (.tmp 17), ac.eval (.tmp 20)] = _; rw [show ac.eval (.tmp 15) = _ from e15, show ac.eval (.tmp 17) = _ from e17, e20]) (by go_simp) (((show Calls Tryd.prog 42 #[.pointer (some ⟨S, 0, none⟩), .string s0, .slice A n c] W fun e w' => e = .returned (.int .i64 0) ∧ Lg w0 w' S (q + 1) f1 ∧ Kp W w' by rw [HF0.out]; exact put_lg w0 S (q) f (by have := HQ.out; omega) s0 HS0.out A n c (enc n0) hln.symm (by rw [hln]; exact Nat.le_trans (enc_len n0) (by decide)) hnn W hG (fun W2 k2 => Bw.sl (k2.bw hbw)))).mono ?_))
    rintro e W2 ⟨rfl, hG2, hK2⟩
    have hT : Fp D a0 listed ac W2 := hF.turn (by rw [hD]; simp only [List.forall_mem_cons, List.not_mem_nil, false_implies, implies_true, and_true]; exact ⟨fun _ h => h, fun _ h => h, fun _ h => h, fun _ h => h, fun _ h => h, fun _ h => h, fun _ h => h, fun _ h => h, fun _ h => h⟩)
    exact ⟨_, rfl, (hT.put 7 21 (SP.is (.int .i64 0)) _ (by rw [hD]; rfl) rfl (by rw [hD]; rfl) (by rw [hsz]; decide) (by rw [hl]; decide)), hG2, hK.trans hK2, hK2.row _ _ _ (by decide) r2, hK2.row _ _ _ (by decide) hR⟩
  · clear ha0 hb1 r2 r6 hR hG hK
    intro listed ac W k hl hJ hdn hk hne hyl
    replace hl : listed.size = 9 := hl
    obtain ⟨hF, hG, hK, r2, hR⟩ := hJ
    have hk1 : k < 9 := List.mem_range.1 (List.mem_filter.1 hk).1
    rcases (show k = 0 ∨ k = 1 ∨ k = 2 ∨ k = 3 ∨ k = 4 ∨ k = 5 ∨ k = 6 ∨ k = 7 ∨ k = 8 by omega) with rfl | rfl | rfl | rfl | rfl | rfl | rfl | rfl | rfl
    · exact absurd (hdn 1 (hdn 7 hyl 1 (by kernel_rfl)) 0 (by kernel_rfl)) (not_yet hk)
    · exact absurd (hdn 7 hyl 1 (by kernel_rfl)) (not_yet hk)
    · exact absurd (hdn 3 (hdn 7 hyl 3 (by kernel_rfl)) 2 (by kernel_rfl)) (not_yet hk)
    · exact absurd (hdn 7 hyl 3 (by kernel_rfl)) (not_yet hk)
    · exact absurd (hdn 5 (hdn 6 (hdn 7 hyl 6 (by kernel_rfl)) 5 (by kernel_rfl)) 4 (by kernel_rfl)) (not_yet hk)
    · exact absurd (hdn 6 (hdn 7 hyl 6 (by kernel_rfl)) 5 (by kernel_rfl)) (not_yet hk)
    · exact absurd (hdn 7 hyl 6 (by kernel_rfl)) (not_yet hk)
    · exact absurd rfl hne
    · exact wpOp_plain rfl rfl (wp_assign_v (ac.eval (.tmp 21)) rfl rfl ⟨(hF.put 8 7 (SP.is (.int .i64 0)) _ (by rw [hD]; rfl) (hF.done 7 (21, SP.is (.int .i64 0)) (by rw [hD]; rfl) (ready_dep hk 7 (by kernel_rfl))) (by rw [hD]; rfl) (by rw [hsz]; decide) (by rw [hl]; decide)), hG, hK, r2, hR⟩)
  · clear hb1 r2 r6 hR hG hK
    intro listed ac W hl hJ hr
    replace hl : listed.size = 9 := hl
    obtain ⟨hF, hG, hK, r2, hR⟩ := hJ
    have hall := all_listed (by kernel_rfl) hl hr
    have h14 : ac.eval (.tmp 14) = .pointer (some ⟨b2, 0, none⟩) := hF.done 0 (14, SP.is (.pointer (some ⟨b2, 0, none⟩))) (by rw [hD]; rfl) (hall 0 (by decide))
    have h15 : ac.eval (.tmp 15) = .pointer (some ⟨S, 0, none⟩) := hF.done 1 (15, SP.is (.pointer (some ⟨S, 0, none⟩))) (by rw [hD]; rfl) (hall 1 (by decide))
    have h16 : ac.eval (.tmp 16) = .pointer (some ⟨b6, 0, none⟩) := hF.done 2 (16, SP.is (.pointer (some ⟨b6, 0, none⟩))) (by rw [hD]; rfl) (hall 2 (by decide))
    have h17 : ac.eval (.tmp 17) = .string s0 := hF.done 3 (17, SP.is (.string s0)) (by rw [hD]; rfl) (hall 3 (by decide))
    have h18 : ac.eval (.tmp 18) = .pointer (some ⟨b6, 1, none⟩) := hF.done 4 (18, SP.is (.pointer (some ⟨b6, 1, none⟩))) (by rw [hD]; rfl) (hall 4 (by decide))
    have h19 : ac.eval (.tmp 19) = .agg A0.toArray := hF.done 5 (19, SP.is (.agg A0.toArray)) (by rw [hD]; rfl) (hall 5 (by decide))
    obtain ⟨x20, h20⟩ : ∃ x, ac.eval (.tmp 20) = x := ⟨_, rfl⟩
    have h21 : ac.eval (.tmp 21) = .int .i64 0 := hF.done 7 (21, SP.is (.int .i64 0)) (by rw [hD]; rfl) (hall 7 (by decide))
    have h7 : ac.eval (.tmp 7) = .int .i64 0 := hF.done 8 (7, SP.is (.int .i64 0)) (by rw [hD]; rfl) (hall 8 (by decide))
    have ea := hF.lay [(14, .pointer (some ⟨b2, 0, none⟩)), (15, .pointer (some ⟨S, 0, none⟩)), (16, .pointer (some ⟨b6, 0, none⟩)), (17, .string s0), (18, .pointer (some ⟨b6, 1, none⟩)), (19, .agg A0.toArray), (20, x20), (21, .int .i64 0), (7, .int .i64 0)] (by rw [hD, hsz]; rfl) (by simp only [List.forall_mem_cons, List.not_mem_nil, false_implies, implies_true, and_true]; exact ⟨h14, h15, h16, h17, h18, h19, h20, h21, h7⟩)
    rw [ha0] at ea
    simp only [List.foldl_cons, List.foldl_nil, List.setIfInBounds_toArray, List.set_cons_zero, List.set_cons_succ] at ea
    clear hF hall hr hl hD zs2 zs6 ha0 hsz h14 h15 h16 h17 h18 h19 h20 h21 h7
    subst ea
    obtain ⟨V1, hV⟩ : ∃ V, V = W := ⟨_, rfl⟩
    rw [← hV]
    rw [← hV] at hG hK r2 hR
    clear hV
    have HG : Hid (Lg w0 V1 S (q + 1) f1) := hG
    have HK : Hid (Kp w V1) := hK
    have R2 : Hid (Row V1 b2 LP 58) := r2
    have HR : Hid (Row V1 g CU 65) := hR
    clear hG hK r2 hR
    go_wp2_with fail
    rw [rounds_succ]
    have RG : Hid (V1.rangeAt g 5 N1) := seg HR.out HSG1.out HPL1.out
    obtain ⟨b6, hb6⟩ : ∃ b, b = V1.heap.size := ⟨_, rfl⟩
    have HB6 : Hid (b6 = V1.heap.size) := hb6
    clear hb6
    go_upto_region 4 with (first
      | (refine wpList_load_w rfl 65 (.tmp 12) rfl g 5 rfl N1 _ RG.out Tryd.underlying65 rfl HN1I.out ?_; simp only [Act.put, List.setIfInBounds_toArray, List.set_cons_zero, List.set_cons_succ])
      | (refine wpList_allocL rfl rfl ?_; intro X6 q1 q2 q3; have R6 : Hid (Row X6 _ zL 65) := q1; have B6 : Hid (Below _ _ X6) := q2; clear q1 q2 q3; simp only [Act.put, List.setIfInBounds_toArray, List.set_cons_zero, List.set_cons_succ])
      | (refine wpList_storeL rfl 65 (.tmp 6) (.tmp 13) rfl V1.heap.size N1 zL 65 rfl rfl R6.out HN1N.out HN1I.out HN1O.out ?_; intro Y6 q1 q2; have HY6 : Hid (Y6 = _) := q1; have RY6 : Hid (Row Y6 V1.heap.size N1 65) := q2; clear q1 q2; simp only [Act.put]))
    rw [← HB6.out] at RY6 HY6
    rw [← HB6.out]
    have b8 : Below V1.heap.size V1 Y6 := by rw [HY6.out]; exact below_setCells B6.out (by rw [HB6.out]; exact Nat.le_refl _) _
    have r2 := Row.below R2.out b8 R2.out.lt
    have r6 := RY6.out
    have hG := HG.out.be b8
    have hK := HK.out.trans (Kp.of_below b8)
    have hb1 := Below.refl Y6.heap.size Y6
    have hR := Row.below HR.out b8 HR.out.lt
    clear R2 RY6 HG HK B6 HY6 HB6 R6 b8 RG HR
    refine wp_named fun a0 ha0 => ?_
    have hsz : a0.tmps.size = 26 := by rw [ha0]; rfl
    have zs2 : a0.eval (.tmp 2) = .pointer (some ⟨b2, 0, none⟩) := by rw [ha0]; rfl
    have zs6 : a0.eval (.tmp 6) = .pointer (some ⟨b6, 0, none⟩) := by rw [ha0]; rfl
    obtain ⟨D, hD⟩ : ∃ D : List (Tmp × SP), D = [(14, SP.is (.pointer (some ⟨b2, 0, none⟩))), (15, SP.is (.pointer (some ⟨S, 0, none⟩))), (16, SP.is (.pointer (some ⟨b6, 0, none⟩))), (17, SP.is (.string s1)), (18, SP.is (.pointer (some ⟨b6, 1, none⟩))), (19, SP.is (.agg A1.toArray)), (20, SP.any), (21, SP.is (.int .i64 0)), (7, SP.is (.int .i64 0))] := ⟨_, rfl⟩
    refine wp_region_then (by kernel_rfl) 7 (by decide) (by kernel_rfl) (fun listed ac W => Fp D a0 listed ac W ∧ Below Y6.heap.size Y6 W ∧ Row W b2 LP 58 ∧ Row W b6 N1 65 ∧ Row W g CU 65 ∧ Lg w0 W S (q + 1) f1 ∧ Kp w W ∧ (listed.getD 6 false = true → (SP.enc n1).P W (ac.eval (.tmp 20)))) (fun listed ac W => Fp D a0 listed ac W ∧ Lg w0 W S (q + 1 + 1) f2 ∧ Kp w W ∧ Row W b2 LP 58 ∧ Row W g CU 65) ?_ ?_ ?_ ?_ ?_
    · exact ⟨Fp.start D a0 _ _, Below.drew hb1, Row.drew r2, Row.drew r6, Row.drew hR, hG.below (Below.drew (Below.refl _ _)), hK.below (Below.drew (Below.refl _ _)), (fun h => (start_no h).elim)⟩
    · clear ha0 hb1 r2 r6 hR hG hK
      intro listed ac W k hl hI hdn hk hne hnl
      replace hl : listed.size = 9 := hl
      obtain ⟨hF, hb1, r2, r6, hR, hG, hK, ti6⟩ := hI
      have hk1 : k < 9 := List.mem_range.1 (List.mem_filter.1 hk).1
      rcases (show k = 0 ∨ k = 1 ∨ k = 2 ∨ k = 3 ∨ k = 4 ∨ k = 5 ∨ k = 6 ∨ k = 7 ∨ k = 8 by omega) with rfl | rfl | rfl | rfl | rfl | rfl | rfl | rfl | rfl
      · have hk3 := hk
        have e2 := ((hF.keep 2 (by rw [hD]; rfl)).trans zs2)
        exact wpOp_plain rfl rfl (wp_f_p0 b2 rfl e2 ⟨(hF.put 0 14 (SP.is (.pointer (some ⟨b2, 0, none⟩))) (.pointer (some ⟨b2, 0, none⟩)) (by rw [hD]; rfl) rfl (by rw [hD]; rfl) (by rw [hsz]; decide) (by rw [hl]; decide)), hb1, r2, r6, hR, hG, hK, (fun h1 => by change (SP.enc n1).P _ ((ac.put (some 14) _).eval (.tmp 20)); rw [eval_put_other ac _ (by decide)]; exact ti6 (by rwa [getD_set _ _ _ (by decide)] at h1))⟩)
      · have hk3 := hk
        have e14 := (hF.done 0 (14, SP.is (.pointer (some ⟨b2, 0, none⟩))) (by rw [hD]; rfl) (ready_dep hk 0 (by kernel_rfl)))
        exact wpOp_plain rfl rfl (wp_loadp rfl b2 0 e14 _ (r2.cell 0 _ (by rw [HLPE.out]; rfl)) ⟨(hF.put 1 15 (SP.is (.pointer (some ⟨S, 0, none⟩))) (.pointer (some ⟨S, 0, none⟩)) (by rw [hD]; rfl) rfl (by rw [hD]; rfl) (by rw [hsz]; decide) (by rw [hl]; decide)), hb1, r2, r6, hR, hG, hK, (fun h1 => by change (SP.enc n1).P _ ((ac.put (some 15) _).eval (.tmp 20)); rw [eval_put_other ac _ (by decide)]; exact ti6 (by rwa [getD_set _ _ _ (by decide)] at h1))⟩)
      · have hk3 := hk
        have e6 := ((hF.keep 6 (by rw [hD]; rfl)).trans zs6)
        exact wpOp_plain rfl rfl (wp_f_l b6 0 (.inl rfl) rfl e6 ⟨(hF.put 2 16 (SP.is (.pointer (some ⟨b6, 0, none⟩))) (.pointer (some ⟨b6, 0, none⟩)) (by rw [hD]; rfl) rfl (by rw [hD]; rfl) (by rw [hsz]; decide) (by rw [hl]; decide)), hb1, r2, r6, hR, hG, hK, (fun h1 => by change (SP.enc n1).P _ ((ac.put (some 16) _).eval (.tmp 20)); rw [eval_put_other ac _ (by decide)]; exact ti6 (by rwa [getD_set _ _ _ (by decide)] at h1))⟩)
      · have hk3 := hk
        have e16 := (hF.done 2 (16, SP.is (.pointer (some ⟨b6, 0, none⟩))) (by rw [hD]; rfl) (ready_dep hk 2 (by kernel_rfl)))
        exact wpOp_plain rfl rfl (wp_loads rfl b6 0 e16 _ (by have q := r6; rw [HN1E.out] at q; exact lnl_s q) ⟨(hF.put 3 17 (SP.is (.string s1)) (.string s1) (by rw [hD]; rfl) rfl (by rw [hD]; rfl) (by rw [hsz]; decide) (by rw [hl]; decide)), hb1, r2, r6, hR, hG, hK, (fun h1 => by change (SP.enc n1).P _ ((ac.put (some 17) _).eval (.tmp 20)); rw [eval_put_other ac _ (by decide)]; exact ti6 (by rwa [getD_set _ _ _ (by decide)] at h1))⟩)
      · have hk3 := hk
        have e6 := ((hF.keep 6 (by rw [hD]; rfl)).trans zs6)
        exact wpOp_plain rfl rfl (wp_f_l b6 1 (.inr rfl) rfl e6 ⟨(hF.put 4 18 (SP.is (.pointer (some ⟨b6, 1, none⟩))) (.pointer (some ⟨b6, 1, none⟩)) (by rw [hD]; rfl) rfl (by rw [hD]; rfl) (by rw [hsz]; decide) (by rw [hl]; decide)), hb1, r2, r6, hR, hG, hK, (fun h1 => by change (SP.enc n1).P _ ((ac.put (some 18) _).eval (.tmp 20)); rw [eval_put_other ac _ (by decide)]; exact ti6 (by rwa [getD_set _ _ _ (by decide)] at h1))⟩)
      · have hk3 := hk
        exact wpOp_plain rfl rfl (wp_load_mid 25 (.tmp 18) rfl b6 1 (hF.done 4 (18, SP.is (.pointer (some ⟨b6, 1, none⟩))) (by rw [hD]; rfl) (ready_dep hk 4 (by kernel_rfl))) A1 _ (by rw [HA1E.out]; have q := r6; rw [HN1E.out] at q; exact lnl_am q) Tryd.underlying25 rfl HA1I.out ⟨(hF.put 5 19 (SP.is (.agg A1.toArray)) (.agg A1.toArray) (by rw [hD]; rfl) rfl (by rw [hD]; rfl) (by rw [hsz]; decide) (by rw [hl]; decide)), hb1, r2, r6, hR, hG, hK, (fun h1 => by change (SP.enc n1).P _ ((ac.put (some 19) _).eval (.tmp 20)); rw [eval_put_other ac _ (by decide)]; exact ti6 (by rwa [getD_set _ _ _ (by decide)] at h1))⟩)
      · have hk3 := hk
        have e19 := (hF.done 5 (19, SP.is (.agg A1.toArray)) (by rw [hD]; rfl) (ready_dep hk 5 (by kernel_rfl)))
        refine wpOp_plain rfl rfl (wp_fcall_v 46 #[.agg A1.toArray] rfl rfl (by show [ac.eval (.tmp 19)] = _; rw [show ac.eval (.tmp 19) = .agg A1.toArray from e19]) (by go_simp) ((laidG n1 HL1.out A1 HA1E.out W).mono ?_))
        rintro e W2 ⟨A, n, c, rfl, hln, hbw, hnn, hB⟩
        exact ⟨_, rfl, ((hF.world hB).put 6 20 (SP.any) (.slice A n c) (by rw [hD]; rfl) trivial (by rw [hD]; rfl) (by rw [hsz]; decide) (by rw [hl]; decide)), hb1.trans (hB.mono hb1.size), Row.below r2 hB (Row.lt r2), Row.below r6 hB (Row.lt r6), Row.below hR hB (Row.lt hR), hG.below hB, hK.below hB, (fun _ => by change (SP.enc n1).P _ ((ac.put (some 20) _).eval (.tmp 20)); rw [eval_put_same ac _ (by rw [hF.size, hsz]; decide)]; exact ⟨A, n, c, rfl, hln, hbw, hnn⟩)⟩
      · exact absurd rfl hne
      · exact absurd (ready_dep hk 7 (by kernel_rfl)) hnl
    · clear ha0 hb1 r2 r6 hR hG hK
      intro listed ac W hl hI hdn hk
      replace hl : listed.size = 9 := hl
      obtain ⟨hF, hb1, r2, r6, hR, hG, hK, ti6⟩ := hI
      have e15 := (hF.done 1 (15, SP.is (.pointer (some ⟨S, 0, none⟩))) (by rw [hD]; rfl) (ready_dep hk 1 (by kernel_rfl)))
      have e17 := (hF.done 3 (17, SP.is (.string s1)) (by rw [hD]; rfl) (ready_dep hk 3 (by kernel_rfl)))
      obtain ⟨A, n, c, e20, hln, hbw, hnn⟩ := (ti6 (ready_dep hk 6 (by kernel_rfl)))
      refine wpOp_plain rfl rfl (wp_fcall_v 42 #[.pointer (some ⟨S, 0, none⟩), .string s1, .slice A n c] rfl rfl (by show [ac.eval (.tmp 15), ac.eval (.tmp 17), ac.eval (.tmp 20)] = _; rw [show ac.eval (.tmp 15) = _ from e15, show ac.eval (.tmp 17) = _ from e17, e20]) (by go_simp) (((show Calls Tryd.prog 42 #[.pointer (some ⟨S, 0, none⟩), .string s1, .slice A n c] W fun e w' => e = .returned (.int .i64 0) ∧ Lg w0 w' S (q + 1 + 1) f2 ∧ Kp W w' by rw [HF1.out]; exact put_lg w0 S (q + 1) f1 (by have := HQ.out; omega) s1 HS1.out A n c (enc n1) hln.symm (by rw [hln]; exact Nat.le_trans (enc_len n1) (by decide)) hnn W hG (fun W2 k2 => Bw.sl (k2.bw hbw)))).mono ?_))
      rintro e W2 ⟨rfl, hG2, hK2⟩
      have hT : Fp D a0 listed ac W2 := hF.turn (by rw [hD]; simp only [List.forall_mem_cons, List.not_mem_nil, false_implies, implies_true, and_true]; exact ⟨fun _ h => h, fun _ h => h, fun _ h => h, fun _ h => h, fun _ h => h, fun _ h => h, fun _ h => h, fun _ h => h, fun _ h => h⟩)
      exact ⟨_, rfl, (hT.put 7 21 (SP.is (.int .i64 0)) _ (by rw [hD]; rfl) rfl (by rw [hD]; rfl) (by rw [hsz]; decide) (by rw [hl]; decide)), hG2, hK.trans hK2, hK2.row _ _ _ (by decide) r2, hK2.row _ _ _ (by decide) hR⟩
    · clear ha0 hb1 r2 r6 hR hG hK
      intro listed ac W k hl hJ hdn hk hne hyl
      replace hl : listed.size = 9 := hl
      obtain ⟨hF, hG, hK, r2, hR⟩ := hJ
      have hk1 : k < 9 := List.mem_range.1 (List.mem_filter.1 hk).1
      rcases (show k = 0 ∨ k = 1 ∨ k = 2 ∨ k = 3 ∨ k = 4 ∨ k = 5 ∨ k = 6 ∨ k = 7 ∨ k = 8 by omega) with rfl | rfl | rfl | rfl | rfl | rfl | rfl | rfl | rfl
      · exact absurd (hdn 1 (hdn 7 hyl 1 (by kernel_rfl)) 0 (by kernel_rfl)) (not_yet hk)
      · exact absurd (hdn 7 hyl 1 (by kernel_rfl)) (not_yet hk)
      · exact absurd (hdn 3 (hdn 7 hyl 3 (by kernel_rfl)) 2 (by kernel_rfl)) (not_yet hk)
      · exact absurd (hdn 7 hyl 3 (by kernel_rfl)) (not_yet hk)
      · exact absurd (hdn 5 (hdn 6 (hdn 7 hyl 6 (by kernel_rfl)) 5 (by kernel_rfl)) 4 (by kernel_rfl)) (not_yet hk)
      · exact absurd (hdn 6 (hdn 7 hyl 6 (by kernel_rfl)) 5 (by kernel_rfl)) (not_yet hk)
      · exact absurd (hdn 7 hyl 6 (by kernel_rfl)) (not_yet hk)
      · exact absurd rfl hne
      · exact wpOp_plain rfl rfl (wp_assign_v (ac.eval (.tmp 21)) rfl rfl ⟨(hF.put 8 7 (SP.is (.int .i64 0)) _ (by rw [hD]; rfl) (hF.done 7 (21, SP.is (.int .i64 0)) (by rw [hD]; rfl) (ready_dep hk 7 (by kernel_rfl))) (by rw [hD]; rfl) (by rw [hsz]; decide) (by rw [hl]; decide)), hG, hK, r2, hR⟩)
    · clear hb1 r2 r6 hR hG hK
      intro listed ac W hl hJ hr
      replace hl : listed.size = 9 := hl
      obtain ⟨hF, hG, hK, r2, hR⟩ := hJ
      have hall := all_listed (by kernel_rfl) hl hr
      have h14 : ac.eval (.tmp 14) = .pointer (some ⟨b2, 0, none⟩) := hF.done 0 (14, SP.is (.pointer (some ⟨b2, 0, none⟩))) (by rw [hD]; rfl) (hall 0 (by decide))
      have h15 : ac.eval (.tmp 15) = .pointer (some ⟨S, 0, none⟩) := hF.done 1 (15, SP.is (.pointer (some ⟨S, 0, none⟩))) (by rw [hD]; rfl) (hall 1 (by decide))
      have h16 : ac.eval (.tmp 16) = .pointer (some ⟨b6, 0, none⟩) := hF.done 2 (16, SP.is (.pointer (some ⟨b6, 0, none⟩))) (by rw [hD]; rfl) (hall 2 (by decide))
      have h17 : ac.eval (.tmp 17) = .string s1 := hF.done 3 (17, SP.is (.string s1)) (by rw [hD]; rfl) (hall 3 (by decide))
      have h18 : ac.eval (.tmp 18) = .pointer (some ⟨b6, 1, none⟩) := hF.done 4 (18, SP.is (.pointer (some ⟨b6, 1, none⟩))) (by rw [hD]; rfl) (hall 4 (by decide))
      have h19 : ac.eval (.tmp 19) = .agg A1.toArray := hF.done 5 (19, SP.is (.agg A1.toArray)) (by rw [hD]; rfl) (hall 5 (by decide))
      obtain ⟨x20, h20⟩ : ∃ x, ac.eval (.tmp 20) = x := ⟨_, rfl⟩
      have h21 : ac.eval (.tmp 21) = .int .i64 0 := hF.done 7 (21, SP.is (.int .i64 0)) (by rw [hD]; rfl) (hall 7 (by decide))
      have h7 : ac.eval (.tmp 7) = .int .i64 0 := hF.done 8 (7, SP.is (.int .i64 0)) (by rw [hD]; rfl) (hall 8 (by decide))
      have ea := hF.lay [(14, .pointer (some ⟨b2, 0, none⟩)), (15, .pointer (some ⟨S, 0, none⟩)), (16, .pointer (some ⟨b6, 0, none⟩)), (17, .string s1), (18, .pointer (some ⟨b6, 1, none⟩)), (19, .agg A1.toArray), (20, x20), (21, .int .i64 0), (7, .int .i64 0)] (by rw [hD, hsz]; rfl) (by simp only [List.forall_mem_cons, List.not_mem_nil, false_implies, implies_true, and_true]; exact ⟨h14, h15, h16, h17, h18, h19, h20, h21, h7⟩)
      rw [ha0] at ea
      simp only [List.foldl_cons, List.foldl_nil, List.setIfInBounds_toArray, List.set_cons_zero, List.set_cons_succ] at ea
      clear hF hall hr hl hD zs2 zs6 ha0 hsz h14 h15 h16 h17 h18 h19 h20 h21 h7
      subst ea
      obtain ⟨V2, hV⟩ : ∃ V, V = W := ⟨_, rfl⟩
      rw [← hV]
      rw [← hV] at hG hK r2 hR
      clear hV
      have HG : Hid (Lg w0 V2 S (q + 1 + 1) f2) := hG
      have HK : Hid (Kp w V2) := hK
      have R2 : Hid (Row V2 b2 LP 58) := r2
      have HR : Hid (Row V2 g CU 65) := hR
      clear hG hK r2 hR
      go_wp2_with fail
      rw [rounds_succ]
      have RG : Hid (V2.rangeAt g 10 N2) := seg HR.out HSG2.out HPL2.out
      obtain ⟨b6, hb6⟩ : ∃ b, b = V2.heap.size := ⟨_, rfl⟩
      have HB6 : Hid (b6 = V2.heap.size) := hb6
      clear hb6
      go_upto_region 4 with (first
        | (refine wpList_load_w rfl 65 (.tmp 12) rfl g 10 rfl N2 _ RG.out Tryd.underlying65 rfl HN2I.out ?_; simp only [Act.put, List.setIfInBounds_toArray, List.set_cons_zero, List.set_cons_succ])
        | (refine wpList_allocL rfl rfl ?_; intro X6 q1 q2 q3; have R6 : Hid (Row X6 _ zL 65) := q1; have B6 : Hid (Below _ _ X6) := q2; clear q1 q2 q3; simp only [Act.put, List.setIfInBounds_toArray, List.set_cons_zero, List.set_cons_succ])
        | (refine wpList_storeL rfl 65 (.tmp 6) (.tmp 13) rfl V2.heap.size N2 zL 65 rfl rfl R6.out HN2N.out HN2I.out HN2O.out ?_; intro Y6 q1 q2; have HY6 : Hid (Y6 = _) := q1; have RY6 : Hid (Row Y6 V2.heap.size N2 65) := q2; clear q1 q2; simp only [Act.put]))
      rw [← HB6.out] at RY6 HY6
      rw [← HB6.out]
      have b8 : Below V2.heap.size V2 Y6 := by rw [HY6.out]; exact below_setCells B6.out (by rw [HB6.out]; exact Nat.le_refl _) _
      have r2 := Row.below R2.out b8 R2.out.lt
      have r6 := RY6.out
      have hG := HG.out.be b8
      have hK := HK.out.trans (Kp.of_below b8)
      have hb1 := Below.refl Y6.heap.size Y6
      have hR := Row.below HR.out b8 HR.out.lt
      clear R2 RY6 HG HK B6 HY6 HB6 R6 b8 RG HR
      refine wp_named fun a0 ha0 => ?_
      have hsz : a0.tmps.size = 26 := by rw [ha0]; rfl
      have zs2 : a0.eval (.tmp 2) = .pointer (some ⟨b2, 0, none⟩) := by rw [ha0]; rfl
      have zs6 : a0.eval (.tmp 6) = .pointer (some ⟨b6, 0, none⟩) := by rw [ha0]; rfl
      obtain ⟨D, hD⟩ : ∃ D : List (Tmp × SP), D = [(14, SP.is (.pointer (some ⟨b2, 0, none⟩))), (15, SP.is (.pointer (some ⟨S, 0, none⟩))), (16, SP.is (.pointer (some ⟨b6, 0, none⟩))), (17, SP.is (.string s2)), (18, SP.is (.pointer (some ⟨b6, 1, none⟩))), (19, SP.is (.agg A2.toArray)), (20, SP.any), (21, SP.is (.int .i64 0)), (7, SP.is (.int .i64 0))] := ⟨_, rfl⟩
      refine wp_region_then (by kernel_rfl) 7 (by decide) (by kernel_rfl) (fun listed ac W => Fp D a0 listed ac W ∧ Below Y6.heap.size Y6 W ∧ Row W b2 LP 58 ∧ Row W b6 N2 65 ∧ Row W g CU 65 ∧ Lg w0 W S (q + 1 + 1) f2 ∧ Kp w W ∧ (listed.getD 6 false = true → (SP.enc n2).P W (ac.eval (.tmp 20)))) (fun listed ac W => Fp D a0 listed ac W ∧ Lg w0 W S (q + 1 + 1 + 1) f3 ∧ Kp w W ∧ Row W b2 LP 58 ∧ Row W g CU 65) ?_ ?_ ?_ ?_ ?_
      · exact ⟨Fp.start D a0 _ _, Below.drew hb1, Row.drew r2, Row.drew r6, Row.drew hR, hG.below (Below.drew (Below.refl _ _)), hK.below (Below.drew (Below.refl _ _)), (fun h => (start_no h).elim)⟩
      · clear ha0 hb1 r2 r6 hR hG hK
        intro listed ac W k hl hI hdn hk hne hnl
        replace hl : listed.size = 9 := hl
        obtain ⟨hF, hb1, r2, r6, hR, hG, hK, ti6⟩ := hI
        have hk1 : k < 9 := List.mem_range.1 (List.mem_filter.1 hk).1
        rcases (show k = 0 ∨ k = 1 ∨ k = 2 ∨ k = 3 ∨ k = 4 ∨ k = 5 ∨ k = 6 ∨ k = 7 ∨ k = 8 by omega) with rfl | rfl | rfl | rfl | rfl | rfl | rfl | rfl | rfl
        · have hk3 := hk
          have e2 := ((hF.keep 2 (by rw [hD]; rfl)).trans zs2)
          exact wpOp_plain rfl rfl (wp_f_p0 b2 rfl e2 ⟨(hF.put 0 14 (SP.is (.pointer (some ⟨b2, 0, none⟩))) (.pointer (some ⟨b2, 0, none⟩)) (by rw [hD]; rfl) rfl (by rw [hD]; rfl) (by rw [hsz]; decide) (by rw [hl]; decide)), hb1, r2, r6, hR, hG, hK, (fun h1 => by change (SP.enc n2).P _ ((ac.put (some 14) _).eval (.tmp 20)); rw [eval_put_other ac _ (by decide)]; exact ti6 (by rwa [getD_set _ _ _ (by decide)] at h1))⟩)
        · have hk3 := hk
          have e14 := (hF.done 0 (14, SP.is (.pointer (some ⟨b2, 0, none⟩))) (by rw [hD]; rfl) (ready_dep hk 0 (by kernel_rfl)))
          exact wpOp_plain rfl rfl (wp_loadp rfl b2 0 e14 _ (r2.cell 0 _ (by rw [HLPE.out]; rfl)) ⟨(hF.put 1 15 (SP.is (.pointer (some ⟨S, 0, none⟩))) (.pointer (some ⟨S, 0, none⟩)) (by rw [hD]; rfl) rfl (by rw [hD]; rfl) (by rw [hsz]; decide) (by rw [hl]; decide)), hb1, r2, r6, hR, hG, hK, (fun h1 => by change (SP.enc n2).P _ ((ac.put (some 15) _).eval (.tmp 20)); rw [eval_put_other ac _ (by decide)]; exact ti6 (by rwa [getD_set _ _ _ (by decide)] at h1))⟩)
        · have hk3 := hk
          have e6 := ((hF.keep 6 (by rw [hD]; rfl)).trans zs6)
          exact wpOp_plain rfl rfl (wp_f_l b6 0 (.inl rfl) rfl e6 ⟨(hF.put 2 16 (SP.is (.pointer (some ⟨b6, 0, none⟩))) (.pointer (some ⟨b6, 0, none⟩)) (by rw [hD]; rfl) rfl (by rw [hD]; rfl) (by rw [hsz]; decide) (by rw [hl]; decide)), hb1, r2, r6, hR, hG, hK, (fun h1 => by change (SP.enc n2).P _ ((ac.put (some 16) _).eval (.tmp 20)); rw [eval_put_other ac _ (by decide)]; exact ti6 (by rwa [getD_set _ _ _ (by decide)] at h1))⟩)
        · have hk3 := hk
          have e16 := (hF.done 2 (16, SP.is (.pointer (some ⟨b6, 0, none⟩))) (by rw [hD]; rfl) (ready_dep hk 2 (by kernel_rfl)))
          exact wpOp_plain rfl rfl (wp_loads rfl b6 0 e16 _ (by have q := r6; rw [HN2E.out] at q; exact lnl_s q) ⟨(hF.put 3 17 (SP.is (.string s2)) (.string s2) (by rw [hD]; rfl) rfl (by rw [hD]; rfl) (by rw [hsz]; decide) (by rw [hl]; decide)), hb1, r2, r6, hR, hG, hK, (fun h1 => by change (SP.enc n2).P _ ((ac.put (some 17) _).eval (.tmp 20)); rw [eval_put_other ac _ (by decide)]; exact ti6 (by rwa [getD_set _ _ _ (by decide)] at h1))⟩)
        · have hk3 := hk
          have e6 := ((hF.keep 6 (by rw [hD]; rfl)).trans zs6)
          exact wpOp_plain rfl rfl (wp_f_l b6 1 (.inr rfl) rfl e6 ⟨(hF.put 4 18 (SP.is (.pointer (some ⟨b6, 1, none⟩))) (.pointer (some ⟨b6, 1, none⟩)) (by rw [hD]; rfl) rfl (by rw [hD]; rfl) (by rw [hsz]; decide) (by rw [hl]; decide)), hb1, r2, r6, hR, hG, hK, (fun h1 => by change (SP.enc n2).P _ ((ac.put (some 18) _).eval (.tmp 20)); rw [eval_put_other ac _ (by decide)]; exact ti6 (by rwa [getD_set _ _ _ (by decide)] at h1))⟩)
        · have hk3 := hk
          exact wpOp_plain rfl rfl (wp_load_mid 25 (.tmp 18) rfl b6 1 (hF.done 4 (18, SP.is (.pointer (some ⟨b6, 1, none⟩))) (by rw [hD]; rfl) (ready_dep hk 4 (by kernel_rfl))) A2 _ (by rw [HA2E.out]; have q := r6; rw [HN2E.out] at q; exact lnl_am q) Tryd.underlying25 rfl HA2I.out ⟨(hF.put 5 19 (SP.is (.agg A2.toArray)) (.agg A2.toArray) (by rw [hD]; rfl) rfl (by rw [hD]; rfl) (by rw [hsz]; decide) (by rw [hl]; decide)), hb1, r2, r6, hR, hG, hK, (fun h1 => by change (SP.enc n2).P _ ((ac.put (some 19) _).eval (.tmp 20)); rw [eval_put_other ac _ (by decide)]; exact ti6 (by rwa [getD_set _ _ _ (by decide)] at h1))⟩)
        · have hk3 := hk
          have e19 := (hF.done 5 (19, SP.is (.agg A2.toArray)) (by rw [hD]; rfl) (ready_dep hk 5 (by kernel_rfl)))
          refine wpOp_plain rfl rfl (wp_fcall_v 46 #[.agg A2.toArray] rfl rfl (by show [ac.eval (.tmp 19)] = _; rw [show ac.eval (.tmp 19) = .agg A2.toArray from e19]) (by go_simp) ((laidG n2 HL2.out A2 HA2E.out W).mono ?_))
          rintro e W2 ⟨A, n, c, rfl, hln, hbw, hnn, hB⟩
          exact ⟨_, rfl, ((hF.world hB).put 6 20 (SP.any) (.slice A n c) (by rw [hD]; rfl) trivial (by rw [hD]; rfl) (by rw [hsz]; decide) (by rw [hl]; decide)), hb1.trans (hB.mono hb1.size), Row.below r2 hB (Row.lt r2), Row.below r6 hB (Row.lt r6), Row.below hR hB (Row.lt hR), hG.below hB, hK.below hB, (fun _ => by change (SP.enc n2).P _ ((ac.put (some 20) _).eval (.tmp 20)); rw [eval_put_same ac _ (by rw [hF.size, hsz]; decide)]; exact ⟨A, n, c, rfl, hln, hbw, hnn⟩)⟩
        · exact absurd rfl hne
        · exact absurd (ready_dep hk 7 (by kernel_rfl)) hnl
      · clear ha0 hb1 r2 r6 hR hG hK
        intro listed ac W hl hI hdn hk
        replace hl : listed.size = 9 := hl
        obtain ⟨hF, hb1, r2, r6, hR, hG, hK, ti6⟩ := hI
        have e15 := (hF.done 1 (15, SP.is (.pointer (some ⟨S, 0, none⟩))) (by rw [hD]; rfl) (ready_dep hk 1 (by kernel_rfl)))
        have e17 := (hF.done 3 (17, SP.is (.string s2)) (by rw [hD]; rfl) (ready_dep hk 3 (by kernel_rfl)))
        obtain ⟨A, n, c, e20, hln, hbw, hnn⟩ := (ti6 (ready_dep hk 6 (by kernel_rfl)))
        refine wpOp_plain rfl rfl (wp_fcall_v 42 #[.pointer (some ⟨S, 0, none⟩), .string s2, .slice A n c] rfl rfl (by show [ac.eval (.tmp 15), ac.eval (.tmp 17), ac.eval (.tmp 20)] = _; rw [show ac.eval (.tmp 15) = _ from e15, show ac.eval (.tmp 17) = _ from e17, e20]) (by go_simp) (((show Calls Tryd.prog 42 #[.pointer (some ⟨S, 0, none⟩), .string s2, .slice A n c] W fun e w' => e = .returned (.int .i64 0) ∧ Lg w0 w' S (q + 1 + 1 + 1) f3 ∧ Kp W w' by rw [HF2.out]; exact put_lg w0 S (q + 1 + 1) f2 (by have := HQ.out; omega) s2 HS2.out A n c (enc n2) hln.symm (by rw [hln]; exact Nat.le_trans (enc_len n2) (by decide)) hnn W hG (fun W2 k2 => Bw.sl (k2.bw hbw)))).mono ?_))
        rintro e W2 ⟨rfl, hG2, hK2⟩
        have hT : Fp D a0 listed ac W2 := hF.turn (by rw [hD]; simp only [List.forall_mem_cons, List.not_mem_nil, false_implies, implies_true, and_true]; exact ⟨fun _ h => h, fun _ h => h, fun _ h => h, fun _ h => h, fun _ h => h, fun _ h => h, fun _ h => h, fun _ h => h, fun _ h => h⟩)
        exact ⟨_, rfl, (hT.put 7 21 (SP.is (.int .i64 0)) _ (by rw [hD]; rfl) rfl (by rw [hD]; rfl) (by rw [hsz]; decide) (by rw [hl]; decide)), hG2, hK.trans hK2, hK2.row _ _ _ (by decide) r2, hK2.row _ _ _ (by decide) hR⟩
      · clear ha0 hb1 r2 r6 hR hG hK
        intro listed ac W k hl hJ hdn hk hne hyl
        replace hl : listed.size = 9 := hl
        obtain ⟨hF, hG, hK, r2, hR⟩ := hJ
        have hk1 : k < 9 := List.mem_range.1 (List.mem_filter.1 hk).1
        rcases (show k = 0 ∨ k = 1 ∨ k = 2 ∨ k = 3 ∨ k = 4 ∨ k = 5 ∨ k = 6 ∨ k = 7 ∨ k = 8 by omega) with rfl | rfl | rfl | rfl | rfl | rfl | rfl | rfl | rfl
        · exact absurd (hdn 1 (hdn 7 hyl 1 (by kernel_rfl)) 0 (by kernel_rfl)) (not_yet hk)
        · exact absurd (hdn 7 hyl 1 (by kernel_rfl)) (not_yet hk)
        · exact absurd (hdn 3 (hdn 7 hyl 3 (by kernel_rfl)) 2 (by kernel_rfl)) (not_yet hk)
        · exact absurd (hdn 7 hyl 3 (by kernel_rfl)) (not_yet hk)
        · exact absurd (hdn 5 (hdn 6 (hdn 7 hyl 6 (by kernel_rfl)) 5 (by kernel_rfl)) 4 (by kernel_rfl)) (not_yet hk)
        · exact absurd (hdn 6 (hdn 7 hyl 6 (by kernel_rfl)) 5 (by kernel_rfl)) (not_yet hk)
        · exact absurd (hdn 7 hyl 6 (by kernel_rfl)) (not_yet hk)
        · exact absurd rfl hne
        · exact wpOp_plain rfl rfl (wp_assign_v (ac.eval (.tmp 21)) rfl rfl ⟨(hF.put 8 7 (SP.is (.int .i64 0)) _ (by rw [hD]; rfl) (hF.done 7 (21, SP.is (.int .i64 0)) (by rw [hD]; rfl) (ready_dep hk 7 (by kernel_rfl))) (by rw [hD]; rfl) (by rw [hsz]; decide) (by rw [hl]; decide)), hG, hK, r2, hR⟩)
      · clear hb1 r2 r6 hR hG hK
        intro listed ac W hl hJ hr
        replace hl : listed.size = 9 := hl
        obtain ⟨hF, hG, hK, r2, hR⟩ := hJ
        have hall := all_listed (by kernel_rfl) hl hr
        have h14 : ac.eval (.tmp 14) = .pointer (some ⟨b2, 0, none⟩) := hF.done 0 (14, SP.is (.pointer (some ⟨b2, 0, none⟩))) (by rw [hD]; rfl) (hall 0 (by decide))
        have h15 : ac.eval (.tmp 15) = .pointer (some ⟨S, 0, none⟩) := hF.done 1 (15, SP.is (.pointer (some ⟨S, 0, none⟩))) (by rw [hD]; rfl) (hall 1 (by decide))
        have h16 : ac.eval (.tmp 16) = .pointer (some ⟨b6, 0, none⟩) := hF.done 2 (16, SP.is (.pointer (some ⟨b6, 0, none⟩))) (by rw [hD]; rfl) (hall 2 (by decide))
        have h17 : ac.eval (.tmp 17) = .string s2 := hF.done 3 (17, SP.is (.string s2)) (by rw [hD]; rfl) (hall 3 (by decide))
        have h18 : ac.eval (.tmp 18) = .pointer (some ⟨b6, 1, none⟩) := hF.done 4 (18, SP.is (.pointer (some ⟨b6, 1, none⟩))) (by rw [hD]; rfl) (hall 4 (by decide))
        have h19 : ac.eval (.tmp 19) = .agg A2.toArray := hF.done 5 (19, SP.is (.agg A2.toArray)) (by rw [hD]; rfl) (hall 5 (by decide))
        obtain ⟨x20, h20⟩ : ∃ x, ac.eval (.tmp 20) = x := ⟨_, rfl⟩
        have h21 : ac.eval (.tmp 21) = .int .i64 0 := hF.done 7 (21, SP.is (.int .i64 0)) (by rw [hD]; rfl) (hall 7 (by decide))
        have h7 : ac.eval (.tmp 7) = .int .i64 0 := hF.done 8 (7, SP.is (.int .i64 0)) (by rw [hD]; rfl) (hall 8 (by decide))
        have ea := hF.lay [(14, .pointer (some ⟨b2, 0, none⟩)), (15, .pointer (some ⟨S, 0, none⟩)), (16, .pointer (some ⟨b6, 0, none⟩)), (17, .string s2), (18, .pointer (some ⟨b6, 1, none⟩)), (19, .agg A2.toArray), (20, x20), (21, .int .i64 0), (7, .int .i64 0)] (by rw [hD, hsz]; rfl) (by simp only [List.forall_mem_cons, List.not_mem_nil, false_implies, implies_true, and_true]; exact ⟨h14, h15, h16, h17, h18, h19, h20, h21, h7⟩)
        rw [ha0] at ea
        simp only [List.foldl_cons, List.foldl_nil, List.setIfInBounds_toArray, List.set_cons_zero, List.set_cons_succ] at ea
        clear hF hall hr hl hD zs2 zs6 ha0 hsz h14 h15 h16 h17 h18 h19 h20 h21 h7
        subst ea
        obtain ⟨V3, hV⟩ : ∃ V, V = W := ⟨_, rfl⟩
        rw [← hV]
        rw [← hV] at hG hK r2 hR
        clear hV
        have HG : Hid (Lg w0 V3 S (q + 1 + 1 + 1) f3) := hG
        have HK : Hid (Kp w V3) := hK
        have R2 : Hid (Row V3 b2 LP 58) := r2
        have HR : Hid (Row V3 g CU 65) := hR
        clear hG hK r2 hR
        go_wp2_with fail
        rw [rounds_succ]
        go_wp2_with fail
        go_ret
        exact ⟨rfl, HG.out, HK.out⟩

end Go.Proofs.YtelioddogdcdoaaDoor
