/-
  Open.
-/
import Derived.Test.YtobmhggfkgcnfaaDoorTkD
import Derived.Test.YtobmhggfkgcnfaaDoorTRl
namespace Go.Proofs.YtobmhggfkgcnfaaDoor
open Go Go.RowKit Go.Maps
open Sha
open Wd

theorem Lg.below {w0 w w' : World} {S q : Nat} {f : ByteArray → List (BitVec 8)} (h : Lg w0 w S q f) (b : Below w.heap.size w w') : Lg w0 w' S q f := h.be b
theorem Kp.below {w w1 w' : World} (h : Kp w w1) (b : Below w1.heap.size w1 w') : Kp w w' := h.trans (Kp.of_below b)
theorem tkB_len {sd td : List (BitVec 8)} (h1 : sd.length = 20) (h2 : td.length = 20) : (tkB sd td).length = 81 := by
  unfold tkB
  simp only [List.length_append, List.length_cons, List.length_nil, h1, h2, wB_len]
set_option maxRecDepth 100000 in
set_option maxHeartbeats 4000000 in
theorem open_ok (w0 : World) (S q : Nat) (f f2 : ByteArray → List (BitVec 8)) (hq : q < 999990) (hf : f nK = []) (L : List Value) (sd td : List (BitVec 8)) (hL : Tl L 0 sd td) (hf2 : f2 = upd (upd f kK (tkB sd td)) nK [0#8, 0#8, 0#8, 0#8, 0#8, 0#8, 0#8, 1#8]) (w : World) (h : Lg w0 w S q f) :
    Calls Tryd.prog 6 #[.pointer (some ⟨S, 0, none⟩), .agg L.toArray] w fun e w' => e = .returned (.tuple #[.int .i64 1, .int .i64 0]) ∧ Lg w0 w' S (q + 3) f2 ∧ Kp w w' := by
  obtain ⟨b, hb⟩ : ∃ b, b = w.heap.size := ⟨_, rfl⟩
  obtain ⟨W1, hW1, r1, b1⟩ : ∃ W, W = w.alloc (Obj.cells L.toArray 29) ∧ Row W b L 29 ∧ Below w.heap.size w W := ⟨_, rfl, Row.new' hb rfl, (Below.refl _ _).alloc (Nat.le_refl _) _⟩
  have HT : Hid (Tl L 0 sd td) := hL
  have HW : Hid (W1 = _) := hW1
  have HBE : Hid (b = w.heap.size) := hb
  have HQ : Hid (q < 999990) := hq
  have HF : Hid (f nK = []) := hf
  have HF2 : Hid (f2 = _) := hf2
  have HG : Hid (Lg w0 W1 S q f) := h.be b1
  have HK : Hid (Kp w W1) := Kp.of_below b1
  have HR : Hid (Row W1 b L 29) := r1
  have HI : Hid ((Tryd.prog.info? 29).map (·.size) = some L.length) := by show _ = _; rw [hL.len]; exact info_tk
  have g0 := r1.cell 0 _ hL.c_n
  clear hL hW1 hb hq hf hf2 h r1 b1
  go_enter Tryd.func6, Tryd.ntmps6
  go_upto_region 1 with fail
  rw [← HW.out, ← HBE.out]
  clear HW HBE
  have HRA : Hid (W1.rangeAt b 0 L) := HR.out.all
  go_wp2_with (refine wpList_load_w rfl 29 (.tmp 3) rfl b 0 rfl L _ HRA.out Tryd.underlying29 rfl HI.out ?_; simp only [Act.put, List.setIfInBounds_toArray, List.set_cons_zero, List.set_cons_succ])
  refine Calls.mono (mayBe_ok L 0 sd td HT.out W1) ?_
  rintro e V1 ⟨rfl, hB⟩
  replace HR : Hid (Row V1 b L 29) := Row.below HR.out hB HR.out.lt
  replace HG : Hid (Lg w0 V1 S q f) := HG.out.be hB
  replace HK : Hid (Kp w V1) := HK.out.trans (Kp.of_below hB)
  clear hB g0 HRA
  go_wp2_with fail
  refine Calls.mono (made_none w0 S q f (by have := HQ.out; omega) HF.out V1 HG.out) ?_
  rintro e V2 ⟨rfl, hG, hK⟩
  replace HR : Hid (Row V2 b L 29) := hK.row _ _ _ (by decide) HR.out
  replace HG : Hid (Lg w0 V2 S (q + 1) f) := hG
  replace HK : Hid (Kp w V2) := HK.out.trans hK
  clear hG hK
  go_upto_region 11 with fail
  have r0 := HR.out
  have hG := HG.out
  have hK := HK.out
  have hb1 := Below.refl V2.heap.size V2
  clear HR HG HK
  refine wp_named fun a0 ha0 => ?_
  have hsz : a0.tmps.size = 54 := by rw [ha0]; rfl
  have zs0 : a0.eval (.tmp 0) = .pointer (some ⟨S, 0, none⟩) := by rw [ha0]; rfl
  have zs8 : a0.eval (.tmp 8) = .int .i64 1 := by rw [ha0]; rfl
  have zs3 : a0.eval (.tmp 3) = .pointer (some ⟨b, 0, none⟩) := by rw [ha0]; rfl
  obtain ⟨D, hD⟩ : ∃ D : List (Tmp × SP), D = [(37, SP.is (.pointer (some ⟨S, 0, none⟩))), (38, SP.is (.int .i64 1)), (39, SP.is (.string kK)), (40, SP.is (.agg L.toArray)), (41, SP.any), (42, SP.is (.int .i64 0)), (9, SP.is (.int .i64 0))] := ⟨_, rfl⟩
  refine wp_region_then (by kernel_rfl) 5 (by decide) (by kernel_rfl) (fun listed ac W => Fp D a0 listed ac W ∧ Below V2.heap.size V2 W ∧ Row W b L 29 ∧ Lg w0 W S (q + 1) f ∧ Kp w W ∧ (listed.getD 4 false = true → (SP.own 81 (tkB sd td)).P W (ac.eval (.tmp 41)))) (fun listed ac W => Fp D a0 listed ac W ∧ Lg w0 W S (q + 1 + 1) (upd f kK (tkB sd td)) ∧ Kp w W) ?_ ?_ ?_ ?_ ?_
  · exact ⟨Fp.start D a0 _ _, Below.drew hb1, Row.drew r0, hG.below (Below.drew (Below.refl _ _)), hK.below (Below.drew (Below.refl _ _)), (fun h => (start_no h).elim)⟩
  · clear ha0 hb1 r0 hG hK
    intro listed ac W k hl hI hdn hk hne hnl
    replace hl : listed.size = 7 := hl
    obtain ⟨hF, hb1, r0, hG, hK, ti4⟩ := hI
    have hk1 : k < 7 := List.mem_range.1 (List.mem_filter.1 hk).1
    rcases (show k = 0 ∨ k = 1 ∨ k = 2 ∨ k = 3 ∨ k = 4 ∨ k = 5 ∨ k = 6 by omega) with rfl | rfl | rfl | rfl | rfl | rfl | rfl
    · have hk3 := hk
      exact wpOp_plain rfl rfl (wp_move_v (ac.eval (.tmp 0)) rfl rfl ⟨(hF.put 0 37 (SP.is (.pointer (some ⟨S, 0, none⟩))) (ac.eval (.tmp 0)) (by rw [hD]; rfl) (((hF.keep 0 (by rw [hD]; rfl)).trans zs0)) (by rw [hD]; rfl) (by rw [hsz]; decide) (by rw [hl]; decide)), hb1, r0, hG, hK, (fun h1 => by change (SP.own 81 (tkB sd td)).P _ ((ac.put (some 37) _).eval (.tmp 41)); rw [eval_put_other ac _ (by decide)]; exact ti4 (by rwa [getD_set _ _ _ (by decide)] at h1))⟩)
    · have hk3 := hk
      exact wpOp_plain rfl rfl (wp_move_v (ac.eval (.tmp 8)) rfl rfl ⟨(hF.put 1 38 (SP.is (.int .i64 1)) (ac.eval (.tmp 8)) (by rw [hD]; rfl) (((hF.keep 8 (by rw [hD]; rfl)).trans zs8)) (by rw [hD]; rfl) (by rw [hsz]; decide) (by rw [hl]; decide)), hb1, r0, hG, hK, (fun h1 => by change (SP.own 81 (tkB sd td)).P _ ((ac.put (some 38) _).eval (.tmp 41)); rw [eval_put_other ac _ (by decide)]; exact ti4 (by rwa [getD_set _ _ _ (by decide)] at h1))⟩)
    · have hk3 := hk
      have e38 := (hF.done 1 (38, SP.is (.int .i64 1)) (by rw [hD]; rfl) (ready_dep hk 1 (by kernel_rfl)))
      refine wpOp_plain rfl rfl (wp_fcall_v 14 #[.int .i64 1] rfl rfl (by show [ac.eval (.tmp 38)] = _; rw [show ac.eval (.tmp 38) = .int .i64 1 from e38]) (by go_simp) ((tkey W).mono ?_))
      rintro e W2 ⟨rfl, hB⟩
      exact ⟨_, rfl, ((hF.world hB).put 2 39 (SP.is (.string kK)) (.string kK) (by rw [hD]; rfl) rfl (by rw [hD]; rfl) (by rw [hsz]; decide) (by rw [hl]; decide)), hb1.trans (hB.mono hb1.size), Row.below r0 hB (Row.lt r0), hG.below hB, hK.below hB, (fun h1 => by change (SP.own 81 (tkB sd td)).P _ ((ac.put (some 39) _).eval (.tmp 41)); rw [eval_put_other ac _ (by decide)]; exact (SP.own 81 (tkB sd td)).st _ _ _ hB (ti4 (by rwa [getD_set _ _ _ (by decide)] at h1)))⟩
    · have hk3 := hk
      exact wpOp_plain rfl rfl (wp_load_mid 29 (.tmp 3) rfl b 0 ((hF.keep 3 (by rw [hD]; rfl)).trans zs3) L _ r0.all Tryd.underlying29 rfl HI.out ⟨(hF.put 3 40 (SP.is (.agg L.toArray)) (.agg L.toArray) (by rw [hD]; rfl) rfl (by rw [hD]; rfl) (by rw [hsz]; decide) (by rw [hl]; decide)), hb1, r0, hG, hK, (fun h1 => by change (SP.own 81 (tkB sd td)).P _ ((ac.put (some 40) _).eval (.tmp 41)); rw [eval_put_other ac _ (by decide)]; exact ti4 (by rwa [getD_set _ _ _ (by decide)] at h1))⟩)
    · have hk3 := hk
      have e40 := (hF.done 3 (40, SP.is (.agg L.toArray)) (by rw [hD]; rfl) (ready_dep hk 3 (by kernel_rfl)))
      refine wpOp_plain rfl rfl (wp_fcall_v 15 #[.agg L.toArray] rfl rfl (by show [ac.eval (.tmp 40)] = _; rw [show ac.eval (.tmp 40) = .agg L.toArray from e40]) (by go_simp) ((tbytes L 0 sd td HT.out W).mono ?_))
      rintro e W2 ⟨A, c, rfl, hw1, hnn, hB⟩
      exact ⟨_, rfl, ((hF.world hB).put 4 41 (SP.any) (.slice A 81 c) (by rw [hD]; rfl) trivial (by rw [hD]; rfl) (by rw [hsz]; decide) (by rw [hl]; decide)), hb1.trans (hB.mono hb1.size), Row.below r0 hB (Row.lt r0), hG.below hB, hK.below hB, (fun _ => by change (SP.own 81 (tkB sd td)).P _ ((ac.put (some 41) _).eval (.tmp 41)); rw [eval_put_same ac _ (by rw [hF.size, hsz]; decide)]; exact ⟨A, c, rfl, hw1, hnn⟩)⟩
    · exact absurd rfl hne
    · exact absurd (ready_dep hk 5 (by kernel_rfl)) hnl
  · clear ha0 hb1 r0 hG hK
    intro listed ac W hl hI hdn hk
    replace hl : listed.size = 7 := hl
    obtain ⟨hF, hb1, r0, hG, hK, ti4⟩ := hI
    have e37 := (hF.done 0 (37, SP.is (.pointer (some ⟨S, 0, none⟩))) (by rw [hD]; rfl) (ready_dep hk 0 (by kernel_rfl)))
    have e39 := (hF.done 2 (39, SP.is (.string kK)) (by rw [hD]; rfl) (ready_dep hk 2 (by kernel_rfl)))
    obtain ⟨A, c, e41, hw1, hnn⟩ := (ti4 (ready_dep hk 4 (by kernel_rfl)))
    refine wpOp_plain rfl rfl (wp_fcall_v 13 #[.pointer (some ⟨S, 0, none⟩), .string kK, .slice A 81 c] rfl rfl (by show [ac.eval (.tmp 37), ac.eval (.tmp 39), ac.eval (.tmp 41)] = _; rw [show ac.eval (.tmp 37) = _ from e37, show ac.eval (.tmp 39) = _ from e39, e41]) (by go_simp) ((put_lg w0 S (q + 1) f (by have := HQ.out; omega) kK kK_key A 81 c (tkB sd td) (tkB_len HT.out.ls HT.out.lt) (by decide) (fun e => (hnn e).elim) W hG (fun W2 k2 => Bw.sl (k2.bw hw1))).mono ?_))
    rintro e W2 ⟨rfl, hG2, hK2⟩
    have hT : Fp D a0 listed ac W2 := hF.turn (by rw [hD]; simp only [List.forall_mem_cons, List.not_mem_nil, false_implies, implies_true, and_true]; exact ⟨fun _ h => h, fun _ h => h, fun _ h => h, fun _ h => h, fun _ h => h, fun _ h => h, fun _ h => h⟩)
    exact ⟨_, rfl, (hT.put 5 42 (SP.is (.int .i64 0)) _ (by rw [hD]; rfl) rfl (by rw [hD]; rfl) (by rw [hsz]; decide) (by rw [hl]; decide)), hG2, hK.trans hK2⟩
  · clear ha0 hb1 r0 hG hK
    intro listed ac W k hl hJ hdn hk hne hyl
    replace hl : listed.size = 7 := hl
    obtain ⟨hF, hG, hK⟩ := hJ
    have hk1 : k < 7 := List.mem_range.1 (List.mem_filter.1 hk).1
    rcases (show k = 0 ∨ k = 1 ∨ k = 2 ∨ k = 3 ∨ k = 4 ∨ k = 5 ∨ k = 6 by omega) with rfl | rfl | rfl | rfl | rfl | rfl | rfl
    · exact absurd (hdn 5 hyl 0 (by kernel_rfl)) (not_yet hk)
    · exact absurd (hdn 2 (hdn 5 hyl 2 (by kernel_rfl)) 1 (by kernel_rfl)) (not_yet hk)
    · exact absurd (hdn 5 hyl 2 (by kernel_rfl)) (not_yet hk)
    · exact absurd (hdn 4 (hdn 5 hyl 4 (by kernel_rfl)) 3 (by kernel_rfl)) (not_yet hk)
    · exact absurd (hdn 5 hyl 4 (by kernel_rfl)) (not_yet hk)
    · exact absurd rfl hne
    · exact wpOp_plain rfl rfl (wp_assign_v (ac.eval (.tmp 42)) rfl rfl ⟨(hF.put 6 9 (SP.is (.int .i64 0)) _ (by rw [hD]; rfl) (hF.done 5 (42, SP.is (.int .i64 0)) (by rw [hD]; rfl) (ready_dep hk 5 (by kernel_rfl))) (by rw [hD]; rfl) (by rw [hsz]; decide) (by rw [hl]; decide)), hG, hK⟩)
  · clear hb1 r0 hG hK
    intro listed ac W hl hJ hr
    replace hl : listed.size = 7 := hl
    obtain ⟨hF, hG, hK⟩ := hJ
    have hall := all_listed (by kernel_rfl) hl hr
    have h37 : ac.eval (.tmp 37) = .pointer (some ⟨S, 0, none⟩) := hF.done 0 (37, SP.is (.pointer (some ⟨S, 0, none⟩))) (by rw [hD]; rfl) (hall 0 (by decide))
    have h38 : ac.eval (.tmp 38) = .int .i64 1 := hF.done 1 (38, SP.is (.int .i64 1)) (by rw [hD]; rfl) (hall 1 (by decide))
    have h39 : ac.eval (.tmp 39) = .string kK := hF.done 2 (39, SP.is (.string kK)) (by rw [hD]; rfl) (hall 2 (by decide))
    have h40 : ac.eval (.tmp 40) = .agg L.toArray := hF.done 3 (40, SP.is (.agg L.toArray)) (by rw [hD]; rfl) (hall 3 (by decide))
    obtain ⟨x41, h41⟩ : ∃ x, ac.eval (.tmp 41) = x := ⟨_, rfl⟩
    have h42 : ac.eval (.tmp 42) = .int .i64 0 := hF.done 5 (42, SP.is (.int .i64 0)) (by rw [hD]; rfl) (hall 5 (by decide))
    have h9 : ac.eval (.tmp 9) = .int .i64 0 := hF.done 6 (9, SP.is (.int .i64 0)) (by rw [hD]; rfl) (hall 6 (by decide))
    have ea := hF.lay [(37, .pointer (some ⟨S, 0, none⟩)), (38, .int .i64 1), (39, .string kK), (40, .agg L.toArray), (41, x41), (42, .int .i64 0), (9, .int .i64 0)] (by rw [hD, hsz]; rfl) (by simp only [List.forall_mem_cons, List.not_mem_nil, false_implies, implies_true, and_true]; exact ⟨h37, h38, h39, h40, h41, h42, h9⟩)
    rw [ha0] at ea
    simp only [List.foldl_cons, List.foldl_nil, List.setIfInBounds_toArray, List.set_cons_zero, List.set_cons_succ] at ea
    clear hF hall hr hl hD zs0 zs8 zs3 ha0 hsz h37 h38 h39 h40 h41 h42 h9
    subst ea
    have HG : Hid (Lg w0 W S (q + 1 + 1) (upd f kK (tkB sd td))) := hG
    have HK : Hid (Kp w W) := hK
    have HE : Hid _ := eight_1 W
    clear hG hK
    go_wp2_with fail
    refine Calls.mono HE.out ?_
    rintro e V3 ⟨N, hN, hR, rfl, hB⟩
    have hP := put_lg w0 S (q + 1 + 1) (upd f kK (tkB sd td)) (by have := HQ.out; omega) nK nK_key (some ⟨N, 0, none⟩) 8 8 [0#8, 0#8, 0#8, 0#8, 0#8, 0#8, 0#8, 1#8] rfl (by decide) (fun e => nomatch e) V3 (HG.out.be hB) (fun W2 k2 => .inr ⟨N, 0, 8, rfl, by decide, (k2.row _ _ _ (by decide) hR).all⟩)
    rw [← HF2.out] at hP
    have HP : Hid _ := hP
    have HK2 : Hid (Kp w V3) := HK.out.trans (Kp.of_below hB)
    clear hP hN hR hB HE
    go_wp2_with fail
    refine Calls.mono HP.out ?_
    rintro e V4 ⟨rfl, hG, hK⟩
    have HG4 : Hid (Lg w0 V4 S (q + 1 + 1 + 1) f2) := hG
    have HK4 : Hid (Kp w V4) := HK2.out.trans hK
    clear hG hK HP
    go_wp2_with fail
    go_ret2
    exact ⟨rfl, HG4.out, HK4.out⟩

end Go.Proofs.YtobmhggfkgcnfaaDoor
