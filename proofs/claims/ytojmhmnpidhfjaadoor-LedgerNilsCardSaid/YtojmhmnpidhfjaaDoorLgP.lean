/-
  layLines.
-/
import Derived.Test.YtojmhmnpidhfjaaDoorLgO
namespace Go.Proofs.YtojmhmnpidhfjaaDoor
open Go Go.RowKit Go.Maps
open Sha
open Wd

theorem line_s {L : List Value} {s : ByteArray} {n : Int} (h : L = [.string s, .int .u64 n, .int .u64 0, .int .u64 0, .int .u64 0]) {w : World} {b : Nat} {t : TypeId} (r : Row w b L t) : w.cell? ⟨b, 0, none⟩ = some (.string s) := r.cell 0 _ (by rw [h]; rfl)
theorem line_am {L : List Value} {s : ByteArray} {n : Int} (h : L = [.string s, .int .u64 n, .int .u64 0, .int .u64 0, .int .u64 0]) {w : World} {b : Nat} {t : TypeId} (r : Row w b L t) : w.rangeAt b 1 [.int .u64 n, .int .u64 0, .int .u64 0, .int .u64 0] := r.range 1 _ (fun j v hj => by
  subst h
  match j, hj with
  | 0, hj => exact hj
  | 1, hj => exact hj
  | 2, hj => exact hj
  | 3, hj => exact hj)
theorem line_one {L : List Value} {s : ByteArray} {n : Int} (h : L = [.string s, .int .u64 n, .int .u64 0, .int .u64 0, .int .u64 0]) : L.toArray.all (·.oneCell') = true := by
  subst h
  rw [← Array.all_toList]
  rfl
theorem range_app {w : World} {g : Nat} {a b : List Value} {t : TypeId} {k : Nat} (h : Row w g (a ++ b) t) (hk : a.length = k) : w.rangeAt g 0 a ∧ w.rangeAt g k b :=
  ⟨h.range 0 _ (fun j v hj => by rw [Nat.zero_add, List.getElem?_append_left (List.getElem?_eq_some_iff.1 hj).1]; exact hj), h.range k _ (fun j v hj => by rw [List.getElem?_append_right (by omega), hk, Nat.add_sub_cancel_left]; exact hj)⟩
theorem slw {w : World} {N n : Nat} (h : Row w N (vB (wB n)) 5) : SlAt w (.slice (some ⟨N, 0, none⟩) 32 32) (wB n) := .inr ⟨N, 0, 32, by rw [wB_len], by rw [wB_len]; exact Nat.le_refl _, h.all⟩
set_option maxRecDepth 100000 in
set_option maxHeartbeats 4000000 in
theorem layL1 (w0 : World) (S q : Nat) (f f1 : ByteArray → List (BitVec 8)) (hq : q < 999990) (s0 : ByteArray) (hs0 : isK s0.size = true) (n0 : Nat) (hl0 : n0 < 1000000) (hz0 : n0 ≠ 0) (N0 : List Value) (he0 : N0 = [.string s0, .int .u64 (n0 : Int), .int .u64 0, .int .u64 0, .int .u64 0]) (hf0 : f1 = upd f s0 (wB n0)) (g : Nat) (LL : List Value) (hLL : LL = N0) (LP : List Value) (hLP : LP = [.pointer (some ⟨S, 0, none⟩), .int .u8 5]) (w : World) (hR : Row w g LL 68) (h : Lg w0 w S q f) :
    Calls Tryd.prog 33 #[.agg LP.toArray, .slice (some ⟨g, 0, none⟩) 1 1] w fun e w' => e = .returned (.int .i64 0) ∧ Lg w0 w' S (q + 1) f1 ∧ Kp w w' := by
  have HPE : Hid (LP = [.pointer (some ⟨S, 0, none⟩), .int .u8 5]) := hLP
  have HLL : Hid (LL = N0) := hLL
  have HQ : Hid (q < 999990) := hq
  have HG : Hid (Lg w0 w S q f) := h
  have HR : Hid (Row w g LL 68) := hR
  obtain ⟨A0, hA0⟩ : ∃ L : List Value, L = [.int .u64 (n0 : Int), .int .u64 0, .int .u64 0, .int .u64 0] := ⟨_, rfl⟩
  have HA0 : Hid (A0 = [.int .u64 (n0 : Int), .int .u64 0, .int .u64 0, .int .u64 0]) := hA0
  have HAI0 : Hid ((Tryd.prog.info? 26).map (·.size) = some A0.length) := by show _ = _; rw [hA0]; exact info_w4l
  have HE0 : Hid (N0 = [.string s0, .int .u64 (n0 : Int), .int .u64 0, .int .u64 0, .int .u64 0]) := he0
  have HI0 : Hid ((Tryd.prog.info? 68).map (·.size) = some N0.length) := by show _ = _; rw [he0]; exact info_line
  have HN0 : Hid (N0.length = zL.length) := by show _ = _; rw [he0]; rfl
  have HO0 : Hid (N0.toArray.all (·.oneCell') = true) := line_one he0
  have HS0 : Hid (isK s0.size = true) := hs0
  have HL0 : Hid (n0 < 1000000) := hl0
  have HZ0 : Hid (n0 ≠ 0) := hz0
  have HF0 : Hid (f1 = upd f s0 (wB n0)) := hf0
  clear hLP hLL hq h hR hA0 he0 hs0 hl0 hz0 hf0
  go_enter Tryd.func33, Tryd.ntmps33
  go_wp2_with (refine wpList_boxG 61 rfl (.tmp 0) rfl LP rfl ?_; intro V0 q1 q2 q3; have R2 : Hid (Row V0 _ LP 61) := q1; have B0 : Hid (Below _ _ V0) := q2; clear q1 q2 q3; simp only [Act.put, List.setIfInBounds_toArray, List.set_cons_zero, List.set_cons_succ])
  obtain ⟨b2, hb2⟩ : ∃ b, b = w.heap.size := ⟨_, rfl⟩
  replace R2 : Hid (Row V0 b2 LP 61) := by rw [hb2]; exact R2.out
  rw [← hb2]
  replace HG : Hid (Lg w0 V0 S q f) := HG.out.be B0.out
  have HK : Hid (Kp w V0) := Kp.of_below B0.out
  replace HR : Hid (Row V0 g LL 68) := Row.below HR.out B0.out HR.out.lt
  have RG0 : Hid (V0.rangeAt g 0 N0) := by have q := HR.out; rw [HLL.out] at q; exact q.all
  clear hb2 B0
  refine wp_loop_rounds 2 ?_
  rw [rounds_succ]
  obtain ⟨b6, hb6⟩ : ∃ b, b = V0.heap.size := ⟨_, rfl⟩
  have HB6 : Hid (b6 = V0.heap.size) := hb6
  clear hb6
  go_upto_region 4 with (first
    | (refine wpList_load_w rfl 68 (.tmp 12) rfl g 0 rfl N0 _ RG0.out Tryd.underlying68 rfl HI0.out ?_; simp only [Act.put, List.setIfInBounds_toArray, List.set_cons_zero, List.set_cons_succ])
    | (refine wpList_allocL rfl rfl ?_; intro X6 q1 q2 q3; have R6 : Hid (Row X6 _ zL 68) := q1; have B6 : Hid (Below _ _ X6) := q2; clear q1 q2 q3; simp only [Act.put, List.setIfInBounds_toArray, List.set_cons_zero, List.set_cons_succ])
    | (refine wpList_storeL rfl 68 (.tmp 6) (.tmp 13) rfl V0.heap.size N0 zL 68 rfl rfl R6.out HN0.out HI0.out HO0.out ?_; intro Y6 q1 q2; have HY6 : Hid (Y6 = _) := q1; have RY6 : Hid (Row Y6 V0.heap.size N0 68) := q2; clear q1 q2; simp only [Act.put]))
  rw [← HB6.out] at RY6 HY6
  rw [← HB6.out]
  have b8 : Below V0.heap.size V0 Y6 := by rw [HY6.out]; exact below_setCells B6.out (by rw [HB6.out]; exact Nat.le_refl _) _
  have r2 := Row.below R2.out b8 R2.out.lt
  have r6 := RY6.out
  have hG := HG.out.be b8
  have hK := HK.out.trans (Kp.of_below b8)
  have hb1 := Below.refl Y6.heap.size Y6
  have hR := Row.below HR.out b8 HR.out.lt
  clear R2 RY6 HG HK B6 HY6 HB6 R6 b8 RG0 HR
  refine wp_named fun a0 ha0 => ?_
  have hsz : a0.tmps.size = 26 := by rw [ha0]; rfl
  have zs2 : a0.eval (.tmp 2) = .pointer (some ⟨b2, 0, none⟩) := by rw [ha0]; rfl
  have zs6 : a0.eval (.tmp 6) = .pointer (some ⟨b6, 0, none⟩) := by rw [ha0]; rfl
  obtain ⟨D, hD⟩ : ∃ D : List (Tmp × SP), D = [(14, SP.is (.pointer (some ⟨b2, 0, none⟩))), (15, SP.is (.pointer (some ⟨S, 0, none⟩))), (16, SP.is (.pointer (some ⟨b6, 0, none⟩))), (17, SP.is (.string s0)), (18, SP.is (.pointer (some ⟨b6, 1, none⟩))), (19, SP.is (.agg A0.toArray)), (20, SP.any), (21, SP.is (.int .i64 0)), (7, SP.is (.int .i64 0))] := ⟨_, rfl⟩
  refine wp_region_then (by kernel_rfl) 7 (by decide) (by kernel_rfl) (fun listed ac W => Fp D a0 listed ac W ∧ Below Y6.heap.size Y6 W ∧ Row W b2 LP 61 ∧ Row W b6 N0 68 ∧ Row W g LL 68 ∧ Lg w0 W S (q) f ∧ Kp w W ∧ (listed.getD 6 false = true → (SP.by 32 (wB n0)).P W (ac.eval (.tmp 20)))) (fun listed ac W => Fp D a0 listed ac W ∧ Lg w0 W S (q + 1) f1 ∧ Kp w W ∧ Row W b2 LP 61 ∧ Row W g LL 68) ?_ ?_ ?_ ?_ ?_
  · exact ⟨Fp.start D a0 _ _, Below.drew hb1, Row.drew r2, Row.drew r6, Row.drew hR, hG.below (Below.drew (Below.refl _ _)), hK.below (Below.drew (Below.refl _ _)), (fun h => (start_no h).elim)⟩
  · clear ha0 hb1 r2 r6 hR hG hK
    intro listed ac W k hl hI hdn hk hne hnl
    replace hl : listed.size = 9 := hl
    obtain ⟨hF, hb1, r2, r6, hR, hG, hK, ti6⟩ := hI
    have hk1 : k < 9 := List.mem_range.1 (List.mem_filter.1 hk).1
    rcases (show k = 0 ∨ k = 1 ∨ k = 2 ∨ k = 3 ∨ k = 4 ∨ k = 5 ∨ k = 6 ∨ k = 7 ∨ k = 8 by omega) with rfl | rfl | rfl | rfl | rfl | rfl | rfl | rfl | rfl
    · have hk3 := hk
      have e2 := ((hF.keep 2 (by rw [hD]; rfl)).trans zs2)
      exact wpOp_plain rfl rfl (wp_f_p0 b2 rfl e2 ⟨(hF.put 0 14 (SP.is (.pointer (some ⟨b2, 0, none⟩))) (.pointer (some ⟨b2, 0, none⟩)) (by rw [hD]; rfl) rfl (by rw [hD]; rfl) (by rw [hsz]; decide) (by rw [hl]; decide)), hb1, r2, r6, hR, hG, hK, (fun h1 => by change (SP.by 32 (wB n0)).P _ ((ac.put (some 14) _).eval (.tmp 20)); rw [eval_put_other ac _ (by decide)]; exact ti6 (by rwa [getD_set _ _ _ (by decide)] at h1))⟩)
    · have hk3 := hk
      have e14 := (hF.done 0 (14, SP.is (.pointer (some ⟨b2, 0, none⟩))) (by rw [hD]; rfl) (ready_dep hk 0 (by kernel_rfl)))
      exact wpOp_plain rfl rfl (wp_loadp rfl b2 0 e14 _ (r2.cell 0 _ (by rw [HPE.out]; rfl)) ⟨(hF.put 1 15 (SP.is (.pointer (some ⟨S, 0, none⟩))) (.pointer (some ⟨S, 0, none⟩)) (by rw [hD]; rfl) rfl (by rw [hD]; rfl) (by rw [hsz]; decide) (by rw [hl]; decide)), hb1, r2, r6, hR, hG, hK, (fun h1 => by change (SP.by 32 (wB n0)).P _ ((ac.put (some 15) _).eval (.tmp 20)); rw [eval_put_other ac _ (by decide)]; exact ti6 (by rwa [getD_set _ _ _ (by decide)] at h1))⟩)
    · have hk3 := hk
      have e6 := ((hF.keep 6 (by rw [hD]; rfl)).trans zs6)
      exact wpOp_plain rfl rfl (wp_f_l b6 0 (.inl rfl) rfl e6 ⟨(hF.put 2 16 (SP.is (.pointer (some ⟨b6, 0, none⟩))) (.pointer (some ⟨b6, 0, none⟩)) (by rw [hD]; rfl) rfl (by rw [hD]; rfl) (by rw [hsz]; decide) (by rw [hl]; decide)), hb1, r2, r6, hR, hG, hK, (fun h1 => by change (SP.by 32 (wB n0)).P _ ((ac.put (some 16) _).eval (.tmp 20)); rw [eval_put_other ac _ (by decide)]; exact ti6 (by rwa [getD_set _ _ _ (by decide)] at h1))⟩)
    · have hk3 := hk
      have e16 := (hF.done 2 (16, SP.is (.pointer (some ⟨b6, 0, none⟩))) (by rw [hD]; rfl) (ready_dep hk 2 (by kernel_rfl)))
      exact wpOp_plain rfl rfl (wp_loads rfl b6 0 e16 _ (line_s HE0.out r6) ⟨(hF.put 3 17 (SP.is (.string s0)) (.string s0) (by rw [hD]; rfl) rfl (by rw [hD]; rfl) (by rw [hsz]; decide) (by rw [hl]; decide)), hb1, r2, r6, hR, hG, hK, (fun h1 => by change (SP.by 32 (wB n0)).P _ ((ac.put (some 17) _).eval (.tmp 20)); rw [eval_put_other ac _ (by decide)]; exact ti6 (by rwa [getD_set _ _ _ (by decide)] at h1))⟩)
    · have hk3 := hk
      have e6 := ((hF.keep 6 (by rw [hD]; rfl)).trans zs6)
      exact wpOp_plain rfl rfl (wp_f_l b6 1 (.inr rfl) rfl e6 ⟨(hF.put 4 18 (SP.is (.pointer (some ⟨b6, 1, none⟩))) (.pointer (some ⟨b6, 1, none⟩)) (by rw [hD]; rfl) rfl (by rw [hD]; rfl) (by rw [hsz]; decide) (by rw [hl]; decide)), hb1, r2, r6, hR, hG, hK, (fun h1 => by change (SP.by 32 (wB n0)).P _ ((ac.put (some 18) _).eval (.tmp 20)); rw [eval_put_other ac _ (by decide)]; exact ti6 (by rwa [getD_set _ _ _ (by decide)] at h1))⟩)
    · have hk3 := hk
      exact wpOp_plain rfl rfl (wp_load_mid 26 (.tmp 18) rfl b6 1 (hF.done 4 (18, SP.is (.pointer (some ⟨b6, 1, none⟩))) (by rw [hD]; rfl) (ready_dep hk 4 (by kernel_rfl))) A0 _ (by rw [HA0.out]; exact line_am HE0.out r6) Tryd.underlying26 rfl HAI0.out ⟨(hF.put 5 19 (SP.is (.agg A0.toArray)) (.agg A0.toArray) (by rw [hD]; rfl) rfl (by rw [hD]; rfl) (by rw [hsz]; decide) (by rw [hl]; decide)), hb1, r2, r6, hR, hG, hK, (fun h1 => by change (SP.by 32 (wB n0)).P _ ((ac.put (some 19) _).eval (.tmp 20)); rw [eval_put_other ac _ (by decide)]; exact ti6 (by rwa [getD_set _ _ _ (by decide)] at h1))⟩)
    · have hk3 := hk
      have e19 := (hF.done 5 (19, SP.is (.agg A0.toArray)) (by rw [hD]; rfl) (ready_dep hk 5 (by kernel_rfl)))
      refine wpOp_plain rfl rfl (wp_fcall_v 50 #[.agg A0.toArray] rfl rfl (by show [ac.eval (.tmp 19)] = _; rw [show ac.eval (.tmp 19) = .agg A0.toArray from e19]) (by go_simp) (((show Calls Tryd.prog 50 #[.agg A0.toArray] W _ by rw [HA0.out]; exact laid_some n0 HL0.out HZ0.out W)).mono ?_))
      rintro e W2 ⟨N, hN, hRr, rfl, hB⟩
      exact ⟨_, rfl, ((hF.world hB).put 6 20 (SP.any) (.slice (some ⟨N, 0, none⟩) 32 32) (by rw [hD]; rfl) trivial (by rw [hD]; rfl) (by rw [hsz]; decide) (by rw [hl]; decide)), hb1.trans (hB.mono hb1.size), Row.below r2 hB (Row.lt r2), Row.below r6 hB (Row.lt r6), Row.below hR hB (Row.lt hR), hG.below hB, hK.below hB, (fun _ => by change (SP.by 32 (wB n0)).P _ ((ac.put (some 20) _).eval (.tmp 20)); rw [eval_put_same ac _ (by rw [hF.size, hsz]; decide)]; exact ⟨N, rfl, hRr⟩)⟩
    · exact absurd rfl hne
    · exact absurd (ready_dep hk 7 (by kernel_rfl)) hnl
  · clear ha0 hb1 r2 r6 hR hG hK
    intro listed ac W hl hI hdn hk
    replace hl : listed.size = 9 := hl
    obtain ⟨hF, hb1, r2, r6, hR, hG, hK, ti6⟩ := hI
    have e15 := (hF.done 1 (15, SP.is (.pointer (some ⟨S, 0, none⟩))) (by rw [hD]; rfl) (ready_dep hk 1 (by kernel_rfl)))
    have e17 := (hF.done 3 (17, SP.is (.string s0)) (by rw [hD]; rfl) (ready_dep hk 3 (by kernel_rfl)))
    obtain ⟨N, e20, q20⟩ := (ti6 (ready_dep hk 6 (by kernel_rfl)))
    refine wpOp_plain rfl rfl (wp_fcall_v 47 #[.pointer (some ⟨S, 0, none⟩), .string s0, .slice (some ⟨N, 0, none⟩) 32 32] rfl rfl (by show [ac.eval (.tmp 15), ac.eval (.tmp 17), ac.eval (.tmp 20)] = _; rw [show ac.eval (.tmp 15) = _ from e15, show ac.eval (.tmp 17) = _ from e17, e20]) (by go_simp) (((show Calls Tryd.prog 47 #[.pointer (some ⟨S, 0, none⟩), .string s0, .slice (some ⟨N, 0, none⟩) 32 32] W fun e w' => e = .returned (.int .i64 0) ∧ Lg w0 w' S (q + 1) f1 ∧ Kp W w' by rw [HF0.out]; exact put_lg w0 S (q) f (by have := HQ.out; omega) s0 HS0.out (some ⟨N, 0, none⟩) 32 32 (wB n0) (wB_len n0) (by decide) (fun e => nomatch e) W hG (fun W2 k2 => slw (k2.row _ _ _ (by decide) q20)))).mono ?_))
    rintro e W2 ⟨rfl, hG2, hK2⟩
    have hT : Fp D a0 listed ac W2 := hF.turn (by rw [hD]; simp only [List.forall_mem_cons, List.not_mem_nil, false_implies, implies_true, and_true]; exact ⟨fun _ h => h, fun _ h => h, fun _ h => h, fun _ h => h, fun _ h => h, fun _ h => h, fun _ h => h, fun _ h => h, fun _ h => h⟩)
    exact ⟨_, rfl, (hT.put 7 21 (SP.is (.int .i64 0)) _ (by rw [hD]; rfl) rfl (by rw [hD]; rfl) (by rw [hsz]; decide) (by rw [hl]; decide)), hG2, hK.trans hK2, hK2.row _ _ _ (by decide) r2, hK2.row _ _ _ (by decide) hR⟩
  · clear ha0 hb1 r2 r6 hR hG hK
    intro listed ac W k hl hJ hdn hk hne hyl
    replace hl : listed.size = 9 := hl
    obtain ⟨hF, hG, hK, r2, hR⟩ := hJ
    have hk1 : k < 9 := List.mem_range.1 (List.mem_filter.1 hk).1
    rcases (show k = 0 ∨ k = 1 ∨ k = 2 ∨ k = 3 ∨ k = 4 ∨ k = 5 ∨ k = 6 ∨ k = 7 ∨ k = 8 by omega) with rfl | rfl | rfl | rfl | rfl | rfl | rfl | rfl | rfl
    · exact absurd (hdn 1 (hdn 7 hyl 1 (by kernel_rfl)) 0 (by kernel_rfl)) (not_yet hk)
    · exact absurd (hdn 7 hyl 1 (by kernel_rfl)) (not_yet hk)
    · exact absurd (hdn 3 (hdn 7 hyl 3 (by kernel_rfl)) 2 (by kernel_rfl)) (not_yet hk)
    · exact absurd (hdn 7 hyl 3 (by kernel_rfl)) (not_yet hk)
    · exact absurd (hdn 5 (hdn 6 (hdn 7 hyl 6 (by kernel_rfl)) 5 (by kernel_rfl)) 4 (by kernel_rfl)) (not_yet hk)
    · exact absurd (hdn 6 (hdn 7 hyl 6 (by kernel_rfl)) 5 (by kernel_rfl)) (not_yet hk)
    · exact absurd (hdn 7 hyl 6 (by kernel_rfl)) (not_yet hk)
    · exact absurd rfl hne
    · exact wpOp_plain rfl rfl (wp_assign_v (ac.eval (.tmp 21)) rfl rfl ⟨(hF.put 8 7 (SP.is (.int .i64 0)) _ (by rw [hD]; rfl) (hF.done 7 (21, SP.is (.int .i64 0)) (by rw [hD]; rfl) (ready_dep hk 7 (by kernel_rfl))) (by rw [hD]; rfl) (by rw [hsz]; decide) (by rw [hl]; decide)), hG, hK, r2, hR⟩)
  · clear hb1 r2 r6 hR hG hK
    intro listed ac W hl hJ hr
    replace hl : listed.size = 9 := hl
    obtain ⟨hF, hG, hK, r2, hR⟩ := hJ
    have hall := all_listed (by kernel_rfl) hl hr
    have h14 : ac.eval (.tmp 14) = .pointer (some ⟨b2, 0, none⟩) := hF.done 0 (14, SP.is (.pointer (some ⟨b2, 0, none⟩))) (by rw [hD]; rfl) (hall 0 (by decide))
    have h15 : ac.eval (.tmp 15) = .pointer (some ⟨S, 0, none⟩) := hF.done 1 (15, SP.is (.pointer (some ⟨S, 0, none⟩))) (by rw [hD]; rfl) (hall 1 (by decide))
    have h16 : ac.eval (.tmp 16) = .pointer (some ⟨b6, 0, none⟩) := hF.done 2 (16, SP.is (.pointer (some ⟨b6, 0, none⟩))) (by rw [hD]; rfl) (hall 2 (by decide))
    have h17 : ac.eval (.tmp 17) = .string s0 := hF.done 3 (17, SP.is (.string s0)) (by rw [hD]; rfl) (hall 3 (by decide))
    have h18 : ac.eval (.tmp 18) = .pointer (some ⟨b6, 1, none⟩) := hF.done 4 (18, SP.is (.pointer (some ⟨b6, 1, none⟩))) (by rw [hD]; rfl) (hall 4 (by decide))
    have h19 : ac.eval (.tmp 19) = .agg A0.toArray := hF.done 5 (19, SP.is (.agg A0.toArray)) (by rw [hD]; rfl) (hall 5 (by decide))
    obtain ⟨x20, h20⟩ : ∃ x, ac.eval (.tmp 20) = x := ⟨_, rfl⟩
    have h21 : ac.eval (.tmp 21) = .int .i64 0 := hF.done 7 (21, SP.is (.int .i64 0)) (by rw [hD]; rfl) (hall 7 (by decide))
    have h7 : ac.eval (.tmp 7) = .int .i64 0 := hF.done 8 (7, SP.is (.int .i64 0)) (by rw [hD]; rfl) (hall 8 (by decide))
    have ea := hF.lay [(14, .pointer (some ⟨b2, 0, none⟩)), (15, .pointer (some ⟨S, 0, none⟩)), (16, .pointer (some ⟨b6, 0, none⟩)), (17, .string s0), (18, .pointer (some ⟨b6, 1, none⟩)), (19, .agg A0.toArray), (20, x20), (21, .int .i64 0), (7, .int .i64 0)] (by rw [hD, hsz]; rfl) (by simp only [List.forall_mem_cons, List.not_mem_nil, false_implies, implies_true, and_true]; exact ⟨h14, h15, h16, h17, h18, h19, h20, h21, h7⟩)
    rw [ha0] at ea
    simp only [List.foldl_cons, List.foldl_nil, List.setIfInBounds_toArray, List.set_cons_zero, List.set_cons_succ] at ea
    clear hF hall hr hl hD zs2 zs6 ha0 hsz h14 h15 h16 h17 h18 h19 h20 h21 h7
    subst ea
    obtain ⟨V1, hV⟩ : ∃ V, V = W := ⟨_, rfl⟩
    rw [← hV]
    rw [← hV] at hG hK r2 hR
    clear hV
    have HG : Hid (Lg w0 V1 S (q + 1) f1) := hG
    have HK : Hid (Kp w V1) := hK
    have R2 : Hid (Row V1 b2 LP 61) := r2
    have HR : Hid (Row V1 g LL 68) := hR
    clear hG hK r2 hR
    go_wp2_with fail
    rw [rounds_succ]
    go_wp2_with fail
    go_ret
    exact ⟨rfl, HG.out, HK.out⟩
set_option maxRecDepth 100000 in
set_option maxHeartbeats 4000000 in
theorem layL2 (w0 : World) (S q : Nat) (f f1 f2 : ByteArray → List (BitVec 8)) (hq : q < 999990) (s0 : ByteArray) (hs0 : isK s0.size = true) (n0 : Nat) (hl0 : n0 < 1000000) (hz0 : n0 ≠ 0) (N0 : List Value) (he0 : N0 = [.string s0, .int .u64 (n0 : Int), .int .u64 0, .int .u64 0, .int .u64 0]) (s1 : ByteArray) (hs1 : isK s1.size = true) (n1 : Nat) (hl1 : n1 < 1000000) (hz1 : n1 ≠ 0) (N1 : List Value) (he1 : N1 = [.string s1, .int .u64 (n1 : Int), .int .u64 0, .int .u64 0, .int .u64 0]) (hf0 : f1 = upd f s0 (wB n0)) (hf1 : f2 = upd f1 s1 (wB n1)) (g : Nat) (LL : List Value) (hLL : LL = N0 ++ N1) (LP : List Value) (hLP : LP = [.pointer (some ⟨S, 0, none⟩), .int .u8 5]) (w : World) (hR : Row w g LL 68) (h : Lg w0 w S q f) :
    Calls Tryd.prog 33 #[.agg LP.toArray, .slice (some ⟨g, 0, none⟩) 2 2] w fun e w' => e = .returned (.int .i64 0) ∧ Lg w0 w' S (q + 2) f2 ∧ Kp w w' := by
  have HPE : Hid (LP = [.pointer (some ⟨S, 0, none⟩), .int .u8 5]) := hLP
  have HLL : Hid (LL = N0 ++ N1) := hLL
  have HQ : Hid (q < 999990) := hq
  have HG : Hid (Lg w0 w S q f) := h
  have HR : Hid (Row w g LL 68) := hR
  obtain ⟨A0, hA0⟩ : ∃ L : List Value, L = [.int .u64 (n0 : Int), .int .u64 0, .int .u64 0, .int .u64 0] := ⟨_, rfl⟩
  have HA0 : Hid (A0 = [.int .u64 (n0 : Int), .int .u64 0, .int .u64 0, .int .u64 0]) := hA0
  have HAI0 : Hid ((Tryd.prog.info? 26).map (·.size) = some A0.length) := by show _ = _; rw [hA0]; exact info_w4l
  have HE0 : Hid (N0 = [.string s0, .int .u64 (n0 : Int), .int .u64 0, .int .u64 0, .int .u64 0]) := he0
  have HI0 : Hid ((Tryd.prog.info? 68).map (·.size) = some N0.length) := by show _ = _; rw [he0]; exact info_line
  have HN0 : Hid (N0.length = zL.length) := by show _ = _; rw [he0]; rfl
  have HO0 : Hid (N0.toArray.all (·.oneCell') = true) := line_one he0
  have HS0 : Hid (isK s0.size = true) := hs0
  have HL0 : Hid (n0 < 1000000) := hl0
  have HZ0 : Hid (n0 ≠ 0) := hz0
  have HF0 : Hid (f1 = upd f s0 (wB n0)) := hf0
  obtain ⟨A1, hA1⟩ : ∃ L : List Value, L = [.int .u64 (n1 : Int), .int .u64 0, .int .u64 0, .int .u64 0] := ⟨_, rfl⟩
  have HA1 : Hid (A1 = [.int .u64 (n1 : Int), .int .u64 0, .int .u64 0, .int .u64 0]) := hA1
  have HAI1 : Hid ((Tryd.prog.info? 26).map (·.size) = some A1.length) := by show _ = _; rw [hA1]; exact info_w4l
  have HE1 : Hid (N1 = [.string s1, .int .u64 (n1 : Int), .int .u64 0, .int .u64 0, .int .u64 0]) := he1
  have HI1 : Hid ((Tryd.prog.info? 68).map (·.size) = some N1.length) := by show _ = _; rw [he1]; exact info_line
  have HN1 : Hid (N1.length = zL.length) := by show _ = _; rw [he1]; rfl
  have HO1 : Hid (N1.toArray.all (·.oneCell') = true) := line_one he1
  have HS1 : Hid (isK s1.size = true) := hs1
  have HL1 : Hid (n1 < 1000000) := hl1
  have HZ1 : Hid (n1 ≠ 0) := hz1
  have HF1 : Hid (f2 = upd f1 s1 (wB n1)) := hf1
  clear hLP hLL hq h hR hA0 he0 hs0 hl0 hz0 hf0 hA1 he1 hs1 hl1 hz1 hf1
  go_enter Tryd.func33, Tryd.ntmps33
  go_wp2_with (refine wpList_boxG 61 rfl (.tmp 0) rfl LP rfl ?_; intro V0 q1 q2 q3; have R2 : Hid (Row V0 _ LP 61) := q1; have B0 : Hid (Below _ _ V0) := q2; clear q1 q2 q3; simp only [Act.put, List.setIfInBounds_toArray, List.set_cons_zero, List.set_cons_succ])
  obtain ⟨b2, hb2⟩ : ∃ b, b = w.heap.size := ⟨_, rfl⟩
  replace R2 : Hid (Row V0 b2 LP 61) := by rw [hb2]; exact R2.out
  rw [← hb2]
  replace HG : Hid (Lg w0 V0 S q f) := HG.out.be B0.out
  have HK : Hid (Kp w V0) := Kp.of_below B0.out
  replace HR : Hid (Row V0 g LL 68) := Row.below HR.out B0.out HR.out.lt
  have RG0 : Hid (V0.rangeAt g 0 N0) := (range_app (by rw [← HLL.out]; exact HR.out) HN0.out).1
  clear hb2 B0
  refine wp_loop_rounds 3 ?_
  rw [rounds_succ]
  obtain ⟨b6, hb6⟩ : ∃ b, b = V0.heap.size := ⟨_, rfl⟩
  have HB6 : Hid (b6 = V0.heap.size) := hb6
  clear hb6
  go_upto_region 4 with (first
    | (refine wpList_load_w rfl 68 (.tmp 12) rfl g 0 rfl N0 _ RG0.out Tryd.underlying68 rfl HI0.out ?_; simp only [Act.put, List.setIfInBounds_toArray, List.set_cons_zero, List.set_cons_succ])
    | (refine wpList_allocL rfl rfl ?_; intro X6 q1 q2 q3; have R6 : Hid (Row X6 _ zL 68) := q1; have B6 : Hid (Below _ _ X6) := q2; clear q1 q2 q3; simp only [Act.put, List.setIfInBounds_toArray, List.set_cons_zero, List.set_cons_succ])
    | (refine wpList_storeL rfl 68 (.tmp 6) (.tmp 13) rfl V0.heap.size N0 zL 68 rfl rfl R6.out HN0.out HI0.out HO0.out ?_; intro Y6 q1 q2; have HY6 : Hid (Y6 = _) := q1; have RY6 : Hid (Row Y6 V0.heap.size N0 68) := q2; clear q1 q2; simp only [Act.put]))
  rw [← HB6.out] at RY6 HY6
  rw [← HB6.out]
  have b8 : Below V0.heap.size V0 Y6 := by rw [HY6.out]; exact below_setCells B6.out (by rw [HB6.out]; exact Nat.le_refl _) _
  have r2 := Row.below R2.out b8 R2.out.lt
  have r6 := RY6.out
  have hG := HG.out.be b8
  have hK := HK.out.trans (Kp.of_below b8)
  have hb1 := Below.refl Y6.heap.size Y6
  have hR := Row.below HR.out b8 HR.out.lt
  clear R2 RY6 HG HK B6 HY6 HB6 R6 b8 RG0 HR
  refine wp_named fun a0 ha0 => ?_
  have hsz : a0.tmps.size = 26 := by rw [ha0]; rfl
  have zs2 : a0.eval (.tmp 2) = .pointer (some ⟨b2, 0, none⟩) := by rw [ha0]; rfl
  have zs6 : a0.eval (.tmp 6) = .pointer (some ⟨b6, 0, none⟩) := by rw [ha0]; rfl
  obtain ⟨D, hD⟩ : ∃ D : List (Tmp × SP), D = [(14, SP.is (.pointer (some ⟨b2, 0, none⟩))), (15, SP.is (.pointer (some ⟨S, 0, none⟩))), (16, SP.is (.pointer (some ⟨b6, 0, none⟩))), (17, SP.is (.string s0)), (18, SP.is (.pointer (some ⟨b6, 1, none⟩))), (19, SP.is (.agg A0.toArray)), (20, SP.any), (21, SP.is (.int .i64 0)), (7, SP.is (.int .i64 0))] := ⟨_, rfl⟩
  refine wp_region_then (by kernel_rfl) 7 (by decide) (by kernel_rfl) (fun listed ac W => Fp D a0 listed ac W ∧ Below Y6.heap.size Y6 W ∧ Row W b2 LP 61 ∧ Row W b6 N0 68 ∧ Row W g LL 68 ∧ Lg w0 W S (q) f ∧ Kp w W ∧ (listed.getD 6 false = true → (SP.by 32 (wB n0)).P W (ac.eval (.tmp 20)))) (fun listed ac W => Fp D a0 listed ac W ∧ Lg w0 W S (q + 1) f1 ∧ Kp w W ∧ Row W b2 LP 61 ∧ Row W g LL 68) ?_ ?_ ?_ ?_ ?_
  · exact ⟨Fp.start D a0 _ _, Below.drew hb1, Row.drew r2, Row.drew r6, Row.drew hR, hG.below (Below.drew (Below.refl _ _)), hK.below (Below.drew (Below.refl _ _)), (fun h => (start_no h).elim)⟩
  · clear ha0 hb1 r2 r6 hR hG hK
    intro listed ac W k hl hI hdn hk hne hnl
    replace hl : listed.size = 9 := hl
    obtain ⟨hF, hb1, r2, r6, hR, hG, hK, ti6⟩ := hI
    have hk1 : k < 9 := List.mem_range.1 (List.mem_filter.1 hk).1
    rcases (show k = 0 ∨ k = 1 ∨ k = 2 ∨ k = 3 ∨ k = 4 ∨ k = 5 ∨ k = 6 ∨ k = 7 ∨ k = 8 by omega) with rfl | rfl | rfl | rfl | rfl | rfl | rfl | rfl | rfl
    · have hk3 := hk
      have e2 := ((hF.keep 2 (by rw [hD]; rfl)).trans zs2)
      exact wpOp_plain rfl rfl (wp_f_p0 b2 rfl e2 ⟨(hF.put 0 14 (SP.is (.pointer (some ⟨b2, 0, none⟩))) (.pointer (some ⟨b2, 0, none⟩)) (by rw [hD]; rfl) rfl (by rw [hD]; rfl) (by rw [hsz]; decide) (by rw [hl]; decide)), hb1, r2, r6, hR, hG, hK, (fun h1 => by change (SP.by 32 (wB n0)).P _ ((ac.put (some 14) _).eval (.tmp 20)); rw [eval_put_other ac _ (by decide)]; exact ti6 (by rwa [getD_set _ _ _ (by decide)] at h1))⟩)
    · have hk3 := hk
      have e14 := (hF.done 0 (14, SP.is (.pointer (some ⟨b2, 0, none⟩))) (by rw [hD]; rfl) (ready_dep hk 0 (by kernel_rfl)))
      exact wpOp_plain rfl rfl (wp_loadp rfl b2 0 e14 _ (r2.cell 0 _ (by rw [HPE.out]; rfl)) ⟨(hF.put 1 15 (SP.is (.pointer (some ⟨S, 0, none⟩))) (.pointer (some ⟨S, 0, none⟩)) (by rw [hD]; rfl) rfl (by rw [hD]; rfl) (by rw [hsz]; decide) (by rw [hl]; decide)), hb1, r2, r6, hR, hG, hK, (fun h1 => by change (SP.by 32 (wB n0)).P _ ((ac.put (some 15) _).eval (.tmp 20)); rw [eval_put_other ac _ (by decide)]; exact ti6 (by rwa [getD_set _ _ _ (by decide)] at h1))⟩)
    · have hk3 := hk
      have e6 := ((hF.keep 6 (by rw [hD]; rfl)).trans zs6)
      exact wpOp_plain rfl rfl (wp_f_l b6 0 (.inl rfl) rfl e6 ⟨(hF.put 2 16 (SP.is (.pointer (some ⟨b6, 0, none⟩))) (.pointer (some ⟨b6, 0, none⟩)) (by rw [hD]; rfl) rfl (by rw [hD]; rfl) (by rw [hsz]; decide) (by rw [hl]; decide)), hb1, r2, r6, hR, hG, hK, (fun h1 => by change (SP.by 32 (wB n0)).P _ ((ac.put (some 16) _).eval (.tmp 20)); rw [eval_put_other ac _ (by decide)]; exact ti6 (by rwa [getD_set _ _ _ (by decide)] at h1))⟩)
    · have hk3 := hk
      have e16 := (hF.done 2 (16, SP.is (.pointer (some ⟨b6, 0, none⟩))) (by rw [hD]; rfl) (ready_dep hk 2 (by kernel_rfl)))
      exact wpOp_plain rfl rfl (wp_loads rfl b6 0 e16 _ (line_s HE0.out r6) ⟨(hF.put 3 17 (SP.is (.string s0)) (.string s0) (by rw [hD]; rfl) rfl (by rw [hD]; rfl) (by rw [hsz]; decide) (by rw [hl]; decide)), hb1, r2, r6, hR, hG, hK, (fun h1 => by change (SP.by 32 (wB n0)).P _ ((ac.put (some 17) _).eval (.tmp 20)); rw [eval_put_other ac _ (by decide)]; exact ti6 (by rwa [getD_set _ _ _ (by decide)] at h1))⟩)
    · have hk3 := hk
      have e6 := ((hF.keep 6 (by rw [hD]; rfl)).trans zs6)
      exact wpOp_plain rfl rfl (wp_f_l b6 1 (.inr rfl) rfl e6 ⟨(hF.put 4 18 (SP.is (.pointer (some ⟨b6, 1, none⟩))) (.pointer (some ⟨b6, 1, none⟩)) (by rw [hD]; rfl) rfl (by rw [hD]; rfl) (by rw [hsz]; decide) (by rw [hl]; decide)), hb1, r2, r6, hR, hG, hK, (fun h1 => by change (SP.by 32 (wB n0)).P _ ((ac.put (some 18) _).eval (.tmp 20)); rw [eval_put_other ac _ (by decide)]; exact ti6 (by rwa [getD_set _ _ _ (by decide)] at h1))⟩)
    · have hk3 := hk
      exact wpOp_plain rfl rfl (wp_load_mid 26 (.tmp 18) rfl b6 1 (hF.done 4 (18, SP.is (.pointer (some ⟨b6, 1, none⟩))) (by rw [hD]; rfl) (ready_dep hk 4 (by kernel_rfl))) A0 _ (by rw [HA0.out]; exact line_am HE0.out r6) Tryd.underlying26 rfl HAI0.out ⟨(hF.put 5 19 (SP.is (.agg A0.toArray)) (.agg A0.toArray) (by rw [hD]; rfl) rfl (by rw [hD]; rfl) (by rw [hsz]; decide) (by rw [hl]; decide)), hb1, r2, r6, hR, hG, hK, (fun h1 => by change (SP.by 32 (wB n0)).P _ ((ac.put (some 19) _).eval (.tmp 20)); rw [eval_put_other ac _ (by decide)]; exact ti6 (by rwa [getD_set _ _ _ (by decide)] at h1))⟩)
    · have hk3 := hk
      have e19 := (hF.done 5 (19, SP.is (.agg A0.toArray)) (by rw [hD]; rfl) (ready_dep hk 5 (by kernel_rfl)))
      refine wpOp_plain rfl rfl (wp_fcall_v 50 #[.agg A0.toArray] rfl rfl (by show [ac.eval (.tmp 19)] = _; rw [show ac.eval (.tmp 19) = .agg A0.toArray from e19]) (by go_simp) (((show Calls Tryd.prog 50 #[.agg A0.toArray] W _ by rw [HA0.out]; exact laid_some n0 HL0.out HZ0.out W)).mono ?_))
      rintro e W2 ⟨N, hN, hRr, rfl, hB⟩
      exact ⟨_, rfl, ((hF.world hB).put 6 20 (SP.any) (.slice (some ⟨N, 0, none⟩) 32 32) (by rw [hD]; rfl) trivial (by rw [hD]; rfl) (by rw [hsz]; decide) (by rw [hl]; decide)), hb1.trans (hB.mono hb1.size), Row.below r2 hB (Row.lt r2), Row.below r6 hB (Row.lt r6), Row.below hR hB (Row.lt hR), hG.below hB, hK.below hB, (fun _ => by change (SP.by 32 (wB n0)).P _ ((ac.put (some 20) _).eval (.tmp 20)); rw [eval_put_same ac _ (by rw [hF.size, hsz]; decide)]; exact ⟨N, rfl, hRr⟩)⟩
    · exact absurd rfl hne
    · exact absurd (ready_dep hk 7 (by kernel_rfl)) hnl
  · clear ha0 hb1 r2 r6 hR hG hK
    intro listed ac W hl hI hdn hk
    replace hl : listed.size = 9 := hl
    obtain ⟨hF, hb1, r2, r6, hR, hG, hK, ti6⟩ := hI
    have e15 := (hF.done 1 (15, SP.is (.pointer (some ⟨S, 0, none⟩))) (by rw [hD]; rfl) (ready_dep hk 1 (by kernel_rfl)))
    have e17 := (hF.done 3 (17, SP.is (.string s0)) (by rw [hD]; rfl) (ready_dep hk 3 (by kernel_rfl)))
    obtain ⟨N, e20, q20⟩ := (ti6 (ready_dep hk 6 (by kernel_rfl)))
    refine wpOp_plain rfl rfl (wp_fcall_v 47 #[.pointer (some ⟨S, 0, none⟩), .string s0, .slice (some ⟨N, 0, none⟩) 32 32] rfl rfl (by show [ac.eval (.tmp 15), ac.eval (.tmp 17), ac.eval (.tmp 20)] = _; rw [show ac.eval (.tmp 15) = _ from e15, show ac.eval (.tmp 17) = _ from e17, e20]) (by go_simp) (((show Calls Tryd.prog 47 #[.pointer (some ⟨S, 0, none⟩), .string s0, .slice (some ⟨N, 0, none⟩) 32 32] W fun e w' => e = .returned (.int .i64 0) ∧ Lg w0 w' S (q + 1) f1 ∧ Kp W w' by rw [HF0.out]; exact put_lg w0 S (q) f (by have := HQ.out; omega) s0 HS0.out (some ⟨N, 0, none⟩) 32 32 (wB n0) (wB_len n0) (by decide) (fun e => nomatch e) W hG (fun W2 k2 => slw (k2.row _ _ _ (by decide) q20)))).mono ?_))
    rintro e W2 ⟨rfl, hG2, hK2⟩
    have hT : Fp D a0 listed ac W2 := hF.turn (by rw [hD]; simp only [List.forall_mem_cons, List.not_mem_nil, false_implies, implies_true, and_true]; exact ⟨fun _ h => h, fun _ h => h, fun _ h => h, fun _ h => h, fun _ h => h, fun _ h => h, fun _ h => h, fun _ h => h, fun _ h => h⟩)
    exact ⟨_, rfl, (hT.put 7 21 (SP.is (.int .i64 0)) _ (by rw [hD]; rfl) rfl (by rw [hD]; rfl) (by rw [hsz]; decide) (by rw [hl]; decide)), hG2, hK.trans hK2, hK2.row _ _ _ (by decide) r2, hK2.row _ _ _ (by decide) hR⟩
  · clear ha0 hb1 r2 r6 hR hG hK
    intro listed ac W k hl hJ hdn hk hne hyl
    replace hl : listed.size = 9 := hl
    obtain ⟨hF, hG, hK, r2, hR⟩ := hJ
    have hk1 : k < 9 := List.mem_range.1 (List.mem_filter.1 hk).1
    rcases (show k = 0 ∨ k = 1 ∨ k = 2 ∨ k = 3 ∨ k = 4 ∨ k = 5 ∨ k = 6 ∨ k = 7 ∨ k = 8 by omega) with rfl | rfl | rfl | rfl | rfl | rfl | rfl | rfl | rfl
    · exact absurd (hdn 1 (hdn 7 hyl 1 (by kernel_rfl)) 0 (by kernel_rfl)) (not_yet hk)
    · exact absurd (hdn 7 hyl 1 (by kernel_rfl)) (not_yet hk)
    · exact absurd (hdn 3 (hdn 7 hyl 3 (by kernel_rfl)) 2 (by kernel_rfl)) (not_yet hk)
    · exact absurd (hdn 7 hyl 3 (by kernel_rfl)) (not_yet hk)
    · exact absurd (hdn 5 (hdn 6 (hdn 7 hyl 6 (by kernel_rfl)) 5 (by kernel_rfl)) 4 (by kernel_rfl)) (not_yet hk)
    · exact absurd (hdn 6 (hdn 7 hyl 6 (by kernel_rfl)) 5 (by kernel_rfl)) (not_yet hk)
    · exact absurd (hdn 7 hyl 6 (by kernel_rfl)) (not_yet hk)
    · exact absurd rfl hne
    · exact wpOp_plain rfl rfl (wp_assign_v (ac.eval (.tmp 21)) rfl rfl ⟨(hF.put 8 7 (SP.is (.int .i64 0)) _ (by rw [hD]; rfl) (hF.done 7 (21, SP.is (.int .i64 0)) (by rw [hD]; rfl) (ready_dep hk 7 (by kernel_rfl))) (by rw [hD]; rfl) (by rw [hsz]; decide) (by rw [hl]; decide)), hG, hK, r2, hR⟩)
  · clear hb1 r2 r6 hR hG hK
    intro listed ac W hl hJ hr
    replace hl : listed.size = 9 := hl
    obtain ⟨hF, hG, hK, r2, hR⟩ := hJ
    have hall := all_listed (by kernel_rfl) hl hr
    have h14 : ac.eval (.tmp 14) = .pointer (some ⟨b2, 0, none⟩) := hF.done 0 (14, SP.is (.pointer (some ⟨b2, 0, none⟩))) (by rw [hD]; rfl) (hall 0 (by decide))
    have h15 : ac.eval (.tmp 15) = .pointer (some ⟨S, 0, none⟩) := hF.done 1 (15, SP.is (.pointer (some ⟨S, 0, none⟩))) (by rw [hD]; rfl) (hall 1 (by decide))
    have h16 : ac.eval (.tmp 16) = .pointer (some ⟨b6, 0, none⟩) := hF.done 2 (16, SP.is (.pointer (some ⟨b6, 0, none⟩))) (by rw [hD]; rfl) (hall 2 (by decide))
    have h17 : ac.eval (.tmp 17) = .string s0 := hF.done 3 (17, SP.is (.string s0)) (by rw [hD]; rfl) (hall 3 (by decide))
    have h18 : ac.eval (.tmp 18) = .pointer (some ⟨b6, 1, none⟩) := hF.done 4 (18, SP.is (.pointer (some ⟨b6, 1, none⟩))) (by rw [hD]; rfl) (hall 4 (by decide))
    have h19 : ac.eval (.tmp 19) = .agg A0.toArray := hF.done 5 (19, SP.is (.agg A0.toArray)) (by rw [hD]; rfl) (hall 5 (by decide))
    obtain ⟨x20, h20⟩ : ∃ x, ac.eval (.tmp 20) = x := ⟨_, rfl⟩
    have h21 : ac.eval (.tmp 21) = .int .i64 0 := hF.done 7 (21, SP.is (.int .i64 0)) (by rw [hD]; rfl) (hall 7 (by decide))
    have h7 : ac.eval (.tmp 7) = .int .i64 0 := hF.done 8 (7, SP.is (.int .i64 0)) (by rw [hD]; rfl) (hall 8 (by decide))
    have ea := hF.lay [(14, .pointer (some ⟨b2, 0, none⟩)), (15, .pointer (some ⟨S, 0, none⟩)), (16, .pointer (some ⟨b6, 0, none⟩)), (17, .string s0), (18, .pointer (some ⟨b6, 1, none⟩)), (19, .agg A0.toArray), (20, x20), (21, .int .i64 0), (7, .int .i64 0)] (by rw [hD, hsz]; rfl) (by simp only [List.forall_mem_cons, List.not_mem_nil, false_implies, implies_true, and_true]; exact ⟨h14, h15, h16, h17, h18, h19, h20, h21, h7⟩)
    rw [ha0] at ea
    simp only [List.foldl_cons, List.foldl_nil, List.setIfInBounds_toArray, List.set_cons_zero, List.set_cons_succ] at ea
    clear hF hall hr hl hD zs2 zs6 ha0 hsz h14 h15 h16 h17 h18 h19 h20 h21 h7
    subst ea
    obtain ⟨V1, hV⟩ : ∃ V, V = W := ⟨_, rfl⟩
    rw [← hV]
    rw [← hV] at hG hK r2 hR
    clear hV
    have HG : Hid (Lg w0 V1 S (q + 1) f1) := hG
    have HK : Hid (Kp w V1) := hK
    have R2 : Hid (Row V1 b2 LP 61) := r2
    have HR : Hid (Row V1 g LL 68) := hR
    clear hG hK r2 hR
    have RG1 : Hid (V1.rangeAt g 5 N1) := (range_app (by rw [← HLL.out]; exact HR.out) HN0.out).2
    go_wp2_with fail
    rw [rounds_succ]
    obtain ⟨b6, hb6⟩ : ∃ b, b = V1.heap.size := ⟨_, rfl⟩
    have HB6 : Hid (b6 = V1.heap.size) := hb6
    clear hb6
    go_upto_region 4 with (first
      | (refine wpList_load_w rfl 68 (.tmp 12) rfl g 5 rfl N1 _ RG1.out Tryd.underlying68 rfl HI1.out ?_; simp only [Act.put, List.setIfInBounds_toArray, List.set_cons_zero, List.set_cons_succ])
      | (refine wpList_allocL rfl rfl ?_; intro X6 q1 q2 q3; have R6 : Hid (Row X6 _ zL 68) := q1; have B6 : Hid (Below _ _ X6) := q2; clear q1 q2 q3; simp only [Act.put, List.setIfInBounds_toArray, List.set_cons_zero, List.set_cons_succ])
      | (refine wpList_storeL rfl 68 (.tmp 6) (.tmp 13) rfl V1.heap.size N1 zL 68 rfl rfl R6.out HN1.out HI1.out HO1.out ?_; intro Y6 q1 q2; have HY6 : Hid (Y6 = _) := q1; have RY6 : Hid (Row Y6 V1.heap.size N1 68) := q2; clear q1 q2; simp only [Act.put]))
    rw [← HB6.out] at RY6 HY6
    rw [← HB6.out]
    have b8 : Below V1.heap.size V1 Y6 := by rw [HY6.out]; exact below_setCells B6.out (by rw [HB6.out]; exact Nat.le_refl _) _
    have r2 := Row.below R2.out b8 R2.out.lt
    have r6 := RY6.out
    have hG := HG.out.be b8
    have hK := HK.out.trans (Kp.of_below b8)
    have hb1 := Below.refl Y6.heap.size Y6
    have hR := Row.below HR.out b8 HR.out.lt
    clear R2 RY6 HG HK B6 HY6 HB6 R6 b8 RG1 HR
    refine wp_named fun a0 ha0 => ?_
    have hsz : a0.tmps.size = 26 := by rw [ha0]; rfl
    have zs2 : a0.eval (.tmp 2) = .pointer (some ⟨b2, 0, none⟩) := by rw [ha0]; rfl
    have zs6 : a0.eval (.tmp 6) = .pointer (some ⟨b6, 0, none⟩) := by rw [ha0]; rfl
    obtain ⟨D, hD⟩ : ∃ D : List (Tmp × SP), D = [(14, SP.is (.pointer (some ⟨b2, 0, none⟩))), (15, SP.is (.pointer (some ⟨S, 0, none⟩))), (16, SP.is (.pointer (some ⟨b6, 0, none⟩))), (17, SP.is (.string s1)), (18, SP.is (.pointer (some ⟨b6, 1, none⟩))), (19, SP.is (.agg A1.toArray)), (20, SP.any), (21, SP.is (.int .i64 0)), (7, SP.is (.int .i64 0))] := ⟨_, rfl⟩
    refine wp_region_then (by kernel_rfl) 7 (by decide) (by kernel_rfl) (fun listed ac W => Fp D a0 listed ac W ∧ Below Y6.heap.size Y6 W ∧ Row W b2 LP 61 ∧ Row W b6 N1 68 ∧ Row W g LL 68 ∧ Lg w0 W S (q + 1) f1 ∧ Kp w W ∧ (listed.getD 6 false = true → (SP.by 32 (wB n1)).P W (ac.eval (.tmp 20)))) (fun listed ac W => Fp D a0 listed ac W ∧ Lg w0 W S (q + 1 + 1) f2 ∧ Kp w W ∧ Row W b2 LP 61 ∧ Row W g LL 68) ?_ ?_ ?_ ?_ ?_
    · exact ⟨Fp.start D a0 _ _, Below.drew hb1, Row.drew r2, Row.drew r6, Row.drew hR, hG.below (Below.drew (Below.refl _ _)), hK.below (Below.drew (Below.refl _ _)), (fun h => (start_no h).elim)⟩
    · clear ha0 hb1 r2 r6 hR hG hK
      intro listed ac W k hl hI hdn hk hne hnl
      replace hl : listed.size = 9 := hl
      obtain ⟨hF, hb1, r2, r6, hR, hG, hK, ti6⟩ := hI
      have hk1 : k < 9 := List.mem_range.1 (List.mem_filter.1 hk).1
      rcases (show k = 0 ∨ k = 1 ∨ k = 2 ∨ k = 3 ∨ k = 4 ∨ k = 5 ∨ k = 6 ∨ k = 7 ∨ k = 8 by omega) with rfl | rfl | rfl | rfl | rfl | rfl | rfl | rfl | rfl
      · have hk3 := hk
        have e2 := ((hF.keep 2 (by rw [hD]; rfl)).trans zs2)
        exact wpOp_plain rfl rfl (wp_f_p0 b2 rfl e2 ⟨(hF.put 0 14 (SP.is (.pointer (some ⟨b2, 0, none⟩))) (.pointer (some ⟨b2, 0, none⟩)) (by rw [hD]; rfl) rfl (by rw [hD]; rfl) (by rw [hsz]; decide) (by rw [hl]; decide)), hb1, r2, r6, hR, hG, hK, (fun h1 => by change (SP.by 32 (wB n1)).P _ ((ac.put (some 14) _).eval (.tmp 20)); rw [eval_put_other ac _ (by decide)]; exact ti6 (by rwa [getD_set _ _ _ (by decide)] at h1))⟩)
      · have hk3 := hk
        have e14 := (hF.done 0 (14, SP.is (.pointer (some ⟨b2, 0, none⟩))) (by rw [hD]; rfl) (ready_dep hk 0 (by kernel_rfl)))
        exact wpOp_plain rfl rfl (wp_loadp rfl b2 0 e14 _ (r2.cell 0 _ (by rw [HPE.out]; rfl)) ⟨(hF.put 1 15 (SP.is (.pointer (some ⟨S, 0, none⟩))) (.pointer (some ⟨S, 0, none⟩)) (by rw [hD]; rfl) rfl (by rw [hD]; rfl) (by rw [hsz]; decide) (by rw [hl]; decide)), hb1, r2, r6, hR, hG, hK, (fun h1 => by change (SP.by 32 (wB n1)).P _ ((ac.put (some 15) _).eval (.tmp 20)); rw [eval_put_other ac _ (by decide)]; exact ti6 (by rwa [getD_set _ _ _ (by decide)] at h1))⟩)
      · have hk3 := hk
        have e6 := ((hF.keep 6 (by rw [hD]; rfl)).trans zs6)
        exact wpOp_plain rfl rfl (wp_f_l b6 0 (.inl rfl) rfl e6 ⟨(hF.put 2 16 (SP.is (.pointer (some ⟨b6, 0, none⟩))) (.pointer (some ⟨b6, 0, none⟩)) (by rw [hD]; rfl) rfl (by rw [hD]; rfl) (by rw [hsz]; decide) (by rw [hl]; decide)), hb1, r2, r6, hR, hG, hK, (fun h1 => by change (SP.by 32 (wB n1)).P _ ((ac.put (some 16) _).eval (.tmp 20)); rw [eval_put_other ac _ (by decide)]; exact ti6 (by rwa [getD_set _ _ _ (by decide)] at h1))⟩)
      · have hk3 := hk
        have e16 := (hF.done 2 (16, SP.is (.pointer (some ⟨b6, 0, none⟩))) (by rw [hD]; rfl) (ready_dep hk 2 (by kernel_rfl)))
        exact wpOp_plain rfl rfl (wp_loads rfl b6 0 e16 _ (line_s HE1.out r6) ⟨(hF.put 3 17 (SP.is (.string s1)) (.string s1) (by rw [hD]; rfl) rfl (by rw [hD]; rfl) (by rw [hsz]; decide) (by rw [hl]; decide)), hb1, r2, r6, hR, hG, hK, (fun h1 => by change (SP.by 32 (wB n1)).P _ ((ac.put (some 17) _).eval (.tmp 20)); rw [eval_put_other ac _ (by decide)]; exact ti6 (by rwa [getD_set _ _ _ (by decide)] at h1))⟩)
      · have hk3 := hk
        have e6 := ((hF.keep 6 (by rw [hD]; rfl)).trans zs6)
        exact wpOp_plain rfl rfl (wp_f_l b6 1 (.inr rfl) rfl e6 ⟨(hF.put 4 18 (SP.is (.pointer (some ⟨b6, 1, none⟩))) (.pointer (some ⟨b6, 1, none⟩)) (by rw [hD]; rfl) rfl (by rw [hD]; rfl) (by rw [hsz]; decide) (by rw [hl]; decide)), hb1, r2, r6, hR, hG, hK, (fun h1 => by change (SP.by 32 (wB n1)).P _ ((ac.put (some 18) _).eval (.tmp 20)); rw [eval_put_other ac _ (by decide)]; exact ti6 (by rwa [getD_set _ _ _ (by decide)] at h1))⟩)
      · have hk3 := hk
        exact wpOp_plain rfl rfl (wp_load_mid 26 (.tmp 18) rfl b6 1 (hF.done 4 (18, SP.is (.pointer (some ⟨b6, 1, none⟩))) (by rw [hD]; rfl) (ready_dep hk 4 (by kernel_rfl))) A1 _ (by rw [HA1.out]; exact line_am HE1.out r6) Tryd.underlying26 rfl HAI1.out ⟨(hF.put 5 19 (SP.is (.agg A1.toArray)) (.agg A1.toArray) (by rw [hD]; rfl) rfl (by rw [hD]; rfl) (by rw [hsz]; decide) (by rw [hl]; decide)), hb1, r2, r6, hR, hG, hK, (fun h1 => by change (SP.by 32 (wB n1)).P _ ((ac.put (some 19) _).eval (.tmp 20)); rw [eval_put_other ac _ (by decide)]; exact ti6 (by rwa [getD_set _ _ _ (by decide)] at h1))⟩)
      · have hk3 := hk
        have e19 := (hF.done 5 (19, SP.is (.agg A1.toArray)) (by rw [hD]; rfl) (ready_dep hk 5 (by kernel_rfl)))
        refine wpOp_plain rfl rfl (wp_fcall_v 50 #[.agg A1.toArray] rfl rfl (by show [ac.eval (.tmp 19)] = _; rw [show ac.eval (.tmp 19) = .agg A1.toArray from e19]) (by go_simp) (((show Calls Tryd.prog 50 #[.agg A1.toArray] W _ by rw [HA1.out]; exact laid_some n1 HL1.out HZ1.out W)).mono ?_))
        rintro e W2 ⟨N, hN, hRr, rfl, hB⟩
        exact ⟨_, rfl, ((hF.world hB).put 6 20 (SP.any) (.slice (some ⟨N, 0, none⟩) 32 32) (by rw [hD]; rfl) trivial (by rw [hD]; rfl) (by rw [hsz]; decide) (by rw [hl]; decide)), hb1.trans (hB.mono hb1.size), Row.below r2 hB (Row.lt r2), Row.below r6 hB (Row.lt r6), Row.below hR hB (Row.lt hR), hG.below hB, hK.below hB, (fun _ => by change (SP.by 32 (wB n1)).P _ ((ac.put (some 20) _).eval (.tmp 20)); rw [eval_put_same ac _ (by rw [hF.size, hsz]; decide)]; exact ⟨N, rfl, hRr⟩)⟩
      · exact absurd rfl hne
      · exact absurd (ready_dep hk 7 (by kernel_rfl)) hnl
    · clear ha0 hb1 r2 r6 hR hG hK
      intro listed ac W hl hI hdn hk
      replace hl : listed.size = 9 := hl
      obtain ⟨hF, hb1, r2, r6, hR, hG, hK, ti6⟩ := hI
      have e15 := (hF.done 1 (15, SP.is (.pointer (some ⟨S, 0, none⟩))) (by rw [hD]; rfl) (ready_dep hk 1 (by kernel_rfl)))
      have e17 := (hF.done 3 (17, SP.is (.string s1)) (by rw [hD]; rfl) (ready_dep hk 3 (by kernel_rfl)))
      obtain ⟨N, e20, q20⟩ := (ti6 (ready_dep hk 6 (by kernel_rfl)))
      refine wpOp_plain rfl rfl (wp_fcall_v 47 #[.pointer (some ⟨S, 0, none⟩), .string s1, .slice (some ⟨N, 0, none⟩) 32 32] rfl rfl (by show [ac.eval (.tmp 15), ac.eval (.tmp 17), ac.eval (.tmp 20)] = _; rw [show ac.eval (.tmp 15) = _ from e15, show ac.eval (.tmp 17) = _ from e17, e20]) (by go_simp) (((show Calls Tryd.prog 47 #[.pointer (some ⟨S, 0, none⟩), .string s1, .slice (some ⟨N, 0, none⟩) 32 32] W fun e w' => e = .returned (.int .i64 0) ∧ Lg w0 w' S (q + 1 + 1) f2 ∧ Kp W w' by rw [HF1.out]; exact put_lg w0 S (q + 1) f1 (by have := HQ.out; omega) s1 HS1.out (some ⟨N, 0, none⟩) 32 32 (wB n1) (wB_len n1) (by decide) (fun e => nomatch e) W hG (fun W2 k2 => slw (k2.row _ _ _ (by decide) q20)))).mono ?_))
      rintro e W2 ⟨rfl, hG2, hK2⟩
      have hT : Fp D a0 listed ac W2 := hF.turn (by rw [hD]; simp only [List.forall_mem_cons, List.not_mem_nil, false_implies, implies_true, and_true]; exact ⟨fun _ h => h, fun _ h => h, fun _ h => h, fun _ h => h, fun _ h => h, fun _ h => h, fun _ h => h, fun _ h => h, fun _ h => h⟩)
      exact ⟨_, rfl, (hT.put 7 21 (SP.is (.int .i64 0)) _ (by rw [hD]; rfl) rfl (by rw [hD]; rfl) (by rw [hsz]; decide) (by rw [hl]; decide)), hG2, hK.trans hK2, hK2.row _ _ _ (by decide) r2, hK2.row _ _ _ (by decide) hR⟩
    · clear ha0 hb1 r2 r6 hR hG hK
      intro listed ac W k hl hJ hdn hk hne hyl
      replace hl : listed.size = 9 := hl
      obtain ⟨hF, hG, hK, r2, hR⟩ := hJ
      have hk1 : k < 9 := List.mem_range.1 (List.mem_filter.1 hk).1
      rcases (show k = 0 ∨ k = 1 ∨ k = 2 ∨ k = 3 ∨ k = 4 ∨ k = 5 ∨ k = 6 ∨ k = 7 ∨ k = 8 by omega) with rfl | rfl | rfl | rfl | rfl | rfl | rfl | rfl | rfl
      · exact absurd (hdn 1 (hdn 7 hyl 1 (by kernel_rfl)) 0 (by kernel_rfl)) (not_yet hk)
      · exact absurd (hdn 7 hyl 1 (by kernel_rfl)) (not_yet hk)
      · exact absurd (hdn 3 (hdn 7 hyl 3 (by kernel_rfl)) 2 (by kernel_rfl)) (not_yet hk)
      · exact absurd (hdn 7 hyl 3 (by kernel_rfl)) (not_yet hk)
      · exact absurd (hdn 5 (hdn 6 (hdn 7 hyl 6 (by kernel_rfl)) 5 (by kernel_rfl)) 4 (by kernel_rfl)) (not_yet hk)
      · exact absurd (hdn 6 (hdn 7 hyl 6 (by kernel_rfl)) 5 (by kernel_rfl)) (not_yet hk)
      · exact absurd (hdn 7 hyl 6 (by kernel_rfl)) (not_yet hk)
      · exact absurd rfl hne
      · exact wpOp_plain rfl rfl (wp_assign_v (ac.eval (.tmp 21)) rfl rfl ⟨(hF.put 8 7 (SP.is (.int .i64 0)) _ (by rw [hD]; rfl) (hF.done 7 (21, SP.is (.int .i64 0)) (by rw [hD]; rfl) (ready_dep hk 7 (by kernel_rfl))) (by rw [hD]; rfl) (by rw [hsz]; decide) (by rw [hl]; decide)), hG, hK, r2, hR⟩)
    · clear hb1 r2 r6 hR hG hK
      intro listed ac W hl hJ hr
      replace hl : listed.size = 9 := hl
      obtain ⟨hF, hG, hK, r2, hR⟩ := hJ
      have hall := all_listed (by kernel_rfl) hl hr
      have h14 : ac.eval (.tmp 14) = .pointer (some ⟨b2, 0, none⟩) := hF.done 0 (14, SP.is (.pointer (some ⟨b2, 0, none⟩))) (by rw [hD]; rfl) (hall 0 (by decide))
      have h15 : ac.eval (.tmp 15) = .pointer (some ⟨S, 0, none⟩) := hF.done 1 (15, SP.is (.pointer (some ⟨S, 0, none⟩))) (by rw [hD]; rfl) (hall 1 (by decide))
      have h16 : ac.eval (.tmp 16) = .pointer (some ⟨b6, 0, none⟩) := hF.done 2 (16, SP.is (.pointer (some ⟨b6, 0, none⟩))) (by rw [hD]; rfl) (hall 2 (by decide))
      have h17 : ac.eval (.tmp 17) = .string s1 := hF.done 3 (17, SP.is (.string s1)) (by rw [hD]; rfl) (hall 3 (by decide))
      have h18 : ac.eval (.tmp 18) = .pointer (some ⟨b6, 1, none⟩) := hF.done 4 (18, SP.is (.pointer (some ⟨b6, 1, none⟩))) (by rw [hD]; rfl) (hall 4 (by decide))
      have h19 : ac.eval (.tmp 19) = .agg A1.toArray := hF.done 5 (19, SP.is (.agg A1.toArray)) (by rw [hD]; rfl) (hall 5 (by decide))
      obtain ⟨x20, h20⟩ : ∃ x, ac.eval (.tmp 20) = x := ⟨_, rfl⟩
      have h21 : ac.eval (.tmp 21) = .int .i64 0 := hF.done 7 (21, SP.is (.int .i64 0)) (by rw [hD]; rfl) (hall 7 (by decide))
      have h7 : ac.eval (.tmp 7) = .int .i64 0 := hF.done 8 (7, SP.is (.int .i64 0)) (by rw [hD]; rfl) (hall 8 (by decide))
      have ea := hF.lay [(14, .pointer (some ⟨b2, 0, none⟩)), (15, .pointer (some ⟨S, 0, none⟩)), (16, .pointer (some ⟨b6, 0, none⟩)), (17, .string s1), (18, .pointer (some ⟨b6, 1, none⟩)), (19, .agg A1.toArray), (20, x20), (21, .int .i64 0), (7, .int .i64 0)] (by rw [hD, hsz]; rfl) (by simp only [List.forall_mem_cons, List.not_mem_nil, false_implies, implies_true, and_true]; exact ⟨h14, h15, h16, h17, h18, h19, h20, h21, h7⟩)
      rw [ha0] at ea
      simp only [List.foldl_cons, List.foldl_nil, List.setIfInBounds_toArray, List.set_cons_zero, List.set_cons_succ] at ea
      clear hF hall hr hl hD zs2 zs6 ha0 hsz h14 h15 h16 h17 h18 h19 h20 h21 h7
      subst ea
      obtain ⟨V2, hV⟩ : ∃ V, V = W := ⟨_, rfl⟩
      rw [← hV]
      rw [← hV] at hG hK r2 hR
      clear hV
      have HG : Hid (Lg w0 V2 S (q + 1 + 1) f2) := hG
      have HK : Hid (Kp w V2) := hK
      have R2 : Hid (Row V2 b2 LP 61) := r2
      have HR : Hid (Row V2 g LL 68) := hR
      clear hG hK r2 hR
      go_wp2_with fail
      rw [rounds_succ]
      go_wp2_with fail
      go_ret
      exact ⟨rfl, HG.out, HK.out⟩

end Go.Proofs.YtojmhmnpidhfjaaDoor
