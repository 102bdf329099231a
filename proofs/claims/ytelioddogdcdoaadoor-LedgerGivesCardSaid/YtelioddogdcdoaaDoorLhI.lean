/-
  Balance, Allowed, Move.
-/
import Derived.Test.YtelioddogdcdoaaDoorLhH
namespace Go.Proofs.YtelioddogdcdoaaDoor
open Go Go.RowKit Go.Maps
open Sha
open Wd

set_option maxRecDepth 100000 in
set_option maxHeartbeats 4000000 in
theorem balG (w0 : World) (S q : Nat) (f : ByteArray → List (BitVec 8)) (hq : q < 999980) (t : Nat) (ht : t < 64) (x : List (BitVec 8)) (hx : x.length = 20) (a : Nat) (ha : a < 2 ^ 256) (haf : f (bKt t x) = enc a) (LA : List Value) (hLA : LA = wq a) (w : World) (h : Lg w0 w S q f) :
    Calls Tryd.prog 11 #[.pointer (some ⟨S, 0, none⟩), .int .i64 (t : Int), .agg (vB x).toArray] w fun e w' => e = .returned (.tuple #[.agg LA.toArray, .int .i64 0]) ∧ Lg w0 w' S (q + 1) f ∧ Kp w w' := by
  obtain ⟨LP, hLP⟩ : ∃ L : List Value, L = pgl S t := ⟨_, rfl⟩
  have HLPE : Hid (LP = pgl S t) := hLP
  have HLPI : Hid ((Tryd.prog.info? 58).map (·.size) = some LP.length) := by show _ = _; rw [hLP]; exact info_pgl S t
  have HLPJ : Hid ((Tryd.prog.info? 58).map (·.size) = some LP.toArray.size) := by show _ = _; rw [List.size_toArray, hLP]; exact info_pgl S t
  have HLPN : Hid (LP.length = zP.length) := by show _ = _; rw [hLP]; exact rfl
  have HLPO : Hid (LP.toArray.all (·.oneCell') = true) := by show _ = true; rw [hLP]; exact pgl_one S t
  have HLAE : Hid (LA = wq a) := hLA
  have HLAI : Hid ((Tryd.prog.info? 25).map (·.size) = some LA.length) := by show _ = _; rw [hLA]; exact info_wq _
  have HLAJ : Hid ((Tryd.prog.info? 25).map (·.size) = some LA.toArray.size) := by show _ = _; rw [List.size_toArray, hLA]; exact info_wq _
  have HLAN : Hid (LA.length = zW.length) := by show _ = _; rw [hLA]; exact wq_len _
  have HLAO : Hid (LA.toArray.all (·.oneCell') = true) := by show _ = true; rw [hLA]; exact wq_one _
  have HIx : Hid ((Tryd.prog.info? 33).map (·.size) = some (vB x).length) := info_adr hx
  have HKf : Hid (∀ W, Calls Tryd.prog 26 #[.agg LP.toArray, .agg (vB x).toArray] W fun e w' => e = .returned (.string (bKt t x)) ∧ Below W.heap.size W w') := fun W => bkeyG S t ht x hx LP hLP W
  have HAA : Hid (∀ W, Lg w0 W S q f → Calls Tryd.prog 33 #[.agg LP.toArray, .string (bKt t x)] W fun e w' => e = .returned (.tuple #[.agg LA.toArray, .int .i64 0]) ∧ Lg w0 w' S (q + 1) f ∧ Kp W w') := fun W hW => amt_g w0 S q f (by omega) t (bKt t x) (bKt_key t hx) a ha haf LP LA hLP hLA W hW
  have HOP : Hid (∀ W, Calls Tryd.prog 32 #[.pointer (some ⟨S, 0, none⟩), .int .i64 (t : Int)] W fun e w' => e = .returned (.tuple #[.agg LP.toArray, .int .i64 0]) ∧ Below W.heap.size W w') := fun W => open_t S t ht LP hLP W
  have HG : Hid (Lg w0 w S q f) := h
  have HW0 : Hid (w0.heap.size ≤ w.heap.size) := h.bel.size
  clear hLP hLA hq ht ha haf h hx
  go_enter Tryd.func11, Tryd.ntmps11
  go_wp2_with (first
    | (refine wpList_boxG 33 rfl (.tmp 2) rfl (vB x) rfl ?_; intro X0 q1 q2 q3; have Q0 : Hid (Row X0 _ (vB x) 33) := q1; have B0 : Hid (Below _ _ X0) := q2; clear q1 q2 q3; simp only [Act.put, List.setIfInBounds_toArray, List.set_cons_zero, List.set_cons_succ])
    | (refine wpList_allocW rfl rfl ?_; intro X1 q1 q2 q3; have Q1 : Hid (Row X1 _ zW 25) := q1; have B1 : Hid (Below _ _ X1) := q2; clear q1 q2 q3; simp only [Act.put, List.setIfInBounds_toArray, List.set_cons_zero, List.set_cons_succ]))
  obtain ⟨b5, hb5⟩ : ∃ b, b = w.heap.size := ⟨_, rfl⟩
  obtain ⟨b6, hb6⟩ : ∃ b, b = X0.heap.size := ⟨_, rfl⟩
  have c00 := B0.out
  have c01 := c00.trans (B1.out.mono c00.size)
  have c11 := B1.out
  have R5 : Hid (Row X1 b5 (vB x) 33) := by rw [hb5]; exact Row.below Q0.out c11 Q0.out.lt
  have HWb5 : Hid (w.heap.size ≤ b5) := by show _ ≤ _; rw [hb5]; exact Nat.le_refl _
  have R6 : Hid (Row X1 b6 zW 25) := by rw [hb6]; exact Q1.out
  have HWb6 : Hid (w.heap.size ≤ b6) := by show _ ≤ _; rw [hb6]; exact c00.size
  have Nb5b6 : Hid (b5 ≠ b6) := by show _ ≠ _; have := Q0.out.lt; rw [hb5, hb6]; omega
  have BX : Hid (Below w.heap.size w X1) := c01
  rw [← hb5, ← hb6]
  clear hb5 hb6 c00 c01 c11 Q0 B0 Q1 B1
  replace HG : Hid (Lg w0 X1 S q f) := HG.out.be BX.out
  have HK : Hid (Kp w X1) := Kp.of_below BX.out
  clear BX
  refine Calls.mono (HOP.out X1) ?_
  rintro e V ⟨rfl, hB⟩
  replace R5 : Hid (Row V b5 (vB x) 33) := Row.below R5.out hB R5.out.lt
  replace R6 : Hid (Row V b6 zW 25) := Row.below R6.out hB R6.out.lt
  replace HG : Hid (Lg w0 V S q f) := HG.out.be hB
  replace HK : Hid (Kp w V) := HK.out.trans (Kp.of_below hB)
  clear hB HOP
  obtain ⟨p1, hp1⟩ : ∃ b, b = V.heap.size := ⟨_, rfl⟩
  have HBp1 : Hid (p1 = V.heap.size) := hp1
  clear hp1
  go_upto_region 2 with (first
    | (refine wpList_allocP rfl rfl ?_; intro XY8 q1 q2 q3; have QY8 : Hid (Row XY8 _ zP 58) := q1; have BY8 : Hid (Below _ _ XY8) := q2; clear q1 q2 q3; simp only [Act.put, List.setIfInBounds_toArray, List.set_cons_zero, List.set_cons_succ])
    | (refine wpList_storeL rfl 58 (.tmp 8) (.tmp 14) rfl V.heap.size LP zP 58 rfl rfl QY8.out HLPN.out HLPI.out HLPO.out ?_; intro Y8 q1 q2; have HY8 : Hid (Y8 = _) := q1; have RY8 : Hid (Row Y8 V.heap.size LP 58) := q2; clear q1 q2; simp only [Act.put]))
  rw [← HBp1.out] at RY8 HY8
  rw [← HBp1.out]
  have cb : Below V.heap.size V Y8 := by rw [HY8.out]; exact below_setCells BY8.out (by rw [HBp1.out]; exact Nat.le_refl _) _
  have Nb5p1 : Hid (b5 ≠ p1) := by show _ ≠ _; have := R5.out.lt; rw [HBp1.out]; omega
  have Nb6p1 : Hid (b6 ≠ p1) := by show _ ≠ _; have := R6.out.lt; rw [HBp1.out]; omega
  replace R5 : Hid (Row Y8 b5 (vB x) 33) := Row.below R5.out cb R5.out.lt
  replace R6 : Hid (Row Y8 b6 zW 25) := Row.below R6.out cb R6.out.lt
  replace HG : Hid (Lg w0 Y8 S q f) := HG.out.be cb
  replace HK : Hid (Kp w Y8) := HK.out.trans (Kp.of_below cb)
  have Rp1 : Hid (Row Y8 p1 LP 58) := RY8.out
  clear cb HY8 BY8 QY8 RY8 HBp1
  go_upto_region 4 with fail
  have rp := Rp1.out
  have r5 := R5.out
  have r6 := R6.out
  have hG := HG.out
  have hK := HK.out
  have hw0 : w0.heap.size ≤ Y8.heap.size := hG.bel.size
  have hwf : w.heap.size ≤ Y8.heap.size := hK.size
  have hwp := HWb6.out
  have hwq : w0.heap.size ≤ b6 := Nat.le_trans HW0.out HWb6.out
  have n0 := Nb5b6.out
  have n1 := Nb5p1.out
  have n2 := Nb6p1.out
  have hb1 := Below.refl Y8.heap.size Y8
  clear Rp1 R5 R6 HG HK
  refine wp_named fun a0 ha0 => ?_
  have hsz : a0.tmps.size = 27 := by rw [ha0]; rfl
  have zs8 : a0.eval (.tmp 8) = .pointer (some ⟨p1, 0, none⟩) := by rw [ha0]; rfl
  have zs6 : a0.eval (.tmp 6) = .pointer (some ⟨b6, 0, none⟩) := by rw [ha0]; rfl
  have zs5 : a0.eval (.tmp 5) = .pointer (some ⟨b5, 0, none⟩) := by rw [ha0]; rfl
  have lt_rp : p1 < Y8.heap.size := rp.lt
  have lt_r5 : b5 < Y8.heap.size := r5.lt
  have lt_r6 : b6 < Y8.heap.size := r6.lt
  obtain ⟨D, hD⟩ : ∃ D : List (Tmp × SP), D = [(20, SP.is (.agg LP.toArray)), (21, SP.is (.agg LP.toArray)), (22, SP.is (.agg (vB x).toArray)), (23, SP.is (.string (bKt t x))), (24, SP.is (.tuple #[.agg LA.toArray, .int .i64 0])), (25, SP.is (.agg LA.toArray)), (26, SP.is (.int .i64 0)), (1000, SP.any), (7, SP.is (.int .i64 0))] := ⟨_, rfl⟩
  refine wp_region_then (by kernel_rfl) 4 (by decide) (by kernel_rfl) (fun listed ac W => Fp D a0 listed ac W ∧ Below Y8.heap.size Y8 W ∧ Row W p1 LP 58 ∧ Row W b5 ((vB x)) 33 ∧ Row W b6 zW 25 ∧ Lg w0 W S (q) f ∧ Kp w W) (fun listed ac W => Fp D a0 listed ac W ∧ Y8.heap.size ≤ W.heap.size ∧ Row W p1 LP 58 ∧ Row W b5 ((vB x)) 33 ∧ Row W b6 (if listed.getD 7 false = true then LA else zW) 25 ∧ Lg w0 W S (q + 1) f ∧ Kp w W) ?_ ?_ ?_ ?_ ?_
  · exact ⟨Fp.start D a0 _ _, Below.drew hb1, Row.drew rp, Row.drew r5, Row.drew r6, hG.below (Below.drew (Below.refl _ _)), hK.below (Below.drew (Below.refl _ _))⟩
  · clear ha0 hb1 rp r5 r6 hG hK
    intro listed ac W k hl hI hdn hk hne hnl
    replace hl : listed.size = 9 := hl
    obtain ⟨hF, hb1, rp, r5, r6, hG, hK⟩ := hI
    have hk1 : k < 9 := List.mem_range.1 (List.mem_filter.1 hk).1
    rcases (show k = 0 ∨ k = 1 ∨ k = 2 ∨ k = 3 ∨ k = 4 ∨ k = 5 ∨ k = 6 ∨ k = 7 ∨ k = 8 by omega) with rfl | rfl | rfl | rfl | rfl | rfl | rfl | rfl | rfl
    · have hk3 := hk
      exact wpOp_plain rfl rfl (wp_load_mid 58 (.tmp 8) rfl p1 0 ((hF.keep 8 (by rw [hD]; rfl)).trans zs8) LP _ rp.all Tryd.underlying58 rfl HLPI.out ⟨(hF.put 0 20 (SP.is (.agg LP.toArray)) (.agg LP.toArray) (by rw [hD]; rfl) rfl (by rw [hD]; rfl) (by rw [hsz]; decide) (by rw [hl]; decide)), hb1, rp, r5, r6, hG, hK⟩)
    · have hk3 := hk
      exact wpOp_plain rfl rfl (wp_load_mid 58 (.tmp 8) rfl p1 0 ((hF.keep 8 (by rw [hD]; rfl)).trans zs8) LP _ rp.all Tryd.underlying58 rfl HLPI.out ⟨(hF.put 1 21 (SP.is (.agg LP.toArray)) (.agg LP.toArray) (by rw [hD]; rfl) rfl (by rw [hD]; rfl) (by rw [hsz]; decide) (by rw [hl]; decide)), hb1, rp, r5, r6, hG, hK⟩)
    · have hk3 := hk
      exact wpOp_plain rfl rfl (wp_load_mid 33 (.tmp 5) rfl b5 0 ((hF.keep 5 (by rw [hD]; rfl)).trans zs5) ((vB x)) _ r5.all Tryd.underlying33 rfl HIx.out ⟨(hF.put 2 22 (SP.is (.agg (vB x).toArray)) (.agg (vB x).toArray) (by rw [hD]; rfl) rfl (by rw [hD]; rfl) (by rw [hsz]; decide) (by rw [hl]; decide)), hb1, rp, r5, r6, hG, hK⟩)
    · have hk3 := hk
      have ea0 := (hF.done 1 (21, SP.is (.agg LP.toArray)) (by rw [hD]; rfl) (ready_dep hk 1 (by kernel_rfl)))
      have ea1 := (hF.done 2 (22, SP.is (.agg (vB x).toArray)) (by rw [hD]; rfl) (ready_dep hk 2 (by kernel_rfl)))
      refine wpOp_plain rfl rfl (wp_fcall_v 26 #[.agg LP.toArray, .agg (vB x).toArray] rfl rfl (by show [ac.eval (.tmp 21), ac.eval (.tmp 22)] = _; rw [show ac.eval (.tmp 21) = .agg LP.toArray from ea0, show ac.eval (.tmp 22) = .agg (vB x).toArray from ea1]) (by go_simp) (((show Calls Tryd.prog 26 #[.agg LP.toArray, .agg (vB x).toArray] W _ from HKf.out W)).mono ?_))
      rintro e W2 ⟨rfl, hB⟩
      exact ⟨_, rfl, ((hF.world hB).put 3 23 (SP.is (.string (bKt t x))) (.string (bKt t x)) (by rw [hD]; rfl) rfl (by rw [hD]; rfl) (by rw [hsz]; decide) (by rw [hl]; decide)), hb1.trans (hB.mono hb1.size), Row.below rp hB (Row.lt rp), Row.below r5 hB (Row.lt r5), Row.below r6 hB (Row.lt r6), hG.below hB, hK.below hB⟩
    · exact absurd rfl hne
    · exact absurd (ready_dep hk 4 (by kernel_rfl)) hnl
    · exact absurd (ready_dep hk 4 (by kernel_rfl)) hnl
    · exact absurd (hdn 5 (ready_dep hk 5 (by kernel_rfl)) 4 (by kernel_rfl)) hnl
    · exact absurd (hdn 6 (ready_dep hk 6 (by kernel_rfl)) 4 (by kernel_rfl)) hnl
  · clear ha0 hb1 rp r5 r6 hG hK
    intro listed ac W hl hI hdn hk
    replace hl : listed.size = 9 := hl
    obtain ⟨hF, hb1, rp, r5, r6, hG, hK⟩ := hI
    have eb1 := (hF.done 0 (20, SP.is (.agg LP.toArray)) (by rw [hD]; rfl) (ready_dep hk 0 (by kernel_rfl)))
    have eb2 := (hF.done 3 (23, SP.is (.string (bKt t x))) (by rw [hD]; rfl) (ready_dep hk 3 (by kernel_rfl)))
    have hns7 : ¬ listed.getD 7 false = true := fun h => not_yet hk (hdn 5 (hdn 7 h 5 (by kernel_rfl)) 4 (by kernel_rfl))
    refine wpOp_plain rfl rfl (wp_fcall_v 33 #[.agg LP.toArray, .string (bKt t x)] rfl rfl (by show [ac.eval (.tmp 20), ac.eval (.tmp 23)] = _; rw [show ac.eval (.tmp 20) = .agg LP.toArray from eb1, show ac.eval (.tmp 23) = .string (bKt t x) from eb2]) (by go_simp) ((HAA.out W hG).mono ?_))
    rintro e W2 ⟨rfl, hG2, hK2⟩
    have hT : Fp D a0 listed ac W2 := hF.turn (by rw [hD]; simp only [List.forall_mem_cons, List.not_mem_nil, false_implies, implies_true, and_true]; exact ⟨fun _ h => h, fun _ h => h, fun _ h => h, fun _ h => h, fun _ h => h, fun _ h => h, fun _ h => h, fun _ h => h, fun _ h => h⟩)
    exact ⟨_, rfl, (hT.put 4 24 (SP.is (.tuple #[.agg LA.toArray, .int .i64 0])) (_) (by rw [hD]; rfl) rfl (by rw [hD]; rfl) (by rw [hsz]; decide) (by rw [hl]; decide)), Nat.le_trans hb1.size hK2.size, hK2.row _ _ _ (by decide) rp, hK2.row _ _ _ (by decide) r5, (by rw [getD_set _ _ _ (by decide), if_neg hns7]; exact hK2.row _ _ _ (by decide) r6), hG2, hK.trans hK2⟩
  · clear ha0 hb1 rp r5 r6 hG hK
    intro listed ac W k hl hJ hdn hk hne hyl
    replace hl : listed.size = 9 := hl
    obtain ⟨hF, hS, rp, r5, r6, hG, hK⟩ := hJ
    have hk1 : k < 9 := List.mem_range.1 (List.mem_filter.1 hk).1
    rcases (show k = 0 ∨ k = 1 ∨ k = 2 ∨ k = 3 ∨ k = 4 ∨ k = 5 ∨ k = 6 ∨ k = 7 ∨ k = 8 by omega) with rfl | rfl | rfl | rfl | rfl | rfl | rfl | rfl | rfl
    · exact absurd (hdn 4 hyl 0 (by kernel_rfl)) (not_yet hk)
    · exact absurd (hdn 3 (hdn 4 hyl 3 (by kernel_rfl)) 1 (by kernel_rfl)) (not_yet hk)
    · exact absurd (hdn 3 (hdn 4 hyl 3 (by kernel_rfl)) 2 (by kernel_rfl)) (not_yet hk)
    · exact absurd (hdn 4 hyl 3 (by kernel_rfl)) (not_yet hk)
    · exact absurd rfl hne
    · have hk3 := hk
      exact wpOp_plain rfl rfl (wp_extract (.tmp 24) 0 rfl _ (hF.done 4 (24, SP.is (.tuple #[.agg LA.toArray, .int .i64 0])) (by rw [hD]; rfl) (ready_dep hk 4 (by kernel_rfl))) (.agg LA.toArray) rfl ⟨(hF.put 5 25 (SP.is (.agg LA.toArray)) (.agg LA.toArray) (by rw [hD]; rfl) rfl (by rw [hD]; rfl) (by rw [hsz]; decide) (by rw [hl]; decide)), hS, rp, r5, (by rw [getD_set _ _ _ (by decide)]; exact r6), hG, hK⟩)
    · have hk3 := hk
      exact wpOp_plain rfl rfl (wp_extract (.tmp 24) 1 rfl _ (hF.done 4 (24, SP.is (.tuple #[.agg LA.toArray, .int .i64 0])) (by rw [hD]; rfl) (ready_dep hk 4 (by kernel_rfl))) (.int .i64 0) rfl ⟨(hF.put 6 26 (SP.is (.int .i64 0)) (.int .i64 0) (by rw [hD]; rfl) rfl (by rw [hD]; rfl) (by rw [hsz]; decide) (by rw [hl]; decide)), hS, rp, r5, (by rw [getD_set _ _ _ (by decide)]; exact r6), hG, hK⟩)
    · have hk3 := hk
      rw [if_neg (not_yet hk)] at r6
      have hT : Fp D a0 listed ac (W.setCells b6 0 LA) := hF.turn (by rw [hD]; simp only [List.forall_mem_cons, List.not_mem_nil, false_implies, implies_true, and_true]; exact ⟨fun _ h => h, fun _ h => h, fun _ h => h, fun _ h => h, fun _ h => h, fun _ h => h, fun _ h => h, fun _ h => h, fun _ h => h⟩)
      exact wpOp_plain rfl rfl (wp_store_mid 25 (.tmp 6) (.tmp 25) rfl b6 0 LA.toArray ((hF.keep 6 (by rw [hD]; rfl)).trans zs6) (hF.done 5 (25, SP.is (.agg LA.toArray)) (by rw [hD]; rfl) (ready_dep hk 5 (by kernel_rfl))) (r6.there 0 _ (by rw [List.size_toArray, HLAN.out]; decide)) HLAJ.out HLAO.out ⟨(hT.skip 7 1000 (by rw [hD]; rfl) (by rw [hl]; decide)), (by rw [size_setCells]; exact hS), Row.setCells_other rp _ _ _ (by omega), Row.setCells_other r5 _ _ _ (by omega), (by rw [if_pos (getD_same (by rw [hl]; decide))]; exact r6.over HLAN.out), hG.kept r6 (by decide) (by decide) (by decide) (by decide) (fun k hk => heap_sets _ _ _ _ _ hk) (below_setCells hG.bel hwq _), Kp.kept b6 hwp hK (fun k hk => heap_sets _ _ _ _ _ hk) (below_setCells (Below.refl 0 _) (Nat.zero_le _) _).size⟩)
    · have hk3 := hk
      exact wpOp_plain rfl rfl (wp_assign_v (ac.eval (.tmp 26)) rfl rfl ⟨(hF.put 8 7 (SP.is (.int .i64 0)) (ac.eval (.tmp 26)) (by rw [hD]; rfl) ((hF.done 6 (26, SP.is (.int .i64 0)) (by rw [hD]; rfl) (ready_dep hk 6 (by kernel_rfl)))) (by rw [hD]; rfl) (by rw [hsz]; decide) (by rw [hl]; decide)), hS, rp, r5, (by rw [getD_set _ _ _ (by decide)]; exact r6), hG, hK⟩)
  · clear hb1 rp r5 r6 hG hK
    intro listed ac W hl hJ hr
    replace hl : listed.size = 9 := hl
    obtain ⟨hF, hS, rp, r5, r6, hG, hK⟩ := hJ
    have hall := all_listed (by kernel_rfl) hl hr
    rw [if_pos (hall 7 (by decide))] at r6
    have h20 : ac.eval (.tmp 20) = .agg LP.toArray := hF.done 0 (20, SP.is (.agg LP.toArray)) (by rw [hD]; rfl) (hall 0 (by decide))
    have h21 : ac.eval (.tmp 21) = .agg LP.toArray := hF.done 1 (21, SP.is (.agg LP.toArray)) (by rw [hD]; rfl) (hall 1 (by decide))
    have h22 : ac.eval (.tmp 22) = .agg (vB x).toArray := hF.done 2 (22, SP.is (.agg (vB x).toArray)) (by rw [hD]; rfl) (hall 2 (by decide))
    have h23 : ac.eval (.tmp 23) = .string (bKt t x) := hF.done 3 (23, SP.is (.string (bKt t x))) (by rw [hD]; rfl) (hall 3 (by decide))
    have h24 : ac.eval (.tmp 24) = .tuple #[.agg LA.toArray, .int .i64 0] := hF.done 4 (24, SP.is (.tuple #[.agg LA.toArray, .int .i64 0])) (by rw [hD]; rfl) (hall 4 (by decide))
    have h25 : ac.eval (.tmp 25) = .agg LA.toArray := hF.done 5 (25, SP.is (.agg LA.toArray)) (by rw [hD]; rfl) (hall 5 (by decide))
    have h26 : ac.eval (.tmp 26) = .int .i64 0 := hF.done 6 (26, SP.is (.int .i64 0)) (by rw [hD]; rfl) (hall 6 (by decide))
    have h7 : ac.eval (.tmp 7) = .int .i64 0 := hF.done 8 (7, SP.is (.int .i64 0)) (by rw [hD]; rfl) (hall 8 (by decide))
    have ea := hF.lay [(20, .agg LP.toArray), (21, .agg LP.toArray), (22, .agg (vB x).toArray), (23, .string (bKt t x)), (24, .tuple #[.agg LA.toArray, .int .i64 0]), (25, .agg LA.toArray), (26, .int .i64 0), (7, .int .i64 0)] (by rw [hD, hsz]; rfl) (by simp only [List.forall_mem_cons, List.not_mem_nil, false_implies, implies_true, and_true]; exact ⟨h20, h21, h22, h23, h24, h25, h26, h7⟩)
    rw [ha0] at ea
    simp only [List.foldl_cons, List.foldl_nil, List.setIfInBounds_toArray, List.set_cons_zero, List.set_cons_succ] at ea
    clear hF hall hr hl hD zs8 zs6 zs5 ha0 hsz h20 h21 h22 h23 h24 h25 h26 h7  lt_rp lt_r5 lt_r6
    subst ea
    have HG : Hid (Lg w0 W S (q + 1) f) := hG
    have HK : Hid (Kp w W) := hK
    have F6 : Hid (Row W b6 LA 25) := r6
    clear hG hK rp r5 r6 hS hw0 hwf hwp hwq n0 n1 n2
    go_wp2_with fail
    exact bodyPost_ret (results_rowA_tmp Tryd.results11 _ _ b6 25 LA (.int .i64 0) rfl rfl F6.out Tryd.underlying25 HLAI.out) rfl ⟨rfl, HG.out, HK.out⟩
set_option maxRecDepth 100000 in
set_option maxHeartbeats 4000000 in
theorem aldG (w0 : World) (S q : Nat) (f : ByteArray → List (BitVec 8)) (hq : q < 999980) (t : Nat) (ht : t < 64) (x y : List (BitVec 8)) (hx : x.length = 20) (hy : y.length = 20) (a : Nat) (ha : a < 2 ^ 256) (haf : f (lKt t x y) = enc a) (LA : List Value) (hLA : LA = wq a) (w : World) (h : Lg w0 w S q f) :
    Calls Tryd.prog 14 #[.pointer (some ⟨S, 0, none⟩), .int .i64 (t : Int), .agg (vB x).toArray, .agg (vB y).toArray] w fun e w' => e = .returned (.tuple #[.agg LA.toArray, .int .i64 0]) ∧ Lg w0 w' S (q + 1) f ∧ Kp w w' := by
  obtain ⟨LP, hLP⟩ : ∃ L : List Value, L = pgl S t := ⟨_, rfl⟩
  have HLPE : Hid (LP = pgl S t) := hLP
  have HLPI : Hid ((Tryd.prog.info? 58).map (·.size) = some LP.length) := by show _ = _; rw [hLP]; exact info_pgl S t
  have HLPJ : Hid ((Tryd.prog.info? 58).map (·.size) = some LP.toArray.size) := by show _ = _; rw [List.size_toArray, hLP]; exact info_pgl S t
  have HLPN : Hid (LP.length = zP.length) := by show _ = _; rw [hLP]; exact rfl
  have HLPO : Hid (LP.toArray.all (·.oneCell') = true) := by show _ = true; rw [hLP]; exact pgl_one S t
  have HLAE : Hid (LA = wq a) := hLA
  have HLAI : Hid ((Tryd.prog.info? 25).map (·.size) = some LA.length) := by show _ = _; rw [hLA]; exact info_wq _
  have HLAJ : Hid ((Tryd.prog.info? 25).map (·.size) = some LA.toArray.size) := by show _ = _; rw [List.size_toArray, hLA]; exact info_wq _
  have HLAN : Hid (LA.length = zW.length) := by show _ = _; rw [hLA]; exact wq_len _
  have HLAO : Hid (LA.toArray.all (·.oneCell') = true) := by show _ = true; rw [hLA]; exact wq_one _
  have HIx : Hid ((Tryd.prog.info? 33).map (·.size) = some (vB x).length) := info_adr hx
  have HIy : Hid ((Tryd.prog.info? 33).map (·.size) = some (vB y).length) := info_adr hy
  have HKf : Hid (∀ W, Calls Tryd.prog 35 #[.agg LP.toArray, .agg (vB x).toArray, .agg (vB y).toArray] W fun e w' => e = .returned (.string (lKt t x y)) ∧ Below W.heap.size W w') := fun W => akeyG S t ht x y hx hy LP hLP W
  have HAA : Hid (∀ W, Lg w0 W S q f → Calls Tryd.prog 33 #[.agg LP.toArray, .string (lKt t x y)] W fun e w' => e = .returned (.tuple #[.agg LA.toArray, .int .i64 0]) ∧ Lg w0 w' S (q + 1) f ∧ Kp W w') := fun W hW => amt_g w0 S q f (by omega) t (lKt t x y) (lKt_key t hx hy) a ha haf LP LA hLP hLA W hW
  have HOP : Hid (∀ W, Calls Tryd.prog 32 #[.pointer (some ⟨S, 0, none⟩), .int .i64 (t : Int)] W fun e w' => e = .returned (.tuple #[.agg LP.toArray, .int .i64 0]) ∧ Below W.heap.size W w') := fun W => open_t S t ht LP hLP W
  have HG : Hid (Lg w0 w S q f) := h
  have HW0 : Hid (w0.heap.size ≤ w.heap.size) := h.bel.size
  clear hLP hLA hq ht ha haf h hx hy
  go_enter Tryd.func14, Tryd.ntmps14
  go_wp2_with (first
    | (refine wpList_boxG 33 rfl (.tmp 2) rfl (vB x) rfl ?_; intro X0 q1 q2 q3; have Q0 : Hid (Row X0 _ (vB x) 33) := q1; have B0 : Hid (Below _ _ X0) := q2; clear q1 q2 q3; simp only [Act.put, List.setIfInBounds_toArray, List.set_cons_zero, List.set_cons_succ])
    | (refine wpList_boxG 33 rfl (.tmp 3) rfl (vB y) rfl ?_; intro X1 q1 q2 q3; have Q1 : Hid (Row X1 _ (vB y) 33) := q1; have B1 : Hid (Below _ _ X1) := q2; clear q1 q2 q3; simp only [Act.put, List.setIfInBounds_toArray, List.set_cons_zero, List.set_cons_succ])
    | (refine wpList_allocW rfl rfl ?_; intro X2 q1 q2 q3; have Q2 : Hid (Row X2 _ zW 25) := q1; have B2 : Hid (Below _ _ X2) := q2; clear q1 q2 q3; simp only [Act.put, List.setIfInBounds_toArray, List.set_cons_zero, List.set_cons_succ]))
  obtain ⟨b6, hb6⟩ : ∃ b, b = w.heap.size := ⟨_, rfl⟩
  obtain ⟨b7, hb7⟩ : ∃ b, b = X0.heap.size := ⟨_, rfl⟩
  obtain ⟨b8, hb8⟩ : ∃ b, b = X1.heap.size := ⟨_, rfl⟩
  have c00 := B0.out
  have c01 := c00.trans (B1.out.mono c00.size)
  have c02 := c01.trans (B2.out.mono c01.size)
  have c11 := B1.out
  have c12 := c11.trans (B2.out.mono c11.size)
  have c22 := B2.out
  have R6 : Hid (Row X2 b6 (vB x) 33) := by rw [hb6]; exact Row.below Q0.out c12 Q0.out.lt
  have HWb6 : Hid (w.heap.size ≤ b6) := by show _ ≤ _; rw [hb6]; exact Nat.le_refl _
  have R7 : Hid (Row X2 b7 (vB y) 33) := by rw [hb7]; exact Row.below Q1.out c22 Q1.out.lt
  have HWb7 : Hid (w.heap.size ≤ b7) := by show _ ≤ _; rw [hb7]; exact c00.size
  have R8 : Hid (Row X2 b8 zW 25) := by rw [hb8]; exact Q2.out
  have HWb8 : Hid (w.heap.size ≤ b8) := by show _ ≤ _; rw [hb8]; exact c01.size
  have Nb6b7 : Hid (b6 ≠ b7) := by show _ ≠ _; have := Q0.out.lt; rw [hb6, hb7]; omega
  have Nb6b8 : Hid (b6 ≠ b8) := by show _ ≠ _; have := Q0.out.lt; rw [hb6, hb8]; have := c11.size; omega
  have Nb7b8 : Hid (b7 ≠ b8) := by show _ ≠ _; have := Q1.out.lt; rw [hb7, hb8]; omega
  have BX : Hid (Below w.heap.size w X2) := c02
  rw [← hb6, ← hb7, ← hb8]
  clear hb6 hb7 hb8 c00 c01 c02 c11 c12 c22 Q0 B0 Q1 B1 Q2 B2
  replace HG : Hid (Lg w0 X2 S q f) := HG.out.be BX.out
  have HK : Hid (Kp w X2) := Kp.of_below BX.out
  clear BX
  refine Calls.mono (HOP.out X2) ?_
  rintro e V ⟨rfl, hB⟩
  replace R6 : Hid (Row V b6 (vB x) 33) := Row.below R6.out hB R6.out.lt
  replace R7 : Hid (Row V b7 (vB y) 33) := Row.below R7.out hB R7.out.lt
  replace R8 : Hid (Row V b8 zW 25) := Row.below R8.out hB R8.out.lt
  replace HG : Hid (Lg w0 V S q f) := HG.out.be hB
  replace HK : Hid (Kp w V) := HK.out.trans (Kp.of_below hB)
  clear hB HOP
  obtain ⟨p1, hp1⟩ : ∃ b, b = V.heap.size := ⟨_, rfl⟩
  have HBp1 : Hid (p1 = V.heap.size) := hp1
  clear hp1
  go_upto_region 2 with (first
    | (refine wpList_allocP rfl rfl ?_; intro XY8 q1 q2 q3; have QY8 : Hid (Row XY8 _ zP 58) := q1; have BY8 : Hid (Below _ _ XY8) := q2; clear q1 q2 q3; simp only [Act.put, List.setIfInBounds_toArray, List.set_cons_zero, List.set_cons_succ])
    | (refine wpList_storeL rfl 58 (.tmp 10) (.tmp 16) rfl V.heap.size LP zP 58 rfl rfl QY8.out HLPN.out HLPI.out HLPO.out ?_; intro Y8 q1 q2; have HY8 : Hid (Y8 = _) := q1; have RY8 : Hid (Row Y8 V.heap.size LP 58) := q2; clear q1 q2; simp only [Act.put]))
  rw [← HBp1.out] at RY8 HY8
  rw [← HBp1.out]
  have cb : Below V.heap.size V Y8 := by rw [HY8.out]; exact below_setCells BY8.out (by rw [HBp1.out]; exact Nat.le_refl _) _
  have Nb6p1 : Hid (b6 ≠ p1) := by show _ ≠ _; have := R6.out.lt; rw [HBp1.out]; omega
  have Nb7p1 : Hid (b7 ≠ p1) := by show _ ≠ _; have := R7.out.lt; rw [HBp1.out]; omega
  have Nb8p1 : Hid (b8 ≠ p1) := by show _ ≠ _; have := R8.out.lt; rw [HBp1.out]; omega
  replace R6 : Hid (Row Y8 b6 (vB x) 33) := Row.below R6.out cb R6.out.lt
  replace R7 : Hid (Row Y8 b7 (vB y) 33) := Row.below R7.out cb R7.out.lt
  replace R8 : Hid (Row Y8 b8 zW 25) := Row.below R8.out cb R8.out.lt
  replace HG : Hid (Lg w0 Y8 S q f) := HG.out.be cb
  replace HK : Hid (Kp w Y8) := HK.out.trans (Kp.of_below cb)
  have Rp1 : Hid (Row Y8 p1 LP 58) := RY8.out
  clear cb HY8 BY8 QY8 RY8 HBp1
  go_upto_region 4 with fail
  have rp := Rp1.out
  have r6 := R6.out
  have r7 := R7.out
  have r8 := R8.out
  have hG := HG.out
  have hK := HK.out
  have hw0 : w0.heap.size ≤ Y8.heap.size := hG.bel.size
  have hwf : w.heap.size ≤ Y8.heap.size := hK.size
  have hwp := HWb8.out
  have hwq : w0.heap.size ≤ b8 := Nat.le_trans HW0.out HWb8.out
  have n0 := Nb6b7.out
  have n1 := Nb6b8.out
  have n2 := Nb7b8.out
  have n3 := Nb6p1.out
  have n4 := Nb7p1.out
  have n5 := Nb8p1.out
  have hb1 := Below.refl Y8.heap.size Y8
  clear Rp1 R6 R7 R8 HG HK
  refine wp_named fun a0 ha0 => ?_
  have hsz : a0.tmps.size = 30 := by rw [ha0]; rfl
  have zs10 : a0.eval (.tmp 10) = .pointer (some ⟨p1, 0, none⟩) := by rw [ha0]; rfl
  have zs8 : a0.eval (.tmp 8) = .pointer (some ⟨b8, 0, none⟩) := by rw [ha0]; rfl
  have zs6 : a0.eval (.tmp 6) = .pointer (some ⟨b6, 0, none⟩) := by rw [ha0]; rfl
  have zs7 : a0.eval (.tmp 7) = .pointer (some ⟨b7, 0, none⟩) := by rw [ha0]; rfl
  have lt_rp : p1 < Y8.heap.size := rp.lt
  have lt_r6 : b6 < Y8.heap.size := r6.lt
  have lt_r7 : b7 < Y8.heap.size := r7.lt
  have lt_r8 : b8 < Y8.heap.size := r8.lt
  obtain ⟨D, hD⟩ : ∃ D : List (Tmp × SP), D = [(22, SP.is (.agg LP.toArray)), (23, SP.is (.agg LP.toArray)), (24, SP.is (.agg (vB x).toArray)), (25, SP.is (.agg (vB y).toArray)), (26, SP.is (.string (lKt t x y))), (27, SP.is (.tuple #[.agg LA.toArray, .int .i64 0])), (28, SP.is (.agg LA.toArray)), (29, SP.is (.int .i64 0)), (1000, SP.any), (9, SP.is (.int .i64 0))] := ⟨_, rfl⟩
  refine wp_region_then (by kernel_rfl) 5 (by decide) (by kernel_rfl) (fun listed ac W => Fp D a0 listed ac W ∧ Below Y8.heap.size Y8 W ∧ Row W p1 LP 58 ∧ Row W b6 ((vB x)) 33 ∧ Row W b7 ((vB y)) 33 ∧ Row W b8 zW 25 ∧ Lg w0 W S (q) f ∧ Kp w W) (fun listed ac W => Fp D a0 listed ac W ∧ Y8.heap.size ≤ W.heap.size ∧ Row W p1 LP 58 ∧ Row W b6 ((vB x)) 33 ∧ Row W b7 ((vB y)) 33 ∧ Row W b8 (if listed.getD 8 false = true then LA else zW) 25 ∧ Lg w0 W S (q + 1) f ∧ Kp w W) ?_ ?_ ?_ ?_ ?_
  · exact ⟨Fp.start D a0 _ _, Below.drew hb1, Row.drew rp, Row.drew r6, Row.drew r7, Row.drew r8, hG.below (Below.drew (Below.refl _ _)), hK.below (Below.drew (Below.refl _ _))⟩
  · clear ha0 hb1 rp r6 r7 r8 hG hK
    intro listed ac W k hl hI hdn hk hne hnl
    replace hl : listed.size = 10 := hl
    obtain ⟨hF, hb1, rp, r6, r7, r8, hG, hK⟩ := hI
    have hk1 : k < 10 := List.mem_range.1 (List.mem_filter.1 hk).1
    rcases (show k = 0 ∨ k = 1 ∨ k = 2 ∨ k = 3 ∨ k = 4 ∨ k = 5 ∨ k = 6 ∨ k = 7 ∨ k = 8 ∨ k = 9 by omega) with rfl | rfl | rfl | rfl | rfl | rfl | rfl | rfl | rfl | rfl
    · have hk3 := hk
      exact wpOp_plain rfl rfl (wp_load_mid 58 (.tmp 10) rfl p1 0 ((hF.keep 10 (by rw [hD]; rfl)).trans zs10) LP _ rp.all Tryd.underlying58 rfl HLPI.out ⟨(hF.put 0 22 (SP.is (.agg LP.toArray)) (.agg LP.toArray) (by rw [hD]; rfl) rfl (by rw [hD]; rfl) (by rw [hsz]; decide) (by rw [hl]; decide)), hb1, rp, r6, r7, r8, hG, hK⟩)
    · have hk3 := hk
      exact wpOp_plain rfl rfl (wp_load_mid 58 (.tmp 10) rfl p1 0 ((hF.keep 10 (by rw [hD]; rfl)).trans zs10) LP _ rp.all Tryd.underlying58 rfl HLPI.out ⟨(hF.put 1 23 (SP.is (.agg LP.toArray)) (.agg LP.toArray) (by rw [hD]; rfl) rfl (by rw [hD]; rfl) (by rw [hsz]; decide) (by rw [hl]; decide)), hb1, rp, r6, r7, r8, hG, hK⟩)
    · have hk3 := hk
      exact wpOp_plain rfl rfl (wp_load_mid 33 (.tmp 6) rfl b6 0 ((hF.keep 6 (by rw [hD]; rfl)).trans zs6) ((vB x)) _ r6.all Tryd.underlying33 rfl HIx.out ⟨(hF.put 2 24 (SP.is (.agg (vB x).toArray)) (.agg (vB x).toArray) (by rw [hD]; rfl) rfl (by rw [hD]; rfl) (by rw [hsz]; decide) (by rw [hl]; decide)), hb1, rp, r6, r7, r8, hG, hK⟩)
    · have hk3 := hk
      exact wpOp_plain rfl rfl (wp_load_mid 33 (.tmp 7) rfl b7 0 ((hF.keep 7 (by rw [hD]; rfl)).trans zs7) ((vB y)) _ r7.all Tryd.underlying33 rfl HIy.out ⟨(hF.put 3 25 (SP.is (.agg (vB y).toArray)) (.agg (vB y).toArray) (by rw [hD]; rfl) rfl (by rw [hD]; rfl) (by rw [hsz]; decide) (by rw [hl]; decide)), hb1, rp, r6, r7, r8, hG, hK⟩)
    · have hk3 := hk
      have ea0 := (hF.done 1 (23, SP.is (.agg LP.toArray)) (by rw [hD]; rfl) (ready_dep hk 1 (by kernel_rfl)))
      have ea1 := (hF.done 2 (24, SP.is (.agg (vB x).toArray)) (by rw [hD]; rfl) (ready_dep hk 2 (by kernel_rfl)))
      have ea2 := (hF.done 3 (25, SP.is (.agg (vB y).toArray)) (by rw [hD]; rfl) (ready_dep hk 3 (by kernel_rfl)))
      refine wpOp_plain rfl rfl (wp_fcall_v 35 #[.agg LP.toArray, .agg (vB x).toArray, .agg (vB y).toArray] rfl rfl (by show [ac.eval (.tmp 23), ac.eval (.tmp 24), ac.eval (.tmp 25)] = _; rw [show ac.eval (.tmp 23) = .agg LP.toArray from ea0, show ac.eval (.tmp 24) = .agg (vB x).toArray from ea1, show ac.eval (.tmp 25) = .agg (vB y).toArray from ea2]) (by go_simp) (((show Calls Tryd.prog 35 #[.agg LP.toArray, .agg (vB x).toArray, .agg (vB y).toArray] W _ from HKf.out W)).mono ?_))
      rintro e W2 ⟨rfl, hB⟩
      exact ⟨_, rfl, ((hF.world hB).put 4 26 (SP.is (.string (lKt t x y))) (.string (lKt t x y)) (by rw [hD]; rfl) rfl (by rw [hD]; rfl) (by rw [hsz]; decide) (by rw [hl]; decide)), hb1.trans (hB.mono hb1.size), Row.below rp hB (Row.lt rp), Row.below r6 hB (Row.lt r6), Row.below r7 hB (Row.lt r7), Row.below r8 hB (Row.lt r8), hG.below hB, hK.below hB⟩
    · exact absurd rfl hne
    · exact absurd (ready_dep hk 5 (by kernel_rfl)) hnl
    · exact absurd (ready_dep hk 5 (by kernel_rfl)) hnl
    · exact absurd (hdn 6 (ready_dep hk 6 (by kernel_rfl)) 5 (by kernel_rfl)) hnl
    · exact absurd (hdn 7 (ready_dep hk 7 (by kernel_rfl)) 5 (by kernel_rfl)) hnl
  · clear ha0 hb1 rp r6 r7 r8 hG hK
    intro listed ac W hl hI hdn hk
    replace hl : listed.size = 10 := hl
    obtain ⟨hF, hb1, rp, r6, r7, r8, hG, hK⟩ := hI
    have eb1 := (hF.done 0 (22, SP.is (.agg LP.toArray)) (by rw [hD]; rfl) (ready_dep hk 0 (by kernel_rfl)))
    have eb2 := (hF.done 4 (26, SP.is (.string (lKt t x y))) (by rw [hD]; rfl) (ready_dep hk 4 (by kernel_rfl)))
    have hns8 : ¬ listed.getD 8 false = true := fun h => not_yet hk (hdn 6 (hdn 8 h 6 (by kernel_rfl)) 5 (by kernel_rfl))
    refine wpOp_plain rfl rfl (wp_fcall_v 33 #[.agg LP.toArray, .string (lKt t x y)] rfl rfl (by show [ac.eval (.tmp 22), ac.eval (.tmp 26)] = _; rw [show ac.eval (.tmp 22) = .agg LP.toArray from eb1, show ac.eval (.tmp 26) = .string (lKt t x y) from eb2]) (by go_simp) ((HAA.out W hG).mono ?_))
    rintro e W2 ⟨rfl, hG2, hK2⟩
    have hT : Fp D a0 listed ac W2 := hF.turn (by rw [hD]; simp only [List.forall_mem_cons, List.not_mem_nil, false_implies, implies_true, and_true]; exact ⟨fun _ h => h, fun _ h => h, fun _ h => h, fun _ h => h, fun _ h => h, fun _ h => h, fun _ h => h, fun _ h => h, fun _ h => h, fun _ h => h⟩)
    exact ⟨_, rfl, (hT.put 5 27 (SP.is (.tuple #[.agg LA.toArray, .int .i64 0])) (_) (by rw [hD]; rfl) rfl (by rw [hD]; rfl) (by rw [hsz]; decide) (by rw [hl]; decide)), Nat.le_trans hb1.size hK2.size, hK2.row _ _ _ (by decide) rp, hK2.row _ _ _ (by decide) r6, hK2.row _ _ _ (by decide) r7, (by rw [getD_set _ _ _ (by decide), if_neg hns8]; exact hK2.row _ _ _ (by decide) r8), hG2, hK.trans hK2⟩
  · clear ha0 hb1 rp r6 r7 r8 hG hK
    intro listed ac W k hl hJ hdn hk hne hyl
    replace hl : listed.size = 10 := hl
    obtain ⟨hF, hS, rp, r6, r7, r8, hG, hK⟩ := hJ
    have hk1 : k < 10 := List.mem_range.1 (List.mem_filter.1 hk).1
    rcases (show k = 0 ∨ k = 1 ∨ k = 2 ∨ k = 3 ∨ k = 4 ∨ k = 5 ∨ k = 6 ∨ k = 7 ∨ k = 8 ∨ k = 9 by omega) with rfl | rfl | rfl | rfl | rfl | rfl | rfl | rfl | rfl | rfl
    · exact absurd (hdn 5 hyl 0 (by kernel_rfl)) (not_yet hk)
    · exact absurd (hdn 4 (hdn 5 hyl 4 (by kernel_rfl)) 1 (by kernel_rfl)) (not_yet hk)
    · exact absurd (hdn 4 (hdn 5 hyl 4 (by kernel_rfl)) 2 (by kernel_rfl)) (not_yet hk)
    · exact absurd (hdn 4 (hdn 5 hyl 4 (by kernel_rfl)) 3 (by kernel_rfl)) (not_yet hk)
    · exact absurd (hdn 5 hyl 4 (by kernel_rfl)) (not_yet hk)
    · exact absurd rfl hne
    · have hk3 := hk
      exact wpOp_plain rfl rfl (wp_extract (.tmp 27) 0 rfl _ (hF.done 5 (27, SP.is (.tuple #[.agg LA.toArray, .int .i64 0])) (by rw [hD]; rfl) (ready_dep hk 5 (by kernel_rfl))) (.agg LA.toArray) rfl ⟨(hF.put 6 28 (SP.is (.agg LA.toArray)) (.agg LA.toArray) (by rw [hD]; rfl) rfl (by rw [hD]; rfl) (by rw [hsz]; decide) (by rw [hl]; decide)), hS, rp, r6, r7, (by rw [getD_set _ _ _ (by decide)]; exact r8), hG, hK⟩)
    · have hk3 := hk
      exact wpOp_plain rfl rfl (wp_extract (.tmp 27) 1 rfl _ (hF.done 5 (27, SP.is (.tuple #[.agg LA.toArray, .int .i64 0])) (by rw [hD]; rfl) (ready_dep hk 5 (by kernel_rfl))) (.int .i64 0) rfl ⟨(hF.put 7 29 (SP.is (.int .i64 0)) (.int .i64 0) (by rw [hD]; rfl) rfl (by rw [hD]; rfl) (by rw [hsz]; decide) (by rw [hl]; decide)), hS, rp, r6, r7, (by rw [getD_set _ _ _ (by decide)]; exact r8), hG, hK⟩)
    · have hk3 := hk
      rw [if_neg (not_yet hk)] at r8
      have hT : Fp D a0 listed ac (W.setCells b8 0 LA) := hF.turn (by rw [hD]; simp only [List.forall_mem_cons, List.not_mem_nil, false_implies, implies_true, and_true]; exact ⟨fun _ h => h, fun _ h => h, fun _ h => h, fun _ h => h, fun _ h => h, fun _ h => h, fun _ h => h, fun _ h => h, fun _ h => h, fun _ h => h⟩)
      exact wpOp_plain rfl rfl (wp_store_mid 25 (.tmp 8) (.tmp 28) rfl b8 0 LA.toArray ((hF.keep 8 (by rw [hD]; rfl)).trans zs8) (hF.done 6 (28, SP.is (.agg LA.toArray)) (by rw [hD]; rfl) (ready_dep hk 6 (by kernel_rfl))) (r8.there 0 _ (by rw [List.size_toArray, HLAN.out]; decide)) HLAJ.out HLAO.out ⟨(hT.skip 8 1000 (by rw [hD]; rfl) (by rw [hl]; decide)), (by rw [size_setCells]; exact hS), Row.setCells_other rp _ _ _ (by omega), Row.setCells_other r6 _ _ _ (by omega), Row.setCells_other r7 _ _ _ (by omega), (by rw [if_pos (getD_same (by rw [hl]; decide))]; exact r8.over HLAN.out), hG.kept r8 (by decide) (by decide) (by decide) (by decide) (fun k hk => heap_sets _ _ _ _ _ hk) (below_setCells hG.bel hwq _), Kp.kept b8 hwp hK (fun k hk => heap_sets _ _ _ _ _ hk) (below_setCells (Below.refl 0 _) (Nat.zero_le _) _).size⟩)
    · have hk3 := hk
      exact wpOp_plain rfl rfl (wp_assign_v (ac.eval (.tmp 29)) rfl rfl ⟨(hF.put 9 9 (SP.is (.int .i64 0)) (ac.eval (.tmp 29)) (by rw [hD]; rfl) ((hF.done 7 (29, SP.is (.int .i64 0)) (by rw [hD]; rfl) (ready_dep hk 7 (by kernel_rfl)))) (by rw [hD]; rfl) (by rw [hsz]; decide) (by rw [hl]; decide)), hS, rp, r6, r7, (by rw [getD_set _ _ _ (by decide)]; exact r8), hG, hK⟩)
  · clear hb1 rp r6 r7 r8 hG hK
    intro listed ac W hl hJ hr
    replace hl : listed.size = 10 := hl
    obtain ⟨hF, hS, rp, r6, r7, r8, hG, hK⟩ := hJ
    have hall := all_listed (by kernel_rfl) hl hr
    rw [if_pos (hall 8 (by decide))] at r8
    have h22 : ac.eval (.tmp 22) = .agg LP.toArray := hF.done 0 (22, SP.is (.agg LP.toArray)) (by rw [hD]; rfl) (hall 0 (by decide))
    have h23 : ac.eval (.tmp 23) = .agg LP.toArray := hF.done 1 (23, SP.is (.agg LP.toArray)) (by rw [hD]; rfl) (hall 1 (by decide))
    have h24 : ac.eval (.tmp 24) = .agg (vB x).toArray := hF.done 2 (24, SP.is (.agg (vB x).toArray)) (by rw [hD]; rfl) (hall 2 (by decide))
    have h25 : ac.eval (.tmp 25) = .agg (vB y).toArray := hF.done 3 (25, SP.is (.agg (vB y).toArray)) (by rw [hD]; rfl) (hall 3 (by decide))
    have h26 : ac.eval (.tmp 26) = .string (lKt t x y) := hF.done 4 (26, SP.is (.string (lKt t x y))) (by rw [hD]; rfl) (hall 4 (by decide))
    have h27 : ac.eval (.tmp 27) = .tuple #[.agg LA.toArray, .int .i64 0] := hF.done 5 (27, SP.is (.tuple #[.agg LA.toArray, .int .i64 0])) (by rw [hD]; rfl) (hall 5 (by decide))
    have h28 : ac.eval (.tmp 28) = .agg LA.toArray := hF.done 6 (28, SP.is (.agg LA.toArray)) (by rw [hD]; rfl) (hall 6 (by decide))
    have h29 : ac.eval (.tmp 29) = .int .i64 0 := hF.done 7 (29, SP.is (.int .i64 0)) (by rw [hD]; rfl) (hall 7 (by decide))
    have h9 : ac.eval (.tmp 9) = .int .i64 0 := hF.done 9 (9, SP.is (.int .i64 0)) (by rw [hD]; rfl) (hall 9 (by decide))
    have ea := hF.lay [(22, .agg LP.toArray), (23, .agg LP.toArray), (24, .agg (vB x).toArray), (25, .agg (vB y).toArray), (26, .string (lKt t x y)), (27, .tuple #[.agg LA.toArray, .int .i64 0]), (28, .agg LA.toArray), (29, .int .i64 0), (9, .int .i64 0)] (by rw [hD, hsz]; rfl) (by simp only [List.forall_mem_cons, List.not_mem_nil, false_implies, implies_true, and_true]; exact ⟨h22, h23, h24, h25, h26, h27, h28, h29, h9⟩)
    rw [ha0] at ea
    simp only [List.foldl_cons, List.foldl_nil, List.setIfInBounds_toArray, List.set_cons_zero, List.set_cons_succ] at ea
    clear hF hall hr hl hD zs10 zs8 zs6 zs7 ha0 hsz h22 h23 h24 h25 h26 h27 h28 h29 h9  lt_rp lt_r6 lt_r7 lt_r8
    subst ea
    have HG : Hid (Lg w0 W S (q + 1) f) := hG
    have HK : Hid (Kp w W) := hK
    have F6 : Hid (Row W b8 LA 25) := r8
    clear hG hK rp r6 r7 r8 hS hw0 hwf hwp hwq n0 n1 n2 n3 n4 n5
    go_wp2_with fail
    exact bodyPost_ret (results_rowA_tmp Tryd.results14 _ _ b8 25 LA (.int .i64 0) rfl rfl F6.out Tryd.underlying25 HLAI.out) rfl ⟨rfl, HG.out, HK.out⟩
theorem mv0 (w0 : World) (S q : Nat) (f : ByteArray → List (BitVec 8)) (hq : q < 999980) (t : Nat) (ht : t < 64) (fr tw : List (BitVec 8)) (h1 : fr.length = 20) (h2 : tw.length = 20) (a b : Nat) (ha : a < 2 ^ 256) (hb : b < 2 ^ 256) (haf : f (bKt t fr) = enc a) (hab : b ≤ a) (hz : fr = tw ∨ b = 0) (d : Nat) (hd : d < 2 ^ 256) (hdf : f (bKt t tw) = enc d) (LP LB : List Value) (hLP : LP = pgl S t) (hLB : LB = wq b) (w : World) (h : Lg w0 w S q f) :
    Calls Tryd.prog 28 #[.agg LP.toArray, .agg (vB fr).toArray, .agg (vB tw).toArray, .agg LB.toArray] w fun e w' => e = .returned (.tuple #[.slice none 0 0, .int .i64 0]) ∧ Lg w0 w' S (q + 1 + 1) f ∧ Kp w w' := by
  by_cases he : fr = tw
  · refine Calls.mono (mvS w0 S q f hq t ht fr tw h1 h2 a b ha hb haf hab he LP LB hLP hLB w h) ?_
    rintro e V ⟨r, hG, hK⟩
    exact ⟨r, hG.mono (by omega), hK⟩
  · exact mvZ w0 S q f hq t ht fr tw h1 h2 a b ha hb haf hab (hz.resolve_left he) he d hd hdf LP LB hLP hLB w h
set_option maxRecDepth 100000 in
set_option maxHeartbeats 4000000 in
theorem moveN (w0 : World) (S q : Nat) (f : ByteArray → List (BitVec 8)) (hq : q < 999960) (n : Nat) (hn : n < 2 ^ 256) (t : Nat) (ht : t < 64) (fr tw : List (BitVec 8)) (h1 : fr.length = 20) (h2 : tw.length = 20) (a b : Nat) (ha : a < 2 ^ 256) (hb : b < 2 ^ 256) (haf : f (bKt t fr) = enc a) (hf : f (tKt t) = 1#8 :: wB n) (hab : a < b) (LB : List Value) (hLB : LB = wq b) (w : World) (h : Lg w0 w S q f) :
    Calls Tryd.prog 9 #[.pointer (some ⟨S, 0, none⟩), .int .i64 (t : Int), .agg (vB fr).toArray, .agg (vB tw).toArray, .agg LB.toArray] w fun e w' => e = .returned (.int .i64 85) ∧ Lg w0 w' S (q + 2) f ∧ Kp w w' := by
  obtain ⟨LP, hLP⟩ : ∃ L : List Value, L = pgl S t := ⟨_, rfl⟩
  obtain ⟨LT, hLT⟩ : ∃ L : List Value, L = tkl true false n := ⟨_, rfl⟩
  have HLPE : Hid (LP = pgl S t) := hLP
  have HLPI : Hid ((Tryd.prog.info? 58).map (·.size) = some LP.length) := by show _ = _; rw [hLP]; exact info_pgl S t
  have HLPJ : Hid ((Tryd.prog.info? 58).map (·.size) = some LP.toArray.size) := by show _ = _; rw [List.size_toArray, hLP]; exact info_pgl S t
  have HLPN : Hid (LP.length = zP.length) := by show _ = _; rw [hLP]; exact rfl
  have HLPO : Hid (LP.toArray.all (·.oneCell') = true) := by show _ = true; rw [hLP]; exact pgl_one S t
  have HLTE : Hid (LT = tkl true false n) := hLT
  have HLTI : Hid ((Tryd.prog.info? 44).map (·.size) = some LT.length) := by show _ = _; rw [hLT]; exact info_tkl _ _ _
  have HLTJ : Hid ((Tryd.prog.info? 44).map (·.size) = some LT.toArray.size) := by show _ = _; rw [List.size_toArray, hLT]; exact info_tkl _ _ _
  have HLTN : Hid (LT.length = zK.length) := by show _ = _; rw [hLT]; exact tkl_len _ _ _
  have HLTO : Hid (LT.toArray.all (·.oneCell') = true) := by show _ = true; rw [hLT]; exact tkl_one _ _ _
  have HLBE : Hid (LB = wq b) := hLB
  have HLBI : Hid ((Tryd.prog.info? 25).map (·.size) = some LB.length) := by show _ = _; rw [hLB]; exact info_wq _
  have HLBJ : Hid ((Tryd.prog.info? 25).map (·.size) = some LB.toArray.size) := by show _ = _; rw [List.size_toArray, hLB]; exact info_wq _
  have HLBN : Hid (LB.length = zW.length) := by show _ = _; rw [hLB]; exact wq_len _
  have HLBO : Hid (LB.toArray.all (·.oneCell') = true) := by show _ = true; rw [hLB]; exact wq_one _
  have HMV : Hid (∀ W, Lg w0 W S (q + 1) f → _) := fun W hW => mvN w0 S (q + 1) f (by omega) t ht fr tw h1 h2 a b ha hb haf hab LP LB hLP hLB W hW
  have HIf : Hid ((Tryd.prog.info? 33).map (·.size) = some (vB fr).length) := info_adr h1
  have HIt : Hid ((Tryd.prog.info? 33).map (·.size) = some (vB tw).length) := info_adr h2
  have HAR : Hid (∀ W, Lg w0 W S q f → _) := fun W hW => askRG w0 S q f (by omega) t ht n hn hf LP LT hLP hLT W hW
  have HG : Hid (Lg w0 w S q f) := h
  clear hLP hLT hLB h1 h2 hq hn hf ht ha hb haf hab h 
  go_enter Tryd.func9, Tryd.ntmps9
  go_wp2_with (first
    | (refine wpList_boxG 33 rfl (.tmp 2) rfl (vB fr) rfl ?_; intro X0 q1 q2 q3; have Q0 : Hid (Row X0 _ (vB fr) 33) := q1; have B0 : Hid (Below _ _ X0) := q2; clear q1 q2 q3; simp only [Act.put, List.setIfInBounds_toArray, List.set_cons_zero, List.set_cons_succ])
    | (refine wpList_boxG 33 rfl (.tmp 3) rfl (vB tw) rfl ?_; intro X1 q1 q2 q3; have Q1 : Hid (Row X1 _ (vB tw) 33) := q1; have B1 : Hid (Below _ _ X1) := q2; clear q1 q2 q3; simp only [Act.put, List.setIfInBounds_toArray, List.set_cons_zero, List.set_cons_succ])
    | (refine wpList_boxG 25 rfl (.tmp 4) rfl LB rfl ?_; intro X2 q1 q2 q3; have Q2 : Hid (Row X2 _ LB 25) := q1; have B2 : Hid (Below _ _ X2) := q2; clear q1 q2 q3; simp only [Act.put, List.setIfInBounds_toArray, List.set_cons_zero, List.set_cons_succ]))
  obtain ⟨b7, hb7⟩ : ∃ b, b = w.heap.size := ⟨_, rfl⟩
  obtain ⟨b8, hb8⟩ : ∃ b, b = X0.heap.size := ⟨_, rfl⟩
  obtain ⟨b9, hb9⟩ : ∃ b, b = X1.heap.size := ⟨_, rfl⟩
  have c00 := B0.out
  have c01 := c00.trans (B1.out.mono c00.size)
  have c02 := c01.trans (B2.out.mono c01.size)
  have c11 := B1.out
  have c12 := c11.trans (B2.out.mono c11.size)
  have c22 := B2.out
  have R7 : Hid (Row X2 b7 (vB fr) 33) := by rw [hb7]; exact Row.below Q0.out c12 Q0.out.lt
  have HWb7 : Hid (w.heap.size ≤ b7) := by show _ ≤ _; rw [hb7]; exact Nat.le_refl _
  have R8 : Hid (Row X2 b8 (vB tw) 33) := by rw [hb8]; exact Row.below Q1.out c22 Q1.out.lt
  have HWb8 : Hid (w.heap.size ≤ b8) := by show _ ≤ _; rw [hb8]; exact c00.size
  have R9 : Hid (Row X2 b9 LB 25) := by rw [hb9]; exact Q2.out
  have HWb9 : Hid (w.heap.size ≤ b9) := by show _ ≤ _; rw [hb9]; exact c01.size
  have Nb7b8 : Hid (b7 ≠ b8) := by show _ ≠ _; have := Q0.out.lt; rw [hb7, hb8]; omega
  have Nb7b9 : Hid (b7 ≠ b9) := by show _ ≠ _; have := Q0.out.lt; rw [hb7, hb9]; have := c11.size; omega
  have Nb8b9 : Hid (b8 ≠ b9) := by show _ ≠ _; have := Q1.out.lt; rw [hb8, hb9]; omega
  have BX : Hid (Below w.heap.size w X2) := c02
  rw [← hb7, ← hb8, ← hb9]
  clear hb7 hb8 hb9 c00 c01 c02 c11 c12 c22 Q0 B0 Q1 B1 Q2 B2
  replace HG : Hid (Lg w0 X2 S q f) := HG.out.be BX.out
  have HK : Hid (Kp w X2) := Kp.of_below BX.out
  clear BX
  refine Calls.mono (HAR.out X2 HG.out) ?_
  rintro e V ⟨rfl, hG, hK⟩
  replace R7 : Hid (Row V b7 (vB fr) 33) := hK.row _ _ _ (by decide) R7.out
  replace R8 : Hid (Row V b8 (vB tw) 33) := hK.row _ _ _ (by decide) R8.out
  replace R9 : Hid (Row V b9 LB 25) := hK.row _ _ _ (by decide) R9.out
  replace HG : Hid (Lg w0 V S (q + 1) f) := hG
  replace HK : Hid (Kp w V) := HK.out.trans hK
  clear hG hK HAR
  go_upto_region 2 with (first
    | (refine wpList_allocP rfl rfl ?_; intro XP q1 q2 q3; have RP1 : Hid (Row XP V.heap.size zP 58) := q1; have BP : Hid (Below V.heap.size V XP) := q2; have NE12 : Hid (XP.heap.size ≠ V.heap.size) := (by show _ ≠ _; rw [q3]; omega); clear q1 q2 q3; simp only [Act.put, List.setIfInBounds_toArray, List.set_cons_zero, List.set_cons_succ])
    | (refine wpList_allocK rfl rfl ?_; intro XK q1 q2 q3; have RK1 : Hid (Row XK XP.heap.size zK 44) := q1; have BK : Hid (Below XP.heap.size XP XK) := q2; have RP2 : Hid (Row XK V.heap.size zP 58) := Row.below RP1.out q2 RP1.out.lt; clear q1 q2 q3; simp only [Act.put, List.setIfInBounds_toArray, List.set_cons_zero, List.set_cons_succ])
    | (refine wpList_storeL rfl 58 (.tmp 11) (.tmp 19) rfl V.heap.size LP zP 58 rfl rfl RP2.out HLPN.out HLPI.out HLPO.out ?_; intro YP q1 q2; have HYP : Hid (YP = _) := q1; have RYP : Hid (Row YP V.heap.size LP 58) := q2; have RK2 : Hid (Row YP XP.heap.size zK 44) := (by rw [q1]; exact Row.setCells_other RK1.out _ _ _ NE12.out); clear q1 q2; simp only [Act.put])
    | (refine wpList_storeL rfl 44 (.tmp 12) (.tmp 20) rfl XP.heap.size LT zK 44 rfl rfl RK2.out HLTN.out HLTI.out HLTO.out ?_; intro YK q1 q2; have HYK : Hid (YK = _) := q1; have RYK : Hid (Row YK XP.heap.size LT 44) := q2; clear q1 q2; simp only [Act.put]))
  obtain ⟨p1, hp1⟩ : ∃ p, p = V.heap.size := ⟨_, rfl⟩
  obtain ⟨p2, hp2⟩ : ∃ p, p = XP.heap.size := ⟨_, rfl⟩
  have b12 : Below V.heap.size V YK := by rw [HYK.out, HYP.out]; exact below_setCells (below_setCells (BP.out.trans (BK.out.mono BP.out.size)) (Nat.le_refl _) _) BP.out.size _
  have Rp1 : Hid (Row YK p1 LP 58) := by rw [HYK.out, hp1]; exact Row.setCells_other RYP.out _ _ _ (Ne.symm NE12.out)
  have Rp2 : Hid (Row YK p2 LT 44) := by rw [hp2]; exact RYK.out
  have Np1p2 : Hid (p1 ≠ p2) := by rw [hp1, hp2]; exact Ne.symm NE12.out
  have Nb7p1 : Hid (b7 ≠ p1) := by show _ ≠ _; have := R7.out.lt; rw [hp1]; omega
  have Nb7p2 : Hid (b7 ≠ p2) := by show _ ≠ _; have := R7.out.lt; have := BP.out.size; rw [hp2]; omega
  have Nb8p1 : Hid (b8 ≠ p1) := by show _ ≠ _; have := R8.out.lt; rw [hp1]; omega
  have Nb8p2 : Hid (b8 ≠ p2) := by show _ ≠ _; have := R8.out.lt; have := BP.out.size; rw [hp2]; omega
  have Nb9p1 : Hid (b9 ≠ p1) := by show _ ≠ _; have := R9.out.lt; rw [hp1]; omega
  have Nb9p2 : Hid (b9 ≠ p2) := by show _ ≠ _; have := R9.out.lt; have := BP.out.size; rw [hp2]; omega
  replace R7 : Hid (Row YK b7 (vB fr) 33) := Row.below R7.out b12 R7.out.lt
  replace R8 : Hid (Row YK b8 (vB tw) 33) := Row.below R8.out b12 R8.out.lt
  replace R9 : Hid (Row YK b9 LB 25) := Row.below R9.out b12 R9.out.lt
  replace HG : Hid (Lg w0 YK S (q + 1) f) := HG.out.be b12
  replace HK : Hid (Kp w YK) := HK.out.trans (Kp.of_below b12)
  rw [← hp1, ← hp2]
  clear hp1 hp2 b12 BP BK RP1 RP2 RK1 RK2 NE12 HYP RYP HYK RYK
  have S7 : Hid (YK.rangeAt b7 0 (vB fr)) := R7.out.all
  have S8 : Hid (YK.rangeAt b8 0 (vB tw)) := R8.out.all
  have S9 : Hid (YK.rangeAt b9 0 LB) := R9.out.all
  have S1 : Hid (YK.rangeAt p1 0 LP) := Rp1.out.all
  have HM : Hid _ := HMV.out YK HG.out
  clear HMV
  go_wp2_with (first
    | (refine wpList_load_w rfl 58 (.tmp 11) rfl p1 0 rfl LP _ S1.out Tryd.underlying58 rfl HLPI.out ?_; simp only [Act.put, List.setIfInBounds_toArray, List.set_cons_zero, List.set_cons_succ])
    | (refine wpList_load_w rfl 33 (.tmp 7) rfl b7 0 rfl (vB fr) _ S7.out Tryd.underlying33 rfl HIf.out ?_; simp only [Act.put, List.setIfInBounds_toArray, List.set_cons_zero, List.set_cons_succ])
    | (refine wpList_load_w rfl 33 (.tmp 8) rfl b8 0 rfl (vB tw) _ S8.out Tryd.underlying33 rfl HIt.out ?_; simp only [Act.put, List.setIfInBounds_toArray, List.set_cons_zero, List.set_cons_succ])
    | (refine wpList_load_w rfl 25 (.tmp 9) rfl b9 0 rfl LB _ S9.out Tryd.underlying25 rfl HLBI.out ?_; simp only [Act.put, List.setIfInBounds_toArray, List.set_cons_zero, List.set_cons_succ]))
  refine Calls.mono HM.out ?_
  rintro e V2 ⟨rfl, hG, hK⟩
  have HG2 : Hid (Lg w0 V2 S (q + 1 + 1) f) := hG
  have HK2 : Hid (Kp w V2) := HK.out.trans hK
  clear hG hK HM
  go_wp2_with fail
  go_ret
  exact ⟨rfl, HG2.out, HK2.out⟩
set_option maxRecDepth 100000 in
set_option maxHeartbeats 4000000 in
theorem move0 (w0 : World) (S q : Nat) (f : ByteArray → List (BitVec 8)) (hq : q < 999960) (n : Nat) (hn : n < 2 ^ 256) (t : Nat) (ht : t < 64) (fr tw : List (BitVec 8)) (h1 : fr.length = 20) (h2 : tw.length = 20) (a b : Nat) (ha : a < 2 ^ 256) (hb : b < 2 ^ 256) (haf : f (bKt t fr) = enc a) (hf : f (tKt t) = 1#8 :: wB n) (hab : b ≤ a) (hz : fr = tw ∨ b = 0) (d : Nat) (hd : d < 2 ^ 256) (hdf : f (bKt t tw) = enc d) (LB : List Value) (hLB : LB = wq b) (w : World) (h : Lg w0 w S q f) :
    Calls Tryd.prog 9 #[.pointer (some ⟨S, 0, none⟩), .int .i64 (t : Int), .agg (vB fr).toArray, .agg (vB tw).toArray, .agg LB.toArray] w fun e w' => e = .returned (.int .i64 0) ∧ Lg w0 w' S (q + 3) f ∧ Kp w w' := by
  obtain ⟨LP, hLP⟩ : ∃ L : List Value, L = pgl S t := ⟨_, rfl⟩
  obtain ⟨LT, hLT⟩ : ∃ L : List Value, L = tkl true false n := ⟨_, rfl⟩
  have HLPE : Hid (LP = pgl S t) := hLP
  have HLPI : Hid ((Tryd.prog.info? 58).map (·.size) = some LP.length) := by show _ = _; rw [hLP]; exact info_pgl S t
  have HLPJ : Hid ((Tryd.prog.info? 58).map (·.size) = some LP.toArray.size) := by show _ = _; rw [List.size_toArray, hLP]; exact info_pgl S t
  have HLPN : Hid (LP.length = zP.length) := by show _ = _; rw [hLP]; exact rfl
  have HLPO : Hid (LP.toArray.all (·.oneCell') = true) := by show _ = true; rw [hLP]; exact pgl_one S t
  have HLTE : Hid (LT = tkl true false n) := hLT
  have HLTI : Hid ((Tryd.prog.info? 44).map (·.size) = some LT.length) := by show _ = _; rw [hLT]; exact info_tkl _ _ _
  have HLTJ : Hid ((Tryd.prog.info? 44).map (·.size) = some LT.toArray.size) := by show _ = _; rw [List.size_toArray, hLT]; exact info_tkl _ _ _
  have HLTN : Hid (LT.length = zK.length) := by show _ = _; rw [hLT]; exact tkl_len _ _ _
  have HLTO : Hid (LT.toArray.all (·.oneCell') = true) := by show _ = true; rw [hLT]; exact tkl_one _ _ _
  have HLBE : Hid (LB = wq b) := hLB
  have HLBI : Hid ((Tryd.prog.info? 25).map (·.size) = some LB.length) := by show _ = _; rw [hLB]; exact info_wq _
  have HLBJ : Hid ((Tryd.prog.info? 25).map (·.size) = some LB.toArray.size) := by show _ = _; rw [List.size_toArray, hLB]; exact info_wq _
  have HLBN : Hid (LB.length = zW.length) := by show _ = _; rw [hLB]; exact wq_len _
  have HLBO : Hid (LB.toArray.all (·.oneCell') = true) := by show _ = true; rw [hLB]; exact wq_one _
  have HMV : Hid (∀ W, Lg w0 W S (q + 1) f → _) := fun W hW => mv0 w0 S (q + 1) f (by omega) t ht fr tw h1 h2 a b ha hb haf hab hz d hd hdf LP LB hLP hLB W hW
  have HLL : Hid (∀ W, Lg w0 W S (q + 1 + 1 + 1) f → _) := fun W hW => layLG0 w0 S (q + 1 + 1 + 1) f LP W hW
  have HIf : Hid ((Tryd.prog.info? 33).map (·.size) = some (vB fr).length) := info_adr h1
  have HIt : Hid ((Tryd.prog.info? 33).map (·.size) = some (vB tw).length) := info_adr h2
  have HAR : Hid (∀ W, Lg w0 W S q f → _) := fun W hW => askRG w0 S q f (by omega) t ht n hn hf LP LT hLP hLT W hW
  have HG : Hid (Lg w0 w S q f) := h
  clear hLP hLT hLB h1 h2 hq hn hf ht ha hb haf hab h hz hd hdf
  go_enter Tryd.func9, Tryd.ntmps9
  go_wp2_with (first
    | (refine wpList_boxG 33 rfl (.tmp 2) rfl (vB fr) rfl ?_; intro X0 q1 q2 q3; have Q0 : Hid (Row X0 _ (vB fr) 33) := q1; have B0 : Hid (Below _ _ X0) := q2; clear q1 q2 q3; simp only [Act.put, List.setIfInBounds_toArray, List.set_cons_zero, List.set_cons_succ])
    | (refine wpList_boxG 33 rfl (.tmp 3) rfl (vB tw) rfl ?_; intro X1 q1 q2 q3; have Q1 : Hid (Row X1 _ (vB tw) 33) := q1; have B1 : Hid (Below _ _ X1) := q2; clear q1 q2 q3; simp only [Act.put, List.setIfInBounds_toArray, List.set_cons_zero, List.set_cons_succ])
    | (refine wpList_boxG 25 rfl (.tmp 4) rfl LB rfl ?_; intro X2 q1 q2 q3; have Q2 : Hid (Row X2 _ LB 25) := q1; have B2 : Hid (Below _ _ X2) := q2; clear q1 q2 q3; simp only [Act.put, List.setIfInBounds_toArray, List.set_cons_zero, List.set_cons_succ]))
  obtain ⟨b7, hb7⟩ : ∃ b, b = w.heap.size := ⟨_, rfl⟩
  obtain ⟨b8, hb8⟩ : ∃ b, b = X0.heap.size := ⟨_, rfl⟩
  obtain ⟨b9, hb9⟩ : ∃ b, b = X1.heap.size := ⟨_, rfl⟩
  have c00 := B0.out
  have c01 := c00.trans (B1.out.mono c00.size)
  have c02 := c01.trans (B2.out.mono c01.size)
  have c11 := B1.out
  have c12 := c11.trans (B2.out.mono c11.size)
  have c22 := B2.out
  have R7 : Hid (Row X2 b7 (vB fr) 33) := by rw [hb7]; exact Row.below Q0.out c12 Q0.out.lt
  have HWb7 : Hid (w.heap.size ≤ b7) := by show _ ≤ _; rw [hb7]; exact Nat.le_refl _
  have R8 : Hid (Row X2 b8 (vB tw) 33) := by rw [hb8]; exact Row.below Q1.out c22 Q1.out.lt
  have HWb8 : Hid (w.heap.size ≤ b8) := by show _ ≤ _; rw [hb8]; exact c00.size
  have R9 : Hid (Row X2 b9 LB 25) := by rw [hb9]; exact Q2.out
  have HWb9 : Hid (w.heap.size ≤ b9) := by show _ ≤ _; rw [hb9]; exact c01.size
  have Nb7b8 : Hid (b7 ≠ b8) := by show _ ≠ _; have := Q0.out.lt; rw [hb7, hb8]; omega
  have Nb7b9 : Hid (b7 ≠ b9) := by show _ ≠ _; have := Q0.out.lt; rw [hb7, hb9]; have := c11.size; omega
  have Nb8b9 : Hid (b8 ≠ b9) := by show _ ≠ _; have := Q1.out.lt; rw [hb8, hb9]; omega
  have BX : Hid (Below w.heap.size w X2) := c02
  rw [← hb7, ← hb8, ← hb9]
  clear hb7 hb8 hb9 c00 c01 c02 c11 c12 c22 Q0 B0 Q1 B1 Q2 B2
  replace HG : Hid (Lg w0 X2 S q f) := HG.out.be BX.out
  have HK : Hid (Kp w X2) := Kp.of_below BX.out
  clear BX
  refine Calls.mono (HAR.out X2 HG.out) ?_
  rintro e V ⟨rfl, hG, hK⟩
  replace R7 : Hid (Row V b7 (vB fr) 33) := hK.row _ _ _ (by decide) R7.out
  replace R8 : Hid (Row V b8 (vB tw) 33) := hK.row _ _ _ (by decide) R8.out
  replace R9 : Hid (Row V b9 LB 25) := hK.row _ _ _ (by decide) R9.out
  replace HG : Hid (Lg w0 V S (q + 1) f) := hG
  replace HK : Hid (Kp w V) := HK.out.trans hK
  clear hG hK HAR
  go_upto_region 2 with (first
    | (refine wpList_allocP rfl rfl ?_; intro XP q1 q2 q3; have RP1 : Hid (Row XP V.heap.size zP 58) := q1; have BP : Hid (Below V.heap.size V XP) := q2; have NE12 : Hid (XP.heap.size ≠ V.heap.size) := (by show _ ≠ _; rw [q3]; omega); clear q1 q2 q3; simp only [Act.put, List.setIfInBounds_toArray, List.set_cons_zero, List.set_cons_succ])
    | (refine wpList_allocK rfl rfl ?_; intro XK q1 q2 q3; have RK1 : Hid (Row XK XP.heap.size zK 44) := q1; have BK : Hid (Below XP.heap.size XP XK) := q2; have RP2 : Hid (Row XK V.heap.size zP 58) := Row.below RP1.out q2 RP1.out.lt; clear q1 q2 q3; simp only [Act.put, List.setIfInBounds_toArray, List.set_cons_zero, List.set_cons_succ])
    | (refine wpList_storeL rfl 58 (.tmp 11) (.tmp 19) rfl V.heap.size LP zP 58 rfl rfl RP2.out HLPN.out HLPI.out HLPO.out ?_; intro YP q1 q2; have HYP : Hid (YP = _) := q1; have RYP : Hid (Row YP V.heap.size LP 58) := q2; have RK2 : Hid (Row YP XP.heap.size zK 44) := (by rw [q1]; exact Row.setCells_other RK1.out _ _ _ NE12.out); clear q1 q2; simp only [Act.put])
    | (refine wpList_storeL rfl 44 (.tmp 12) (.tmp 20) rfl XP.heap.size LT zK 44 rfl rfl RK2.out HLTN.out HLTI.out HLTO.out ?_; intro YK q1 q2; have HYK : Hid (YK = _) := q1; have RYK : Hid (Row YK XP.heap.size LT 44) := q2; clear q1 q2; simp only [Act.put]))
  obtain ⟨p1, hp1⟩ : ∃ p, p = V.heap.size := ⟨_, rfl⟩
  obtain ⟨p2, hp2⟩ : ∃ p, p = XP.heap.size := ⟨_, rfl⟩
  have b12 : Below V.heap.size V YK := by rw [HYK.out, HYP.out]; exact below_setCells (below_setCells (BP.out.trans (BK.out.mono BP.out.size)) (Nat.le_refl _) _) BP.out.size _
  have Rp1 : Hid (Row YK p1 LP 58) := by rw [HYK.out, hp1]; exact Row.setCells_other RYP.out _ _ _ (Ne.symm NE12.out)
  have Rp2 : Hid (Row YK p2 LT 44) := by rw [hp2]; exact RYK.out
  have Np1p2 : Hid (p1 ≠ p2) := by rw [hp1, hp2]; exact Ne.symm NE12.out
  have Nb7p1 : Hid (b7 ≠ p1) := by show _ ≠ _; have := R7.out.lt; rw [hp1]; omega
  have Nb7p2 : Hid (b7 ≠ p2) := by show _ ≠ _; have := R7.out.lt; have := BP.out.size; rw [hp2]; omega
  have Nb8p1 : Hid (b8 ≠ p1) := by show _ ≠ _; have := R8.out.lt; rw [hp1]; omega
  have Nb8p2 : Hid (b8 ≠ p2) := by show _ ≠ _; have := R8.out.lt; have := BP.out.size; rw [hp2]; omega
  have Nb9p1 : Hid (b9 ≠ p1) := by show _ ≠ _; have := R9.out.lt; rw [hp1]; omega
  have Nb9p2 : Hid (b9 ≠ p2) := by show _ ≠ _; have := R9.out.lt; have := BP.out.size; rw [hp2]; omega
  replace R7 : Hid (Row YK b7 (vB fr) 33) := Row.below R7.out b12 R7.out.lt
  replace R8 : Hid (Row YK b8 (vB tw) 33) := Row.below R8.out b12 R8.out.lt
  replace R9 : Hid (Row YK b9 LB 25) := Row.below R9.out b12 R9.out.lt
  replace HG : Hid (Lg w0 YK S (q + 1) f) := HG.out.be b12
  replace HK : Hid (Kp w YK) := HK.out.trans (Kp.of_below b12)
  rw [← hp1, ← hp2]
  clear hp1 hp2 b12 BP BK RP1 RP2 RK1 RK2 NE12 HYP RYP HYK RYK
  have S7 : Hid (YK.rangeAt b7 0 (vB fr)) := R7.out.all
  have S8 : Hid (YK.rangeAt b8 0 (vB tw)) := R8.out.all
  have S9 : Hid (YK.rangeAt b9 0 LB) := R9.out.all
  have S1 : Hid (YK.rangeAt p1 0 LP) := Rp1.out.all
  have HM : Hid _ := HMV.out YK HG.out
  clear HMV
  go_wp2_with (first
    | (refine wpList_load_w rfl 58 (.tmp 11) rfl p1 0 rfl LP _ S1.out Tryd.underlying58 rfl HLPI.out ?_; simp only [Act.put, List.setIfInBounds_toArray, List.set_cons_zero, List.set_cons_succ])
    | (refine wpList_load_w rfl 33 (.tmp 7) rfl b7 0 rfl (vB fr) _ S7.out Tryd.underlying33 rfl HIf.out ?_; simp only [Act.put, List.setIfInBounds_toArray, List.set_cons_zero, List.set_cons_succ])
    | (refine wpList_load_w rfl 33 (.tmp 8) rfl b8 0 rfl (vB tw) _ S8.out Tryd.underlying33 rfl HIt.out ?_; simp only [Act.put, List.setIfInBounds_toArray, List.set_cons_zero, List.set_cons_succ])
    | (refine wpList_load_w rfl 25 (.tmp 9) rfl b9 0 rfl LB _ S9.out Tryd.underlying25 rfl HLBI.out ?_; simp only [Act.put, List.setIfInBounds_toArray, List.set_cons_zero, List.set_cons_succ]))
  refine Calls.mono HM.out ?_
  rintro e V2 ⟨rfl, hG, hK⟩
  have HK2 : Hid (Kp w V2) := HK.out.trans hK
  have T1 : Hid (V2.rangeAt p1 0 LP) := (hK.row _ _ _ (by decide) Rp1.out).all
  have HL2 : Hid _ := HLL.out V2 hG
  clear hG hK HM HLL
  go_wp2_with (refine wpList_load_w rfl 58 (.tmp 11) rfl p1 0 rfl LP _ T1.out Tryd.underlying58 rfl HLPI.out ?_; simp only [Act.put, List.setIfInBounds_toArray, List.set_cons_zero, List.set_cons_succ])
  refine Calls.mono HL2.out ?_
  rintro e V3 ⟨rfl, hG, hK⟩
  have HG3 : Hid (Lg w0 V3 S (q + 1 + 1 + 1) f) := hG
  have HK3 : Hid (Kp w V3) := HK2.out.trans hK
  clear hG hK HL2
  go_wp2_with fail
  go_ret
  exact ⟨rfl, HG3.out, HK3.out⟩
set_option maxRecDepth 100000 in
set_option maxHeartbeats 4000000 in
theorem moveG (w0 : World) (S q : Nat) (f : ByteArray → List (BitVec 8)) (hq : q < 999960) (n : Nat) (hn : n < 2 ^ 256) (t : Nat) (ht : t < 64) (fr tw : List (BitVec 8)) (h1 : fr.length = 20) (h2 : tw.length = 20) (a b : Nat) (ha : a < 2 ^ 256) (hb : b < 2 ^ 256) (haf : f (bKt t fr) = enc a) (hf : f (tKt t) = 1#8 :: wB n) (f1 f2 : ByteArray → List (BitVec 8)) (hab : b ≤ a) (hb0 : b ≠ 0) (hft : fr ≠ tw) (d : Nat) (hd : d < 2 ^ 256) (hdb : d + b < 2 ^ 256) (hdf : f (bKt t tw) = enc d) (hf1 : f1 = upd f (bKt t fr) (enc (a - b))) (hf2 : f2 = upd f1 (bKt t tw) (enc (d + b))) (LB : List Value) (hLB : LB = wq b) (w : World) (h : Lg w0 w S q f) :
    Calls Tryd.prog 9 #[.pointer (some ⟨S, 0, none⟩), .int .i64 (t : Int), .agg (vB fr).toArray, .agg (vB tw).toArray, .agg LB.toArray] w fun e w' => e = .returned (.int .i64 0) ∧ Lg w0 w' S (q + 5) f2 ∧ Kp w w' := by
  obtain ⟨LP, hLP⟩ : ∃ L : List Value, L = pgl S t := ⟨_, rfl⟩
  obtain ⟨LT, hLT⟩ : ∃ L : List Value, L = tkl true false n := ⟨_, rfl⟩
  have HLPE : Hid (LP = pgl S t) := hLP
  have HLPI : Hid ((Tryd.prog.info? 58).map (·.size) = some LP.length) := by show _ = _; rw [hLP]; exact info_pgl S t
  have HLPJ : Hid ((Tryd.prog.info? 58).map (·.size) = some LP.toArray.size) := by show _ = _; rw [List.size_toArray, hLP]; exact info_pgl S t
  have HLPN : Hid (LP.length = zP.length) := by show _ = _; rw [hLP]; exact rfl
  have HLPO : Hid (LP.toArray.all (·.oneCell') = true) := by show _ = true; rw [hLP]; exact pgl_one S t
  have HLTE : Hid (LT = tkl true false n) := hLT
  have HLTI : Hid ((Tryd.prog.info? 44).map (·.size) = some LT.length) := by show _ = _; rw [hLT]; exact info_tkl _ _ _
  have HLTJ : Hid ((Tryd.prog.info? 44).map (·.size) = some LT.toArray.size) := by show _ = _; rw [List.size_toArray, hLT]; exact info_tkl _ _ _
  have HLTN : Hid (LT.length = zK.length) := by show _ = _; rw [hLT]; exact tkl_len _ _ _
  have HLTO : Hid (LT.toArray.all (·.oneCell') = true) := by show _ = true; rw [hLT]; exact tkl_one _ _ _
  have HLBE : Hid (LB = wq b) := hLB
  have HLBI : Hid ((Tryd.prog.info? 25).map (·.size) = some LB.length) := by show _ = _; rw [hLB]; exact info_wq _
  have HLBJ : Hid ((Tryd.prog.info? 25).map (·.size) = some LB.toArray.size) := by show _ = _; rw [List.size_toArray, hLB]; exact info_wq _
  have HLBN : Hid (LB.length = zW.length) := by show _ = _; rw [hLB]; exact wq_len _
  have HLBO : Hid (LB.toArray.all (·.oneCell') = true) := by show _ = true; rw [hLB]; exact wq_one _
  obtain ⟨N0, hN0⟩ : ∃ L : List Value, L = lnl (bKt t fr) (a - b) := ⟨_, rfl⟩
  obtain ⟨N1, hN1⟩ : ∃ L : List Value, L = lnl (bKt t tw) (d + b) := ⟨_, rfl⟩
  have HMV : Hid (∀ W, Lg w0 W S (q + 1) f → _) := fun W hW => mvG w0 S (q + 1) f (by omega) t ht fr tw h1 h2 a b ha hb haf hab hb0 hft d hd hdb hdf LP LB hLP hLB N0 N1 hN0 hN1 W hW
  have HLL : Hid (∀ g W, Row W g (N0 ++ N1) 65 → Lg w0 W S (q + 1 + 1 + 1) f → _) := fun g W hR hW => layLG2 w0 S (q + 1 + 1 + 1) f f1 f2 (by omega) t (bKt t fr) (bKt_key t h1) (a - b) (Nat.lt_of_le_of_lt (Nat.sub_le _ _) ha) N0 hN0 (bKt t tw) (bKt_key t h2) (d + b) hdb N1 hN1 hf1 hf2 g 2 (N0 ++ N1) (by rw [List.append_nil]; exact List.take_of_length_le (by rw [List.length_append, hN0, hN1, lnl_len, lnl_len]; decide)) LP hLP W hR hW
  have HIf : Hid ((Tryd.prog.info? 33).map (·.size) = some (vB fr).length) := info_adr h1
  have HIt : Hid ((Tryd.prog.info? 33).map (·.size) = some (vB tw).length) := info_adr h2
  have HAR : Hid (∀ W, Lg w0 W S q f → _) := fun W hW => askRG w0 S q f (by omega) t ht n hn hf LP LT hLP hLT W hW
  have HG : Hid (Lg w0 w S q f) := h
  clear hLP hLT hLB h1 h2 hq hn hf ht ha hb haf hab h hb0 hft hd hdb hdf hf1 hf2 hN0 hN1
  go_enter Tryd.func9, Tryd.ntmps9
  go_wp2_with (first
    | (refine wpList_boxG 33 rfl (.tmp 2) rfl (vB fr) rfl ?_; intro X0 q1 q2 q3; have Q0 : Hid (Row X0 _ (vB fr) 33) := q1; have B0 : Hid (Below _ _ X0) := q2; clear q1 q2 q3; simp only [Act.put, List.setIfInBounds_toArray, List.set_cons_zero, List.set_cons_succ])
    | (refine wpList_boxG 33 rfl (.tmp 3) rfl (vB tw) rfl ?_; intro X1 q1 q2 q3; have Q1 : Hid (Row X1 _ (vB tw) 33) := q1; have B1 : Hid (Below _ _ X1) := q2; clear q1 q2 q3; simp only [Act.put, List.setIfInBounds_toArray, List.set_cons_zero, List.set_cons_succ])
    | (refine wpList_boxG 25 rfl (.tmp 4) rfl LB rfl ?_; intro X2 q1 q2 q3; have Q2 : Hid (Row X2 _ LB 25) := q1; have B2 : Hid (Below _ _ X2) := q2; clear q1 q2 q3; simp only [Act.put, List.setIfInBounds_toArray, List.set_cons_zero, List.set_cons_succ]))
  obtain ⟨b7, hb7⟩ : ∃ b, b = w.heap.size := ⟨_, rfl⟩
  obtain ⟨b8, hb8⟩ : ∃ b, b = X0.heap.size := ⟨_, rfl⟩
  obtain ⟨b9, hb9⟩ : ∃ b, b = X1.heap.size := ⟨_, rfl⟩
  have c00 := B0.out
  have c01 := c00.trans (B1.out.mono c00.size)
  have c02 := c01.trans (B2.out.mono c01.size)
  have c11 := B1.out
  have c12 := c11.trans (B2.out.mono c11.size)
  have c22 := B2.out
  have R7 : Hid (Row X2 b7 (vB fr) 33) := by rw [hb7]; exact Row.below Q0.out c12 Q0.out.lt
  have HWb7 : Hid (w.heap.size ≤ b7) := by show _ ≤ _; rw [hb7]; exact Nat.le_refl _
  have R8 : Hid (Row X2 b8 (vB tw) 33) := by rw [hb8]; exact Row.below Q1.out c22 Q1.out.lt
  have HWb8 : Hid (w.heap.size ≤ b8) := by show _ ≤ _; rw [hb8]; exact c00.size
  have R9 : Hid (Row X2 b9 LB 25) := by rw [hb9]; exact Q2.out
  have HWb9 : Hid (w.heap.size ≤ b9) := by show _ ≤ _; rw [hb9]; exact c01.size
  have Nb7b8 : Hid (b7 ≠ b8) := by show _ ≠ _; have := Q0.out.lt; rw [hb7, hb8]; omega
  have Nb7b9 : Hid (b7 ≠ b9) := by show _ ≠ _; have := Q0.out.lt; rw [hb7, hb9]; have := c11.size; omega
  have Nb8b9 : Hid (b8 ≠ b9) := by show _ ≠ _; have := Q1.out.lt; rw [hb8, hb9]; omega
  have BX : Hid (Below w.heap.size w X2) := c02
  rw [← hb7, ← hb8, ← hb9]
  clear hb7 hb8 hb9 c00 c01 c02 c11 c12 c22 Q0 B0 Q1 B1 Q2 B2
  replace HG : Hid (Lg w0 X2 S q f) := HG.out.be BX.out
  have HK : Hid (Kp w X2) := Kp.of_below BX.out
  clear BX
  refine Calls.mono (HAR.out X2 HG.out) ?_
  rintro e V ⟨rfl, hG, hK⟩
  replace R7 : Hid (Row V b7 (vB fr) 33) := hK.row _ _ _ (by decide) R7.out
  replace R8 : Hid (Row V b8 (vB tw) 33) := hK.row _ _ _ (by decide) R8.out
  replace R9 : Hid (Row V b9 LB 25) := hK.row _ _ _ (by decide) R9.out
  replace HG : Hid (Lg w0 V S (q + 1) f) := hG
  replace HK : Hid (Kp w V) := HK.out.trans hK
  clear hG hK HAR
  go_upto_region 2 with (first
    | (refine wpList_allocP rfl rfl ?_; intro XP q1 q2 q3; have RP1 : Hid (Row XP V.heap.size zP 58) := q1; have BP : Hid (Below V.heap.size V XP) := q2; have NE12 : Hid (XP.heap.size ≠ V.heap.size) := (by show _ ≠ _; rw [q3]; omega); clear q1 q2 q3; simp only [Act.put, List.setIfInBounds_toArray, List.set_cons_zero, List.set_cons_succ])
    | (refine wpList_allocK rfl rfl ?_; intro XK q1 q2 q3; have RK1 : Hid (Row XK XP.heap.size zK 44) := q1; have BK : Hid (Below XP.heap.size XP XK) := q2; have RP2 : Hid (Row XK V.heap.size zP 58) := Row.below RP1.out q2 RP1.out.lt; clear q1 q2 q3; simp only [Act.put, List.setIfInBounds_toArray, List.set_cons_zero, List.set_cons_succ])
    | (refine wpList_storeL rfl 58 (.tmp 11) (.tmp 19) rfl V.heap.size LP zP 58 rfl rfl RP2.out HLPN.out HLPI.out HLPO.out ?_; intro YP q1 q2; have HYP : Hid (YP = _) := q1; have RYP : Hid (Row YP V.heap.size LP 58) := q2; have RK2 : Hid (Row YP XP.heap.size zK 44) := (by rw [q1]; exact Row.setCells_other RK1.out _ _ _ NE12.out); clear q1 q2; simp only [Act.put])
    | (refine wpList_storeL rfl 44 (.tmp 12) (.tmp 20) rfl XP.heap.size LT zK 44 rfl rfl RK2.out HLTN.out HLTI.out HLTO.out ?_; intro YK q1 q2; have HYK : Hid (YK = _) := q1; have RYK : Hid (Row YK XP.heap.size LT 44) := q2; clear q1 q2; simp only [Act.put]))
  obtain ⟨p1, hp1⟩ : ∃ p, p = V.heap.size := ⟨_, rfl⟩
  obtain ⟨p2, hp2⟩ : ∃ p, p = XP.heap.size := ⟨_, rfl⟩
  have b12 : Below V.heap.size V YK := by rw [HYK.out, HYP.out]; exact below_setCells (below_setCells (BP.out.trans (BK.out.mono BP.out.size)) (Nat.le_refl _) _) BP.out.size _
  have Rp1 : Hid (Row YK p1 LP 58) := by rw [HYK.out, hp1]; exact Row.setCells_other RYP.out _ _ _ (Ne.symm NE12.out)
  have Rp2 : Hid (Row YK p2 LT 44) := by rw [hp2]; exact RYK.out
  have Np1p2 : Hid (p1 ≠ p2) := by rw [hp1, hp2]; exact Ne.symm NE12.out
  have Nb7p1 : Hid (b7 ≠ p1) := by show _ ≠ _; have := R7.out.lt; rw [hp1]; omega
  have Nb7p2 : Hid (b7 ≠ p2) := by show _ ≠ _; have := R7.out.lt; have := BP.out.size; rw [hp2]; omega
  have Nb8p1 : Hid (b8 ≠ p1) := by show _ ≠ _; have := R8.out.lt; rw [hp1]; omega
  have Nb8p2 : Hid (b8 ≠ p2) := by show _ ≠ _; have := R8.out.lt; have := BP.out.size; rw [hp2]; omega
  have Nb9p1 : Hid (b9 ≠ p1) := by show _ ≠ _; have := R9.out.lt; rw [hp1]; omega
  have Nb9p2 : Hid (b9 ≠ p2) := by show _ ≠ _; have := R9.out.lt; have := BP.out.size; rw [hp2]; omega
  replace R7 : Hid (Row YK b7 (vB fr) 33) := Row.below R7.out b12 R7.out.lt
  replace R8 : Hid (Row YK b8 (vB tw) 33) := Row.below R8.out b12 R8.out.lt
  replace R9 : Hid (Row YK b9 LB 25) := Row.below R9.out b12 R9.out.lt
  replace HG : Hid (Lg w0 YK S (q + 1) f) := HG.out.be b12
  replace HK : Hid (Kp w YK) := HK.out.trans (Kp.of_below b12)
  rw [← hp1, ← hp2]
  clear hp1 hp2 b12 BP BK RP1 RP2 RK1 RK2 NE12 HYP RYP HYK RYK
  have S7 : Hid (YK.rangeAt b7 0 (vB fr)) := R7.out.all
  have S8 : Hid (YK.rangeAt b8 0 (vB tw)) := R8.out.all
  have S9 : Hid (YK.rangeAt b9 0 LB) := R9.out.all
  have S1 : Hid (YK.rangeAt p1 0 LP) := Rp1.out.all
  have HM : Hid _ := HMV.out YK HG.out
  clear HMV
  go_wp2_with (first
    | (refine wpList_load_w rfl 58 (.tmp 11) rfl p1 0 rfl LP _ S1.out Tryd.underlying58 rfl HLPI.out ?_; simp only [Act.put, List.setIfInBounds_toArray, List.set_cons_zero, List.set_cons_succ])
    | (refine wpList_load_w rfl 33 (.tmp 7) rfl b7 0 rfl (vB fr) _ S7.out Tryd.underlying33 rfl HIf.out ?_; simp only [Act.put, List.setIfInBounds_toArray, List.set_cons_zero, List.set_cons_succ])
    | (refine wpList_load_w rfl 33 (.tmp 8) rfl b8 0 rfl (vB tw) _ S8.out Tryd.underlying33 rfl HIt.out ?_; simp only [Act.put, List.setIfInBounds_toArray, List.set_cons_zero, List.set_cons_succ])
    | (refine wpList_load_w rfl 25 (.tmp 9) rfl b9 0 rfl LB _ S9.out Tryd.underlying25 rfl HLBI.out ?_; simp only [Act.put, List.setIfInBounds_toArray, List.set_cons_zero, List.set_cons_succ]))
  refine Calls.mono HM.out ?_
  rintro e V2 ⟨g, rfl, hR, hG, hK⟩
  have HK2 : Hid (Kp w V2) := HK.out.trans hK
  have T1 : Hid (V2.rangeAt p1 0 LP) := (hK.row _ _ _ (by decide) Rp1.out).all
  have HL2 : Hid _ := HLL.out g V2 hR hG
  clear hR hG hK HM HLL
  go_wp2_with (refine wpList_load_w rfl 58 (.tmp 11) rfl p1 0 rfl LP _ T1.out Tryd.underlying58 rfl HLPI.out ?_; simp only [Act.put, List.setIfInBounds_toArray, List.set_cons_zero, List.set_cons_succ])
  refine Calls.mono HL2.out ?_
  rintro e V3 ⟨rfl, hG, hK⟩
  have HG3 : Hid (Lg w0 V3 S (q + 1 + 1 + 1 + 2) f2) := hG
  have HK3 : Hid (Kp w V3) := HK2.out.trans hK
  clear hG hK HL2
  go_wp2_with fail
  go_ret
  exact ⟨rfl, HG3.out, HK3.out⟩

end Go.Proofs.YtelioddogdcdoaaDoor
