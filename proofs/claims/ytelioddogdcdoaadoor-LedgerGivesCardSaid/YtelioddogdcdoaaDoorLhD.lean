/-
  ask, amount, laid.
-/
import Derived.Test.YtelioddogdcdoaaDoorLhC
namespace Go.Proofs.YtelioddogdcdoaaDoor
open Go Go.RowKit Go.Maps
open Sha
open Wd

set_option maxRecDepth 100000 in
set_option maxHeartbeats 4000000 in
theorem ask_g (w0 : World) (S q : Nat) (f : ByteArray → List (BitVec 8)) (hq : q < 1000000) (t : Nat) (ht : t < 64) (m : Nat) (d : List (BitVec 8)) (hd : f (tKt t) = d) (hm : d.length = m) (th pa : Bool) (a : Nat) (LP LT : List Value) (hLP : LP = pgl S t) (hLT : LT = tkl th pa a)
    (hRT : ∀ A cap W, Bw W (.slice A m cap) d → (A = none → m = 0 ∧ cap = 0) → Calls Tryd.prog 41 #[.slice A m cap] W fun e w' => e = .returned (.tuple #[.agg LT.toArray, .int .i64 0]) ∧ Below W.heap.size W w') (w : World) (h : Lg w0 w S q f) :
    Calls Tryd.prog 20 #[.pointer (some ⟨S, 0, none⟩), .int .i64 (t : Int)] w fun e w' => e = .returned (.tuple #[.agg LP.toArray, .agg LT.toArray, .int .i64 0]) ∧ Lg w0 w' S (q + 1) f ∧ Kp w w' := by
  have HLPE : Hid (LP = pgl S t) := hLP
  have HLPI : Hid ((Tryd.prog.info? 58).map (·.size) = some LP.length) := by show _ = _; rw [hLP]; exact info_pgl S t
  have HLPJ : Hid ((Tryd.prog.info? 58).map (·.size) = some LP.toArray.size) := by show _ = _; rw [List.size_toArray, hLP]; exact info_pgl S t
  have HLPN : Hid (LP.length = zP.length) := by show _ = _; rw [hLP]; exact rfl
  have HLPO : Hid (LP.toArray.all (·.oneCell') = true) := by show _ = true; rw [hLP]; exact pgl_one S t
  have HLTE : Hid (LT = tkl th pa a) := hLT
  have HLTI : Hid ((Tryd.prog.info? 44).map (·.size) = some LT.length) := by show _ = _; rw [hLT]; exact info_tkl _ _ _
  have HLTJ : Hid ((Tryd.prog.info? 44).map (·.size) = some LT.toArray.size) := by show _ = _; rw [List.size_toArray, hLT]; exact info_tkl _ _ _
  have HLTN : Hid (LT.length = zK.length) := by show _ = _; rw [hLT]; exact tkl_len _ _ _
  have HLTO : Hid (LT.toArray.all (·.oneCell') = true) := by show _ = true; rw [hLT]; exact tkl_one _ _ _
  have HOP : Hid (∀ W, Calls Tryd.prog 32 #[.pointer (some ⟨S, 0, none⟩), .int .i64 (t : Int)] W fun e w' => e = .returned (.tuple #[.agg LP.toArray, .int .i64 0]) ∧ Below W.heap.size W w') := fun W => open_t S t ht LP hLP W
  have HKY : Hid (∀ W, Calls Tryd.prog 40 #[.agg LP.toArray, .string ⟨#[116]⟩, .slice none 0 0] W fun e w' => e = .returned (.string (tKt t)) ∧ Below W.heap.size W w') := fun W => by rw [hLP]; exact keyT S t ht W
  have HGT : Hid (∀ W, Lg w0 W S q f → Calls Tryd.prog 39 #[.pointer (some ⟨S, 0, none⟩), .string (tKt t)] W fun e w' => ∃ A c, e = .returned (.tuple #[.slice A m c, .int .i64 0]) ∧ Bw w' (.slice A m c) d ∧ (A = none → m = 0 ∧ c = 0) ∧ Lg w0 w' S (q + 1) f ∧ Kp W w') := fun W hW => get_lg w0 S q f hq (tKt t) (tKt_key t) m d hd hm W hW
  have HRT : Hid _ := hRT
  have HG : Hid (Lg w0 w S q f) := h
  have HW0 : Hid (w0.heap.size ≤ w.heap.size) := h.bel.size
  clear hLP hLT hq ht hd hm hRT h
  go_enter Tryd.func20, Tryd.ntmps20
  go_wp2_with (first
    | (refine wpList_allocP rfl rfl ?_; intro X0 q1 q2 q3; have Q0 : Hid (Row X0 _ zP 58) := q1; have B0 : Hid (Below _ _ X0) := q2; clear q1 q2 q3; simp only [Act.put, List.setIfInBounds_toArray, List.set_cons_zero, List.set_cons_succ])
    | (refine wpList_allocK rfl rfl ?_; intro X1 q1 q2 q3; have Q1 : Hid (Row X1 _ zK 44) := q1; have B1 : Hid (Below _ _ X1) := q2; clear q1 q2 q3; simp only [Act.put, List.setIfInBounds_toArray, List.set_cons_zero, List.set_cons_succ]))
  obtain ⟨b4, hb4⟩ : ∃ b, b = w.heap.size := ⟨_, rfl⟩
  obtain ⟨b5, hb5⟩ : ∃ b, b = X0.heap.size := ⟨_, rfl⟩
  have c00 := B0.out
  have c01 := c00.trans (B1.out.mono c00.size)
  have c11 := B1.out
  have R4 : Hid (Row X1 b4 zP 58) := by rw [hb4]; exact Row.below Q0.out c11 Q0.out.lt
  have HWb4 : Hid (w.heap.size ≤ b4) := by show _ ≤ _; rw [hb4]; exact Nat.le_refl _
  have R5 : Hid (Row X1 b5 zK 44) := by rw [hb5]; exact Q1.out
  have HWb5 : Hid (w.heap.size ≤ b5) := by show _ ≤ _; rw [hb5]; exact c00.size
  have Nb4b5 : Hid (b4 ≠ b5) := by show _ ≠ _; have := Q0.out.lt; rw [hb4, hb5]; omega
  have BX : Hid (Below w.heap.size w X1) := c01
  rw [← hb4, ← hb5]
  clear hb4 hb5 c00 c01 c11 Q0 B0 Q1 B1
  replace HG : Hid (Lg w0 X1 S q f) := HG.out.be BX.out
  have HK : Hid (Kp w X1) := Kp.of_below BX.out
  clear BX
  refine Calls.mono (HOP.out X1) ?_
  rintro e V ⟨rfl, hB⟩
  replace R4 : Hid (Row V b4 zP 58) := Row.below R4.out hB R4.out.lt
  replace R5 : Hid (Row V b5 zK 44) := Row.below R5.out hB R5.out.lt
  replace HG : Hid (Lg w0 V S q f) := HG.out.be hB
  replace HK : Hid (Kp w V) := HK.out.trans (Kp.of_below hB)
  clear hB HOP
  obtain ⟨p7, hp7⟩ : ∃ b, b = V.heap.size := ⟨_, rfl⟩
  have HBp7 : Hid (p7 = V.heap.size) := hp7
  clear hp7
  go_upto_region 4 with (first
    | (refine wpList_allocP rfl rfl ?_; intro XY7 q1 q2 q3; have QY7 : Hid (Row XY7 _ zP 58) := q1; have BY7 : Hid (Below _ _ XY7) := q2; clear q1 q2 q3; simp only [Act.put, List.setIfInBounds_toArray, List.set_cons_zero, List.set_cons_succ])
    | (refine wpList_storeL rfl 58 (.tmp 7) (.tmp 15) rfl V.heap.size LP zP 58 rfl rfl QY7.out HLPN.out HLPI.out HLPO.out ?_; intro Y7 q1 q2; have HY7 : Hid (Y7 = _) := q1; have RY7 : Hid (Row Y7 V.heap.size LP 58) := q2; clear q1 q2; simp only [Act.put]))
  rw [← HBp7.out] at RY7 HY7
  rw [← HBp7.out]
  have cb : Below V.heap.size V Y7 := by rw [HY7.out]; exact below_setCells BY7.out (by rw [HBp7.out]; exact Nat.le_refl _) _
  have Nb4p7 : Hid (b4 ≠ p7) := by show _ ≠ _; have := R4.out.lt; rw [HBp7.out]; omega
  have Nb5p7 : Hid (b5 ≠ p7) := by show _ ≠ _; have := R5.out.lt; rw [HBp7.out]; omega
  replace R4 : Hid (Row Y7 b4 zP 58) := Row.below R4.out cb R4.out.lt
  replace R5 : Hid (Row Y7 b5 zK 44) := Row.below R5.out cb R5.out.lt
  replace HG : Hid (Lg w0 Y7 S q f) := HG.out.be cb
  replace HK : Hid (Kp w Y7) := HK.out.trans (Kp.of_below cb)
  have Rp7 : Hid (Row Y7 p7 LP 58) := RY7.out
  clear cb HY7 BY7 QY7 RY7 HBp7
  have S7 : Hid (Y7.rangeAt p7 0 LP) := Rp7.out.all
  go_wp2_with (refine wpList_load_w rfl 58 (.tmp 7) rfl p7 0 rfl LP _ S7.out Tryd.underlying58 rfl HLPI.out ?_; simp only [Act.put, List.setIfInBounds_toArray, List.set_cons_zero, List.set_cons_succ])
  refine Calls.mono (HKY.out Y7) ?_
  rintro e V2 ⟨rfl, hB⟩
  replace R4 : Hid (Row V2 b4 zP 58) := Row.below R4.out hB R4.out.lt
  replace R5 : Hid (Row V2 b5 zK 44) := Row.below R5.out hB R5.out.lt
  replace Rp7 : Hid (Row V2 p7 LP 58) := Row.below Rp7.out hB Rp7.out.lt
  replace HG : Hid (Lg w0 V2 S q f) := HG.out.be hB
  replace HK : Hid (Kp w V2) := HK.out.trans (Kp.of_below hB)
  clear hB HKY S7
  go_wp2_with fail
  refine Calls.mono (HGT.out V2 HG.out) ?_
  rintro e V3 ⟨A, cap, rfl, hb, hni, hG, hK⟩
  have HC : Hid _ := HRT.out A cap V3 hb hni
  replace R4 : Hid (Row V3 b4 zP 58) := hK.row _ _ _ (by decide) R4.out
  replace R5 : Hid (Row V3 b5 zK 44) := hK.row _ _ _ (by decide) R5.out
  replace Rp7 : Hid (Row V3 p7 LP 58) := hK.row _ _ _ (by decide) Rp7.out
  replace HG : Hid (Lg w0 V3 S (q + 1) f) := hG
  replace HK : Hid (Kp w V3) := HK.out.trans hK
  clear hb hni hG hK HRT HGT
  go_wp2_with fail
  refine Calls.mono HC.out ?_
  rintro e V4 ⟨rfl, hB⟩
  replace R4 : Hid (Row V4 b4 zP 58) := Row.below R4.out hB R4.out.lt
  replace R5 : Hid (Row V4 b5 zK 44) := Row.below R5.out hB R5.out.lt
  replace Rp7 : Hid (Row V4 p7 LP 58) := Row.below Rp7.out hB Rp7.out.lt
  replace HG : Hid (Lg w0 V4 S (q + 1) f) := HG.out.be hB
  replace HK : Hid (Kp w V4) := HK.out.trans (Kp.of_below hB)
  clear hB HC
  obtain ⟨p10, hp10⟩ : ∃ b, b = V4.heap.size := ⟨_, rfl⟩
  have HBp10 : Hid (p10 = V4.heap.size) := hp10
  clear hp10
  go_upto_region 8 with (first
    | (refine wpList_allocK rfl rfl ?_; intro XY10 q1 q2 q3; have QY10 : Hid (Row XY10 _ zK 44) := q1; have BY10 : Hid (Below _ _ XY10) := q2; clear q1 q2 q3; simp only [Act.put, List.setIfInBounds_toArray, List.set_cons_zero, List.set_cons_succ])
    | (refine wpList_storeL rfl 44 (.tmp 10) (.tmp 37) rfl V4.heap.size LT zK 44 rfl rfl QY10.out HLTN.out HLTI.out HLTO.out ?_; intro Y10 q1 q2; have HY10 : Hid (Y10 = _) := q1; have RY10 : Hid (Row Y10 V4.heap.size LT 44) := q2; clear q1 q2; simp only [Act.put]))
  rw [← HBp10.out] at RY10 HY10
  rw [← HBp10.out]
  have cb : Below V4.heap.size V4 Y10 := by rw [HY10.out]; exact below_setCells BY10.out (by rw [HBp10.out]; exact Nat.le_refl _) _
  have Nb4p10 : Hid (b4 ≠ p10) := by show _ ≠ _; have := R4.out.lt; rw [HBp10.out]; omega
  have Nb5p10 : Hid (b5 ≠ p10) := by show _ ≠ _; have := R5.out.lt; rw [HBp10.out]; omega
  have Np7p10 : Hid (p7 ≠ p10) := by show _ ≠ _; have := Rp7.out.lt; rw [HBp10.out]; omega
  replace R4 : Hid (Row Y10 b4 zP 58) := Row.below R4.out cb R4.out.lt
  replace R5 : Hid (Row Y10 b5 zK 44) := Row.below R5.out cb R5.out.lt
  replace Rp7 : Hid (Row Y10 p7 LP 58) := Row.below Rp7.out cb Rp7.out.lt
  replace HG : Hid (Lg w0 Y10 S (q + 1) f) := HG.out.be cb
  replace HK : Hid (Kp w Y10) := HK.out.trans (Kp.of_below cb)
  have Rp10 : Hid (Row Y10 p10 LT 44) := RY10.out
  clear cb HY10 BY10 QY10 RY10 HBp10
  have r4 := R4.out
  have r5 := R5.out
  have r7 := Rp7.out
  have r10 := Rp10.out
  have hG := HG.out
  have hK := HK.out
  have hb1 := hG.bel
  have n45 := Nb4b5.out
  have n47 := Nb4p7.out
  have n410 := Nb4p10.out
  have n57 := Nb5p7.out
  have n510 := Nb5p10.out
  have n710 := Np7p10.out
  have hw4 := HWb4.out
  have hw5 := HWb5.out
  have hw0 := HW0.out
  clear R4 R5 Rp7 Rp10 HG HK
  refine wp_named fun a0 ha0 => ?_
  have hsz : a0.tmps.size = 42 := by rw [ha0]; rfl
  have zs4 : a0.eval (.tmp 4) = .pointer (some ⟨b4, 0, none⟩) := by rw [ha0]; rfl
  have zs5 : a0.eval (.tmp 5) = .pointer (some ⟨b5, 0, none⟩) := by rw [ha0]; rfl
  have zs7 : a0.eval (.tmp 7) = .pointer (some ⟨p7, 0, none⟩) := by rw [ha0]; rfl
  have zs8 : a0.eval (.tmp 8) = .int .i64 0 := by rw [ha0]; rfl
  have zs10 : a0.eval (.tmp 10) = .pointer (some ⟨p10, 0, none⟩) := by rw [ha0]; rfl
  obtain ⟨D, hD⟩ : ∃ D : List (Tmp × SP), D = [(39, SP.is (.agg LP.toArray)), (40, SP.is (.agg LT.toArray)), (41, SP.is (.int .i64 0)), (1000, SP.any), (1000, SP.any), (6, SP.is (.int .i64 0))] := ⟨_, rfl⟩
  refine wp_region_down (by kernel_rfl) (fun listed ac W => listed.size = 6 ∧ Fp D a0 listed ac W ∧ Below w0.heap.size w0 W ∧ Row W p7 LP 58 ∧ Row W p10 LT 44 ∧ Row W b4 (if listed.getD 3 false = true then LP else zP) 58 ∧ Row W b5 (if listed.getD 4 false = true then LT else zK) 44 ∧ Lg w0 W S (q + 1) f ∧ Kp w W) ?_ ?_ ?_
  · exact ⟨by simp, Fp.start D a0 _ _, Below.drew hb1, Row.drew r7, Row.drew r10, (by rw [if_neg (fun h => start_no h)]; exact Row.drew r4), (by rw [if_neg (fun h => start_no h)]; exact Row.drew r5), hG.below (Below.drew (Below.refl _ _)), hK.below (Below.drew (Below.refl _ _))⟩
  · clear ha0 hb1 r7 r10 r4 r5 hG hK 
    intro listed ac W k hI hdn hk
    obtain ⟨hl, hF, hb1, r7, r10, r4, r5, hG, hK⟩ := hI
    have hk1 : k < 6 := List.mem_range.1 (List.mem_filter.1 hk).1
    have hl2 : ∀ j, (listed.setIfInBounds j true).size = 6 := fun j => by rw [Array.size_setIfInBounds]; exact hl
    rcases (show k = 0 ∨ k = 1 ∨ k = 2 ∨ k = 3 ∨ k = 4 ∨ k = 5 by omega) with rfl | rfl | rfl | rfl | rfl | rfl
    · have hk3 := hk
      exact wpOp_plain rfl rfl (wp_load_mid 58 (.tmp 7) rfl p7 0 ((hF.keep 7 (by rw [hD]; rfl)).trans zs7) LP _ r7.all Tryd.underlying58 rfl HLPI.out ⟨hl2 0, (hF.put 0 39 (SP.is (.agg LP.toArray)) (.agg LP.toArray) (by rw [hD]; rfl) rfl (by rw [hD]; rfl) (by rw [hsz]; decide) (by rw [hl]; decide)), hb1, r7, r10, (by rw [getD_set _ _ _ (by decide)]; exact r4), (by rw [getD_set _ _ _ (by decide)]; exact r5), hG, hK⟩)
    · have hk3 := hk
      exact wpOp_plain rfl rfl (wp_load_mid 44 (.tmp 10) rfl p10 0 ((hF.keep 10 (by rw [hD]; rfl)).trans zs10) LT _ r10.all Tryd.underlying44 rfl HLTI.out ⟨hl2 1, (hF.put 1 40 (SP.is (.agg LT.toArray)) (.agg LT.toArray) (by rw [hD]; rfl) rfl (by rw [hD]; rfl) (by rw [hsz]; decide) (by rw [hl]; decide)), hb1, r7, r10, (by rw [getD_set _ _ _ (by decide)]; exact r4), (by rw [getD_set _ _ _ (by decide)]; exact r5), hG, hK⟩)
    · have hk3 := hk
      exact wpOp_plain rfl rfl (wp_move_v (ac.eval (.tmp 8)) rfl rfl ⟨hl2 2, (hF.put 2 41 (SP.is (.int .i64 0)) (ac.eval (.tmp 8)) (by rw [hD]; rfl) (((hF.keep 8 (by rw [hD]; rfl)).trans zs8)) (by rw [hD]; rfl) (by rw [hsz]; decide) (by rw [hl]; decide)), hb1, r7, r10, (by rw [getD_set _ _ _ (by decide)]; exact r4), (by rw [getD_set _ _ _ (by decide)]; exact r5), hG, hK⟩)
    · have hk3 := hk
      have hno : ¬ listed.getD 3 false = true := not_yet hk
      rw [if_neg hno] at r4
      have T := r4.there 0 LP.toArray.size (by rw [List.size_toArray, HLPN.out]; decide)
      have fin := r4.over (vs := LP) HLPN.out
      have hT : Fp D a0 listed ac (W.setCells b4 0 LP) := hF.turn (by rw [hD]; simp only [List.forall_mem_cons, List.not_mem_nil, false_implies, implies_true, and_true]; exact ⟨fun _ h => h, fun _ h => h, fun _ h => h, fun _ h => h, fun _ h => h, fun _ h => h⟩)
      exact wpOp_plain rfl rfl (wp_store_mid 58 (.tmp 4) (.tmp 39) rfl b4 0 LP.toArray ((hF.keep 4 (by rw [hD]; rfl)).trans zs4) (hF.done 0 (39, SP.is (.agg LP.toArray)) (by rw [hD]; rfl) (ready_dep hk 0 (by kernel_rfl))) T HLPJ.out HLPO.out ⟨hl2 3, (hT.skip 3 1000 (by rw [hD]; rfl) (by rw [hl]; decide)), below_setCells hb1 (by omega) _, Row.setCells_other r7 _ _ _ (by omega), Row.setCells_other r10 _ _ _ (by omega), (by rw [if_pos (getD_same (by rw [hl]; decide))]; exact fin), (by rw [getD_set _ _ _ (by decide)]; exact Row.setCells_other r5 _ _ _ (by omega)), hG.kept r4 (by decide) (by decide) (by decide) (by decide) (fun k hk => heap_sets _ _ _ _ _ hk) (below_setCells hG.bel (by omega) _), Kp.kept b4 hw4 hK (fun k hk => heap_sets _ _ _ _ _ hk) (below_setCells (Below.refl 0 _) (Nat.zero_le _) _).size⟩)
    · have hk3 := hk
      have hno : ¬ listed.getD 4 false = true := not_yet hk
      rw [if_neg hno] at r5
      have T := r5.there 0 LT.toArray.size (by rw [List.size_toArray, HLTN.out]; decide)
      have fin := r5.over (vs := LT) HLTN.out
      have hT : Fp D a0 listed ac (W.setCells b5 0 LT) := hF.turn (by rw [hD]; simp only [List.forall_mem_cons, List.not_mem_nil, false_implies, implies_true, and_true]; exact ⟨fun _ h => h, fun _ h => h, fun _ h => h, fun _ h => h, fun _ h => h, fun _ h => h⟩)
      exact wpOp_plain rfl rfl (wp_store_mid 44 (.tmp 5) (.tmp 40) rfl b5 0 LT.toArray ((hF.keep 5 (by rw [hD]; rfl)).trans zs5) (hF.done 1 (40, SP.is (.agg LT.toArray)) (by rw [hD]; rfl) (ready_dep hk 1 (by kernel_rfl))) T HLTJ.out HLTO.out ⟨hl2 4, (hT.skip 4 1000 (by rw [hD]; rfl) (by rw [hl]; decide)), below_setCells hb1 (by omega) _, Row.setCells_other r7 _ _ _ (by omega), Row.setCells_other r10 _ _ _ (by omega), (by rw [getD_set _ _ _ (by decide)]; exact Row.setCells_other r4 _ _ _ (by omega)), (by rw [if_pos (getD_same (by rw [hl]; decide))]; exact fin), hG.kept r5 (by decide) (by decide) (by decide) (by decide) (fun k hk => heap_sets _ _ _ _ _ hk) (below_setCells hG.bel (by omega) _), Kp.kept b5 hw5 hK (fun k hk => heap_sets _ _ _ _ _ hk) (below_setCells (Below.refl 0 _) (Nat.zero_le _) _).size⟩)
    · have hk3 := hk
      exact wpOp_plain rfl rfl (wp_assign_v (ac.eval (.tmp 41)) rfl rfl ⟨hl2 5, (hF.put 5 6 (SP.is (.int .i64 0)) (ac.eval (.tmp 41)) (by rw [hD]; rfl) ((hF.done 2 (41, SP.is (.int .i64 0)) (by rw [hD]; rfl) (ready_dep hk 2 (by kernel_rfl)))) (by rw [hD]; rfl) (by rw [hsz]; decide) (by rw [hl]; decide)), hb1, r7, r10, (by rw [getD_set _ _ _ (by decide)]; exact r4), (by rw [getD_set _ _ _ (by decide)]; exact r5), hG, hK⟩)
  · clear hb1 r7 r10 r4 r5 hG hK 
    intro listed ac W hI hr
    obtain ⟨hl, hF, hb1, r7, r10, r4, r5, hG, hK⟩ := hI
    have hall := all_listed (by kernel_rfl) hl hr
    rw [if_pos (hall 3 (by decide))] at r4
    rw [if_pos (hall 4 (by decide))] at r5
    have h39 : ac.eval (.tmp 39) = .agg LP.toArray := hF.done 0 (39, SP.is (.agg LP.toArray)) (by rw [hD]; rfl) (hall 0 (by decide))
    have h40 : ac.eval (.tmp 40) = .agg LT.toArray := hF.done 1 (40, SP.is (.agg LT.toArray)) (by rw [hD]; rfl) (hall 1 (by decide))
    have h41 : ac.eval (.tmp 41) = .int .i64 0 := hF.done 2 (41, SP.is (.int .i64 0)) (by rw [hD]; rfl) (hall 2 (by decide))
    have h6 : ac.eval (.tmp 6) = .int .i64 0 := hF.done 5 (6, SP.is (.int .i64 0)) (by rw [hD]; rfl) (hall 5 (by decide))
    have ea := hF.lay [(39, .agg LP.toArray), (40, .agg LT.toArray), (41, .int .i64 0), (6, .int .i64 0)] (by rw [hD, hsz]; rfl) (by simp only [List.forall_mem_cons, List.not_mem_nil, false_implies, implies_true, and_true]; exact ⟨h39, h40, h41, h6⟩)
    rw [ha0] at ea
    simp only [List.foldl_cons, List.foldl_nil, List.setIfInBounds_toArray, List.set_cons_zero, List.set_cons_succ] at ea
    clear hF hall hr hl hD  zs4 zs5 zs7 zs8 zs10 ha0 hsz h39 h40 h41 h6
    subst ea
    have HG : Hid (Lg w0 W S (q + 1) f) := hG
    have HK : Hid (Kp w W) := hK
    have F4 : Hid (Row W b4 LP 58) := r4
    have F5 : Hid (Row W b5 LT 44) := r5
    clear hG hK r4 r5 r7 r10 hb1
    go_wp2_with fail
    exact bodyPost_ret (results_rowSS_tmp Tryd.results20 _ _ b4 b5 58 44 LP LT (.int .i64 0) rfl rfl rfl F4.out F5.out Tryd.underlying58 Tryd.underlying44 HLPI.out HLTI.out) rfl ⟨rfl, HG.out, HK.out⟩
theorem ask_r (w0 : World) (S q : Nat) (f : ByteArray → List (BitVec 8)) (hq : q < 1000000) (t : Nat) (ht : t < 64) (a : Nat) (ha : a < 2 ^ 256) (hf : f (tKt t) = 1#8 :: wB a) (LP LT : List Value) (hLP : LP = pgl S t) (hLT : LT = tkl true false a) (w : World) (h : Lg w0 w S q f) :
    Calls Tryd.prog 20 #[.pointer (some ⟨S, 0, none⟩), .int .i64 (t : Int)] w fun e w' => e = .returned (.tuple #[.agg LP.toArray, .agg LT.toArray, .int .i64 0]) ∧ Lg w0 w' S (q + 1) f ∧ Kp w w' :=
  ask_g w0 S q f hq t ht 33 (1#8 :: wB a) hf (by rw [List.length_cons, wB_len]) true false a LP LT hLP hLT (fun A cap W hb _ => by
    obtain ⟨g, rfl, hc, hr⟩ := bw_open hb (by decide)
    exact rtokR a ha g cap hc LT hLT W hr) w h
theorem ask_z (w0 : World) (S q : Nat) (f : ByteArray → List (BitVec 8)) (hq : q < 1000000) (t : Nat) (ht : t < 64) (hf : f (tKt t) = []) (LP LT : List Value) (hLP : LP = pgl S t) (hLT : LT = tkl false false 0) (w : World) (h : Lg w0 w S q f) :
    Calls Tryd.prog 20 #[.pointer (some ⟨S, 0, none⟩), .int .i64 (t : Int)] w fun e w' => e = .returned (.tuple #[.agg LP.toArray, .agg LT.toArray, .int .i64 0]) ∧ Lg w0 w' S (q + 1) f ∧ Kp w w' :=
  ask_g w0 S q f hq t ht 0 [] hf rfl false false 0 LP LT hLP hLT (fun A cap W _ _ => rtok0 A cap LT hLT W) w h
set_option maxRecDepth 100000 in
set_option maxHeartbeats 4000000 in
theorem amt0 (w0 : World) (S q : Nat) (f : ByteArray → List (BitVec 8)) (hq : q < 1000000) (t : Nat) (s : ByteArray) (hs : isK s.size = true) (hd : f s = []) (LP LA : List Value) (hLP : LP = pgl S t) (hLA : LA = wq 0) (w : World) (h : Lg w0 w S q f) :
    Calls Tryd.prog 33 #[.agg LP.toArray, .string s] w fun e w' => e = .returned (.tuple #[.agg LA.toArray, .int .i64 0]) ∧ Lg w0 w' S (q + 1) f ∧ Kp w w' := by
  have HLPE : Hid (LP = pgl S t) := hLP
  have HLPI : Hid ((Tryd.prog.info? 58).map (·.size) = some LP.length) := by show _ = _; rw [hLP]; exact info_pgl S t
  have HLPJ : Hid ((Tryd.prog.info? 58).map (·.size) = some LP.toArray.size) := by show _ = _; rw [List.size_toArray, hLP]; exact info_pgl S t
  have HLPN : Hid (LP.length = zP.length) := by show _ = _; rw [hLP]; exact rfl
  have HLPO : Hid (LP.toArray.all (·.oneCell') = true) := by show _ = true; rw [hLP]; exact pgl_one S t
  have HLAE : Hid (LA = wq 0) := hLA
  have HLAI : Hid ((Tryd.prog.info? 25).map (·.size) = some LA.length) := by show _ = _; rw [hLA]; exact info_wq _
  have HLAJ : Hid ((Tryd.prog.info? 25).map (·.size) = some LA.toArray.size) := by show _ = _; rw [List.size_toArray, hLA]; exact info_wq _
  have HLAN : Hid (LA.length = zW.length) := by show _ = _; rw [hLA]; exact wq_len _
  have HLAO : Hid (LA.toArray.all (·.oneCell') = true) := by show _ = true; rw [hLA]; exact wq_one _
  have HBL : Hid (∀ w, (Instr.build 25 #[]).run Tryd.prog w = .ok (.agg LA.toArray) w) := fun w => by rw [hLA, wq_zW]; exact build_wd0 w
  have HGT : Hid (∀ W, Lg w0 W S q f → _) := fun W hW => get_lg w0 S q f hq s hs 0 [] hd rfl W hW
  have HG : Hid (Lg w0 w S q f) := h
  have HW0 : Hid (w0.heap.size ≤ w.heap.size) := h.bel.size
  clear hLP hLA hq hs hd h
  go_enter Tryd.func33, Tryd.ntmps33
  go_upto_region 1 with (first
    | (refine wpList_boxG 58 rfl (.tmp 0) rfl LP rfl ?_; intro X0 q1 q2 q3; have Q0 : Hid (Row X0 _ LP 58) := q1; have B0 : Hid (Below _ _ X0) := q2; clear q1 q2 q3; simp only [Act.put, List.setIfInBounds_toArray, List.set_cons_zero, List.set_cons_succ])
    | (refine wpList_allocW rfl rfl ?_; intro X1 q1 q2 q3; have Q1 : Hid (Row X1 _ zW 25) := q1; have B1 : Hid (Below _ _ X1) := q2; clear q1 q2 q3; simp only [Act.put, List.setIfInBounds_toArray, List.set_cons_zero, List.set_cons_succ]))
  obtain ⟨b2, hb2⟩ : ∃ b, b = w.heap.size := ⟨_, rfl⟩
  obtain ⟨b4, hb4⟩ : ∃ b, b = X0.heap.size := ⟨_, rfl⟩
  have c00 := B0.out
  have c01 := c00.trans (B1.out.mono c00.size)
  have c11 := B1.out
  have R2 : Hid (Row X1 b2 LP 58) := by rw [hb2]; exact Row.below Q0.out c11 Q0.out.lt
  have HWb2 : Hid (w.heap.size ≤ b2) := by show _ ≤ _; rw [hb2]; exact Nat.le_refl _
  have R4 : Hid (Row X1 b4 zW 25) := by rw [hb4]; exact Q1.out
  have HWb4 : Hid (w.heap.size ≤ b4) := by show _ ≤ _; rw [hb4]; exact c00.size
  have Nb2b4 : Hid (b2 ≠ b4) := by show _ ≠ _; have := Q0.out.lt; rw [hb2, hb4]; omega
  have BX : Hid (Below w.heap.size w X1) := c01
  rw [← hb2, ← hb4]
  clear hb2 hb4 c00 c01 c11 Q0 B0 Q1 B1
  replace HG : Hid (Lg w0 X1 S q f) := HG.out.be BX.out
  have HK : Hid (Kp w X1) := Kp.of_below BX.out
  have c0 := R2.out.cell 0 (.pointer (some ⟨S, 0, none⟩)) (by rw [HLPE.out]; rfl)
  clear BX
  go_wp2_with fail
  refine Calls.mono (HGT.out X1 HG.out) ?_
  rintro e V ⟨A, cap, rfl, hb, hni, hG, hK⟩
  replace R4 : Hid (Row V b4 zW 25) := hK.row _ _ _ (by decide) R4.out
  replace HG : Hid (Lg w0 V S (q + 1) f) := hG
  replace HK : Hid (Kp w V) := HK.out.trans hK
  clear hb hni hG hK c0 HGT
  go_wp2_with (first
    | (refine wpList_bld rfl 25 #[] rfl #[] rfl LA HBL.out ?_; simp only [Act.put, List.setIfInBounds_toArray, List.set_cons_zero, List.set_cons_succ])
    | (refine wpList_storeL rfl 25 (.tmp 4) (.tmp 23) rfl b4 LA zW 25 rfl rfl R4.out HLAN.out HLAI.out HLAO.out ?_; intro Y q1 q2; have HY : Hid (Y = _) := q1; have RY : Hid (Row Y b4 LA 25) := q2; clear q1 q2; simp only [Act.put]))
  have gG : Lg w0 Y S (q + 1) f := by rw [HY.out]; exact HG.out.kept R4.out (by decide) (by decide) (by decide) (by decide) (fun k hk => heap_sets _ _ _ _ _ hk) (below_setCells HG.out.bel (Nat.le_trans HW0.out HWb4.out) _)
  have gK : Kp w Y := by rw [HY.out]; exact Kp.kept b4 HWb4.out HK.out (fun k hk => heap_sets _ _ _ _ _ hk) (below_setCells (Below.refl 0 _) (Nat.zero_le b4) _).size
  exact bodyPost_ret (results_rowA_tmp Tryd.results33 _ _ b4 25 LA (.int .i64 0) rfl rfl RY.out Tryd.underlying25 HLAI.out) rfl ⟨rfl, gG, gK⟩
set_option maxRecDepth 100000 in
set_option maxHeartbeats 4000000 in
theorem amtN (w0 : World) (S q : Nat) (f : ByteArray → List (BitVec 8)) (hq : q < 1000000) (t : Nat) (s : ByteArray) (hs : isK s.size = true) (a : Nat) (ha : a < 2 ^ 256) (ha0 : a ≠ 0) (hd : f s = wB a) (LP LA : List Value) (hLP : LP = pgl S t) (hLA : LA = wq a) (w : World) (h : Lg w0 w S q f) :
    Calls Tryd.prog 33 #[.agg LP.toArray, .string s] w fun e w' => e = .returned (.tuple #[.agg LA.toArray, .int .i64 0]) ∧ Lg w0 w' S (q + 1) f ∧ Kp w w' := by
  have HLPE : Hid (LP = pgl S t) := hLP
  have HLPI : Hid ((Tryd.prog.info? 58).map (·.size) = some LP.length) := by show _ = _; rw [hLP]; exact info_pgl S t
  have HLPJ : Hid ((Tryd.prog.info? 58).map (·.size) = some LP.toArray.size) := by show _ = _; rw [List.size_toArray, hLP]; exact info_pgl S t
  have HLPN : Hid (LP.length = zP.length) := by show _ = _; rw [hLP]; exact rfl
  have HLPO : Hid (LP.toArray.all (·.oneCell') = true) := by show _ = true; rw [hLP]; exact pgl_one S t
  have HLAE : Hid (LA = wq a) := hLA
  have HLAI : Hid ((Tryd.prog.info? 25).map (·.size) = some LA.length) := by show _ = _; rw [hLA]; exact info_wq _
  have HLAJ : Hid ((Tryd.prog.info? 25).map (·.size) = some LA.toArray.size) := by show _ = _; rw [List.size_toArray, hLA]; exact info_wq _
  have HLAN : Hid (LA.length = zW.length) := by show _ = _; rw [hLA]; exact wq_len _
  have HLAO : Hid (LA.toArray.all (·.oneCell') = true) := by show _ = true; rw [hLA]; exact wq_one _
  have HGT : Hid (∀ W, Lg w0 W S q f → _) := fun W hW => get_lg w0 S q f hq s hs 32 (wB a) hd (wB_len a) W hW
  have HRD : Hid (∀ g cap W, W.rangeAt g 0 (vB (wB a)) → Calls Tryd.prog 48 #[.slice (some ⟨g, 0, none⟩) 32 cap] W fun e w' => e = .returned (.tuple #[.agg LA.toArray, .int .i64 0]) ∧ Below W.heap.size W w') := fun g cap W hr => by rw [hLA]; exact readG W a ha g 0 cap hr
  have HZ : Hid (∀ W, Calls Tryd.prog 36 #[.agg LA.toArray] W fun e w' => e = .returned (.bool false) ∧ Below W.heap.size W w') := fun W => by rw [hLA]; exact zeroG W a ha false (decide_eq_false ha0)
  have HG : Hid (Lg w0 w S q f) := h
  have HW0 : Hid (w0.heap.size ≤ w.heap.size) := h.bel.size
  clear hLP hLA hq hs hd h ha ha0
  go_enter Tryd.func33, Tryd.ntmps33
  go_upto_region 1 with (first
    | (refine wpList_boxG 58 rfl (.tmp 0) rfl LP rfl ?_; intro X0 q1 q2 q3; have Q0 : Hid (Row X0 _ LP 58) := q1; have B0 : Hid (Below _ _ X0) := q2; clear q1 q2 q3; simp only [Act.put, List.setIfInBounds_toArray, List.set_cons_zero, List.set_cons_succ])
    | (refine wpList_allocW rfl rfl ?_; intro X1 q1 q2 q3; have Q1 : Hid (Row X1 _ zW 25) := q1; have B1 : Hid (Below _ _ X1) := q2; clear q1 q2 q3; simp only [Act.put, List.setIfInBounds_toArray, List.set_cons_zero, List.set_cons_succ]))
  obtain ⟨b2, hb2⟩ : ∃ b, b = w.heap.size := ⟨_, rfl⟩
  obtain ⟨b4, hb4⟩ : ∃ b, b = X0.heap.size := ⟨_, rfl⟩
  have c00 := B0.out
  have c01 := c00.trans (B1.out.mono c00.size)
  have c11 := B1.out
  have R2 : Hid (Row X1 b2 LP 58) := by rw [hb2]; exact Row.below Q0.out c11 Q0.out.lt
  have HWb2 : Hid (w.heap.size ≤ b2) := by show _ ≤ _; rw [hb2]; exact Nat.le_refl _
  have R4 : Hid (Row X1 b4 zW 25) := by rw [hb4]; exact Q1.out
  have HWb4 : Hid (w.heap.size ≤ b4) := by show _ ≤ _; rw [hb4]; exact c00.size
  have Nb2b4 : Hid (b2 ≠ b4) := by show _ ≠ _; have := Q0.out.lt; rw [hb2, hb4]; omega
  have BX : Hid (Below w.heap.size w X1) := c01
  rw [← hb2, ← hb4]
  clear hb2 hb4 c00 c01 c11 Q0 B0 Q1 B1
  replace HG : Hid (Lg w0 X1 S q f) := HG.out.be BX.out
  have HK : Hid (Kp w X1) := Kp.of_below BX.out
  have c0 := R2.out.cell 0 (.pointer (some ⟨S, 0, none⟩)) (by rw [HLPE.out]; rfl)
  clear BX
  go_wp2_with fail
  refine Calls.mono (HGT.out X1 HG.out) ?_
  rintro e V ⟨A, cap, rfl, hb, hni, hG, hK⟩
  replace R4 : Hid (Row V b4 zW 25) := hK.row _ _ _ (by decide) R4.out
  replace HG : Hid (Lg w0 V S (q + 1) f) := hG
  replace HK : Hid (Kp w V) := HK.out.trans hK
  obtain ⟨g, rfl, hc, hr⟩ := bw_open hb (by decide)
  have HC : Hid _ := HRD.out g cap V hr
  clear hb hni hG hK c0 HGT HRD hc hr
  go_wp2_with fail
  refine Calls.mono HC.out ?_
  rintro e V2 ⟨rfl, hB⟩
  replace R4 : Hid (Row V2 b4 zW 25) := Row.below R4.out hB R4.out.lt
  replace HG : Hid (Lg w0 V2 S (q + 1) f) := HG.out.be hB
  replace HK : Hid (Kp w V2) := HK.out.trans (Kp.of_below hB)
  clear hB HC
  obtain ⟨p8, hp8⟩ : ∃ b, b = V2.heap.size := ⟨_, rfl⟩
  have HBp8 : Hid (p8 = V2.heap.size) := hp8
  clear hp8
  go_upto_region 5 with (first
    | (refine wpList_allocW rfl rfl ?_; intro XY8 q1 q2 q3; have QY8 : Hid (Row XY8 _ zW 25) := q1; have BY8 : Hid (Below _ _ XY8) := q2; clear q1 q2 q3; simp only [Act.put, List.setIfInBounds_toArray, List.set_cons_zero, List.set_cons_succ])
    | (refine wpList_storeL rfl 25 (.tmp 8) (.tmp 28) rfl V2.heap.size LA zW 25 rfl rfl QY8.out HLAN.out HLAI.out HLAO.out ?_; intro Y8 q1 q2; have HY8 : Hid (Y8 = _) := q1; have RY8 : Hid (Row Y8 V2.heap.size LA 25) := q2; clear q1 q2; simp only [Act.put]))
  rw [← HBp8.out] at RY8 HY8
  rw [← HBp8.out]
  have cb : Below V2.heap.size V2 Y8 := by rw [HY8.out]; exact below_setCells BY8.out (by rw [HBp8.out]; exact Nat.le_refl _) _
  have Nb4p8 : Hid (b4 ≠ p8) := by show _ ≠ _; have := R4.out.lt; rw [HBp8.out]; omega
  replace R4 : Hid (Row Y8 b4 zW 25) := Row.below R4.out cb R4.out.lt
  replace HG : Hid (Lg w0 Y8 S (q + 1) f) := HG.out.be cb
  replace HK : Hid (Kp w Y8) := HK.out.trans (Kp.of_below cb)
  have Rp8 : Hid (Row Y8 p8 LA 25) := RY8.out
  clear cb HY8 BY8 QY8 RY8 HBp8
  have S8 : Hid (Y8.rangeAt p8 0 LA) := Rp8.out.all
  go_wp2_with (refine wpList_load_w rfl 25 (.tmp 8) rfl p8 0 rfl LA _ S8.out Tryd.underlying25 rfl HLAI.out ?_; simp only [Act.put, List.setIfInBounds_toArray, List.set_cons_zero, List.set_cons_succ])
  refine Calls.mono (HZ.out Y8) ?_
  rintro e V3 ⟨rfl, hB⟩
  replace R4 : Hid (Row V3 b4 zW 25) := Row.below R4.out hB R4.out.lt
  replace Rp8 : Hid (Row V3 p8 LA 25) := Row.below Rp8.out hB Rp8.out.lt
  replace HG : Hid (Lg w0 V3 S (q + 1) f) := HG.out.be hB
  replace HK : Hid (Kp w V3) := HK.out.trans (Kp.of_below hB)
  replace S8 : Hid (V3.rangeAt p8 0 LA) := Rp8.out.all
  clear hB HZ
  go_wp2_with (first
    | (refine wpList_load_w rfl 25 (.tmp 8) rfl p8 0 rfl LA _ S8.out Tryd.underlying25 rfl HLAI.out ?_; simp only [Act.put, List.setIfInBounds_toArray, List.set_cons_zero, List.set_cons_succ])
    | (refine wpList_storeL rfl 25 (.tmp 4) (.tmp 37) rfl b4 LA zW 25 rfl rfl R4.out HLAN.out HLAI.out HLAO.out ?_; intro Y q1 q2; have HY : Hid (Y = _) := q1; have RY : Hid (Row Y b4 LA 25) := q2; clear q1 q2; simp only [Act.put]))
  have gG : Lg w0 Y S (q + 1) f := by rw [HY.out]; exact HG.out.kept R4.out (by decide) (by decide) (by decide) (by decide) (fun k hk => heap_sets _ _ _ _ _ hk) (below_setCells HG.out.bel (Nat.le_trans HW0.out HWb4.out) _)
  have gK : Kp w Y := by rw [HY.out]; exact Kp.kept b4 HWb4.out HK.out (fun k hk => heap_sets _ _ _ _ _ hk) (below_setCells (Below.refl 0 _) (Nat.zero_le b4) _).size
  exact bodyPost_ret (results_rowA_tmp Tryd.results33 _ _ b4 25 LA (.int .i64 0) rfl rfl RY.out Tryd.underlying25 HLAI.out) rfl ⟨rfl, gG, gK⟩
theorem amt_g (w0 : World) (S q : Nat) (f : ByteArray → List (BitVec 8)) (hq : q < 1000000) (t : Nat) (s : ByteArray) (hs : isK s.size = true) (a : Nat) (ha : a < 2 ^ 256) (hd : f s = enc a) (LP LA : List Value) (hLP : LP = pgl S t) (hLA : LA = wq a) (w : World) (h : Lg w0 w S q f) :
    Calls Tryd.prog 33 #[.agg LP.toArray, .string s] w fun e w' => e = .returned (.tuple #[.agg LA.toArray, .int .i64 0]) ∧ Lg w0 w' S (q + 1) f ∧ Kp w w' := by
  by_cases h0 : a = 0
  · subst h0
    exact amt0 w0 S q f hq t s hs (by rw [hd]; rfl) LP LA hLP hLA w h
  · exact amtN w0 S q f hq t s hs a ha h0 (by rw [hd]; unfold enc; rw [if_neg h0]) LP LA hLP hLA w h
set_option maxRecDepth 100000 in
set_option maxHeartbeats 4000000 in
theorem laid0 (LA : List Value) (hLA : LA = wq 0) (w : World) : Calls Tryd.prog 46 #[.agg LA.toArray] w fun e w' => e = .returned (.slice none 0 0) ∧ Below w.heap.size w w' := by
  have HLAE : Hid (LA = wq 0) := hLA
  have HLAI : Hid ((Tryd.prog.info? 25).map (·.size) = some LA.length) := by show _ = _; rw [hLA]; exact info_wq _
  have HLAJ : Hid ((Tryd.prog.info? 25).map (·.size) = some LA.toArray.size) := by show _ = _; rw [List.size_toArray, hLA]; exact info_wq _
  have HLAN : Hid (LA.length = zW.length) := by show _ = _; rw [hLA]; exact wq_len _
  have HLAO : Hid (LA.toArray.all (·.oneCell') = true) := by show _ = true; rw [hLA]; exact wq_one _
  have HZ : Hid (∀ W, Calls Tryd.prog 36 #[.agg LA.toArray] W fun e w' => e = .returned (.bool true) ∧ Below W.heap.size W w') := fun W => by rw [hLA]; exact zeroG W 0 (by decide) true rfl
  clear hLA
  go_enter Tryd.func46, Tryd.ntmps46
  go_upto_region 1 with (first
    | (refine wpList_boxG 25 rfl (.tmp 0) rfl LA rfl ?_; intro X0 q1 q2 q3; have Q0 : Hid (Row X0 _ LA 25) := q1; have B0 : Hid (Below _ _ X0) := q2; clear q1 q2 q3; simp only [Act.put, List.setIfInBounds_toArray, List.set_cons_zero, List.set_cons_succ]))
  obtain ⟨b1, hb1⟩ : ∃ b, b = w.heap.size := ⟨_, rfl⟩
  have c00 := B0.out
  have R1 : Hid (Row X0 b1 LA 25) := by rw [hb1]; exact Q0.out
  have HWb1 : Hid (w.heap.size ≤ b1) := by show _ ≤ _; rw [hb1]; exact Nat.le_refl _
  have BX : Hid (Below w.heap.size w X0) := c00
  rw [← hb1]
  clear hb1 c00 Q0 B0
  have S1 : Hid (X0.rangeAt b1 0 LA) := R1.out.all
  go_wp2_with (refine wpList_load_w rfl 25 (.tmp 1) rfl b1 0 rfl LA _ S1.out Tryd.underlying25 rfl HLAI.out ?_; simp only [Act.put, List.setIfInBounds_toArray, List.set_cons_zero, List.set_cons_succ])
  refine Calls.mono (HZ.out X0) ?_
  rintro e V ⟨rfl, hB⟩
  have BV : Hid (Below w.heap.size w V) := BX.out.trans (hB.mono BX.out.size)
  clear hB S1
  go_wp2_with fail
  go_ret
  exact ⟨rfl, BV.out⟩
set_option maxRecDepth 100000 in
set_option maxHeartbeats 4000000 in
theorem laidN (a : Nat) (ha : a < 2 ^ 256) (ha0 : a ≠ 0) (LA : List Value) (hLA : LA = wq a) (w : World) : Calls Tryd.prog 46 #[.agg LA.toArray] w fun e w' => ∃ N, w.heap.size ≤ N ∧ Row w' N (vB (wB a)) 5 ∧ e = .returned (.slice (some ⟨N, 0, none⟩) 32 32) ∧ Below w.heap.size w w' := by
  have HLAE : Hid (LA = wq a) := hLA
  have HLAI : Hid ((Tryd.prog.info? 25).map (·.size) = some LA.length) := by show _ = _; rw [hLA]; exact info_wq _
  have HLAJ : Hid ((Tryd.prog.info? 25).map (·.size) = some LA.toArray.size) := by show _ = _; rw [List.size_toArray, hLA]; exact info_wq _
  have HLAN : Hid (LA.length = zW.length) := by show _ = _; rw [hLA]; exact wq_len _
  have HLAO : Hid (LA.toArray.all (·.oneCell') = true) := by show _ = true; rw [hLA]; exact wq_one _
  have HZ : Hid (∀ W, Calls Tryd.prog 36 #[.agg LA.toArray] W fun e w' => e = .returned (.bool false) ∧ Below W.heap.size W w') := fun W => by rw [hLA]; exact zeroG W a ha false (decide_eq_false ha0)
  have HBY : Hid (∀ W, Calls Tryd.prog 43 #[.agg LA.toArray] W fun e w' => ∃ N, W.heap.size ≤ N ∧ Row w' N (vB (wB a)) 5 ∧ e = .returned (.slice (some ⟨N, 0, none⟩) 32 32) ∧ Below W.heap.size W w') := fun W => by rw [hLA]; exact bytesG W a
  clear hLA ha ha0
  go_enter Tryd.func46, Tryd.ntmps46
  go_upto_region 1 with (first
    | (refine wpList_boxG 25 rfl (.tmp 0) rfl LA rfl ?_; intro X0 q1 q2 q3; have Q0 : Hid (Row X0 _ LA 25) := q1; have B0 : Hid (Below _ _ X0) := q2; clear q1 q2 q3; simp only [Act.put, List.setIfInBounds_toArray, List.set_cons_zero, List.set_cons_succ]))
  obtain ⟨b1, hb1⟩ : ∃ b, b = w.heap.size := ⟨_, rfl⟩
  have c00 := B0.out
  have R1 : Hid (Row X0 b1 LA 25) := by rw [hb1]; exact Q0.out
  have HWb1 : Hid (w.heap.size ≤ b1) := by show _ ≤ _; rw [hb1]; exact Nat.le_refl _
  have BX : Hid (Below w.heap.size w X0) := c00
  rw [← hb1]
  clear hb1 c00 Q0 B0
  have S1 : Hid (X0.rangeAt b1 0 LA) := R1.out.all
  go_wp2_with (refine wpList_load_w rfl 25 (.tmp 1) rfl b1 0 rfl LA _ S1.out Tryd.underlying25 rfl HLAI.out ?_; simp only [Act.put, List.setIfInBounds_toArray, List.set_cons_zero, List.set_cons_succ])
  refine Calls.mono (HZ.out X0) ?_
  rintro e V ⟨rfl, hB⟩
  have BV : Hid (Below w.heap.size w V) := BX.out.trans (hB.mono BX.out.size)
  have S2 : Hid (V.rangeAt b1 0 LA) := (Row.below R1.out hB R1.out.lt).all
  clear hB S1
  go_wp2_with (refine wpList_load_w rfl 25 (.tmp 1) rfl b1 0 rfl LA _ S2.out Tryd.underlying25 rfl HLAI.out ?_; simp only [Act.put, List.setIfInBounds_toArray, List.set_cons_zero, List.set_cons_succ])
  refine Calls.mono (HBY.out V) ?_
  rintro e V2 ⟨N, hN, hR, rfl, hB⟩
  have HR : Hid (Row V2 N (vB (wB a)) 5) := hR
  have HN : Hid (w.heap.size ≤ N) := Nat.le_trans BV.out.size hN
  have BV2 : Hid (Below w.heap.size w V2) := BV.out.trans (hB.mono BV.out.size)
  clear hN hR hB S2
  go_wp2_with fail
  go_ret
  exact ⟨N, HN.out, HR.out, rfl, BV2.out⟩

end Go.Proofs.YtelioddogdcdoaaDoor
