/-
  askRunning, move, turnSupply.
-/
import Derived.Test.YtelioddogdcdoaaDoorLhF
namespace Go.Proofs.YtelioddogdcdoaaDoor
open Go Go.RowKit Go.Maps
open Sha
open Wd

set_option maxRecDepth 100000 in
set_option maxHeartbeats 4000000 in
theorem askRG (w0 : World) (S q : Nat) (f : ByteArray → List (BitVec 8)) (hq : q < 999980) (t : Nat) (ht : t < 64) (a : Nat) (ha : a < 2 ^ 256) (hf : f (tKt t) = 1#8 :: wB a) (LP LT : List Value) (hLP : LP = pgl S t) (hLT : LT = tkl true false a) (w : World) (h : Lg w0 w S q f) :
    Calls Tryd.prog 23 #[.pointer (some ⟨S, 0, none⟩), .int .i64 (t : Int)] w fun e w' => e = .returned (.tuple #[.agg LP.toArray, .agg LT.toArray, .int .i64 0]) ∧ Lg w0 w' S (q + 1) f ∧ Kp w w' := by
  obtain ⟨LZ, hLZ⟩ : ∃ L : List Value, L = zK := ⟨_, rfl⟩
  obtain ⟨LQ, hLQ⟩ : ∃ L : List Value, L = tkl true true a := ⟨_, rfl⟩
  have HLPE : Hid (LP = pgl S t) := hLP
  have HLPI : Hid ((Tryd.prog.info? 58).map (·.size) = some LP.length) := by show _ = _; rw [hLP]; exact info_pgl S t
  have HLPJ : Hid ((Tryd.prog.info? 58).map (·.size) = some LP.toArray.size) := by show _ = _; rw [List.size_toArray, hLP]; exact info_pgl S t
  have HLPN : Hid (LP.length = zP.length) := by show _ = _; rw [hLP]; exact rfl
  have HLPO : Hid (LP.toArray.all (·.oneCell') = true) := by show _ = true; rw [hLP]; exact pgl_one S t
  have HLTE : Hid (LT = tkl true false a) := hLT
  have HLTI : Hid ((Tryd.prog.info? 44).map (·.size) = some LT.length) := by show _ = _; rw [hLT]; exact info_tkl _ _ _
  have HLTJ : Hid ((Tryd.prog.info? 44).map (·.size) = some LT.toArray.size) := by show _ = _; rw [List.size_toArray, hLT]; exact info_tkl _ _ _
  have HLTN : Hid (LT.length = zK.length) := by show _ = _; rw [hLT]; exact tkl_len _ _ _
  have HLTO : Hid (LT.toArray.all (·.oneCell') = true) := by show _ = true; rw [hLT]; exact tkl_one _ _ _
  have HBZ : Hid (∀ w, (Instr.build 44 #[]).run Tryd.prog w = .ok (.agg LZ.toArray) w) := fun w => by rw [hLZ]; exact build_tok0 w
  have HC1 : Hid (∀ w, (binOp .eql 44 (.agg LT.toArray) (.agg LZ.toArray)).run Tryd.prog w = .ok (.bool false) w) := fun w => by rw [hLT, hLZ]; exact tok_rz _ w
  have HC2 : Hid (∀ w, (binOp .eql 44 (.agg LT.toArray) (.agg LQ.toArray)).run Tryd.prog w = .ok (.bool false) w) := fun w => by rw [hLT, hLQ]; exact tok_rp _ w
  have HPA : Hid (∀ W, Calls Tryd.prog 44 #[.agg LT.toArray] W fun e w' => e = .returned (.agg LQ.toArray) ∧ Below W.heap.size W w') := fun W => pau_g true false a LT LQ hLT hLQ W
  have HAK : Hid (∀ W, Lg w0 W S q f → _) := fun W hW => ask_r w0 S q f (by omega) t ht a ha hf LP LT hLP hLT W hW
  have HG : Hid (Lg w0 w S q f) := h
  have HW0 : Hid (w0.heap.size ≤ w.heap.size) := h.bel.size
  clear hLP hLT hLZ hLQ hq ht ha hf h
  go_enter Tryd.func23, Tryd.ntmps23
  go_wp2_with (first
    | (refine wpList_allocP rfl rfl ?_; intro X0 q1 q2 q3; have Q0 : Hid (Row X0 _ zP 58) := q1; have B0 : Hid (Below _ _ X0) := q2; clear q1 q2 q3; simp only [Act.put, List.setIfInBounds_toArray, List.set_cons_zero, List.set_cons_succ])
    | (refine wpList_allocK rfl rfl ?_; intro X1 q1 q2 q3; have Q1 : Hid (Row X1 _ zK 44) := q1; have B1 : Hid (Below _ _ X1) := q2; clear q1 q2 q3; simp only [Act.put, List.setIfInBounds_toArray, List.set_cons_zero, List.set_cons_succ]))
  obtain ⟨b4, hb4⟩ : ∃ b, b = w.heap.size := ⟨_, rfl⟩
  obtain ⟨b5, hb5⟩ : ∃ b, b = X0.heap.size := ⟨_, rfl⟩
  have c00 := B0.out
  have c01 := c00.trans (B1.out.mono c00.size)
  have c11 := B1.out
  have R4 : Hid (Row X1 b4 zP 58) := by rw [hb4]; exact Row.below Q0.out c11 Q0.out.lt
  have HWb4 : Hid (w.heap.size ≤ b4) := by show _ ≤ _; rw [hb4]; exact Nat.le_refl _
  have R5 : Hid (Row X1 b5 zK 44) := by rw [hb5]; exact Q1.out
  have HWb5 : Hid (w.heap.size ≤ b5) := by show _ ≤ _; rw [hb5]; exact c00.size
  have Nb4b5 : Hid (b4 ≠ b5) := by show _ ≠ _; have := Q0.out.lt; rw [hb4, hb5]; omega
  have BX : Hid (Below w.heap.size w X1) := c01
  rw [← hb4, ← hb5]
  clear hb4 hb5 c00 c01 c11 Q0 B0 Q1 B1
  replace HG : Hid (Lg w0 X1 S q f) := HG.out.be BX.out
  have HK : Hid (Kp w X1) := Kp.of_below BX.out
  clear BX
  refine Calls.mono (HAK.out X1 HG.out) ?_
  rintro e V ⟨rfl, hG, hK⟩
  replace R4 : Hid (Row V b4 zP 58) := hK.row _ _ _ (by decide) R4.out
  replace R5 : Hid (Row V b5 zK 44) := hK.row _ _ _ (by decide) R5.out
  replace HG : Hid (Lg w0 V S (q + 1) f) := hG
  replace HK : Hid (Kp w V) := HK.out.trans hK
  clear hG hK HAK
  go_upto_region 2 with (first
    | (refine wpList_allocP rfl rfl ?_; intro XP q1 q2 q3; have RP1 : Hid (Row XP V.heap.size zP 58) := q1; have BP : Hid (Below V.heap.size V XP) := q2; have NE12 : Hid (XP.heap.size ≠ V.heap.size) := (by show _ ≠ _; rw [q3]; omega); clear q1 q2 q3; simp only [Act.put, List.setIfInBounds_toArray, List.set_cons_zero, List.set_cons_succ])
    | (refine wpList_allocK rfl rfl ?_; intro XK q1 q2 q3; have RK1 : Hid (Row XK XP.heap.size zK 44) := q1; have BK : Hid (Below XP.heap.size XP XK) := q2; have RP2 : Hid (Row XK V.heap.size zP 58) := Row.below RP1.out q2 RP1.out.lt; clear q1 q2 q3; simp only [Act.put, List.setIfInBounds_toArray, List.set_cons_zero, List.set_cons_succ])
    | (refine wpList_storeL rfl 58 (.tmp 7) (.tmp 14) rfl V.heap.size LP zP 58 rfl rfl RP2.out HLPN.out HLPI.out HLPO.out ?_; intro YP q1 q2; have HYP : Hid (YP = _) := q1; have RYP : Hid (Row YP V.heap.size LP 58) := q2; have RK2 : Hid (Row YP XP.heap.size zK 44) := (by rw [q1]; exact Row.setCells_other RK1.out _ _ _ NE12.out); clear q1 q2; simp only [Act.put])
    | (refine wpList_storeL rfl 44 (.tmp 8) (.tmp 15) rfl XP.heap.size LT zK 44 rfl rfl RK2.out HLTN.out HLTI.out HLTO.out ?_; intro YK q1 q2; have HYK : Hid (YK = _) := q1; have RYK : Hid (Row YK XP.heap.size LT 44) := q2; clear q1 q2; simp only [Act.put]))
  obtain ⟨p1, hp1⟩ : ∃ p, p = V.heap.size := ⟨_, rfl⟩
  obtain ⟨p2, hp2⟩ : ∃ p, p = XP.heap.size := ⟨_, rfl⟩
  have b12 : Below V.heap.size V YK := by rw [HYK.out, HYP.out]; exact below_setCells (below_setCells (BP.out.trans (BK.out.mono BP.out.size)) (Nat.le_refl _) _) BP.out.size _
  have Rp1 : Hid (Row YK p1 LP 58) := by rw [HYK.out, hp1]; exact Row.setCells_other RYP.out _ _ _ (Ne.symm NE12.out)
  have Rp2 : Hid (Row YK p2 LT 44) := by rw [hp2]; exact RYK.out
  have Np1p2 : Hid (p1 ≠ p2) := by rw [hp1, hp2]; exact Ne.symm NE12.out
  have Nb4p1 : Hid (b4 ≠ p1) := by show _ ≠ _; have := R4.out.lt; rw [hp1]; omega
  have Nb4p2 : Hid (b4 ≠ p2) := by show _ ≠ _; have := R4.out.lt; have := BP.out.size; rw [hp2]; omega
  have Nb5p1 : Hid (b5 ≠ p1) := by show _ ≠ _; have := R5.out.lt; rw [hp1]; omega
  have Nb5p2 : Hid (b5 ≠ p2) := by show _ ≠ _; have := R5.out.lt; have := BP.out.size; rw [hp2]; omega
  replace R4 : Hid (Row YK b4 zP 58) := Row.below R4.out b12 R4.out.lt
  replace R5 : Hid (Row YK b5 zK 44) := Row.below R5.out b12 R5.out.lt
  replace HG : Hid (Lg w0 YK S (q + 1) f) := HG.out.be b12
  replace HK : Hid (Kp w YK) := HK.out.trans (Kp.of_below b12)
  rw [← hp1, ← hp2]
  clear hp1 hp2 b12 BP BK RP1 RP2 RK1 RK2 NE12 HYP RYP HYK RYK
  have RA2 : Hid (YK.rangeAt p2 0 LT) := Rp2.out.all
  go_upto_region 6 with (first
    | (refine wpList_load_w rfl 44 (.tmp 8) rfl p2 0 rfl LT _ RA2.out Tryd.underlying44 rfl HLTI.out ?_; simp only [Act.put, List.setIfInBounds_toArray, List.set_cons_zero, List.set_cons_succ])
    | (refine wpList_bld rfl 44 #[] rfl #[] rfl LZ HBZ.out ?_; simp only [Act.put, List.setIfInBounds_toArray, List.set_cons_zero, List.set_cons_succ])
    | (refine wpList_cmpK rfl .eql (.tmp 24) (.tmp 25) _ rfl LT LZ rfl rfl false HC1.out ?_; simp only [Act.put, List.setIfInBounds_toArray, List.set_cons_zero, List.set_cons_succ]))
  have r1 := Rp1.out
  have r2 := Rp2.out
  have r4 := R4.out
  have r5 := R5.out
  have hG := HG.out
  have hK := HK.out
  have hb1 := hG.bel
  clear Rp1 Rp2 R4 R5 HG HK RA2
  refine wp_named fun a0 ha0 => ?_
  have hsz : a0.tmps.size = 38 := by rw [ha0]; rfl
  have zs8 : a0.eval (.tmp 8) = .pointer (some ⟨p2, 0, none⟩) := by rw [ha0]; rfl
  obtain ⟨D, hD⟩ : ∃ D : List (Tmp × SP), D = [(30, SP.is (.agg LT.toArray)), (31, SP.is (.agg LT.toArray)), (32, SP.is (.agg LQ.toArray)), (33, SP.is (.bool false)), (29, SP.is (.bool false))] := ⟨_, rfl⟩
  refine wp_region_down (by kernel_rfl) (fun listed ac W => listed.size = 5 ∧ Fp D a0 listed ac W ∧ Below w0.heap.size w0 W ∧ Row W p1 LP 58 ∧ Row W p2 LT 44 ∧ Row W b4 zP 58 ∧ Row W b5 zK 44 ∧ Lg w0 W S (q + 1) f ∧ Kp w W) ?_ ?_ ?_
  · exact ⟨by simp, Fp.start D a0 _ _, Below.drew hb1, Row.drew r1, Row.drew r2, Row.drew r4, Row.drew r5, hG.below (Below.drew (Below.refl _ _)), hK.below (Below.drew (Below.refl _ _))⟩
  · clear ha0 hb1 r1 r2 r4 r5 hG hK 
    intro listed ac W k hI hdn hk
    obtain ⟨hl, hF, hb1, r1, r2, r4, r5, hG, hK⟩ := hI
    have hk1 : k < 5 := List.mem_range.1 (List.mem_filter.1 hk).1
    have hl2 : ∀ j, (listed.setIfInBounds j true).size = 5 := fun j => by rw [Array.size_setIfInBounds]; exact hl
    rcases (show k = 0 ∨ k = 1 ∨ k = 2 ∨ k = 3 ∨ k = 4 by omega) with rfl | rfl | rfl | rfl | rfl
    · have hk3 := hk
      exact wpOp_plain rfl rfl (wp_load_mid 44 (.tmp 8) rfl p2 0 ((hF.keep 8 (by rw [hD]; rfl)).trans zs8) LT _ r2.all Tryd.underlying44 rfl HLTI.out ⟨hl2 0, (hF.put 0 30 (SP.is (.agg LT.toArray)) (.agg LT.toArray) (by rw [hD]; rfl) rfl (by rw [hD]; rfl) (by rw [hsz]; decide) (by rw [hl]; decide)), hb1, r1, r2, r4, r5, hG, hK⟩)
    · have hk3 := hk
      exact wpOp_plain rfl rfl (wp_load_mid 44 (.tmp 8) rfl p2 0 ((hF.keep 8 (by rw [hD]; rfl)).trans zs8) LT _ r2.all Tryd.underlying44 rfl HLTI.out ⟨hl2 1, (hF.put 1 31 (SP.is (.agg LT.toArray)) (.agg LT.toArray) (by rw [hD]; rfl) rfl (by rw [hD]; rfl) (by rw [hsz]; decide) (by rw [hl]; decide)), hb1, r1, r2, r4, r5, hG, hK⟩)
    · have hk3 := hk
      have e31 := (hF.done 1 (31, SP.is (.agg LT.toArray)) (by rw [hD]; rfl) (ready_dep hk 1 (by kernel_rfl)))
      refine wpOp_plain rfl rfl (wp_fcall_v 44 #[.agg LT.toArray] rfl rfl (by show [ac.eval (.tmp 31)] = _; rw [show ac.eval (.tmp 31) = .agg LT.toArray from e31]) (by go_simp) ((HPA.out W).mono ?_))
      rintro e W2 ⟨rfl, hB⟩
      exact ⟨_, rfl, hl2 2, ((hF.world hB).put 2 32 (SP.is (.agg LQ.toArray)) (.agg LQ.toArray) (by rw [hD]; rfl) rfl (by rw [hD]; rfl) (by rw [hsz]; decide) (by rw [hl]; decide)), hb1.trans (hB.mono hb1.size), Row.below r1 hB (Row.lt r1), Row.below r2 hB (Row.lt r2), Row.below r4 hB (Row.lt r4), Row.below r5 hB (Row.lt r5), hG.below hB, hK.below hB⟩
    · have hk3 := hk
      have e30 := (hF.done 0 (30, SP.is (.agg LT.toArray)) (by rw [hD]; rfl) (ready_dep hk 0 (by kernel_rfl)))
      have e32 := (hF.done 2 (32, SP.is (.agg LQ.toArray)) (by rw [hD]; rfl) (ready_dep hk 2 (by kernel_rfl)))
      exact wpOp_plain rfl rfl (wp_cmpK .eql (.tmp 30) (.tmp 32) _ rfl LT LQ e30 e32 false HC2.out ⟨hl2 3, (hF.put 3 33 (SP.is (.bool false)) (.bool false) (by rw [hD]; rfl) rfl (by rw [hD]; rfl) (by rw [hsz]; decide) (by rw [hl]; decide)), hb1, r1, r2, r4, r5, hG, hK⟩)
    · have hk3 := hk
      exact wpOp_plain rfl rfl (wp_assign_v (ac.eval (.tmp 33)) rfl rfl ⟨hl2 4, (hF.put 4 29 (SP.is (.bool false)) (ac.eval (.tmp 33)) (by rw [hD]; rfl) ((hF.done 3 (33, SP.is (.bool false)) (by rw [hD]; rfl) (ready_dep hk 3 (by kernel_rfl)))) (by rw [hD]; rfl) (by rw [hsz]; decide) (by rw [hl]; decide)), hb1, r1, r2, r4, r5, hG, hK⟩)
  · clear hb1 r1 r2 r4 r5 hG hK 
    intro listed ac W hI hr
    obtain ⟨hl, hF, hb1, r1, r2, r4, r5, hG, hK⟩ := hI
    have hall := all_listed (by kernel_rfl) hl hr
    have h30 : ac.eval (.tmp 30) = .agg LT.toArray := hF.done 0 (30, SP.is (.agg LT.toArray)) (by rw [hD]; rfl) (hall 0 (by decide))
    have h31 : ac.eval (.tmp 31) = .agg LT.toArray := hF.done 1 (31, SP.is (.agg LT.toArray)) (by rw [hD]; rfl) (hall 1 (by decide))
    have h32 : ac.eval (.tmp 32) = .agg LQ.toArray := hF.done 2 (32, SP.is (.agg LQ.toArray)) (by rw [hD]; rfl) (hall 2 (by decide))
    have h33 : ac.eval (.tmp 33) = .bool false := hF.done 3 (33, SP.is (.bool false)) (by rw [hD]; rfl) (hall 3 (by decide))
    have h29 : ac.eval (.tmp 29) = .bool false := hF.done 4 (29, SP.is (.bool false)) (by rw [hD]; rfl) (hall 4 (by decide))
    have ea := hF.lay [(30, .agg LT.toArray), (31, .agg LT.toArray), (32, .agg LQ.toArray), (33, .bool false), (29, .bool false)] (by rw [hD, hsz]; rfl) (by simp only [List.forall_mem_cons, List.not_mem_nil, false_implies, implies_true, and_true]; exact ⟨h30, h31, h32, h33, h29⟩)
    rw [ha0] at ea
    simp only [List.foldl_cons, List.foldl_nil, List.setIfInBounds_toArray, List.set_cons_zero, List.set_cons_succ] at ea
    clear hF hall hr hl hD  zs8 ha0 hsz h30 h31 h32 h33 h29
    subst ea
    obtain ⟨V2, hV⟩ : ∃ V, V = W := ⟨_, rfl⟩
    rw [← hV]
    rw [← hV] at hG hK r1 r2 r4 r5 hb1
    have HG : Hid (Lg w0 V2 S (q + 1) f) := hG
    have HK : Hid (Kp w V2) := hK
    have R1 : Hid (Row V2 p1 LP 58) := r1
    have R2 : Hid (Row V2 p2 LT 44) := r2
    have R4 : Hid (Row V2 b4 zP 58) := r4
    have R5 : Hid (Row V2 b5 zK 44) := r5
    clear hV hG hK r1 r2 r4 r5 hb1
    go_upto_region 8 with fail
    have r1 := R1.out
    have r2 := R2.out
    have r4 := R4.out
    have r5 := R5.out
    have hG := HG.out
    have hK := HK.out
    have hb1 := hG.bel
    have n45 := Nb4b5.out
    have n12 := Np1p2.out
    have n41 := Nb4p1.out
    have n42 := Nb4p2.out
    have n51 := Nb5p1.out
    have n52 := Nb5p2.out
    have hw4 := HWb4.out
    have hw5 := HWb5.out
    have hw0 := HW0.out
    clear R1 R2 R4 R5 HG HK
    refine wp_named fun a0 ha0 => ?_
    have hsz : a0.tmps.size = 38 := by rw [ha0]; rfl
    have zs4 : a0.eval (.tmp 4) = .pointer (some ⟨b4, 0, none⟩) := by rw [ha0]; rfl
    have zs5 : a0.eval (.tmp 5) = .pointer (some ⟨b5, 0, none⟩) := by rw [ha0]; rfl
    have zs7 : a0.eval (.tmp 7) = .pointer (some ⟨p1, 0, none⟩) := by rw [ha0]; rfl
    have zs8 : a0.eval (.tmp 8) = .pointer (some ⟨p2, 0, none⟩) := by rw [ha0]; rfl
    obtain ⟨D, hD⟩ : ∃ D : List (Tmp × SP), D = [(36, SP.is (.agg LP.toArray)), (37, SP.is (.agg LT.toArray)), (1000, SP.any), (1000, SP.any), (6, SP.is (.int .i64 0))] := ⟨_, rfl⟩
    refine wp_region_down (by kernel_rfl) (fun listed ac W => listed.size = 5 ∧ Fp D a0 listed ac W ∧ Below w0.heap.size w0 W ∧ Row W p1 LP 58 ∧ Row W p2 LT 44 ∧ Row W b4 (if listed.getD 2 false = true then LP else zP) 58 ∧ Row W b5 (if listed.getD 3 false = true then LT else zK) 44 ∧ Lg w0 W S (q + 1) f ∧ Kp w W) ?_ ?_ ?_
    · exact ⟨by simp, Fp.start D a0 _ _, Below.drew hb1, Row.drew r1, Row.drew r2, (by rw [if_neg (fun h => start_no h)]; exact Row.drew r4), (by rw [if_neg (fun h => start_no h)]; exact Row.drew r5), hG.below (Below.drew (Below.refl _ _)), hK.below (Below.drew (Below.refl _ _))⟩
    · clear ha0 hb1 r1 r2 r4 r5 hG hK 
      intro listed ac W k hI hdn hk
      obtain ⟨hl, hF, hb1, r1, r2, r4, r5, hG, hK⟩ := hI
      have hk1 : k < 5 := List.mem_range.1 (List.mem_filter.1 hk).1
      have hl2 : ∀ j, (listed.setIfInBounds j true).size = 5 := fun j => by rw [Array.size_setIfInBounds]; exact hl
      rcases (show k = 0 ∨ k = 1 ∨ k = 2 ∨ k = 3 ∨ k = 4 by omega) with rfl | rfl | rfl | rfl | rfl
      · have hk3 := hk
        exact wpOp_plain rfl rfl (wp_load_mid 58 (.tmp 7) rfl p1 0 ((hF.keep 7 (by rw [hD]; rfl)).trans zs7) LP _ r1.all Tryd.underlying58 rfl HLPI.out ⟨hl2 0, (hF.put 0 36 (SP.is (.agg LP.toArray)) (.agg LP.toArray) (by rw [hD]; rfl) rfl (by rw [hD]; rfl) (by rw [hsz]; decide) (by rw [hl]; decide)), hb1, r1, r2, (by rw [getD_set _ _ _ (by decide)]; exact r4), (by rw [getD_set _ _ _ (by decide)]; exact r5), hG, hK⟩)
      · have hk3 := hk
        exact wpOp_plain rfl rfl (wp_load_mid 44 (.tmp 8) rfl p2 0 ((hF.keep 8 (by rw [hD]; rfl)).trans zs8) LT _ r2.all Tryd.underlying44 rfl HLTI.out ⟨hl2 1, (hF.put 1 37 (SP.is (.agg LT.toArray)) (.agg LT.toArray) (by rw [hD]; rfl) rfl (by rw [hD]; rfl) (by rw [hsz]; decide) (by rw [hl]; decide)), hb1, r1, r2, (by rw [getD_set _ _ _ (by decide)]; exact r4), (by rw [getD_set _ _ _ (by decide)]; exact r5), hG, hK⟩)
      · have hk3 := hk
        have hno : ¬ listed.getD 2 false = true := not_yet hk
        rw [if_neg hno] at r4
        have T := r4.there 0 LP.toArray.size (by rw [List.size_toArray, HLPN.out]; decide)
        have fin := r4.over (vs := LP) HLPN.out
        have hT : Fp D a0 listed ac (W.setCells b4 0 LP) := hF.turn (by rw [hD]; simp only [List.forall_mem_cons, List.not_mem_nil, false_implies, implies_true, and_true]; exact ⟨fun _ h => h, fun _ h => h, fun _ h => h, fun _ h => h, fun _ h => h⟩)
        exact wpOp_plain rfl rfl (wp_store_mid 58 (.tmp 4) (.tmp 36) rfl b4 0 LP.toArray ((hF.keep 4 (by rw [hD]; rfl)).trans zs4) (hF.done 0 (36, SP.is (.agg LP.toArray)) (by rw [hD]; rfl) (ready_dep hk 0 (by kernel_rfl))) T HLPJ.out HLPO.out ⟨hl2 2, (hT.skip 2 1000 (by rw [hD]; rfl) (by rw [hl]; decide)), below_setCells hb1 (by omega) _, Row.setCells_other r1 _ _ _ (by omega), Row.setCells_other r2 _ _ _ (by omega), (by rw [if_pos (getD_same (by rw [hl]; decide))]; exact fin), (by rw [getD_set _ _ _ (by decide)]; exact Row.setCells_other r5 _ _ _ (by omega)), hG.kept r4 (by decide) (by decide) (by decide) (by decide) (fun k hk => heap_sets _ _ _ _ _ hk) (below_setCells hG.bel (by omega) _), Kp.kept b4 hw4 hK (fun k hk => heap_sets _ _ _ _ _ hk) (below_setCells (Below.refl 0 _) (Nat.zero_le _) _).size⟩)
      · have hk3 := hk
        have hno : ¬ listed.getD 3 false = true := not_yet hk
        rw [if_neg hno] at r5
        have T := r5.there 0 LT.toArray.size (by rw [List.size_toArray, HLTN.out]; decide)
        have fin := r5.over (vs := LT) HLTN.out
        have hT : Fp D a0 listed ac (W.setCells b5 0 LT) := hF.turn (by rw [hD]; simp only [List.forall_mem_cons, List.not_mem_nil, false_implies, implies_true, and_true]; exact ⟨fun _ h => h, fun _ h => h, fun _ h => h, fun _ h => h, fun _ h => h⟩)
        exact wpOp_plain rfl rfl (wp_store_mid 44 (.tmp 5) (.tmp 37) rfl b5 0 LT.toArray ((hF.keep 5 (by rw [hD]; rfl)).trans zs5) (hF.done 1 (37, SP.is (.agg LT.toArray)) (by rw [hD]; rfl) (ready_dep hk 1 (by kernel_rfl))) T HLTJ.out HLTO.out ⟨hl2 3, (hT.skip 3 1000 (by rw [hD]; rfl) (by rw [hl]; decide)), below_setCells hb1 (by omega) _, Row.setCells_other r1 _ _ _ (by omega), Row.setCells_other r2 _ _ _ (by omega), (by rw [getD_set _ _ _ (by decide)]; exact Row.setCells_other r4 _ _ _ (by omega)), (by rw [if_pos (getD_same (by rw [hl]; decide))]; exact fin), hG.kept r5 (by decide) (by decide) (by decide) (by decide) (fun k hk => heap_sets _ _ _ _ _ hk) (below_setCells hG.bel (by omega) _), Kp.kept b5 hw5 hK (fun k hk => heap_sets _ _ _ _ _ hk) (below_setCells (Below.refl 0 _) (Nat.zero_le _) _).size⟩)
      · have hk3 := hk
        exact wpOp_plain rfl rfl (wp_assign_v (.int .i64 0) rfl rfl ⟨hl2 4, (hF.put 4 6 (SP.is (.int .i64 0)) (.int .i64 0) (by rw [hD]; rfl) rfl (by rw [hD]; rfl) (by rw [hsz]; decide) (by rw [hl]; decide)), hb1, r1, r2, (by rw [getD_set _ _ _ (by decide)]; exact r4), (by rw [getD_set _ _ _ (by decide)]; exact r5), hG, hK⟩)
    · clear hb1 r1 r2 r4 r5 hG hK 
      intro listed ac W hI hr
      obtain ⟨hl, hF, hb1, r1, r2, r4, r5, hG, hK⟩ := hI
      have hall := all_listed (by kernel_rfl) hl hr
      rw [if_pos (hall 2 (by decide))] at r4
      rw [if_pos (hall 3 (by decide))] at r5
      have h36 : ac.eval (.tmp 36) = .agg LP.toArray := hF.done 0 (36, SP.is (.agg LP.toArray)) (by rw [hD]; rfl) (hall 0 (by decide))
      have h37 : ac.eval (.tmp 37) = .agg LT.toArray := hF.done 1 (37, SP.is (.agg LT.toArray)) (by rw [hD]; rfl) (hall 1 (by decide))
      have h6 : ac.eval (.tmp 6) = .int .i64 0 := hF.done 4 (6, SP.is (.int .i64 0)) (by rw [hD]; rfl) (hall 4 (by decide))
      have ea := hF.lay [(36, .agg LP.toArray), (37, .agg LT.toArray), (6, .int .i64 0)] (by rw [hD, hsz]; rfl) (by simp only [List.forall_mem_cons, List.not_mem_nil, false_implies, implies_true, and_true]; exact ⟨h36, h37, h6⟩)
      rw [ha0] at ea
      simp only [List.foldl_cons, List.foldl_nil, List.setIfInBounds_toArray, List.set_cons_zero, List.set_cons_succ] at ea
      clear hF hall hr hl hD  zs4 zs5 zs7 zs8 ha0 hsz h36 h37 h6
      subst ea
      have HG : Hid (Lg w0 W S (q + 1) f) := hG
      have HK : Hid (Kp w W) := hK
      have F4 : Hid (Row W b4 LP 58) := r4
      have F5 : Hid (Row W b5 LT 44) := r5
      clear hG hK r1 r2 r4 r5 hb1
      go_wp2_with fail
      exact bodyPost_ret (results_rowSS_tmp Tryd.results23 _ _ b4 b5 58 44 LP LT (.int .i64 0) rfl rfl rfl F4.out F5.out Tryd.underlying58 Tryd.underlying44 HLPI.out HLTI.out) rfl ⟨rfl, HG.out, HK.out⟩
set_option maxRecDepth 100000 in
set_option maxHeartbeats 4000000 in
theorem mvN (w0 : World) (S q : Nat) (f : ByteArray → List (BitVec 8)) (hq : q < 999980) (t : Nat) (ht : t < 64) (fr tw : List (BitVec 8)) (h1 : fr.length = 20) (h2 : tw.length = 20) (a b : Nat) (ha : a < 2 ^ 256) (hb : b < 2 ^ 256) (haf : f (bKt t fr) = enc a) (hab : a < b) (LP LB : List Value) (hLP : LP = pgl S t) (hLB : LB = wq b) (w : World) (h : Lg w0 w S q f) :
    Calls Tryd.prog 28 #[.agg LP.toArray, .agg (vB fr).toArray, .agg (vB tw).toArray, .agg LB.toArray] w fun e w' => e = .returned (.tuple #[.slice none 0 0, .int .i64 85]) ∧ Lg w0 w' S (q + 1) f ∧ Kp w w' := by
  obtain ⟨N0, hN0⟩ : ∃ L : List Value, L = zL := ⟨_, rfl⟩
  have HN0E : Hid (N0 = zL) := hN0
  have HN0I : Hid ((Tryd.prog.info? 65).map (·.size) = some N0.length) := by show _ = _; rw [hN0]; exact (by kernel_rfl)
  have HN0J : Hid ((Tryd.prog.info? 65).map (·.size) = some N0.toArray.size) := by show _ = _; rw [List.size_toArray, hN0]; exact (by kernel_rfl)
  have HN0N : Hid (N0.length = zL.length) := by show _ = _; rw [hN0]
  have HN0O : Hid (N0.toArray.all (·.oneCell') = true) := by show _ = true; rw [hN0]; exact (by rw [← Array.all_toList]; rfl)
  have HLPE : Hid (LP = pgl S t) := hLP
  have HLPI : Hid ((Tryd.prog.info? 58).map (·.size) = some LP.length) := by show _ = _; rw [hLP]; exact info_pgl S t
  have HLPJ : Hid ((Tryd.prog.info? 58).map (·.size) = some LP.toArray.size) := by show _ = _; rw [List.size_toArray, hLP]; exact info_pgl S t
  have HLPN : Hid (LP.length = zP.length) := by show _ = _; rw [hLP]; exact rfl
  have HLPO : Hid (LP.toArray.all (·.oneCell') = true) := by show _ = true; rw [hLP]; exact pgl_one S t
  have HLBE : Hid (LB = wq b) := hLB
  have HLBI : Hid ((Tryd.prog.info? 25).map (·.size) = some LB.length) := by show _ = _; rw [hLB]; exact info_wq _
  have HLBJ : Hid ((Tryd.prog.info? 25).map (·.size) = some LB.toArray.size) := by show _ = _; rw [List.size_toArray, hLB]; exact info_wq _
  have HLBN : Hid (LB.length = zW.length) := by show _ = _; rw [hLB]; exact wq_len _
  have HLBO : Hid (LB.toArray.all (·.oneCell') = true) := by show _ = true; rw [hLB]; exact wq_one _
  have HIf : Hid ((Tryd.prog.info? 33).map (·.size) = some (vB fr).length) := info_adr h1
  have HIt : Hid ((Tryd.prog.info? 33).map (·.size) = some (vB tw).length) := info_adr h2
  have HLf : Hid (fr.length = 20) := h1
  have HLt : Hid (tw.length = 20) := h2
  have HKf : Hid (∀ W, Calls Tryd.prog 26 #[.agg LP.toArray, .agg (vB fr).toArray] W fun e w' => e = .returned (.string (bKt t fr)) ∧ Below W.heap.size W w') := fun W => bkeyG S t ht fr h1 LP hLP W
  have HKt : Hid (∀ W, Calls Tryd.prog 26 #[.agg LP.toArray, .agg (vB tw).toArray] W fun e w' => e = .returned (.string (bKt t tw)) ∧ Below W.heap.size W w') := fun W => bkeyG S t ht tw h2 LP hLP W
  have HLE : Hid (∀ W, Lg w0 W S q f → Calls Tryd.prog 34 #[.agg LP.toArray, .string (bKt t fr), .agg LB.toArray, .int .i64 85] W fun e w' => e = .returned (.tuple #[.agg N0.toArray, .int .i64 85]) ∧ Lg w0 w' S (q + 1) f ∧ Kp W w') := fun W hW => by rw [hN0]; exact lsn w0 S q f (by omega) t (bKt t fr) (bKt_key t h1) a b ha hb hab haf LP LB hLP hLB 85 W hW
  have HG : Hid (Lg w0 w S q f) := h
  have HW0 : Hid (w0.heap.size ≤ w.heap.size) := h.bel.size
  clear hLP hLB h1 h2 hq ht ha hb haf h hab hN0
  go_enter Tryd.func28, Tryd.ntmps28
  go_upto_region 1 with (first
    | (refine wpList_boxG 58 rfl (.tmp 0) rfl LP rfl ?_; intro X0 q1 q2 q3; have Q0 : Hid (Row X0 _ LP 58) := q1; have B0 : Hid (Below _ _ X0) := q2; clear q1 q2 q3; simp only [Act.put, List.setIfInBounds_toArray, List.set_cons_zero, List.set_cons_succ])
    | (refine wpList_boxG 33 rfl (.tmp 1) rfl (vB fr) rfl ?_; intro X1 q1 q2 q3; have Q1 : Hid (Row X1 _ (vB fr) 33) := q1; have B1 : Hid (Below _ _ X1) := q2; clear q1 q2 q3; simp only [Act.put, List.setIfInBounds_toArray, List.set_cons_zero, List.set_cons_succ])
    | (refine wpList_boxG 33 rfl (.tmp 2) rfl (vB tw) rfl ?_; intro X2 q1 q2 q3; have Q2 : Hid (Row X2 _ (vB tw) 33) := q1; have B2 : Hid (Below _ _ X2) := q2; clear q1 q2 q3; simp only [Act.put, List.setIfInBounds_toArray, List.set_cons_zero, List.set_cons_succ])
    | (refine wpList_boxG 25 rfl (.tmp 3) rfl LB rfl ?_; intro X3 q1 q2 q3; have Q3 : Hid (Row X3 _ LB 25) := q1; have B3 : Hid (Below _ _ X3) := q2; clear q1 q2 q3; simp only [Act.put, List.setIfInBounds_toArray, List.set_cons_zero, List.set_cons_succ]))
  obtain ⟨bp, hbp⟩ : ∃ b, b = w.heap.size := ⟨_, rfl⟩
  obtain ⟨bf, hbf⟩ : ∃ b, b = X0.heap.size := ⟨_, rfl⟩
  obtain ⟨bt, hbt⟩ : ∃ b, b = X1.heap.size := ⟨_, rfl⟩
  obtain ⟨bb, hbb⟩ : ∃ b, b = X2.heap.size := ⟨_, rfl⟩
  have c00 := B0.out
  have c01 := c00.trans (B1.out.mono c00.size)
  have c02 := c01.trans (B2.out.mono c01.size)
  have c03 := c02.trans (B3.out.mono c02.size)
  have c11 := B1.out
  have c12 := c11.trans (B2.out.mono c11.size)
  have c13 := c12.trans (B3.out.mono c12.size)
  have c22 := B2.out
  have c23 := c22.trans (B3.out.mono c22.size)
  have c33 := B3.out
  have Rp : Hid (Row X3 bp LP 58) := by rw [hbp]; exact Row.below Q0.out c13 Q0.out.lt
  have HWbp : Hid (w.heap.size ≤ bp) := by show _ ≤ _; rw [hbp]; exact Nat.le_refl _
  have Rf : Hid (Row X3 bf (vB fr) 33) := by rw [hbf]; exact Row.below Q1.out c23 Q1.out.lt
  have HWbf : Hid (w.heap.size ≤ bf) := by show _ ≤ _; rw [hbf]; exact c00.size
  have Rt : Hid (Row X3 bt (vB tw) 33) := by rw [hbt]; exact Row.below Q2.out c33 Q2.out.lt
  have HWbt : Hid (w.heap.size ≤ bt) := by show _ ≤ _; rw [hbt]; exact c01.size
  have Rb : Hid (Row X3 bb LB 25) := by rw [hbb]; exact Q3.out
  have HWbb : Hid (w.heap.size ≤ bb) := by show _ ≤ _; rw [hbb]; exact c02.size
  have Nbpbf : Hid (bp ≠ bf) := by show _ ≠ _; have := Q0.out.lt; rw [hbp, hbf]; omega
  have Nbpbt : Hid (bp ≠ bt) := by show _ ≠ _; have := Q0.out.lt; rw [hbp, hbt]; have := c11.size; omega
  have Nbpbb : Hid (bp ≠ bb) := by show _ ≠ _; have := Q0.out.lt; rw [hbp, hbb]; have := c12.size; omega
  have Nbfbt : Hid (bf ≠ bt) := by show _ ≠ _; have := Q1.out.lt; rw [hbf, hbt]; omega
  have Nbfbb : Hid (bf ≠ bb) := by show _ ≠ _; have := Q1.out.lt; rw [hbf, hbb]; have := c22.size; omega
  have Nbtbb : Hid (bt ≠ bb) := by show _ ≠ _; have := Q2.out.lt; rw [hbt, hbb]; omega
  have BX : Hid (Below w.heap.size w X3) := c03
  rw [← hbp, ← hbf, ← hbt, ← hbb]
  clear hbp hbf hbt hbb c00 c01 c02 c03 c11 c12 c13 c22 c23 c33 Q0 B0 Q1 B1 Q2 B2 Q3 B3
  have rp := Rp.out
  have rf := Rf.out
  have rt := Rt.out
  have rb := Rb.out
  have hG := HG.out.be BX.out
  have hK := Kp.of_below BX.out
  have hw0 : w0.heap.size ≤ X3.heap.size := hG.bel.size
  have hwf : w.heap.size ≤ X3.heap.size := hK.size
  have hb1 := Below.refl X3.heap.size X3
  clear BX Rp Rf Rt Rb HG
  refine wp_named fun a0 ha0 => ?_
  have hsz : a0.tmps.size = 49 := by rw [ha0]; rfl
  have zs4 : a0.eval (.tmp 4) = .pointer (some ⟨bp, 0, none⟩) := by rw [ha0]; rfl
  have zs5 : a0.eval (.tmp 5) = .pointer (some ⟨bf, 0, none⟩) := by rw [ha0]; rfl
  have zs6 : a0.eval (.tmp 6) = .pointer (some ⟨bt, 0, none⟩) := by rw [ha0]; rfl
  have zs7 : a0.eval (.tmp 7) = .pointer (some ⟨bb, 0, none⟩) := by rw [ha0]; rfl
  have lt_rp : bp < X3.heap.size := rp.lt
  have lt_rf : bf < X3.heap.size := rf.lt
  have lt_rt : bt < X3.heap.size := rt.lt
  have lt_rb : bb < X3.heap.size := rb.lt
  obtain ⟨D, hD⟩ : ∃ D : List (Tmp × SP), D = [(14, SP.is (.agg LP.toArray)), (15, SP.is (.agg LP.toArray)), (16, SP.is (.agg (vB fr).toArray)), (17, SP.is (.string (bKt t fr))), (18, SP.is (.agg LB.toArray)), (19, SP.is (.tuple #[.agg N0.toArray, .int .i64 85])), (13, SP.is (.tuple #[.agg N0.toArray, .int .i64 85])), (20, SP.is (.agg N0.toArray)), (21, SP.is (.int .i64 85)), (10, SP.any), (1000, SP.any), (11, SP.is (.int .i64 85))] := ⟨_, rfl⟩
  refine wp_region_then (by kernel_rfl) 5 (by decide) (by kernel_rfl) (fun listed ac W => Fp D a0 listed ac W ∧ Below X3.heap.size X3 W ∧ Row W bp LP 58 ∧ Row W bf ((vB fr)) 33 ∧ Row W bt ((vB tw)) 33 ∧ Row W bb LB 25 ∧ Lg w0 W S (q) f ∧ Kp w W ∧ (listed.getD 9 false = true → ∃ N, ac.eval (.tmp 10) = .pointer (some ⟨N, 0, none⟩) ∧ X3.heap.size ≤ N ∧ Row W N zL 65)) (fun listed ac W => Fp D a0 listed ac W ∧ X3.heap.size ≤ W.heap.size ∧ Row W bp LP 58 ∧ Row W bf ((vB fr)) 33 ∧ Row W bt ((vB tw)) 33 ∧ Row W bb LB 25 ∧ Lg w0 W S (q + 1) f ∧ Kp w W ∧ (listed.getD 9 false = true → ∃ N, ac.eval (.tmp 10) = .pointer (some ⟨N, 0, none⟩) ∧ X3.heap.size ≤ N ∧ Row W N (if listed.getD 10 false = true then N0 else zL) 65)) ?_ ?_ ?_ ?_ ?_
  · exact ⟨Fp.start D a0 _ _, Below.drew hb1, Row.drew rp, Row.drew rf, Row.drew rt, Row.drew rb, hG.below (Below.drew (Below.refl _ _)), hK.below (Below.drew (Below.refl _ _)), (fun h => (start_no h).elim)⟩
  · clear ha0 hb1 rp rf rt rb hG hK
    intro listed ac W k hl hI hdn hk hne hnl
    replace hl : listed.size = 12 := hl
    obtain ⟨hF, hb1, rp, rf, rt, rb, hG, hK, al9⟩ := hI
    have hk1 : k < 12 := List.mem_range.1 (List.mem_filter.1 hk).1
    rcases (show k = 0 ∨ k = 1 ∨ k = 2 ∨ k = 3 ∨ k = 4 ∨ k = 5 ∨ k = 6 ∨ k = 7 ∨ k = 8 ∨ k = 9 ∨ k = 10 ∨ k = 11 by omega) with rfl | rfl | rfl | rfl | rfl | rfl | rfl | rfl | rfl | rfl | rfl | rfl
    · have hk3 := hk
      exact wpOp_plain rfl rfl (wp_load_mid 58 (.tmp 4) rfl bp 0 ((hF.keep 4 (by rw [hD]; rfl)).trans zs4) LP _ rp.all Tryd.underlying58 rfl HLPI.out ⟨(hF.put 0 14 (SP.is (.agg LP.toArray)) (.agg LP.toArray) (by rw [hD]; rfl) rfl (by rw [hD]; rfl) (by rw [hsz]; decide) (by rw [hl]; decide)), hb1, rp, rf, rt, rb, hG, hK, (fun h => by obtain ⟨N, e, hN, r⟩ := al9 (by rwa [getD_set _ _ _ (by decide)] at h); exact ⟨N, (eval_put_other ac _ (by decide)).trans e, hN, r⟩)⟩)
    · have hk3 := hk
      exact wpOp_plain rfl rfl (wp_load_mid 58 (.tmp 4) rfl bp 0 ((hF.keep 4 (by rw [hD]; rfl)).trans zs4) LP _ rp.all Tryd.underlying58 rfl HLPI.out ⟨(hF.put 1 15 (SP.is (.agg LP.toArray)) (.agg LP.toArray) (by rw [hD]; rfl) rfl (by rw [hD]; rfl) (by rw [hsz]; decide) (by rw [hl]; decide)), hb1, rp, rf, rt, rb, hG, hK, (fun h => by obtain ⟨N, e, hN, r⟩ := al9 (by rwa [getD_set _ _ _ (by decide)] at h); exact ⟨N, (eval_put_other ac _ (by decide)).trans e, hN, r⟩)⟩)
    · have hk3 := hk
      exact wpOp_plain rfl rfl (wp_load_mid 33 (.tmp 5) rfl bf 0 ((hF.keep 5 (by rw [hD]; rfl)).trans zs5) ((vB fr)) _ rf.all Tryd.underlying33 rfl HIf.out ⟨(hF.put 2 16 (SP.is (.agg (vB fr).toArray)) (.agg (vB fr).toArray) (by rw [hD]; rfl) rfl (by rw [hD]; rfl) (by rw [hsz]; decide) (by rw [hl]; decide)), hb1, rp, rf, rt, rb, hG, hK, (fun h => by obtain ⟨N, e, hN, r⟩ := al9 (by rwa [getD_set _ _ _ (by decide)] at h); exact ⟨N, (eval_put_other ac _ (by decide)).trans e, hN, r⟩)⟩)
    · have hk3 := hk
      have ea0 := (hF.done 1 (15, SP.is (.agg LP.toArray)) (by rw [hD]; rfl) (ready_dep hk 1 (by kernel_rfl)))
      have ea1 := (hF.done 2 (16, SP.is (.agg (vB fr).toArray)) (by rw [hD]; rfl) (ready_dep hk 2 (by kernel_rfl)))
      refine wpOp_plain rfl rfl (wp_fcall_v 26 #[.agg LP.toArray, .agg (vB fr).toArray] rfl rfl (by show [ac.eval (.tmp 15), ac.eval (.tmp 16)] = _; rw [show ac.eval (.tmp 15) = .agg LP.toArray from ea0, show ac.eval (.tmp 16) = .agg (vB fr).toArray from ea1]) (by go_simp) (((show Calls Tryd.prog 26 #[.agg LP.toArray, .agg (vB fr).toArray] W _ from HKf.out W)).mono ?_))
      rintro e W2 ⟨rfl, hB⟩
      exact ⟨_, rfl, ((hF.world hB).put 3 17 (SP.is (.string (bKt t fr))) (.string (bKt t fr)) (by rw [hD]; rfl) rfl (by rw [hD]; rfl) (by rw [hsz]; decide) (by rw [hl]; decide)), hb1.trans (hB.mono hb1.size), Row.below rp hB (Row.lt rp), Row.below rf hB (Row.lt rf), Row.below rt hB (Row.lt rt), Row.below rb hB (Row.lt rb), hG.below hB, hK.below hB, (fun h => by obtain ⟨N, e, hN, r⟩ := al9 (by rwa [getD_set _ _ _ (by decide)] at h); exact ⟨N, (eval_put_other ac _ (by decide)).trans e, hN, Row.below r hB (Row.lt r)⟩)⟩
    · have hk3 := hk
      exact wpOp_plain rfl rfl (wp_load_mid 25 (.tmp 7) rfl bb 0 ((hF.keep 7 (by rw [hD]; rfl)).trans zs7) LB _ rb.all Tryd.underlying25 rfl HLBI.out ⟨(hF.put 4 18 (SP.is (.agg LB.toArray)) (.agg LB.toArray) (by rw [hD]; rfl) rfl (by rw [hD]; rfl) (by rw [hsz]; decide) (by rw [hl]; decide)), hb1, rp, rf, rt, rb, hG, hK, (fun h => by obtain ⟨N, e, hN, r⟩ := al9 (by rwa [getD_set _ _ _ (by decide)] at h); exact ⟨N, (eval_put_other ac _ (by decide)).trans e, hN, r⟩)⟩)
    · exact absurd rfl hne
    · exact absurd (ready_dep hk 5 (by kernel_rfl)) hnl
    · exact absurd (hdn 6 (ready_dep hk 6 (by kernel_rfl)) 5 (by kernel_rfl)) hnl
    · exact absurd (hdn 6 (ready_dep hk 6 (by kernel_rfl)) 5 (by kernel_rfl)) hnl
    · have hk3 := hk
      have hB : Below W.heap.size W (W.alloc (Obj.cells zL.toArray 65)) := (Below.refl _ _).alloc (Nat.le_refl _) _
      exact wpOp_plain rfl rfl (wp_allocLn rfl ⟨((hF.world hB).put 9 10 (SP.any) (.pointer (some ⟨W.heap.size, 0, none⟩)) (by rw [hD]; rfl) trivial (by rw [hD]; rfl) (by rw [hsz]; decide) (by rw [hl]; decide)), hb1.trans (hB.mono hb1.size), Row.alloc rp _, Row.alloc rf _, Row.alloc rt _, Row.alloc rb _, hG.below hB, hK.below hB, (fun _ => ⟨W.heap.size, eval_put_same ac _ (by rw [hF.size, hsz]; decide), hb1.size, Row.new' rfl rfl⟩)⟩)
    · exact absurd (hdn 6 (hdn 7 (ready_dep hk 7 (by kernel_rfl)) 6 (by kernel_rfl)) 5 (by kernel_rfl)) hnl
    · exact absurd (hdn 6 (hdn 8 (ready_dep hk 8 (by kernel_rfl)) 6 (by kernel_rfl)) 5 (by kernel_rfl)) hnl
  · clear ha0 hb1 rp rf rt rb hG hK
    intro listed ac W hl hI hdn hk
    replace hl : listed.size = 12 := hl
    obtain ⟨hF, hb1, rp, rf, rt, rb, hG, hK, al9⟩ := hI
    have eb1 := (hF.done 0 (14, SP.is (.agg LP.toArray)) (by rw [hD]; rfl) (ready_dep hk 0 (by kernel_rfl)))
    have eb2 := (hF.done 3 (17, SP.is (.string (bKt t fr))) (by rw [hD]; rfl) (ready_dep hk 3 (by kernel_rfl)))
    have eb3 := (hF.done 4 (18, SP.is (.agg LB.toArray)) (by rw [hD]; rfl) (ready_dep hk 4 (by kernel_rfl)))
    have hns10 : ¬ listed.getD 10 false = true := fun h => not_yet hk (hdn 6 (hdn 7 (hdn 10 h 7 (by kernel_rfl)) 6 (by kernel_rfl)) 5 (by kernel_rfl))
    refine wpOp_plain rfl rfl (wp_fcall_v 34 #[.agg LP.toArray, .string (bKt t fr), .agg LB.toArray, .int .i64 85] rfl rfl (by show [ac.eval (.tmp 14), ac.eval (.tmp 17), ac.eval (.tmp 18), .int .i64 85] = _; rw [show ac.eval (.tmp 14) = .agg LP.toArray from eb1, show ac.eval (.tmp 17) = .string (bKt t fr) from eb2, show ac.eval (.tmp 18) = .agg LB.toArray from eb3]) (by go_simp) ((HLE.out W hG).mono ?_))
    rintro e W2 ⟨rfl, hG2, hK2⟩
    have hT : Fp D a0 listed ac W2 := hF.turn (by rw [hD]; simp only [List.forall_mem_cons, List.not_mem_nil, false_implies, implies_true, and_true]; exact ⟨fun _ h => h, fun _ h => h, fun _ h => h, fun _ h => h, fun _ h => h, fun _ h => h, fun _ h => h, fun _ h => h, fun _ h => h, fun _ h => h, fun _ h => h, fun _ h => h⟩)
    exact ⟨_, rfl, (hT.put 5 19 (SP.is (.tuple #[.agg N0.toArray, .int .i64 85])) (_) (by rw [hD]; rfl) rfl (by rw [hD]; rfl) (by rw [hsz]; decide) (by rw [hl]; decide)), Nat.le_trans hb1.size hK2.size, hK2.row _ _ _ (by decide) rp, hK2.row _ _ _ (by decide) rf, hK2.row _ _ _ (by decide) rt, hK2.row _ _ _ (by decide) rb, hG2, hK.trans hK2, (fun h => by obtain ⟨N, e, hN, r⟩ := al9 (by rwa [getD_set _ _ _ (by decide)] at h); exact ⟨N, (eval_put_other ac _ (by decide)).trans e, hN, by rw [getD_set _ _ _ (by decide), if_neg hns10]; exact hK2.row _ _ _ (by decide) r⟩)⟩
  · clear ha0 hb1 rp rf rt rb hG hK
    intro listed ac W k hl hJ hdn hk hne hyl
    replace hl : listed.size = 12 := hl
    obtain ⟨hF, hS, rp, rf, rt, rb, hG, hK, al9⟩ := hJ
    have hk1 : k < 12 := List.mem_range.1 (List.mem_filter.1 hk).1
    rcases (show k = 0 ∨ k = 1 ∨ k = 2 ∨ k = 3 ∨ k = 4 ∨ k = 5 ∨ k = 6 ∨ k = 7 ∨ k = 8 ∨ k = 9 ∨ k = 10 ∨ k = 11 by omega) with rfl | rfl | rfl | rfl | rfl | rfl | rfl | rfl | rfl | rfl | rfl | rfl
    · exact absurd (hdn 5 hyl 0 (by kernel_rfl)) (not_yet hk)
    · exact absurd (hdn 3 (hdn 5 hyl 3 (by kernel_rfl)) 1 (by kernel_rfl)) (not_yet hk)
    · exact absurd (hdn 3 (hdn 5 hyl 3 (by kernel_rfl)) 2 (by kernel_rfl)) (not_yet hk)
    · exact absurd (hdn 5 hyl 3 (by kernel_rfl)) (not_yet hk)
    · exact absurd (hdn 5 hyl 4 (by kernel_rfl)) (not_yet hk)
    · exact absurd rfl hne
    · have hk3 := hk
      exact wpOp_plain rfl rfl (wp_move_v (ac.eval (.tmp 19)) rfl rfl ⟨(hF.put 6 13 (SP.is (.tuple #[.agg N0.toArray, .int .i64 85])) (ac.eval (.tmp 19)) (by rw [hD]; rfl) ((hF.done 5 (19, SP.is (.tuple #[.agg N0.toArray, .int .i64 85])) (by rw [hD]; rfl) (ready_dep hk 5 (by kernel_rfl)))) (by rw [hD]; rfl) (by rw [hsz]; decide) (by rw [hl]; decide)), hS, rp, rf, rt, rb, hG, hK, (fun h => by obtain ⟨N, e, hN, r⟩ := al9 (by rwa [getD_set _ _ _ (by decide)] at h); exact ⟨N, (eval_put_other ac _ (by decide)).trans e, hN, by rw [getD_set _ _ _ (by decide)]; exact r⟩)⟩)
    · have hk3 := hk
      exact wpOp_plain rfl rfl (wp_extract (.tmp 13) 0 rfl _ (hF.done 6 (13, SP.is (.tuple #[.agg N0.toArray, .int .i64 85])) (by rw [hD]; rfl) (ready_dep hk 6 (by kernel_rfl))) (.agg N0.toArray) rfl ⟨(hF.put 7 20 (SP.is (.agg N0.toArray)) (.agg N0.toArray) (by rw [hD]; rfl) rfl (by rw [hD]; rfl) (by rw [hsz]; decide) (by rw [hl]; decide)), hS, rp, rf, rt, rb, hG, hK, (fun h => by obtain ⟨N, e, hN, r⟩ := al9 (by rwa [getD_set _ _ _ (by decide)] at h); exact ⟨N, (eval_put_other ac _ (by decide)).trans e, hN, by rw [getD_set _ _ _ (by decide)]; exact r⟩)⟩)
    · have hk3 := hk
      exact wpOp_plain rfl rfl (wp_extract (.tmp 13) 1 rfl _ (hF.done 6 (13, SP.is (.tuple #[.agg N0.toArray, .int .i64 85])) (by rw [hD]; rfl) (ready_dep hk 6 (by kernel_rfl))) (.int .i64 85) rfl ⟨(hF.put 8 21 (SP.is (.int .i64 85)) (.int .i64 85) (by rw [hD]; rfl) rfl (by rw [hD]; rfl) (by rw [hsz]; decide) (by rw [hl]; decide)), hS, rp, rf, rt, rb, hG, hK, (fun h => by obtain ⟨N, e, hN, r⟩ := al9 (by rwa [getD_set _ _ _ (by decide)] at h); exact ⟨N, (eval_put_other ac _ (by decide)).trans e, hN, by rw [getD_set _ _ _ (by decide)]; exact r⟩)⟩)
    · have hk3 := hk
      have hB : Below W.heap.size W (W.alloc (Obj.cells zL.toArray 65)) := (Below.refl _ _).alloc (Nat.le_refl _) _
      have hns : ¬ listed.getD 10 false = true := fun h => not_yet hk (hdn 10 h 9 (by kernel_rfl))
      exact wpOp_plain rfl rfl (wp_allocLn rfl ⟨((hF.world hB).put 9 10 (SP.any) (.pointer (some ⟨W.heap.size, 0, none⟩)) (by rw [hD]; rfl) trivial (by rw [hD]; rfl) (by rw [hsz]; decide) (by rw [hl]; decide)), Nat.le_trans hS hB.size, Row.alloc rp _, Row.alloc rf _, Row.alloc rt _, Row.alloc rb _, hG.below hB, hK.below hB, (fun _ => ⟨W.heap.size, eval_put_same ac _ (by rw [hF.size, hsz]; decide), hS, (by rw [getD_set _ _ _ (by decide), if_neg hns]; exact Row.new' rfl rfl)⟩)⟩)
    · have hk3 := hk
      obtain ⟨N, e, hN, r⟩ := al9 (ready_dep hk 9 (by kernel_rfl))
      rw [if_neg (not_yet hk)] at r
      have hT : Fp D a0 listed ac (W.setCells N 0 N0) := hF.turn (by rw [hD]; simp only [List.forall_mem_cons, List.not_mem_nil, false_implies, implies_true, and_true]; exact ⟨fun _ h => h, fun _ h => h, fun _ h => h, fun _ h => h, fun _ h => h, fun _ h => h, fun _ h => h, fun _ h => h, fun _ h => h, fun _ h => h, fun _ h => h, fun _ h => h⟩)
      exact wpOp_plain rfl rfl (wp_store_mid 65 (.tmp 10) (.tmp 20) rfl N 0 N0.toArray e (hF.done 7 (20, SP.is (.agg N0.toArray)) (by rw [hD]; rfl) (ready_dep hk 7 (by kernel_rfl))) (r.there 0 _ (by rw [List.size_toArray, HN0N.out]; decide)) HN0J.out HN0O.out ⟨(hT.skip 10 1000 (by rw [hD]; rfl) (by rw [hl]; decide)), (by rw [size_setCells]; exact hS), Row.setCells_other rp _ _ _ (by omega), Row.setCells_other rf _ _ _ (by omega), Row.setCells_other rt _ _ _ (by omega), Row.setCells_other rb _ _ _ (by omega), hG.kept r (by decide) (by decide) (by decide) (by decide) (fun k hk => heap_sets _ _ _ _ _ hk) (below_setCells hG.bel (Nat.le_trans hw0 hN) _), Kp.kept N (Nat.le_trans hwf hN) hK (fun k hk => heap_sets _ _ _ _ _ hk) (below_setCells (Below.refl 0 _) (Nat.zero_le N) _).size, (fun _ => ⟨N, e, hN, by rw [if_pos (getD_same (by rw [hl]; decide))]; exact r.over HN0N.out⟩)⟩)
    · have hk3 := hk
      exact wpOp_plain rfl rfl (wp_assign_v (ac.eval (.tmp 21)) rfl rfl ⟨(hF.put 11 11 (SP.is (.int .i64 85)) (ac.eval (.tmp 21)) (by rw [hD]; rfl) ((hF.done 8 (21, SP.is (.int .i64 85)) (by rw [hD]; rfl) (ready_dep hk 8 (by kernel_rfl)))) (by rw [hD]; rfl) (by rw [hsz]; decide) (by rw [hl]; decide)), hS, rp, rf, rt, rb, hG, hK, (fun h => by obtain ⟨N, e, hN, r⟩ := al9 (by rwa [getD_set _ _ _ (by decide)] at h); exact ⟨N, (eval_put_other ac _ (by decide)).trans e, hN, by rw [getD_set _ _ _ (by decide)]; exact r⟩)⟩)
  · clear hb1 rp rf rt rb hG hK
    intro listed ac W hl hJ hr
    replace hl : listed.size = 12 := hl
    obtain ⟨hF, hS, rp, rf, rt, rb, hG, hK, al9⟩ := hJ
    have hall := all_listed (by kernel_rfl) hl hr
    obtain ⟨NL, ea10, hNL, rNL⟩ := al9 (hall 9 (by decide))
    rw [if_pos (hall 10 (by decide))] at rNL
    have h14 : ac.eval (.tmp 14) = .agg LP.toArray := hF.done 0 (14, SP.is (.agg LP.toArray)) (by rw [hD]; rfl) (hall 0 (by decide))
    have h15 : ac.eval (.tmp 15) = .agg LP.toArray := hF.done 1 (15, SP.is (.agg LP.toArray)) (by rw [hD]; rfl) (hall 1 (by decide))
    have h16 : ac.eval (.tmp 16) = .agg (vB fr).toArray := hF.done 2 (16, SP.is (.agg (vB fr).toArray)) (by rw [hD]; rfl) (hall 2 (by decide))
    have h17 : ac.eval (.tmp 17) = .string (bKt t fr) := hF.done 3 (17, SP.is (.string (bKt t fr))) (by rw [hD]; rfl) (hall 3 (by decide))
    have h18 : ac.eval (.tmp 18) = .agg LB.toArray := hF.done 4 (18, SP.is (.agg LB.toArray)) (by rw [hD]; rfl) (hall 4 (by decide))
    have h19 : ac.eval (.tmp 19) = .tuple #[.agg N0.toArray, .int .i64 85] := hF.done 5 (19, SP.is (.tuple #[.agg N0.toArray, .int .i64 85])) (by rw [hD]; rfl) (hall 5 (by decide))
    have h13 : ac.eval (.tmp 13) = .tuple #[.agg N0.toArray, .int .i64 85] := hF.done 6 (13, SP.is (.tuple #[.agg N0.toArray, .int .i64 85])) (by rw [hD]; rfl) (hall 6 (by decide))
    have h20 : ac.eval (.tmp 20) = .agg N0.toArray := hF.done 7 (20, SP.is (.agg N0.toArray)) (by rw [hD]; rfl) (hall 7 (by decide))
    have h21 : ac.eval (.tmp 21) = .int .i64 85 := hF.done 8 (21, SP.is (.int .i64 85)) (by rw [hD]; rfl) (hall 8 (by decide))
    have h11 : ac.eval (.tmp 11) = .int .i64 85 := hF.done 11 (11, SP.is (.int .i64 85)) (by rw [hD]; rfl) (hall 11 (by decide))
    have ea := hF.lay [(14, .agg LP.toArray), (15, .agg LP.toArray), (16, .agg (vB fr).toArray), (17, .string (bKt t fr)), (18, .agg LB.toArray), (19, .tuple #[.agg N0.toArray, .int .i64 85]), (13, .tuple #[.agg N0.toArray, .int .i64 85]), (20, .agg N0.toArray), (21, .int .i64 85), (10, .pointer (some ⟨NL, 0, none⟩)), (11, .int .i64 85)] (by rw [hD, hsz]; rfl) (by simp only [List.forall_mem_cons, List.not_mem_nil, false_implies, implies_true, and_true]; exact ⟨h14, h15, h16, h17, h18, h19, h13, h20, h21, ea10, h11⟩)
    rw [ha0] at ea
    simp only [List.foldl_cons, List.foldl_nil, List.setIfInBounds_toArray, List.set_cons_zero, List.set_cons_succ] at ea
    clear hF hall hr hl hD zs4 zs5 zs6 zs7 ha0 hsz h14 h15 h16 h17 h18 h19 h13 h20 h21 ea10 h11 al9 lt_rp lt_rf lt_rt lt_rb
    subst ea
    have HG : Hid (Lg w0 W S (q + 1) f) := hG
    have HK : Hid (Kp w W) := hK
    clear hG hK rp rf rt rb hS rNL hNL hw0 hwf
    go_wp2_with fail
    go_ret2
    exact ⟨rfl, HG.out, HK.out⟩
set_option maxRecDepth 100000 in
set_option maxHeartbeats 4000000 in
theorem mvS (w0 : World) (S q : Nat) (f : ByteArray → List (BitVec 8)) (hq : q < 999980) (t : Nat) (ht : t < 64) (fr tw : List (BitVec 8)) (h1 : fr.length = 20) (h2 : tw.length = 20) (a b : Nat) (ha : a < 2 ^ 256) (hb : b < 2 ^ 256) (haf : f (bKt t fr) = enc a) (hab : b ≤ a) (hft : fr = tw) (LP LB : List Value) (hLP : LP = pgl S t) (hLB : LB = wq b) (w : World) (h : Lg w0 w S q f) :
    Calls Tryd.prog 28 #[.agg LP.toArray, .agg (vB fr).toArray, .agg (vB tw).toArray, .agg LB.toArray] w fun e w' => e = .returned (.tuple #[.slice none 0 0, .int .i64 0]) ∧ Lg w0 w' S (q + 1) f ∧ Kp w w' := by
  obtain ⟨N0, hN0⟩ : ∃ L : List Value, L = lnl (bKt t fr) (a - b) := ⟨_, rfl⟩
  have HN0E : Hid (N0 = lnl (bKt t fr) (a - b)) := hN0
  have HN0I : Hid ((Tryd.prog.info? 65).map (·.size) = some N0.length) := by show _ = _; rw [hN0]; exact info_lnl _ _
  have HN0J : Hid ((Tryd.prog.info? 65).map (·.size) = some N0.toArray.size) := by show _ = _; rw [List.size_toArray, hN0]; exact info_lnl _ _
  have HN0N : Hid (N0.length = zL.length) := by show _ = _; rw [hN0]; exact lnl_len _ _
  have HN0O : Hid (N0.toArray.all (·.oneCell') = true) := by show _ = true; rw [hN0]; exact lnl_one _ _
  have HLPE : Hid (LP = pgl S t) := hLP
  have HLPI : Hid ((Tryd.prog.info? 58).map (·.size) = some LP.length) := by show _ = _; rw [hLP]; exact info_pgl S t
  have HLPJ : Hid ((Tryd.prog.info? 58).map (·.size) = some LP.toArray.size) := by show _ = _; rw [List.size_toArray, hLP]; exact info_pgl S t
  have HLPN : Hid (LP.length = zP.length) := by show _ = _; rw [hLP]; exact rfl
  have HLPO : Hid (LP.toArray.all (·.oneCell') = true) := by show _ = true; rw [hLP]; exact pgl_one S t
  have HLBE : Hid (LB = wq b) := hLB
  have HLBI : Hid ((Tryd.prog.info? 25).map (·.size) = some LB.length) := by show _ = _; rw [hLB]; exact info_wq _
  have HLBJ : Hid ((Tryd.prog.info? 25).map (·.size) = some LB.toArray.size) := by show _ = _; rw [List.size_toArray, hLB]; exact info_wq _
  have HLBN : Hid (LB.length = zW.length) := by show _ = _; rw [hLB]; exact wq_len _
  have HLBO : Hid (LB.toArray.all (·.oneCell') = true) := by show _ = true; rw [hLB]; exact wq_one _
  have HIf : Hid ((Tryd.prog.info? 33).map (·.size) = some (vB fr).length) := info_adr h1
  have HIt : Hid ((Tryd.prog.info? 33).map (·.size) = some (vB tw).length) := info_adr h2
  have HLf : Hid (fr.length = 20) := h1
  have HLt : Hid (tw.length = 20) := h2
  have HKf : Hid (∀ W, Calls Tryd.prog 26 #[.agg LP.toArray, .agg (vB fr).toArray] W fun e w' => e = .returned (.string (bKt t fr)) ∧ Below W.heap.size W w') := fun W => bkeyG S t ht fr h1 LP hLP W
  have HKt : Hid (∀ W, Calls Tryd.prog 26 #[.agg LP.toArray, .agg (vB tw).toArray] W fun e w' => e = .returned (.string (bKt t tw)) ∧ Below W.heap.size W w') := fun W => bkeyG S t ht tw h2 LP hLP W
  have HLE : Hid (∀ W, Lg w0 W S q f → Calls Tryd.prog 34 #[.agg LP.toArray, .string (bKt t fr), .agg LB.toArray, .int .i64 85] W fun e w' => e = .returned (.tuple #[.agg N0.toArray, .int .i64 0]) ∧ Lg w0 w' S (q + 1) f ∧ Kp W w') := fun W hW => les w0 S q f (by omega) t (bKt t fr) (bKt_key t h1) a b ha hb hab haf LP LB hLP hLB N0 hN0 85 W hW
  have HNE : Hid (decide (fr = tw) = true) := decide_eq_true hft
  have HG : Hid (Lg w0 w S q f) := h
  have HW0 : Hid (w0.heap.size ≤ w.heap.size) := h.bel.size
  clear hLP hLB h1 h2 hq ht ha hb haf h hab hN0 hft
  go_enter Tryd.func28, Tryd.ntmps28
  go_upto_region 1 with (first
    | (refine wpList_boxG 58 rfl (.tmp 0) rfl LP rfl ?_; intro X0 q1 q2 q3; have Q0 : Hid (Row X0 _ LP 58) := q1; have B0 : Hid (Below _ _ X0) := q2; clear q1 q2 q3; simp only [Act.put, List.setIfInBounds_toArray, List.set_cons_zero, List.set_cons_succ])
    | (refine wpList_boxG 33 rfl (.tmp 1) rfl (vB fr) rfl ?_; intro X1 q1 q2 q3; have Q1 : Hid (Row X1 _ (vB fr) 33) := q1; have B1 : Hid (Below _ _ X1) := q2; clear q1 q2 q3; simp only [Act.put, List.setIfInBounds_toArray, List.set_cons_zero, List.set_cons_succ])
    | (refine wpList_boxG 33 rfl (.tmp 2) rfl (vB tw) rfl ?_; intro X2 q1 q2 q3; have Q2 : Hid (Row X2 _ (vB tw) 33) := q1; have B2 : Hid (Below _ _ X2) := q2; clear q1 q2 q3; simp only [Act.put, List.setIfInBounds_toArray, List.set_cons_zero, List.set_cons_succ])
    | (refine wpList_boxG 25 rfl (.tmp 3) rfl LB rfl ?_; intro X3 q1 q2 q3; have Q3 : Hid (Row X3 _ LB 25) := q1; have B3 : Hid (Below _ _ X3) := q2; clear q1 q2 q3; simp only [Act.put, List.setIfInBounds_toArray, List.set_cons_zero, List.set_cons_succ]))
  obtain ⟨bp, hbp⟩ : ∃ b, b = w.heap.size := ⟨_, rfl⟩
  obtain ⟨bf, hbf⟩ : ∃ b, b = X0.heap.size := ⟨_, rfl⟩
  obtain ⟨bt, hbt⟩ : ∃ b, b = X1.heap.size := ⟨_, rfl⟩
  obtain ⟨bb, hbb⟩ : ∃ b, b = X2.heap.size := ⟨_, rfl⟩
  have c00 := B0.out
  have c01 := c00.trans (B1.out.mono c00.size)
  have c02 := c01.trans (B2.out.mono c01.size)
  have c03 := c02.trans (B3.out.mono c02.size)
  have c11 := B1.out
  have c12 := c11.trans (B2.out.mono c11.size)
  have c13 := c12.trans (B3.out.mono c12.size)
  have c22 := B2.out
  have c23 := c22.trans (B3.out.mono c22.size)
  have c33 := B3.out
  have Rp : Hid (Row X3 bp LP 58) := by rw [hbp]; exact Row.below Q0.out c13 Q0.out.lt
  have HWbp : Hid (w.heap.size ≤ bp) := by show _ ≤ _; rw [hbp]; exact Nat.le_refl _
  have Rf : Hid (Row X3 bf (vB fr) 33) := by rw [hbf]; exact Row.below Q1.out c23 Q1.out.lt
  have HWbf : Hid (w.heap.size ≤ bf) := by show _ ≤ _; rw [hbf]; exact c00.size
  have Rt : Hid (Row X3 bt (vB tw) 33) := by rw [hbt]; exact Row.below Q2.out c33 Q2.out.lt
  have HWbt : Hid (w.heap.size ≤ bt) := by show _ ≤ _; rw [hbt]; exact c01.size
  have Rb : Hid (Row X3 bb LB 25) := by rw [hbb]; exact Q3.out
  have HWbb : Hid (w.heap.size ≤ bb) := by show _ ≤ _; rw [hbb]; exact c02.size
  have Nbpbf : Hid (bp ≠ bf) := by show _ ≠ _; have := Q0.out.lt; rw [hbp, hbf]; omega
  have Nbpbt : Hid (bp ≠ bt) := by show _ ≠ _; have := Q0.out.lt; rw [hbp, hbt]; have := c11.size; omega
  have Nbpbb : Hid (bp ≠ bb) := by show _ ≠ _; have := Q0.out.lt; rw [hbp, hbb]; have := c12.size; omega
  have Nbfbt : Hid (bf ≠ bt) := by show _ ≠ _; have := Q1.out.lt; rw [hbf, hbt]; omega
  have Nbfbb : Hid (bf ≠ bb) := by show _ ≠ _; have := Q1.out.lt; rw [hbf, hbb]; have := c22.size; omega
  have Nbtbb : Hid (bt ≠ bb) := by show _ ≠ _; have := Q2.out.lt; rw [hbt, hbb]; omega
  have BX : Hid (Below w.heap.size w X3) := c03
  rw [← hbp, ← hbf, ← hbt, ← hbb]
  clear hbp hbf hbt hbb c00 c01 c02 c03 c11 c12 c13 c22 c23 c33 Q0 B0 Q1 B1 Q2 B2 Q3 B3
  have rp := Rp.out
  have rf := Rf.out
  have rt := Rt.out
  have rb := Rb.out
  have hG := HG.out.be BX.out
  have hK := Kp.of_below BX.out
  have hw0 : w0.heap.size ≤ X3.heap.size := hG.bel.size
  have hwf : w.heap.size ≤ X3.heap.size := hK.size
  have hb1 := Below.refl X3.heap.size X3
  clear BX Rp Rf Rt Rb HG
  refine wp_named fun a0 ha0 => ?_
  have hsz : a0.tmps.size = 49 := by rw [ha0]; rfl
  have zs4 : a0.eval (.tmp 4) = .pointer (some ⟨bp, 0, none⟩) := by rw [ha0]; rfl
  have zs5 : a0.eval (.tmp 5) = .pointer (some ⟨bf, 0, none⟩) := by rw [ha0]; rfl
  have zs6 : a0.eval (.tmp 6) = .pointer (some ⟨bt, 0, none⟩) := by rw [ha0]; rfl
  have zs7 : a0.eval (.tmp 7) = .pointer (some ⟨bb, 0, none⟩) := by rw [ha0]; rfl
  have lt_rp : bp < X3.heap.size := rp.lt
  have lt_rf : bf < X3.heap.size := rf.lt
  have lt_rt : bt < X3.heap.size := rt.lt
  have lt_rb : bb < X3.heap.size := rb.lt
  obtain ⟨D, hD⟩ : ∃ D : List (Tmp × SP), D = [(14, SP.is (.agg LP.toArray)), (15, SP.is (.agg LP.toArray)), (16, SP.is (.agg (vB fr).toArray)), (17, SP.is (.string (bKt t fr))), (18, SP.is (.agg LB.toArray)), (19, SP.is (.tuple #[.agg N0.toArray, .int .i64 0])), (13, SP.is (.tuple #[.agg N0.toArray, .int .i64 0])), (20, SP.is (.agg N0.toArray)), (21, SP.is (.int .i64 0)), (10, SP.any), (1000, SP.any), (11, SP.is (.int .i64 0))] := ⟨_, rfl⟩
  refine wp_region_then (by kernel_rfl) 5 (by decide) (by kernel_rfl) (fun listed ac W => Fp D a0 listed ac W ∧ Below X3.heap.size X3 W ∧ Row W bp LP 58 ∧ Row W bf ((vB fr)) 33 ∧ Row W bt ((vB tw)) 33 ∧ Row W bb LB 25 ∧ Lg w0 W S (q) f ∧ Kp w W ∧ (listed.getD 9 false = true → ∃ N, ac.eval (.tmp 10) = .pointer (some ⟨N, 0, none⟩) ∧ X3.heap.size ≤ N ∧ Row W N zL 65)) (fun listed ac W => Fp D a0 listed ac W ∧ X3.heap.size ≤ W.heap.size ∧ Row W bp LP 58 ∧ Row W bf ((vB fr)) 33 ∧ Row W bt ((vB tw)) 33 ∧ Row W bb LB 25 ∧ Lg w0 W S (q + 1) f ∧ Kp w W ∧ (listed.getD 9 false = true → ∃ N, ac.eval (.tmp 10) = .pointer (some ⟨N, 0, none⟩) ∧ X3.heap.size ≤ N ∧ Row W N (if listed.getD 10 false = true then N0 else zL) 65)) ?_ ?_ ?_ ?_ ?_
  · exact ⟨Fp.start D a0 _ _, Below.drew hb1, Row.drew rp, Row.drew rf, Row.drew rt, Row.drew rb, hG.below (Below.drew (Below.refl _ _)), hK.below (Below.drew (Below.refl _ _)), (fun h => (start_no h).elim)⟩
  · clear ha0 hb1 rp rf rt rb hG hK
    intro listed ac W k hl hI hdn hk hne hnl
    replace hl : listed.size = 12 := hl
    obtain ⟨hF, hb1, rp, rf, rt, rb, hG, hK, al9⟩ := hI
    have hk1 : k < 12 := List.mem_range.1 (List.mem_filter.1 hk).1
    rcases (show k = 0 ∨ k = 1 ∨ k = 2 ∨ k = 3 ∨ k = 4 ∨ k = 5 ∨ k = 6 ∨ k = 7 ∨ k = 8 ∨ k = 9 ∨ k = 10 ∨ k = 11 by omega) with rfl | rfl | rfl | rfl | rfl | rfl | rfl | rfl | rfl | rfl | rfl | rfl
    · have hk3 := hk
      exact wpOp_plain rfl rfl (wp_load_mid 58 (.tmp 4) rfl bp 0 ((hF.keep 4 (by rw [hD]; rfl)).trans zs4) LP _ rp.all Tryd.underlying58 rfl HLPI.out ⟨(hF.put 0 14 (SP.is (.agg LP.toArray)) (.agg LP.toArray) (by rw [hD]; rfl) rfl (by rw [hD]; rfl) (by rw [hsz]; decide) (by rw [hl]; decide)), hb1, rp, rf, rt, rb, hG, hK, (fun h => by obtain ⟨N, e, hN, r⟩ := al9 (by rwa [getD_set _ _ _ (by decide)] at h); exact ⟨N, (eval_put_other ac _ (by decide)).trans e, hN, r⟩)⟩)
    · have hk3 := hk
      exact wpOp_plain rfl rfl (wp_load_mid 58 (.tmp 4) rfl bp 0 ((hF.keep 4 (by rw [hD]; rfl)).trans zs4) LP _ rp.all Tryd.underlying58 rfl HLPI.out ⟨(hF.put 1 15 (SP.is (.agg LP.toArray)) (.agg LP.toArray) (by rw [hD]; rfl) rfl (by rw [hD]; rfl) (by rw [hsz]; decide) (by rw [hl]; decide)), hb1, rp, rf, rt, rb, hG, hK, (fun h => by obtain ⟨N, e, hN, r⟩ := al9 (by rwa [getD_set _ _ _ (by decide)] at h); exact ⟨N, (eval_put_other ac _ (by decide)).trans e, hN, r⟩)⟩)
    · have hk3 := hk
      exact wpOp_plain rfl rfl (wp_load_mid 33 (.tmp 5) rfl bf 0 ((hF.keep 5 (by rw [hD]; rfl)).trans zs5) ((vB fr)) _ rf.all Tryd.underlying33 rfl HIf.out ⟨(hF.put 2 16 (SP.is (.agg (vB fr).toArray)) (.agg (vB fr).toArray) (by rw [hD]; rfl) rfl (by rw [hD]; rfl) (by rw [hsz]; decide) (by rw [hl]; decide)), hb1, rp, rf, rt, rb, hG, hK, (fun h => by obtain ⟨N, e, hN, r⟩ := al9 (by rwa [getD_set _ _ _ (by decide)] at h); exact ⟨N, (eval_put_other ac _ (by decide)).trans e, hN, r⟩)⟩)
    · have hk3 := hk
      have ea0 := (hF.done 1 (15, SP.is (.agg LP.toArray)) (by rw [hD]; rfl) (ready_dep hk 1 (by kernel_rfl)))
      have ea1 := (hF.done 2 (16, SP.is (.agg (vB fr).toArray)) (by rw [hD]; rfl) (ready_dep hk 2 (by kernel_rfl)))
      refine wpOp_plain rfl rfl (wp_fcall_v 26 #[.agg LP.toArray, .agg (vB fr).toArray] rfl rfl (by show [ac.eval (.tmp 15), ac.eval (.tmp 16)] = _; rw [show ac.eval (.tmp 15) = .agg LP.toArray from ea0, show ac.eval (.tmp 16) = .agg (vB fr).toArray from ea1]) (by go_simp) (((show Calls Tryd.prog 26 #[.agg LP.toArray, .agg (vB fr).toArray] W _ from HKf.out W)).mono ?_))
      rintro e W2 ⟨rfl, hB⟩
      exact ⟨_, rfl, ((hF.world hB).put 3 17 (SP.is (.string (bKt t fr))) (.string (bKt t fr)) (by rw [hD]; rfl) rfl (by rw [hD]; rfl) (by rw [hsz]; decide) (by rw [hl]; decide)), hb1.trans (hB.mono hb1.size), Row.below rp hB (Row.lt rp), Row.below rf hB (Row.lt rf), Row.below rt hB (Row.lt rt), Row.below rb hB (Row.lt rb), hG.below hB, hK.below hB, (fun h => by obtain ⟨N, e, hN, r⟩ := al9 (by rwa [getD_set _ _ _ (by decide)] at h); exact ⟨N, (eval_put_other ac _ (by decide)).trans e, hN, Row.below r hB (Row.lt r)⟩)⟩
    · have hk3 := hk
      exact wpOp_plain rfl rfl (wp_load_mid 25 (.tmp 7) rfl bb 0 ((hF.keep 7 (by rw [hD]; rfl)).trans zs7) LB _ rb.all Tryd.underlying25 rfl HLBI.out ⟨(hF.put 4 18 (SP.is (.agg LB.toArray)) (.agg LB.toArray) (by rw [hD]; rfl) rfl (by rw [hD]; rfl) (by rw [hsz]; decide) (by rw [hl]; decide)), hb1, rp, rf, rt, rb, hG, hK, (fun h => by obtain ⟨N, e, hN, r⟩ := al9 (by rwa [getD_set _ _ _ (by decide)] at h); exact ⟨N, (eval_put_other ac _ (by decide)).trans e, hN, r⟩)⟩)
    · exact absurd rfl hne
    · exact absurd (ready_dep hk 5 (by kernel_rfl)) hnl
    · exact absurd (hdn 6 (ready_dep hk 6 (by kernel_rfl)) 5 (by kernel_rfl)) hnl
    · exact absurd (hdn 6 (ready_dep hk 6 (by kernel_rfl)) 5 (by kernel_rfl)) hnl
    · have hk3 := hk
      have hB : Below W.heap.size W (W.alloc (Obj.cells zL.toArray 65)) := (Below.refl _ _).alloc (Nat.le_refl _) _
      exact wpOp_plain rfl rfl (wp_allocLn rfl ⟨((hF.world hB).put 9 10 (SP.any) (.pointer (some ⟨W.heap.size, 0, none⟩)) (by rw [hD]; rfl) trivial (by rw [hD]; rfl) (by rw [hsz]; decide) (by rw [hl]; decide)), hb1.trans (hB.mono hb1.size), Row.alloc rp _, Row.alloc rf _, Row.alloc rt _, Row.alloc rb _, hG.below hB, hK.below hB, (fun _ => ⟨W.heap.size, eval_put_same ac _ (by rw [hF.size, hsz]; decide), hb1.size, Row.new' rfl rfl⟩)⟩)
    · exact absurd (hdn 6 (hdn 7 (ready_dep hk 7 (by kernel_rfl)) 6 (by kernel_rfl)) 5 (by kernel_rfl)) hnl
    · exact absurd (hdn 6 (hdn 8 (ready_dep hk 8 (by kernel_rfl)) 6 (by kernel_rfl)) 5 (by kernel_rfl)) hnl
  · clear ha0 hb1 rp rf rt rb hG hK
    intro listed ac W hl hI hdn hk
    replace hl : listed.size = 12 := hl
    obtain ⟨hF, hb1, rp, rf, rt, rb, hG, hK, al9⟩ := hI
    have eb1 := (hF.done 0 (14, SP.is (.agg LP.toArray)) (by rw [hD]; rfl) (ready_dep hk 0 (by kernel_rfl)))
    have eb2 := (hF.done 3 (17, SP.is (.string (bKt t fr))) (by rw [hD]; rfl) (ready_dep hk 3 (by kernel_rfl)))
    have eb3 := (hF.done 4 (18, SP.is (.agg LB.toArray)) (by rw [hD]; rfl) (ready_dep hk 4 (by kernel_rfl)))
    have hns10 : ¬ listed.getD 10 false = true := fun h => not_yet hk (hdn 6 (hdn 7 (hdn 10 h 7 (by kernel_rfl)) 6 (by kernel_rfl)) 5 (by kernel_rfl))
    refine wpOp_plain rfl rfl (wp_fcall_v 34 #[.agg LP.toArray, .string (bKt t fr), .agg LB.toArray, .int .i64 85] rfl rfl (by show [ac.eval (.tmp 14), ac.eval (.tmp 17), ac.eval (.tmp 18), .int .i64 85] = _; rw [show ac.eval (.tmp 14) = .agg LP.toArray from eb1, show ac.eval (.tmp 17) = .string (bKt t fr) from eb2, show ac.eval (.tmp 18) = .agg LB.toArray from eb3]) (by go_simp) ((HLE.out W hG).mono ?_))
    rintro e W2 ⟨rfl, hG2, hK2⟩
    have hT : Fp D a0 listed ac W2 := hF.turn (by rw [hD]; simp only [List.forall_mem_cons, List.not_mem_nil, false_implies, implies_true, and_true]; exact ⟨fun _ h => h, fun _ h => h, fun _ h => h, fun _ h => h, fun _ h => h, fun _ h => h, fun _ h => h, fun _ h => h, fun _ h => h, fun _ h => h, fun _ h => h, fun _ h => h⟩)
    exact ⟨_, rfl, (hT.put 5 19 (SP.is (.tuple #[.agg N0.toArray, .int .i64 0])) (_) (by rw [hD]; rfl) rfl (by rw [hD]; rfl) (by rw [hsz]; decide) (by rw [hl]; decide)), Nat.le_trans hb1.size hK2.size, hK2.row _ _ _ (by decide) rp, hK2.row _ _ _ (by decide) rf, hK2.row _ _ _ (by decide) rt, hK2.row _ _ _ (by decide) rb, hG2, hK.trans hK2, (fun h => by obtain ⟨N, e, hN, r⟩ := al9 (by rwa [getD_set _ _ _ (by decide)] at h); exact ⟨N, (eval_put_other ac _ (by decide)).trans e, hN, by rw [getD_set _ _ _ (by decide), if_neg hns10]; exact hK2.row _ _ _ (by decide) r⟩)⟩
  · clear ha0 hb1 rp rf rt rb hG hK
    intro listed ac W k hl hJ hdn hk hne hyl
    replace hl : listed.size = 12 := hl
    obtain ⟨hF, hS, rp, rf, rt, rb, hG, hK, al9⟩ := hJ
    have hk1 : k < 12 := List.mem_range.1 (List.mem_filter.1 hk).1
    rcases (show k = 0 ∨ k = 1 ∨ k = 2 ∨ k = 3 ∨ k = 4 ∨ k = 5 ∨ k = 6 ∨ k = 7 ∨ k = 8 ∨ k = 9 ∨ k = 10 ∨ k = 11 by omega) with rfl | rfl | rfl | rfl | rfl | rfl | rfl | rfl | rfl | rfl | rfl | rfl
    · exact absurd (hdn 5 hyl 0 (by kernel_rfl)) (not_yet hk)
    · exact absurd (hdn 3 (hdn 5 hyl 3 (by kernel_rfl)) 1 (by kernel_rfl)) (not_yet hk)
    · exact absurd (hdn 3 (hdn 5 hyl 3 (by kernel_rfl)) 2 (by kernel_rfl)) (not_yet hk)
    · exact absurd (hdn 5 hyl 3 (by kernel_rfl)) (not_yet hk)
    · exact absurd (hdn 5 hyl 4 (by kernel_rfl)) (not_yet hk)
    · exact absurd rfl hne
    · have hk3 := hk
      exact wpOp_plain rfl rfl (wp_move_v (ac.eval (.tmp 19)) rfl rfl ⟨(hF.put 6 13 (SP.is (.tuple #[.agg N0.toArray, .int .i64 0])) (ac.eval (.tmp 19)) (by rw [hD]; rfl) ((hF.done 5 (19, SP.is (.tuple #[.agg N0.toArray, .int .i64 0])) (by rw [hD]; rfl) (ready_dep hk 5 (by kernel_rfl)))) (by rw [hD]; rfl) (by rw [hsz]; decide) (by rw [hl]; decide)), hS, rp, rf, rt, rb, hG, hK, (fun h => by obtain ⟨N, e, hN, r⟩ := al9 (by rwa [getD_set _ _ _ (by decide)] at h); exact ⟨N, (eval_put_other ac _ (by decide)).trans e, hN, by rw [getD_set _ _ _ (by decide)]; exact r⟩)⟩)
    · have hk3 := hk
      exact wpOp_plain rfl rfl (wp_extract (.tmp 13) 0 rfl _ (hF.done 6 (13, SP.is (.tuple #[.agg N0.toArray, .int .i64 0])) (by rw [hD]; rfl) (ready_dep hk 6 (by kernel_rfl))) (.agg N0.toArray) rfl ⟨(hF.put 7 20 (SP.is (.agg N0.toArray)) (.agg N0.toArray) (by rw [hD]; rfl) rfl (by rw [hD]; rfl) (by rw [hsz]; decide) (by rw [hl]; decide)), hS, rp, rf, rt, rb, hG, hK, (fun h => by obtain ⟨N, e, hN, r⟩ := al9 (by rwa [getD_set _ _ _ (by decide)] at h); exact ⟨N, (eval_put_other ac _ (by decide)).trans e, hN, by rw [getD_set _ _ _ (by decide)]; exact r⟩)⟩)
    · have hk3 := hk
      exact wpOp_plain rfl rfl (wp_extract (.tmp 13) 1 rfl _ (hF.done 6 (13, SP.is (.tuple #[.agg N0.toArray, .int .i64 0])) (by rw [hD]; rfl) (ready_dep hk 6 (by kernel_rfl))) (.int .i64 0) rfl ⟨(hF.put 8 21 (SP.is (.int .i64 0)) (.int .i64 0) (by rw [hD]; rfl) rfl (by rw [hD]; rfl) (by rw [hsz]; decide) (by rw [hl]; decide)), hS, rp, rf, rt, rb, hG, hK, (fun h => by obtain ⟨N, e, hN, r⟩ := al9 (by rwa [getD_set _ _ _ (by decide)] at h); exact ⟨N, (eval_put_other ac _ (by decide)).trans e, hN, by rw [getD_set _ _ _ (by decide)]; exact r⟩)⟩)
    · have hk3 := hk
      have hB : Below W.heap.size W (W.alloc (Obj.cells zL.toArray 65)) := (Below.refl _ _).alloc (Nat.le_refl _) _
      have hns : ¬ listed.getD 10 false = true := fun h => not_yet hk (hdn 10 h 9 (by kernel_rfl))
      exact wpOp_plain rfl rfl (wp_allocLn rfl ⟨((hF.world hB).put 9 10 (SP.any) (.pointer (some ⟨W.heap.size, 0, none⟩)) (by rw [hD]; rfl) trivial (by rw [hD]; rfl) (by rw [hsz]; decide) (by rw [hl]; decide)), Nat.le_trans hS hB.size, Row.alloc rp _, Row.alloc rf _, Row.alloc rt _, Row.alloc rb _, hG.below hB, hK.below hB, (fun _ => ⟨W.heap.size, eval_put_same ac _ (by rw [hF.size, hsz]; decide), hS, (by rw [getD_set _ _ _ (by decide), if_neg hns]; exact Row.new' rfl rfl)⟩)⟩)
    · have hk3 := hk
      obtain ⟨N, e, hN, r⟩ := al9 (ready_dep hk 9 (by kernel_rfl))
      rw [if_neg (not_yet hk)] at r
      have hT : Fp D a0 listed ac (W.setCells N 0 N0) := hF.turn (by rw [hD]; simp only [List.forall_mem_cons, List.not_mem_nil, false_implies, implies_true, and_true]; exact ⟨fun _ h => h, fun _ h => h, fun _ h => h, fun _ h => h, fun _ h => h, fun _ h => h, fun _ h => h, fun _ h => h, fun _ h => h, fun _ h => h, fun _ h => h, fun _ h => h⟩)
      exact wpOp_plain rfl rfl (wp_store_mid 65 (.tmp 10) (.tmp 20) rfl N 0 N0.toArray e (hF.done 7 (20, SP.is (.agg N0.toArray)) (by rw [hD]; rfl) (ready_dep hk 7 (by kernel_rfl))) (r.there 0 _ (by rw [List.size_toArray, HN0N.out]; decide)) HN0J.out HN0O.out ⟨(hT.skip 10 1000 (by rw [hD]; rfl) (by rw [hl]; decide)), (by rw [size_setCells]; exact hS), Row.setCells_other rp _ _ _ (by omega), Row.setCells_other rf _ _ _ (by omega), Row.setCells_other rt _ _ _ (by omega), Row.setCells_other rb _ _ _ (by omega), hG.kept r (by decide) (by decide) (by decide) (by decide) (fun k hk => heap_sets _ _ _ _ _ hk) (below_setCells hG.bel (Nat.le_trans hw0 hN) _), Kp.kept N (Nat.le_trans hwf hN) hK (fun k hk => heap_sets _ _ _ _ _ hk) (below_setCells (Below.refl 0 _) (Nat.zero_le N) _).size, (fun _ => ⟨N, e, hN, by rw [if_pos (getD_same (by rw [hl]; decide))]; exact r.over HN0N.out⟩)⟩)
    · have hk3 := hk
      exact wpOp_plain rfl rfl (wp_assign_v (ac.eval (.tmp 21)) rfl rfl ⟨(hF.put 11 11 (SP.is (.int .i64 0)) (ac.eval (.tmp 21)) (by rw [hD]; rfl) ((hF.done 8 (21, SP.is (.int .i64 0)) (by rw [hD]; rfl) (ready_dep hk 8 (by kernel_rfl)))) (by rw [hD]; rfl) (by rw [hsz]; decide) (by rw [hl]; decide)), hS, rp, rf, rt, rb, hG, hK, (fun h => by obtain ⟨N, e, hN, r⟩ := al9 (by rwa [getD_set _ _ _ (by decide)] at h); exact ⟨N, (eval_put_other ac _ (by decide)).trans e, hN, by rw [getD_set _ _ _ (by decide)]; exact r⟩)⟩)
  · clear hb1 rp rf rt rb hG hK
    intro listed ac W hl hJ hr
    replace hl : listed.size = 12 := hl
    obtain ⟨hF, hS, rp, rf, rt, rb, hG, hK, al9⟩ := hJ
    have hall := all_listed (by kernel_rfl) hl hr
    obtain ⟨NL, ea10, hNL, rNL⟩ := al9 (hall 9 (by decide))
    rw [if_pos (hall 10 (by decide))] at rNL
    have h14 : ac.eval (.tmp 14) = .agg LP.toArray := hF.done 0 (14, SP.is (.agg LP.toArray)) (by rw [hD]; rfl) (hall 0 (by decide))
    have h15 : ac.eval (.tmp 15) = .agg LP.toArray := hF.done 1 (15, SP.is (.agg LP.toArray)) (by rw [hD]; rfl) (hall 1 (by decide))
    have h16 : ac.eval (.tmp 16) = .agg (vB fr).toArray := hF.done 2 (16, SP.is (.agg (vB fr).toArray)) (by rw [hD]; rfl) (hall 2 (by decide))
    have h17 : ac.eval (.tmp 17) = .string (bKt t fr) := hF.done 3 (17, SP.is (.string (bKt t fr))) (by rw [hD]; rfl) (hall 3 (by decide))
    have h18 : ac.eval (.tmp 18) = .agg LB.toArray := hF.done 4 (18, SP.is (.agg LB.toArray)) (by rw [hD]; rfl) (hall 4 (by decide))
    have h19 : ac.eval (.tmp 19) = .tuple #[.agg N0.toArray, .int .i64 0] := hF.done 5 (19, SP.is (.tuple #[.agg N0.toArray, .int .i64 0])) (by rw [hD]; rfl) (hall 5 (by decide))
    have h13 : ac.eval (.tmp 13) = .tuple #[.agg N0.toArray, .int .i64 0] := hF.done 6 (13, SP.is (.tuple #[.agg N0.toArray, .int .i64 0])) (by rw [hD]; rfl) (hall 6 (by decide))
    have h20 : ac.eval (.tmp 20) = .agg N0.toArray := hF.done 7 (20, SP.is (.agg N0.toArray)) (by rw [hD]; rfl) (hall 7 (by decide))
    have h21 : ac.eval (.tmp 21) = .int .i64 0 := hF.done 8 (21, SP.is (.int .i64 0)) (by rw [hD]; rfl) (hall 8 (by decide))
    have h11 : ac.eval (.tmp 11) = .int .i64 0 := hF.done 11 (11, SP.is (.int .i64 0)) (by rw [hD]; rfl) (hall 11 (by decide))
    have ea := hF.lay [(14, .agg LP.toArray), (15, .agg LP.toArray), (16, .agg (vB fr).toArray), (17, .string (bKt t fr)), (18, .agg LB.toArray), (19, .tuple #[.agg N0.toArray, .int .i64 0]), (13, .tuple #[.agg N0.toArray, .int .i64 0]), (20, .agg N0.toArray), (21, .int .i64 0), (10, .pointer (some ⟨NL, 0, none⟩)), (11, .int .i64 0)] (by rw [hD, hsz]; rfl) (by simp only [List.forall_mem_cons, List.not_mem_nil, false_implies, implies_true, and_true]; exact ⟨h14, h15, h16, h17, h18, h19, h13, h20, h21, ea10, h11⟩)
    rw [ha0] at ea
    simp only [List.foldl_cons, List.foldl_nil, List.setIfInBounds_toArray, List.set_cons_zero, List.set_cons_succ] at ea
    clear hF hall hr hl hD zs4 zs5 zs6 zs7 ha0 hsz h14 h15 h16 h17 h18 h19 h13 h20 h21 ea10 h11 al9 lt_rp lt_rf lt_rt lt_rb
    subst ea
    obtain ⟨V, hV⟩ : ∃ V, V = W := ⟨_, rfl⟩
    rw [← hV]
    rw [← hV] at hG hK rp rf rt rb rNL hS
    have HG : Hid (Lg w0 V S (q + 1) f) := hG
    have HK : Hid (Kp w V) := hK
    have RP : Hid (Row V bp LP 58) := rp
    have RT : Hid (Row V bt (vB tw) 33) := rt
    have RQ : Hid (Row V bb LB 25) := rb
    have R9 : Hid (Row V NL N0 65) := rNL
    have SF : Hid (V.rangeAt bf 0 (vB fr)) := rf.all
    have ST_ : Hid (V.rangeAt bt 0 (vB tw)) := rt.all
    clear hV hG hK rp rf rt rb rNL hS hNL hw0 hwf
    go_wp2_with (first
      | (refine wpList_load_w rfl 33 (.tmp 5) rfl bf 0 rfl (vB fr) _ SF.out Tryd.underlying33 rfl HIf.out ?_; simp only [Act.put, List.setIfInBounds_toArray, List.set_cons_zero, List.set_cons_succ])
      | (refine wpList_load_w rfl 33 (.tmp 6) rfl bt 0 rfl (vB tw) _ ST_.out Tryd.underlying33 rfl HIt.out ?_; simp only [Act.put, List.setIfInBounds_toArray, List.set_cons_zero, List.set_cons_succ])
      | (refine wpList_eqlA rfl (.tmp 25) (.tmp 26) _ rfl fr tw HLf.out HLt.out rfl rfl true HNE.out ?_; simp only [Act.put, List.setIfInBounds_toArray, List.set_cons_zero, List.set_cons_succ]))
    go_ret2
    exact ⟨rfl, HG.out, HK.out⟩
set_option maxRecDepth 100000 in
set_option maxHeartbeats 4000000 in
theorem mvZ (w0 : World) (S q : Nat) (f : ByteArray → List (BitVec 8)) (hq : q < 999980) (t : Nat) (ht : t < 64) (fr tw : List (BitVec 8)) (h1 : fr.length = 20) (h2 : tw.length = 20) (a b : Nat) (ha : a < 2 ^ 256) (hb : b < 2 ^ 256) (haf : f (bKt t fr) = enc a) (hab : b ≤ a) (hb0 : b = 0) (hft : fr ≠ tw) (d : Nat) (hd : d < 2 ^ 256) (hdf : f (bKt t tw) = enc d) (LP LB : List Value) (hLP : LP = pgl S t) (hLB : LB = wq b) (w : World) (h : Lg w0 w S q f) :
    Calls Tryd.prog 28 #[.agg LP.toArray, .agg (vB fr).toArray, .agg (vB tw).toArray, .agg LB.toArray] w fun e w' => e = .returned (.tuple #[.slice none 0 0, .int .i64 0]) ∧ Lg w0 w' S (q + 1 + 1) f ∧ Kp w w' := by
  obtain ⟨N0, hN0⟩ : ∃ L : List Value, L = lnl (bKt t fr) (a - b) := ⟨_, rfl⟩
  obtain ⟨N1, hN1⟩ : ∃ L : List Value, L = lnl (bKt t tw) (d + b) := ⟨_, rfl⟩
  have HN0E : Hid (N0 = lnl (bKt t fr) (a - b)) := hN0
  have HN0I : Hid ((Tryd.prog.info? 65).map (·.size) = some N0.length) := by show _ = _; rw [hN0]; exact info_lnl _ _
  have HN0J : Hid ((Tryd.prog.info? 65).map (·.size) = some N0.toArray.size) := by show _ = _; rw [List.size_toArray, hN0]; exact info_lnl _ _
  have HN0N : Hid (N0.length = zL.length) := by show _ = _; rw [hN0]; exact lnl_len _ _
  have HN0O : Hid (N0.toArray.all (·.oneCell') = true) := by show _ = true; rw [hN0]; exact lnl_one _ _
  have HN1E : Hid (N1 = lnl (bKt t tw) (d + b)) := hN1
  have HN1I : Hid ((Tryd.prog.info? 65).map (·.size) = some N1.length) := by show _ = _; rw [hN1]; exact info_lnl _ _
  have HN1J : Hid ((Tryd.prog.info? 65).map (·.size) = some N1.toArray.size) := by show _ = _; rw [List.size_toArray, hN1]; exact info_lnl _ _
  have HN1N : Hid (N1.length = zL.length) := by show _ = _; rw [hN1]; exact lnl_len _ _
  have HN1O : Hid (N1.toArray.all (·.oneCell') = true) := by show _ = true; rw [hN1]; exact lnl_one _ _
  have HLPE : Hid (LP = pgl S t) := hLP
  have HLPI : Hid ((Tryd.prog.info? 58).map (·.size) = some LP.length) := by show _ = _; rw [hLP]; exact info_pgl S t
  have HLPJ : Hid ((Tryd.prog.info? 58).map (·.size) = some LP.toArray.size) := by show _ = _; rw [List.size_toArray, hLP]; exact info_pgl S t
  have HLPN : Hid (LP.length = zP.length) := by show _ = _; rw [hLP]; exact rfl
  have HLPO : Hid (LP.toArray.all (·.oneCell') = true) := by show _ = true; rw [hLP]; exact pgl_one S t
  have HLBE : Hid (LB = wq b) := hLB
  have HLBI : Hid ((Tryd.prog.info? 25).map (·.size) = some LB.length) := by show _ = _; rw [hLB]; exact info_wq _
  have HLBJ : Hid ((Tryd.prog.info? 25).map (·.size) = some LB.toArray.size) := by show _ = _; rw [List.size_toArray, hLB]; exact info_wq _
  have HLBN : Hid (LB.length = zW.length) := by show _ = _; rw [hLB]; exact wq_len _
  have HLBO : Hid (LB.toArray.all (·.oneCell') = true) := by show _ = true; rw [hLB]; exact wq_one _
  have HIf : Hid ((Tryd.prog.info? 33).map (·.size) = some (vB fr).length) := info_adr h1
  have HIt : Hid ((Tryd.prog.info? 33).map (·.size) = some (vB tw).length) := info_adr h2
  have HLf : Hid (fr.length = 20) := h1
  have HLt : Hid (tw.length = 20) := h2
  have HKf : Hid (∀ W, Calls Tryd.prog 26 #[.agg LP.toArray, .agg (vB fr).toArray] W fun e w' => e = .returned (.string (bKt t fr)) ∧ Below W.heap.size W w') := fun W => bkeyG S t ht fr h1 LP hLP W
  have HKt : Hid (∀ W, Calls Tryd.prog 26 #[.agg LP.toArray, .agg (vB tw).toArray] W fun e w' => e = .returned (.string (bKt t tw)) ∧ Below W.heap.size W w') := fun W => bkeyG S t ht tw h2 LP hLP W
  have HLE : Hid (∀ W, Lg w0 W S q f → Calls Tryd.prog 34 #[.agg LP.toArray, .string (bKt t fr), .agg LB.toArray, .int .i64 85] W fun e w' => e = .returned (.tuple #[.agg N0.toArray, .int .i64 0]) ∧ Lg w0 w' S (q + 1) f ∧ Kp W w') := fun W hW => les w0 S q f (by omega) t (bKt t fr) (bKt_key t h1) a b ha hb hab haf LP LB hLP hLB N0 hN0 85 W hW
  have HGR : Hid (∀ W, Lg w0 W S (q + 1) f → Calls Tryd.prog 25 #[.agg LP.toArray, .string (bKt t tw), .agg LB.toArray] W fun e w' => e = .returned (.tuple #[.agg N1.toArray, .int .i64 0]) ∧ Lg w0 w' S (q + 1 + 1) f ∧ Kp W w') := fun W hW => grt w0 S (q + 1) f (by omega) t (bKt t tw) (bKt_key t h2) d b hd hb (by rw [hb0]; exact hd) hdf LP LB hLP hLB N1 hN1 W hW
  have HZ : Hid (∀ W, Calls Tryd.prog 36 #[.agg LB.toArray] W fun e w' => e = .returned (.bool true) ∧ Below W.heap.size W w') := fun W => by rw [hLB]; exact zeroG W b hb _ (decide_eq_true hb0)
  have HNE : Hid (decide (fr = tw) = false) := decide_eq_false hft
  have HG : Hid (Lg w0 w S q f) := h
  have HW0 : Hid (w0.heap.size ≤ w.heap.size) := h.bel.size
  clear hLP hLB h1 h2 hq ht ha hb haf h hab hN0 hft hb0 hd hdf hN1
  go_enter Tryd.func28, Tryd.ntmps28
  go_upto_region 1 with (first
    | (refine wpList_boxG 58 rfl (.tmp 0) rfl LP rfl ?_; intro X0 q1 q2 q3; have Q0 : Hid (Row X0 _ LP 58) := q1; have B0 : Hid (Below _ _ X0) := q2; clear q1 q2 q3; simp only [Act.put, List.setIfInBounds_toArray, List.set_cons_zero, List.set_cons_succ])
    | (refine wpList_boxG 33 rfl (.tmp 1) rfl (vB fr) rfl ?_; intro X1 q1 q2 q3; have Q1 : Hid (Row X1 _ (vB fr) 33) := q1; have B1 : Hid (Below _ _ X1) := q2; clear q1 q2 q3; simp only [Act.put, List.setIfInBounds_toArray, List.set_cons_zero, List.set_cons_succ])
    | (refine wpList_boxG 33 rfl (.tmp 2) rfl (vB tw) rfl ?_; intro X2 q1 q2 q3; have Q2 : Hid (Row X2 _ (vB tw) 33) := q1; have B2 : Hid (Below _ _ X2) := q2; clear q1 q2 q3; simp only [Act.put, List.setIfInBounds_toArray, List.set_cons_zero, List.set_cons_succ])
    | (refine wpList_boxG 25 rfl (.tmp 3) rfl LB rfl ?_; intro X3 q1 q2 q3; have Q3 : Hid (Row X3 _ LB 25) := q1; have B3 : Hid (Below _ _ X3) := q2; clear q1 q2 q3; simp only [Act.put, List.setIfInBounds_toArray, List.set_cons_zero, List.set_cons_succ]))
  obtain ⟨bp, hbp⟩ : ∃ b, b = w.heap.size := ⟨_, rfl⟩
  obtain ⟨bf, hbf⟩ : ∃ b, b = X0.heap.size := ⟨_, rfl⟩
  obtain ⟨bt, hbt⟩ : ∃ b, b = X1.heap.size := ⟨_, rfl⟩
  obtain ⟨bb, hbb⟩ : ∃ b, b = X2.heap.size := ⟨_, rfl⟩
  have c00 := B0.out
  have c01 := c00.trans (B1.out.mono c00.size)
  have c02 := c01.trans (B2.out.mono c01.size)
  have c03 := c02.trans (B3.out.mono c02.size)
  have c11 := B1.out
  have c12 := c11.trans (B2.out.mono c11.size)
  have c13 := c12.trans (B3.out.mono c12.size)
  have c22 := B2.out
  have c23 := c22.trans (B3.out.mono c22.size)
  have c33 := B3.out
  have Rp : Hid (Row X3 bp LP 58) := by rw [hbp]; exact Row.below Q0.out c13 Q0.out.lt
  have HWbp : Hid (w.heap.size ≤ bp) := by show _ ≤ _; rw [hbp]; exact Nat.le_refl _
  have Rf : Hid (Row X3 bf (vB fr) 33) := by rw [hbf]; exact Row.below Q1.out c23 Q1.out.lt
  have HWbf : Hid (w.heap.size ≤ bf) := by show _ ≤ _; rw [hbf]; exact c00.size
  have Rt : Hid (Row X3 bt (vB tw) 33) := by rw [hbt]; exact Row.below Q2.out c33 Q2.out.lt
  have HWbt : Hid (w.heap.size ≤ bt) := by show _ ≤ _; rw [hbt]; exact c01.size
  have Rb : Hid (Row X3 bb LB 25) := by rw [hbb]; exact Q3.out
  have HWbb : Hid (w.heap.size ≤ bb) := by show _ ≤ _; rw [hbb]; exact c02.size
  have Nbpbf : Hid (bp ≠ bf) := by show _ ≠ _; have := Q0.out.lt; rw [hbp, hbf]; omega
  have Nbpbt : Hid (bp ≠ bt) := by show _ ≠ _; have := Q0.out.lt; rw [hbp, hbt]; have := c11.size; omega
  have Nbpbb : Hid (bp ≠ bb) := by show _ ≠ _; have := Q0.out.lt; rw [hbp, hbb]; have := c12.size; omega
  have Nbfbt : Hid (bf ≠ bt) := by show _ ≠ _; have := Q1.out.lt; rw [hbf, hbt]; omega
  have Nbfbb : Hid (bf ≠ bb) := by show _ ≠ _; have := Q1.out.lt; rw [hbf, hbb]; have := c22.size; omega
  have Nbtbb : Hid (bt ≠ bb) := by show _ ≠ _; have := Q2.out.lt; rw [hbt, hbb]; omega
  have BX : Hid (Below w.heap.size w X3) := c03
  rw [← hbp, ← hbf, ← hbt, ← hbb]
  clear hbp hbf hbt hbb c00 c01 c02 c03 c11 c12 c13 c22 c23 c33 Q0 B0 Q1 B1 Q2 B2 Q3 B3
  have rp := Rp.out
  have rf := Rf.out
  have rt := Rt.out
  have rb := Rb.out
  have hG := HG.out.be BX.out
  have hK := Kp.of_below BX.out
  have hw0 : w0.heap.size ≤ X3.heap.size := hG.bel.size
  have hwf : w.heap.size ≤ X3.heap.size := hK.size
  have hb1 := Below.refl X3.heap.size X3
  clear BX Rp Rf Rt Rb HG
  refine wp_named fun a0 ha0 => ?_
  have hsz : a0.tmps.size = 49 := by rw [ha0]; rfl
  have zs4 : a0.eval (.tmp 4) = .pointer (some ⟨bp, 0, none⟩) := by rw [ha0]; rfl
  have zs5 : a0.eval (.tmp 5) = .pointer (some ⟨bf, 0, none⟩) := by rw [ha0]; rfl
  have zs6 : a0.eval (.tmp 6) = .pointer (some ⟨bt, 0, none⟩) := by rw [ha0]; rfl
  have zs7 : a0.eval (.tmp 7) = .pointer (some ⟨bb, 0, none⟩) := by rw [ha0]; rfl
  have lt_rp : bp < X3.heap.size := rp.lt
  have lt_rf : bf < X3.heap.size := rf.lt
  have lt_rt : bt < X3.heap.size := rt.lt
  have lt_rb : bb < X3.heap.size := rb.lt
  obtain ⟨D, hD⟩ : ∃ D : List (Tmp × SP), D = [(14, SP.is (.agg LP.toArray)), (15, SP.is (.agg LP.toArray)), (16, SP.is (.agg (vB fr).toArray)), (17, SP.is (.string (bKt t fr))), (18, SP.is (.agg LB.toArray)), (19, SP.is (.tuple #[.agg N0.toArray, .int .i64 0])), (13, SP.is (.tuple #[.agg N0.toArray, .int .i64 0])), (20, SP.is (.agg N0.toArray)), (21, SP.is (.int .i64 0)), (10, SP.any), (1000, SP.any), (11, SP.is (.int .i64 0))] := ⟨_, rfl⟩
  refine wp_region_then (by kernel_rfl) 5 (by decide) (by kernel_rfl) (fun listed ac W => Fp D a0 listed ac W ∧ Below X3.heap.size X3 W ∧ Row W bp LP 58 ∧ Row W bf ((vB fr)) 33 ∧ Row W bt ((vB tw)) 33 ∧ Row W bb LB 25 ∧ Lg w0 W S (q) f ∧ Kp w W ∧ (listed.getD 9 false = true → ∃ N, ac.eval (.tmp 10) = .pointer (some ⟨N, 0, none⟩) ∧ X3.heap.size ≤ N ∧ Row W N zL 65)) (fun listed ac W => Fp D a0 listed ac W ∧ X3.heap.size ≤ W.heap.size ∧ Row W bp LP 58 ∧ Row W bf ((vB fr)) 33 ∧ Row W bt ((vB tw)) 33 ∧ Row W bb LB 25 ∧ Lg w0 W S (q + 1) f ∧ Kp w W ∧ (listed.getD 9 false = true → ∃ N, ac.eval (.tmp 10) = .pointer (some ⟨N, 0, none⟩) ∧ X3.heap.size ≤ N ∧ Row W N (if listed.getD 10 false = true then N0 else zL) 65)) ?_ ?_ ?_ ?_ ?_
  · exact ⟨Fp.start D a0 _ _, Below.drew hb1, Row.drew rp, Row.drew rf, Row.drew rt, Row.drew rb, hG.below (Below.drew (Below.refl _ _)), hK.below (Below.drew (Below.refl _ _)), (fun h => (start_no h).elim)⟩
  · clear ha0 hb1 rp rf rt rb hG hK
    intro listed ac W k hl hI hdn hk hne hnl
    replace hl : listed.size = 12 := hl
    obtain ⟨hF, hb1, rp, rf, rt, rb, hG, hK, al9⟩ := hI
    have hk1 : k < 12 := List.mem_range.1 (List.mem_filter.1 hk).1
    rcases (show k = 0 ∨ k = 1 ∨ k = 2 ∨ k = 3 ∨ k = 4 ∨ k = 5 ∨ k = 6 ∨ k = 7 ∨ k = 8 ∨ k = 9 ∨ k = 10 ∨ k = 11 by omega) with rfl | rfl | rfl | rfl | rfl | rfl | rfl | rfl | rfl | rfl | rfl | rfl
    · have hk3 := hk
      exact wpOp_plain rfl rfl (wp_load_mid 58 (.tmp 4) rfl bp 0 ((hF.keep 4 (by rw [hD]; rfl)).trans zs4) LP _ rp.all Tryd.underlying58 rfl HLPI.out ⟨(hF.put 0 14 (SP.is (.agg LP.toArray)) (.agg LP.toArray) (by rw [hD]; rfl) rfl (by rw [hD]; rfl) (by rw [hsz]; decide) (by rw [hl]; decide)), hb1, rp, rf, rt, rb, hG, hK, (fun h => by obtain ⟨N, e, hN, r⟩ := al9 (by rwa [getD_set _ _ _ (by decide)] at h); exact ⟨N, (eval_put_other ac _ (by decide)).trans e, hN, r⟩)⟩)
    · have hk3 := hk
      exact wpOp_plain rfl rfl (wp_load_mid 58 (.tmp 4) rfl bp 0 ((hF.keep 4 (by rw [hD]; rfl)).trans zs4) LP _ rp.all Tryd.underlying58 rfl HLPI.out ⟨(hF.put 1 15 (SP.is (.agg LP.toArray)) (.agg LP.toArray) (by rw [hD]; rfl) rfl (by rw [hD]; rfl) (by rw [hsz]; decide) (by rw [hl]; decide)), hb1, rp, rf, rt, rb, hG, hK, (fun h => by obtain ⟨N, e, hN, r⟩ := al9 (by rwa [getD_set _ _ _ (by decide)] at h); exact ⟨N, (eval_put_other ac _ (by decide)).trans e, hN, r⟩)⟩)
    · have hk3 := hk
      exact wpOp_plain rfl rfl (wp_load_mid 33 (.tmp 5) rfl bf 0 ((hF.keep 5 (by rw [hD]; rfl)).trans zs5) ((vB fr)) _ rf.all Tryd.underlying33 rfl HIf.out ⟨(hF.put 2 16 (SP.is (.agg (vB fr).toArray)) (.agg (vB fr).toArray) (by rw [hD]; rfl) rfl (by rw [hD]; rfl) (by rw [hsz]; decide) (by rw [hl]; decide)), hb1, rp, rf, rt, rb, hG, hK, (fun h => by obtain ⟨N, e, hN, r⟩ := al9 (by rwa [getD_set _ _ _ (by decide)] at h); exact ⟨N, (eval_put_other ac _ (by decide)).trans e, hN, r⟩)⟩)
    · have hk3 := hk
      have ea0 := (hF.done 1 (15, SP.is (.agg LP.toArray)) (by rw [hD]; rfl) (ready_dep hk 1 (by kernel_rfl)))
      have ea1 := (hF.done 2 (16, SP.is (.agg (vB fr).toArray)) (by rw [hD]; rfl) (ready_dep hk 2 (by kernel_rfl)))
      refine wpOp_plain rfl rfl (wp_fcall_v 26 #[.agg LP.toArray, .agg (vB fr).toArray] rfl rfl (by show [ac.eval (.tmp 15), ac.eval (.tmp 16)] = _; rw [show ac.eval (.tmp 15) = .agg LP.toArray from ea0, show ac.eval (.tmp 16) = .agg (vB fr).toArray from ea1]) (by go_simp) (((show Calls Tryd.prog 26 #[.agg LP.toArray, .agg (vB fr).toArray] W _ from HKf.out W)).mono ?_))
      rintro e W2 ⟨rfl, hB⟩
      exact ⟨_, rfl, ((hF.world hB).put 3 17 (SP.is (.string (bKt t fr))) (.string (bKt t fr)) (by rw [hD]; rfl) rfl (by rw [hD]; rfl) (by rw [hsz]; decide) (by rw [hl]; decide)), hb1.trans (hB.mono hb1.size), Row.below rp hB (Row.lt rp), Row.below rf hB (Row.lt rf), Row.below rt hB (Row.lt rt), Row.below rb hB (Row.lt rb), hG.below hB, hK.below hB, (fun h => by obtain ⟨N, e, hN, r⟩ := al9 (by rwa [getD_set _ _ _ (by decide)] at h); exact ⟨N, (eval_put_other ac _ (by decide)).trans e, hN, Row.below r hB (Row.lt r)⟩)⟩
    · have hk3 := hk
      exact wpOp_plain rfl rfl (wp_load_mid 25 (.tmp 7) rfl bb 0 ((hF.keep 7 (by rw [hD]; rfl)).trans zs7) LB _ rb.all Tryd.underlying25 rfl HLBI.out ⟨(hF.put 4 18 (SP.is (.agg LB.toArray)) (.agg LB.toArray) (by rw [hD]; rfl) rfl (by rw [hD]; rfl) (by rw [hsz]; decide) (by rw [hl]; decide)), hb1, rp, rf, rt, rb, hG, hK, (fun h => by obtain ⟨N, e, hN, r⟩ := al9 (by rwa [getD_set _ _ _ (by decide)] at h); exact ⟨N, (eval_put_other ac _ (by decide)).trans e, hN, r⟩)⟩)
    · exact absurd rfl hne
    · exact absurd (ready_dep hk 5 (by kernel_rfl)) hnl
    · exact absurd (hdn 6 (ready_dep hk 6 (by kernel_rfl)) 5 (by kernel_rfl)) hnl
    · exact absurd (hdn 6 (ready_dep hk 6 (by kernel_rfl)) 5 (by kernel_rfl)) hnl
    · have hk3 := hk
      have hB : Below W.heap.size W (W.alloc (Obj.cells zL.toArray 65)) := (Below.refl _ _).alloc (Nat.le_refl _) _
      exact wpOp_plain rfl rfl (wp_allocLn rfl ⟨((hF.world hB).put 9 10 (SP.any) (.pointer (some ⟨W.heap.size, 0, none⟩)) (by rw [hD]; rfl) trivial (by rw [hD]; rfl) (by rw [hsz]; decide) (by rw [hl]; decide)), hb1.trans (hB.mono hb1.size), Row.alloc rp _, Row.alloc rf _, Row.alloc rt _, Row.alloc rb _, hG.below hB, hK.below hB, (fun _ => ⟨W.heap.size, eval_put_same ac _ (by rw [hF.size, hsz]; decide), hb1.size, Row.new' rfl rfl⟩)⟩)
    · exact absurd (hdn 6 (hdn 7 (ready_dep hk 7 (by kernel_rfl)) 6 (by kernel_rfl)) 5 (by kernel_rfl)) hnl
    · exact absurd (hdn 6 (hdn 8 (ready_dep hk 8 (by kernel_rfl)) 6 (by kernel_rfl)) 5 (by kernel_rfl)) hnl
  · clear ha0 hb1 rp rf rt rb hG hK
    intro listed ac W hl hI hdn hk
    replace hl : listed.size = 12 := hl
    obtain ⟨hF, hb1, rp, rf, rt, rb, hG, hK, al9⟩ := hI
    have eb1 := (hF.done 0 (14, SP.is (.agg LP.toArray)) (by rw [hD]; rfl) (ready_dep hk 0 (by kernel_rfl)))
    have eb2 := (hF.done 3 (17, SP.is (.string (bKt t fr))) (by rw [hD]; rfl) (ready_dep hk 3 (by kernel_rfl)))
    have eb3 := (hF.done 4 (18, SP.is (.agg LB.toArray)) (by rw [hD]; rfl) (ready_dep hk 4 (by kernel_rfl)))
    have hns10 : ¬ listed.getD 10 false = true := fun h => not_yet hk (hdn 6 (hdn 7 (hdn 10 h 7 (by kernel_rfl)) 6 (by kernel_rfl)) 5 (by kernel_rfl))
    refine wpOp_plain rfl rfl (wp_fcall_v 34 #[.agg LP.toArray, .string (bKt t fr), .agg LB.toArray, .int .i64 85] rfl rfl (by show [ac.eval (.tmp 14), ac.eval (.tmp 17), ac.eval (.tmp 18), .int .i64 85] = _; rw [show ac.eval (.tmp 14) = .agg LP.toArray from eb1, show ac.eval (.tmp 17) = .string (bKt t fr) from eb2, show ac.eval (.tmp 18) = .agg LB.toArray from eb3]) (by go_simp) ((HLE.out W hG).mono ?_))
    rintro e W2 ⟨rfl, hG2, hK2⟩
    have hT : Fp D a0 listed ac W2 := hF.turn (by rw [hD]; simp only [List.forall_mem_cons, List.not_mem_nil, false_implies, implies_true, and_true]; exact ⟨fun _ h => h, fun _ h => h, fun _ h => h, fun _ h => h, fun _ h => h, fun _ h => h, fun _ h => h, fun _ h => h, fun _ h => h, fun _ h => h, fun _ h => h, fun _ h => h⟩)
    exact ⟨_, rfl, (hT.put 5 19 (SP.is (.tuple #[.agg N0.toArray, .int .i64 0])) (_) (by rw [hD]; rfl) rfl (by rw [hD]; rfl) (by rw [hsz]; decide) (by rw [hl]; decide)), Nat.le_trans hb1.size hK2.size, hK2.row _ _ _ (by decide) rp, hK2.row _ _ _ (by decide) rf, hK2.row _ _ _ (by decide) rt, hK2.row _ _ _ (by decide) rb, hG2, hK.trans hK2, (fun h => by obtain ⟨N, e, hN, r⟩ := al9 (by rwa [getD_set _ _ _ (by decide)] at h); exact ⟨N, (eval_put_other ac _ (by decide)).trans e, hN, by rw [getD_set _ _ _ (by decide), if_neg hns10]; exact hK2.row _ _ _ (by decide) r⟩)⟩
  · clear ha0 hb1 rp rf rt rb hG hK
    intro listed ac W k hl hJ hdn hk hne hyl
    replace hl : listed.size = 12 := hl
    obtain ⟨hF, hS, rp, rf, rt, rb, hG, hK, al9⟩ := hJ
    have hk1 : k < 12 := List.mem_range.1 (List.mem_filter.1 hk).1
    rcases (show k = 0 ∨ k = 1 ∨ k = 2 ∨ k = 3 ∨ k = 4 ∨ k = 5 ∨ k = 6 ∨ k = 7 ∨ k = 8 ∨ k = 9 ∨ k = 10 ∨ k = 11 by omega) with rfl | rfl | rfl | rfl | rfl | rfl | rfl | rfl | rfl | rfl | rfl | rfl
    · exact absurd (hdn 5 hyl 0 (by kernel_rfl)) (not_yet hk)
    · exact absurd (hdn 3 (hdn 5 hyl 3 (by kernel_rfl)) 1 (by kernel_rfl)) (not_yet hk)
    · exact absurd (hdn 3 (hdn 5 hyl 3 (by kernel_rfl)) 2 (by kernel_rfl)) (not_yet hk)
    · exact absurd (hdn 5 hyl 3 (by kernel_rfl)) (not_yet hk)
    · exact absurd (hdn 5 hyl 4 (by kernel_rfl)) (not_yet hk)
    · exact absurd rfl hne
    · have hk3 := hk
      exact wpOp_plain rfl rfl (wp_move_v (ac.eval (.tmp 19)) rfl rfl ⟨(hF.put 6 13 (SP.is (.tuple #[.agg N0.toArray, .int .i64 0])) (ac.eval (.tmp 19)) (by rw [hD]; rfl) ((hF.done 5 (19, SP.is (.tuple #[.agg N0.toArray, .int .i64 0])) (by rw [hD]; rfl) (ready_dep hk 5 (by kernel_rfl)))) (by rw [hD]; rfl) (by rw [hsz]; decide) (by rw [hl]; decide)), hS, rp, rf, rt, rb, hG, hK, (fun h => by obtain ⟨N, e, hN, r⟩ := al9 (by rwa [getD_set _ _ _ (by decide)] at h); exact ⟨N, (eval_put_other ac _ (by decide)).trans e, hN, by rw [getD_set _ _ _ (by decide)]; exact r⟩)⟩)
    · have hk3 := hk
      exact wpOp_plain rfl rfl (wp_extract (.tmp 13) 0 rfl _ (hF.done 6 (13, SP.is (.tuple #[.agg N0.toArray, .int .i64 0])) (by rw [hD]; rfl) (ready_dep hk 6 (by kernel_rfl))) (.agg N0.toArray) rfl ⟨(hF.put 7 20 (SP.is (.agg N0.toArray)) (.agg N0.toArray) (by rw [hD]; rfl) rfl (by rw [hD]; rfl) (by rw [hsz]; decide) (by rw [hl]; decide)), hS, rp, rf, rt, rb, hG, hK, (fun h => by obtain ⟨N, e, hN, r⟩ := al9 (by rwa [getD_set _ _ _ (by decide)] at h); exact ⟨N, (eval_put_other ac _ (by decide)).trans e, hN, by rw [getD_set _ _ _ (by decide)]; exact r⟩)⟩)
    · have hk3 := hk
      exact wpOp_plain rfl rfl (wp_extract (.tmp 13) 1 rfl _ (hF.done 6 (13, SP.is (.tuple #[.agg N0.toArray, .int .i64 0])) (by rw [hD]; rfl) (ready_dep hk 6 (by kernel_rfl))) (.int .i64 0) rfl ⟨(hF.put 8 21 (SP.is (.int .i64 0)) (.int .i64 0) (by rw [hD]; rfl) rfl (by rw [hD]; rfl) (by rw [hsz]; decide) (by rw [hl]; decide)), hS, rp, rf, rt, rb, hG, hK, (fun h => by obtain ⟨N, e, hN, r⟩ := al9 (by rwa [getD_set _ _ _ (by decide)] at h); exact ⟨N, (eval_put_other ac _ (by decide)).trans e, hN, by rw [getD_set _ _ _ (by decide)]; exact r⟩)⟩)
    · have hk3 := hk
      have hB : Below W.heap.size W (W.alloc (Obj.cells zL.toArray 65)) := (Below.refl _ _).alloc (Nat.le_refl _) _
      have hns : ¬ listed.getD 10 false = true := fun h => not_yet hk (hdn 10 h 9 (by kernel_rfl))
      exact wpOp_plain rfl rfl (wp_allocLn rfl ⟨((hF.world hB).put 9 10 (SP.any) (.pointer (some ⟨W.heap.size, 0, none⟩)) (by rw [hD]; rfl) trivial (by rw [hD]; rfl) (by rw [hsz]; decide) (by rw [hl]; decide)), Nat.le_trans hS hB.size, Row.alloc rp _, Row.alloc rf _, Row.alloc rt _, Row.alloc rb _, hG.below hB, hK.below hB, (fun _ => ⟨W.heap.size, eval_put_same ac _ (by rw [hF.size, hsz]; decide), hS, (by rw [getD_set _ _ _ (by decide), if_neg hns]; exact Row.new' rfl rfl)⟩)⟩)
    · have hk3 := hk
      obtain ⟨N, e, hN, r⟩ := al9 (ready_dep hk 9 (by kernel_rfl))
      rw [if_neg (not_yet hk)] at r
      have hT : Fp D a0 listed ac (W.setCells N 0 N0) := hF.turn (by rw [hD]; simp only [List.forall_mem_cons, List.not_mem_nil, false_implies, implies_true, and_true]; exact ⟨fun _ h => h, fun _ h => h, fun _ h => h, fun _ h => h, fun _ h => h, fun _ h => h, fun _ h => h, fun _ h => h, fun _ h => h, fun _ h => h, fun _ h => h, fun _ h => h⟩)
      exact wpOp_plain rfl rfl (wp_store_mid 65 (.tmp 10) (.tmp 20) rfl N 0 N0.toArray e (hF.done 7 (20, SP.is (.agg N0.toArray)) (by rw [hD]; rfl) (ready_dep hk 7 (by kernel_rfl))) (r.there 0 _ (by rw [List.size_toArray, HN0N.out]; decide)) HN0J.out HN0O.out ⟨(hT.skip 10 1000 (by rw [hD]; rfl) (by rw [hl]; decide)), (by rw [size_setCells]; exact hS), Row.setCells_other rp _ _ _ (by omega), Row.setCells_other rf _ _ _ (by omega), Row.setCells_other rt _ _ _ (by omega), Row.setCells_other rb _ _ _ (by omega), hG.kept r (by decide) (by decide) (by decide) (by decide) (fun k hk => heap_sets _ _ _ _ _ hk) (below_setCells hG.bel (Nat.le_trans hw0 hN) _), Kp.kept N (Nat.le_trans hwf hN) hK (fun k hk => heap_sets _ _ _ _ _ hk) (below_setCells (Below.refl 0 _) (Nat.zero_le N) _).size, (fun _ => ⟨N, e, hN, by rw [if_pos (getD_same (by rw [hl]; decide))]; exact r.over HN0N.out⟩)⟩)
    · have hk3 := hk
      exact wpOp_plain rfl rfl (wp_assign_v (ac.eval (.tmp 21)) rfl rfl ⟨(hF.put 11 11 (SP.is (.int .i64 0)) (ac.eval (.tmp 21)) (by rw [hD]; rfl) ((hF.done 8 (21, SP.is (.int .i64 0)) (by rw [hD]; rfl) (ready_dep hk 8 (by kernel_rfl)))) (by rw [hD]; rfl) (by rw [hsz]; decide) (by rw [hl]; decide)), hS, rp, rf, rt, rb, hG, hK, (fun h => by obtain ⟨N, e, hN, r⟩ := al9 (by rwa [getD_set _ _ _ (by decide)] at h); exact ⟨N, (eval_put_other ac _ (by decide)).trans e, hN, by rw [getD_set _ _ _ (by decide)]; exact r⟩)⟩)
  · clear hb1 rp rf rt rb hG hK
    intro listed ac W hl hJ hr
    replace hl : listed.size = 12 := hl
    obtain ⟨hF, hS, rp, rf, rt, rb, hG, hK, al9⟩ := hJ
    have hall := all_listed (by kernel_rfl) hl hr
    obtain ⟨NL, ea10, hNL, rNL⟩ := al9 (hall 9 (by decide))
    rw [if_pos (hall 10 (by decide))] at rNL
    have h14 : ac.eval (.tmp 14) = .agg LP.toArray := hF.done 0 (14, SP.is (.agg LP.toArray)) (by rw [hD]; rfl) (hall 0 (by decide))
    have h15 : ac.eval (.tmp 15) = .agg LP.toArray := hF.done 1 (15, SP.is (.agg LP.toArray)) (by rw [hD]; rfl) (hall 1 (by decide))
    have h16 : ac.eval (.tmp 16) = .agg (vB fr).toArray := hF.done 2 (16, SP.is (.agg (vB fr).toArray)) (by rw [hD]; rfl) (hall 2 (by decide))
    have h17 : ac.eval (.tmp 17) = .string (bKt t fr) := hF.done 3 (17, SP.is (.string (bKt t fr))) (by rw [hD]; rfl) (hall 3 (by decide))
    have h18 : ac.eval (.tmp 18) = .agg LB.toArray := hF.done 4 (18, SP.is (.agg LB.toArray)) (by rw [hD]; rfl) (hall 4 (by decide))
    have h19 : ac.eval (.tmp 19) = .tuple #[.agg N0.toArray, .int .i64 0] := hF.done 5 (19, SP.is (.tuple #[.agg N0.toArray, .int .i64 0])) (by rw [hD]; rfl) (hall 5 (by decide))
    have h13 : ac.eval (.tmp 13) = .tuple #[.agg N0.toArray, .int .i64 0] := hF.done 6 (13, SP.is (.tuple #[.agg N0.toArray, .int .i64 0])) (by rw [hD]; rfl) (hall 6 (by decide))
    have h20 : ac.eval (.tmp 20) = .agg N0.toArray := hF.done 7 (20, SP.is (.agg N0.toArray)) (by rw [hD]; rfl) (hall 7 (by decide))
    have h21 : ac.eval (.tmp 21) = .int .i64 0 := hF.done 8 (21, SP.is (.int .i64 0)) (by rw [hD]; rfl) (hall 8 (by decide))
    have h11 : ac.eval (.tmp 11) = .int .i64 0 := hF.done 11 (11, SP.is (.int .i64 0)) (by rw [hD]; rfl) (hall 11 (by decide))
    have ea := hF.lay [(14, .agg LP.toArray), (15, .agg LP.toArray), (16, .agg (vB fr).toArray), (17, .string (bKt t fr)), (18, .agg LB.toArray), (19, .tuple #[.agg N0.toArray, .int .i64 0]), (13, .tuple #[.agg N0.toArray, .int .i64 0]), (20, .agg N0.toArray), (21, .int .i64 0), (10, .pointer (some ⟨NL, 0, none⟩)), (11, .int .i64 0)] (by rw [hD, hsz]; rfl) (by simp only [List.forall_mem_cons, List.not_mem_nil, false_implies, implies_true, and_true]; exact ⟨h14, h15, h16, h17, h18, h19, h13, h20, h21, ea10, h11⟩)
    rw [ha0] at ea
    simp only [List.foldl_cons, List.foldl_nil, List.setIfInBounds_toArray, List.set_cons_zero, List.set_cons_succ] at ea
    clear hF hall hr hl hD zs4 zs5 zs6 zs7 ha0 hsz h14 h15 h16 h17 h18 h19 h13 h20 h21 ea10 h11 al9 lt_rp lt_rf lt_rt lt_rb
    subst ea
    obtain ⟨V, hV⟩ : ∃ V, V = W := ⟨_, rfl⟩
    rw [← hV]
    rw [← hV] at hG hK rp rf rt rb rNL hS
    have HG : Hid (Lg w0 V S (q + 1) f) := hG
    have HK : Hid (Kp w V) := hK
    have RP : Hid (Row V bp LP 58) := rp
    have RT : Hid (Row V bt (vB tw) 33) := rt
    have RQ : Hid (Row V bb LB 25) := rb
    have R9 : Hid (Row V NL N0 65) := rNL
    have SF : Hid (V.rangeAt bf 0 (vB fr)) := rf.all
    have ST_ : Hid (V.rangeAt bt 0 (vB tw)) := rt.all
    clear hV hG hK rp rf rt rb rNL hS hNL hw0 hwf
    go_upto_region 4 with (first
      | (refine wpList_load_w rfl 33 (.tmp 5) rfl bf 0 rfl (vB fr) _ SF.out Tryd.underlying33 rfl HIf.out ?_; simp only [Act.put, List.setIfInBounds_toArray, List.set_cons_zero, List.set_cons_succ])
      | (refine wpList_load_w rfl 33 (.tmp 6) rfl bt 0 rfl (vB tw) _ ST_.out Tryd.underlying33 rfl HIt.out ?_; simp only [Act.put, List.setIfInBounds_toArray, List.set_cons_zero, List.set_cons_succ])
      | (refine wpList_eqlA rfl (.tmp 25) (.tmp 26) _ rfl fr tw HLf.out HLt.out rfl rfl false HNE.out ?_; simp only [Act.put, List.setIfInBounds_toArray, List.set_cons_zero, List.set_cons_succ]))
    have rp := RP.out
    have rt := RT.out
    have rb := RQ.out
    have r9 := R9.out
    have hG := HG.out
    have hK := HK.out
    have hw0 : w0.heap.size ≤ V.heap.size := hG.bel.size
    have hwf : w.heap.size ≤ V.heap.size := hK.size
    have hb1 := Below.refl V.heap.size V
    clear RP RT RQ R9 SF ST_ HG HK
    refine wp_named fun a0 ha0 => ?_
    have hsz : a0.tmps.size = 49 := by rw [ha0]; rfl
    have zs4 : a0.eval (.tmp 4) = .pointer (some ⟨bp, 0, none⟩) := by rw [ha0]; rfl
    have zs6 : a0.eval (.tmp 6) = .pointer (some ⟨bt, 0, none⟩) := by rw [ha0]; rfl
    have zs7 : a0.eval (.tmp 7) = .pointer (some ⟨bb, 0, none⟩) := by rw [ha0]; rfl
    have lt_rp : bp < V.heap.size := rp.lt
    have lt_rt : bt < V.heap.size := rt.lt
    have lt_rb : bb < V.heap.size := rb.lt
    have lt_r9 : NL < V.heap.size := r9.lt
    obtain ⟨D, hD⟩ : ∃ D : List (Tmp × SP), D = [(31, SP.is (.agg LP.toArray)), (32, SP.is (.agg LP.toArray)), (33, SP.is (.agg (vB tw).toArray)), (34, SP.is (.string (bKt t tw))), (35, SP.is (.agg LB.toArray)), (36, SP.is (.tuple #[.agg N1.toArray, .int .i64 0])), (30, SP.is (.tuple #[.agg N1.toArray, .int .i64 0])), (37, SP.is (.agg N1.toArray)), (38, SP.is (.int .i64 0)), (12, SP.any), (1000, SP.any), (11, SP.is (.int .i64 0))] := ⟨_, rfl⟩
    refine wp_region_then (by kernel_rfl) 5 (by decide) (by kernel_rfl) (fun listed ac W => Fp D a0 listed ac W ∧ Below V.heap.size V W ∧ Row W bp LP 58 ∧ Row W bt ((vB tw)) 33 ∧ Row W bb LB 25 ∧ Row W NL N0 65 ∧ Lg w0 W S (q + 1) f ∧ Kp w W ∧ (listed.getD 9 false = true → ∃ N, ac.eval (.tmp 12) = .pointer (some ⟨N, 0, none⟩) ∧ V.heap.size ≤ N ∧ Row W N zL 65)) (fun listed ac W => Fp D a0 listed ac W ∧ V.heap.size ≤ W.heap.size ∧ Row W bp LP 58 ∧ Row W bt ((vB tw)) 33 ∧ Row W bb LB 25 ∧ Row W NL N0 65 ∧ Lg w0 W S (q + 1 + 1) f ∧ Kp w W ∧ (listed.getD 9 false = true → ∃ N, ac.eval (.tmp 12) = .pointer (some ⟨N, 0, none⟩) ∧ V.heap.size ≤ N ∧ Row W N (if listed.getD 10 false = true then N1 else zL) 65)) ?_ ?_ ?_ ?_ ?_
    · exact ⟨Fp.start D a0 _ _, Below.drew hb1, Row.drew rp, Row.drew rt, Row.drew rb, Row.drew r9, hG.below (Below.drew (Below.refl _ _)), hK.below (Below.drew (Below.refl _ _)), (fun h => (start_no h).elim)⟩
    · clear ha0 hb1 rp rt rb r9 hG hK
      intro listed ac W k hl hI hdn hk hne hnl
      replace hl : listed.size = 12 := hl
      obtain ⟨hF, hb1, rp, rt, rb, r9, hG, hK, al9⟩ := hI
      have hk1 : k < 12 := List.mem_range.1 (List.mem_filter.1 hk).1
      rcases (show k = 0 ∨ k = 1 ∨ k = 2 ∨ k = 3 ∨ k = 4 ∨ k = 5 ∨ k = 6 ∨ k = 7 ∨ k = 8 ∨ k = 9 ∨ k = 10 ∨ k = 11 by omega) with rfl | rfl | rfl | rfl | rfl | rfl | rfl | rfl | rfl | rfl | rfl | rfl
      · have hk3 := hk
        exact wpOp_plain rfl rfl (wp_load_mid 58 (.tmp 4) rfl bp 0 ((hF.keep 4 (by rw [hD]; rfl)).trans zs4) LP _ rp.all Tryd.underlying58 rfl HLPI.out ⟨(hF.put 0 31 (SP.is (.agg LP.toArray)) (.agg LP.toArray) (by rw [hD]; rfl) rfl (by rw [hD]; rfl) (by rw [hsz]; decide) (by rw [hl]; decide)), hb1, rp, rt, rb, r9, hG, hK, (fun h => by obtain ⟨N, e, hN, r⟩ := al9 (by rwa [getD_set _ _ _ (by decide)] at h); exact ⟨N, (eval_put_other ac _ (by decide)).trans e, hN, r⟩)⟩)
      · have hk3 := hk
        exact wpOp_plain rfl rfl (wp_load_mid 58 (.tmp 4) rfl bp 0 ((hF.keep 4 (by rw [hD]; rfl)).trans zs4) LP _ rp.all Tryd.underlying58 rfl HLPI.out ⟨(hF.put 1 32 (SP.is (.agg LP.toArray)) (.agg LP.toArray) (by rw [hD]; rfl) rfl (by rw [hD]; rfl) (by rw [hsz]; decide) (by rw [hl]; decide)), hb1, rp, rt, rb, r9, hG, hK, (fun h => by obtain ⟨N, e, hN, r⟩ := al9 (by rwa [getD_set _ _ _ (by decide)] at h); exact ⟨N, (eval_put_other ac _ (by decide)).trans e, hN, r⟩)⟩)
      · have hk3 := hk
        exact wpOp_plain rfl rfl (wp_load_mid 33 (.tmp 6) rfl bt 0 ((hF.keep 6 (by rw [hD]; rfl)).trans zs6) ((vB tw)) _ rt.all Tryd.underlying33 rfl HIt.out ⟨(hF.put 2 33 (SP.is (.agg (vB tw).toArray)) (.agg (vB tw).toArray) (by rw [hD]; rfl) rfl (by rw [hD]; rfl) (by rw [hsz]; decide) (by rw [hl]; decide)), hb1, rp, rt, rb, r9, hG, hK, (fun h => by obtain ⟨N, e, hN, r⟩ := al9 (by rwa [getD_set _ _ _ (by decide)] at h); exact ⟨N, (eval_put_other ac _ (by decide)).trans e, hN, r⟩)⟩)
      · have hk3 := hk
        have ea0 := (hF.done 1 (32, SP.is (.agg LP.toArray)) (by rw [hD]; rfl) (ready_dep hk 1 (by kernel_rfl)))
        have ea1 := (hF.done 2 (33, SP.is (.agg (vB tw).toArray)) (by rw [hD]; rfl) (ready_dep hk 2 (by kernel_rfl)))
        refine wpOp_plain rfl rfl (wp_fcall_v 26 #[.agg LP.toArray, .agg (vB tw).toArray] rfl rfl (by show [ac.eval (.tmp 32), ac.eval (.tmp 33)] = _; rw [show ac.eval (.tmp 32) = .agg LP.toArray from ea0, show ac.eval (.tmp 33) = .agg (vB tw).toArray from ea1]) (by go_simp) (((show Calls Tryd.prog 26 #[.agg LP.toArray, .agg (vB tw).toArray] W _ from HKt.out W)).mono ?_))
        rintro e W2 ⟨rfl, hB⟩
        exact ⟨_, rfl, ((hF.world hB).put 3 34 (SP.is (.string (bKt t tw))) (.string (bKt t tw)) (by rw [hD]; rfl) rfl (by rw [hD]; rfl) (by rw [hsz]; decide) (by rw [hl]; decide)), hb1.trans (hB.mono hb1.size), Row.below rp hB (Row.lt rp), Row.below rt hB (Row.lt rt), Row.below rb hB (Row.lt rb), Row.below r9 hB (Row.lt r9), hG.below hB, hK.below hB, (fun h => by obtain ⟨N, e, hN, r⟩ := al9 (by rwa [getD_set _ _ _ (by decide)] at h); exact ⟨N, (eval_put_other ac _ (by decide)).trans e, hN, Row.below r hB (Row.lt r)⟩)⟩
      · have hk3 := hk
        exact wpOp_plain rfl rfl (wp_load_mid 25 (.tmp 7) rfl bb 0 ((hF.keep 7 (by rw [hD]; rfl)).trans zs7) LB _ rb.all Tryd.underlying25 rfl HLBI.out ⟨(hF.put 4 35 (SP.is (.agg LB.toArray)) (.agg LB.toArray) (by rw [hD]; rfl) rfl (by rw [hD]; rfl) (by rw [hsz]; decide) (by rw [hl]; decide)), hb1, rp, rt, rb, r9, hG, hK, (fun h => by obtain ⟨N, e, hN, r⟩ := al9 (by rwa [getD_set _ _ _ (by decide)] at h); exact ⟨N, (eval_put_other ac _ (by decide)).trans e, hN, r⟩)⟩)
      · exact absurd rfl hne
      · exact absurd (ready_dep hk 5 (by kernel_rfl)) hnl
      · exact absurd (hdn 6 (ready_dep hk 6 (by kernel_rfl)) 5 (by kernel_rfl)) hnl
      · exact absurd (hdn 6 (ready_dep hk 6 (by kernel_rfl)) 5 (by kernel_rfl)) hnl
      · have hk3 := hk
        have hB : Below W.heap.size W (W.alloc (Obj.cells zL.toArray 65)) := (Below.refl _ _).alloc (Nat.le_refl _) _
        exact wpOp_plain rfl rfl (wp_allocLn rfl ⟨((hF.world hB).put 9 12 (SP.any) (.pointer (some ⟨W.heap.size, 0, none⟩)) (by rw [hD]; rfl) trivial (by rw [hD]; rfl) (by rw [hsz]; decide) (by rw [hl]; decide)), hb1.trans (hB.mono hb1.size), Row.alloc rp _, Row.alloc rt _, Row.alloc rb _, Row.alloc r9 _, hG.below hB, hK.below hB, (fun _ => ⟨W.heap.size, eval_put_same ac _ (by rw [hF.size, hsz]; decide), hb1.size, Row.new' rfl rfl⟩)⟩)
      · exact absurd (hdn 6 (hdn 7 (ready_dep hk 7 (by kernel_rfl)) 6 (by kernel_rfl)) 5 (by kernel_rfl)) hnl
      · exact absurd (hdn 6 (hdn 8 (ready_dep hk 8 (by kernel_rfl)) 6 (by kernel_rfl)) 5 (by kernel_rfl)) hnl
    · clear ha0 hb1 rp rt rb r9 hG hK
      intro listed ac W hl hI hdn hk
      replace hl : listed.size = 12 := hl
      obtain ⟨hF, hb1, rp, rt, rb, r9, hG, hK, al9⟩ := hI
      have eb1 := (hF.done 0 (31, SP.is (.agg LP.toArray)) (by rw [hD]; rfl) (ready_dep hk 0 (by kernel_rfl)))
      have eb2 := (hF.done 3 (34, SP.is (.string (bKt t tw))) (by rw [hD]; rfl) (ready_dep hk 3 (by kernel_rfl)))
      have eb3 := (hF.done 4 (35, SP.is (.agg LB.toArray)) (by rw [hD]; rfl) (ready_dep hk 4 (by kernel_rfl)))
      have hns10 : ¬ listed.getD 10 false = true := fun h => not_yet hk (hdn 6 (hdn 7 (hdn 10 h 7 (by kernel_rfl)) 6 (by kernel_rfl)) 5 (by kernel_rfl))
      refine wpOp_plain rfl rfl (wp_fcall_v 25 #[.agg LP.toArray, .string (bKt t tw), .agg LB.toArray] rfl rfl (by show [ac.eval (.tmp 31), ac.eval (.tmp 34), ac.eval (.tmp 35)] = _; rw [show ac.eval (.tmp 31) = .agg LP.toArray from eb1, show ac.eval (.tmp 34) = .string (bKt t tw) from eb2, show ac.eval (.tmp 35) = .agg LB.toArray from eb3]) (by go_simp) ((HGR.out W hG).mono ?_))
      rintro e W2 ⟨rfl, hG2, hK2⟩
      have hT : Fp D a0 listed ac W2 := hF.turn (by rw [hD]; simp only [List.forall_mem_cons, List.not_mem_nil, false_implies, implies_true, and_true]; exact ⟨fun _ h => h, fun _ h => h, fun _ h => h, fun _ h => h, fun _ h => h, fun _ h => h, fun _ h => h, fun _ h => h, fun _ h => h, fun _ h => h, fun _ h => h, fun _ h => h⟩)
      exact ⟨_, rfl, (hT.put 5 36 (SP.is (.tuple #[.agg N1.toArray, .int .i64 0])) (_) (by rw [hD]; rfl) rfl (by rw [hD]; rfl) (by rw [hsz]; decide) (by rw [hl]; decide)), Nat.le_trans hb1.size hK2.size, hK2.row _ _ _ (by decide) rp, hK2.row _ _ _ (by decide) rt, hK2.row _ _ _ (by decide) rb, hK2.row _ _ _ (by decide) r9, hG2, hK.trans hK2, (fun h => by obtain ⟨N, e, hN, r⟩ := al9 (by rwa [getD_set _ _ _ (by decide)] at h); exact ⟨N, (eval_put_other ac _ (by decide)).trans e, hN, by rw [getD_set _ _ _ (by decide), if_neg hns10]; exact hK2.row _ _ _ (by decide) r⟩)⟩
    · clear ha0 hb1 rp rt rb r9 hG hK
      intro listed ac W k hl hJ hdn hk hne hyl
      replace hl : listed.size = 12 := hl
      obtain ⟨hF, hS, rp, rt, rb, r9, hG, hK, al9⟩ := hJ
      have hk1 : k < 12 := List.mem_range.1 (List.mem_filter.1 hk).1
      rcases (show k = 0 ∨ k = 1 ∨ k = 2 ∨ k = 3 ∨ k = 4 ∨ k = 5 ∨ k = 6 ∨ k = 7 ∨ k = 8 ∨ k = 9 ∨ k = 10 ∨ k = 11 by omega) with rfl | rfl | rfl | rfl | rfl | rfl | rfl | rfl | rfl | rfl | rfl | rfl
      · exact absurd (hdn 5 hyl 0 (by kernel_rfl)) (not_yet hk)
      · exact absurd (hdn 3 (hdn 5 hyl 3 (by kernel_rfl)) 1 (by kernel_rfl)) (not_yet hk)
      · exact absurd (hdn 3 (hdn 5 hyl 3 (by kernel_rfl)) 2 (by kernel_rfl)) (not_yet hk)
      · exact absurd (hdn 5 hyl 3 (by kernel_rfl)) (not_yet hk)
      · exact absurd (hdn 5 hyl 4 (by kernel_rfl)) (not_yet hk)
      · exact absurd rfl hne
      · have hk3 := hk
        exact wpOp_plain rfl rfl (wp_move_v (ac.eval (.tmp 36)) rfl rfl ⟨(hF.put 6 30 (SP.is (.tuple #[.agg N1.toArray, .int .i64 0])) (ac.eval (.tmp 36)) (by rw [hD]; rfl) ((hF.done 5 (36, SP.is (.tuple #[.agg N1.toArray, .int .i64 0])) (by rw [hD]; rfl) (ready_dep hk 5 (by kernel_rfl)))) (by rw [hD]; rfl) (by rw [hsz]; decide) (by rw [hl]; decide)), hS, rp, rt, rb, r9, hG, hK, (fun h => by obtain ⟨N, e, hN, r⟩ := al9 (by rwa [getD_set _ _ _ (by decide)] at h); exact ⟨N, (eval_put_other ac _ (by decide)).trans e, hN, by rw [getD_set _ _ _ (by decide)]; exact r⟩)⟩)
      · have hk3 := hk
        exact wpOp_plain rfl rfl (wp_extract (.tmp 30) 0 rfl _ (hF.done 6 (30, SP.is (.tuple #[.agg N1.toArray, .int .i64 0])) (by rw [hD]; rfl) (ready_dep hk 6 (by kernel_rfl))) (.agg N1.toArray) rfl ⟨(hF.put 7 37 (SP.is (.agg N1.toArray)) (.agg N1.toArray) (by rw [hD]; rfl) rfl (by rw [hD]; rfl) (by rw [hsz]; decide) (by rw [hl]; decide)), hS, rp, rt, rb, r9, hG, hK, (fun h => by obtain ⟨N, e, hN, r⟩ := al9 (by rwa [getD_set _ _ _ (by decide)] at h); exact ⟨N, (eval_put_other ac _ (by decide)).trans e, hN, by rw [getD_set _ _ _ (by decide)]; exact r⟩)⟩)
      · have hk3 := hk
        exact wpOp_plain rfl rfl (wp_extract (.tmp 30) 1 rfl _ (hF.done 6 (30, SP.is (.tuple #[.agg N1.toArray, .int .i64 0])) (by rw [hD]; rfl) (ready_dep hk 6 (by kernel_rfl))) (.int .i64 0) rfl ⟨(hF.put 8 38 (SP.is (.int .i64 0)) (.int .i64 0) (by rw [hD]; rfl) rfl (by rw [hD]; rfl) (by rw [hsz]; decide) (by rw [hl]; decide)), hS, rp, rt, rb, r9, hG, hK, (fun h => by obtain ⟨N, e, hN, r⟩ := al9 (by rwa [getD_set _ _ _ (by decide)] at h); exact ⟨N, (eval_put_other ac _ (by decide)).trans e, hN, by rw [getD_set _ _ _ (by decide)]; exact r⟩)⟩)
      · have hk3 := hk
        have hB : Below W.heap.size W (W.alloc (Obj.cells zL.toArray 65)) := (Below.refl _ _).alloc (Nat.le_refl _) _
        have hns : ¬ listed.getD 10 false = true := fun h => not_yet hk (hdn 10 h 9 (by kernel_rfl))
        exact wpOp_plain rfl rfl (wp_allocLn rfl ⟨((hF.world hB).put 9 12 (SP.any) (.pointer (some ⟨W.heap.size, 0, none⟩)) (by rw [hD]; rfl) trivial (by rw [hD]; rfl) (by rw [hsz]; decide) (by rw [hl]; decide)), Nat.le_trans hS hB.size, Row.alloc rp _, Row.alloc rt _, Row.alloc rb _, Row.alloc r9 _, hG.below hB, hK.below hB, (fun _ => ⟨W.heap.size, eval_put_same ac _ (by rw [hF.size, hsz]; decide), hS, (by rw [getD_set _ _ _ (by decide), if_neg hns]; exact Row.new' rfl rfl)⟩)⟩)
      · have hk3 := hk
        obtain ⟨N, e, hN, r⟩ := al9 (ready_dep hk 9 (by kernel_rfl))
        rw [if_neg (not_yet hk)] at r
        have hT : Fp D a0 listed ac (W.setCells N 0 N1) := hF.turn (by rw [hD]; simp only [List.forall_mem_cons, List.not_mem_nil, false_implies, implies_true, and_true]; exact ⟨fun _ h => h, fun _ h => h, fun _ h => h, fun _ h => h, fun _ h => h, fun _ h => h, fun _ h => h, fun _ h => h, fun _ h => h, fun _ h => h, fun _ h => h, fun _ h => h⟩)
        exact wpOp_plain rfl rfl (wp_store_mid 65 (.tmp 12) (.tmp 37) rfl N 0 N1.toArray e (hF.done 7 (37, SP.is (.agg N1.toArray)) (by rw [hD]; rfl) (ready_dep hk 7 (by kernel_rfl))) (r.there 0 _ (by rw [List.size_toArray, HN1N.out]; decide)) HN1J.out HN1O.out ⟨(hT.skip 10 1000 (by rw [hD]; rfl) (by rw [hl]; decide)), (by rw [size_setCells]; exact hS), Row.setCells_other rp _ _ _ (by omega), Row.setCells_other rt _ _ _ (by omega), Row.setCells_other rb _ _ _ (by omega), Row.setCells_other r9 _ _ _ (by omega), hG.kept r (by decide) (by decide) (by decide) (by decide) (fun k hk => heap_sets _ _ _ _ _ hk) (below_setCells hG.bel (Nat.le_trans hw0 hN) _), Kp.kept N (Nat.le_trans hwf hN) hK (fun k hk => heap_sets _ _ _ _ _ hk) (below_setCells (Below.refl 0 _) (Nat.zero_le N) _).size, (fun _ => ⟨N, e, hN, by rw [if_pos (getD_same (by rw [hl]; decide))]; exact r.over HN1N.out⟩)⟩)
      · have hk3 := hk
        exact wpOp_plain rfl rfl (wp_assign_v (ac.eval (.tmp 38)) rfl rfl ⟨(hF.put 11 11 (SP.is (.int .i64 0)) (ac.eval (.tmp 38)) (by rw [hD]; rfl) ((hF.done 8 (38, SP.is (.int .i64 0)) (by rw [hD]; rfl) (ready_dep hk 8 (by kernel_rfl)))) (by rw [hD]; rfl) (by rw [hsz]; decide) (by rw [hl]; decide)), hS, rp, rt, rb, r9, hG, hK, (fun h => by obtain ⟨N, e, hN, r⟩ := al9 (by rwa [getD_set _ _ _ (by decide)] at h); exact ⟨N, (eval_put_other ac _ (by decide)).trans e, hN, by rw [getD_set _ _ _ (by decide)]; exact r⟩)⟩)
    · clear hb1 rp rt rb r9 hG hK
      intro listed ac W hl hJ hr
      replace hl : listed.size = 12 := hl
      obtain ⟨hF, hS, rp, rt, rb, r9, hG, hK, al9⟩ := hJ
      have hall := all_listed (by kernel_rfl) hl hr
      obtain ⟨ML, ea12, hML, rML⟩ := al9 (hall 9 (by decide))
      rw [if_pos (hall 10 (by decide))] at rML
      have h31 : ac.eval (.tmp 31) = .agg LP.toArray := hF.done 0 (31, SP.is (.agg LP.toArray)) (by rw [hD]; rfl) (hall 0 (by decide))
      have h32 : ac.eval (.tmp 32) = .agg LP.toArray := hF.done 1 (32, SP.is (.agg LP.toArray)) (by rw [hD]; rfl) (hall 1 (by decide))
      have h33 : ac.eval (.tmp 33) = .agg (vB tw).toArray := hF.done 2 (33, SP.is (.agg (vB tw).toArray)) (by rw [hD]; rfl) (hall 2 (by decide))
      have h34 : ac.eval (.tmp 34) = .string (bKt t tw) := hF.done 3 (34, SP.is (.string (bKt t tw))) (by rw [hD]; rfl) (hall 3 (by decide))
      have h35 : ac.eval (.tmp 35) = .agg LB.toArray := hF.done 4 (35, SP.is (.agg LB.toArray)) (by rw [hD]; rfl) (hall 4 (by decide))
      have h36 : ac.eval (.tmp 36) = .tuple #[.agg N1.toArray, .int .i64 0] := hF.done 5 (36, SP.is (.tuple #[.agg N1.toArray, .int .i64 0])) (by rw [hD]; rfl) (hall 5 (by decide))
      have h30 : ac.eval (.tmp 30) = .tuple #[.agg N1.toArray, .int .i64 0] := hF.done 6 (30, SP.is (.tuple #[.agg N1.toArray, .int .i64 0])) (by rw [hD]; rfl) (hall 6 (by decide))
      have h37 : ac.eval (.tmp 37) = .agg N1.toArray := hF.done 7 (37, SP.is (.agg N1.toArray)) (by rw [hD]; rfl) (hall 7 (by decide))
      have h38 : ac.eval (.tmp 38) = .int .i64 0 := hF.done 8 (38, SP.is (.int .i64 0)) (by rw [hD]; rfl) (hall 8 (by decide))
      have h11 : ac.eval (.tmp 11) = .int .i64 0 := hF.done 11 (11, SP.is (.int .i64 0)) (by rw [hD]; rfl) (hall 11 (by decide))
      have ea := hF.lay [(31, .agg LP.toArray), (32, .agg LP.toArray), (33, .agg (vB tw).toArray), (34, .string (bKt t tw)), (35, .agg LB.toArray), (36, .tuple #[.agg N1.toArray, .int .i64 0]), (30, .tuple #[.agg N1.toArray, .int .i64 0]), (37, .agg N1.toArray), (38, .int .i64 0), (12, .pointer (some ⟨ML, 0, none⟩)), (11, .int .i64 0)] (by rw [hD, hsz]; rfl) (by simp only [List.forall_mem_cons, List.not_mem_nil, false_implies, implies_true, and_true]; exact ⟨h31, h32, h33, h34, h35, h36, h30, h37, h38, ea12, h11⟩)
      rw [ha0] at ea
      simp only [List.foldl_cons, List.foldl_nil, List.setIfInBounds_toArray, List.set_cons_zero, List.set_cons_succ] at ea
      clear hF hall hr hl hD zs4 zs6 zs7 ha0 hsz h31 h32 h33 h34 h35 h36 h30 h37 h38 ea12 h11 al9 lt_rp lt_rt lt_rb lt_r9
      subst ea
      obtain ⟨V2, hV⟩ : ∃ V, V = W := ⟨_, rfl⟩
      rw [← hV]
      rw [← hV] at hG hK rp rt rb r9 rML hS
      have HG : Hid (Lg w0 V2 S (q + 1 + 1) f) := hG
      have HK : Hid (Kp w V2) := hK
      have SB : Hid (V2.rangeAt bb 0 LB) := rb.all
      have R9 : Hid (Row V2 NL N0 65) := r9
      have R12 : Hid (Row V2 ML N1 65) := rML
      clear hV hG hK rp rt rb r9 rML hS hML hw0 hwf
      go_wp2_with (refine wpList_load_w rfl 25 (.tmp 7) rfl bb 0 rfl LB _ SB.out Tryd.underlying25 rfl HLBI.out ?_; simp only [Act.put, List.setIfInBounds_toArray, List.set_cons_zero, List.set_cons_succ])
      refine Calls.mono (HZ.out V2) ?_
      rintro e V3 ⟨rfl, hB⟩
      replace HG : Hid (Lg w0 V3 S (q + 1 + 1) f) := HG.out.be hB
      replace HK : Hid (Kp w V3) := HK.out.trans (Kp.of_below hB)
      have S9 : Hid (V3.rangeAt NL 0 N0) := (Row.below R9.out hB R9.out.lt).all
      have S12 : Hid (V3.rangeAt ML 0 N1) := (Row.below R12.out hB R12.out.lt).all
      clear hB HZ SB R9 R12
      go_wp2_with fail
      go_ret2
      exact ⟨rfl, HG.out, HK.out⟩
set_option maxRecDepth 100000 in
set_option maxHeartbeats 4000000 in
theorem mvG (w0 : World) (S q : Nat) (f : ByteArray → List (BitVec 8)) (hq : q < 999980) (t : Nat) (ht : t < 64) (fr tw : List (BitVec 8)) (h1 : fr.length = 20) (h2 : tw.length = 20) (a b : Nat) (ha : a < 2 ^ 256) (hb : b < 2 ^ 256) (haf : f (bKt t fr) = enc a) (hab : b ≤ a) (hb0 : b ≠ 0) (hft : fr ≠ tw) (d : Nat) (hd : d < 2 ^ 256) (hdb : d + b < 2 ^ 256) (hdf : f (bKt t tw) = enc d) (LP LB : List Value) (hLP : LP = pgl S t) (hLB : LB = wq b) (N0 N1 : List Value) (hN0 : N0 = lnl (bKt t fr) (a - b)) (hN1 : N1 = lnl (bKt t tw) (d + b)) (w : World) (h : Lg w0 w S q f) :
    Calls Tryd.prog 28 #[.agg LP.toArray, .agg (vB fr).toArray, .agg (vB tw).toArray, .agg LB.toArray] w fun e w' => ∃ g, e = .returned (.tuple #[.slice (some ⟨g, 0, none⟩) 2 2, .int .i64 0]) ∧ Row w' g (N0 ++ N1) 65 ∧ Lg w0 w' S (q + 1 + 1) f ∧ Kp w w' := by
  have HN0E : Hid (N0 = lnl (bKt t fr) (a - b)) := hN0
  have HN0I : Hid ((Tryd.prog.info? 65).map (·.size) = some N0.length) := by show _ = _; rw [hN0]; exact info_lnl _ _
  have HN0J : Hid ((Tryd.prog.info? 65).map (·.size) = some N0.toArray.size) := by show _ = _; rw [List.size_toArray, hN0]; exact info_lnl _ _
  have HN0N : Hid (N0.length = zL.length) := by show _ = _; rw [hN0]; exact lnl_len _ _
  have HN0O : Hid (N0.toArray.all (·.oneCell') = true) := by show _ = true; rw [hN0]; exact lnl_one _ _
  have HN1E : Hid (N1 = lnl (bKt t tw) (d + b)) := hN1
  have HN1I : Hid ((Tryd.prog.info? 65).map (·.size) = some N1.length) := by show _ = _; rw [hN1]; exact info_lnl _ _
  have HN1J : Hid ((Tryd.prog.info? 65).map (·.size) = some N1.toArray.size) := by show _ = _; rw [List.size_toArray, hN1]; exact info_lnl _ _
  have HN1N : Hid (N1.length = zL.length) := by show _ = _; rw [hN1]; exact lnl_len _ _
  have HN1O : Hid (N1.toArray.all (·.oneCell') = true) := by show _ = true; rw [hN1]; exact lnl_one _ _
  have HLPE : Hid (LP = pgl S t) := hLP
  have HLPI : Hid ((Tryd.prog.info? 58).map (·.size) = some LP.length) := by show _ = _; rw [hLP]; exact info_pgl S t
  have HLPJ : Hid ((Tryd.prog.info? 58).map (·.size) = some LP.toArray.size) := by show _ = _; rw [List.size_toArray, hLP]; exact info_pgl S t
  have HLPN : Hid (LP.length = zP.length) := by show _ = _; rw [hLP]; exact rfl
  have HLPO : Hid (LP.toArray.all (·.oneCell') = true) := by show _ = true; rw [hLP]; exact pgl_one S t
  have HLBE : Hid (LB = wq b) := hLB
  have HLBI : Hid ((Tryd.prog.info? 25).map (·.size) = some LB.length) := by show _ = _; rw [hLB]; exact info_wq _
  have HLBJ : Hid ((Tryd.prog.info? 25).map (·.size) = some LB.toArray.size) := by show _ = _; rw [List.size_toArray, hLB]; exact info_wq _
  have HLBN : Hid (LB.length = zW.length) := by show _ = _; rw [hLB]; exact wq_len _
  have HLBO : Hid (LB.toArray.all (·.oneCell') = true) := by show _ = true; rw [hLB]; exact wq_one _
  have HIf : Hid ((Tryd.prog.info? 33).map (·.size) = some (vB fr).length) := info_adr h1
  have HIt : Hid ((Tryd.prog.info? 33).map (·.size) = some (vB tw).length) := info_adr h2
  have HLf : Hid (fr.length = 20) := h1
  have HLt : Hid (tw.length = 20) := h2
  have HKf : Hid (∀ W, Calls Tryd.prog 26 #[.agg LP.toArray, .agg (vB fr).toArray] W fun e w' => e = .returned (.string (bKt t fr)) ∧ Below W.heap.size W w') := fun W => bkeyG S t ht fr h1 LP hLP W
  have HKt : Hid (∀ W, Calls Tryd.prog 26 #[.agg LP.toArray, .agg (vB tw).toArray] W fun e w' => e = .returned (.string (bKt t tw)) ∧ Below W.heap.size W w') := fun W => bkeyG S t ht tw h2 LP hLP W
  have HLE : Hid (∀ W, Lg w0 W S q f → Calls Tryd.prog 34 #[.agg LP.toArray, .string (bKt t fr), .agg LB.toArray, .int .i64 85] W fun e w' => e = .returned (.tuple #[.agg N0.toArray, .int .i64 0]) ∧ Lg w0 w' S (q + 1) f ∧ Kp W w') := fun W hW => les w0 S q f (by omega) t (bKt t fr) (bKt_key t h1) a b ha hb hab haf LP LB hLP hLB N0 hN0 85 W hW
  have HGR : Hid (∀ W, Lg w0 W S (q + 1) f → Calls Tryd.prog 25 #[.agg LP.toArray, .string (bKt t tw), .agg LB.toArray] W fun e w' => e = .returned (.tuple #[.agg N1.toArray, .int .i64 0]) ∧ Lg w0 w' S (q + 1 + 1) f ∧ Kp W w') := fun W hW => grt w0 S (q + 1) f (by omega) t (bKt t tw) (bKt_key t h2) d b hd hb hdb hdf LP LB hLP hLB N1 hN1 W hW
  have HZ : Hid (∀ W, Calls Tryd.prog 36 #[.agg LB.toArray] W fun e w' => e = .returned (.bool false) ∧ Below W.heap.size W w') := fun W => by rw [hLB]; exact zeroG W b hb _ (decide_eq_false hb0)
  have HNE : Hid (decide (fr = tw) = false) := decide_eq_false hft
  have HG : Hid (Lg w0 w S q f) := h
  have HW0 : Hid (w0.heap.size ≤ w.heap.size) := h.bel.size
  clear hLP hLB h1 h2 hq ht ha hb haf h hab hN0 hft hb0 hd hdf hN1 hdb
  go_enter Tryd.func28, Tryd.ntmps28
  go_upto_region 1 with (first
    | (refine wpList_boxG 58 rfl (.tmp 0) rfl LP rfl ?_; intro X0 q1 q2 q3; have Q0 : Hid (Row X0 _ LP 58) := q1; have B0 : Hid (Below _ _ X0) := q2; clear q1 q2 q3; simp only [Act.put, List.setIfInBounds_toArray, List.set_cons_zero, List.set_cons_succ])
    | (refine wpList_boxG 33 rfl (.tmp 1) rfl (vB fr) rfl ?_; intro X1 q1 q2 q3; have Q1 : Hid (Row X1 _ (vB fr) 33) := q1; have B1 : Hid (Below _ _ X1) := q2; clear q1 q2 q3; simp only [Act.put, List.setIfInBounds_toArray, List.set_cons_zero, List.set_cons_succ])
    | (refine wpList_boxG 33 rfl (.tmp 2) rfl (vB tw) rfl ?_; intro X2 q1 q2 q3; have Q2 : Hid (Row X2 _ (vB tw) 33) := q1; have B2 : Hid (Below _ _ X2) := q2; clear q1 q2 q3; simp only [Act.put, List.setIfInBounds_toArray, List.set_cons_zero, List.set_cons_succ])
    | (refine wpList_boxG 25 rfl (.tmp 3) rfl LB rfl ?_; intro X3 q1 q2 q3; have Q3 : Hid (Row X3 _ LB 25) := q1; have B3 : Hid (Below _ _ X3) := q2; clear q1 q2 q3; simp only [Act.put, List.setIfInBounds_toArray, List.set_cons_zero, List.set_cons_succ]))
  obtain ⟨bp, hbp⟩ : ∃ b, b = w.heap.size := ⟨_, rfl⟩
  obtain ⟨bf, hbf⟩ : ∃ b, b = X0.heap.size := ⟨_, rfl⟩
  obtain ⟨bt, hbt⟩ : ∃ b, b = X1.heap.size := ⟨_, rfl⟩
  obtain ⟨bb, hbb⟩ : ∃ b, b = X2.heap.size := ⟨_, rfl⟩
  have c00 := B0.out
  have c01 := c00.trans (B1.out.mono c00.size)
  have c02 := c01.trans (B2.out.mono c01.size)
  have c03 := c02.trans (B3.out.mono c02.size)
  have c11 := B1.out
  have c12 := c11.trans (B2.out.mono c11.size)
  have c13 := c12.trans (B3.out.mono c12.size)
  have c22 := B2.out
  have c23 := c22.trans (B3.out.mono c22.size)
  have c33 := B3.out
  have Rp : Hid (Row X3 bp LP 58) := by rw [hbp]; exact Row.below Q0.out c13 Q0.out.lt
  have HWbp : Hid (w.heap.size ≤ bp) := by show _ ≤ _; rw [hbp]; exact Nat.le_refl _
  have Rf : Hid (Row X3 bf (vB fr) 33) := by rw [hbf]; exact Row.below Q1.out c23 Q1.out.lt
  have HWbf : Hid (w.heap.size ≤ bf) := by show _ ≤ _; rw [hbf]; exact c00.size
  have Rt : Hid (Row X3 bt (vB tw) 33) := by rw [hbt]; exact Row.below Q2.out c33 Q2.out.lt
  have HWbt : Hid (w.heap.size ≤ bt) := by show _ ≤ _; rw [hbt]; exact c01.size
  have Rb : Hid (Row X3 bb LB 25) := by rw [hbb]; exact Q3.out
  have HWbb : Hid (w.heap.size ≤ bb) := by show _ ≤ _; rw [hbb]; exact c02.size
  have Nbpbf : Hid (bp ≠ bf) := by show _ ≠ _; have := Q0.out.lt; rw [hbp, hbf]; omega
  have Nbpbt : Hid (bp ≠ bt) := by show _ ≠ _; have := Q0.out.lt; rw [hbp, hbt]; have := c11.size; omega
  have Nbpbb : Hid (bp ≠ bb) := by show _ ≠ _; have := Q0.out.lt; rw [hbp, hbb]; have := c12.size; omega
  have Nbfbt : Hid (bf ≠ bt) := by show _ ≠ _; have := Q1.out.lt; rw [hbf, hbt]; omega
  have Nbfbb : Hid (bf ≠ bb) := by show _ ≠ _; have := Q1.out.lt; rw [hbf, hbb]; have := c22.size; omega
  have Nbtbb : Hid (bt ≠ bb) := by show _ ≠ _; have := Q2.out.lt; rw [hbt, hbb]; omega
  have BX : Hid (Below w.heap.size w X3) := c03
  rw [← hbp, ← hbf, ← hbt, ← hbb]
  clear hbp hbf hbt hbb c00 c01 c02 c03 c11 c12 c13 c22 c23 c33 Q0 B0 Q1 B1 Q2 B2 Q3 B3
  have rp := Rp.out
  have rf := Rf.out
  have rt := Rt.out
  have rb := Rb.out
  have hG := HG.out.be BX.out
  have hK := Kp.of_below BX.out
  have hw0 : w0.heap.size ≤ X3.heap.size := hG.bel.size
  have hwf : w.heap.size ≤ X3.heap.size := hK.size
  have hb1 := Below.refl X3.heap.size X3
  clear BX Rp Rf Rt Rb HG
  refine wp_named fun a0 ha0 => ?_
  have hsz : a0.tmps.size = 49 := by rw [ha0]; rfl
  have zs4 : a0.eval (.tmp 4) = .pointer (some ⟨bp, 0, none⟩) := by rw [ha0]; rfl
  have zs5 : a0.eval (.tmp 5) = .pointer (some ⟨bf, 0, none⟩) := by rw [ha0]; rfl
  have zs6 : a0.eval (.tmp 6) = .pointer (some ⟨bt, 0, none⟩) := by rw [ha0]; rfl
  have zs7 : a0.eval (.tmp 7) = .pointer (some ⟨bb, 0, none⟩) := by rw [ha0]; rfl
  have lt_rp : bp < X3.heap.size := rp.lt
  have lt_rf : bf < X3.heap.size := rf.lt
  have lt_rt : bt < X3.heap.size := rt.lt
  have lt_rb : bb < X3.heap.size := rb.lt
  obtain ⟨D, hD⟩ : ∃ D : List (Tmp × SP), D = [(14, SP.is (.agg LP.toArray)), (15, SP.is (.agg LP.toArray)), (16, SP.is (.agg (vB fr).toArray)), (17, SP.is (.string (bKt t fr))), (18, SP.is (.agg LB.toArray)), (19, SP.is (.tuple #[.agg N0.toArray, .int .i64 0])), (13, SP.is (.tuple #[.agg N0.toArray, .int .i64 0])), (20, SP.is (.agg N0.toArray)), (21, SP.is (.int .i64 0)), (10, SP.any), (1000, SP.any), (11, SP.is (.int .i64 0))] := ⟨_, rfl⟩
  refine wp_region_then (by kernel_rfl) 5 (by decide) (by kernel_rfl) (fun listed ac W => Fp D a0 listed ac W ∧ Below X3.heap.size X3 W ∧ Row W bp LP 58 ∧ Row W bf ((vB fr)) 33 ∧ Row W bt ((vB tw)) 33 ∧ Row W bb LB 25 ∧ Lg w0 W S (q) f ∧ Kp w W ∧ (listed.getD 9 false = true → ∃ N, ac.eval (.tmp 10) = .pointer (some ⟨N, 0, none⟩) ∧ X3.heap.size ≤ N ∧ Row W N zL 65)) (fun listed ac W => Fp D a0 listed ac W ∧ X3.heap.size ≤ W.heap.size ∧ Row W bp LP 58 ∧ Row W bf ((vB fr)) 33 ∧ Row W bt ((vB tw)) 33 ∧ Row W bb LB 25 ∧ Lg w0 W S (q + 1) f ∧ Kp w W ∧ (listed.getD 9 false = true → ∃ N, ac.eval (.tmp 10) = .pointer (some ⟨N, 0, none⟩) ∧ X3.heap.size ≤ N ∧ Row W N (if listed.getD 10 false = true then N0 else zL) 65)) ?_ ?_ ?_ ?_ ?_
  · exact ⟨Fp.start D a0 _ _, Below.drew hb1, Row.drew rp, Row.drew rf, Row.drew rt, Row.drew rb, hG.below (Below.drew (Below.refl _ _)), hK.below (Below.drew (Below.refl _ _)), (fun h => (start_no h).elim)⟩
  · clear ha0 hb1 rp rf rt rb hG hK
    intro listed ac W k hl hI hdn hk hne hnl
    replace hl : listed.size = 12 := hl
    obtain ⟨hF, hb1, rp, rf, rt, rb, hG, hK, al9⟩ := hI
    have hk1 : k < 12 := List.mem_range.1 (List.mem_filter.1 hk).1
    rcases (show k = 0 ∨ k = 1 ∨ k = 2 ∨ k = 3 ∨ k = 4 ∨ k = 5 ∨ k = 6 ∨ k = 7 ∨ k = 8 ∨ k = 9 ∨ k = 10 ∨ k = 11 by omega) with rfl | rfl | rfl | rfl | rfl | rfl | rfl | rfl | rfl | rfl | rfl | rfl
    · have hk3 := hk
      exact wpOp_plain rfl rfl (wp_load_mid 58 (.tmp 4) rfl bp 0 ((hF.keep 4 (by rw [hD]; rfl)).trans zs4) LP _ rp.all Tryd.underlying58 rfl HLPI.out ⟨(hF.put 0 14 (SP.is (.agg LP.toArray)) (.agg LP.toArray) (by rw [hD]; rfl) rfl (by rw [hD]; rfl) (by rw [hsz]; decide) (by rw [hl]; decide)), hb1, rp, rf, rt, rb, hG, hK, (fun h => by obtain ⟨N, e, hN, r⟩ := al9 (by rwa [getD_set _ _ _ (by decide)] at h); exact ⟨N, (eval_put_other ac _ (by decide)).trans e, hN, r⟩)⟩)
    · have hk3 := hk
      exact wpOp_plain rfl rfl (wp_load_mid 58 (.tmp 4) rfl bp 0 ((hF.keep 4 (by rw [hD]; rfl)).trans zs4) LP _ rp.all Tryd.underlying58 rfl HLPI.out ⟨(hF.put 1 15 (SP.is (.agg LP.toArray)) (.agg LP.toArray) (by rw [hD]; rfl) rfl (by rw [hD]; rfl) (by rw [hsz]; decide) (by rw [hl]; decide)), hb1, rp, rf, rt, rb, hG, hK, (fun h => by obtain ⟨N, e, hN, r⟩ := al9 (by rwa [getD_set _ _ _ (by decide)] at h); exact ⟨N, (eval_put_other ac _ (by decide)).trans e, hN, r⟩)⟩)
    · have hk3 := hk
      exact wpOp_plain rfl rfl (wp_load_mid 33 (.tmp 5) rfl bf 0 ((hF.keep 5 (by rw [hD]; rfl)).trans zs5) ((vB fr)) _ rf.all Tryd.underlying33 rfl HIf.out ⟨(hF.put 2 16 (SP.is (.agg (vB fr).toArray)) (.agg (vB fr).toArray) (by rw [hD]; rfl) rfl (by rw [hD]; rfl) (by rw [hsz]; decide) (by rw [hl]; decide)), hb1, rp, rf, rt, rb, hG, hK, (fun h => by obtain ⟨N, e, hN, r⟩ := al9 (by rwa [getD_set _ _ _ (by decide)] at h); exact ⟨N, (eval_put_other ac _ (by decide)).trans e, hN, r⟩)⟩)
    · have hk3 := hk
      have ea0 := (hF.done 1 (15, SP.is (.agg LP.toArray)) (by rw [hD]; rfl) (ready_dep hk 1 (by kernel_rfl)))
      have ea1 := (hF.done 2 (16, SP.is (.agg (vB fr).toArray)) (by rw [hD]; rfl) (ready_dep hk 2 (by kernel_rfl)))
      refine wpOp_plain rfl rfl (wp_fcall_v 26 #[.agg LP.toArray, .agg (vB fr).toArray] rfl rfl (by show [ac.eval (.tmp 15), ac.eval (.tmp 16)] = _; rw [show ac.eval (.tmp 15) = .agg LP.toArray from ea0, show ac.eval (.tmp 16) = .agg (vB fr).toArray from ea1]) (by go_simp) (((show Calls Tryd.prog 26 #[.agg LP.toArray, .agg (vB fr).toArray] W _ from HKf.out W)).mono ?_))
      rintro e W2 ⟨rfl, hB⟩
      exact ⟨_, rfl, ((hF.world hB).put 3 17 (SP.is (.string (bKt t fr))) (.string (bKt t fr)) (by rw [hD]; rfl) rfl (by rw [hD]; rfl) (by rw [hsz]; decide) (by rw [hl]; decide)), hb1.trans (hB.mono hb1.size), Row.below rp hB (Row.lt rp), Row.below rf hB (Row.lt rf), Row.below rt hB (Row.lt rt), Row.below rb hB (Row.lt rb), hG.below hB, hK.below hB, (fun h => by obtain ⟨N, e, hN, r⟩ := al9 (by rwa [getD_set _ _ _ (by decide)] at h); exact ⟨N, (eval_put_other ac _ (by decide)).trans e, hN, Row.below r hB (Row.lt r)⟩)⟩
    · have hk3 := hk
      exact wpOp_plain rfl rfl (wp_load_mid 25 (.tmp 7) rfl bb 0 ((hF.keep 7 (by rw [hD]; rfl)).trans zs7) LB _ rb.all Tryd.underlying25 rfl HLBI.out ⟨(hF.put 4 18 (SP.is (.agg LB.toArray)) (.agg LB.toArray) (by rw [hD]; rfl) rfl (by rw [hD]; rfl) (by rw [hsz]; decide) (by rw [hl]; decide)), hb1, rp, rf, rt, rb, hG, hK, (fun h => by obtain ⟨N, e, hN, r⟩ := al9 (by rwa [getD_set _ _ _ (by decide)] at h); exact ⟨N, (eval_put_other ac _ (by decide)).trans e, hN, r⟩)⟩)
    · exact absurd rfl hne
    · exact absurd (ready_dep hk 5 (by kernel_rfl)) hnl
    · exact absurd (hdn 6 (ready_dep hk 6 (by kernel_rfl)) 5 (by kernel_rfl)) hnl
    · exact absurd (hdn 6 (ready_dep hk 6 (by kernel_rfl)) 5 (by kernel_rfl)) hnl
    · have hk3 := hk
      have hB : Below W.heap.size W (W.alloc (Obj.cells zL.toArray 65)) := (Below.refl _ _).alloc (Nat.le_refl _) _
      exact wpOp_plain rfl rfl (wp_allocLn rfl ⟨((hF.world hB).put 9 10 (SP.any) (.pointer (some ⟨W.heap.size, 0, none⟩)) (by rw [hD]; rfl) trivial (by rw [hD]; rfl) (by rw [hsz]; decide) (by rw [hl]; decide)), hb1.trans (hB.mono hb1.size), Row.alloc rp _, Row.alloc rf _, Row.alloc rt _, Row.alloc rb _, hG.below hB, hK.below hB, (fun _ => ⟨W.heap.size, eval_put_same ac _ (by rw [hF.size, hsz]; decide), hb1.size, Row.new' rfl rfl⟩)⟩)
    · exact absurd (hdn 6 (hdn 7 (ready_dep hk 7 (by kernel_rfl)) 6 (by kernel_rfl)) 5 (by kernel_rfl)) hnl
    · exact absurd (hdn 6 (hdn 8 (ready_dep hk 8 (by kernel_rfl)) 6 (by kernel_rfl)) 5 (by kernel_rfl)) hnl
  · clear ha0 hb1 rp rf rt rb hG hK
    intro listed ac W hl hI hdn hk
    replace hl : listed.size = 12 := hl
    obtain ⟨hF, hb1, rp, rf, rt, rb, hG, hK, al9⟩ := hI
    have eb1 := (hF.done 0 (14, SP.is (.agg LP.toArray)) (by rw [hD]; rfl) (ready_dep hk 0 (by kernel_rfl)))
    have eb2 := (hF.done 3 (17, SP.is (.string (bKt t fr))) (by rw [hD]; rfl) (ready_dep hk 3 (by kernel_rfl)))
    have eb3 := (hF.done 4 (18, SP.is (.agg LB.toArray)) (by rw [hD]; rfl) (ready_dep hk 4 (by kernel_rfl)))
    have hns10 : ¬ listed.getD 10 false = true := fun h => not_yet hk (hdn 6 (hdn 7 (hdn 10 h 7 (by kernel_rfl)) 6 (by kernel_rfl)) 5 (by kernel_rfl))
    refine wpOp_plain rfl rfl (wp_fcall_v 34 #[.agg LP.toArray, .string (bKt t fr), .agg LB.toArray, .int .i64 85] rfl rfl (by show [ac.eval (.tmp 14), ac.eval (.tmp 17), ac.eval (.tmp 18), .int .i64 85] = _; rw [show ac.eval (.tmp 14) = .agg LP.toArray from eb1, show ac.eval (.tmp 17) = .string (bKt t fr) from eb2, show ac.eval (.tmp 18) = .agg LB.toArray from eb3]) (by go_simp) ((HLE.out W hG).mono ?_))
    rintro e W2 ⟨rfl, hG2, hK2⟩
    have hT : Fp D a0 listed ac W2 := hF.turn (by rw [hD]; simp only [List.forall_mem_cons, List.not_mem_nil, false_implies, implies_true, and_true]; exact ⟨fun _ h => h, fun _ h => h, fun _ h => h, fun _ h => h, fun _ h => h, fun _ h => h, fun _ h => h, fun _ h => h, fun _ h => h, fun _ h => h, fun _ h => h, fun _ h => h⟩)
    exact ⟨_, rfl, (hT.put 5 19 (SP.is (.tuple #[.agg N0.toArray, .int .i64 0])) (_) (by rw [hD]; rfl) rfl (by rw [hD]; rfl) (by rw [hsz]; decide) (by rw [hl]; decide)), Nat.le_trans hb1.size hK2.size, hK2.row _ _ _ (by decide) rp, hK2.row _ _ _ (by decide) rf, hK2.row _ _ _ (by decide) rt, hK2.row _ _ _ (by decide) rb, hG2, hK.trans hK2, (fun h => by obtain ⟨N, e, hN, r⟩ := al9 (by rwa [getD_set _ _ _ (by decide)] at h); exact ⟨N, (eval_put_other ac _ (by decide)).trans e, hN, by rw [getD_set _ _ _ (by decide), if_neg hns10]; exact hK2.row _ _ _ (by decide) r⟩)⟩
  · clear ha0 hb1 rp rf rt rb hG hK
    intro listed ac W k hl hJ hdn hk hne hyl
    replace hl : listed.size = 12 := hl
    obtain ⟨hF, hS, rp, rf, rt, rb, hG, hK, al9⟩ := hJ
    have hk1 : k < 12 := List.mem_range.1 (List.mem_filter.1 hk).1
    rcases (show k = 0 ∨ k = 1 ∨ k = 2 ∨ k = 3 ∨ k = 4 ∨ k = 5 ∨ k = 6 ∨ k = 7 ∨ k = 8 ∨ k = 9 ∨ k = 10 ∨ k = 11 by omega) with rfl | rfl | rfl | rfl | rfl | rfl | rfl | rfl | rfl | rfl | rfl | rfl
    · exact absurd (hdn 5 hyl 0 (by kernel_rfl)) (not_yet hk)
    · exact absurd (hdn 3 (hdn 5 hyl 3 (by kernel_rfl)) 1 (by kernel_rfl)) (not_yet hk)
    · exact absurd (hdn 3 (hdn 5 hyl 3 (by kernel_rfl)) 2 (by kernel_rfl)) (not_yet hk)
    · exact absurd (hdn 5 hyl 3 (by kernel_rfl)) (not_yet hk)
    · exact absurd (hdn 5 hyl 4 (by kernel_rfl)) (not_yet hk)
    · exact absurd rfl hne
    · have hk3 := hk
      exact wpOp_plain rfl rfl (wp_move_v (ac.eval (.tmp 19)) rfl rfl ⟨(hF.put 6 13 (SP.is (.tuple #[.agg N0.toArray, .int .i64 0])) (ac.eval (.tmp 19)) (by rw [hD]; rfl) ((hF.done 5 (19, SP.is (.tuple #[.agg N0.toArray, .int .i64 0])) (by rw [hD]; rfl) (ready_dep hk 5 (by kernel_rfl)))) (by rw [hD]; rfl) (by rw [hsz]; decide) (by rw [hl]; decide)), hS, rp, rf, rt, rb, hG, hK, (fun h => by obtain ⟨N, e, hN, r⟩ := al9 (by rwa [getD_set _ _ _ (by decide)] at h); exact ⟨N, (eval_put_other ac _ (by decide)).trans e, hN, by rw [getD_set _ _ _ (by decide)]; exact r⟩)⟩)
    · have hk3 := hk
      exact wpOp_plain rfl rfl (wp_extract (.tmp 13) 0 rfl _ (hF.done 6 (13, SP.is (.tuple #[.agg N0.toArray, .int .i64 0])) (by rw [hD]; rfl) (ready_dep hk 6 (by kernel_rfl))) (.agg N0.toArray) rfl ⟨(hF.put 7 20 (SP.is (.agg N0.toArray)) (.agg N0.toArray) (by rw [hD]; rfl) rfl (by rw [hD]; rfl) (by rw [hsz]; decide) (by rw [hl]; decide)), hS, rp, rf, rt, rb, hG, hK, (fun h => by obtain ⟨N, e, hN, r⟩ := al9 (by rwa [getD_set _ _ _ (by decide)] at h); exact ⟨N, (eval_put_other ac _ (by decide)).trans e, hN, by rw [getD_set _ _ _ (by decide)]; exact r⟩)⟩)
    · have hk3 := hk
      exact wpOp_plain rfl rfl (wp_extract (.tmp 13) 1 rfl _ (hF.done 6 (13, SP.is (.tuple #[.agg N0.toArray, .int .i64 0])) (by rw [hD]; rfl) (ready_dep hk 6 (by kernel_rfl))) (.int .i64 0) rfl ⟨(hF.put 8 21 (SP.is (.int .i64 0)) (.int .i64 0) (by rw [hD]; rfl) rfl (by rw [hD]; rfl) (by rw [hsz]; decide) (by rw [hl]; decide)), hS, rp, rf, rt, rb, hG, hK, (fun h => by obtain ⟨N, e, hN, r⟩ := al9 (by rwa [getD_set _ _ _ (by decide)] at h); exact ⟨N, (eval_put_other ac _ (by decide)).trans e, hN, by rw [getD_set _ _ _ (by decide)]; exact r⟩)⟩)
    · have hk3 := hk
      have hB : Below W.heap.size W (W.alloc (Obj.cells zL.toArray 65)) := (Below.refl _ _).alloc (Nat.le_refl _) _
      have hns : ¬ listed.getD 10 false = true := fun h => not_yet hk (hdn 10 h 9 (by kernel_rfl))
      exact wpOp_plain rfl rfl (wp_allocLn rfl ⟨((hF.world hB).put 9 10 (SP.any) (.pointer (some ⟨W.heap.size, 0, none⟩)) (by rw [hD]; rfl) trivial (by rw [hD]; rfl) (by rw [hsz]; decide) (by rw [hl]; decide)), Nat.le_trans hS hB.size, Row.alloc rp _, Row.alloc rf _, Row.alloc rt _, Row.alloc rb _, hG.below hB, hK.below hB, (fun _ => ⟨W.heap.size, eval_put_same ac _ (by rw [hF.size, hsz]; decide), hS, (by rw [getD_set _ _ _ (by decide), if_neg hns]; exact Row.new' rfl rfl)⟩)⟩)
    · have hk3 := hk
      obtain ⟨N, e, hN, r⟩ := al9 (ready_dep hk 9 (by kernel_rfl))
      rw [if_neg (not_yet hk)] at r
      have hT : Fp D a0 listed ac (W.setCells N 0 N0) := hF.turn (by rw [hD]; simp only [List.forall_mem_cons, List.not_mem_nil, false_implies, implies_true, and_true]; exact ⟨fun _ h => h, fun _ h => h, fun _ h => h, fun _ h => h, fun _ h => h, fun _ h => h, fun _ h => h, fun _ h => h, fun _ h => h, fun _ h => h, fun _ h => h, fun _ h => h⟩)
      exact wpOp_plain rfl rfl (wp_store_mid 65 (.tmp 10) (.tmp 20) rfl N 0 N0.toArray e (hF.done 7 (20, SP.is (.agg N0.toArray)) (by rw [hD]; rfl) (ready_dep hk 7 (by kernel_rfl))) (r.there 0 _ (by rw [List.size_toArray, HN0N.out]; decide)) HN0J.out HN0O.out ⟨(hT.skip 10 1000 (by rw [hD]; rfl) (by rw [hl]; decide)), (by rw [size_setCells]; exact hS), Row.setCells_other rp _ _ _ (by omega), Row.setCells_other rf _ _ _ (by omega), Row.setCells_other rt _ _ _ (by omega), Row.setCells_other rb _ _ _ (by omega), hG.kept r (by decide) (by decide) (by decide) (by decide) (fun k hk => heap_sets _ _ _ _ _ hk) (below_setCells hG.bel (Nat.le_trans hw0 hN) _), Kp.kept N (Nat.le_trans hwf hN) hK (fun k hk => heap_sets _ _ _ _ _ hk) (below_setCells (Below.refl 0 _) (Nat.zero_le N) _).size, (fun _ => ⟨N, e, hN, by rw [if_pos (getD_same (by rw [hl]; decide))]; exact r.over HN0N.out⟩)⟩)
    · have hk3 := hk
      exact wpOp_plain rfl rfl (wp_assign_v (ac.eval (.tmp 21)) rfl rfl ⟨(hF.put 11 11 (SP.is (.int .i64 0)) (ac.eval (.tmp 21)) (by rw [hD]; rfl) ((hF.done 8 (21, SP.is (.int .i64 0)) (by rw [hD]; rfl) (ready_dep hk 8 (by kernel_rfl)))) (by rw [hD]; rfl) (by rw [hsz]; decide) (by rw [hl]; decide)), hS, rp, rf, rt, rb, hG, hK, (fun h => by obtain ⟨N, e, hN, r⟩ := al9 (by rwa [getD_set _ _ _ (by decide)] at h); exact ⟨N, (eval_put_other ac _ (by decide)).trans e, hN, by rw [getD_set _ _ _ (by decide)]; exact r⟩)⟩)
  · clear hb1 rp rf rt rb hG hK
    intro listed ac W hl hJ hr
    replace hl : listed.size = 12 := hl
    obtain ⟨hF, hS, rp, rf, rt, rb, hG, hK, al9⟩ := hJ
    have hall := all_listed (by kernel_rfl) hl hr
    obtain ⟨NL, ea10, hNL, rNL⟩ := al9 (hall 9 (by decide))
    rw [if_pos (hall 10 (by decide))] at rNL
    have h14 : ac.eval (.tmp 14) = .agg LP.toArray := hF.done 0 (14, SP.is (.agg LP.toArray)) (by rw [hD]; rfl) (hall 0 (by decide))
    have h15 : ac.eval (.tmp 15) = .agg LP.toArray := hF.done 1 (15, SP.is (.agg LP.toArray)) (by rw [hD]; rfl) (hall 1 (by decide))
    have h16 : ac.eval (.tmp 16) = .agg (vB fr).toArray := hF.done 2 (16, SP.is (.agg (vB fr).toArray)) (by rw [hD]; rfl) (hall 2 (by decide))
    have h17 : ac.eval (.tmp 17) = .string (bKt t fr) := hF.done 3 (17, SP.is (.string (bKt t fr))) (by rw [hD]; rfl) (hall 3 (by decide))
    have h18 : ac.eval (.tmp 18) = .agg LB.toArray := hF.done 4 (18, SP.is (.agg LB.toArray)) (by rw [hD]; rfl) (hall 4 (by decide))
    have h19 : ac.eval (.tmp 19) = .tuple #[.agg N0.toArray, .int .i64 0] := hF.done 5 (19, SP.is (.tuple #[.agg N0.toArray, .int .i64 0])) (by rw [hD]; rfl) (hall 5 (by decide))
    have h13 : ac.eval (.tmp 13) = .tuple #[.agg N0.toArray, .int .i64 0] := hF.done 6 (13, SP.is (.tuple #[.agg N0.toArray, .int .i64 0])) (by rw [hD]; rfl) (hall 6 (by decide))
    have h20 : ac.eval (.tmp 20) = .agg N0.toArray := hF.done 7 (20, SP.is (.agg N0.toArray)) (by rw [hD]; rfl) (hall 7 (by decide))
    have h21 : ac.eval (.tmp 21) = .int .i64 0 := hF.done 8 (21, SP.is (.int .i64 0)) (by rw [hD]; rfl) (hall 8 (by decide))
    have h11 : ac.eval (.tmp 11) = .int .i64 0 := hF.done 11 (11, SP.is (.int .i64 0)) (by rw [hD]; rfl) (hall 11 (by decide))
    have ea := hF.lay [(14, .agg LP.toArray), (15, .agg LP.toArray), (16, .agg (vB fr).toArray), (17, .string (bKt t fr)), (18, .agg LB.toArray), (19, .tuple #[.agg N0.toArray, .int .i64 0]), (13, .tuple #[.agg N0.toArray, .int .i64 0]), (20, .agg N0.toArray), (21, .int .i64 0), (10, .pointer (some ⟨NL, 0, none⟩)), (11, .int .i64 0)] (by rw [hD, hsz]; rfl) (by simp only [List.forall_mem_cons, List.not_mem_nil, false_implies, implies_true, and_true]; exact ⟨h14, h15, h16, h17, h18, h19, h13, h20, h21, ea10, h11⟩)
    rw [ha0] at ea
    simp only [List.foldl_cons, List.foldl_nil, List.setIfInBounds_toArray, List.set_cons_zero, List.set_cons_succ] at ea
    clear hF hall hr hl hD zs4 zs5 zs6 zs7 ha0 hsz h14 h15 h16 h17 h18 h19 h13 h20 h21 ea10 h11 al9 lt_rp lt_rf lt_rt lt_rb
    subst ea
    obtain ⟨V, hV⟩ : ∃ V, V = W := ⟨_, rfl⟩
    rw [← hV]
    rw [← hV] at hG hK rp rf rt rb rNL hS
    have HG : Hid (Lg w0 V S (q + 1) f) := hG
    have HK : Hid (Kp w V) := hK
    have RP : Hid (Row V bp LP 58) := rp
    have RT : Hid (Row V bt (vB tw) 33) := rt
    have RQ : Hid (Row V bb LB 25) := rb
    have R9 : Hid (Row V NL N0 65) := rNL
    have SF : Hid (V.rangeAt bf 0 (vB fr)) := rf.all
    have ST_ : Hid (V.rangeAt bt 0 (vB tw)) := rt.all
    clear hV hG hK rp rf rt rb rNL hS hNL hw0 hwf
    go_upto_region 4 with (first
      | (refine wpList_load_w rfl 33 (.tmp 5) rfl bf 0 rfl (vB fr) _ SF.out Tryd.underlying33 rfl HIf.out ?_; simp only [Act.put, List.setIfInBounds_toArray, List.set_cons_zero, List.set_cons_succ])
      | (refine wpList_load_w rfl 33 (.tmp 6) rfl bt 0 rfl (vB tw) _ ST_.out Tryd.underlying33 rfl HIt.out ?_; simp only [Act.put, List.setIfInBounds_toArray, List.set_cons_zero, List.set_cons_succ])
      | (refine wpList_eqlA rfl (.tmp 25) (.tmp 26) _ rfl fr tw HLf.out HLt.out rfl rfl false HNE.out ?_; simp only [Act.put, List.setIfInBounds_toArray, List.set_cons_zero, List.set_cons_succ]))
    have rp := RP.out
    have rt := RT.out
    have rb := RQ.out
    have r9 := R9.out
    have hG := HG.out
    have hK := HK.out
    have hw0 : w0.heap.size ≤ V.heap.size := hG.bel.size
    have hwf : w.heap.size ≤ V.heap.size := hK.size
    have hb1 := Below.refl V.heap.size V
    clear RP RT RQ R9 SF ST_ HG HK
    refine wp_named fun a0 ha0 => ?_
    have hsz : a0.tmps.size = 49 := by rw [ha0]; rfl
    have zs4 : a0.eval (.tmp 4) = .pointer (some ⟨bp, 0, none⟩) := by rw [ha0]; rfl
    have zs6 : a0.eval (.tmp 6) = .pointer (some ⟨bt, 0, none⟩) := by rw [ha0]; rfl
    have zs7 : a0.eval (.tmp 7) = .pointer (some ⟨bb, 0, none⟩) := by rw [ha0]; rfl
    have lt_rp : bp < V.heap.size := rp.lt
    have lt_rt : bt < V.heap.size := rt.lt
    have lt_rb : bb < V.heap.size := rb.lt
    have lt_r9 : NL < V.heap.size := r9.lt
    obtain ⟨D, hD⟩ : ∃ D : List (Tmp × SP), D = [(31, SP.is (.agg LP.toArray)), (32, SP.is (.agg LP.toArray)), (33, SP.is (.agg (vB tw).toArray)), (34, SP.is (.string (bKt t tw))), (35, SP.is (.agg LB.toArray)), (36, SP.is (.tuple #[.agg N1.toArray, .int .i64 0])), (30, SP.is (.tuple #[.agg N1.toArray, .int .i64 0])), (37, SP.is (.agg N1.toArray)), (38, SP.is (.int .i64 0)), (12, SP.any), (1000, SP.any), (11, SP.is (.int .i64 0))] := ⟨_, rfl⟩
    refine wp_region_then (by kernel_rfl) 5 (by decide) (by kernel_rfl) (fun listed ac W => Fp D a0 listed ac W ∧ Below V.heap.size V W ∧ Row W bp LP 58 ∧ Row W bt ((vB tw)) 33 ∧ Row W bb LB 25 ∧ Row W NL N0 65 ∧ Lg w0 W S (q + 1) f ∧ Kp w W ∧ (listed.getD 9 false = true → ∃ N, ac.eval (.tmp 12) = .pointer (some ⟨N, 0, none⟩) ∧ V.heap.size ≤ N ∧ Row W N zL 65)) (fun listed ac W => Fp D a0 listed ac W ∧ V.heap.size ≤ W.heap.size ∧ Row W bp LP 58 ∧ Row W bt ((vB tw)) 33 ∧ Row W bb LB 25 ∧ Row W NL N0 65 ∧ Lg w0 W S (q + 1 + 1) f ∧ Kp w W ∧ (listed.getD 9 false = true → ∃ N, ac.eval (.tmp 12) = .pointer (some ⟨N, 0, none⟩) ∧ V.heap.size ≤ N ∧ Row W N (if listed.getD 10 false = true then N1 else zL) 65)) ?_ ?_ ?_ ?_ ?_
    · exact ⟨Fp.start D a0 _ _, Below.drew hb1, Row.drew rp, Row.drew rt, Row.drew rb, Row.drew r9, hG.below (Below.drew (Below.refl _ _)), hK.below (Below.drew (Below.refl _ _)), (fun h => (start_no h).elim)⟩
    · clear ha0 hb1 rp rt rb r9 hG hK
      intro listed ac W k hl hI hdn hk hne hnl
      replace hl : listed.size = 12 := hl
      obtain ⟨hF, hb1, rp, rt, rb, r9, hG, hK, al9⟩ := hI
      have hk1 : k < 12 := List.mem_range.1 (List.mem_filter.1 hk).1
      rcases (show k = 0 ∨ k = 1 ∨ k = 2 ∨ k = 3 ∨ k = 4 ∨ k = 5 ∨ k = 6 ∨ k = 7 ∨ k = 8 ∨ k = 9 ∨ k = 10 ∨ k = 11 by omega) with rfl | rfl | rfl | rfl | rfl | rfl | rfl | rfl | rfl | rfl | rfl | rfl
      · have hk3 := hk
        exact wpOp_plain rfl rfl (wp_load_mid 58 (.tmp 4) rfl bp 0 ((hF.keep 4 (by rw [hD]; rfl)).trans zs4) LP _ rp.all Tryd.underlying58 rfl HLPI.out ⟨(hF.put 0 31 (SP.is (.agg LP.toArray)) (.agg LP.toArray) (by rw [hD]; rfl) rfl (by rw [hD]; rfl) (by rw [hsz]; decide) (by rw [hl]; decide)), hb1, rp, rt, rb, r9, hG, hK, (fun h => by obtain ⟨N, e, hN, r⟩ := al9 (by rwa [getD_set _ _ _ (by decide)] at h); exact ⟨N, (eval_put_other ac _ (by decide)).trans e, hN, r⟩)⟩)
      · have hk3 := hk
        exact wpOp_plain rfl rfl (wp_load_mid 58 (.tmp 4) rfl bp 0 ((hF.keep 4 (by rw [hD]; rfl)).trans zs4) LP _ rp.all Tryd.underlying58 rfl HLPI.out ⟨(hF.put 1 32 (SP.is (.agg LP.toArray)) (.agg LP.toArray) (by rw [hD]; rfl) rfl (by rw [hD]; rfl) (by rw [hsz]; decide) (by rw [hl]; decide)), hb1, rp, rt, rb, r9, hG, hK, (fun h => by obtain ⟨N, e, hN, r⟩ := al9 (by rwa [getD_set _ _ _ (by decide)] at h); exact ⟨N, (eval_put_other ac _ (by decide)).trans e, hN, r⟩)⟩)
      · have hk3 := hk
        exact wpOp_plain rfl rfl (wp_load_mid 33 (.tmp 6) rfl bt 0 ((hF.keep 6 (by rw [hD]; rfl)).trans zs6) ((vB tw)) _ rt.all Tryd.underlying33 rfl HIt.out ⟨(hF.put 2 33 (SP.is (.agg (vB tw).toArray)) (.agg (vB tw).toArray) (by rw [hD]; rfl) rfl (by rw [hD]; rfl) (by rw [hsz]; decide) (by rw [hl]; decide)), hb1, rp, rt, rb, r9, hG, hK, (fun h => by obtain ⟨N, e, hN, r⟩ := al9 (by rwa [getD_set _ _ _ (by decide)] at h); exact ⟨N, (eval_put_other ac _ (by decide)).trans e, hN, r⟩)⟩)
      · have hk3 := hk
        have ea0 := (hF.done 1 (32, SP.is (.agg LP.toArray)) (by rw [hD]; rfl) (ready_dep hk 1 (by kernel_rfl)))
        have ea1 := (hF.done 2 (33, SP.is (.agg (vB tw).toArray)) (by rw [hD]; rfl) (ready_dep hk 2 (by kernel_rfl)))
        refine wpOp_plain rfl rfl (wp_fcall_v 26 #[.agg LP.toArray, .agg (vB tw).toArray] rfl rfl (by show [ac.eval (.tmp 32), ac.eval (.tmp 33)] = _; rw [show ac.eval (.tmp 32) = .agg LP.toArray from ea0, show ac.eval (.tmp 33) = .agg (vB tw).toArray from ea1]) (by go_simp) (((show Calls Tryd.prog 26 #[.agg LP.toArray, .agg (vB tw).toArray] W _ from HKt.out W)).mono ?_))
        rintro e W2 ⟨rfl, hB⟩
        exact ⟨_, rfl, ((hF.world hB).put 3 34 (SP.is (.string (bKt t tw))) (.string (bKt t tw)) (by rw [hD]; rfl) rfl (by rw [hD]; rfl) (by rw [hsz]; decide) (by rw [hl]; decide)), hb1.trans (hB.mono hb1.size), Row.below rp hB (Row.lt rp), Row.below rt hB (Row.lt rt), Row.below rb hB (Row.lt rb), Row.below r9 hB (Row.lt r9), hG.below hB, hK.below hB, (fun h => by obtain ⟨N, e, hN, r⟩ := al9 (by rwa [getD_set _ _ _ (by decide)] at h); exact ⟨N, (eval_put_other ac _ (by decide)).trans e, hN, Row.below r hB (Row.lt r)⟩)⟩
      · have hk3 := hk
        exact wpOp_plain rfl rfl (wp_load_mid 25 (.tmp 7) rfl bb 0 ((hF.keep 7 (by rw [hD]; rfl)).trans zs7) LB _ rb.all Tryd.underlying25 rfl HLBI.out ⟨(hF.put 4 35 (SP.is (.agg LB.toArray)) (.agg LB.toArray) (by rw [hD]; rfl) rfl (by rw [hD]; rfl) (by rw [hsz]; decide) (by rw [hl]; decide)), hb1, rp, rt, rb, r9, hG, hK, (fun h => by obtain ⟨N, e, hN, r⟩ := al9 (by rwa [getD_set _ _ _ (by decide)] at h); exact ⟨N, (eval_put_other ac _ (by decide)).trans e, hN, r⟩)⟩)
      · exact absurd rfl hne
      · exact absurd (ready_dep hk 5 (by kernel_rfl)) hnl
      · exact absurd (hdn 6 (ready_dep hk 6 (by kernel_rfl)) 5 (by kernel_rfl)) hnl
      · exact absurd (hdn 6 (ready_dep hk 6 (by kernel_rfl)) 5 (by kernel_rfl)) hnl
      · have hk3 := hk
        have hB : Below W.heap.size W (W.alloc (Obj.cells zL.toArray 65)) := (Below.refl _ _).alloc (Nat.le_refl _) _
        exact wpOp_plain rfl rfl (wp_allocLn rfl ⟨((hF.world hB).put 9 12 (SP.any) (.pointer (some ⟨W.heap.size, 0, none⟩)) (by rw [hD]; rfl) trivial (by rw [hD]; rfl) (by rw [hsz]; decide) (by rw [hl]; decide)), hb1.trans (hB.mono hb1.size), Row.alloc rp _, Row.alloc rt _, Row.alloc rb _, Row.alloc r9 _, hG.below hB, hK.below hB, (fun _ => ⟨W.heap.size, eval_put_same ac _ (by rw [hF.size, hsz]; decide), hb1.size, Row.new' rfl rfl⟩)⟩)
      · exact absurd (hdn 6 (hdn 7 (ready_dep hk 7 (by kernel_rfl)) 6 (by kernel_rfl)) 5 (by kernel_rfl)) hnl
      · exact absurd (hdn 6 (hdn 8 (ready_dep hk 8 (by kernel_rfl)) 6 (by kernel_rfl)) 5 (by kernel_rfl)) hnl
    · clear ha0 hb1 rp rt rb r9 hG hK
      intro listed ac W hl hI hdn hk
      replace hl : listed.size = 12 := hl
      obtain ⟨hF, hb1, rp, rt, rb, r9, hG, hK, al9⟩ := hI
      have eb1 := (hF.done 0 (31, SP.is (.agg LP.toArray)) (by rw [hD]; rfl) (ready_dep hk 0 (by kernel_rfl)))
      have eb2 := (hF.done 3 (34, SP.is (.string (bKt t tw))) (by rw [hD]; rfl) (ready_dep hk 3 (by kernel_rfl)))
      have eb3 := (hF.done 4 (35, SP.is (.agg LB.toArray)) (by rw [hD]; rfl) (ready_dep hk 4 (by kernel_rfl)))
      have hns10 : ¬ listed.getD 10 false = true := fun h => not_yet hk (hdn 6 (hdn 7 (hdn 10 h 7 (by kernel_rfl)) 6 (by kernel_rfl)) 5 (by kernel_rfl))
      refine wpOp_plain rfl rfl (wp_fcall_v 25 #[.agg LP.toArray, .string (bKt t tw), .agg LB.toArray] rfl rfl (by show [ac.eval (.tmp 31), ac.eval (.tmp 34), ac.eval (.tmp 35)] = _; rw [show ac.eval (.tmp 31) = .agg LP.toArray from eb1, show ac.eval (.tmp 34) = .string (bKt t tw) from eb2, show ac.eval (.tmp 35) = .agg LB.toArray from eb3]) (by go_simp) ((HGR.out W hG).mono ?_))
      rintro e W2 ⟨rfl, hG2, hK2⟩
      have hT : Fp D a0 listed ac W2 := hF.turn (by rw [hD]; simp only [List.forall_mem_cons, List.not_mem_nil, false_implies, implies_true, and_true]; exact ⟨fun _ h => h, fun _ h => h, fun _ h => h, fun _ h => h, fun _ h => h, fun _ h => h, fun _ h => h, fun _ h => h, fun _ h => h, fun _ h => h, fun _ h => h, fun _ h => h⟩)
      exact ⟨_, rfl, (hT.put 5 36 (SP.is (.tuple #[.agg N1.toArray, .int .i64 0])) (_) (by rw [hD]; rfl) rfl (by rw [hD]; rfl) (by rw [hsz]; decide) (by rw [hl]; decide)), Nat.le_trans hb1.size hK2.size, hK2.row _ _ _ (by decide) rp, hK2.row _ _ _ (by decide) rt, hK2.row _ _ _ (by decide) rb, hK2.row _ _ _ (by decide) r9, hG2, hK.trans hK2, (fun h => by obtain ⟨N, e, hN, r⟩ := al9 (by rwa [getD_set _ _ _ (by decide)] at h); exact ⟨N, (eval_put_other ac _ (by decide)).trans e, hN, by rw [getD_set _ _ _ (by decide), if_neg hns10]; exact hK2.row _ _ _ (by decide) r⟩)⟩
    · clear ha0 hb1 rp rt rb r9 hG hK
      intro listed ac W k hl hJ hdn hk hne hyl
      replace hl : listed.size = 12 := hl
      obtain ⟨hF, hS, rp, rt, rb, r9, hG, hK, al9⟩ := hJ
      have hk1 : k < 12 := List.mem_range.1 (List.mem_filter.1 hk).1
      rcases (show k = 0 ∨ k = 1 ∨ k = 2 ∨ k = 3 ∨ k = 4 ∨ k = 5 ∨ k = 6 ∨ k = 7 ∨ k = 8 ∨ k = 9 ∨ k = 10 ∨ k = 11 by omega) with rfl | rfl | rfl | rfl | rfl | rfl | rfl | rfl | rfl | rfl | rfl | rfl
      · exact absurd (hdn 5 hyl 0 (by kernel_rfl)) (not_yet hk)
      · exact absurd (hdn 3 (hdn 5 hyl 3 (by kernel_rfl)) 1 (by kernel_rfl)) (not_yet hk)
      · exact absurd (hdn 3 (hdn 5 hyl 3 (by kernel_rfl)) 2 (by kernel_rfl)) (not_yet hk)
      · exact absurd (hdn 5 hyl 3 (by kernel_rfl)) (not_yet hk)
      · exact absurd (hdn 5 hyl 4 (by kernel_rfl)) (not_yet hk)
      · exact absurd rfl hne
      · have hk3 := hk
        exact wpOp_plain rfl rfl (wp_move_v (ac.eval (.tmp 36)) rfl rfl ⟨(hF.put 6 30 (SP.is (.tuple #[.agg N1.toArray, .int .i64 0])) (ac.eval (.tmp 36)) (by rw [hD]; rfl) ((hF.done 5 (36, SP.is (.tuple #[.agg N1.toArray, .int .i64 0])) (by rw [hD]; rfl) (ready_dep hk 5 (by kernel_rfl)))) (by rw [hD]; rfl) (by rw [hsz]; decide) (by rw [hl]; decide)), hS, rp, rt, rb, r9, hG, hK, (fun h => by obtain ⟨N, e, hN, r⟩ := al9 (by rwa [getD_set _ _ _ (by decide)] at h); exact ⟨N, (eval_put_other ac _ (by decide)).trans e, hN, by rw [getD_set _ _ _ (by decide)]; exact r⟩)⟩)
      · have hk3 := hk
        exact wpOp_plain rfl rfl (wp_extract (.tmp 30) 0 rfl _ (hF.done 6 (30, SP.is (.tuple #[.agg N1.toArray, .int .i64 0])) (by rw [hD]; rfl) (ready_dep hk 6 (by kernel_rfl))) (.agg N1.toArray) rfl ⟨(hF.put 7 37 (SP.is (.agg N1.toArray)) (.agg N1.toArray) (by rw [hD]; rfl) rfl (by rw [hD]; rfl) (by rw [hsz]; decide) (by rw [hl]; decide)), hS, rp, rt, rb, r9, hG, hK, (fun h => by obtain ⟨N, e, hN, r⟩ := al9 (by rwa [getD_set _ _ _ (by decide)] at h); exact ⟨N, (eval_put_other ac _ (by decide)).trans e, hN, by rw [getD_set _ _ _ (by decide)]; exact r⟩)⟩)
      · have hk3 := hk
        exact wpOp_plain rfl rfl (wp_extract (.tmp 30) 1 rfl _ (hF.done 6 (30, SP.is (.tuple #[.agg N1.toArray, .int .i64 0])) (by rw [hD]; rfl) (ready_dep hk 6 (by kernel_rfl))) (.int .i64 0) rfl ⟨(hF.put 8 38 (SP.is (.int .i64 0)) (.int .i64 0) (by rw [hD]; rfl) rfl (by rw [hD]; rfl) (by rw [hsz]; decide) (by rw [hl]; decide)), hS, rp, rt, rb, r9, hG, hK, (fun h => by obtain ⟨N, e, hN, r⟩ := al9 (by rwa [getD_set _ _ _ (by decide)] at h); exact ⟨N, (eval_put_other ac _ (by decide)).trans e, hN, by rw [getD_set _ _ _ (by decide)]; exact r⟩)⟩)
      · have hk3 := hk
        have hB : Below W.heap.size W (W.alloc (Obj.cells zL.toArray 65)) := (Below.refl _ _).alloc (Nat.le_refl _) _
        have hns : ¬ listed.getD 10 false = true := fun h => not_yet hk (hdn 10 h 9 (by kernel_rfl))
        exact wpOp_plain rfl rfl (wp_allocLn rfl ⟨((hF.world hB).put 9 12 (SP.any) (.pointer (some ⟨W.heap.size, 0, none⟩)) (by rw [hD]; rfl) trivial (by rw [hD]; rfl) (by rw [hsz]; decide) (by rw [hl]; decide)), Nat.le_trans hS hB.size, Row.alloc rp _, Row.alloc rt _, Row.alloc rb _, Row.alloc r9 _, hG.below hB, hK.below hB, (fun _ => ⟨W.heap.size, eval_put_same ac _ (by rw [hF.size, hsz]; decide), hS, (by rw [getD_set _ _ _ (by decide), if_neg hns]; exact Row.new' rfl rfl)⟩)⟩)
      · have hk3 := hk
        obtain ⟨N, e, hN, r⟩ := al9 (ready_dep hk 9 (by kernel_rfl))
        rw [if_neg (not_yet hk)] at r
        have hT : Fp D a0 listed ac (W.setCells N 0 N1) := hF.turn (by rw [hD]; simp only [List.forall_mem_cons, List.not_mem_nil, false_implies, implies_true, and_true]; exact ⟨fun _ h => h, fun _ h => h, fun _ h => h, fun _ h => h, fun _ h => h, fun _ h => h, fun _ h => h, fun _ h => h, fun _ h => h, fun _ h => h, fun _ h => h, fun _ h => h⟩)
        exact wpOp_plain rfl rfl (wp_store_mid 65 (.tmp 12) (.tmp 37) rfl N 0 N1.toArray e (hF.done 7 (37, SP.is (.agg N1.toArray)) (by rw [hD]; rfl) (ready_dep hk 7 (by kernel_rfl))) (r.there 0 _ (by rw [List.size_toArray, HN1N.out]; decide)) HN1J.out HN1O.out ⟨(hT.skip 10 1000 (by rw [hD]; rfl) (by rw [hl]; decide)), (by rw [size_setCells]; exact hS), Row.setCells_other rp _ _ _ (by omega), Row.setCells_other rt _ _ _ (by omega), Row.setCells_other rb _ _ _ (by omega), Row.setCells_other r9 _ _ _ (by omega), hG.kept r (by decide) (by decide) (by decide) (by decide) (fun k hk => heap_sets _ _ _ _ _ hk) (below_setCells hG.bel (Nat.le_trans hw0 hN) _), Kp.kept N (Nat.le_trans hwf hN) hK (fun k hk => heap_sets _ _ _ _ _ hk) (below_setCells (Below.refl 0 _) (Nat.zero_le N) _).size, (fun _ => ⟨N, e, hN, by rw [if_pos (getD_same (by rw [hl]; decide))]; exact r.over HN1N.out⟩)⟩)
      · have hk3 := hk
        exact wpOp_plain rfl rfl (wp_assign_v (ac.eval (.tmp 38)) rfl rfl ⟨(hF.put 11 11 (SP.is (.int .i64 0)) (ac.eval (.tmp 38)) (by rw [hD]; rfl) ((hF.done 8 (38, SP.is (.int .i64 0)) (by rw [hD]; rfl) (ready_dep hk 8 (by kernel_rfl)))) (by rw [hD]; rfl) (by rw [hsz]; decide) (by rw [hl]; decide)), hS, rp, rt, rb, r9, hG, hK, (fun h => by obtain ⟨N, e, hN, r⟩ := al9 (by rwa [getD_set _ _ _ (by decide)] at h); exact ⟨N, (eval_put_other ac _ (by decide)).trans e, hN, by rw [getD_set _ _ _ (by decide)]; exact r⟩)⟩)
    · clear hb1 rp rt rb r9 hG hK
      intro listed ac W hl hJ hr
      replace hl : listed.size = 12 := hl
      obtain ⟨hF, hS, rp, rt, rb, r9, hG, hK, al9⟩ := hJ
      have hall := all_listed (by kernel_rfl) hl hr
      obtain ⟨ML, ea12, hML, rML⟩ := al9 (hall 9 (by decide))
      rw [if_pos (hall 10 (by decide))] at rML
      have h31 : ac.eval (.tmp 31) = .agg LP.toArray := hF.done 0 (31, SP.is (.agg LP.toArray)) (by rw [hD]; rfl) (hall 0 (by decide))
      have h32 : ac.eval (.tmp 32) = .agg LP.toArray := hF.done 1 (32, SP.is (.agg LP.toArray)) (by rw [hD]; rfl) (hall 1 (by decide))
      have h33 : ac.eval (.tmp 33) = .agg (vB tw).toArray := hF.done 2 (33, SP.is (.agg (vB tw).toArray)) (by rw [hD]; rfl) (hall 2 (by decide))
      have h34 : ac.eval (.tmp 34) = .string (bKt t tw) := hF.done 3 (34, SP.is (.string (bKt t tw))) (by rw [hD]; rfl) (hall 3 (by decide))
      have h35 : ac.eval (.tmp 35) = .agg LB.toArray := hF.done 4 (35, SP.is (.agg LB.toArray)) (by rw [hD]; rfl) (hall 4 (by decide))
      have h36 : ac.eval (.tmp 36) = .tuple #[.agg N1.toArray, .int .i64 0] := hF.done 5 (36, SP.is (.tuple #[.agg N1.toArray, .int .i64 0])) (by rw [hD]; rfl) (hall 5 (by decide))
      have h30 : ac.eval (.tmp 30) = .tuple #[.agg N1.toArray, .int .i64 0] := hF.done 6 (30, SP.is (.tuple #[.agg N1.toArray, .int .i64 0])) (by rw [hD]; rfl) (hall 6 (by decide))
      have h37 : ac.eval (.tmp 37) = .agg N1.toArray := hF.done 7 (37, SP.is (.agg N1.toArray)) (by rw [hD]; rfl) (hall 7 (by decide))
      have h38 : ac.eval (.tmp 38) = .int .i64 0 := hF.done 8 (38, SP.is (.int .i64 0)) (by rw [hD]; rfl) (hall 8 (by decide))
      have h11 : ac.eval (.tmp 11) = .int .i64 0 := hF.done 11 (11, SP.is (.int .i64 0)) (by rw [hD]; rfl) (hall 11 (by decide))
      have ea := hF.lay [(31, .agg LP.toArray), (32, .agg LP.toArray), (33, .agg (vB tw).toArray), (34, .string (bKt t tw)), (35, .agg LB.toArray), (36, .tuple #[.agg N1.toArray, .int .i64 0]), (30, .tuple #[.agg N1.toArray, .int .i64 0]), (37, .agg N1.toArray), (38, .int .i64 0), (12, .pointer (some ⟨ML, 0, none⟩)), (11, .int .i64 0)] (by rw [hD, hsz]; rfl) (by simp only [List.forall_mem_cons, List.not_mem_nil, false_implies, implies_true, and_true]; exact ⟨h31, h32, h33, h34, h35, h36, h30, h37, h38, ea12, h11⟩)
      rw [ha0] at ea
      simp only [List.foldl_cons, List.foldl_nil, List.setIfInBounds_toArray, List.set_cons_zero, List.set_cons_succ] at ea
      clear hF hall hr hl hD zs4 zs6 zs7 ha0 hsz h31 h32 h33 h34 h35 h36 h30 h37 h38 ea12 h11 al9 lt_rp lt_rt lt_rb lt_r9
      subst ea
      obtain ⟨V2, hV⟩ : ∃ V, V = W := ⟨_, rfl⟩
      rw [← hV]
      rw [← hV] at hG hK rp rt rb r9 rML hS
      have HG : Hid (Lg w0 V2 S (q + 1 + 1) f) := hG
      have HK : Hid (Kp w V2) := hK
      have SB : Hid (V2.rangeAt bb 0 LB) := rb.all
      have R9 : Hid (Row V2 NL N0 65) := r9
      have R12 : Hid (Row V2 ML N1 65) := rML
      clear hV hG hK rp rt rb r9 rML hS hML hw0 hwf
      go_wp2_with (refine wpList_load_w rfl 25 (.tmp 7) rfl bb 0 rfl LB _ SB.out Tryd.underlying25 rfl HLBI.out ?_; simp only [Act.put, List.setIfInBounds_toArray, List.set_cons_zero, List.set_cons_succ])
      refine Calls.mono (HZ.out V2) ?_
      rintro e V3 ⟨rfl, hB⟩
      replace HG : Hid (Lg w0 V3 S (q + 1 + 1) f) := HG.out.be hB
      replace HK : Hid (Kp w V3) := HK.out.trans (Kp.of_below hB)
      have S9 : Hid (V3.rangeAt NL 0 N0) := (Row.below R9.out hB R9.out.lt).all
      have S12 : Hid (V3.rangeAt ML 0 N1) := (Row.below R12.out hB R12.out.lt).all
      clear hB HZ SB R9 R12
      go_wp2_with (first
        | (refine wpList_load_w rfl 65 (.tmp 10) rfl NL 0 rfl N0 _ S9.out Tryd.underlying65 rfl HN0I.out ?_; simp only [Act.put, List.setIfInBounds_toArray, List.set_cons_zero, List.set_cons_succ])
        | (refine wpList_load_w rfl 65 (.tmp 12) rfl ML 0 rfl N1 _ S12.out Tryd.underlying65 rfl HN1I.out ?_; simp only [Act.put, List.setIfInBounds_toArray, List.set_cons_zero, List.set_cons_succ])
        | (refine wpList_buildL2 rfl (.tmp 46) (.tmp 47) rfl N0 N1 HN0N.out HN1N.out rfl rfl ?_; intro V4 q1 q2; have RG : Hid (Row V4 V3.heap.size (N0 ++ N1) 65) := q1; have BG : Hid (Below V3.heap.size V3 V4) := q2; clear q1 q2; simp only [Act.put, List.setIfInBounds_toArray, List.set_cons_zero, List.set_cons_succ]))
      go_ret2
      exact ⟨V3.heap.size, rfl, RG.out, HG.out.be BG.out, HK.out.trans (Kp.of_below BG.out)⟩

end Go.Proofs.YtelioddogdcdoaaDoor
