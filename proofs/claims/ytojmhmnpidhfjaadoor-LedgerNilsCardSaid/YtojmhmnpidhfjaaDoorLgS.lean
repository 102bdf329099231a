/-
  askRunning, turnSupply, Balance.
-/
import Derived.Test.YtojmhmnpidhfjaaDoorLgR
namespace Go.Proofs.YtojmhmnpidhfjaaDoor
open Go Go.RowKit Go.Maps
open Sha
open Wd

set_option maxRecDepth 100000 in
set_option maxHeartbeats 4000000 in
theorem askRun (w0 : World) (S q : Nat) (f : ByteArray → List (BitVec 8)) (hq : q < 999980) (n : Nat) (hn : n < 1000000) (hf : f tK = 1#8 :: wB n) (LP LT : List Value) (hLP : LP = [.pointer (some ⟨S, 0, none⟩), .int .u8 5]) (hLT : LT = [.bool true, .bool false, .int .u64 (n : Int), .int .u64 0, .int .u64 0, .int .u64 0]) (w : World) (h : Lg w0 w S q f) :
    Calls Tryd.prog 27 #[.pointer (some ⟨S, 0, none⟩), .int .i64 5] w fun e w' => e = .returned (.tuple #[.agg LP.toArray, .agg LT.toArray, .int .i64 0]) ∧ Lg w0 w' S (q + 1) f ∧ Kp w w' := by
  obtain ⟨LZ, hLZ⟩ : ∃ L : List Value, L = zK := ⟨_, rfl⟩
  obtain ⟨LQ, hLQ⟩ : ∃ L : List Value, L = [.bool true, .bool true, .int .u64 (n : Int), .int .u64 0, .int .u64 0, .int .u64 0] := ⟨_, rfl⟩
  have HPE : Hid (LP = [.pointer (some ⟨S, 0, none⟩), .int .u8 5]) := hLP
  have HPI : Hid ((Tryd.prog.info? 61).map (·.size) = some LP.length) := by show _ = _; rw [hLP]; exact info_pg
  have HPN : Hid (LP.length = zP.length) := by show _ = _; rw [hLP]; rfl
  have HPO : Hid (LP.toArray.all (·.oneCell') = true) := pg_one hLP
  have HLTE : Hid (LT = [.bool true, .bool false, .int .u64 (n : Int), .int .u64 0, .int .u64 0, .int .u64 0]) := hLT
  have HLTI : Hid ((Tryd.prog.info? 33).map (·.size) = some LT.length) := by show _ = _; rw [hLT]; exact info_tok
  have HLTN : Hid (LT.length = zK.length) := by show _ = _; rw [hLT]; rfl
  have HLTO : Hid (LT.toArray.all (·.oneCell') = true) := tok_one hLT
  have HPJ : Hid ((Tryd.prog.info? 61).map (·.size) = some LP.toArray.size) := by show _ = _; rw [List.size_toArray, hLP]; exact info_pg
  have HTJ : Hid ((Tryd.prog.info? 33).map (·.size) = some LT.toArray.size) := by show _ = _; rw [List.size_toArray, hLT]; exact info_tok
  have HLZ : Hid (LZ = zK) := hLZ
  have HC1 : Hid (∀ w, (binOp .eql 33 (.agg LT.toArray) (.agg LZ.toArray)).run Tryd.prog w = .ok (.bool false) w) := fun w => by rw [hLT, hLZ]; exact tok_rz _ w
  have HC2 : Hid (∀ w, (binOp .eql 33 (.agg LT.toArray) (.agg LQ.toArray)).run Tryd.prog w = .ok (.bool false) w) := fun w => by rw [hLT, hLQ]; exact tok_rp _ w
  have HPA : Hid (∀ W, Calls Tryd.prog 36 #[.agg LT.toArray] W fun e w' => e = .returned (.agg LQ.toArray) ∧ Below W.heap.size W w') := fun W => by rw [hLT, hLQ]; exact paused_any true false (n : Int) W
  have HQ : Hid (q < 999980) := hq
  have HN : Hid (n < 1000000) := hn
  have HF : Hid (f tK = 1#8 :: wB n) := hf
  have HG : Hid (Lg w0 w S q f) := h
  have HW0 : Hid (w0.heap.size ≤ w.heap.size) := h.bel.size
  clear hLP hLT hLZ hLQ hq hn hf h
  go_enter Tryd.func27, Tryd.ntmps27
  go_wp2_with (first
    | (refine wpList_allocP rfl rfl ?_; intro X4 q1 q2 q3; have R4 : Hid (Row X4 _ zP 61) := q1; have B4 : Hid (Below _ _ X4) := q2; clear q1 q2 q3; simp only [Act.put, List.setIfInBounds_toArray, List.set_cons_zero, List.set_cons_succ])
    | (refine wpList_allocK rfl rfl ?_; intro X5 q1 q2 q3; have R5 : Hid (Row X5 _ zK 33) := q1; have B5 : Hid (Below _ _ X5) := q2; clear q1 q2 q3; simp only [Act.put, List.setIfInBounds_toArray, List.set_cons_zero, List.set_cons_succ]))
  obtain ⟨b4, hb4⟩ : ∃ b, b = w.heap.size := ⟨_, rfl⟩
  obtain ⟨b5, hb5⟩ : ∃ b, b = X4.heap.size := ⟨_, rfl⟩
  have bX := B4.out.trans (B5.out.mono B4.out.size)
  have hwp4 : w.heap.size ≤ b4 := by rw [hb4]; exact Nat.le_refl _
  have hwp5 : w.heap.size ≤ b5 := by rw [hb5]; exact B4.out.size
  have n45 : b4 ≠ b5 := by have := R4.out.lt; rw [hb4, hb5]; omega
  replace R4 : Hid (Row X5 b4 zP 61) := by rw [hb4]; exact Row.below R4.out B5.out R4.out.lt
  rw [← hb5] at R5
  rw [← hb4, ← hb5]
  replace HG : Hid (Lg w0 X5 S q f) := HG.out.be bX
  have HK : Hid (Kp w X5) := Kp.of_below bX
  have H45 : Hid (b4 ≠ b5) := n45
  have HW4 : Hid (w.heap.size ≤ b4) := hwp4
  have HW5 : Hid (w.heap.size ≤ b5) := hwp5
  clear hb4 hb5 B4 B5 bX n45 hwp4 hwp5
  refine Calls.mono (askK w0 S q f (by have := HQ.out; omega) n HN.out HF.out LP LT HPE.out HLTE.out X5 HG.out) ?_
  rintro e V ⟨rfl, hG, hK⟩
  replace R4 : Hid (Row V b4 zP 61) := hK.row _ _ _ (by decide) R4.out
  replace R5 : Hid (Row V b5 zK 33) := hK.row _ _ _ (by decide) R5.out
  replace HG : Hid (Lg w0 V S (q + 1) f) := hG
  replace HK : Hid (Kp w V) := HK.out.trans hK
  clear hG hK
  go_upto_region 2 with (first
    | (refine wpList_allocP rfl rfl ?_; intro XP q1 q2 q3; have RP1 : Hid (Row XP V.heap.size zP 61) := q1; have BP : Hid (Below V.heap.size V XP) := q2; have NE12 : Hid (XP.heap.size ≠ V.heap.size) := (by show _ ≠ _; rw [q3]; omega); clear q1 q2 q3; simp only [Act.put, List.setIfInBounds_toArray, List.set_cons_zero, List.set_cons_succ])
    | (refine wpList_allocK rfl rfl ?_; intro XK q1 q2 q3; have RK1 : Hid (Row XK XP.heap.size zK 33) := q1; have BK : Hid (Below XP.heap.size XP XK) := q2; have RP2 : Hid (Row XK V.heap.size zP 61) := Row.below RP1.out q2 RP1.out.lt; clear q1 q2 q3; simp only [Act.put, List.setIfInBounds_toArray, List.set_cons_zero, List.set_cons_succ])
    | (refine wpList_storeL rfl 61 (.tmp 7) (.tmp 14) rfl V.heap.size LP zP 61 rfl rfl RP2.out HPN.out HPI.out HPO.out ?_; intro YP q1 q2; have HYP : Hid (YP = _) := q1; have RYP : Hid (Row YP V.heap.size LP 61) := q2; have RK2 : Hid (Row YP XP.heap.size zK 33) := (by rw [q1]; exact Row.setCells_other RK1.out _ _ _ NE12.out); clear q1 q2; simp only [Act.put])
    | (refine wpList_storeL rfl 33 (.tmp 8) (.tmp 15) rfl XP.heap.size LT zK 33 rfl rfl RK2.out HLTN.out HLTI.out HLTO.out ?_; intro YK q1 q2; have HYK : Hid (YK = _) := q1; have RYK : Hid (Row YK XP.heap.size LT 33) := q2; clear q1 q2; simp only [Act.put]))
  obtain ⟨p1, hp1⟩ : ∃ p, p = V.heap.size := ⟨_, rfl⟩
  obtain ⟨p2, hp2⟩ : ∃ p, p = XP.heap.size := ⟨_, rfl⟩
  have b12 : Below V.heap.size V YK := by rw [HYK.out, HYP.out]; exact below_setCells (below_setCells (BP.out.trans (BK.out.mono BP.out.size)) (Nat.le_refl _) _) BP.out.size _
  have R1 : Hid (Row YK p1 LP 61) := by rw [HYK.out, hp1]; exact Row.setCells_other RYP.out _ _ _ (Ne.symm NE12.out)
  have R2 : Hid (Row YK p2 LT 33) := by rw [hp2]; exact RYK.out
  have h12 : p1 ≠ p2 := by rw [hp1, hp2]; exact Ne.symm NE12.out
  have H12 : Hid (p1 ≠ p2) := h12
  have HP1 : Hid (p1 = V.heap.size) := hp1
  have HP2 : Hid (V.heap.size ≤ p2) := by rw [hp2]; exact BP.out.size
  rw [← hp1, ← hp2]
  clear hp1 hp2 h12 BP BK RP1 RP2 RK1 RK2 NE12 HYP RYP HYK RYK
  have n41 : b4 ≠ p1 := by have := R4.out.lt; rw [HP1.out]; omega
  have n42 : b4 ≠ p2 := by have := R4.out.lt; have := HP2.out; omega
  have n51 : b5 ≠ p1 := by have := R5.out.lt; rw [HP1.out]; omega
  have n52 : b5 ≠ p2 := by have := R5.out.lt; have := HP2.out; omega
  have HNS : Hid (b4 ≠ p1 ∧ b4 ≠ p2 ∧ b5 ≠ p1 ∧ b5 ≠ p2) := ⟨n41, n42, n51, n52⟩
  replace R4 : Hid (Row YK b4 zP 61) := Row.below R4.out b12 R4.out.lt
  replace R5 : Hid (Row YK b5 zK 33) := Row.below R5.out b12 R5.out.lt
  replace HG : Hid (Lg w0 YK S (q + 1) f) := HG.out.be b12
  replace HK : Hid (Kp w YK) := HK.out.trans (Kp.of_below b12)
  have RA2 : Hid (YK.rangeAt p2 0 LT) := R2.out.all
  clear b12 n41 n42 n51 n52
  go_upto_region 6 with (first
    | (refine wpList_load_w rfl 33 (.tmp 8) rfl p2 0 rfl LT _ RA2.out Tryd.underlying33 rfl HLTI.out ?_; simp only [Act.put, List.setIfInBounds_toArray, List.set_cons_zero, List.set_cons_succ])
    | (refine wpList_buildK0 rfl rfl LZ HLZ.out ?_; simp only [Act.put, List.setIfInBounds_toArray, List.set_cons_zero, List.set_cons_succ])
    | (refine wpList_cmpK rfl .eql (.inl rfl) (.tmp 24) (.tmp 25) _ rfl LT LZ rfl rfl false HC1.out ?_; simp only [Act.put, List.setIfInBounds_toArray, List.set_cons_zero, List.set_cons_succ]))
  have r1 := R1.out
  have r2 := R2.out
  have r4 := R4.out
  have r5 := R5.out
  have hG := HG.out
  have hK := HK.out
  have hb1 := hG.bel
  clear R1 R2 R4 R5 HG HK RA2
  refine wp_named fun a0 ha0 => ?_
  have hsz : a0.tmps.size = 38 := by rw [ha0]; rfl
  have zs8 : a0.eval (.tmp 8) = .pointer (some ⟨p2, 0, none⟩) := by rw [ha0]; rfl
  obtain ⟨D, hD⟩ : ∃ D : List (Tmp × SP), D = [(30, SP.is (.agg LT.toArray)), (31, SP.is (.agg LT.toArray)), (32, SP.is (.agg LQ.toArray)), (33, SP.is (.bool false)), (29, SP.is (.bool false))] := ⟨_, rfl⟩
  refine wp_region_down (by kernel_rfl) (fun listed ac W => listed.size = 5 ∧ Fp D a0 listed ac W ∧ Below w0.heap.size w0 W ∧ Row W p1 LP 61 ∧ Row W p2 LT 33 ∧ Row W b4 zP 61 ∧ Row W b5 zK 33 ∧ Lg w0 W S (q + 1) f ∧ Kp w W) ?_ ?_ ?_
  · exact ⟨by simp, Fp.start D a0 _ _, Below.drew hb1, Row.drew r1, Row.drew r2, Row.drew r4, Row.drew r5, hG.below (Below.drew (Below.refl _ _)), hK.below (Below.drew (Below.refl _ _))⟩
  · clear ha0 hb1 r1 r2 r4 r5 hG hK 
    intro listed ac W k hI hdn hk
    obtain ⟨hl, hF, hb1, r1, r2, r4, r5, hG, hK⟩ := hI
    have hk1 : k < 5 := List.mem_range.1 (List.mem_filter.1 hk).1
    have hl2 : ∀ j, (listed.setIfInBounds j true).size = 5 := fun j => by rw [Array.size_setIfInBounds]; exact hl
    rcases (show k = 0 ∨ k = 1 ∨ k = 2 ∨ k = 3 ∨ k = 4 by omega) with rfl | rfl | rfl | rfl | rfl
    · have hk3 := hk
      exact wpOp_plain rfl rfl (wp_load_mid 33 (.tmp 8) rfl p2 0 ((hF.keep 8 (by rw [hD]; rfl)).trans zs8) LT _ r2.all Tryd.underlying33 rfl HLTI.out ⟨hl2 0, (hF.put 0 30 (SP.is (.agg LT.toArray)) (.agg LT.toArray) (by rw [hD]; rfl) rfl (by rw [hD]; rfl) (by rw [hsz]; decide) (by rw [hl]; decide)), hb1, r1, r2, r4, r5, hG, hK⟩)
    · have hk3 := hk
      exact wpOp_plain rfl rfl (wp_load_mid 33 (.tmp 8) rfl p2 0 ((hF.keep 8 (by rw [hD]; rfl)).trans zs8) LT _ r2.all Tryd.underlying33 rfl HLTI.out ⟨hl2 1, (hF.put 1 31 (SP.is (.agg LT.toArray)) (.agg LT.toArray) (by rw [hD]; rfl) rfl (by rw [hD]; rfl) (by rw [hsz]; decide) (by rw [hl]; decide)), hb1, r1, r2, r4, r5, hG, hK⟩)
    · have hk3 := hk
      have e31 := (hF.done 1 (31, SP.is (.agg LT.toArray)) (by rw [hD]; rfl) (ready_dep hk 1 (by kernel_rfl)))
      refine wpOp_plain rfl rfl (wp_fcall_v 36 #[.agg LT.toArray] rfl rfl (by show [ac.eval (.tmp 31)] = _; rw [show ac.eval (.tmp 31) = .agg LT.toArray from e31]) (by go_simp) ((HPA.out W).mono ?_))
      rintro e W2 ⟨rfl, hB⟩
      exact ⟨_, rfl, hl2 2, ((hF.world hB).put 2 32 (SP.is (.agg LQ.toArray)) (.agg LQ.toArray) (by rw [hD]; rfl) rfl (by rw [hD]; rfl) (by rw [hsz]; decide) (by rw [hl]; decide)), hb1.trans (hB.mono hb1.size), Row.below r1 hB (Row.lt r1), Row.below r2 hB (Row.lt r2), Row.below r4 hB (Row.lt r4), Row.below r5 hB (Row.lt r5), hG.below hB, hK.below hB⟩
    · have hk3 := hk
      have e30 := (hF.done 0 (30, SP.is (.agg LT.toArray)) (by rw [hD]; rfl) (ready_dep hk 0 (by kernel_rfl)))
      have e32 := (hF.done 2 (32, SP.is (.agg LQ.toArray)) (by rw [hD]; rfl) (ready_dep hk 2 (by kernel_rfl)))
      exact wpOp_plain rfl rfl (wp_cmpK .eql (.tmp 30) (.tmp 32) _ rfl LT LQ e30 e32 false HC2.out ⟨hl2 3, (hF.put 3 33 (SP.is (.bool false)) (.bool false) (by rw [hD]; rfl) rfl (by rw [hD]; rfl) (by rw [hsz]; decide) (by rw [hl]; decide)), hb1, r1, r2, r4, r5, hG, hK⟩)
    · have hk3 := hk
      exact wpOp_plain rfl rfl (wp_assign_v (ac.eval (.tmp 33)) rfl rfl ⟨hl2 4, (hF.put 4 29 (SP.is (.bool false)) (ac.eval (.tmp 33)) (by rw [hD]; rfl) ((hF.done 3 (33, SP.is (.bool false)) (by rw [hD]; rfl) (ready_dep hk 3 (by kernel_rfl)))) (by rw [hD]; rfl) (by rw [hsz]; decide) (by rw [hl]; decide)), hb1, r1, r2, r4, r5, hG, hK⟩)
  · clear hb1 r1 r2 r4 r5 hG hK 
    intro listed ac W hI hr
    obtain ⟨hl, hF, hb1, r1, r2, r4, r5, hG, hK⟩ := hI
    have hall := all_listed (by kernel_rfl) hl hr
    have h30 : ac.eval (.tmp 30) = .agg LT.toArray := hF.done 0 (30, SP.is (.agg LT.toArray)) (by rw [hD]; rfl) (hall 0 (by decide))
    have h31 : ac.eval (.tmp 31) = .agg LT.toArray := hF.done 1 (31, SP.is (.agg LT.toArray)) (by rw [hD]; rfl) (hall 1 (by decide))
    have h32 : ac.eval (.tmp 32) = .agg LQ.toArray := hF.done 2 (32, SP.is (.agg LQ.toArray)) (by rw [hD]; rfl) (hall 2 (by decide))
    have h33 : ac.eval (.tmp 33) = .bool false := hF.done 3 (33, SP.is (.bool false)) (by rw [hD]; rfl) (hall 3 (by decide))
    have h29 : ac.eval (.tmp 29) = .bool false := hF.done 4 (29, SP.is (.bool false)) (by rw [hD]; rfl) (hall 4 (by decide))
    have ea := hF.lay [(30, .agg LT.toArray), (31, .agg LT.toArray), (32, .agg LQ.toArray), (33, .bool false), (29, .bool false)] (by rw [hD, hsz]; rfl) (by simp only [List.forall_mem_cons, List.not_mem_nil, false_implies, implies_true, and_true]; exact ⟨h30, h31, h32, h33, h29⟩)
    rw [ha0] at ea
    simp only [List.foldl_cons, List.foldl_nil, List.setIfInBounds_toArray, List.set_cons_zero, List.set_cons_succ] at ea
    clear hF hall hr hl hD  zs8 ha0 hsz h30 h31 h32 h33 h29
    subst ea
    obtain ⟨V2, hV⟩ : ∃ V, V = W := ⟨_, rfl⟩
    rw [← hV]
    rw [← hV] at hG hK r1 r2 r4 r5 hb1
    have HG : Hid (Lg w0 V2 S (q + 1) f) := hG
    have HK : Hid (Kp w V2) := hK
    have R1 : Hid (Row V2 p1 LP 61) := r1
    have R2 : Hid (Row V2 p2 LT 33) := r2
    have R4 : Hid (Row V2 b4 zP 61) := r4
    have R5 : Hid (Row V2 b5 zK 33) := r5
    clear hV hG hK r1 r2 r4 r5 hb1
    go_upto_region 8 with fail
    have r1 := R1.out
    have r2 := R2.out
    have r4 := R4.out
    have r5 := R5.out
    have hG := HG.out
    have hK := HK.out
    have hb1 := hG.bel
    have n45 := H45.out
    have n12 := H12.out
    obtain ⟨n41, n42, n51, n52⟩ := HNS.out
    have hw4 := HW4.out
    have hw5 := HW5.out
    have hw0 := HW0.out
    clear R1 R2 R4 R5 HG HK
    refine wp_named fun a0 ha0 => ?_
    have hsz : a0.tmps.size = 38 := by rw [ha0]; rfl
    have zs4 : a0.eval (.tmp 4) = .pointer (some ⟨b4, 0, none⟩) := by rw [ha0]; rfl
    have zs5 : a0.eval (.tmp 5) = .pointer (some ⟨b5, 0, none⟩) := by rw [ha0]; rfl
    have zs7 : a0.eval (.tmp 7) = .pointer (some ⟨p1, 0, none⟩) := by rw [ha0]; rfl
    have zs8 : a0.eval (.tmp 8) = .pointer (some ⟨p2, 0, none⟩) := by rw [ha0]; rfl
    obtain ⟨D, hD⟩ : ∃ D : List (Tmp × SP), D = [(36, SP.is (.agg LP.toArray)), (37, SP.is (.agg LT.toArray)), (1000, SP.any), (1000, SP.any), (6, SP.is (.int .i64 0))] := ⟨_, rfl⟩
    refine wp_region_down (by kernel_rfl) (fun listed ac W => listed.size = 5 ∧ Fp D a0 listed ac W ∧ Below w0.heap.size w0 W ∧ Row W p1 LP 61 ∧ Row W p2 LT 33 ∧ Row W b4 (if listed.getD 2 false = true then LP else zP) 61 ∧ Row W b5 (if listed.getD 3 false = true then LT else zK) 33 ∧ Lg w0 W S (q + 1) f ∧ Kp w W) ?_ ?_ ?_
    · exact ⟨by simp, Fp.start D a0 _ _, Below.drew hb1, Row.drew r1, Row.drew r2, (by rw [if_neg (fun h => start_no h)]; exact Row.drew r4), (by rw [if_neg (fun h => start_no h)]; exact Row.drew r5), hG.below (Below.drew (Below.refl _ _)), hK.below (Below.drew (Below.refl _ _))⟩
    · clear ha0 hb1 r1 r2 r4 r5 hG hK 
      intro listed ac W k hI hdn hk
      obtain ⟨hl, hF, hb1, r1, r2, r4, r5, hG, hK⟩ := hI
      have hk1 : k < 5 := List.mem_range.1 (List.mem_filter.1 hk).1
      have hl2 : ∀ j, (listed.setIfInBounds j true).size = 5 := fun j => by rw [Array.size_setIfInBounds]; exact hl
      rcases (show k = 0 ∨ k = 1 ∨ k = 2 ∨ k = 3 ∨ k = 4 by omega) with rfl | rfl | rfl | rfl | rfl
      · have hk3 := hk
        exact wpOp_plain rfl rfl (wp_load_mid 61 (.tmp 7) rfl p1 0 ((hF.keep 7 (by rw [hD]; rfl)).trans zs7) LP _ r1.all Tryd.underlying61 rfl HPI.out ⟨hl2 0, (hF.put 0 36 (SP.is (.agg LP.toArray)) (.agg LP.toArray) (by rw [hD]; rfl) rfl (by rw [hD]; rfl) (by rw [hsz]; decide) (by rw [hl]; decide)), hb1, r1, r2, (by rw [getD_set _ _ _ (by decide)]; exact r4), (by rw [getD_set _ _ _ (by decide)]; exact r5), hG, hK⟩)
      · have hk3 := hk
        exact wpOp_plain rfl rfl (wp_load_mid 33 (.tmp 8) rfl p2 0 ((hF.keep 8 (by rw [hD]; rfl)).trans zs8) LT _ r2.all Tryd.underlying33 rfl HLTI.out ⟨hl2 1, (hF.put 1 37 (SP.is (.agg LT.toArray)) (.agg LT.toArray) (by rw [hD]; rfl) rfl (by rw [hD]; rfl) (by rw [hsz]; decide) (by rw [hl]; decide)), hb1, r1, r2, (by rw [getD_set _ _ _ (by decide)]; exact r4), (by rw [getD_set _ _ _ (by decide)]; exact r5), hG, hK⟩)
      · have hk3 := hk
        have hno : ¬ listed.getD 2 false = true := not_yet hk
        rw [if_neg hno] at r4
        have T := r4.there 0 LP.toArray.size (by rw [List.size_toArray, HPN.out]; decide)
        have fin := r4.over (vs := LP) HPN.out
        have hT : Fp D a0 listed ac (W.setCells b4 0 LP) := hF.turn (by rw [hD]; simp only [List.forall_mem_cons, List.not_mem_nil, false_implies, implies_true, and_true]; exact ⟨fun _ h => h, fun _ h => h, fun _ h => h, fun _ h => h, fun _ h => h⟩)
        exact wpOp_plain rfl rfl (wp_store_mid 61 (.tmp 4) (.tmp 36) rfl b4 0 LP.toArray ((hF.keep 4 (by rw [hD]; rfl)).trans zs4) (hF.done 0 (36, SP.is (.agg LP.toArray)) (by rw [hD]; rfl) (ready_dep hk 0 (by kernel_rfl))) T HPJ.out HPO.out ⟨hl2 2, (hT.skip 2 1000 (by rw [hD]; rfl) (by rw [hl]; decide)), below_setCells hb1 (by omega) _, Row.setCells_other r1 _ _ _ (by omega), Row.setCells_other r2 _ _ _ (by omega), (by rw [if_pos (getD_same (by rw [hl]; decide))]; exact fin), (by rw [getD_set _ _ _ (by decide)]; exact Row.setCells_other r5 _ _ _ (by omega)), hG.kept r4 (by decide) (by decide) (by decide) (by decide) (fun k hk => heap_sets _ _ _ _ _ hk) (below_setCells hG.bel (by omega) _), Kp.kept b4 hw4 hK (fun k hk => heap_sets _ _ _ _ _ hk) (below_setCells (Below.refl 0 _) (Nat.zero_le _) _).size⟩)
      · have hk3 := hk
        have hno : ¬ listed.getD 3 false = true := not_yet hk
        rw [if_neg hno] at r5
        have T := r5.there 0 LT.toArray.size (by rw [List.size_toArray, HLTN.out]; decide)
        have fin := r5.over (vs := LT) HLTN.out
        have hT : Fp D a0 listed ac (W.setCells b5 0 LT) := hF.turn (by rw [hD]; simp only [List.forall_mem_cons, List.not_mem_nil, false_implies, implies_true, and_true]; exact ⟨fun _ h => h, fun _ h => h, fun _ h => h, fun _ h => h, fun _ h => h⟩)
        exact wpOp_plain rfl rfl (wp_store_mid 33 (.tmp 5) (.tmp 37) rfl b5 0 LT.toArray ((hF.keep 5 (by rw [hD]; rfl)).trans zs5) (hF.done 1 (37, SP.is (.agg LT.toArray)) (by rw [hD]; rfl) (ready_dep hk 1 (by kernel_rfl))) T HTJ.out HLTO.out ⟨hl2 3, (hT.skip 3 1000 (by rw [hD]; rfl) (by rw [hl]; decide)), below_setCells hb1 (by omega) _, Row.setCells_other r1 _ _ _ (by omega), Row.setCells_other r2 _ _ _ (by omega), (by rw [getD_set _ _ _ (by decide)]; exact Row.setCells_other r4 _ _ _ (by omega)), (by rw [if_pos (getD_same (by rw [hl]; decide))]; exact fin), hG.kept r5 (by decide) (by decide) (by decide) (by decide) (fun k hk => heap_sets _ _ _ _ _ hk) (below_setCells hG.bel (by omega) _), Kp.kept b5 hw5 hK (fun k hk => heap_sets _ _ _ _ _ hk) (below_setCells (Below.refl 0 _) (Nat.zero_le _) _).size⟩)
      · have hk3 := hk
        exact wpOp_plain rfl rfl (wp_assign_v (.int .i64 0) rfl rfl ⟨hl2 4, (hF.put 4 6 (SP.is (.int .i64 0)) (.int .i64 0) (by rw [hD]; rfl) rfl (by rw [hD]; rfl) (by rw [hsz]; decide) (by rw [hl]; decide)), hb1, r1, r2, (by rw [getD_set _ _ _ (by decide)]; exact r4), (by rw [getD_set _ _ _ (by decide)]; exact r5), hG, hK⟩)
    · clear hb1 r1 r2 r4 r5 hG hK 
      intro listed ac W hI hr
      obtain ⟨hl, hF, hb1, r1, r2, r4, r5, hG, hK⟩ := hI
      have hall := all_listed (by kernel_rfl) hl hr
      rw [if_pos (hall 2 (by decide))] at r4
      rw [if_pos (hall 3 (by decide))] at r5
      have h36 : ac.eval (.tmp 36) = .agg LP.toArray := hF.done 0 (36, SP.is (.agg LP.toArray)) (by rw [hD]; rfl) (hall 0 (by decide))
      have h37 : ac.eval (.tmp 37) = .agg LT.toArray := hF.done 1 (37, SP.is (.agg LT.toArray)) (by rw [hD]; rfl) (hall 1 (by decide))
      have h6 : ac.eval (.tmp 6) = .int .i64 0 := hF.done 4 (6, SP.is (.int .i64 0)) (by rw [hD]; rfl) (hall 4 (by decide))
      have ea := hF.lay [(36, .agg LP.toArray), (37, .agg LT.toArray), (6, .int .i64 0)] (by rw [hD, hsz]; rfl) (by simp only [List.forall_mem_cons, List.not_mem_nil, false_implies, implies_true, and_true]; exact ⟨h36, h37, h6⟩)
      rw [ha0] at ea
      simp only [List.foldl_cons, List.foldl_nil, List.setIfInBounds_toArray, List.set_cons_zero, List.set_cons_succ] at ea
      clear hF hall hr hl hD  zs4 zs5 zs7 zs8 ha0 hsz h36 h37 h6
      subst ea
      have HG : Hid (Lg w0 W S (q + 1) f) := hG
      have HK : Hid (Kp w W) := hK
      have F4 : Hid (Row W b4 LP 61) := r4
      have F5 : Hid (Row W b5 LT 33) := r5
      clear hG hK r1 r2 r4 r5 hb1
      go_wp2_with fail
      exact bodyPost_ret (results_rowSS_tmp Tryd.results27 _ _ b4 b5 61 33 LP LT (.int .i64 0) rfl rfl rfl F4.out F5.out Tryd.underlying61 Tryd.underlying33 HPI.out HLTI.out) rfl ⟨rfl, HG.out, HK.out⟩

end Go.Proofs.YtojmhmnpidhfjaaDoor
