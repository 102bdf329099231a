/-
  LetterEntryBack: a deposit of nought, which is made one of an amount.
-/
import Derived.Test.YtaaehdlenigomaaGreatLeP
namespace Go.Proofs.YtaaehdlenigomaaGreat
open Go Go.RowKit
open Sha

theorem En.amount3 {k tm tk gs : Int} {sd rc : List (BitVec 8)} {am : List Nat} {v : Value} {b : Nat} {w : World} (h : En w b k sd tm tk rc am gs v) (hz : am = (List.replicate 4 0)) : En (w.setCell ⟨b, 46, none⟩ (.int .u64 1)) b k sd tm tk rc [0, 0, 0, 1] gs v := by
  subst hz
  refine ⟨?_, h.ls, h.lt, rfl⟩
  have q := h.row.set 46 (.int .u64 1)
  have e : (ent k sd tm tk rc (List.replicate 4 0) gs v).set 46 (.int .u64 1) = ent k sd tm tk rc [0, 0, 0, 1] gs v := by
    refine congrArg (List.cons _) ((set_past (vB sd) _ 20 25 _ (by rw [vB_length, h.ls])).trans (congrArg (vB sd ++ ·) ?_))
    refine congrArg (List.cons _) (congrArg (List.cons _) ((set_past (vB rc) _ 20 3 _ (by rw [vB_length, h.lt])).trans (congrArg (vB rc ++ ·) ?_)))
    rfl
  rwa [e] at q

set_option maxRecDepth 100000 in
set_option maxHeartbeats 4000000 in
theorem back_z (kk tk0 nm gs0 t0 : Int) (fr rc sd : List (BitVec 8)) (am : List Nat) (zx zy : Value) (R M0 : List Value) (HZ : Hid (am = (List.replicate 4 0))) (H1 : Hid (fr.length = 20)) (K2 : Hid (rc.length = 20)) (K30 : Hid (am.length = 4)) (_Hq : Hid (∀ x ∈ am, x < 18446744073709551616)) (HT1 : Hid (-9223372036854775808 ≤ tk0 ∧ tk0 ≤ 9223372036854775807)) (HT2 : Hid (-9223372036854775808 ≤ gs0 ∧ gs0 ≤ 9223372036854775807)) (H4 : Hid (sd.length = 20)) (HT : Hid (-9223372036854775808 ≤ t0 ∧ t0 ≤ 9223372036854775807)) (hR : R = lb.raw kk tk0 nm gs0 fr rc am zx zy) (hM : M0 = lb.bear sd t0 true) (Bb : Option Addr) (bn cb : Nat) (w : World) :
    Calls Tryz.prog 3 #[.agg R.toArray, .slice Bb bn cb, .agg M0.toArray] w fun e w' => e = .returned (.bool true) ∧ Below w.heap.size w w' := by
  obtain ⟨W1, hW1, r1, b1⟩ := boxed R 30 w
  obtain ⟨W2, hW2, r2, b2⟩ := boxed M0 32 W1
  have hb : Below w.heap.size w W2 := b1.trans (b2.mono b1.size)
  rw [hR] at r1
  rw [hM] at r2
  have e1 := Row.below r1 b2 r1.lt
  obtain ⟨x, hx⟩ : ∃ x, x = w.heap.size := ⟨_, rfl⟩
  obtain ⟨y, hy⟩ : ∃ y, y = w.heap.size + 1 := ⟨_, rfl⟩
  have hy1 : W1.heap.size = y := by rw [hy, hW1]; simp
  rw [← hx] at e1
  rw [hy1] at r2
  have HX : Hid (x = w.heap.size) := hx
  have HY : Hid (y = w.heap.size + 1) := hy
  have HW1 : Hid (W1 = _) := hW1
  have HW2 : Hid (W2 = _) := hW2
  have HRr : Hid (Row W2 x (lb.raw kk tk0 nm gs0 fr rc am zx zy) 30) := e1
  have HRm : Hid (Row W2 y (lb.bear sd t0 true) 32) := r2
  have HB : Hid (Below w.heap.size w W2) := hb
  clear hW1 hW2 r1 r2 b1 b2 hb e1 hx hy hy1 hR hM
  go_enter Tryz.func3, Tryz.ntmps3
  go_upto_region 1 with fail
  rw [← HW1.out, ← HW2.out, ← HY.out, ← HX.out]
  go_wp2_with fail
  refine Calls.mono (known6 W2) ?_
  rintro e V ⟨rfl, hB⟩
  replace HRr : Hid (Row V x (lb.raw kk tk0 nm gs0 fr rc am zx zy) 30) := Row.below HRr.out hB HRr.out.lt
  replace HRm : Hid (Row V y (lb.bear sd t0 true) 32) := Row.below HRm.out hB HRm.out.lt
  replace HB : Hid (Below w.heap.size w V) := HB.out.trans (hB.mono HB.out.size)
  have hyl : w.heap.size ≤ y ∧ x < y := by rw [HY.out, HX.out]; omega
  clear hB HW1 HW2 HX HY
  have Rsd : Hid (V.rangeAt y 0 (vB sd)) := bear_sd HRm.out
  have HIA : Hid ((Tryz.prog.info? 23).map (·.size) = some (vB sd).length) := by show _ = _; rw [vB_length, H4.out]; kernel_rfl
  have ct := bear_t HRm.out H4.out
  obtain ⟨tm, htm⟩ : ∃ tm, tm = pk t0 4611686018427387905 := ⟨_, rfl⟩
  have HP : Hid (∀ W, Calls Tryz.prog 5 #[.int .i64 t0, .int .i64 4611686018427387905] W fun e w' => e = .returned (.int .i64 tm) ∧ Below W.heap.size W w') := fun W => by rw [htm]; exact (pick6 t0 4611686018427387905 (by decide) HT.out.1 HT.out.2 (by decide) W).mono (fun e w' h => ⟨h.1, by rw [h.2]; exact Below.refl _ _⟩)
  have htr := pk_range t0 4611686018427387905 (by decide)
  rw [← htm] at htr
  have HTM : Hid (0 ≤ tm ∧ tm < 4611686018427387905) := htr
  obtain ⟨Lz, hLz⟩ : ∃ Lz, Lz = ent 2 sd tm 0 (List.replicate 20 0#8) (List.replicate 4 0) 0 (.slice none 0 0) := ⟨_, rfl⟩
  have HLzE : Hid (Lz = _) := hLz
  have HLzN : Hid (Lz.length = 49) := by rw [hLz]; exact ent_len H4.out rfl rfl
  have HLzJ : Hid ((Tryz.prog.info? 36).map (·.size) = some Lz.toArray.size) := by show _ = _; rw [List.size_toArray, HLzN.out]; exact info_ent
  have HLzO : Hid (Lz.toArray.all (·.oneCell') = true) := by show _ = true; rw [hLz]; exact ent_one _ _ _ _ _ _ _ _ _ _
  clear htm htr hLz
  go_upto_region 3 with fail
  have rm := HRm.out
  have rr := HRr.out
  have hb := HB.out
  clear HRm HRr HB ct Rsd
  refine wp_named fun a0 ha0 => ?_
  have hsz : a0.tmps.size = 134 := by rw [ha0]; rfl
  have zs5 : a0.eval (.tmp 5) = .pointer (some ⟨y, 0, none⟩) := by rw [ha0]; rfl
  obtain ⟨D, hD⟩ : ∃ D : List (Tmp × SP), D = [(21, SP.is (.pointer (some ⟨y, 0, none⟩))), (22, SP.is (.agg (vB sd).toArray)), (23, SP.is (.pointer (some ⟨y, 20, none⟩))), (24, SP.is (.int .i64 t0)), (25, SP.is (.int .i64 tm)), (26, SP.is (.agg Lz.toArray)), (7, SP.any), (1000, SP.any)] := ⟨_, rfl⟩
  refine wp_region_down (by kernel_rfl) (fun listed ac W => ∃ (b : Nat), listed.size = 8 ∧ Fp D a0 listed ac W ∧ Below w.heap.size w W ∧ Row W y ((lb.bear sd t0 true)) 32 ∧ Row W x ((lb.raw kk tk0 nm gs0 fr rc am zx zy)) 30 ∧ (listed.getD 6 false = true → ac.eval (.tmp 7) = .pointer (some ⟨b, 0, none⟩) ∧ y < b ∧ Row W b (if listed.getD 7 false = true then Lz else (ez 0)) 36) ∧ (listed.getD 7 false = true → listed.getD 6 false = true)) ?_ ?_ ?_
  · exact ⟨0, by simp, Fp.start D a0 _ _, Below.drew hb, Row.drew rm, Row.drew rr, (fun h => (start_no h).elim), (fun h => (start_no h).elim)⟩
  · clear ha0 hb rm rr 
    intro listed ac W k hI hdn hk
    obtain ⟨b, hl, hF, hb, rm, rr, al6, as6⟩ := hI
    have hk1 : k < 8 := List.mem_range.1 (List.mem_filter.1 hk).1
    have hl2 : ∀ j, (listed.setIfInBounds j true).size = 8 := fun j => by rw [Array.size_setIfInBounds]; exact hl
    rcases (show k = 0 ∨ k = 1 ∨ k = 2 ∨ k = 3 ∨ k = 4 ∨ k = 5 ∨ k = 6 ∨ k = 7 by omega) with rfl | rfl | rfl | rfl | rfl | rfl | rfl | rfl
    · have hk3 := hk
      have e5 := ((hF.keep 5 (by rw [hD]; rfl)).trans zs5)
      exact wpOp_plain rfl rfl (wp_fb0 y rfl e5 ⟨b, hl2 0, (hF.put 0 21 (SP.is (.pointer (some ⟨y, 0, none⟩))) (.pointer (some ⟨y, 0, none⟩)) (by rw [hD]; rfl) rfl (by rw [hD]; rfl) (by rw [hsz]; decide) (by rw [hl]; decide)), hb, rm, rr, (fun h => ⟨(eval_put_other ac _ (by decide)).trans ((al6 (by rwa [getD_set _ _ _ (by decide)] at h)).1), (al6 (by rwa [getD_set _ _ _ (by decide)] at h)).2.1, by rw [getD_set _ _ _ (by decide)]; exact (al6 (by rwa [getD_set _ _ _ (by decide)] at h)).2.2⟩), (fun h => by rw [getD_set _ _ _ (by decide)]; exact as6 (by rwa [getD_set _ _ _ (by decide)] at h))⟩)
    · have hk3 := hk
      exact wpOp_plain rfl rfl (wp_load_mid 23 (.tmp 21) rfl y 0 (hF.done 0 (21, SP.is (.pointer (some ⟨y, 0, none⟩))) (by rw [hD]; rfl) (ready_dep hk 0 (by kernel_rfl))) (vB sd) _ (bear_sd rm) Tryz.underlying23 rfl HIA.out ⟨b, hl2 1, (hF.put 1 22 (SP.is (.agg (vB sd).toArray)) (.agg (vB sd).toArray) (by rw [hD]; rfl) rfl (by rw [hD]; rfl) (by rw [hsz]; decide) (by rw [hl]; decide)), hb, rm, rr, (fun h => ⟨(eval_put_other ac _ (by decide)).trans ((al6 (by rwa [getD_set _ _ _ (by decide)] at h)).1), (al6 (by rwa [getD_set _ _ _ (by decide)] at h)).2.1, by rw [getD_set _ _ _ (by decide)]; exact (al6 (by rwa [getD_set _ _ _ (by decide)] at h)).2.2⟩), (fun h => by rw [getD_set _ _ _ (by decide)]; exact as6 (by rwa [getD_set _ _ _ (by decide)] at h))⟩)
    · have hk3 := hk
      have e5 := ((hF.keep 5 (by rw [hD]; rfl)).trans zs5)
      exact wpOp_plain rfl rfl (wp_fb1 y rfl e5 ⟨b, hl2 2, (hF.put 2 23 (SP.is (.pointer (some ⟨y, 20, none⟩))) (.pointer (some ⟨y, 20, none⟩)) (by rw [hD]; rfl) rfl (by rw [hD]; rfl) (by rw [hsz]; decide) (by rw [hl]; decide)), hb, rm, rr, (fun h => ⟨(eval_put_other ac _ (by decide)).trans ((al6 (by rwa [getD_set _ _ _ (by decide)] at h)).1), (al6 (by rwa [getD_set _ _ _ (by decide)] at h)).2.1, by rw [getD_set _ _ _ (by decide)]; exact (al6 (by rwa [getD_set _ _ _ (by decide)] at h)).2.2⟩), (fun h => by rw [getD_set _ _ _ (by decide)]; exact as6 (by rwa [getD_set _ _ _ (by decide)] at h))⟩)
    · have hk3 := hk
      have e23 := (hF.done 2 (23, SP.is (.pointer (some ⟨y, 20, none⟩))) (by rw [hD]; rfl) (ready_dep hk 2 (by kernel_rfl)))
      exact wpOp_plain rfl rfl (wp_loadi rfl y 20 e23 t0 (bear_t rm H4.out) ⟨b, hl2 3, (hF.put 3 24 (SP.is (.int .i64 t0)) (.int .i64 t0) (by rw [hD]; rfl) rfl (by rw [hD]; rfl) (by rw [hsz]; decide) (by rw [hl]; decide)), hb, rm, rr, (fun h => ⟨(eval_put_other ac _ (by decide)).trans ((al6 (by rwa [getD_set _ _ _ (by decide)] at h)).1), (al6 (by rwa [getD_set _ _ _ (by decide)] at h)).2.1, by rw [getD_set _ _ _ (by decide)]; exact (al6 (by rwa [getD_set _ _ _ (by decide)] at h)).2.2⟩), (fun h => by rw [getD_set _ _ _ (by decide)]; exact as6 (by rwa [getD_set _ _ _ (by decide)] at h))⟩)
    · have hk3 := hk
      have e24 := (hF.done 3 (24, SP.is (.int .i64 t0)) (by rw [hD]; rfl) (ready_dep hk 3 (by kernel_rfl)))
      refine wpOp_plain rfl rfl (wp_fcall_v 5 #[.int .i64 t0, .int .i64 4611686018427387905] rfl rfl (by show [ac.eval (.tmp 24), .int .i64 4611686018427387905] = _; rw [show ac.eval (.tmp 24) = .int .i64 t0 from e24]) (by go_simp) ((HP.out W).mono ?_))
      rintro e W2 ⟨rfl, hB⟩
      exact ⟨_, rfl, b, hl2 4, ((hF.world hB).put 4 25 (SP.is (.int .i64 tm)) (.int .i64 tm) (by rw [hD]; rfl) rfl (by rw [hD]; rfl) (by rw [hsz]; decide) (by rw [hl]; decide)), hb.trans (hB.mono hb.size), Row.below rm hB (Row.lt rm), Row.below rr hB (Row.lt rr), (fun h => ⟨(eval_put_other ac _ (by decide)).trans ((al6 (by rwa [getD_set _ _ _ (by decide)] at h)).1), (al6 (by rwa [getD_set _ _ _ (by decide)] at h)).2.1, by rw [getD_set _ _ _ (by decide)]; exact Row.below (al6 (by rwa [getD_set _ _ _ (by decide)] at h)).2.2 hB (Row.lt (al6 (by rwa [getD_set _ _ _ (by decide)] at h)).2.2)⟩), (fun h => by rw [getD_set _ _ _ (by decide)]; exact as6 (by rwa [getD_set _ _ _ (by decide)] at h))⟩
    · have hk3 := hk
      have e22 := (hF.done 1 (22, SP.is (.agg (vB sd).toArray)) (by rw [hD]; rfl) (ready_dep hk 1 (by kernel_rfl)))
      have e25 := (hF.done 4 (25, SP.is (.int .i64 tm)) (by rw [hD]; rfl) (ready_dep hk 4 (by kernel_rfl)))
      exact wpOp_plain rfl rfl (wp_buildE rfl tm sd H4.out e22 e25 Lz HLzE.out ⟨b, hl2 5, (hF.put 5 26 (SP.is (.agg Lz.toArray)) (.agg Lz.toArray) (by rw [hD]; rfl) rfl (by rw [hD]; rfl) (by rw [hsz]; decide) (by rw [hl]; decide)), hb, rm, rr, (fun h => ⟨(eval_put_other ac _ (by decide)).trans ((al6 (by rwa [getD_set _ _ _ (by decide)] at h)).1), (al6 (by rwa [getD_set _ _ _ (by decide)] at h)).2.1, by rw [getD_set _ _ _ (by decide)]; exact (al6 (by rwa [getD_set _ _ _ (by decide)] at h)).2.2⟩), (fun h => by rw [getD_set _ _ _ (by decide)]; exact as6 (by rwa [getD_set _ _ _ (by decide)] at h))⟩)
    · have hk3 := hk
      have hsm : y < W.heap.size := Row.lt rm
      have hB : Below W.heap.size W (W.alloc (Obj.cells (ez 0).toArray 36)) := (Below.refl _ _).alloc (Nat.le_refl _) _
      have hns : ¬ listed.getD 7 false = true := fun h => not_yet hk (as6 h)
      exact wpOp_plain rfl rfl (wp_allocE rfl ⟨W.heap.size, hl2 6, ((hF.world hB).put 6 7 (SP.any) (.pointer (some ⟨W.heap.size, 0, none⟩)) (by rw [hD]; rfl) trivial (by rw [hD]; rfl) (by rw [hsz]; decide) (by rw [hl]; decide)), hb.alloc hb.size _, Row.alloc rm _, Row.alloc rr _, (fun _ => ⟨eval_put_same ac _ (by rw [hF.size, hsz]; decide), hsm, by rw [getD_set _ _ _ (by decide), if_neg hns]; exact Row.new' rfl rfl⟩), (fun _ => getD_same (by rw [hl]; decide))⟩)
    · have hk3 := hk
      have hal := ready_dep hk 6 (by kernel_rfl)
      obtain ⟨e1, m1, y2⟩ := al6 hal
      rw [if_neg (not_yet hk)] at y2
      have T := y2.there 0 Lz.toArray.size (by rw [List.size_toArray, HLzN.out]; decide)
      have fin := y2.over (vs := Lz) (by rw [HLzN.out]; rfl)
      have hT : Fp D a0 listed ac (W.setCells b 0 Lz) := hF.turn (by rw [hD]; simp only [List.forall_mem_cons, List.not_mem_nil, false_implies, implies_true, and_true]; exact ⟨fun _ h => h, fun _ h => h, fun _ h => h, fun _ h => h, fun _ h => h, fun _ h => h, fun _ h => h, fun _ h => h⟩)
      exact wpOp_plain rfl rfl (wp_store_mid 36 (.tmp 7) (.tmp 26) rfl b 0 Lz.toArray e1 (hF.done 5 (26, SP.is (.agg Lz.toArray)) (by rw [hD]; rfl) (ready_dep hk 5 (by kernel_rfl))) T HLzJ.out HLzO.out ⟨b, hl2 7, (hT.skip 7 1000 (by rw [hD]; rfl) (by rw [hl]; decide)), below_setCells hb (by omega) _, Row.setCells_other rm _ _ _ (by omega), Row.setCells_other rr _ _ _ (by omega), (fun _ => ⟨e1, m1, by rw [if_pos (getD_same (by rw [hl]; decide))]; exact fin⟩), (fun _ => by rw [getD_set _ _ _ (by decide)]; exact hal)⟩)
  · clear hb rm rr 
    intro listed ac W hI hr
    obtain ⟨b, hl, hF, hb, rm, rr, al6, as6⟩ := hI
    have hall := all_listed (by kernel_rfl) hl hr
    obtain ⟨ea7, m7, p7⟩ := al6 (hall 6 (by decide))
    rw [if_pos (hall 7 (by decide))] at p7
    have h21 : ac.eval (.tmp 21) = .pointer (some ⟨y, 0, none⟩) := hF.done 0 (21, SP.is (.pointer (some ⟨y, 0, none⟩))) (by rw [hD]; rfl) (hall 0 (by decide))
    have h22 : ac.eval (.tmp 22) = .agg (vB sd).toArray := hF.done 1 (22, SP.is (.agg (vB sd).toArray)) (by rw [hD]; rfl) (hall 1 (by decide))
    have h23 : ac.eval (.tmp 23) = .pointer (some ⟨y, 20, none⟩) := hF.done 2 (23, SP.is (.pointer (some ⟨y, 20, none⟩))) (by rw [hD]; rfl) (hall 2 (by decide))
    have h24 : ac.eval (.tmp 24) = .int .i64 t0 := hF.done 3 (24, SP.is (.int .i64 t0)) (by rw [hD]; rfl) (hall 3 (by decide))
    have h25 : ac.eval (.tmp 25) = .int .i64 tm := hF.done 4 (25, SP.is (.int .i64 tm)) (by rw [hD]; rfl) (hall 4 (by decide))
    have h26 : ac.eval (.tmp 26) = .agg Lz.toArray := hF.done 5 (26, SP.is (.agg Lz.toArray)) (by rw [hD]; rfl) (hall 5 (by decide))
    have ea := hF.lay [(21, .pointer (some ⟨y, 0, none⟩)), (22, .agg (vB sd).toArray), (23, .pointer (some ⟨y, 20, none⟩)), (24, .int .i64 t0), (25, .int .i64 tm), (26, .agg Lz.toArray), (7, .pointer (some ⟨b, 0, none⟩))] (by rw [hD, hsz]; rfl) (by simp only [List.forall_mem_cons, List.not_mem_nil, false_implies, implies_true, and_true]; exact ⟨h21, h22, h23, h24, h25, h26, ea7⟩)
    rw [ha0] at ea
    simp only [List.foldl_cons, List.foldl_nil, List.setIfInBounds_toArray, List.set_cons_zero, List.set_cons_succ] at ea
    clear hF hall hr hl hD al6 as6 zs5 ha0 hsz h21 h22 h23 h24 h25 h26 ea7
    subst ea
    have HL0 : Hid (En W b 2 sd tm 0 (List.replicate 20 0#8) (List.replicate 4 0) 0 (.slice none 0 0)) := by have q := p7; rw [HLzE.out] at q; exact ⟨q, H4.out, rfl, rfl⟩
    have HB : Hid (Below w.heap.size w W) := hb
    have HRm : Hid (Row W y (lb.bear sd t0 true) 32) := rm
    have HRr : Hid (Row W x (lb.raw kk tk0 nm gs0 fr rc am zx zy) 30) := rr
    clear p7 hb rm rr HLzE HLzN HLzJ HLzO HP HIA
    have HL : Hid (En W b 2 sd tm 0 (List.replicate 20 0#8) (List.replicate 4 0) 0 (.slice none 0 0)) := HL0.out
    have hxb : x ≠ b := by omega
    have hwb : w.heap.size ≤ b := by omega
    have cb := bear_b HRm.out H4.out
    have g0 := HL.out.c_kind
    have k0 := HL.out.row.thaw 0
    obtain ⟨W5, hX, eX, rX, bX⟩ : ∃ X, X = W.setCell ⟨b, 0, none⟩ (.int .i64 1) ∧ En X b 1 sd tm 0 (List.replicate 20 0#8) (List.replicate 4 0) 0 (.slice none 0 0) ∧ Row X x (lb.raw kk tk0 nm gs0 fr rc am zx zy) 30 ∧ Below w.heap.size w X := ⟨_, rfl, ⟨HL.out.row.set 0 (.int .i64 1), HL.out.ls, HL.out.lt, HL.out.la⟩, Row.set_other HRr.out _ _ _ hxb, HB.out.setCell hwb _⟩
    have HX : Hid (W5 = _) := hX
    have HL2 : Hid (En W5 b 1 sd tm 0 (List.replicate 20 0#8) (List.replicate 4 0) 0 (.slice none 0 0)) := eX
    have HRr2 : Hid (Row W5 x (lb.raw kk tk0 nm gs0 fr rc am zx zy) 30) := rX
    have HB2 : Hid (Below w.heap.size w W5) := bX
    clear hX eX rX bX
    go_upto_region 6 with fail
    clear g0 k0 cb HRm
    rw [← HX.out]
    replace HL := HL2
    replace HRr := HRr2
    replace HB := HB2
    clear HX HL2 HRr2 HB2
    obtain ⟨tk, htk⟩ : ∃ tk, tk = pk tk0 64 := ⟨_, rfl⟩
    have HTK : Hid (0 ≤ tk ∧ tk < 64) := by rw [htk]; exact pk_range tk0 64 (by decide)
    have HP : Hid (Calls Tryz.prog 5 #[.int .i64 tk0, .int .i64 64] W5 fun e w' => e = .returned (.int .i64 tk) ∧ w' = W5) := by rw [htk]; exact pick6 tk0 64 (by decide) HT1.out.1 HT1.out.2 (by decide) W5
    have g0 := raw_tk HRr.out
    have g1 := HL.out.c_token
    have k1 := HL.out.row.thaw 22
    clear htk
    obtain ⟨W6, hX, eX, rX, bX⟩ : ∃ X, X = W5.setCell ⟨b, 22, none⟩ (.int .i64 tk) ∧ En X b 1 sd tm tk (List.replicate 20 0#8) (List.replicate 4 0) 0 (.slice none 0 0) ∧ Row X x (lb.raw kk tk0 nm gs0 fr rc am zx zy) 30 ∧ Below w.heap.size w X := ⟨_, rfl, HL.out.token tk, Row.set_other HRr.out _ _ _ hxb, HB.out.setCell hwb _⟩
    have HX : Hid (W6 = _) := hX
    have HL2 : Hid (En W6 b 1 sd tm tk (List.replicate 20 0#8) (List.replicate 4 0) 0 (.slice none 0 0)) := eX
    have HRr2 : Hid (Row W6 x (lb.raw kk tk0 nm gs0 fr rc am zx zy) 30) := rX
    have HB2 : Hid (Below w.heap.size w W6) := bX
    clear hX eX rX bX
    go_wp2_with fail
    refine Calls.mono HP.out ?_
    rintro e Wz ⟨rfl, hqq⟩
    obtain rfl := hqq.symm
    go_upto_region 7 with fail
    clear g0 g1 k1 HP
    rw [← HX.out]
    replace HL := HL2
    replace HRr := HRr2
    replace HB := HB2
    clear HX HL2 HRr2 HB2
    have Rq : Hid (W6.rangeAt x 24 (vB rc)) := raw_rc HRr.out H1.out
    have HIr : Hid ((Tryz.prog.info? 23).map (·.size) = some (vB rc).length) := by show _ = _; rw [vB_length, K2.out]; kernel_rfl
    have HTHr : Hid (W6.there b 23 (vB rc).toArray.size) := Row.there HL.out.row 23 _ (by rw [ent_lenH HL.out.ls HL.out.lt HL.out.la, List.size_toArray, vB_length, K2.out]; decide)
    have HIr2 : Hid ((Tryz.prog.info? 23).map (·.size) = some (vB rc).toArray.size) := by show _ = _; rw [List.size_toArray, vB_length, K2.out]; kernel_rfl
    have HOr : Hid ((vB rc).toArray.all (·.oneCell') = true) := by show _ = true; rw [← Array.all_toList]; exact List.all_eq_true.2 (vB_one rc)
    obtain ⟨W7, hX, eX, rX, bX⟩ : ∃ X, X = W6.setCells b 23 (vB rc) ∧ En X b 1 sd tm tk rc (List.replicate 4 0) 0 (.slice none 0 0) ∧ Row X x (lb.raw kk tk0 nm gs0 fr rc am zx zy) 30 ∧ Below w.heap.size w X := ⟨_, rfl, HL.out.toward rc K2.out, Row.setCells_other HRr.out _ _ _ hxb, below_setCells HB.out hwb _⟩
    have HX : Hid (W7 = _) := hX
    have HL2 : Hid (En W7 b 1 sd tm tk rc (List.replicate 4 0) 0 (.slice none 0 0)) := eX
    have HRr2 : Hid (Row W7 x (lb.raw kk tk0 nm gs0 fr rc am zx zy) 30) := rX
    have HB2 : Hid (Below w.heap.size w W7) := bX
    clear hX eX rX bX
    go_upto_region 8 with (first
      | (refine wpList_load_w rfl 23 (.tmp 34) rfl x 24 rfl (vB rc) _ Rq.out Tryz.underlying23 rfl HIr.out ?_; simp only [Act.put, List.setIfInBounds_toArray, List.set_cons_zero, List.set_cons_succ])
      | (refine wpList_store_mid rfl 23 (.tmp 36) (.tmp 35) rfl b 23 (vB rc).toArray rfl rfl HTHr.out HIr2.out HOr.out ?_; simp only [Act.put]; change wpList _ _ _ _ _ (World.setCells W6 b 23 (vB rc))))
    clear Rq HIr HTHr HIr2 HOr
    rw [← HX.out]
    replace HL := HL2
    replace HRr := HRr2
    replace HB := HB2
    clear HX HL2 HRr2 HB2
    have Rq : Hid (W7.rangeAt x 44 (vQ am)) := raw_am HRr.out H1.out K2.out
    have HIr : Hid ((Tryz.prog.info? 26).map (·.size) = some (vQ am).length) := by show _ = _; rw [vQ_len, K30.out]; kernel_rfl
    have HTHr : Hid (W7.there b 43 (vQ am).toArray.size) := Row.there HL.out.row 43 _ (by rw [ent_lenH HL.out.ls HL.out.lt HL.out.la, List.size_toArray, vQ_len, K30.out]; decide)
    have HIr2 : Hid ((Tryz.prog.info? 26).map (·.size) = some (vQ am).toArray.size) := by show _ = _; rw [List.size_toArray, vQ_len, K30.out]; kernel_rfl
    have HOr : Hid ((vQ am).toArray.all (·.oneCell') = true) := by show _ = true; rw [← Array.all_toList]; exact List.all_eq_true.2 (fun v hv => by obtain ⟨z, _, rfl⟩ := List.mem_map.1 hv; rfl)
    obtain ⟨W8, hX, eX, rX, bX⟩ : ∃ X, X = W7.setCells b 43 (vQ am) ∧ En X b 1 sd tm tk rc am 0 (.slice none 0 0) ∧ Row X x (lb.raw kk tk0 nm gs0 fr rc am zx zy) 30 ∧ Below w.heap.size w X := ⟨_, rfl, HL.out.amount am K30.out, Row.setCells_other HRr.out _ _ _ hxb, below_setCells HB.out hwb _⟩
    have HX : Hid (W8 = _) := hX
    have HL2 : Hid (En W8 b 1 sd tm tk rc am 0 (.slice none 0 0)) := eX
    have HRr2 : Hid (Row W8 x (lb.raw kk tk0 nm gs0 fr rc am zx zy) 30) := rX
    have HB2 : Hid (Below w.heap.size w W8) := bX
    clear hX eX rX bX
    go_upto_region 9 with (first
      | (refine wpList_load_w rfl 26 (.tmp 37) rfl x 44 rfl (vQ am) _ Rq.out Tryz.underlying26 rfl HIr.out ?_; simp only [Act.put, List.setIfInBounds_toArray, List.set_cons_zero, List.set_cons_succ])
      | (refine wpList_store_mid rfl 26 (.tmp 39) (.tmp 38) rfl b 43 (vQ am).toArray rfl rfl HTHr.out HIr2.out HOr.out ?_; simp only [Act.put]; change wpList _ _ _ _ _ (World.setCells W7 b 43 (vQ am))))
    clear Rq HTHr HIr2 HOr
    rw [← HX.out]
    replace HL := HL2
    replace HRr := HRr2
    replace HB := HB2
    clear HX HL2 HRr2 HB2
    obtain ⟨gs, hgs⟩ : ∃ gs, gs = pk gs0 1099511627777 := ⟨_, rfl⟩
    have HGS : Hid (0 ≤ gs ∧ gs < 1099511627777) := by rw [hgs]; exact pk_range gs0 1099511627777 (by decide)
    have HP : Hid (Calls Tryz.prog 5 #[.int .i64 gs0, .int .i64 1099511627777] W8 fun e w' => e = .returned (.int .i64 gs) ∧ w' = W8) := by rw [hgs]; exact pick6 gs0 1099511627777 (by decide) HT2.out.1 HT2.out.2 (by decide) W8
    have g0 := raw_gs HRr.out
    have g1 := HL.out.c_gas
    have k1 := HL.out.row.thaw 47
    clear hgs
    obtain ⟨W9, hX, eX, rX, bX⟩ : ∃ X, X = W8.setCell ⟨b, 47, none⟩ (.int .i64 gs) ∧ En X b 1 sd tm tk rc am gs (.slice none 0 0) ∧ Row X x (lb.raw kk tk0 nm gs0 fr rc am zx zy) 30 ∧ Below w.heap.size w X := ⟨_, rfl, HL.out.gas gs, Row.set_other HRr.out _ _ _ hxb, HB.out.setCell hwb _⟩
    have HX : Hid (W9 = _) := hX
    have HL2 : Hid (En W9 b 1 sd tm tk rc am gs (.slice none 0 0)) := eX
    have HRr2 : Hid (Row W9 x (lb.raw kk tk0 nm gs0 fr rc am zx zy) 30) := rX
    have HB2 : Hid (Below w.heap.size w W9) := bX
    clear hX eX rX bX
    go_wp2_with fail
    refine Calls.mono HP.out ?_
    rintro e Wz ⟨rfl, hqq⟩
    obtain rfl := hqq.symm
    go_upto_region 10 with fail
    clear g0 g1 k1 HP
    rw [← HX.out]
    replace HL := HL2
    replace HRr := HRr2
    replace HB := HB2
    clear HX HL2 HRr2 HB2
    have Rq : Hid (W9.rangeAt b 43 (vQ am)) := HL.out.r_amount
    have HC15 : Hid (decide (am = (List.replicate 4 0)) = true) := decide_eq_true HZ.out
    have g1 : W9.cell? ⟨b, 46, none⟩ = some (.int .u64 0) := HL.out.row.cell 46 _ ((ent_am HL.out.ls HL.out.lt 3).trans (by rw [HZ.out]; rfl))
    have k1 := HL.out.row.thaw 46
    obtain ⟨W10, hX, eX, rX, bX⟩ : ∃ X, X = W9.setCell ⟨b, 46, none⟩ (.int .u64 1) ∧ En X b 1 sd tm tk rc [0, 0, 0, 1] gs (.slice none 0 0) ∧ Row X x (lb.raw kk tk0 nm gs0 fr rc am zx zy) 30 ∧ Below w.heap.size w X := ⟨_, rfl, En.amount3 HL.out HZ.out, Row.set_other HRr.out _ _ _ hxb, HB.out.setCell hwb _⟩
    have HX : Hid (W10 = _) := hX
    have HL2 : Hid (En W10 b 1 sd tm tk rc [0, 0, 0, 1] gs (.slice none 0 0)) := eX
    have HRr2 : Hid (Row W10 x (lb.raw kk tk0 nm gs0 fr rc am zx zy) 30) := rX
    have HB2 : Hid (Below w.heap.size w W10) := bX
    clear hX eX rX bX
    go_upto_region 11 with (first
      | (refine wpList_load_w rfl 26 (.tmp 44) rfl b 43 rfl (vQ am) _ Rq.out Tryz.underlying26 rfl HIr.out ?_; simp only [Act.put, List.setIfInBounds_toArray, List.set_cons_zero, List.set_cons_succ])
      | (refine wpList_eql_q rfl (.tmp 45) (.tmp 46) _ rfl am (List.replicate 4 0) K30.out rfl rfl rfl true HC15.out ?_; simp only [Act.put, List.setIfInBounds_toArray, List.set_cons_zero, List.set_cons_succ]))
    clear Rq HIr
    go_upto_region 16 with fail
    clear g1 k1 HC15 HZ K30
    rw [← HX.out]
    replace HL := HL2
    replace HRr := HRr2
    replace HB := HB2
    clear HX HL2 HRr2 HB2
    clear HRr
    obtain ⟨am, ham⟩ : ∃ am : List Nat, am = [0, 0, 0, 1] := ⟨_, rfl⟩
    rw [← ham] at HL
    have C15 : Hid ((!decide (am = (List.replicate 4 0))) = true) := by show _ = true; rw [ham]; rfl
    have K3 : Hid (am.length = 4) := by rw [ham]; rfl
    have Kq6 : Hid (∀ x ∈ am, x < 18446744073709551616) := by rw [ham]; show ∀ x ∈ ([0, 0, 0, 1] : List Nat), _; decide
    clear ham
    obtain ⟨n, hn⟩ : ∃ n : Nat, n = 0 := ⟨_, rfl⟩
    obtain ⟨d, hd⟩ : ∃ d : List (BitVec 8), d = [] := ⟨_, rfl⟩
    obtain ⟨Ab, hAb⟩ : ∃ Ab : Option Addr, Ab = none := ⟨_, rfl⟩
    obtain ⟨cb, hcb⟩ : ∃ cb : Nat, cb = 0 := ⟨_, rfl⟩
    have HS : Hid (Bw W10 (.slice Ab n cb) d ∧ (Ab = none → cb = 0)) := by rw [hn, hd, hAb, hcb]; exact ⟨Bw.nil _, fun _ => rfl⟩
    replace HL : Hid (En W10 b 1 sd tm tk rc am gs (.slice Ab n cb)) := by rw [hn, hAb, hcb]; exact HL.out
    have C4 : Hid ((decide (0 ≤ tm) && decide (tm ≤ 4611686018427387904)) = true) := by have := HTM.out; show _ = true; simp only [Bool.and_eq_true, decide_eq_true_eq]; omega
    have C8 : Hid ((decide (0 ≤ tk) && decide (tk ≤ 63)) = true) := by have := HTK.out; show _ = true; simp only [Bool.and_eq_true, decide_eq_true_eq]; omega
    have C19 : Hid ((decide (0 ≤ gs) && decide (gs ≤ 1099511627776)) = true) := by have := HGS.out; show _ = true; simp only [Bool.and_eq_true, decide_eq_true_eq]; omega
    have C24 : Hid (((n : Int) == 0) = true) := by rw [hn]; rfl
    have Kq0 : Hid (0 ≤ tm) := HTM.out.1
    have Kq1 : Hid (tm < 9223372036854775808) := by have := HTM.out; show _ < _; omega
    have Kq2 : Hid (0 ≤ tk) := HTK.out.1
    have Kq3 : Hid (tk < 9223372036854775808) := by have := HTK.out; show _ < _; omega
    have Kq4 : Hid (0 ≤ gs) := HGS.out.1
    have Kq5 : Hid (gs < 9223372036854775808) := by have := HGS.out; show _ < _; omega
    have K1 := H4
    obtain ⟨eb, heb⟩ : ∃ eb, eb = eb1 sd tm tk rc am gs := ⟨_, rfl⟩
    obtain ⟨N, hN⟩ : ∃ N, eb.length = N := ⟨_, rfl⟩
    have HEB : Hid (eb = eb1 sd tm tk rc am gs) := heb
    have HEL : Hid (eb.length = N) := hN
    have HEL1 : Hid ((eb1 sd tm tk rc am gs).length = N) := by rw [← heb]; exact hN
    have hlen : N = 21 + (nf tm).length + (nf tk).length + 20 + (wf am).length + (nf gs).length := by
      rw [← hN, heb]
      simp only [eb1, List.length_append, List.length_cons, List.length_nil, K1.out, K2.out] <;> omega
    have hNb : 21 ≤ N ∧ N ≤ 10000 := by
      have := nf_len tm
      have := nf_len tk
      have := nf_len gs
      have := wf_len am
      omega
    have HEN : Hid (eb ≠ []) := by intro e; rw [e] at hN; simp at hN; omega
    have hTok : ∀ (P : Nat) (A0 : Option Addr) (cap0 T U b : Nat) (w : World), Rg w P A0 cap0 eb 1 → Row w T etab 80 → Row w U [.int .i64 0, .int .i64 1, .int .i64 2, .int .i64 3, .int .i64 4, .int .i64 5] 3 → En w b 1 (List.replicate 20 0#8) 0 0 (List.replicate 20 0#8) (List.replicate 4 0) 0 (.slice none 0 0) → Calls Tryz.prog 20 #[.slice (some ⟨T, 0, none⟩) 7 7, .pointer (some ⟨P, 0, none⟩), .pointer (some ⟨b, 0, none⟩), .slice (some ⟨U, 0, none⟩) 6 6] w fun e w' => ∃ A' c', e = .returned (.bool true) ∧ En w' b 1 sd tm tk rc am gs (.slice A' n c') ∧ Bw w' (.slice A' n c') d ∧ Fresh w.heap.size (.slice A' n c') ∧ (A' = none → c' = 0) ∧ Gq P b w w' := by rw [hn, hd]; exact HT1_ok tm tk gs sd rc am Kq0.out Kq1.out Kq2.out Kq3.out Kq4.out Kq5.out Kq6.out K1.out K2.out K3.out eb heb
    have HTok : Hid _ := hTok
    have HTmore : Hid _ := HT1_more tm tk gs sd rc am Kq0.out Kq1.out Kq2.out Kq3.out Kq4.out Kq5.out Kq6.out K1.out K2.out K3.out (eb ++ [0#8]) (by rw [heb])
    obtain ⟨M, hM⟩ : ∃ M, N = M + 1 := ⟨N - 1, by omega⟩
    have hcut : eb.take M = [1#8] ++ sd ++ nf tm ++ nf tk ++ rc ++ wf am ++ (nf gs).take ((nf gs).length - 1) := by
      have q := take_less ([1#8] ++ sd ++ nf tm ++ nf tk ++ rc ++ wf am) (nf gs) (nf_one gs)
      rw [← q]
      show List.take M eb = List.take ((eb1 sd tm tk rc am gs).length - 1) (eb1 sd tm tk rc am gs)
      rw [← heb, hN, hM, Nat.add_sub_cancel]
    have HTcut : Hid _ := HT1_cut tm tk gs sd rc am Kq0.out Kq1.out Kq2.out Kq3.out Kq4.out Kq5.out Kq6.out K1.out K2.out K3.out (eb.take M) hcut
    obtain ⟨h8a, hza⟩ := first1 eb (sd ++ nf tm ++ nf tk ++ rc ++ wf am ++ nf gs) (by rw [heb]; simp only [eb1, List.append_assoc])
    obtain ⟨h8b, hzb⟩ := first1 (eb ++ [0#8]) ((sd ++ nf tm ++ nf tk ++ rc ++ wf am ++ nf gs) ++ [0#8]) (by rw [heb]; simp only [eb1, List.append_assoc])
    obtain ⟨h8c, hzc⟩ := first1 (eb.take M) (sd ++ nf tm ++ nf tk ++ rc ++ wf am ++ (nf gs).take ((nf gs).length - 1)) (by rw [hcut]; simp only [List.append_assoc])
    have H8a : Hid _ := h8a
    have H8b : Hid _ := h8b
    have H8c : Hid _ := h8c
    have HZa : Hid _ := hza
    have HZb : Hid _ := hzb
    have HZc : Hid _ := hzc
    obtain ⟨N1, hN1⟩ : ∃ N1, (eb ++ [0#8]).length = N1 := ⟨_, rfl⟩
    have HN1 : Hid ((eb ++ [0#8]).length = N1) := hN1
    have hN1b : N1 ≤ 10001 := by rw [← hN1, List.length_append, hN]; show N + 1 ≤ _; omega
    have HML : Hid ((eb.take M).length = M) := by show _ = _; rw [List.length_take, hN]; omega
    have hMb : M ≤ 10000 := by omega
    have HNM : Hid ((N : Int) - 1 = (M : Int)) := by show _ = _; omega
    have hnm : (N : Int) - 1 = (M : Int) := by omega
    clear h8a h8b h8c hza hzb hzc hN1 hcut hM heb hN hlen hTok hnm hn hd hAb hcb
    obtain ⟨Lx, hLx⟩ : ∃ Lx, Lx = ent 1 sd tm tk rc am gs (.slice Ab n cb) := ⟨_, rfl⟩
    have HLxE : Hid (Lx = ent 1 sd tm tk rc am gs (.slice Ab n cb)) := hLx
    have HLxR : Hid (W10.rangeAt b 0 Lx) := by have q := HL.out.row; rw [← hLx] at q; exact range_sub q 0 Lx.length (by simp)
    clear hLx
    have HLxN : Hid (Lx.length = 49) := by rw [HLxE.out]; exact ent_len K1.out K2.out K3.out
    have HLxI : Hid ((Tryz.prog.info? 36).map (·.size) = some Lx.length) := by rw [HLxN.out]; exact info_ent
    have HLxJ : Hid ((Tryz.prog.info? 36).map (·.size) = some Lx.toArray.size) := by show _ = _; rw [List.size_toArray, HLxN.out]; exact info_ent
    have HLxO : Hid (Lx.toArray.all (·.oneCell') = true) := by show _ = true; rw [HLxE.out]; exact ent_one _ _ _ _ _ _ _ _ _ _
    have HE : Hid _ := ebytesE_1 tm tk gs sd rc am Ab n cb C4.out C8.out C15.out C19.out C24.out Kq0.out Kq1.out Kq2.out Kq3.out Kq4.out Kq5.out Kq6.out K1.out K2.out K3.out N HEL1.out Lx HLxE.out W10
    rw [← HEB.out] at HE
    go_wp2_with (refine wpList_load_w rfl 36 (.tmp 7) rfl b 0 rfl Lx _ HLxR.out Tryz.underlying36 rfl HLxI.out ?_; simp only [Act.put, List.setIfInBounds_toArray, List.set_cons_zero, List.set_cons_succ])
    refine Calls.mono HE.out ?_
    rintro e V1 ⟨A1, c1, rfl, hb1, hf1, hB⟩
    replace HB : Hid (Below w.heap.size w V1) := HB.out.trans (hB.mono HB.out.size)
    replace HL : Hid (En V1 b 1 sd tm tk rc am gs (.slice Ab n cb)) := HL.out.be hB
    replace HLxR : Hid (V1.rangeAt b 0 Lx) := range_be HLxR.out hB
    replace HS : Hid (Bw V1 (.slice Ab n cb) d ∧ (Ab = none → cb = 0)) := ⟨Bw.be HS.out.1 hB, HS.out.2⟩
    have H1 : Hid (Bw V1 (.slice A1 N c1) eb) := hb1
    obtain ⟨g1, o1, rfl, hnn, hcap, hr1⟩ := bw_at hb1 HEN.out
    have HC1 : Hid (N ≤ c1) := by show _ ≤ _; have := HEL.out; omega
    clear hb1 hf1 hB HE hnn hcap hr1
    have HR : Hid _ := rentry1_ok tm tk gs sd rc am n d C4.out C8.out C15.out C19.out C24.out K1.out K2.out K3.out eb H8a.out HZa.out HTok.out (some ⟨g1, o1, none⟩) N c1 HEL.out (by omega) (fun e => by cases e) V1 (fun W hb => Bw.sl (Bw.be H1.out hb))
    go_wp2_with fail
    refine Calls.mono HR.out ?_
    rintro e V2 ⟨A', c', rfl, hbw, hfr, hni, hB⟩
    replace HB : Hid (Below w.heap.size w V2) := HB.out.trans (hB.mono HB.out.size)
    replace HL : Hid (En V2 b 1 sd tm tk rc am gs (.slice Ab n cb)) := HL.out.be hB
    replace HLxR : Hid (V2.rangeAt b 0 Lx) := range_be HLxR.out hB
    replace HS : Hid (Bw V2 (.slice Ab n cb) d ∧ (Ab = none → cb = 0)) := ⟨Bw.be HS.out.1 hB, HS.out.2⟩
    replace H1 : Hid (Bw V2 (.slice (some ⟨g1, o1, none⟩) N c1) eb) := Bw.be H1.out hB
    have HY : Hid (Bw V2 (.slice A' n c') d ∧ (A' = none → c' = 0)) := ⟨hbw, hni⟩
    obtain ⟨Ly, hLy⟩ : ∃ Ly, Ly = ent 1 sd tm tk rc am gs (.slice A' n c') := ⟨_, rfl⟩
    rw [← hLy]
    have HLyE : Hid (Ly = ent 1 sd tm tk rc am gs (.slice A' n c')) := hLy
    clear hbw hfr hni hB HR hLy
    have HLyN : Hid (Ly.length = 49) := by rw [HLyE.out]; exact ent_len K1.out K2.out K3.out
    have HLyI : Hid ((Tryz.prog.info? 36).map (·.size) = some Ly.length) := by rw [HLyN.out]; exact info_ent
    have HLyJ : Hid ((Tryz.prog.info? 36).map (·.size) = some Ly.toArray.size) := by show _ = _; rw [List.size_toArray, HLyN.out]; exact info_ent
    have HLyO : Hid (Ly.toArray.all (·.oneCell') = true) := by show _ = true; rw [HLyE.out]; exact ent_one _ _ _ _ _ _ _ _ _ _
    obtain ⟨X, hX, rX, hB⟩ : ∃ X, X = (V2.alloc (Obj.cells (ez 0).toArray tEnt)).setCells V2.heap.size 0 Ly ∧ Row X V2.heap.size Ly tEnt ∧ Below V2.heap.size V2 X := ⟨_, rfl, Row.over (Row.new' (cs := ez 0) rfl rfl) (vs := Ly) (by rw [HLyN.out]; rfl), below_setCells ((Below.refl V2.heap.size V2).alloc (Nat.le_refl _) _) (Nat.le_refl _) _⟩
    obtain ⟨yy, hyy⟩ : ∃ yy, yy = V2.heap.size := ⟨_, rfl⟩
    rw [← hyy] at rX
    have HX : Hid (X = _) := hX
    have HXb : Hid (yy = V2.heap.size) := hyy
    have HLyR : Hid (X.rangeAt yy 0 Ly) := range_sub rX 0 Ly.length (by simp)
    replace HB : Hid (Below w.heap.size w X) := HB.out.trans (hB.mono HB.out.size)
    replace HL : Hid (En X b 1 sd tm tk rc am gs (.slice Ab n cb)) := HL.out.be hB
    replace HLxR : Hid (X.rangeAt b 0 Lx) := range_be HLxR.out hB
    replace HS : Hid (Bw X (.slice Ab n cb) d ∧ (Ab = none → cb = 0)) := ⟨Bw.be HS.out.1 hB, HS.out.2⟩
    replace H1 : Hid (Bw X (.slice (some ⟨g1, o1, none⟩) N c1) eb) := Bw.be H1.out hB
    replace HY : Hid (Bw X (.slice A' n c') d ∧ (A' = none → c' = 0)) := ⟨Bw.be HY.out.1 hB, HY.out.2⟩
    clear hX rX hB hyy
    go_upto_region 18 with (refine wpList_store_mid rfl 36 (.tmp 11) (.tmp 77) rfl V2.heap.size 0 (Ly).toArray rfl rfl (Row.there (Row.new' (cs := ez 0) rfl rfl) 0 _ (by rw [List.size_toArray, HLyN.out]; decide)) HLyJ.out HLyO.out ?_; simp only [Act.put]; change wpList _ _ _ _ _ (World.setCells (World.alloc V2 (Obj.cells (ez 0).toArray tEnt)) V2.heap.size 0 Ly); rw [← HX.out, ← HXb.out])
    clear HX HXb
    have HE : Hid _ := ebytesE_1 tm tk gs sd rc am A' n c' C4.out C8.out C15.out C19.out C24.out Kq0.out Kq1.out Kq2.out Kq3.out Kq4.out Kq5.out Kq6.out K1.out K2.out K3.out N HEL1.out Ly HLyE.out X
    rw [← HEB.out] at HE
    go_wp2_with (refine wpList_load_w rfl 36 (.tmp 11) rfl yy 0 rfl Ly _ HLyR.out Tryz.underlying36 rfl HLyI.out ?_; simp only [Act.put, List.setIfInBounds_toArray, List.set_cons_zero, List.set_cons_succ])
    refine Calls.mono HE.out ?_
    rintro e V3 ⟨A2, c2, rfl, hb2, hf2, hB⟩
    replace HB : Hid (Below w.heap.size w V3) := HB.out.trans (hB.mono HB.out.size)
    replace HL : Hid (En V3 b 1 sd tm tk rc am gs (.slice Ab n cb)) := HL.out.be hB
    replace HLxR : Hid (V3.rangeAt b 0 Lx) := range_be HLxR.out hB
    replace HS : Hid (Bw V3 (.slice Ab n cb) d ∧ (Ab = none → cb = 0)) := ⟨Bw.be HS.out.1 hB, HS.out.2⟩
    replace H1 : Hid (Bw V3 (.slice (some ⟨g1, o1, none⟩) N c1) eb) := Bw.be H1.out hB
    replace HY : Hid (Bw V3 (.slice A' n c') d ∧ (A' = none → c' = 0)) := ⟨Bw.be HY.out.1 hB, HY.out.2⟩
    replace HLyR : Hid (V3.rangeAt yy 0 Ly) := range_be HLyR.out hB
    have H2 : Hid (Bw V3 (.slice A2 N c2) eb) := hb2
    clear hb2 hf2 hB HE
    have HSE : Hid _ := sameE 1 tm tk gs sd rc am Ab A' n cb c' d K1.out K2.out K3.out Lx Ly HLxE.out HLyE.out V3 (fun W hb => Bw.sl (Bw.be HS.out.1 hb)) (fun W hb => Bw.sl (Bw.be HY.out.1 hb))
    go_wp2_with (first | (refine wpList_load_w rfl 36 (.tmp 7) rfl b 0 rfl Lx _ HLxR.out Tryz.underlying36 rfl HLxI.out ?_; simp only [Act.put, List.setIfInBounds_toArray, List.set_cons_zero, List.set_cons_succ]) | (refine wpList_load_w rfl 36 (.tmp 11) rfl yy 0 rfl Ly _ HLyR.out Tryz.underlying36 rfl HLyI.out ?_; simp only [Act.put, List.setIfInBounds_toArray, List.set_cons_zero, List.set_cons_succ]))
    refine Calls.mono HSE.out ?_
    rintro e V4 ⟨rfl, hB⟩
    replace HB : Hid (Below w.heap.size w V4) := HB.out.trans (hB.mono HB.out.size)
    replace HL : Hid (En V4 b 1 sd tm tk rc am gs (.slice Ab n cb)) := HL.out.be hB
    replace HLxR : Hid (V4.rangeAt b 0 Lx) := range_be HLxR.out hB
    replace HS : Hid (Bw V4 (.slice Ab n cb) d ∧ (Ab = none → cb = 0)) := ⟨Bw.be HS.out.1 hB, HS.out.2⟩
    replace H1 : Hid (Bw V4 (.slice (some ⟨g1, o1, none⟩) N c1) eb) := Bw.be H1.out hB
    have HSM : Hid _ := same6 eb (.slice (some ⟨g1, o1, none⟩) N c1) (.slice A2 N c2) V4 (Bw.sl H1.out) (Bw.sl (Bw.be H2.out hB))
    clear hB HSE H2 HY HLyR HLyE HLyN HLyI HLyJ HLyO
    go_wp2_with fail
    refine Calls.mono HSM.out ?_
    rintro e V5 ⟨rfl, hqq⟩
    obtain rfl := hqq.symm
    clear HSM
    have HW4 : Hid (w.heap.size ≤ V4.heap.size) := HB.out.size
    go_wp2_with fail
    refine Calls.mono (own6 (some ⟨g1, o1, none⟩) N c1 eb HEL.out (by omega) V4 (Bw.sl H1.out)) ?_
    rintro e V6 ⟨rfl, hr, hB⟩
    obtain ⟨g6, hg6⟩ : ∃ g6, g6 = V4.heap.size := ⟨_, rfl⟩
    rw [← hg6] at hr ⊢
    have HO6 : Hid (Bw V6 (.slice (some ⟨g6, 0, none⟩) N N) eb) := by have q := row_bw hr (by rw [HEL.out]; omega); rwa [HEL.out] at q
    have HG6 : Hid (g6 = V4.heap.size) := hg6
    have HB6 : Hid (Below V4.heap.size V4 V6) := hB
    clear hr hB hg6
    go_wp2_with (refine wpList_app rfl (.tmp 108) (.tmp 109) rfl (.slice (some ⟨g6, 0, none⟩) N N) eb [0#8] rfl (Bw.be HO6.out ((Below.refl _ _).alloc (Nat.le_refl _) _)) (some ⟨V6.heap.size, 0, none⟩) 1 1 rfl rfl (sl_row (d := [0#8]) (Row.new' rfl rfl)) (fun e => by cases e) (by have := HEL.out; omega) ?_; intro v' V7 q1 q2 q3; obtain ⟨Ax, cx, ex, hcx, hni⟩ := Bw.form q1; rw [HN1.out] at ex; subst ex; have Q1 : Hid _ := q1; have Q2 : Hid _ := q2; have QN : Hid _ := hni; clear q1 q2 q3 hcx hni; simp only [Act.put, List.setIfInBounds_toArray, List.set_cons_zero, List.set_cons_succ])
    have hB : Below V4.heap.size V4 V7 := (HB6.out.alloc HB6.out.size _).grown Q2.out (Nat.le_trans HB6.out.size (by simp)) (fun k hk => by simp only [Value.ownBlock, Option.some.injEq] at hk; rw [← hk, HG6.out]; exact Nat.le_refl _)
    replace HB : Hid (Below w.heap.size w V7) := HB.out.trans (hB.mono HB.out.size)
    replace HL : Hid (En V7 b 1 sd tm tk rc am gs (.slice Ab n cb)) := HL.out.be hB
    replace HLxR : Hid (V7.rangeAt b 0 Lx) := range_be HLxR.out hB
    replace HS : Hid (Bw V7 (.slice Ab n cb) d ∧ (Ab = none → cb = 0)) := ⟨Bw.be HS.out.1 hB, HS.out.2⟩
    replace H1 : Hid (Bw V7 (.slice (some ⟨g1, o1, none⟩) N c1) eb) := Bw.be H1.out hB
    clear hB HO6 HG6 HB6 Q2
    have HR : Hid _ := rentry1_no (eb ++ [0#8]) H8b.out HZb.out HTmore.out Ax N1 cx HN1.out (by omega) QN.out V7 (fun W hb => Bw.sl (Bw.be Q1.out hb))
    go_wp2_with fail
    refine Calls.mono HR.out ?_
    rintro e V8 ⟨rfl, hB⟩
    replace HB : Hid (Below w.heap.size w V8) := HB.out.trans (hB.mono HB.out.size)
    replace HL : Hid (En V8 b 1 sd tm tk rc am gs (.slice Ab n cb)) := HL.out.be hB
    replace HLxR : Hid (V8.rangeAt b 0 Lx) := range_be HLxR.out hB
    replace HS : Hid (Bw V8 (.slice Ab n cb) d ∧ (Ab = none → cb = 0)) := ⟨Bw.be HS.out.1 hB, HS.out.2⟩
    replace H1 : Hid (Bw V8 (.slice (some ⟨g1, o1, none⟩) N c1) eb) := Bw.be H1.out hB
    clear hB HR Q1 QN
    obtain ⟨X8, hX, hB⟩ : ∃ X, X = (V8.alloc (Obj.cells (ez 0).toArray tEnt)).setCells V8.heap.size 0 (ez 0) ∧ Below V8.heap.size V8 X := ⟨_, rfl, below_setCells ((Below.refl V8.heap.size V8).alloc (Nat.le_refl _) _) (Nat.le_refl _) _⟩
    have HX : Hid (X8 = _) := hX
    replace HB : Hid (Below w.heap.size w X8) := HB.out.trans (hB.mono HB.out.size)
    replace HL : Hid (En X8 b 1 sd tm tk rc am gs (.slice Ab n cb)) := HL.out.be hB
    replace HLxR : Hid (X8.rangeAt b 0 Lx) := range_be HLxR.out hB
    replace HS : Hid (Bw X8 (.slice Ab n cb) d ∧ (Ab = none → cb = 0)) := ⟨Bw.be HS.out.1 hB, HS.out.2⟩
    replace H1 : Hid (Bw X8 (.slice (some ⟨g1, o1, none⟩) N c1) eb) := Bw.be H1.out hB
    clear hX hB
    go_upto_region 22 with (refine wpList_store_mid rfl 36 (.tmp 15) (.tmp 112) rfl V8.heap.size 0 (ez 0).toArray rfl rfl (Row.there (Row.new' (cs := ez 0) rfl rfl) 0 _ (by decide)) info_ent (by kernel_rfl) ?_; simp only [Act.put]; change wpList _ _ _ _ _ (World.setCells (World.alloc V8 (Obj.cells (ez 0).toArray tEnt)) V8.heap.size 0 (ez 0)); rw [← HX.out])
    clear HX
    have HR : Hid _ := rentry1_no (eb.take M) H8c.out HZc.out HTcut.out (some ⟨g1, o1, none⟩) M c1 HML.out (by omega) (fun e => by cases e) X8 (fun W hb => sl_cut (Bw.be H1.out hb) HEN.out M (by have := HEL.out; have := HNM.out; omega))
    have hnm := HNM.out
    go_wp2_with (refine wpList_slice_hi rfl 28 5 (.tmp 115) (.tmp 118) rfl g1 o1 N c1 M rfl (by rw [← HNM.out]; rfl) (by have := HC1.out; have := HNM.out; omega) Tryz.underlying28 info_u8 ?_; simp only [Act.put, List.setIfInBounds_toArray, List.set_cons_zero, List.set_cons_succ])
    refine Calls.mono HR.out ?_
    rintro e V9 ⟨rfl, hB⟩
    replace HB : Hid (Below w.heap.size w V9) := HB.out.trans (hB.mono HB.out.size)
    replace HL : Hid (En V9 b 1 sd tm tk rc am gs (.slice Ab n cb)) := HL.out.be hB
    replace HLxR : Hid (V9.rangeAt b 0 Lx) := range_be HLxR.out hB
    replace HS : Hid (Bw V9 (.slice Ab n cb) d ∧ (Ab = none → cb = 0)) := ⟨Bw.be HS.out.1 hB, HS.out.2⟩
    replace H1 : Hid (Bw V9 (.slice (some ⟨g1, o1, none⟩) N c1) eb) := Bw.be H1.out hB
    clear hB HR
    obtain ⟨X9, hX, hB⟩ : ∃ X, X = (V9.alloc (Obj.cells (ez 0).toArray tEnt)).setCells V9.heap.size 0 (ez 0) ∧ Below V9.heap.size V9 X := ⟨_, rfl, below_setCells ((Below.refl V9.heap.size V9).alloc (Nat.le_refl _) _) (Nat.le_refl _) _⟩
    have HX : Hid (X9 = _) := hX
    replace HB : Hid (Below w.heap.size w X9) := HB.out.trans (hB.mono HB.out.size)
    replace HL : Hid (En X9 b 1 sd tm tk rc am gs (.slice Ab n cb)) := HL.out.be hB
    replace HLxR : Hid (X9.rangeAt b 0 Lx) := range_be HLxR.out hB
    replace HS : Hid (Bw X9 (.slice Ab n cb) d ∧ (Ab = none → cb = 0)) := ⟨Bw.be HS.out.1 hB, HS.out.2⟩
    replace H1 : Hid (Bw X9 (.slice (some ⟨g1, o1, none⟩) N c1) eb) := Bw.be H1.out hB
    clear hX hB
    go_upto_region 23 with (refine wpList_store_mid rfl 36 (.tmp 17) (.tmp 121) rfl V9.heap.size 0 (ez 0).toArray rfl rfl (Row.there (Row.new' (cs := ez 0) rfl rfl) 0 _ (by decide)) info_ent (by kernel_rfl) ?_; simp only [Act.put]; change wpList _ _ _ _ _ (World.setCells (World.alloc V9 (Obj.cells (ez 0).toArray tEnt)) V9.heap.size 0 (ez 0)); rw [← HX.out])
    clear HX
    have HK : Hid _ := checkE_1 tm tk gs sd rc am Ab n cb C4.out C8.out C15.out C19.out C24.out K1.out K2.out K3.out Lx HLxE.out X9
    go_wp2_with (refine wpList_load_w rfl 36 (.tmp 7) rfl b 0 rfl Lx _ HLxR.out Tryz.underlying36 rfl HLxI.out ?_; simp only [Act.put, List.setIfInBounds_toArray, List.set_cons_zero, List.set_cons_succ])
    refine Calls.mono HK.out ?_
    rintro e V10 ⟨rfl, hB⟩
    replace HB : Hid (Below w.heap.size w V10) := HB.out.trans (hB.mono HB.out.size)
    clear hB HK
    go_wp2_with fail
    go_ret
    exact ⟨rfl, HB.out⟩

end Go.Proofs.YtaaehdlenigomaaGreat
