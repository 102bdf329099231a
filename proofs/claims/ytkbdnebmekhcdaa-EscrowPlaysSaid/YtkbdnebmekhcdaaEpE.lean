/-
  EscrowPlays: the document's Lock and Deposit.
-/
import Derived.Test.YtkbdnebmekhcdaaEpD
namespace Go.Proofs.Ytkbdnebmekhcdaa
open Go Go.RowKit Go.Maps
open Wd

theorem wpP_alW {Q : Exit → Act → World → Prop} {o : Oper} {a : Act} {w : World} {K : Act → World → Prop} (ho : o.op = .alloc 33) (h : K (a.put o.dst (.pointer (some ⟨w.heap.size, 0, none⟩))) (w.alloc (Obj.cells (vQ (List.replicate 4 0)).toArray 33))) : Oper.wp Try.prog o a w K Q := by
  unfold Oper.wp execOp
  simp only [ho]
  go_simp
  exact h
set_option maxRecDepth 100000 in
set_option maxHeartbeats 4000000 in
theorem rlock_any {w : World} {q : Nat} {v : Value} {l : List Acv} {s : St} (h : Ro w q v l) (hR : Rel l s) (hO : s.Ok) (hn : l.length < 2199023255551) (m : Nat) (hm : m < 2 ^ 256) (s' : St) (E : Int) (hs : sLock s m = (s', E)) :
    Calls Try.prog 35 #[.pointer (some ⟨q, 0, none⟩), .agg (vQ (dgs m 4)).toArray] w fun e w' => e = .returned (.int .i64 E) ∧ Rx w w' q v l.length s' := by
  obtain ⟨cM, hcM⟩ : ∃ c, c = vQ (dgs m 4) := ⟨_, rfl⟩
  have HMI : Hid ((Try.prog.info? 33).map (·.size) = some cM.length) := by show _ = _; rw [hcM]; exact wd4_info m
  have HX0 : Hid (∀ X, Below w.heap.size w X → Rx w X q v l.length s) := fun X k => Rx.same h hR k
  rw [← hcM]
  obtain ⟨cH, hcH⟩ : ∃ c, c = vQ (dgs s.L 4) := ⟨_, rfl⟩
  obtain ⟨cS, hcS⟩ : ∃ c, c = vQ (dgs (addR s.L m) 4) := ⟨_, rfl⟩
  obtain ⟨ae, hae⟩ : ∃ c, c = addE s.L m := ⟨_, rfl⟩
  have HSI : Hid ((Try.prog.info? 33).map (·.size) = some cS.length) := by show _ = _; rw [hcS]; exact wd4_info _
  have HSL : Hid (cS.length = 4) := by show _ = _; rw [hcS, vQ_length, dgs_length]
  have HSO : Hid (cS.toArray.all (·.oneCell') = true) := by show _ = _; rw [hcS]; exact all_one (vQ_one _)
  have HAD : Hid (∀ W, Calls Try.prog 17 #[.agg cH.toArray, .agg cM.toArray] W fun e w' => e = .returned (.tuple #[.agg cS.toArray, .int .i64 ae]) ∧ Below W.heap.size W w') := fun W => by rw [hcH, hcM, hcS, hae]; exact refAdd_c s.L m hO.l hm W
  have HH0 : Hid (∀ X, Below w.heap.size w X → Calls Try.prog 42 #[.pointer (some ⟨q, 0, none⟩)] X fun e w' => e = .returned (.agg cH.toArray) ∧ Below X.heap.size X w') := fun X k => by rw [hcH]; exact rkL (h.be k) hR
  by_cases hlt : s.L + m < 2 ^ 256
  · have hae0 : ae = 0 := by rw [hae]; unfold addE; rw [if_pos hlt]
    have HS : Hid (s' = { s with L := addR s.L m } ∧ E = 0) := by unfold sLock at hs; rw [← hae, hae0, if_neg (by decide)] at hs; cases hs; exact ⟨rfl, rfl⟩
    obtain ⟨R8, hR8⟩ : ∃ R, R = (Acv.mk 5 0 (-1) m).cells := ⟨_, rfl⟩
    have HB : Hid (Try.prog.built tAc [(0, .int .i64 5), (2, .int .i64 (-1)), (3, .agg cM.toArray)] = some R8.toArray) := by show _ = _; rw [hR8, hcM]; exact built_a3 5 (-1) m
    have HDO : Hid (∀ X, Below w.heap.size w X → Calls Try.prog 56 #[.pointer (some ⟨q, 0, none⟩), .agg R8.toArray] X fun e w' => e = .returned (.int .i64 0) ∧ Rx w w' q v l.length s') := fun X k => (do_any (h.be k) ⟨5, 0, -1, m⟩ hm hn R8 hR8).mono fun e w' hh => ⟨hh.1, by rw [HS.out.1]; exact Rx.more (by have := hR.bond ⟨5, 0, -1, m⟩ (by simp) (by simp) (by simp) (by simp) (by simp); simpa [stepK] using this) (Rt.of k hh.2)⟩
    rw [hae0] at HAD
    clear h hR hs hlt hcM hcH hcS hae hae0 hR8
    go_enter Try.func35, Try.ntmps35
    go_upto_region 1 with (first
      | (refine wpList_bxG 33 rfl (.tmp 1) rfl cM rfl ?_; intro V1 q1 q2 q3; have R1 : Hid (Row V1 w.heap.size cM 33) := q1; have B1 : Hid (Below w.heap.size w V1) := q2; clear q1 q2 q3; simp only [Act.put, List.setIfInBounds_toArray, List.set_cons_zero, List.set_cons_succ]))
    obtain ⟨bB, hbB⟩ : ∃ b, b = w.heap.size := ⟨_, rfl⟩
    rw [← hbB] at R1 ⊢
    have rB := R1.out
    have hb1 := B1.out
    have HHD : Hid (∀ W, Below w.heap.size w W → Calls Try.prog 42 #[.pointer (some ⟨q, 0, none⟩)] W fun e w' => e = .returned (.agg cH.toArray) ∧ Below W.heap.size W w') := fun W k => HH0.out W k
    clear R1 HH0 B1
    refine wp_named fun a0 ha0 => ?_
    have hsz : a0.tmps.size = 20 := by rw [ha0]; rfl
    have zs0 : a0.eval (.tmp 0) = .pointer (some ⟨q, 0, none⟩) := by rw [ha0]; rfl
    have zs3 : a0.eval (.tmp 3) = .pointer (some ⟨bB, 0, none⟩) := by rw [ha0]; rfl
    obtain ⟨D, hD⟩ : ∃ D : List (Tmp × SP), D = [(8, SP.is (.pointer (some ⟨q, 0, none⟩))), (9, SP.is (.agg cH.toArray)), (10, SP.is (.agg cM.toArray)), (11, SP.is (.tuple #[.agg cS.toArray, .int .i64 0])), (7, SP.is (.tuple #[.agg cS.toArray, .int .i64 0])), (12, SP.is (.agg cS.toArray)), (13, SP.is (.int .i64 0)), (5, SP.any), (1000, SP.any), (6, SP.is (.int .i64 0))] := ⟨_, rfl⟩
    refine wp_region_down (by kernel_rfl) (fun listed ac W => ∃ (b0 : Nat), listed.size = 10 ∧ Fp D a0 listed ac W ∧ Below w.heap.size w W ∧ Row W bB cM 33 ∧ (listed.getD 7 false = true → ac.eval (.tmp 5) = .pointer (some ⟨b0, 0, none⟩) ∧ bB < b0 ∧ Row W b0 (if listed.getD 8 false = true then cS else (vQ (List.replicate 4 0))) 33) ∧ (listed.getD 8 false = true → listed.getD 7 false = true)) ?_ ?_ ?_
    · exact ⟨0, by simp, Fp.start D a0 _ _, Below.drew hb1, Row.drew rB, (fun h => (start_no h).elim), (fun h => (start_no h).elim)⟩
    · clear ha0 hb1 rB 
      intro listed ac W k hI hdn hk
      obtain ⟨b0, hl, hF, hb1, rB, al7, as7⟩ := hI
      have hk1 : k < 10 := List.mem_range.1 (List.mem_filter.1 hk).1
      have hl2 : ∀ j, (listed.setIfInBounds j true).size = 10 := fun j => by rw [Array.size_setIfInBounds]; exact hl
      rcases (show k = 0 ∨ k = 1 ∨ k = 2 ∨ k = 3 ∨ k = 4 ∨ k = 5 ∨ k = 6 ∨ k = 7 ∨ k = 8 ∨ k = 9 by omega) with rfl | rfl | rfl | rfl | rfl | rfl | rfl | rfl | rfl | rfl
      · have hk3 := hk
        exact wpOp_plain rfl rfl (wp_move_v (ac.eval (.tmp 0)) rfl rfl ⟨b0, hl2 0, (hF.put 0 8 (SP.is (.pointer (some ⟨q, 0, none⟩))) (ac.eval (.tmp 0)) (by rw [hD]; rfl) (((hF.keep 0 (by rw [hD]; rfl)).trans zs0)) (by rw [hD]; rfl) (by rw [hsz]; decide) (by rw [hl]; decide)), hb1, rB, (fun h => ⟨(eval_put_other ac _ (by decide)).trans ((al7 (by rwa [getD_set _ _ _ (by decide)] at h)).1), (al7 (by rwa [getD_set _ _ _ (by decide)] at h)).2.1, by rw [getD_set _ _ _ (by decide)]; exact (al7 (by rwa [getD_set _ _ _ (by decide)] at h)).2.2⟩), (fun h => by rw [getD_set _ _ _ (by decide)]; exact as7 (by rwa [getD_set _ _ _ (by decide)] at h))⟩)
      · have hk3 := hk
        have ea := (hF.done 0 (8, SP.is (.pointer (some ⟨q, 0, none⟩))) (by rw [hD]; rfl) (ready_dep hk 0 (by kernel_rfl)))
        refine wpOp_plain rfl rfl (wp_fcall_v 42 #[.pointer (some ⟨q, 0, none⟩)] rfl rfl (by show [ac.eval (.tmp 8)] = _; rw [show ac.eval (.tmp 8) = _ from ea]) (by go_simp) ((HHD.out W hb1).mono ?_))
        rintro e W2 ⟨rfl, hB⟩
        exact ⟨_, rfl, b0, hl2 1, ((hF.world hB).put 1 9 (SP.is (.agg cH.toArray)) (.agg cH.toArray) (by rw [hD]; rfl) rfl (by rw [hD]; rfl) (by rw [hsz]; decide) (by rw [hl]; decide)), hb1.trans (hB.mono hb1.size), Row.below rB hB (Row.lt rB), (fun h => ⟨(eval_put_other ac _ (by decide)).trans ((al7 (by rwa [getD_set _ _ _ (by decide)] at h)).1), (al7 (by rwa [getD_set _ _ _ (by decide)] at h)).2.1, by rw [getD_set _ _ _ (by decide)]; exact Row.below (al7 (by rwa [getD_set _ _ _ (by decide)] at h)).2.2 hB (Row.lt (al7 (by rwa [getD_set _ _ _ (by decide)] at h)).2.2)⟩), (fun h => by rw [getD_set _ _ _ (by decide)]; exact as7 (by rwa [getD_set _ _ _ (by decide)] at h))⟩
      · have hk3 := hk
        exact wpOp_plain rfl rfl (wp_load_mid 33 (.tmp 3) rfl bB 0 ((hF.keep 3 (by rw [hD]; rfl)).trans zs3) cM _ rB.all Try.underlying33 rfl (HMI.out) ⟨b0, hl2 2, (hF.put 2 10 (SP.is (.agg cM.toArray)) (.agg cM.toArray) (by rw [hD]; rfl) rfl (by rw [hD]; rfl) (by rw [hsz]; decide) (by rw [hl]; decide)), hb1, rB, (fun h => ⟨(eval_put_other ac _ (by decide)).trans ((al7 (by rwa [getD_set _ _ _ (by decide)] at h)).1), (al7 (by rwa [getD_set _ _ _ (by decide)] at h)).2.1, by rw [getD_set _ _ _ (by decide)]; exact (al7 (by rwa [getD_set _ _ _ (by decide)] at h)).2.2⟩), (fun h => by rw [getD_set _ _ _ (by decide)]; exact as7 (by rwa [getD_set _ _ _ (by decide)] at h))⟩)
      · have hk3 := hk
        have ea := (hF.done 1 (9, SP.is (.agg cH.toArray)) (by rw [hD]; rfl) (ready_dep hk 1 (by kernel_rfl)))
        have eb := (hF.done 2 (10, SP.is (.agg cM.toArray)) (by rw [hD]; rfl) (ready_dep hk 2 (by kernel_rfl)))
        refine wpOp_plain rfl rfl (wp_fcall_v 17 #[.agg cH.toArray, .agg cM.toArray] rfl rfl (by show [ac.eval (.tmp 9), ac.eval (.tmp 10)] = _; rw [show ac.eval (.tmp 9) = _ from ea, show ac.eval (.tmp 10) = _ from eb]) (by go_simp) ((HAD.out W).mono ?_))
        rintro e W2 ⟨rfl, hB⟩
        exact ⟨_, rfl, b0, hl2 3, ((hF.world hB).put 3 11 (SP.is (.tuple #[.agg cS.toArray, .int .i64 0])) (.tuple #[.agg cS.toArray, .int .i64 0]) (by rw [hD]; rfl) rfl (by rw [hD]; rfl) (by rw [hsz]; decide) (by rw [hl]; decide)), hb1.trans (hB.mono hb1.size), Row.below rB hB (Row.lt rB), (fun h => ⟨(eval_put_other ac _ (by decide)).trans ((al7 (by rwa [getD_set _ _ _ (by decide)] at h)).1), (al7 (by rwa [getD_set _ _ _ (by decide)] at h)).2.1, by rw [getD_set _ _ _ (by decide)]; exact Row.below (al7 (by rwa [getD_set _ _ _ (by decide)] at h)).2.2 hB (Row.lt (al7 (by rwa [getD_set _ _ _ (by decide)] at h)).2.2)⟩), (fun h => by rw [getD_set _ _ _ (by decide)]; exact as7 (by rwa [getD_set _ _ _ (by decide)] at h))⟩
      · have hk3 := hk
        exact wpOp_plain rfl rfl (wp_move_v (ac.eval (.tmp 11)) rfl rfl ⟨b0, hl2 4, (hF.put 4 7 (SP.is (.tuple #[.agg cS.toArray, .int .i64 0])) (ac.eval (.tmp 11)) (by rw [hD]; rfl) ((hF.done 3 (11, SP.is (.tuple #[.agg cS.toArray, .int .i64 0])) (by rw [hD]; rfl) (ready_dep hk 3 (by kernel_rfl)))) (by rw [hD]; rfl) (by rw [hsz]; decide) (by rw [hl]; decide)), hb1, rB, (fun h => ⟨(eval_put_other ac _ (by decide)).trans ((al7 (by rwa [getD_set _ _ _ (by decide)] at h)).1), (al7 (by rwa [getD_set _ _ _ (by decide)] at h)).2.1, by rw [getD_set _ _ _ (by decide)]; exact (al7 (by rwa [getD_set _ _ _ (by decide)] at h)).2.2⟩), (fun h => by rw [getD_set _ _ _ (by decide)]; exact as7 (by rwa [getD_set _ _ _ (by decide)] at h))⟩)
      · have hk3 := hk
        exact wpOp_plain rfl rfl (wp_extract (.tmp 7) 0 rfl _ (hF.done 4 (7, SP.is (.tuple #[.agg cS.toArray, .int .i64 0])) (by rw [hD]; rfl) (ready_dep hk 4 (by kernel_rfl))) _ rfl ⟨b0, hl2 5, (hF.put 5 12 (SP.is (.agg cS.toArray)) (_) (by rw [hD]; rfl) rfl (by rw [hD]; rfl) (by rw [hsz]; decide) (by rw [hl]; decide)), hb1, rB, (fun h => ⟨(eval_put_other ac _ (by decide)).trans ((al7 (by rwa [getD_set _ _ _ (by decide)] at h)).1), (al7 (by rwa [getD_set _ _ _ (by decide)] at h)).2.1, by rw [getD_set _ _ _ (by decide)]; exact (al7 (by rwa [getD_set _ _ _ (by decide)] at h)).2.2⟩), (fun h => by rw [getD_set _ _ _ (by decide)]; exact as7 (by rwa [getD_set _ _ _ (by decide)] at h))⟩)
      · have hk3 := hk
        exact wpOp_plain rfl rfl (wp_extract (.tmp 7) 1 rfl _ (hF.done 4 (7, SP.is (.tuple #[.agg cS.toArray, .int .i64 0])) (by rw [hD]; rfl) (ready_dep hk 4 (by kernel_rfl))) _ rfl ⟨b0, hl2 6, (hF.put 6 13 (SP.is (.int .i64 0)) (_) (by rw [hD]; rfl) rfl (by rw [hD]; rfl) (by rw [hsz]; decide) (by rw [hl]; decide)), hb1, rB, (fun h => ⟨(eval_put_other ac _ (by decide)).trans ((al7 (by rwa [getD_set _ _ _ (by decide)] at h)).1), (al7 (by rwa [getD_set _ _ _ (by decide)] at h)).2.1, by rw [getD_set _ _ _ (by decide)]; exact (al7 (by rwa [getD_set _ _ _ (by decide)] at h)).2.2⟩), (fun h => by rw [getD_set _ _ _ (by decide)]; exact as7 (by rwa [getD_set _ _ _ (by decide)] at h))⟩)
      · have hk3 := hk
        have hsm : bB < W.heap.size := Row.lt rB
        have hB : Below W.heap.size W (W.alloc (Obj.cells (vQ (List.replicate 4 0)).toArray 33)) := (Below.refl _ _).alloc (Nat.le_refl _) _
        have hns : ¬ listed.getD 8 false = true := fun h => not_yet hk (as7 h)
        exact wpOp_plain rfl rfl (wpP_alW rfl ⟨W.heap.size, hl2 7, ((hF.world hB).put 7 5 (SP.any) (.pointer (some ⟨W.heap.size, 0, none⟩)) (by rw [hD]; rfl) trivial (by rw [hD]; rfl) (by rw [hsz]; decide) (by rw [hl]; decide)), hb1.alloc hb1.size _, Row.alloc rB _, (fun _ => ⟨eval_put_same ac _ (by rw [hF.size, hsz]; decide), hsm, by rw [getD_set _ _ _ (by decide), if_neg hns]; exact Row.new' rfl rfl⟩), (fun _ => getD_same (by rw [hl]; decide))⟩)
      · have hk3 := hk
        have hal := ready_dep hk 7 (by kernel_rfl)
        obtain ⟨e1, m1, y2⟩ := al7 hal
        rw [if_neg (not_yet hk)] at y2
        have T := y2.there 0 cS.toArray.size (by rw [List.size_toArray, HSL.out]; decide)
        have fin := y2.over (vs := cS) (by rw [HSL.out]; rfl)
        have hT : Fp D a0 listed ac (W.setCells b0 0 cS) := hF.turn (by rw [hD]; simp only [List.forall_mem_cons, List.not_mem_nil, false_implies, implies_true, and_true]; exact ⟨fun _ h => h, fun _ h => h, fun _ h => h, fun _ h => h, fun _ h => h, fun _ h => h, fun _ h => h, fun _ h => h, fun _ h => h, fun _ h => h⟩)
        exact wpOp_plain rfl rfl (wp_store_mid 33 (.tmp 5) (.tmp 12) rfl b0 0 cS.toArray e1 (hF.done 5 (12, SP.is (.agg cS.toArray)) (by rw [hD]; rfl) (ready_dep hk 5 (by kernel_rfl))) T HSI.out HSO.out ⟨b0, hl2 8, (hT.skip 8 1000 (by rw [hD]; rfl) (by rw [hl]; decide)), below_setCells hb1 (by omega) _, Row.setCells_other rB _ _ _ (by omega), (fun _ => ⟨e1, m1, by rw [if_pos (getD_same (by rw [hl]; decide))]; exact fin⟩), (fun _ => by rw [getD_set _ _ _ (by decide)]; exact hal)⟩)
      · have hk3 := hk
        exact wpOp_plain rfl rfl (wp_assign_v (ac.eval (.tmp 13)) rfl rfl ⟨b0, hl2 9, (hF.put 9 6 (SP.is (.int .i64 0)) (ac.eval (.tmp 13)) (by rw [hD]; rfl) ((hF.done 6 (13, SP.is (.int .i64 0)) (by rw [hD]; rfl) (ready_dep hk 6 (by kernel_rfl)))) (by rw [hD]; rfl) (by rw [hsz]; decide) (by rw [hl]; decide)), hb1, rB, (fun h => ⟨(eval_put_other ac _ (by decide)).trans ((al7 (by rwa [getD_set _ _ _ (by decide)] at h)).1), (al7 (by rwa [getD_set _ _ _ (by decide)] at h)).2.1, by rw [getD_set _ _ _ (by decide)]; exact (al7 (by rwa [getD_set _ _ _ (by decide)] at h)).2.2⟩), (fun h => by rw [getD_set _ _ _ (by decide)]; exact as7 (by rwa [getD_set _ _ _ (by decide)] at h))⟩)
    · clear hb1 rB 
      intro listed ac W hI hr
      obtain ⟨b0, hl, hF, hb1, rB, al7, as7⟩ := hI
      have hall := all_listed (by kernel_rfl) hl hr
      obtain ⟨ea5, m5, p5⟩ := al7 (hall 7 (by decide))
      rw [if_pos (hall 8 (by decide))] at p5
      have h8 : ac.eval (.tmp 8) = .pointer (some ⟨q, 0, none⟩) := hF.done 0 (8, SP.is (.pointer (some ⟨q, 0, none⟩))) (by rw [hD]; rfl) (hall 0 (by decide))
      have h9 : ac.eval (.tmp 9) = .agg cH.toArray := hF.done 1 (9, SP.is (.agg cH.toArray)) (by rw [hD]; rfl) (hall 1 (by decide))
      have h10 : ac.eval (.tmp 10) = .agg cM.toArray := hF.done 2 (10, SP.is (.agg cM.toArray)) (by rw [hD]; rfl) (hall 2 (by decide))
      have h11 : ac.eval (.tmp 11) = .tuple #[.agg cS.toArray, .int .i64 0] := hF.done 3 (11, SP.is (.tuple #[.agg cS.toArray, .int .i64 0])) (by rw [hD]; rfl) (hall 3 (by decide))
      have h7 : ac.eval (.tmp 7) = .tuple #[.agg cS.toArray, .int .i64 0] := hF.done 4 (7, SP.is (.tuple #[.agg cS.toArray, .int .i64 0])) (by rw [hD]; rfl) (hall 4 (by decide))
      have h12 : ac.eval (.tmp 12) = .agg cS.toArray := hF.done 5 (12, SP.is (.agg cS.toArray)) (by rw [hD]; rfl) (hall 5 (by decide))
      have h13 : ac.eval (.tmp 13) = .int .i64 0 := hF.done 6 (13, SP.is (.int .i64 0)) (by rw [hD]; rfl) (hall 6 (by decide))
      have h6 : ac.eval (.tmp 6) = .int .i64 0 := hF.done 9 (6, SP.is (.int .i64 0)) (by rw [hD]; rfl) (hall 9 (by decide))
      have ea := hF.lay [(8, .pointer (some ⟨q, 0, none⟩)), (9, .agg cH.toArray), (10, .agg cM.toArray), (11, .tuple #[.agg cS.toArray, .int .i64 0]), (7, .tuple #[.agg cS.toArray, .int .i64 0]), (12, .agg cS.toArray), (13, .int .i64 0), (5, .pointer (some ⟨b0, 0, none⟩)), (6, .int .i64 0)] (by rw [hD, hsz]; rfl) (by simp only [List.forall_mem_cons, List.not_mem_nil, false_implies, implies_true, and_true]; exact ⟨h8, h9, h10, h11, h7, h12, h13, ea5, h6⟩)
      rw [ha0] at ea
      simp only [List.foldl_cons, List.foldl_nil, List.setIfInBounds_toArray, List.set_cons_zero, List.set_cons_succ] at ea
      clear hF hall hr hl hD al7 as7 zs0 zs3 ha0 hsz h8 h9 h10 h11 h7 h12 h13 ea5 h6
      subst ea
      have B2 : Hid (Below w.heap.size w W) := hb1
      have RB2 : Hid (Row W bB cM 33) := rB
      clear hb1 rB hbB
      go_wp2_with (first
        | (refine wpList_ldS rfl 33 (.tmp 3) rfl bB 0 rfl cM _ RB2.out.all Try.underlying33 rfl HMI.out ?_; simp only [Act.put, List.setIfInBounds_toArray, List.set_cons_zero, List.set_cons_succ])
        | (refine wpList_blt rfl tAc _ rfl [(0, .int .i64 5), (2, .int .i64 (-1)), (3, .agg cM.toArray)] rfl R8 HB.out ?_; simp only [Act.put, List.setIfInBounds_toArray, List.set_cons_zero, List.set_cons_succ])
        | (go_at_call 56; refine Calls.mono (HDO.out _ B2.out) ?_; rintro e Y ⟨rfl, q⟩; have HX := (show Hid _ from q); clear q))
      go_ret
      exact ⟨by rw [HS.out.2]; rfl, HX.out⟩
  · have hae0 : ae = 22 := by rw [hae]; unfold addE; rw [if_neg hlt]
    have HS : Hid (s' = s ∧ E = 145) := by unfold sLock at hs; rw [← hae, hae0, if_pos (by decide)] at hs; cases hs; exact ⟨rfl, rfl⟩
    rw [hae0] at HAD
    clear h hR hs hlt hcM hcH hcS hae hae0
    go_enter Try.func35, Try.ntmps35
    go_upto_region 1 with (first
      | (refine wpList_bxG 33 rfl (.tmp 1) rfl cM rfl ?_; intro V1 q1 q2 q3; have R1 : Hid (Row V1 w.heap.size cM 33) := q1; have B1 : Hid (Below w.heap.size w V1) := q2; clear q1 q2 q3; simp only [Act.put, List.setIfInBounds_toArray, List.set_cons_zero, List.set_cons_succ]))
    obtain ⟨bB, hbB⟩ : ∃ b, b = w.heap.size := ⟨_, rfl⟩
    rw [← hbB] at R1 ⊢
    have rB := R1.out
    have hb1 := B1.out
    have HHD : Hid (∀ W, Below w.heap.size w W → Calls Try.prog 42 #[.pointer (some ⟨q, 0, none⟩)] W fun e w' => e = .returned (.agg cH.toArray) ∧ Below W.heap.size W w') := fun W k => HH0.out W k
    clear R1 HH0 B1
    refine wp_named fun a0 ha0 => ?_
    have hsz : a0.tmps.size = 20 := by rw [ha0]; rfl
    have zs0 : a0.eval (.tmp 0) = .pointer (some ⟨q, 0, none⟩) := by rw [ha0]; rfl
    have zs3 : a0.eval (.tmp 3) = .pointer (some ⟨bB, 0, none⟩) := by rw [ha0]; rfl
    obtain ⟨D, hD⟩ : ∃ D : List (Tmp × SP), D = [(8, SP.is (.pointer (some ⟨q, 0, none⟩))), (9, SP.is (.agg cH.toArray)), (10, SP.is (.agg cM.toArray)), (11, SP.is (.tuple #[.agg cS.toArray, .int .i64 22])), (7, SP.is (.tuple #[.agg cS.toArray, .int .i64 22])), (12, SP.is (.agg cS.toArray)), (13, SP.is (.int .i64 22)), (5, SP.any), (1000, SP.any), (6, SP.is (.int .i64 22))] := ⟨_, rfl⟩
    refine wp_region_down (by kernel_rfl) (fun listed ac W => ∃ (b0 : Nat), listed.size = 10 ∧ Fp D a0 listed ac W ∧ Below w.heap.size w W ∧ Row W bB cM 33 ∧ (listed.getD 7 false = true → ac.eval (.tmp 5) = .pointer (some ⟨b0, 0, none⟩) ∧ bB < b0 ∧ Row W b0 (if listed.getD 8 false = true then cS else (vQ (List.replicate 4 0))) 33) ∧ (listed.getD 8 false = true → listed.getD 7 false = true)) ?_ ?_ ?_
    · exact ⟨0, by simp, Fp.start D a0 _ _, Below.drew hb1, Row.drew rB, (fun h => (start_no h).elim), (fun h => (start_no h).elim)⟩
    · clear ha0 hb1 rB 
      intro listed ac W k hI hdn hk
      obtain ⟨b0, hl, hF, hb1, rB, al7, as7⟩ := hI
      have hk1 : k < 10 := List.mem_range.1 (List.mem_filter.1 hk).1
      have hl2 : ∀ j, (listed.setIfInBounds j true).size = 10 := fun j => by rw [Array.size_setIfInBounds]; exact hl
      rcases (show k = 0 ∨ k = 1 ∨ k = 2 ∨ k = 3 ∨ k = 4 ∨ k = 5 ∨ k = 6 ∨ k = 7 ∨ k = 8 ∨ k = 9 by omega) with rfl | rfl | rfl | rfl | rfl | rfl | rfl | rfl | rfl | rfl
      · have hk3 := hk
        exact wpOp_plain rfl rfl (wp_move_v (ac.eval (.tmp 0)) rfl rfl ⟨b0, hl2 0, (hF.put 0 8 (SP.is (.pointer (some ⟨q, 0, none⟩))) (ac.eval (.tmp 0)) (by rw [hD]; rfl) (((hF.keep 0 (by rw [hD]; rfl)).trans zs0)) (by rw [hD]; rfl) (by rw [hsz]; decide) (by rw [hl]; decide)), hb1, rB, (fun h => ⟨(eval_put_other ac _ (by decide)).trans ((al7 (by rwa [getD_set _ _ _ (by decide)] at h)).1), (al7 (by rwa [getD_set _ _ _ (by decide)] at h)).2.1, by rw [getD_set _ _ _ (by decide)]; exact (al7 (by rwa [getD_set _ _ _ (by decide)] at h)).2.2⟩), (fun h => by rw [getD_set _ _ _ (by decide)]; exact as7 (by rwa [getD_set _ _ _ (by decide)] at h))⟩)
      · have hk3 := hk
        have ea := (hF.done 0 (8, SP.is (.pointer (some ⟨q, 0, none⟩))) (by rw [hD]; rfl) (ready_dep hk 0 (by kernel_rfl)))
        refine wpOp_plain rfl rfl (wp_fcall_v 42 #[.pointer (some ⟨q, 0, none⟩)] rfl rfl (by show [ac.eval (.tmp 8)] = _; rw [show ac.eval (.tmp 8) = _ from ea]) (by go_simp) ((HHD.out W hb1).mono ?_))
        rintro e W2 ⟨rfl, hB⟩
        exact ⟨_, rfl, b0, hl2 1, ((hF.world hB).put 1 9 (SP.is (.agg cH.toArray)) (.agg cH.toArray) (by rw [hD]; rfl) rfl (by rw [hD]; rfl) (by rw [hsz]; decide) (by rw [hl]; decide)), hb1.trans (hB.mono hb1.size), Row.below rB hB (Row.lt rB), (fun h => ⟨(eval_put_other ac _ (by decide)).trans ((al7 (by rwa [getD_set _ _ _ (by decide)] at h)).1), (al7 (by rwa [getD_set _ _ _ (by decide)] at h)).2.1, by rw [getD_set _ _ _ (by decide)]; exact Row.below (al7 (by rwa [getD_set _ _ _ (by decide)] at h)).2.2 hB (Row.lt (al7 (by rwa [getD_set _ _ _ (by decide)] at h)).2.2)⟩), (fun h => by rw [getD_set _ _ _ (by decide)]; exact as7 (by rwa [getD_set _ _ _ (by decide)] at h))⟩
      · have hk3 := hk
        exact wpOp_plain rfl rfl (wp_load_mid 33 (.tmp 3) rfl bB 0 ((hF.keep 3 (by rw [hD]; rfl)).trans zs3) cM _ rB.all Try.underlying33 rfl (HMI.out) ⟨b0, hl2 2, (hF.put 2 10 (SP.is (.agg cM.toArray)) (.agg cM.toArray) (by rw [hD]; rfl) rfl (by rw [hD]; rfl) (by rw [hsz]; decide) (by rw [hl]; decide)), hb1, rB, (fun h => ⟨(eval_put_other ac _ (by decide)).trans ((al7 (by rwa [getD_set _ _ _ (by decide)] at h)).1), (al7 (by rwa [getD_set _ _ _ (by decide)] at h)).2.1, by rw [getD_set _ _ _ (by decide)]; exact (al7 (by rwa [getD_set _ _ _ (by decide)] at h)).2.2⟩), (fun h => by rw [getD_set _ _ _ (by decide)]; exact as7 (by rwa [getD_set _ _ _ (by decide)] at h))⟩)
      · have hk3 := hk
        have ea := (hF.done 1 (9, SP.is (.agg cH.toArray)) (by rw [hD]; rfl) (ready_dep hk 1 (by kernel_rfl)))
        have eb := (hF.done 2 (10, SP.is (.agg cM.toArray)) (by rw [hD]; rfl) (ready_dep hk 2 (by kernel_rfl)))
        refine wpOp_plain rfl rfl (wp_fcall_v 17 #[.agg cH.toArray, .agg cM.toArray] rfl rfl (by show [ac.eval (.tmp 9), ac.eval (.tmp 10)] = _; rw [show ac.eval (.tmp 9) = _ from ea, show ac.eval (.tmp 10) = _ from eb]) (by go_simp) ((HAD.out W).mono ?_))
        rintro e W2 ⟨rfl, hB⟩
        exact ⟨_, rfl, b0, hl2 3, ((hF.world hB).put 3 11 (SP.is (.tuple #[.agg cS.toArray, .int .i64 22])) (.tuple #[.agg cS.toArray, .int .i64 22]) (by rw [hD]; rfl) rfl (by rw [hD]; rfl) (by rw [hsz]; decide) (by rw [hl]; decide)), hb1.trans (hB.mono hb1.size), Row.below rB hB (Row.lt rB), (fun h => ⟨(eval_put_other ac _ (by decide)).trans ((al7 (by rwa [getD_set _ _ _ (by decide)] at h)).1), (al7 (by rwa [getD_set _ _ _ (by decide)] at h)).2.1, by rw [getD_set _ _ _ (by decide)]; exact Row.below (al7 (by rwa [getD_set _ _ _ (by decide)] at h)).2.2 hB (Row.lt (al7 (by rwa [getD_set _ _ _ (by decide)] at h)).2.2)⟩), (fun h => by rw [getD_set _ _ _ (by decide)]; exact as7 (by rwa [getD_set _ _ _ (by decide)] at h))⟩
      · have hk3 := hk
        exact wpOp_plain rfl rfl (wp_move_v (ac.eval (.tmp 11)) rfl rfl ⟨b0, hl2 4, (hF.put 4 7 (SP.is (.tuple #[.agg cS.toArray, .int .i64 22])) (ac.eval (.tmp 11)) (by rw [hD]; rfl) ((hF.done 3 (11, SP.is (.tuple #[.agg cS.toArray, .int .i64 22])) (by rw [hD]; rfl) (ready_dep hk 3 (by kernel_rfl)))) (by rw [hD]; rfl) (by rw [hsz]; decide) (by rw [hl]; decide)), hb1, rB, (fun h => ⟨(eval_put_other ac _ (by decide)).trans ((al7 (by rwa [getD_set _ _ _ (by decide)] at h)).1), (al7 (by rwa [getD_set _ _ _ (by decide)] at h)).2.1, by rw [getD_set _ _ _ (by decide)]; exact (al7 (by rwa [getD_set _ _ _ (by decide)] at h)).2.2⟩), (fun h => by rw [getD_set _ _ _ (by decide)]; exact as7 (by rwa [getD_set _ _ _ (by decide)] at h))⟩)
      · have hk3 := hk
        exact wpOp_plain rfl rfl (wp_extract (.tmp 7) 0 rfl _ (hF.done 4 (7, SP.is (.tuple #[.agg cS.toArray, .int .i64 22])) (by rw [hD]; rfl) (ready_dep hk 4 (by kernel_rfl))) _ rfl ⟨b0, hl2 5, (hF.put 5 12 (SP.is (.agg cS.toArray)) (_) (by rw [hD]; rfl) rfl (by rw [hD]; rfl) (by rw [hsz]; decide) (by rw [hl]; decide)), hb1, rB, (fun h => ⟨(eval_put_other ac _ (by decide)).trans ((al7 (by rwa [getD_set _ _ _ (by decide)] at h)).1), (al7 (by rwa [getD_set _ _ _ (by decide)] at h)).2.1, by rw [getD_set _ _ _ (by decide)]; exact (al7 (by rwa [getD_set _ _ _ (by decide)] at h)).2.2⟩), (fun h => by rw [getD_set _ _ _ (by decide)]; exact as7 (by rwa [getD_set _ _ _ (by decide)] at h))⟩)
      · have hk3 := hk
        exact wpOp_plain rfl rfl (wp_extract (.tmp 7) 1 rfl _ (hF.done 4 (7, SP.is (.tuple #[.agg cS.toArray, .int .i64 22])) (by rw [hD]; rfl) (ready_dep hk 4 (by kernel_rfl))) _ rfl ⟨b0, hl2 6, (hF.put 6 13 (SP.is (.int .i64 22)) (_) (by rw [hD]; rfl) rfl (by rw [hD]; rfl) (by rw [hsz]; decide) (by rw [hl]; decide)), hb1, rB, (fun h => ⟨(eval_put_other ac _ (by decide)).trans ((al7 (by rwa [getD_set _ _ _ (by decide)] at h)).1), (al7 (by rwa [getD_set _ _ _ (by decide)] at h)).2.1, by rw [getD_set _ _ _ (by decide)]; exact (al7 (by rwa [getD_set _ _ _ (by decide)] at h)).2.2⟩), (fun h => by rw [getD_set _ _ _ (by decide)]; exact as7 (by rwa [getD_set _ _ _ (by decide)] at h))⟩)
      · have hk3 := hk
        have hsm : bB < W.heap.size := Row.lt rB
        have hB : Below W.heap.size W (W.alloc (Obj.cells (vQ (List.replicate 4 0)).toArray 33)) := (Below.refl _ _).alloc (Nat.le_refl _) _
        have hns : ¬ listed.getD 8 false = true := fun h => not_yet hk (as7 h)
        exact wpOp_plain rfl rfl (wpP_alW rfl ⟨W.heap.size, hl2 7, ((hF.world hB).put 7 5 (SP.any) (.pointer (some ⟨W.heap.size, 0, none⟩)) (by rw [hD]; rfl) trivial (by rw [hD]; rfl) (by rw [hsz]; decide) (by rw [hl]; decide)), hb1.alloc hb1.size _, Row.alloc rB _, (fun _ => ⟨eval_put_same ac _ (by rw [hF.size, hsz]; decide), hsm, by rw [getD_set _ _ _ (by decide), if_neg hns]; exact Row.new' rfl rfl⟩), (fun _ => getD_same (by rw [hl]; decide))⟩)
      · have hk3 := hk
        have hal := ready_dep hk 7 (by kernel_rfl)
        obtain ⟨e1, m1, y2⟩ := al7 hal
        rw [if_neg (not_yet hk)] at y2
        have T := y2.there 0 cS.toArray.size (by rw [List.size_toArray, HSL.out]; decide)
        have fin := y2.over (vs := cS) (by rw [HSL.out]; rfl)
        have hT : Fp D a0 listed ac (W.setCells b0 0 cS) := hF.turn (by rw [hD]; simp only [List.forall_mem_cons, List.not_mem_nil, false_implies, implies_true, and_true]; exact ⟨fun _ h => h, fun _ h => h, fun _ h => h, fun _ h => h, fun _ h => h, fun _ h => h, fun _ h => h, fun _ h => h, fun _ h => h, fun _ h => h⟩)
        exact wpOp_plain rfl rfl (wp_store_mid 33 (.tmp 5) (.tmp 12) rfl b0 0 cS.toArray e1 (hF.done 5 (12, SP.is (.agg cS.toArray)) (by rw [hD]; rfl) (ready_dep hk 5 (by kernel_rfl))) T HSI.out HSO.out ⟨b0, hl2 8, (hT.skip 8 1000 (by rw [hD]; rfl) (by rw [hl]; decide)), below_setCells hb1 (by omega) _, Row.setCells_other rB _ _ _ (by omega), (fun _ => ⟨e1, m1, by rw [if_pos (getD_same (by rw [hl]; decide))]; exact fin⟩), (fun _ => by rw [getD_set _ _ _ (by decide)]; exact hal)⟩)
      · have hk3 := hk
        exact wpOp_plain rfl rfl (wp_assign_v (ac.eval (.tmp 13)) rfl rfl ⟨b0, hl2 9, (hF.put 9 6 (SP.is (.int .i64 22)) (ac.eval (.tmp 13)) (by rw [hD]; rfl) ((hF.done 6 (13, SP.is (.int .i64 22)) (by rw [hD]; rfl) (ready_dep hk 6 (by kernel_rfl)))) (by rw [hD]; rfl) (by rw [hsz]; decide) (by rw [hl]; decide)), hb1, rB, (fun h => ⟨(eval_put_other ac _ (by decide)).trans ((al7 (by rwa [getD_set _ _ _ (by decide)] at h)).1), (al7 (by rwa [getD_set _ _ _ (by decide)] at h)).2.1, by rw [getD_set _ _ _ (by decide)]; exact (al7 (by rwa [getD_set _ _ _ (by decide)] at h)).2.2⟩), (fun h => by rw [getD_set _ _ _ (by decide)]; exact as7 (by rwa [getD_set _ _ _ (by decide)] at h))⟩)
    · clear hb1 rB 
      intro listed ac W hI hr
      obtain ⟨b0, hl, hF, hb1, rB, al7, as7⟩ := hI
      have hall := all_listed (by kernel_rfl) hl hr
      obtain ⟨ea5, m5, p5⟩ := al7 (hall 7 (by decide))
      rw [if_pos (hall 8 (by decide))] at p5
      have h8 : ac.eval (.tmp 8) = .pointer (some ⟨q, 0, none⟩) := hF.done 0 (8, SP.is (.pointer (some ⟨q, 0, none⟩))) (by rw [hD]; rfl) (hall 0 (by decide))
      have h9 : ac.eval (.tmp 9) = .agg cH.toArray := hF.done 1 (9, SP.is (.agg cH.toArray)) (by rw [hD]; rfl) (hall 1 (by decide))
      have h10 : ac.eval (.tmp 10) = .agg cM.toArray := hF.done 2 (10, SP.is (.agg cM.toArray)) (by rw [hD]; rfl) (hall 2 (by decide))
      have h11 : ac.eval (.tmp 11) = .tuple #[.agg cS.toArray, .int .i64 22] := hF.done 3 (11, SP.is (.tuple #[.agg cS.toArray, .int .i64 22])) (by rw [hD]; rfl) (hall 3 (by decide))
      have h7 : ac.eval (.tmp 7) = .tuple #[.agg cS.toArray, .int .i64 22] := hF.done 4 (7, SP.is (.tuple #[.agg cS.toArray, .int .i64 22])) (by rw [hD]; rfl) (hall 4 (by decide))
      have h12 : ac.eval (.tmp 12) = .agg cS.toArray := hF.done 5 (12, SP.is (.agg cS.toArray)) (by rw [hD]; rfl) (hall 5 (by decide))
      have h13 : ac.eval (.tmp 13) = .int .i64 22 := hF.done 6 (13, SP.is (.int .i64 22)) (by rw [hD]; rfl) (hall 6 (by decide))
      have h6 : ac.eval (.tmp 6) = .int .i64 22 := hF.done 9 (6, SP.is (.int .i64 22)) (by rw [hD]; rfl) (hall 9 (by decide))
      have ea := hF.lay [(8, .pointer (some ⟨q, 0, none⟩)), (9, .agg cH.toArray), (10, .agg cM.toArray), (11, .tuple #[.agg cS.toArray, .int .i64 22]), (7, .tuple #[.agg cS.toArray, .int .i64 22]), (12, .agg cS.toArray), (13, .int .i64 22), (5, .pointer (some ⟨b0, 0, none⟩)), (6, .int .i64 22)] (by rw [hD, hsz]; rfl) (by simp only [List.forall_mem_cons, List.not_mem_nil, false_implies, implies_true, and_true]; exact ⟨h8, h9, h10, h11, h7, h12, h13, ea5, h6⟩)
      rw [ha0] at ea
      simp only [List.foldl_cons, List.foldl_nil, List.setIfInBounds_toArray, List.set_cons_zero, List.set_cons_succ] at ea
      clear hF hall hr hl hD al7 as7 zs0 zs3 ha0 hsz h8 h9 h10 h11 h7 h12 h13 ea5 h6
      subst ea
      have HXW : Hid (Rx w W q v l.length s) := HX0.out W hb1
      clear hb1 rB hbB
      go_wp2_with fail
      go_ret
      exact ⟨by rw [HS.out.2]; rfl, by rw [HS.out.1]; exact HXW.out⟩
set_option maxRecDepth 100000 in
set_option maxHeartbeats 4000000 in
theorem rdep_any {w : World} {q : Nat} {v : Value} {l : List Acv} {s : St} (h : Ro w q v l) (hR : Rel l s) (hO : s.Ok) (hn : l.length < 2199023255551) (t : Int) (m : Nat) (hm : m < 2 ^ 256) (s' : St) (E : Int) (hs : sDep s t m = (s', E)) :
    Calls Try.prog 33 #[.pointer (some ⟨q, 0, none⟩), .int .i64 t, .agg (vQ (dgs m 4)).toArray] w fun e w' => e = .returned (.int .i64 E) ∧ Rx w w' q v l.length s' := by
  obtain ⟨cM, hcM⟩ : ∃ c, c = vQ (dgs m 4) := ⟨_, rfl⟩
  have HMI : Hid ((Try.prog.info? 33).map (·.size) = some cM.length) := by show _ = _; rw [hcM]; exact wd4_info m
  have HX0 : Hid (∀ X, Below w.heap.size w X → Rx w X q v l.length s) := fun X k => Rx.same h hR k
  rw [← hcM]
  have HTH : Hid (∀ X, Below w.heap.size w X → Calls Try.prog 55 #[.pointer (some ⟨q, 0, none⟩), .int .i64 t] X fun e w' => e = .returned (.int .i64 (fnd s.T t).2.2) ∧ w' = X) := fun X k => rlE (h.be k) hR t
  have HLS : Hid (∀ X, Below w.heap.size w X → Calls Try.prog 39 #[.pointer (some ⟨q, 0, none⟩), .int .i64 t] X fun e w' => e = .returned (.tuple #[.bool (rl l t).1, .bool (rl l t).2]) ∧ w' = X) := fun X k => rlL (h.be k) t
  unfold sDep at hs
  rcases fnd_E s.T t with ⟨hE, hx⟩ | ⟨hE, h0, h6, hT⟩ | ⟨b, h1, hf, h0, h6, hT⟩
  · rw [hE] at HTH
    have HS : Hid (s' = s ∧ E = 140) := by rw [hE, if_pos (by decide)] at hs; cases hs; exact ⟨rfl, rfl⟩
    clear h hR hs hcM hE hx
    go_enter Try.func33, Try.ntmps33
    go_wp2_with (first
      | (refine wpList_bxG 33 rfl (.tmp 2) rfl cM rfl ?_; intro V1 q1 q2 q3; have R1 : Hid (Row V1 w.heap.size cM 33) := q1; have B1 : Hid (Below w.heap.size w V1) := q2; clear q1 q2 q3; simp only [Act.put, List.setIfInBounds_toArray, List.set_cons_zero, List.set_cons_succ])
      | (go_at_call 55; refine Calls.mono (HTH.out _ B1.out) ?_; rintro e V1 ⟨rfl, rfl⟩))
    go_ret
    exact ⟨by rw [HS.out.2]; rfl, by rw [HS.out.1]; exact HX0.out _ B1.out⟩
  · rw [hE] at HTH
    have HS : Hid (s' = s ∧ E = 141) := by rw [hE, if_pos (by decide)] at hs; cases hs; exact ⟨rfl, rfl⟩
    clear h hR hs hcM hE h0 h6 hT
    go_enter Try.func33, Try.ntmps33
    go_wp2_with (first
      | (refine wpList_bxG 33 rfl (.tmp 2) rfl cM rfl ?_; intro V1 q1 q2 q3; have R1 : Hid (Row V1 w.heap.size cM 33) := q1; have B1 : Hid (Below w.heap.size w V1) := q2; clear q1 q2 q3; simp only [Act.put, List.setIfInBounds_toArray, List.set_cons_zero, List.set_cons_succ])
      | (go_at_call 55; refine Calls.mono (HTH.out _ B1.out) ?_; rintro e V1 ⟨rfl, rfl⟩))
    go_ret
    exact ⟨by rw [HS.out.2]; rfl, by rw [HS.out.1]; exact HX0.out _ B1.out⟩
  rw [hf] at HTH hs
  rw [if_neg (by simp)] at hs
  have htk := hR.t t h0 h6
  rw [hT] at htk
  have e1 : (rl l t).1 = true := by rw [htk.1]
  have e2 : (rl l t).2 = b := by rw [htk.1]
  rw [e1, e2] at HLS
  clear e1 e2
  cases b with
  | true =>
    have HS : Hid (s' = s ∧ E = 143) := by rw [if_pos rfl] at hs; cases hs; exact ⟨rfl, rfl⟩
    clear h hR hs hcM hf h0 h6 hT htk
    go_enter Try.func33, Try.ntmps33
    go_wp2_with (first
      | (refine wpList_bxG 33 rfl (.tmp 2) rfl cM rfl ?_; intro V1 q1 q2 q3; have R1 : Hid (Row V1 w.heap.size cM 33) := q1; have B1 : Hid (Below w.heap.size w V1) := q2; clear q1 q2 q3; simp only [Act.put, List.setIfInBounds_toArray, List.set_cons_zero, List.set_cons_succ])
      | (go_at_call 55; refine Calls.mono (HTH.out _ B1.out) ?_; rintro e V1 ⟨rfl, rfl⟩)
      | (go_at_call 39; refine Calls.mono (HLS.out _ B1.out) ?_; rintro e V1 ⟨rfl, rfl⟩))
    go_ret
    exact ⟨by rw [HS.out.2]; rfl, by rw [HS.out.1]; exact HX0.out _ B1.out⟩
  | false =>
    rw [if_neg (by simp)] at hs
    have hrh : rh l t = h1 := htk.2
    have hh1 : h1 < 2 ^ 256 := fnd_lt hO hf
    by_cases hz : m = 0
    · have HS : Hid (s' = s ∧ E = 144) := by rw [if_pos hz] at hs; cases hs; exact ⟨rfl, rfl⟩
      have HIZ : Hid (∀ W, Calls Try.prog 57 #[.agg cM.toArray] W fun e w' => e = .returned (.bool true) ∧ Below W.heap.size W w') := fun W => refIsZero_e hcM hm (decide_eq_true hz) W
      clear h hR hs hcM hf h0 h6 hT htk hz hrh hh1
      go_enter Try.func33, Try.ntmps33
      go_wp2_with (first
        | (refine wpList_bxG 33 rfl (.tmp 2) rfl cM rfl ?_; intro V1 q1 q2 q3; have R1 : Hid (Row V1 w.heap.size cM 33) := q1; have B1 : Hid (Below w.heap.size w V1) := q2; clear q1 q2 q3; simp only [Act.put, List.setIfInBounds_toArray, List.set_cons_zero, List.set_cons_succ])
        | (go_at_call 55; refine Calls.mono (HTH.out _ B1.out) ?_; rintro e V1 ⟨rfl, rfl⟩)
        | (go_at_call 39; refine Calls.mono (HLS.out _ B1.out) ?_; rintro e V1 ⟨rfl, rfl⟩)
        | (refine wpList_ldS rfl 33 (.tmp 5) rfl w.heap.size 0 rfl cM _ R1.out.all Try.underlying33 rfl HMI.out ?_; simp only [Act.put, List.setIfInBounds_toArray, List.set_cons_zero, List.set_cons_succ])
        | (go_at_call 57; refine Calls.mono (HIZ.out _) ?_; rintro e V2 ⟨rfl, q⟩; have R2 : Hid (Row V2 w.heap.size cM 33) := Row.below R1.out q R1.out.lt; have B2z : Hid (Below w.heap.size w V2) := B1.out.trans (q.mono B1.out.size); clear q R1 B1; have R1 : Hid (Row V2 w.heap.size cM 33) := R2.out; have B1 : Hid (Below w.heap.size w V2) := B2z.out; clear R2 B2z))
      go_ret
      exact ⟨by rw [HS.out.2]; rfl, by rw [HS.out.1]; exact HX0.out _ B1.out⟩
    · have HIZ : Hid (∀ W, Calls Try.prog 57 #[.agg cM.toArray] W fun e w' => e = .returned (.bool false) ∧ Below W.heap.size W w') := fun W => refIsZero_e hcM hm (decide_eq_false hz) W
      rw [if_neg hz] at hs
      obtain ⟨cH, hcH⟩ : ∃ c, c = vQ (dgs h1 4) := ⟨_, rfl⟩
      obtain ⟨cS, hcS⟩ : ∃ c, c = vQ (dgs (addR h1 m) 4) := ⟨_, rfl⟩
      obtain ⟨ae, hae⟩ : ∃ c, c = addE h1 m := ⟨_, rfl⟩
      have HSI : Hid ((Try.prog.info? 33).map (·.size) = some cS.length) := by show _ = _; rw [hcS]; exact wd4_info _
      have HSL : Hid (cS.length = 4) := by show _ = _; rw [hcS, vQ_length, dgs_length]
      have HSO : Hid (cS.toArray.all (·.oneCell') = true) := by show _ = _; rw [hcS]; exact all_one (vQ_one _)
      have HAD : Hid (∀ W, Calls Try.prog 17 #[.agg cH.toArray, .agg cM.toArray] W fun e w' => e = .returned (.tuple #[.agg cS.toArray, .int .i64 ae]) ∧ Below W.heap.size W w') := fun W => by rw [hcH, hcM, hcS, hae]; exact refAdd_c h1 m hh1 hm W
      have HH0 : Hid (∀ X, Below w.heap.size w X → Calls Try.prog 40 #[.pointer (some ⟨q, 0, none⟩), .int .i64 t] X fun e w' => e = .returned (.agg cH.toArray) ∧ Below X.heap.size X w') := fun X k => by rw [hcH, ← hrh]; exact rhL (h.be k) t
      by_cases hlt : h1 + m < 2 ^ 256
      · have hae0 : ae = 0 := by rw [hae]; unfold addE; rw [if_pos hlt]
        have HS : Hid (s' = { s with T := upd s.T t (some (false, addR h1 m)) } ∧ E = 0) := by rw [← hae, hae0, if_neg (by decide)] at hs; cases hs; exact ⟨rfl, rfl⟩
        obtain ⟨R8, hR8⟩ : ∃ R, R = (Acv.mk 3 0 t m).cells := ⟨_, rfl⟩
        have HB : Hid (Try.prog.built tAc [(0, .int .i64 3), (2, .int .i64 t), (3, .agg cM.toArray)] = some R8.toArray) := by show _ = _; rw [hR8, hcM]; exact built_a3 3 t m
        have HDO : Hid (∀ X, Below w.heap.size w X → Calls Try.prog 56 #[.pointer (some ⟨q, 0, none⟩), .agg R8.toArray] X fun e w' => e = .returned (.int .i64 0) ∧ Rx w w' q v l.length s') := fun X k => (do_any (h.be k) ⟨3, 0, t, m⟩ hm hn R8 hR8).mono fun e w' hh => ⟨hh.1, by rw [HS.out.1]; exact Rx.more (hR.dep h0 h6 hT) (Rt.of k hh.2)⟩
        rw [hae0] at HAD
        clear h hR hs hlt hcM hcH hcS hae hae0 hR8 hf h0 h6 hT htk hz hrh hh1
        go_enter Try.func33, Try.ntmps33
        go_upto_region 9 with (first
          | (refine wpList_bxG 33 rfl (.tmp 2) rfl cM rfl ?_; intro V1 q1 q2 q3; have R1 : Hid (Row V1 w.heap.size cM 33) := q1; have B1 : Hid (Below w.heap.size w V1) := q2; clear q1 q2 q3; simp only [Act.put, List.setIfInBounds_toArray, List.set_cons_zero, List.set_cons_succ])
          | (go_at_call 55; refine Calls.mono (HTH.out _ B1.out) ?_; rintro e V1 ⟨rfl, rfl⟩)
          | (go_at_call 39; refine Calls.mono (HLS.out _ B1.out) ?_; rintro e V1 ⟨rfl, rfl⟩)
          | (refine wpList_ldS rfl 33 (.tmp 5) rfl w.heap.size 0 rfl cM _ R1.out.all Try.underlying33 rfl HMI.out ?_; simp only [Act.put, List.setIfInBounds_toArray, List.set_cons_zero, List.set_cons_succ])
          | (go_at_call 57; refine Calls.mono (HIZ.out _) ?_; rintro e V2 ⟨rfl, q⟩; have R2 : Hid (Row V2 w.heap.size cM 33) := Row.below R1.out q R1.out.lt; have B2z : Hid (Below w.heap.size w V2) := B1.out.trans (q.mono B1.out.size); clear q R1 B1; have R1 : Hid (Row V2 w.heap.size cM 33) := R2.out; have B1 : Hid (Below w.heap.size w V2) := B2z.out; clear R2 B2z))
        obtain ⟨bB, hbB⟩ : ∃ b, b = w.heap.size := ⟨_, rfl⟩
        rw [← hbB] at R1 ⊢
        have rB := R1.out
        have hb1 := B1.out
        have HHD : Hid (∀ W, Below w.heap.size w W → Calls Try.prog 40 #[.pointer (some ⟨q, 0, none⟩), .int .i64 t] W fun e w' => e = .returned (.agg cH.toArray) ∧ Below W.heap.size W w') := fun W k => HH0.out W k
        clear R1 HH0 B1
        refine wp_named fun a0 ha0 => ?_
        have hsz : a0.tmps.size = 42 := by rw [ha0]; rfl
        have zs0 : a0.eval (.tmp 0) = .pointer (some ⟨q, 0, none⟩) := by rw [ha0]; rfl
        have zs1 : a0.eval (.tmp 1) = .int .i64 t := by rw [ha0]; rfl
        have zs5 : a0.eval (.tmp 5) = .pointer (some ⟨bB, 0, none⟩) := by rw [ha0]; rfl
        obtain ⟨D, hD⟩ : ∃ D : List (Tmp × SP), D = [(28, SP.is (.pointer (some ⟨q, 0, none⟩))), (29, SP.is (.int .i64 t)), (30, SP.is (.agg cH.toArray)), (31, SP.is (.agg cM.toArray)), (32, SP.is (.tuple #[.agg cS.toArray, .int .i64 0])), (27, SP.is (.tuple #[.agg cS.toArray, .int .i64 0])), (33, SP.is (.agg cS.toArray)), (34, SP.is (.int .i64 0)), (10, SP.any), (1000, SP.any), (11, SP.is (.int .i64 0))] := ⟨_, rfl⟩
        refine wp_region_down (by kernel_rfl) (fun listed ac W => ∃ (b0 : Nat), listed.size = 11 ∧ Fp D a0 listed ac W ∧ Below w.heap.size w W ∧ Row W bB cM 33 ∧ (listed.getD 8 false = true → ac.eval (.tmp 10) = .pointer (some ⟨b0, 0, none⟩) ∧ bB < b0 ∧ Row W b0 (if listed.getD 9 false = true then cS else (vQ (List.replicate 4 0))) 33) ∧ (listed.getD 9 false = true → listed.getD 8 false = true)) ?_ ?_ ?_
        · exact ⟨0, by simp, Fp.start D a0 _ _, Below.drew hb1, Row.drew rB, (fun h => (start_no h).elim), (fun h => (start_no h).elim)⟩
        · clear ha0 hb1 rB 
          intro listed ac W k hI hdn hk
          obtain ⟨b0, hl, hF, hb1, rB, al8, as8⟩ := hI
          have hk1 : k < 11 := List.mem_range.1 (List.mem_filter.1 hk).1
          have hl2 : ∀ j, (listed.setIfInBounds j true).size = 11 := fun j => by rw [Array.size_setIfInBounds]; exact hl
          rcases (show k = 0 ∨ k = 1 ∨ k = 2 ∨ k = 3 ∨ k = 4 ∨ k = 5 ∨ k = 6 ∨ k = 7 ∨ k = 8 ∨ k = 9 ∨ k = 10 by omega) with rfl | rfl | rfl | rfl | rfl | rfl | rfl | rfl | rfl | rfl | rfl
          · have hk3 := hk
            exact wpOp_plain rfl rfl (wp_move_v (ac.eval (.tmp 0)) rfl rfl ⟨b0, hl2 0, (hF.put 0 28 (SP.is (.pointer (some ⟨q, 0, none⟩))) (ac.eval (.tmp 0)) (by rw [hD]; rfl) (((hF.keep 0 (by rw [hD]; rfl)).trans zs0)) (by rw [hD]; rfl) (by rw [hsz]; decide) (by rw [hl]; decide)), hb1, rB, (fun h => ⟨(eval_put_other ac _ (by decide)).trans ((al8 (by rwa [getD_set _ _ _ (by decide)] at h)).1), (al8 (by rwa [getD_set _ _ _ (by decide)] at h)).2.1, by rw [getD_set _ _ _ (by decide)]; exact (al8 (by rwa [getD_set _ _ _ (by decide)] at h)).2.2⟩), (fun h => by rw [getD_set _ _ _ (by decide)]; exact as8 (by rwa [getD_set _ _ _ (by decide)] at h))⟩)
          · have hk3 := hk
            exact wpOp_plain rfl rfl (wp_move_v (ac.eval (.tmp 1)) rfl rfl ⟨b0, hl2 1, (hF.put 1 29 (SP.is (.int .i64 t)) (ac.eval (.tmp 1)) (by rw [hD]; rfl) (((hF.keep 1 (by rw [hD]; rfl)).trans zs1)) (by rw [hD]; rfl) (by rw [hsz]; decide) (by rw [hl]; decide)), hb1, rB, (fun h => ⟨(eval_put_other ac _ (by decide)).trans ((al8 (by rwa [getD_set _ _ _ (by decide)] at h)).1), (al8 (by rwa [getD_set _ _ _ (by decide)] at h)).2.1, by rw [getD_set _ _ _ (by decide)]; exact (al8 (by rwa [getD_set _ _ _ (by decide)] at h)).2.2⟩), (fun h => by rw [getD_set _ _ _ (by decide)]; exact as8 (by rwa [getD_set _ _ _ (by decide)] at h))⟩)
          · have hk3 := hk
            have ea := (hF.done 0 (28, SP.is (.pointer (some ⟨q, 0, none⟩))) (by rw [hD]; rfl) (ready_dep hk 0 (by kernel_rfl)))
            have eb := (hF.done 1 (29, SP.is (.int .i64 t)) (by rw [hD]; rfl) (ready_dep hk 1 (by kernel_rfl)))
            refine wpOp_plain rfl rfl (wp_fcall_v 40 #[.pointer (some ⟨q, 0, none⟩), .int .i64 t] rfl rfl (by show [ac.eval (.tmp 28), ac.eval (.tmp 29)] = _; rw [show ac.eval (.tmp 28) = _ from ea, show ac.eval (.tmp 29) = _ from eb]) (by go_simp) ((HHD.out W hb1).mono ?_))
            rintro e W2 ⟨rfl, hB⟩
            exact ⟨_, rfl, b0, hl2 2, ((hF.world hB).put 2 30 (SP.is (.agg cH.toArray)) (.agg cH.toArray) (by rw [hD]; rfl) rfl (by rw [hD]; rfl) (by rw [hsz]; decide) (by rw [hl]; decide)), hb1.trans (hB.mono hb1.size), Row.below rB hB (Row.lt rB), (fun h => ⟨(eval_put_other ac _ (by decide)).trans ((al8 (by rwa [getD_set _ _ _ (by decide)] at h)).1), (al8 (by rwa [getD_set _ _ _ (by decide)] at h)).2.1, by rw [getD_set _ _ _ (by decide)]; exact Row.below (al8 (by rwa [getD_set _ _ _ (by decide)] at h)).2.2 hB (Row.lt (al8 (by rwa [getD_set _ _ _ (by decide)] at h)).2.2)⟩), (fun h => by rw [getD_set _ _ _ (by decide)]; exact as8 (by rwa [getD_set _ _ _ (by decide)] at h))⟩
          · have hk3 := hk
            exact wpOp_plain rfl rfl (wp_load_mid 33 (.tmp 5) rfl bB 0 ((hF.keep 5 (by rw [hD]; rfl)).trans zs5) cM _ rB.all Try.underlying33 rfl (HMI.out) ⟨b0, hl2 3, (hF.put 3 31 (SP.is (.agg cM.toArray)) (.agg cM.toArray) (by rw [hD]; rfl) rfl (by rw [hD]; rfl) (by rw [hsz]; decide) (by rw [hl]; decide)), hb1, rB, (fun h => ⟨(eval_put_other ac _ (by decide)).trans ((al8 (by rwa [getD_set _ _ _ (by decide)] at h)).1), (al8 (by rwa [getD_set _ _ _ (by decide)] at h)).2.1, by rw [getD_set _ _ _ (by decide)]; exact (al8 (by rwa [getD_set _ _ _ (by decide)] at h)).2.2⟩), (fun h => by rw [getD_set _ _ _ (by decide)]; exact as8 (by rwa [getD_set _ _ _ (by decide)] at h))⟩)
          · have hk3 := hk
            have ea := (hF.done 2 (30, SP.is (.agg cH.toArray)) (by rw [hD]; rfl) (ready_dep hk 2 (by kernel_rfl)))
            have eb := (hF.done 3 (31, SP.is (.agg cM.toArray)) (by rw [hD]; rfl) (ready_dep hk 3 (by kernel_rfl)))
            refine wpOp_plain rfl rfl (wp_fcall_v 17 #[.agg cH.toArray, .agg cM.toArray] rfl rfl (by show [ac.eval (.tmp 30), ac.eval (.tmp 31)] = _; rw [show ac.eval (.tmp 30) = _ from ea, show ac.eval (.tmp 31) = _ from eb]) (by go_simp) ((HAD.out W).mono ?_))
            rintro e W2 ⟨rfl, hB⟩
            exact ⟨_, rfl, b0, hl2 4, ((hF.world hB).put 4 32 (SP.is (.tuple #[.agg cS.toArray, .int .i64 0])) (.tuple #[.agg cS.toArray, .int .i64 0]) (by rw [hD]; rfl) rfl (by rw [hD]; rfl) (by rw [hsz]; decide) (by rw [hl]; decide)), hb1.trans (hB.mono hb1.size), Row.below rB hB (Row.lt rB), (fun h => ⟨(eval_put_other ac _ (by decide)).trans ((al8 (by rwa [getD_set _ _ _ (by decide)] at h)).1), (al8 (by rwa [getD_set _ _ _ (by decide)] at h)).2.1, by rw [getD_set _ _ _ (by decide)]; exact Row.below (al8 (by rwa [getD_set _ _ _ (by decide)] at h)).2.2 hB (Row.lt (al8 (by rwa [getD_set _ _ _ (by decide)] at h)).2.2)⟩), (fun h => by rw [getD_set _ _ _ (by decide)]; exact as8 (by rwa [getD_set _ _ _ (by decide)] at h))⟩
          · have hk3 := hk
            exact wpOp_plain rfl rfl (wp_move_v (ac.eval (.tmp 32)) rfl rfl ⟨b0, hl2 5, (hF.put 5 27 (SP.is (.tuple #[.agg cS.toArray, .int .i64 0])) (ac.eval (.tmp 32)) (by rw [hD]; rfl) ((hF.done 4 (32, SP.is (.tuple #[.agg cS.toArray, .int .i64 0])) (by rw [hD]; rfl) (ready_dep hk 4 (by kernel_rfl)))) (by rw [hD]; rfl) (by rw [hsz]; decide) (by rw [hl]; decide)), hb1, rB, (fun h => ⟨(eval_put_other ac _ (by decide)).trans ((al8 (by rwa [getD_set _ _ _ (by decide)] at h)).1), (al8 (by rwa [getD_set _ _ _ (by decide)] at h)).2.1, by rw [getD_set _ _ _ (by decide)]; exact (al8 (by rwa [getD_set _ _ _ (by decide)] at h)).2.2⟩), (fun h => by rw [getD_set _ _ _ (by decide)]; exact as8 (by rwa [getD_set _ _ _ (by decide)] at h))⟩)
          · have hk3 := hk
            exact wpOp_plain rfl rfl (wp_extract (.tmp 27) 0 rfl _ (hF.done 5 (27, SP.is (.tuple #[.agg cS.toArray, .int .i64 0])) (by rw [hD]; rfl) (ready_dep hk 5 (by kernel_rfl))) _ rfl ⟨b0, hl2 6, (hF.put 6 33 (SP.is (.agg cS.toArray)) (_) (by rw [hD]; rfl) rfl (by rw [hD]; rfl) (by rw [hsz]; decide) (by rw [hl]; decide)), hb1, rB, (fun h => ⟨(eval_put_other ac _ (by decide)).trans ((al8 (by rwa [getD_set _ _ _ (by decide)] at h)).1), (al8 (by rwa [getD_set _ _ _ (by decide)] at h)).2.1, by rw [getD_set _ _ _ (by decide)]; exact (al8 (by rwa [getD_set _ _ _ (by decide)] at h)).2.2⟩), (fun h => by rw [getD_set _ _ _ (by decide)]; exact as8 (by rwa [getD_set _ _ _ (by decide)] at h))⟩)
          · have hk3 := hk
            exact wpOp_plain rfl rfl (wp_extract (.tmp 27) 1 rfl _ (hF.done 5 (27, SP.is (.tuple #[.agg cS.toArray, .int .i64 0])) (by rw [hD]; rfl) (ready_dep hk 5 (by kernel_rfl))) _ rfl ⟨b0, hl2 7, (hF.put 7 34 (SP.is (.int .i64 0)) (_) (by rw [hD]; rfl) rfl (by rw [hD]; rfl) (by rw [hsz]; decide) (by rw [hl]; decide)), hb1, rB, (fun h => ⟨(eval_put_other ac _ (by decide)).trans ((al8 (by rwa [getD_set _ _ _ (by decide)] at h)).1), (al8 (by rwa [getD_set _ _ _ (by decide)] at h)).2.1, by rw [getD_set _ _ _ (by decide)]; exact (al8 (by rwa [getD_set _ _ _ (by decide)] at h)).2.2⟩), (fun h => by rw [getD_set _ _ _ (by decide)]; exact as8 (by rwa [getD_set _ _ _ (by decide)] at h))⟩)
          · have hk3 := hk
            have hsm : bB < W.heap.size := Row.lt rB
            have hB : Below W.heap.size W (W.alloc (Obj.cells (vQ (List.replicate 4 0)).toArray 33)) := (Below.refl _ _).alloc (Nat.le_refl _) _
            have hns : ¬ listed.getD 9 false = true := fun h => not_yet hk (as8 h)
            exact wpOp_plain rfl rfl (wpP_alW rfl ⟨W.heap.size, hl2 8, ((hF.world hB).put 8 10 (SP.any) (.pointer (some ⟨W.heap.size, 0, none⟩)) (by rw [hD]; rfl) trivial (by rw [hD]; rfl) (by rw [hsz]; decide) (by rw [hl]; decide)), hb1.alloc hb1.size _, Row.alloc rB _, (fun _ => ⟨eval_put_same ac _ (by rw [hF.size, hsz]; decide), hsm, by rw [getD_set _ _ _ (by decide), if_neg hns]; exact Row.new' rfl rfl⟩), (fun _ => getD_same (by rw [hl]; decide))⟩)
          · have hk3 := hk
            have hal := ready_dep hk 8 (by kernel_rfl)
            obtain ⟨e1, m1, y2⟩ := al8 hal
            rw [if_neg (not_yet hk)] at y2
            have T := y2.there 0 cS.toArray.size (by rw [List.size_toArray, HSL.out]; decide)
            have fin := y2.over (vs := cS) (by rw [HSL.out]; rfl)
            have hT : Fp D a0 listed ac (W.setCells b0 0 cS) := hF.turn (by rw [hD]; simp only [List.forall_mem_cons, List.not_mem_nil, false_implies, implies_true, and_true]; exact ⟨fun _ h => h, fun _ h => h, fun _ h => h, fun _ h => h, fun _ h => h, fun _ h => h, fun _ h => h, fun _ h => h, fun _ h => h, fun _ h => h, fun _ h => h⟩)
            exact wpOp_plain rfl rfl (wp_store_mid 33 (.tmp 10) (.tmp 33) rfl b0 0 cS.toArray e1 (hF.done 6 (33, SP.is (.agg cS.toArray)) (by rw [hD]; rfl) (ready_dep hk 6 (by kernel_rfl))) T HSI.out HSO.out ⟨b0, hl2 9, (hT.skip 9 1000 (by rw [hD]; rfl) (by rw [hl]; decide)), below_setCells hb1 (by omega) _, Row.setCells_other rB _ _ _ (by omega), (fun _ => ⟨e1, m1, by rw [if_pos (getD_same (by rw [hl]; decide))]; exact fin⟩), (fun _ => by rw [getD_set _ _ _ (by decide)]; exact hal)⟩)
          · have hk3 := hk
            exact wpOp_plain rfl rfl (wp_assign_v (ac.eval (.tmp 34)) rfl rfl ⟨b0, hl2 10, (hF.put 10 11 (SP.is (.int .i64 0)) (ac.eval (.tmp 34)) (by rw [hD]; rfl) ((hF.done 7 (34, SP.is (.int .i64 0)) (by rw [hD]; rfl) (ready_dep hk 7 (by kernel_rfl)))) (by rw [hD]; rfl) (by rw [hsz]; decide) (by rw [hl]; decide)), hb1, rB, (fun h => ⟨(eval_put_other ac _ (by decide)).trans ((al8 (by rwa [getD_set _ _ _ (by decide)] at h)).1), (al8 (by rwa [getD_set _ _ _ (by decide)] at h)).2.1, by rw [getD_set _ _ _ (by decide)]; exact (al8 (by rwa [getD_set _ _ _ (by decide)] at h)).2.2⟩), (fun h => by rw [getD_set _ _ _ (by decide)]; exact as8 (by rwa [getD_set _ _ _ (by decide)] at h))⟩)
        · clear hb1 rB 
          intro listed ac W hI hr
          obtain ⟨b0, hl, hF, hb1, rB, al8, as8⟩ := hI
          have hall := all_listed (by kernel_rfl) hl hr
          obtain ⟨ea10, m10, p10⟩ := al8 (hall 8 (by decide))
          rw [if_pos (hall 9 (by decide))] at p10
          have h28 : ac.eval (.tmp 28) = .pointer (some ⟨q, 0, none⟩) := hF.done 0 (28, SP.is (.pointer (some ⟨q, 0, none⟩))) (by rw [hD]; rfl) (hall 0 (by decide))
          have h29 : ac.eval (.tmp 29) = .int .i64 t := hF.done 1 (29, SP.is (.int .i64 t)) (by rw [hD]; rfl) (hall 1 (by decide))
          have h30 : ac.eval (.tmp 30) = .agg cH.toArray := hF.done 2 (30, SP.is (.agg cH.toArray)) (by rw [hD]; rfl) (hall 2 (by decide))
          have h31 : ac.eval (.tmp 31) = .agg cM.toArray := hF.done 3 (31, SP.is (.agg cM.toArray)) (by rw [hD]; rfl) (hall 3 (by decide))
          have h32 : ac.eval (.tmp 32) = .tuple #[.agg cS.toArray, .int .i64 0] := hF.done 4 (32, SP.is (.tuple #[.agg cS.toArray, .int .i64 0])) (by rw [hD]; rfl) (hall 4 (by decide))
          have h27 : ac.eval (.tmp 27) = .tuple #[.agg cS.toArray, .int .i64 0] := hF.done 5 (27, SP.is (.tuple #[.agg cS.toArray, .int .i64 0])) (by rw [hD]; rfl) (hall 5 (by decide))
          have h33 : ac.eval (.tmp 33) = .agg cS.toArray := hF.done 6 (33, SP.is (.agg cS.toArray)) (by rw [hD]; rfl) (hall 6 (by decide))
          have h34 : ac.eval (.tmp 34) = .int .i64 0 := hF.done 7 (34, SP.is (.int .i64 0)) (by rw [hD]; rfl) (hall 7 (by decide))
          have h11 : ac.eval (.tmp 11) = .int .i64 0 := hF.done 10 (11, SP.is (.int .i64 0)) (by rw [hD]; rfl) (hall 10 (by decide))
          have ea := hF.lay [(28, .pointer (some ⟨q, 0, none⟩)), (29, .int .i64 t), (30, .agg cH.toArray), (31, .agg cM.toArray), (32, .tuple #[.agg cS.toArray, .int .i64 0]), (27, .tuple #[.agg cS.toArray, .int .i64 0]), (33, .agg cS.toArray), (34, .int .i64 0), (10, .pointer (some ⟨b0, 0, none⟩)), (11, .int .i64 0)] (by rw [hD, hsz]; rfl) (by simp only [List.forall_mem_cons, List.not_mem_nil, false_implies, implies_true, and_true]; exact ⟨h28, h29, h30, h31, h32, h27, h33, h34, ea10, h11⟩)
          rw [ha0] at ea
          simp only [List.foldl_cons, List.foldl_nil, List.setIfInBounds_toArray, List.set_cons_zero, List.set_cons_succ] at ea
          clear hF hall hr hl hD al8 as8 zs0 zs1 zs5 ha0 hsz h28 h29 h30 h31 h32 h27 h33 h34 ea10 h11
          subst ea
          have B2 : Hid (Below w.heap.size w W) := hb1
          have RB2 : Hid (Row W bB cM 33) := rB
          clear hb1 rB hbB
          go_wp2_with (first
            | (refine wpList_ldS rfl 33 (.tmp 5) rfl bB 0 rfl cM _ RB2.out.all Try.underlying33 rfl HMI.out ?_; simp only [Act.put, List.setIfInBounds_toArray, List.set_cons_zero, List.set_cons_succ])
            | (refine wpList_blt rfl tAc _ rfl [(0, .int .i64 3), (2, .int .i64 t), (3, .agg cM.toArray)] rfl R8 HB.out ?_; simp only [Act.put, List.setIfInBounds_toArray, List.set_cons_zero, List.set_cons_succ])
            | (go_at_call 56; refine Calls.mono (HDO.out _ B2.out) ?_; rintro e Y ⟨rfl, q⟩; have HX := (show Hid _ from q); clear q))
          go_ret
          exact ⟨by rw [HS.out.2]; rfl, HX.out⟩
      · have hae0 : ae = 22 := by rw [hae]; unfold addE; rw [if_neg hlt]
        have HS : Hid (s' = s ∧ E = 145) := by rw [← hae, hae0, if_pos (by decide)] at hs; cases hs; exact ⟨rfl, rfl⟩
        rw [hae0] at HAD
        clear h hR hs hlt hcM hcH hcS hae hae0 hf h0 h6 hT htk hz hrh hh1
        go_enter Try.func33, Try.ntmps33
        go_upto_region 9 with (first
          | (refine wpList_bxG 33 rfl (.tmp 2) rfl cM rfl ?_; intro V1 q1 q2 q3; have R1 : Hid (Row V1 w.heap.size cM 33) := q1; have B1 : Hid (Below w.heap.size w V1) := q2; clear q1 q2 q3; simp only [Act.put, List.setIfInBounds_toArray, List.set_cons_zero, List.set_cons_succ])
          | (go_at_call 55; refine Calls.mono (HTH.out _ B1.out) ?_; rintro e V1 ⟨rfl, rfl⟩)
          | (go_at_call 39; refine Calls.mono (HLS.out _ B1.out) ?_; rintro e V1 ⟨rfl, rfl⟩)
          | (refine wpList_ldS rfl 33 (.tmp 5) rfl w.heap.size 0 rfl cM _ R1.out.all Try.underlying33 rfl HMI.out ?_; simp only [Act.put, List.setIfInBounds_toArray, List.set_cons_zero, List.set_cons_succ])
          | (go_at_call 57; refine Calls.mono (HIZ.out _) ?_; rintro e V2 ⟨rfl, q⟩; have R2 : Hid (Row V2 w.heap.size cM 33) := Row.below R1.out q R1.out.lt; have B2z : Hid (Below w.heap.size w V2) := B1.out.trans (q.mono B1.out.size); clear q R1 B1; have R1 : Hid (Row V2 w.heap.size cM 33) := R2.out; have B1 : Hid (Below w.heap.size w V2) := B2z.out; clear R2 B2z))
        obtain ⟨bB, hbB⟩ : ∃ b, b = w.heap.size := ⟨_, rfl⟩
        rw [← hbB] at R1 ⊢
        have rB := R1.out
        have hb1 := B1.out
        have HHD : Hid (∀ W, Below w.heap.size w W → Calls Try.prog 40 #[.pointer (some ⟨q, 0, none⟩), .int .i64 t] W fun e w' => e = .returned (.agg cH.toArray) ∧ Below W.heap.size W w') := fun W k => HH0.out W k
        clear R1 HH0 B1
        refine wp_named fun a0 ha0 => ?_
        have hsz : a0.tmps.size = 42 := by rw [ha0]; rfl
        have zs0 : a0.eval (.tmp 0) = .pointer (some ⟨q, 0, none⟩) := by rw [ha0]; rfl
        have zs1 : a0.eval (.tmp 1) = .int .i64 t := by rw [ha0]; rfl
        have zs5 : a0.eval (.tmp 5) = .pointer (some ⟨bB, 0, none⟩) := by rw [ha0]; rfl
        obtain ⟨D, hD⟩ : ∃ D : List (Tmp × SP), D = [(28, SP.is (.pointer (some ⟨q, 0, none⟩))), (29, SP.is (.int .i64 t)), (30, SP.is (.agg cH.toArray)), (31, SP.is (.agg cM.toArray)), (32, SP.is (.tuple #[.agg cS.toArray, .int .i64 22])), (27, SP.is (.tuple #[.agg cS.toArray, .int .i64 22])), (33, SP.is (.agg cS.toArray)), (34, SP.is (.int .i64 22)), (10, SP.any), (1000, SP.any), (11, SP.is (.int .i64 22))] := ⟨_, rfl⟩
        refine wp_region_down (by kernel_rfl) (fun listed ac W => ∃ (b0 : Nat), listed.size = 11 ∧ Fp D a0 listed ac W ∧ Below w.heap.size w W ∧ Row W bB cM 33 ∧ (listed.getD 8 false = true → ac.eval (.tmp 10) = .pointer (some ⟨b0, 0, none⟩) ∧ bB < b0 ∧ Row W b0 (if listed.getD 9 false = true then cS else (vQ (List.replicate 4 0))) 33) ∧ (listed.getD 9 false = true → listed.getD 8 false = true)) ?_ ?_ ?_
        · exact ⟨0, by simp, Fp.start D a0 _ _, Below.drew hb1, Row.drew rB, (fun h => (start_no h).elim), (fun h => (start_no h).elim)⟩
        · clear ha0 hb1 rB 
          intro listed ac W k hI hdn hk
          obtain ⟨b0, hl, hF, hb1, rB, al8, as8⟩ := hI
          have hk1 : k < 11 := List.mem_range.1 (List.mem_filter.1 hk).1
          have hl2 : ∀ j, (listed.setIfInBounds j true).size = 11 := fun j => by rw [Array.size_setIfInBounds]; exact hl
          rcases (show k = 0 ∨ k = 1 ∨ k = 2 ∨ k = 3 ∨ k = 4 ∨ k = 5 ∨ k = 6 ∨ k = 7 ∨ k = 8 ∨ k = 9 ∨ k = 10 by omega) with rfl | rfl | rfl | rfl | rfl | rfl | rfl | rfl | rfl | rfl | rfl
          · have hk3 := hk
            exact wpOp_plain rfl rfl (wp_move_v (ac.eval (.tmp 0)) rfl rfl ⟨b0, hl2 0, (hF.put 0 28 (SP.is (.pointer (some ⟨q, 0, none⟩))) (ac.eval (.tmp 0)) (by rw [hD]; rfl) (((hF.keep 0 (by rw [hD]; rfl)).trans zs0)) (by rw [hD]; rfl) (by rw [hsz]; decide) (by rw [hl]; decide)), hb1, rB, (fun h => ⟨(eval_put_other ac _ (by decide)).trans ((al8 (by rwa [getD_set _ _ _ (by decide)] at h)).1), (al8 (by rwa [getD_set _ _ _ (by decide)] at h)).2.1, by rw [getD_set _ _ _ (by decide)]; exact (al8 (by rwa [getD_set _ _ _ (by decide)] at h)).2.2⟩), (fun h => by rw [getD_set _ _ _ (by decide)]; exact as8 (by rwa [getD_set _ _ _ (by decide)] at h))⟩)
          · have hk3 := hk
            exact wpOp_plain rfl rfl (wp_move_v (ac.eval (.tmp 1)) rfl rfl ⟨b0, hl2 1, (hF.put 1 29 (SP.is (.int .i64 t)) (ac.eval (.tmp 1)) (by rw [hD]; rfl) (((hF.keep 1 (by rw [hD]; rfl)).trans zs1)) (by rw [hD]; rfl) (by rw [hsz]; decide) (by rw [hl]; decide)), hb1, rB, (fun h => ⟨(eval_put_other ac _ (by decide)).trans ((al8 (by rwa [getD_set _ _ _ (by decide)] at h)).1), (al8 (by rwa [getD_set _ _ _ (by decide)] at h)).2.1, by rw [getD_set _ _ _ (by decide)]; exact (al8 (by rwa [getD_set _ _ _ (by decide)] at h)).2.2⟩), (fun h => by rw [getD_set _ _ _ (by decide)]; exact as8 (by rwa [getD_set _ _ _ (by decide)] at h))⟩)
          · have hk3 := hk
            have ea := (hF.done 0 (28, SP.is (.pointer (some ⟨q, 0, none⟩))) (by rw [hD]; rfl) (ready_dep hk 0 (by kernel_rfl)))
            have eb := (hF.done 1 (29, SP.is (.int .i64 t)) (by rw [hD]; rfl) (ready_dep hk 1 (by kernel_rfl)))
            refine wpOp_plain rfl rfl (wp_fcall_v 40 #[.pointer (some ⟨q, 0, none⟩), .int .i64 t] rfl rfl (by show [ac.eval (.tmp 28), ac.eval (.tmp 29)] = _; rw [show ac.eval (.tmp 28) = _ from ea, show ac.eval (.tmp 29) = _ from eb]) (by go_simp) ((HHD.out W hb1).mono ?_))
            rintro e W2 ⟨rfl, hB⟩
            exact ⟨_, rfl, b0, hl2 2, ((hF.world hB).put 2 30 (SP.is (.agg cH.toArray)) (.agg cH.toArray) (by rw [hD]; rfl) rfl (by rw [hD]; rfl) (by rw [hsz]; decide) (by rw [hl]; decide)), hb1.trans (hB.mono hb1.size), Row.below rB hB (Row.lt rB), (fun h => ⟨(eval_put_other ac _ (by decide)).trans ((al8 (by rwa [getD_set _ _ _ (by decide)] at h)).1), (al8 (by rwa [getD_set _ _ _ (by decide)] at h)).2.1, by rw [getD_set _ _ _ (by decide)]; exact Row.below (al8 (by rwa [getD_set _ _ _ (by decide)] at h)).2.2 hB (Row.lt (al8 (by rwa [getD_set _ _ _ (by decide)] at h)).2.2)⟩), (fun h => by rw [getD_set _ _ _ (by decide)]; exact as8 (by rwa [getD_set _ _ _ (by decide)] at h))⟩
          · have hk3 := hk
            exact wpOp_plain rfl rfl (wp_load_mid 33 (.tmp 5) rfl bB 0 ((hF.keep 5 (by rw [hD]; rfl)).trans zs5) cM _ rB.all Try.underlying33 rfl (HMI.out) ⟨b0, hl2 3, (hF.put 3 31 (SP.is (.agg cM.toArray)) (.agg cM.toArray) (by rw [hD]; rfl) rfl (by rw [hD]; rfl) (by rw [hsz]; decide) (by rw [hl]; decide)), hb1, rB, (fun h => ⟨(eval_put_other ac _ (by decide)).trans ((al8 (by rwa [getD_set _ _ _ (by decide)] at h)).1), (al8 (by rwa [getD_set _ _ _ (by decide)] at h)).2.1, by rw [getD_set _ _ _ (by decide)]; exact (al8 (by rwa [getD_set _ _ _ (by decide)] at h)).2.2⟩), (fun h => by rw [getD_set _ _ _ (by decide)]; exact as8 (by rwa [getD_set _ _ _ (by decide)] at h))⟩)
          · have hk3 := hk
            have ea := (hF.done 2 (30, SP.is (.agg cH.toArray)) (by rw [hD]; rfl) (ready_dep hk 2 (by kernel_rfl)))
            have eb := (hF.done 3 (31, SP.is (.agg cM.toArray)) (by rw [hD]; rfl) (ready_dep hk 3 (by kernel_rfl)))
            refine wpOp_plain rfl rfl (wp_fcall_v 17 #[.agg cH.toArray, .agg cM.toArray] rfl rfl (by show [ac.eval (.tmp 30), ac.eval (.tmp 31)] = _; rw [show ac.eval (.tmp 30) = _ from ea, show ac.eval (.tmp 31) = _ from eb]) (by go_simp) ((HAD.out W).mono ?_))
            rintro e W2 ⟨rfl, hB⟩
            exact ⟨_, rfl, b0, hl2 4, ((hF.world hB).put 4 32 (SP.is (.tuple #[.agg cS.toArray, .int .i64 22])) (.tuple #[.agg cS.toArray, .int .i64 22]) (by rw [hD]; rfl) rfl (by rw [hD]; rfl) (by rw [hsz]; decide) (by rw [hl]; decide)), hb1.trans (hB.mono hb1.size), Row.below rB hB (Row.lt rB), (fun h => ⟨(eval_put_other ac _ (by decide)).trans ((al8 (by rwa [getD_set _ _ _ (by decide)] at h)).1), (al8 (by rwa [getD_set _ _ _ (by decide)] at h)).2.1, by rw [getD_set _ _ _ (by decide)]; exact Row.below (al8 (by rwa [getD_set _ _ _ (by decide)] at h)).2.2 hB (Row.lt (al8 (by rwa [getD_set _ _ _ (by decide)] at h)).2.2)⟩), (fun h => by rw [getD_set _ _ _ (by decide)]; exact as8 (by rwa [getD_set _ _ _ (by decide)] at h))⟩
          · have hk3 := hk
            exact wpOp_plain rfl rfl (wp_move_v (ac.eval (.tmp 32)) rfl rfl ⟨b0, hl2 5, (hF.put 5 27 (SP.is (.tuple #[.agg cS.toArray, .int .i64 22])) (ac.eval (.tmp 32)) (by rw [hD]; rfl) ((hF.done 4 (32, SP.is (.tuple #[.agg cS.toArray, .int .i64 22])) (by rw [hD]; rfl) (ready_dep hk 4 (by kernel_rfl)))) (by rw [hD]; rfl) (by rw [hsz]; decide) (by rw [hl]; decide)), hb1, rB, (fun h => ⟨(eval_put_other ac _ (by decide)).trans ((al8 (by rwa [getD_set _ _ _ (by decide)] at h)).1), (al8 (by rwa [getD_set _ _ _ (by decide)] at h)).2.1, by rw [getD_set _ _ _ (by decide)]; exact (al8 (by rwa [getD_set _ _ _ (by decide)] at h)).2.2⟩), (fun h => by rw [getD_set _ _ _ (by decide)]; exact as8 (by rwa [getD_set _ _ _ (by decide)] at h))⟩)
          · have hk3 := hk
            exact wpOp_plain rfl rfl (wp_extract (.tmp 27) 0 rfl _ (hF.done 5 (27, SP.is (.tuple #[.agg cS.toArray, .int .i64 22])) (by rw [hD]; rfl) (ready_dep hk 5 (by kernel_rfl))) _ rfl ⟨b0, hl2 6, (hF.put 6 33 (SP.is (.agg cS.toArray)) (_) (by rw [hD]; rfl) rfl (by rw [hD]; rfl) (by rw [hsz]; decide) (by rw [hl]; decide)), hb1, rB, (fun h => ⟨(eval_put_other ac _ (by decide)).trans ((al8 (by rwa [getD_set _ _ _ (by decide)] at h)).1), (al8 (by rwa [getD_set _ _ _ (by decide)] at h)).2.1, by rw [getD_set _ _ _ (by decide)]; exact (al8 (by rwa [getD_set _ _ _ (by decide)] at h)).2.2⟩), (fun h => by rw [getD_set _ _ _ (by decide)]; exact as8 (by rwa [getD_set _ _ _ (by decide)] at h))⟩)
          · have hk3 := hk
            exact wpOp_plain rfl rfl (wp_extract (.tmp 27) 1 rfl _ (hF.done 5 (27, SP.is (.tuple #[.agg cS.toArray, .int .i64 22])) (by rw [hD]; rfl) (ready_dep hk 5 (by kernel_rfl))) _ rfl ⟨b0, hl2 7, (hF.put 7 34 (SP.is (.int .i64 22)) (_) (by rw [hD]; rfl) rfl (by rw [hD]; rfl) (by rw [hsz]; decide) (by rw [hl]; decide)), hb1, rB, (fun h => ⟨(eval_put_other ac _ (by decide)).trans ((al8 (by rwa [getD_set _ _ _ (by decide)] at h)).1), (al8 (by rwa [getD_set _ _ _ (by decide)] at h)).2.1, by rw [getD_set _ _ _ (by decide)]; exact (al8 (by rwa [getD_set _ _ _ (by decide)] at h)).2.2⟩), (fun h => by rw [getD_set _ _ _ (by decide)]; exact as8 (by rwa [getD_set _ _ _ (by decide)] at h))⟩)
          · have hk3 := hk
            have hsm : bB < W.heap.size := Row.lt rB
            have hB : Below W.heap.size W (W.alloc (Obj.cells (vQ (List.replicate 4 0)).toArray 33)) := (Below.refl _ _).alloc (Nat.le_refl _) _
            have hns : ¬ listed.getD 9 false = true := fun h => not_yet hk (as8 h)
            exact wpOp_plain rfl rfl (wpP_alW rfl ⟨W.heap.size, hl2 8, ((hF.world hB).put 8 10 (SP.any) (.pointer (some ⟨W.heap.size, 0, none⟩)) (by rw [hD]; rfl) trivial (by rw [hD]; rfl) (by rw [hsz]; decide) (by rw [hl]; decide)), hb1.alloc hb1.size _, Row.alloc rB _, (fun _ => ⟨eval_put_same ac _ (by rw [hF.size, hsz]; decide), hsm, by rw [getD_set _ _ _ (by decide), if_neg hns]; exact Row.new' rfl rfl⟩), (fun _ => getD_same (by rw [hl]; decide))⟩)
          · have hk3 := hk
            have hal := ready_dep hk 8 (by kernel_rfl)
            obtain ⟨e1, m1, y2⟩ := al8 hal
            rw [if_neg (not_yet hk)] at y2
            have T := y2.there 0 cS.toArray.size (by rw [List.size_toArray, HSL.out]; decide)
            have fin := y2.over (vs := cS) (by rw [HSL.out]; rfl)
            have hT : Fp D a0 listed ac (W.setCells b0 0 cS) := hF.turn (by rw [hD]; simp only [List.forall_mem_cons, List.not_mem_nil, false_implies, implies_true, and_true]; exact ⟨fun _ h => h, fun _ h => h, fun _ h => h, fun _ h => h, fun _ h => h, fun _ h => h, fun _ h => h, fun _ h => h, fun _ h => h, fun _ h => h, fun _ h => h⟩)
            exact wpOp_plain rfl rfl (wp_store_mid 33 (.tmp 10) (.tmp 33) rfl b0 0 cS.toArray e1 (hF.done 6 (33, SP.is (.agg cS.toArray)) (by rw [hD]; rfl) (ready_dep hk 6 (by kernel_rfl))) T HSI.out HSO.out ⟨b0, hl2 9, (hT.skip 9 1000 (by rw [hD]; rfl) (by rw [hl]; decide)), below_setCells hb1 (by omega) _, Row.setCells_other rB _ _ _ (by omega), (fun _ => ⟨e1, m1, by rw [if_pos (getD_same (by rw [hl]; decide))]; exact fin⟩), (fun _ => by rw [getD_set _ _ _ (by decide)]; exact hal)⟩)
          · have hk3 := hk
            exact wpOp_plain rfl rfl (wp_assign_v (ac.eval (.tmp 34)) rfl rfl ⟨b0, hl2 10, (hF.put 10 11 (SP.is (.int .i64 22)) (ac.eval (.tmp 34)) (by rw [hD]; rfl) ((hF.done 7 (34, SP.is (.int .i64 22)) (by rw [hD]; rfl) (ready_dep hk 7 (by kernel_rfl)))) (by rw [hD]; rfl) (by rw [hsz]; decide) (by rw [hl]; decide)), hb1, rB, (fun h => ⟨(eval_put_other ac _ (by decide)).trans ((al8 (by rwa [getD_set _ _ _ (by decide)] at h)).1), (al8 (by rwa [getD_set _ _ _ (by decide)] at h)).2.1, by rw [getD_set _ _ _ (by decide)]; exact (al8 (by rwa [getD_set _ _ _ (by decide)] at h)).2.2⟩), (fun h => by rw [getD_set _ _ _ (by decide)]; exact as8 (by rwa [getD_set _ _ _ (by decide)] at h))⟩)
        · clear hb1 rB 
          intro listed ac W hI hr
          obtain ⟨b0, hl, hF, hb1, rB, al8, as8⟩ := hI
          have hall := all_listed (by kernel_rfl) hl hr
          obtain ⟨ea10, m10, p10⟩ := al8 (hall 8 (by decide))
          rw [if_pos (hall 9 (by decide))] at p10
          have h28 : ac.eval (.tmp 28) = .pointer (some ⟨q, 0, none⟩) := hF.done 0 (28, SP.is (.pointer (some ⟨q, 0, none⟩))) (by rw [hD]; rfl) (hall 0 (by decide))
          have h29 : ac.eval (.tmp 29) = .int .i64 t := hF.done 1 (29, SP.is (.int .i64 t)) (by rw [hD]; rfl) (hall 1 (by decide))
          have h30 : ac.eval (.tmp 30) = .agg cH.toArray := hF.done 2 (30, SP.is (.agg cH.toArray)) (by rw [hD]; rfl) (hall 2 (by decide))
          have h31 : ac.eval (.tmp 31) = .agg cM.toArray := hF.done 3 (31, SP.is (.agg cM.toArray)) (by rw [hD]; rfl) (hall 3 (by decide))
          have h32 : ac.eval (.tmp 32) = .tuple #[.agg cS.toArray, .int .i64 22] := hF.done 4 (32, SP.is (.tuple #[.agg cS.toArray, .int .i64 22])) (by rw [hD]; rfl) (hall 4 (by decide))
          have h27 : ac.eval (.tmp 27) = .tuple #[.agg cS.toArray, .int .i64 22] := hF.done 5 (27, SP.is (.tuple #[.agg cS.toArray, .int .i64 22])) (by rw [hD]; rfl) (hall 5 (by decide))
          have h33 : ac.eval (.tmp 33) = .agg cS.toArray := hF.done 6 (33, SP.is (.agg cS.toArray)) (by rw [hD]; rfl) (hall 6 (by decide))
          have h34 : ac.eval (.tmp 34) = .int .i64 22 := hF.done 7 (34, SP.is (.int .i64 22)) (by rw [hD]; rfl) (hall 7 (by decide))
          have h11 : ac.eval (.tmp 11) = .int .i64 22 := hF.done 10 (11, SP.is (.int .i64 22)) (by rw [hD]; rfl) (hall 10 (by decide))
          have ea := hF.lay [(28, .pointer (some ⟨q, 0, none⟩)), (29, .int .i64 t), (30, .agg cH.toArray), (31, .agg cM.toArray), (32, .tuple #[.agg cS.toArray, .int .i64 22]), (27, .tuple #[.agg cS.toArray, .int .i64 22]), (33, .agg cS.toArray), (34, .int .i64 22), (10, .pointer (some ⟨b0, 0, none⟩)), (11, .int .i64 22)] (by rw [hD, hsz]; rfl) (by simp only [List.forall_mem_cons, List.not_mem_nil, false_implies, implies_true, and_true]; exact ⟨h28, h29, h30, h31, h32, h27, h33, h34, ea10, h11⟩)
          rw [ha0] at ea
          simp only [List.foldl_cons, List.foldl_nil, List.setIfInBounds_toArray, List.set_cons_zero, List.set_cons_succ] at ea
          clear hF hall hr hl hD al8 as8 zs0 zs1 zs5 ha0 hsz h28 h29 h30 h31 h32 h27 h33 h34 ea10 h11
          subst ea
          have HXW : Hid (Rx w W q v l.length s) := HX0.out W hb1
          clear hb1 rB hbB
          go_wp2_with fail
          go_ret
          exact ⟨by rw [HS.out.2]; rfl, by rw [HS.out.1]; exact HXW.out⟩

end Go.Proofs.Ytkbdnebmekhcdaa
