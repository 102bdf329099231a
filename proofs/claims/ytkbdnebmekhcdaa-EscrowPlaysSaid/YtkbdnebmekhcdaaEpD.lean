/-
  EscrowPlays: the document's Pay.
-/
import Derived.Test.YtkbdnebmekhcdaaEpC
namespace Go.Proofs.Ytkbdnebmekhcdaa
open Go Go.RowKit Go.Maps
open Wd

set_option maxRecDepth 100000 in
set_option maxHeartbeats 4000000 in
theorem rpay_any {w : World} {q : Nat} {v : Value} {l : List Acv} {s : St} (h : Ro w q v l) (hR : Rel l s) (hO : s.Ok) (hn : l.length < 2199023255551) (i t : Int) (m : Nat) (hm : m < 2 ^ 256) (s' : St) (E : Int) (hs : sPay s i t m = (s', E)) :
    Calls Try.prog 34 #[.pointer (some ⟨q, 0, none⟩), .int .i64 i, .int .i64 t, .agg (vQ (dgs m 4)).toArray] w fun e w' => e = .returned (.int .i64 E) ∧ Rx w w' q v l.length s' := by
  obtain ⟨cM, hcM⟩ : ∃ c, c = vQ (dgs m 4) := ⟨_, rfl⟩
  have HMI : Hid ((Try.prog.info? 33).map (·.size) = some cM.length) := by show _ = _; rw [hcM]; exact wd4_info m
  have HX0 : Hid (∀ X, Below w.heap.size w X → Rx w X q v l.length s) := fun X k => Rx.same h hR k
  have HTH : Hid (∀ X, Below w.heap.size w X → Calls Try.prog 55 #[.pointer (some ⟨q, 0, none⟩), .int .i64 t] X fun e w' => e = .returned (.int .i64 (fnd s.T t).2.2) ∧ w' = X) := fun X k => rlE (h.be k) hR t
  have HPA : Hid (∀ X, Below w.heap.size w X → Calls Try.prog 41 #[.pointer (some ⟨q, 0, none⟩), .int .i64 i] X fun e w' => e = .returned (.bool (paid s.U i)) ∧ w' = X) := fun X k => rpL (h.be k) hR i
  rw [← hcM]
  by_cases hi0 : i < 0
  · have HS : Hid (s' = s ∧ E = 148) := by unfold sPay at hs; rw [if_pos (.inl hi0)] at hs; cases hs; exact ⟨rfl, rfl⟩
    clear h hR hs hcM
    go_enter Try.func34, Try.ntmps34
    go_wp2_with (first
      | (refine wpList_bxG 33 rfl (.tmp 3) rfl cM rfl ?_; intro V1 q1 q2 q3; have R1 : Hid (Row V1 w.heap.size cM 33) := q1; have B1 : Hid (Below w.heap.size w V1) := q2; clear q1 q2 q3; simp only [Act.put, List.setIfInBounds_toArray, List.set_cons_zero, List.set_cons_succ]))
    go_ret
    exact ⟨by rw [HS.out.2]; rfl, by rw [HS.out.1]; exact HX0.out _ B1.out⟩
  by_cases hi1 : 1099511627776 ≤ i
  · have HS : Hid (s' = s ∧ E = 148) := by unfold sPay at hs; rw [if_pos (.inr hi1)] at hs; cases hs; exact ⟨rfl, rfl⟩
    clear h hR hs hcM
    go_enter Try.func34, Try.ntmps34
    go_wp2_with (first
      | (refine wpList_bxG 33 rfl (.tmp 3) rfl cM rfl ?_; intro V1 q1 q2 q3; have R1 : Hid (Row V1 w.heap.size cM 33) := q1; have B1 : Hid (Below w.heap.size w V1) := q2; clear q1 q2 q3; simp only [Act.put, List.setIfInBounds_toArray, List.set_cons_zero, List.set_cons_succ]))
    go_ret
    exact ⟨by rw [HS.out.2]; rfl, by rw [HS.out.1]; exact HX0.out _ B1.out⟩
  unfold sPay at hs
  rw [if_neg (by omega)] at hs
  rcases fnd_E s.T t with ⟨hE, hx⟩ | ⟨hE, h0, h6, hT⟩ | ⟨b, h1, hf, h0, h6, hT⟩
  · rw [hE] at HTH
    have HS : Hid (s' = s ∧ E = 140) := by rw [hE, if_pos (by decide)] at hs; cases hs; exact ⟨rfl, rfl⟩
    clear h hR hs hcM hE hx
    go_enter Try.func34, Try.ntmps34
    go_wp2_with (first
      | (refine wpList_bxG 33 rfl (.tmp 3) rfl cM rfl ?_; intro V1 q1 q2 q3; have R1 : Hid (Row V1 w.heap.size cM 33) := q1; have B1 : Hid (Below w.heap.size w V1) := q2; clear q1 q2 q3; simp only [Act.put, List.setIfInBounds_toArray, List.set_cons_zero, List.set_cons_succ])
      | (go_at_call 55; refine Calls.mono (HTH.out _ B1.out) ?_; rintro e V1 ⟨rfl, rfl⟩))
    go_ret
    exact ⟨by rw [HS.out.2]; rfl, by rw [HS.out.1]; exact HX0.out _ B1.out⟩
  · rw [hE] at HTH
    have HS : Hid (s' = s ∧ E = 141) := by rw [hE, if_pos (by decide)] at hs; cases hs; exact ⟨rfl, rfl⟩
    clear h hR hs hcM hE h0 h6 hT
    go_enter Try.func34, Try.ntmps34
    go_wp2_with (first
      | (refine wpList_bxG 33 rfl (.tmp 3) rfl cM rfl ?_; intro V1 q1 q2 q3; have R1 : Hid (Row V1 w.heap.size cM 33) := q1; have B1 : Hid (Below w.heap.size w V1) := q2; clear q1 q2 q3; simp only [Act.put, List.setIfInBounds_toArray, List.set_cons_zero, List.set_cons_succ])
      | (go_at_call 55; refine Calls.mono (HTH.out _ B1.out) ?_; rintro e V1 ⟨rfl, rfl⟩))
    go_ret
    exact ⟨by rw [HS.out.2]; rfl, by rw [HS.out.1]; exact HX0.out _ B1.out⟩
  rw [hf] at HTH hs
  rw [if_neg (by simp)] at hs
  cases hpd : paid s.U i with
  | true =>
    have HS : Hid (s' = s ∧ E = 147) := by rw [if_pos hpd] at hs; cases hs; exact ⟨rfl, rfl⟩
    rw [hpd] at HPA
    clear h hR hs hcM hf h0 h6 hT hpd
    go_enter Try.func34, Try.ntmps34
    go_wp2_with (first
      | (refine wpList_bxG 33 rfl (.tmp 3) rfl cM rfl ?_; intro V1 q1 q2 q3; have R1 : Hid (Row V1 w.heap.size cM 33) := q1; have B1 : Hid (Below w.heap.size w V1) := q2; clear q1 q2 q3; simp only [Act.put, List.setIfInBounds_toArray, List.set_cons_zero, List.set_cons_succ])
      | (go_at_call 55; refine Calls.mono (HTH.out _ B1.out) ?_; rintro e V1 ⟨rfl, rfl⟩)
      | (go_at_call 41; refine Calls.mono (HPA.out _ B1.out) ?_; rintro e V1 ⟨rfl, rfl⟩))
    go_ret
    exact ⟨by rw [HS.out.2]; rfl, by rw [HS.out.1]; exact HX0.out _ B1.out⟩
  | false =>
    rw [if_neg (by rw [hpd]; decide)] at hs
    rw [hpd] at HPA
    have htk := hR.t t h0 h6
    rw [hT] at htk
    have hrh : rh l t = h1 := htk.2
    have hh1 : h1 < 2 ^ 256 := fnd_lt hO hf
    obtain ⟨cH, hcH⟩ : ∃ c, c = vQ (dgs h1 4) := ⟨_, rfl⟩
    obtain ⟨ce, hce⟩ : ∃ c, c = cmpR h1 m := ⟨_, rfl⟩
    have HCM : Hid (∀ W, Calls Try.prog 26 #[.agg cH.toArray, .agg cM.toArray] W fun e w' => e = .returned (.int .i64 ce) ∧ Below W.heap.size W w') := fun W => refCmp_e hcH hcM hh1 hm hce.symm W
    have HH0 : Hid (∀ X, Below w.heap.size w X → Calls Try.prog 40 #[.pointer (some ⟨q, 0, none⟩), .int .i64 t] X fun e w' => e = .returned (.agg cH.toArray) ∧ Below X.heap.size X w') := fun X k => by rw [hcH, ← hrh]; exact rhL (h.be k) t
    by_cases hlt : h1 < m
    · have HLT : Hid (decide (ce < 0) = true) := by show _ = _; rw [hce, cmp_lt]; exact decide_eq_true hlt
      have HS : Hid (s' = s ∧ E = 146) := by unfold subE at hs; rw [if_pos hlt, if_pos (by decide)] at hs; cases hs; exact ⟨rfl, rfl⟩
      clear h hR hs hlt hcM hcH hce hf h0 h6 hT hpd htk hrh hh1
      go_enter Try.func34, Try.ntmps34
      go_upto_region 8 with (first
        | (refine wpList_bxG 33 rfl (.tmp 3) rfl cM rfl ?_; intro V1 q1 q2 q3; have R1 : Hid (Row V1 w.heap.size cM 33) := q1; have B1 : Hid (Below w.heap.size w V1) := q2; clear q1 q2 q3; simp only [Act.put, List.setIfInBounds_toArray, List.set_cons_zero, List.set_cons_succ])
        | (go_at_call 55; refine Calls.mono (HTH.out _ B1.out) ?_; rintro e V1 ⟨rfl, rfl⟩)
        | (go_at_call 41; refine Calls.mono (HPA.out _ B1.out) ?_; rintro e V1 ⟨rfl, rfl⟩))
      obtain ⟨bB, hbB⟩ : ∃ b, b = w.heap.size := ⟨_, rfl⟩
      rw [← hbB] at R1 ⊢
      have rB := R1.out
      have hb1 := Below.refl V1.heap.size V1
      have HHD : Hid (∀ W, Below V1.heap.size V1 W → Calls Try.prog 40 #[.pointer (some ⟨q, 0, none⟩), .int .i64 t] W fun e w' => e = .returned (.agg cH.toArray) ∧ Below W.heap.size W w') := fun W k => HH0.out W (B1.out.trans (k.mono B1.out.size))
      clear R1 hbB HH0
      refine wp_named fun a0 ha0 => ?_
      have hsz : a0.tmps.size = 37 := by rw [ha0]; rfl
      have zs0 : a0.eval (.tmp 0) = .pointer (some ⟨q, 0, none⟩) := by rw [ha0]; rfl
      have zs2 : a0.eval (.tmp 2) = .int .i64 t := by rw [ha0]; rfl
      have zs7 : a0.eval (.tmp 7) = .pointer (some ⟨bB, 0, none⟩) := by rw [ha0]; rfl
      obtain ⟨D, hD⟩ : ∃ D : List (Tmp × SP), D = [(25, SP.is (.pointer (some ⟨q, 0, none⟩))), (26, SP.is (.int .i64 t)), (27, SP.is (.agg cH.toArray)), (28, SP.is (.agg cM.toArray)), (29, SP.is (.int .i64 ce)), (30, SP.is (.bool true))] := ⟨_, rfl⟩
      refine wp_region_down (by kernel_rfl) (fun listed ac W => listed.size = 6 ∧ Fp D a0 listed ac W ∧ Below V1.heap.size V1 W ∧ Row W bB cM 33) ?_ ?_ ?_
      · exact ⟨by simp, Fp.start D a0 _ _, Below.drew hb1, Row.drew rB⟩
      · clear ha0 hb1 rB 
        intro listed ac W k hI hdn hk
        obtain ⟨hl, hF, hb1, rB⟩ := hI
        have hk1 : k < 6 := List.mem_range.1 (List.mem_filter.1 hk).1
        have hl2 : ∀ j, (listed.setIfInBounds j true).size = 6 := fun j => by rw [Array.size_setIfInBounds]; exact hl
        rcases (show k = 0 ∨ k = 1 ∨ k = 2 ∨ k = 3 ∨ k = 4 ∨ k = 5 by omega) with rfl | rfl | rfl | rfl | rfl | rfl
        · have hk3 := hk
          exact wpOp_plain rfl rfl (wp_move_v (ac.eval (.tmp 0)) rfl rfl ⟨hl2 0, (hF.put 0 25 (SP.is (.pointer (some ⟨q, 0, none⟩))) (ac.eval (.tmp 0)) (by rw [hD]; rfl) (((hF.keep 0 (by rw [hD]; rfl)).trans zs0)) (by rw [hD]; rfl) (by rw [hsz]; decide) (by rw [hl]; decide)), hb1, rB⟩)
        · have hk3 := hk
          exact wpOp_plain rfl rfl (wp_move_v (ac.eval (.tmp 2)) rfl rfl ⟨hl2 1, (hF.put 1 26 (SP.is (.int .i64 t)) (ac.eval (.tmp 2)) (by rw [hD]; rfl) (((hF.keep 2 (by rw [hD]; rfl)).trans zs2)) (by rw [hD]; rfl) (by rw [hsz]; decide) (by rw [hl]; decide)), hb1, rB⟩)
        · have hk3 := hk
          have ea := (hF.done 0 (25, SP.is (.pointer (some ⟨q, 0, none⟩))) (by rw [hD]; rfl) (ready_dep hk 0 (by kernel_rfl)))
          have eb := (hF.done 1 (26, SP.is (.int .i64 t)) (by rw [hD]; rfl) (ready_dep hk 1 (by kernel_rfl)))
          refine wpOp_plain rfl rfl (wp_fcall_v 40 #[.pointer (some ⟨q, 0, none⟩), .int .i64 t] rfl rfl (by show [ac.eval (.tmp 25), ac.eval (.tmp 26)] = _; rw [show ac.eval (.tmp 25) = _ from ea, show ac.eval (.tmp 26) = _ from eb]) (by go_simp) ((HHD.out W hb1).mono ?_))
          rintro e W2 ⟨rfl, hB⟩
          exact ⟨_, rfl, hl2 2, ((hF.world hB).put 2 27 (SP.is (.agg cH.toArray)) (.agg cH.toArray) (by rw [hD]; rfl) rfl (by rw [hD]; rfl) (by rw [hsz]; decide) (by rw [hl]; decide)), hb1.trans (hB.mono hb1.size), Row.below rB hB (Row.lt rB)⟩
        · have hk3 := hk
          exact wpOp_plain rfl rfl (wp_load_mid 33 (.tmp 7) rfl bB 0 ((hF.keep 7 (by rw [hD]; rfl)).trans zs7) cM _ rB.all Try.underlying33 rfl (HMI.out) ⟨hl2 3, (hF.put 3 28 (SP.is (.agg cM.toArray)) (.agg cM.toArray) (by rw [hD]; rfl) rfl (by rw [hD]; rfl) (by rw [hsz]; decide) (by rw [hl]; decide)), hb1, rB⟩)
        · have hk3 := hk
          have ea := (hF.done 2 (27, SP.is (.agg cH.toArray)) (by rw [hD]; rfl) (ready_dep hk 2 (by kernel_rfl)))
          have eb := (hF.done 3 (28, SP.is (.agg cM.toArray)) (by rw [hD]; rfl) (ready_dep hk 3 (by kernel_rfl)))
          refine wpOp_plain rfl rfl (wp_fcall_v 26 #[.agg cH.toArray, .agg cM.toArray] rfl rfl (by show [ac.eval (.tmp 27), ac.eval (.tmp 28)] = _; rw [show ac.eval (.tmp 27) = _ from ea, show ac.eval (.tmp 28) = _ from eb]) (by go_simp) ((HCM.out W).mono ?_))
          rintro e W2 ⟨rfl, hB⟩
          exact ⟨_, rfl, hl2 4, ((hF.world hB).put 4 29 (SP.is (.int .i64 ce)) (.int .i64 ce) (by rw [hD]; rfl) rfl (by rw [hD]; rfl) (by rw [hsz]; decide) (by rw [hl]; decide)), hb1.trans (hB.mono hb1.size), Row.below rB hB (Row.lt rB)⟩
        · have hk3 := hk
          have ea := (hF.done 4 (29, SP.is (.int .i64 ce)) (by rw [hD]; rfl) (ready_dep hk 4 (by kernel_rfl)))
          exact wpOp_plain rfl rfl (wpP_lss rfl ce 0 true HLT.out ea rfl ⟨hl2 5, (hF.put 5 30 (SP.is (.bool true)) (.bool true) (by rw [hD]; rfl) rfl (by rw [hD]; rfl) (by rw [hsz]; decide) (by rw [hl]; decide)), hb1, rB⟩)
      · clear hb1 rB 
        intro listed ac W hI hr
        obtain ⟨hl, hF, hb1, rB⟩ := hI
        have hall := all_listed (by kernel_rfl) hl hr
        have h25 : ac.eval (.tmp 25) = .pointer (some ⟨q, 0, none⟩) := hF.done 0 (25, SP.is (.pointer (some ⟨q, 0, none⟩))) (by rw [hD]; rfl) (hall 0 (by decide))
        have h26 : ac.eval (.tmp 26) = .int .i64 t := hF.done 1 (26, SP.is (.int .i64 t)) (by rw [hD]; rfl) (hall 1 (by decide))
        have h27 : ac.eval (.tmp 27) = .agg cH.toArray := hF.done 2 (27, SP.is (.agg cH.toArray)) (by rw [hD]; rfl) (hall 2 (by decide))
        have h28 : ac.eval (.tmp 28) = .agg cM.toArray := hF.done 3 (28, SP.is (.agg cM.toArray)) (by rw [hD]; rfl) (hall 3 (by decide))
        have h29 : ac.eval (.tmp 29) = .int .i64 ce := hF.done 4 (29, SP.is (.int .i64 ce)) (by rw [hD]; rfl) (hall 4 (by decide))
        have h30 : ac.eval (.tmp 30) = .bool true := hF.done 5 (30, SP.is (.bool true)) (by rw [hD]; rfl) (hall 5 (by decide))
        have ea := hF.lay [(25, .pointer (some ⟨q, 0, none⟩)), (26, .int .i64 t), (27, .agg cH.toArray), (28, .agg cM.toArray), (29, .int .i64 ce), (30, .bool true)] (by rw [hD, hsz]; rfl) (by simp only [List.forall_mem_cons, List.not_mem_nil, false_implies, implies_true, and_true]; exact ⟨h25, h26, h27, h28, h29, h30⟩)
        rw [ha0] at ea
        simp only [List.foldl_cons, List.foldl_nil, List.setIfInBounds_toArray, List.set_cons_zero, List.set_cons_succ] at ea
        clear hF hall hr hl hD  zs0 zs2 zs7 ha0 hsz h25 h26 h27 h28 h29 h30
        subst ea
        have HXW : Hid (Rx w W q v l.length s) := HX0.out W (B1.out.trans (hb1.mono B1.out.size))
        clear hb1 rB
        go_wp2_with fail
        go_ret
        exact ⟨by rw [HS.out.2]; rfl, by rw [HS.out.1]; exact HXW.out⟩
    · have HLT : Hid (decide (ce < 0) = false) := by show _ = _; rw [hce, cmp_lt]; exact decide_eq_false hlt
      have HS : Hid (s' = { s with T := upd s.T t (some (b, subR h1 m)), U := puts s.U i } ∧ E = 0) := by unfold subE at hs; rw [if_neg hlt, if_neg (by decide)] at hs; cases hs; exact ⟨rfl, rfl⟩
      obtain ⟨R8, hR8⟩ : ∃ R, R = (Acv.mk 4 i t m).cells := ⟨_, rfl⟩
      have HB : Hid (Try.prog.built tAc [(0, .int .i64 4), (1, .int .i64 i), (2, .int .i64 t), (3, .agg cM.toArray)] = some R8.toArray) := by show _ = _; rw [hR8, hcM]; exact built_a4 4 i t m
      have HDO : Hid (∀ X, Below w.heap.size w X → Calls Try.prog 56 #[.pointer (some ⟨q, 0, none⟩), .agg R8.toArray] X fun e w' => e = .returned (.int .i64 0) ∧ Rx w w' q v l.length s') := fun X k => (do_any (h.be k) ⟨4, i, t, m⟩ hm hn R8 hR8).mono fun e w' hh => ⟨hh.1, by rw [HS.out.1]; exact Rx.more (hR.pay h0 h6 hT) (Rt.of k hh.2)⟩
      clear h hR hs hlt hcM hcH hce hR8 hf h0 h6 hT hpd htk hrh hh1
      go_enter Try.func34, Try.ntmps34
      go_upto_region 8 with (first
        | (refine wpList_bxG 33 rfl (.tmp 3) rfl cM rfl ?_; intro V1 q1 q2 q3; have R1 : Hid (Row V1 w.heap.size cM 33) := q1; have B1 : Hid (Below w.heap.size w V1) := q2; clear q1 q2 q3; simp only [Act.put, List.setIfInBounds_toArray, List.set_cons_zero, List.set_cons_succ])
        | (go_at_call 55; refine Calls.mono (HTH.out _ B1.out) ?_; rintro e V1 ⟨rfl, rfl⟩)
        | (go_at_call 41; refine Calls.mono (HPA.out _ B1.out) ?_; rintro e V1 ⟨rfl, rfl⟩))
      obtain ⟨bB, hbB⟩ : ∃ b, b = w.heap.size := ⟨_, rfl⟩
      rw [← hbB] at R1 ⊢
      have rB := R1.out
      have hb1 := Below.refl V1.heap.size V1
      have HHD : Hid (∀ W, Below V1.heap.size V1 W → Calls Try.prog 40 #[.pointer (some ⟨q, 0, none⟩), .int .i64 t] W fun e w' => e = .returned (.agg cH.toArray) ∧ Below W.heap.size W w') := fun W k => HH0.out W (B1.out.trans (k.mono B1.out.size))
      clear R1 hbB HH0
      refine wp_named fun a0 ha0 => ?_
      have hsz : a0.tmps.size = 37 := by rw [ha0]; rfl
      have zs0 : a0.eval (.tmp 0) = .pointer (some ⟨q, 0, none⟩) := by rw [ha0]; rfl
      have zs2 : a0.eval (.tmp 2) = .int .i64 t := by rw [ha0]; rfl
      have zs7 : a0.eval (.tmp 7) = .pointer (some ⟨bB, 0, none⟩) := by rw [ha0]; rfl
      obtain ⟨D, hD⟩ : ∃ D : List (Tmp × SP), D = [(25, SP.is (.pointer (some ⟨q, 0, none⟩))), (26, SP.is (.int .i64 t)), (27, SP.is (.agg cH.toArray)), (28, SP.is (.agg cM.toArray)), (29, SP.is (.int .i64 ce)), (30, SP.is (.bool false))] := ⟨_, rfl⟩
      refine wp_region_down (by kernel_rfl) (fun listed ac W => listed.size = 6 ∧ Fp D a0 listed ac W ∧ Below V1.heap.size V1 W ∧ Row W bB cM 33) ?_ ?_ ?_
      · exact ⟨by simp, Fp.start D a0 _ _, Below.drew hb1, Row.drew rB⟩
      · clear ha0 hb1 rB 
        intro listed ac W k hI hdn hk
        obtain ⟨hl, hF, hb1, rB⟩ := hI
        have hk1 : k < 6 := List.mem_range.1 (List.mem_filter.1 hk).1
        have hl2 : ∀ j, (listed.setIfInBounds j true).size = 6 := fun j => by rw [Array.size_setIfInBounds]; exact hl
        rcases (show k = 0 ∨ k = 1 ∨ k = 2 ∨ k = 3 ∨ k = 4 ∨ k = 5 by omega) with rfl | rfl | rfl | rfl | rfl | rfl
        · have hk3 := hk
          exact wpOp_plain rfl rfl (wp_move_v (ac.eval (.tmp 0)) rfl rfl ⟨hl2 0, (hF.put 0 25 (SP.is (.pointer (some ⟨q, 0, none⟩))) (ac.eval (.tmp 0)) (by rw [hD]; rfl) (((hF.keep 0 (by rw [hD]; rfl)).trans zs0)) (by rw [hD]; rfl) (by rw [hsz]; decide) (by rw [hl]; decide)), hb1, rB⟩)
        · have hk3 := hk
          exact wpOp_plain rfl rfl (wp_move_v (ac.eval (.tmp 2)) rfl rfl ⟨hl2 1, (hF.put 1 26 (SP.is (.int .i64 t)) (ac.eval (.tmp 2)) (by rw [hD]; rfl) (((hF.keep 2 (by rw [hD]; rfl)).trans zs2)) (by rw [hD]; rfl) (by rw [hsz]; decide) (by rw [hl]; decide)), hb1, rB⟩)
        · have hk3 := hk
          have ea := (hF.done 0 (25, SP.is (.pointer (some ⟨q, 0, none⟩))) (by rw [hD]; rfl) (ready_dep hk 0 (by kernel_rfl)))
          have eb := (hF.done 1 (26, SP.is (.int .i64 t)) (by rw [hD]; rfl) (ready_dep hk 1 (by kernel_rfl)))
          refine wpOp_plain rfl rfl (wp_fcall_v 40 #[.pointer (some ⟨q, 0, none⟩), .int .i64 t] rfl rfl (by show [ac.eval (.tmp 25), ac.eval (.tmp 26)] = _; rw [show ac.eval (.tmp 25) = _ from ea, show ac.eval (.tmp 26) = _ from eb]) (by go_simp) ((HHD.out W hb1).mono ?_))
          rintro e W2 ⟨rfl, hB⟩
          exact ⟨_, rfl, hl2 2, ((hF.world hB).put 2 27 (SP.is (.agg cH.toArray)) (.agg cH.toArray) (by rw [hD]; rfl) rfl (by rw [hD]; rfl) (by rw [hsz]; decide) (by rw [hl]; decide)), hb1.trans (hB.mono hb1.size), Row.below rB hB (Row.lt rB)⟩
        · have hk3 := hk
          exact wpOp_plain rfl rfl (wp_load_mid 33 (.tmp 7) rfl bB 0 ((hF.keep 7 (by rw [hD]; rfl)).trans zs7) cM _ rB.all Try.underlying33 rfl (HMI.out) ⟨hl2 3, (hF.put 3 28 (SP.is (.agg cM.toArray)) (.agg cM.toArray) (by rw [hD]; rfl) rfl (by rw [hD]; rfl) (by rw [hsz]; decide) (by rw [hl]; decide)), hb1, rB⟩)
        · have hk3 := hk
          have ea := (hF.done 2 (27, SP.is (.agg cH.toArray)) (by rw [hD]; rfl) (ready_dep hk 2 (by kernel_rfl)))
          have eb := (hF.done 3 (28, SP.is (.agg cM.toArray)) (by rw [hD]; rfl) (ready_dep hk 3 (by kernel_rfl)))
          refine wpOp_plain rfl rfl (wp_fcall_v 26 #[.agg cH.toArray, .agg cM.toArray] rfl rfl (by show [ac.eval (.tmp 27), ac.eval (.tmp 28)] = _; rw [show ac.eval (.tmp 27) = _ from ea, show ac.eval (.tmp 28) = _ from eb]) (by go_simp) ((HCM.out W).mono ?_))
          rintro e W2 ⟨rfl, hB⟩
          exact ⟨_, rfl, hl2 4, ((hF.world hB).put 4 29 (SP.is (.int .i64 ce)) (.int .i64 ce) (by rw [hD]; rfl) rfl (by rw [hD]; rfl) (by rw [hsz]; decide) (by rw [hl]; decide)), hb1.trans (hB.mono hb1.size), Row.below rB hB (Row.lt rB)⟩
        · have hk3 := hk
          have ea := (hF.done 4 (29, SP.is (.int .i64 ce)) (by rw [hD]; rfl) (ready_dep hk 4 (by kernel_rfl)))
          exact wpOp_plain rfl rfl (wpP_lss rfl ce 0 false HLT.out ea rfl ⟨hl2 5, (hF.put 5 30 (SP.is (.bool false)) (.bool false) (by rw [hD]; rfl) rfl (by rw [hD]; rfl) (by rw [hsz]; decide) (by rw [hl]; decide)), hb1, rB⟩)
      · clear hb1 rB 
        intro listed ac W hI hr
        obtain ⟨hl, hF, hb1, rB⟩ := hI
        have hall := all_listed (by kernel_rfl) hl hr
        have h25 : ac.eval (.tmp 25) = .pointer (some ⟨q, 0, none⟩) := hF.done 0 (25, SP.is (.pointer (some ⟨q, 0, none⟩))) (by rw [hD]; rfl) (hall 0 (by decide))
        have h26 : ac.eval (.tmp 26) = .int .i64 t := hF.done 1 (26, SP.is (.int .i64 t)) (by rw [hD]; rfl) (hall 1 (by decide))
        have h27 : ac.eval (.tmp 27) = .agg cH.toArray := hF.done 2 (27, SP.is (.agg cH.toArray)) (by rw [hD]; rfl) (hall 2 (by decide))
        have h28 : ac.eval (.tmp 28) = .agg cM.toArray := hF.done 3 (28, SP.is (.agg cM.toArray)) (by rw [hD]; rfl) (hall 3 (by decide))
        have h29 : ac.eval (.tmp 29) = .int .i64 ce := hF.done 4 (29, SP.is (.int .i64 ce)) (by rw [hD]; rfl) (hall 4 (by decide))
        have h30 : ac.eval (.tmp 30) = .bool false := hF.done 5 (30, SP.is (.bool false)) (by rw [hD]; rfl) (hall 5 (by decide))
        have ea := hF.lay [(25, .pointer (some ⟨q, 0, none⟩)), (26, .int .i64 t), (27, .agg cH.toArray), (28, .agg cM.toArray), (29, .int .i64 ce), (30, .bool false)] (by rw [hD, hsz]; rfl) (by simp only [List.forall_mem_cons, List.not_mem_nil, false_implies, implies_true, and_true]; exact ⟨h25, h26, h27, h28, h29, h30⟩)
        rw [ha0] at ea
        simp only [List.foldl_cons, List.foldl_nil, List.setIfInBounds_toArray, List.set_cons_zero, List.set_cons_succ] at ea
        clear hF hall hr hl hD  zs0 zs2 zs7 ha0 hsz h25 h26 h27 h28 h29 h30
        subst ea
        have B2 : Hid (Below w.heap.size w W) := B1.out.trans (hb1.mono B1.out.size)
        have RB2 : Hid (Row W bB cM 33) := rB
        clear hb1 rB
        go_wp2_with (first
          | (refine wpList_ldS rfl 33 (.tmp 7) rfl bB 0 rfl cM _ RB2.out.all Try.underlying33 rfl HMI.out ?_; simp only [Act.put, List.setIfInBounds_toArray, List.set_cons_zero, List.set_cons_succ])
          | (refine wpList_blt rfl tAc _ rfl [(0, .int .i64 4), (1, .int .i64 i), (2, .int .i64 t), (3, .agg cM.toArray)] rfl R8 HB.out ?_; simp only [Act.put, List.setIfInBounds_toArray, List.set_cons_zero, List.set_cons_succ])
          | (go_at_call 56; refine Calls.mono (HDO.out _ B2.out) ?_; rintro e Y ⟨rfl, q⟩; have HX := (show Hid _ from q); clear q))
        go_ret
        exact ⟨by rw [HS.out.2]; rfl, HX.out⟩

end Go.Proofs.Ytkbdnebmekhcdaa
