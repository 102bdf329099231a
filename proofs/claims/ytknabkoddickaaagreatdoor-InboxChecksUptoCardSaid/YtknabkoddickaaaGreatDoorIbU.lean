/-
  the document's CheckEntry of an entry that may not be.
-/
import Derived.Test.YtknabkoddickaaaGreatDoorIbG
namespace Go.Proofs.YtknabkoddickaaaGreatDoor
open Go Go.RowKit
open Sha

theorem may_of1 (e : Ev) (hk : e.k = 1) (h : (decide (0 ≤ e.tm) && decide (e.tm ≤ 4611686018427387904)) = true ∧ (decide (0 ≤ e.tk) && decide (e.tk ≤ 63)) = true ∧ (!decide (e.am = List.replicate 4 0)) = true ∧ (decide (0 ≤ e.gs) && decide (e.gs ≤ 1099511627776)) = true ∧ e.d.length = 0) : e.May := by
  simp only [Bool.and_eq_true, decide_eq_true_eq, Bool.not_eq_true', decide_eq_false_iff_not] at h
  exact ⟨h.1.1, h.1.2, .inl ⟨hk, h.2.1.1, h.2.1.2, h.2.2.1, h.2.2.2.1.1, h.2.2.2.1.2, h.2.2.2.2⟩⟩
theorem may_of2 (e : Ev) (hk : e.k = 2) (h : (decide (0 ≤ e.tm) && decide (e.tm ≤ 4611686018427387904)) = true ∧ e.tk = 0 ∧ e.rc = List.replicate 20 0#8 ∧ e.am = List.replicate 4 0 ∧ e.gs = 0 ∧ e.d.length ≤ 4096) : e.May := by
  simp only [Bool.and_eq_true, decide_eq_true_eq] at h
  exact ⟨h.1.1, h.1.2, .inr ⟨hk, h.2⟩⟩
set_option maxRecDepth 100000 in
set_option maxHeartbeats 4000000 in
theorem rcheck_k (e : Ev) (hw : e.Wf) (hk1 : ¬ e.k = 1) (hk2 : ¬ e.k = 2) (A : Option Addr) (n cap : Nat) (hn : e.d.length = n) (L : List Value) (hL : L = e.cells (.slice A n cap)) (w : World) :
    Calls Tryz.prog 35 #[.agg L.toArray] w fun r w' => r = .returned (.int .i64 63) ∧ Below w.heap.size w w' := by
  obtain ⟨k, sd, tm, tk, rc, am, gs, d⟩ := e
  obtain ⟨h1, h2, h3, hq⟩ := hw
  simp only at h1 h2 h3 hn
  have HL : Hid (L = ent k sd tm tk rc am gs (.slice A n cap)) := hL
  have H1 : Hid (sd.length = 20) := h1
  have H2 : Hid (rc.length = 20) := h2
  have H3 : Hid (am.length = 4) := h3
  have HI2 : Hid _ := info_adE rc h2
  have HI3 : Hid _ := info_wdE am h3
  simp only at hk1 hk2
  rcases Bool.eq_false_or_eq_true (decide (0 ≤ tm) && decide (tm ≤ 4611686018427387904)) with hT | hT
  · have HT : Hid ((decide (0 ≤ tm) && decide (tm ≤ 4611686018427387904)) = true) := hT
    clear hT hL h1 h2 h3 hq hn
    go_enter Tryz.func35, Tryz.ntmps35
    go_upto_region 1 with (refine wpList_boxG 46 rfl (.tmp 0) rfl L rfl ?_; intro X1 q1 q2 q3; have R1 : Hid (En X1 w.heap.size k sd tm tk rc am gs (.slice A n cap)) := ⟨(by have := HL.out; subst this; exact q1), H1.out, H2.out, H3.out⟩; have B1 : Hid (Below w.heap.size w X1) := q2; clear q1 q2 q3; simp only [Act.put, List.setIfInBounds_toArray, List.set_cons_zero, List.set_cons_succ])
    obtain ⟨b, hb⟩ : ∃ b, b = w.heap.size := ⟨_, rfl⟩
    rw [← hb] at R1 ⊢
    clear hb
    have ck := R1.out.c_kind
    have ct := R1.out.c_time
    have ctk := R1.out.c_token
    have cg := R1.out.c_gas
    have cb := R1.out.c_body
    go_wp2_with (first
      | (go_at_call 48; refine Calls.mono (rwithin_any _ _ _ X1) ?_; rintro e1 Y ⟨rfl, hqq⟩; obtain rfl := hqq.symm; first | rw [HT.out]))
    go_ret
    exact ⟨rfl, B1.out⟩
  · have HT : Hid ((decide (0 ≤ tm) && decide (tm ≤ 4611686018427387904)) = false) := hT
    clear hT hL h1 h2 h3 hq hn
    go_enter Tryz.func35, Tryz.ntmps35
    go_upto_region 1 with (refine wpList_boxG 46 rfl (.tmp 0) rfl L rfl ?_; intro X1 q1 q2 q3; have R1 : Hid (En X1 w.heap.size k sd tm tk rc am gs (.slice A n cap)) := ⟨(by have := HL.out; subst this; exact q1), H1.out, H2.out, H3.out⟩; have B1 : Hid (Below w.heap.size w X1) := q2; clear q1 q2 q3; simp only [Act.put, List.setIfInBounds_toArray, List.set_cons_zero, List.set_cons_succ])
    obtain ⟨b, hb⟩ : ∃ b, b = w.heap.size := ⟨_, rfl⟩
    rw [← hb] at R1 ⊢
    clear hb
    have ck := R1.out.c_kind
    have ct := R1.out.c_time
    have ctk := R1.out.c_token
    have cg := R1.out.c_gas
    have cb := R1.out.c_body
    go_wp2_with (first
      | (go_at_call 48; refine Calls.mono (rwithin_any _ _ _ X1) ?_; rintro e1 Y ⟨rfl, hqq⟩; obtain rfl := hqq.symm; first | rw [HT.out]))
    go_ret
    exact ⟨rfl, B1.out⟩
set_option maxRecDepth 100000 in
set_option maxHeartbeats 4000000 in
theorem rcheck_n1 (e : Ev) (hw : e.Wf) (hk : e.k = 1) (hm : ¬ e.May) (A : Option Addr) (n cap : Nat) (hn : e.d.length = n) (L : List Value) (hL : L = e.cells (.slice A n cap)) (w : World) :
    Calls Tryz.prog 35 #[.agg L.toArray] w fun r w' => r = .returned (.int .i64 63) ∧ Below w.heap.size w w' := by
  obtain ⟨k, sd, tm, tk, rc, am, gs, d⟩ := e
  obtain ⟨h1, h2, h3, hq⟩ := hw
  simp only at h1 h2 h3 hn
  have HL : Hid (L = ent k sd tm tk rc am gs (.slice A n cap)) := hL
  have H1 : Hid (sd.length = 20) := h1
  have H2 : Hid (rc.length = 20) := h2
  have H3 : Hid (am.length = 4) := h3
  have HI2 : Hid _ := info_adE rc h2
  have HI3 : Hid _ := info_wdE am h3
  obtain rfl : k = 1 := hk
  by_cases c0 : (decide (0 ≤ tm) && decide (tm ≤ 4611686018427387904)) = true
  rotate_left
  · have HT : Hid ((decide (0 ≤ tm) && decide (tm ≤ 4611686018427387904)) = false) := Bool.eq_false_iff.2 c0
    clear c0
    clear hm hL h1 h2 h3 hq hn
    go_enter Tryz.func35, Tryz.ntmps35
    go_upto_region 1 with (refine wpList_boxG 46 rfl (.tmp 0) rfl L rfl ?_; intro X1 q1 q2 q3; have R1 : Hid (En X1 w.heap.size 1 sd tm tk rc am gs (.slice A n cap)) := ⟨(by have := HL.out; subst this; exact q1), H1.out, H2.out, H3.out⟩; have B1 : Hid (Below w.heap.size w X1) := q2; clear q1 q2 q3; simp only [Act.put, List.setIfInBounds_toArray, List.set_cons_zero, List.set_cons_succ])
    obtain ⟨b, hb⟩ : ∃ b, b = w.heap.size := ⟨_, rfl⟩
    rw [← hb] at R1 ⊢
    clear hb
    have ck := R1.out.c_kind
    have ct := R1.out.c_time
    have ctk := R1.out.c_token
    have cg := R1.out.c_gas
    have cb := R1.out.c_body
    go_wp2_with (first
      | (go_at_call 48; refine Calls.mono (rwithin_any _ _ _ X1) ?_; rintro e1 Y ⟨rfl, hqq⟩; obtain rfl := hqq.symm; first | rw [HT.out] | rw [HK.out] | rw [HG.out])
      | (refine wpList_load_w rfl 43 (.tmp 18) rfl b 43 rfl (vQ am) _ R1.out.r_amount Tryz.underlying43 rfl HI3.out ?_; simp only [Act.put, List.setIfInBounds_toArray, List.set_cons_zero, List.set_cons_succ])
      | (refine wpList_buildW0 rfl rfl ?_; simp only [Act.put, List.setIfInBounds_toArray, List.set_cons_zero, List.set_cons_succ])
      | (refine wpList_neq_q rfl (.tmp 19) (.tmp 20) _ rfl am (List.replicate 4 0) H3.out rfl rfl rfl true HA.out ?_; simp only [Act.put, List.setIfInBounds_toArray, List.set_cons_zero, List.set_cons_succ]))
    go_ret
    exact ⟨rfl, B1.out⟩
  have HT : Hid ((decide (0 ≤ tm) && decide (tm ≤ 4611686018427387904)) = true) := c0
  clear c0
  by_cases c1 : (decide (0 ≤ tk) && decide (tk ≤ 63)) = true
  rotate_left
  · have HK : Hid ((decide (0 ≤ tk) && decide (tk ≤ 63)) = false) := Bool.eq_false_iff.2 c1
    clear c1
    clear hm hL h1 h2 h3 hq hn
    go_enter Tryz.func35, Tryz.ntmps35
    go_upto_region 1 with (refine wpList_boxG 46 rfl (.tmp 0) rfl L rfl ?_; intro X1 q1 q2 q3; have R1 : Hid (En X1 w.heap.size 1 sd tm tk rc am gs (.slice A n cap)) := ⟨(by have := HL.out; subst this; exact q1), H1.out, H2.out, H3.out⟩; have B1 : Hid (Below w.heap.size w X1) := q2; clear q1 q2 q3; simp only [Act.put, List.setIfInBounds_toArray, List.set_cons_zero, List.set_cons_succ])
    obtain ⟨b, hb⟩ : ∃ b, b = w.heap.size := ⟨_, rfl⟩
    rw [← hb] at R1 ⊢
    clear hb
    have ck := R1.out.c_kind
    have ct := R1.out.c_time
    have ctk := R1.out.c_token
    have cg := R1.out.c_gas
    have cb := R1.out.c_body
    go_wp2_with (first
      | (go_at_call 48; refine Calls.mono (rwithin_any _ _ _ X1) ?_; rintro e1 Y ⟨rfl, hqq⟩; obtain rfl := hqq.symm; first | rw [HT.out] | rw [HK.out] | rw [HG.out])
      | (refine wpList_load_w rfl 43 (.tmp 18) rfl b 43 rfl (vQ am) _ R1.out.r_amount Tryz.underlying43 rfl HI3.out ?_; simp only [Act.put, List.setIfInBounds_toArray, List.set_cons_zero, List.set_cons_succ])
      | (refine wpList_buildW0 rfl rfl ?_; simp only [Act.put, List.setIfInBounds_toArray, List.set_cons_zero, List.set_cons_succ])
      | (refine wpList_neq_q rfl (.tmp 19) (.tmp 20) _ rfl am (List.replicate 4 0) H3.out rfl rfl rfl true HA.out ?_; simp only [Act.put, List.setIfInBounds_toArray, List.set_cons_zero, List.set_cons_succ]))
    go_ret
    exact ⟨rfl, B1.out⟩
  have HK : Hid ((decide (0 ≤ tk) && decide (tk ≤ 63)) = true) := c1
  clear c1
  by_cases c2 : (!decide (am = List.replicate 4 0)) = true
  rotate_left
  · have HA : Hid ((!decide (am = List.replicate 4 0)) = false) := Bool.eq_false_iff.2 c2
    clear c2
    clear hm hL h1 h2 h3 hq hn
    go_enter Tryz.func35, Tryz.ntmps35
    go_upto_region 1 with (refine wpList_boxG 46 rfl (.tmp 0) rfl L rfl ?_; intro X1 q1 q2 q3; have R1 : Hid (En X1 w.heap.size 1 sd tm tk rc am gs (.slice A n cap)) := ⟨(by have := HL.out; subst this; exact q1), H1.out, H2.out, H3.out⟩; have B1 : Hid (Below w.heap.size w X1) := q2; clear q1 q2 q3; simp only [Act.put, List.setIfInBounds_toArray, List.set_cons_zero, List.set_cons_succ])
    obtain ⟨b, hb⟩ : ∃ b, b = w.heap.size := ⟨_, rfl⟩
    rw [← hb] at R1 ⊢
    clear hb
    have ck := R1.out.c_kind
    have ct := R1.out.c_time
    have ctk := R1.out.c_token
    have cg := R1.out.c_gas
    have cb := R1.out.c_body
    go_wp2_with (first
      | (go_at_call 48; refine Calls.mono (rwithin_any _ _ _ X1) ?_; rintro e1 Y ⟨rfl, hqq⟩; obtain rfl := hqq.symm; first | rw [HT.out] | rw [HK.out] | rw [HG.out])
      | (refine wpList_load_w rfl 43 (.tmp 18) rfl b 43 rfl (vQ am) _ R1.out.r_amount Tryz.underlying43 rfl HI3.out ?_; simp only [Act.put, List.setIfInBounds_toArray, List.set_cons_zero, List.set_cons_succ])
      | (refine wpList_buildW0 rfl rfl ?_; simp only [Act.put, List.setIfInBounds_toArray, List.set_cons_zero, List.set_cons_succ])
      | (refine wpList_neq_q rfl (.tmp 19) (.tmp 20) _ rfl am (List.replicate 4 0) H3.out rfl rfl rfl false HA.out ?_; simp only [Act.put, List.setIfInBounds_toArray, List.set_cons_zero, List.set_cons_succ]))
    go_ret
    exact ⟨rfl, B1.out⟩
  have HA : Hid ((!decide (am = List.replicate 4 0)) = true) := c2
  clear c2
  by_cases c3 : (decide (0 ≤ gs) && decide (gs ≤ 1099511627776)) = true
  rotate_left
  · have HG : Hid ((decide (0 ≤ gs) && decide (gs ≤ 1099511627776)) = false) := Bool.eq_false_iff.2 c3
    clear c3
    clear hm hL h1 h2 h3 hq hn
    go_enter Tryz.func35, Tryz.ntmps35
    go_upto_region 1 with (refine wpList_boxG 46 rfl (.tmp 0) rfl L rfl ?_; intro X1 q1 q2 q3; have R1 : Hid (En X1 w.heap.size 1 sd tm tk rc am gs (.slice A n cap)) := ⟨(by have := HL.out; subst this; exact q1), H1.out, H2.out, H3.out⟩; have B1 : Hid (Below w.heap.size w X1) := q2; clear q1 q2 q3; simp only [Act.put, List.setIfInBounds_toArray, List.set_cons_zero, List.set_cons_succ])
    obtain ⟨b, hb⟩ : ∃ b, b = w.heap.size := ⟨_, rfl⟩
    rw [← hb] at R1 ⊢
    clear hb
    have ck := R1.out.c_kind
    have ct := R1.out.c_time
    have ctk := R1.out.c_token
    have cg := R1.out.c_gas
    have cb := R1.out.c_body
    go_wp2_with (first
      | (go_at_call 48; refine Calls.mono (rwithin_any _ _ _ X1) ?_; rintro e1 Y ⟨rfl, hqq⟩; obtain rfl := hqq.symm; first | rw [HT.out] | rw [HK.out] | rw [HG.out])
      | (refine wpList_load_w rfl 43 (.tmp 18) rfl b 43 rfl (vQ am) _ R1.out.r_amount Tryz.underlying43 rfl HI3.out ?_; simp only [Act.put, List.setIfInBounds_toArray, List.set_cons_zero, List.set_cons_succ])
      | (refine wpList_buildW0 rfl rfl ?_; simp only [Act.put, List.setIfInBounds_toArray, List.set_cons_zero, List.set_cons_succ])
      | (refine wpList_neq_q rfl (.tmp 19) (.tmp 20) _ rfl am (List.replicate 4 0) H3.out rfl rfl rfl true HA.out ?_; simp only [Act.put, List.setIfInBounds_toArray, List.set_cons_zero, List.set_cons_succ]))
    go_ret
    exact ⟨rfl, B1.out⟩
  have HG : Hid ((decide (0 ≤ gs) && decide (gs ≤ 1099511627776)) = true) := c3
  clear c3
  by_cases c4 : (n : Int) = 0
  rotate_left
  · have cz : ¬ ((n : Int) = 0) := c4
    have cy : ((n : Int) == 0) = false := beq_eq_false_iff_ne.2 c4
    clear c4
    clear hm hL h1 h2 h3 hq hn
    go_enter Tryz.func35, Tryz.ntmps35
    go_upto_region 1 with (refine wpList_boxG 46 rfl (.tmp 0) rfl L rfl ?_; intro X1 q1 q2 q3; have R1 : Hid (En X1 w.heap.size 1 sd tm tk rc am gs (.slice A n cap)) := ⟨(by have := HL.out; subst this; exact q1), H1.out, H2.out, H3.out⟩; have B1 : Hid (Below w.heap.size w X1) := q2; clear q1 q2 q3; simp only [Act.put, List.setIfInBounds_toArray, List.set_cons_zero, List.set_cons_succ])
    obtain ⟨b, hb⟩ : ∃ b, b = w.heap.size := ⟨_, rfl⟩
    rw [← hb] at R1 ⊢
    clear hb
    have ck := R1.out.c_kind
    have ct := R1.out.c_time
    have ctk := R1.out.c_token
    have cg := R1.out.c_gas
    have cb := R1.out.c_body
    go_wp2_with (first
      | (go_at_call 48; refine Calls.mono (rwithin_any _ _ _ X1) ?_; rintro e1 Y ⟨rfl, hqq⟩; obtain rfl := hqq.symm; first | rw [HT.out] | rw [HK.out] | rw [HG.out])
      | (refine wpList_load_w rfl 43 (.tmp 18) rfl b 43 rfl (vQ am) _ R1.out.r_amount Tryz.underlying43 rfl HI3.out ?_; simp only [Act.put, List.setIfInBounds_toArray, List.set_cons_zero, List.set_cons_succ])
      | (refine wpList_buildW0 rfl rfl ?_; simp only [Act.put, List.setIfInBounds_toArray, List.set_cons_zero, List.set_cons_succ])
      | (refine wpList_neq_q rfl (.tmp 19) (.tmp 20) _ rfl am (List.replicate 4 0) H3.out rfl rfl rfl true HA.out ?_; simp only [Act.put, List.setIfInBounds_toArray, List.set_cons_zero, List.set_cons_succ]))
    go_ret
    exact ⟨rfl, B1.out⟩
  exact absurd (may_of1 ⟨1, sd, tm, tk, rc, am, gs, d⟩ rfl ⟨HT.out, HK.out, HA.out, HG.out, by show d.length = 0; omega⟩) hm
set_option maxRecDepth 100000 in
set_option maxHeartbeats 4000000 in
theorem rcheck_n2 (e : Ev) (hw : e.Wf) (hk : e.k = 2) (hm : ¬ e.May) (A : Option Addr) (n cap : Nat) (hn : e.d.length = n) (L : List Value) (hL : L = e.cells (.slice A n cap)) (w : World) :
    Calls Tryz.prog 35 #[.agg L.toArray] w fun r w' => r = .returned (.int .i64 63) ∧ Below w.heap.size w w' := by
  obtain ⟨k, sd, tm, tk, rc, am, gs, d⟩ := e
  obtain ⟨h1, h2, h3, hq⟩ := hw
  simp only at h1 h2 h3 hn
  have HL : Hid (L = ent k sd tm tk rc am gs (.slice A n cap)) := hL
  have H1 : Hid (sd.length = 20) := h1
  have H2 : Hid (rc.length = 20) := h2
  have H3 : Hid (am.length = 4) := h3
  have HI2 : Hid _ := info_adE rc h2
  have HI3 : Hid _ := info_wdE am h3
  obtain rfl : k = 2 := hk
  by_cases c0 : (decide (0 ≤ tm) && decide (tm ≤ 4611686018427387904)) = true
  rotate_left
  · have HT : Hid ((decide (0 ≤ tm) && decide (tm ≤ 4611686018427387904)) = false) := Bool.eq_false_iff.2 c0
    clear c0
    clear hm hL h1 h2 h3 hq hn
    go_enter Tryz.func35, Tryz.ntmps35
    go_upto_region 1 with (refine wpList_boxG 46 rfl (.tmp 0) rfl L rfl ?_; intro X1 q1 q2 q3; have R1 : Hid (En X1 w.heap.size 2 sd tm tk rc am gs (.slice A n cap)) := ⟨(by have := HL.out; subst this; exact q1), H1.out, H2.out, H3.out⟩; have B1 : Hid (Below w.heap.size w X1) := q2; clear q1 q2 q3; simp only [Act.put, List.setIfInBounds_toArray, List.set_cons_zero, List.set_cons_succ])
    obtain ⟨b, hb⟩ : ∃ b, b = w.heap.size := ⟨_, rfl⟩
    rw [← hb] at R1 ⊢
    clear hb
    have ck := R1.out.c_kind
    have ct := R1.out.c_time
    have ctk := R1.out.c_token
    have cg := R1.out.c_gas
    have cb := R1.out.c_body
    go_wp2_with (first
      | (go_at_call 48; refine Calls.mono (rwithin_any _ _ _ X1) ?_; rintro e1 Y ⟨rfl, hqq⟩; obtain rfl := hqq.symm; first | rw [HT.out] | rw [HK.out] | rw [HG.out])
      | (refine wpList_load_w rfl 40 (.tmp 43) rfl b 23 rfl (vB rc) _ R1.out.r_to Tryz.underlying40 rfl HI2.out ?_; simp only [Act.put, List.setIfInBounds_toArray, List.set_cons_zero, List.set_cons_succ])
      | (refine wpList_load_w rfl 43 (.tmp 49) rfl b 43 rfl (vQ am) _ R1.out.r_amount Tryz.underlying43 rfl HI3.out ?_; simp only [Act.put, List.setIfInBounds_toArray, List.set_cons_zero, List.set_cons_succ])
      | (refine wpList_buildW0 rfl rfl ?_; simp only [Act.put, List.setIfInBounds_toArray, List.set_cons_zero, List.set_cons_succ])
      | (refine wpList_buildA0 rfl rfl ?_; simp only [Act.put, List.setIfInBounds_toArray, List.set_cons_zero, List.set_cons_succ])
      | (refine wpList_eql_b rfl 40 (.tmp 44) (.tmp 45) _ rfl 5 20 rc (List.replicate 20 0#8) rfl rfl Tryz.underlying40 Tryz.underlying5 info_u8 H2.out rfl guardAE true HRC.out ?_; simp only [Act.put, List.setIfInBounds_toArray, List.set_cons_zero, List.set_cons_succ])
      | (refine wpList_eql_q rfl (.tmp 50) (.tmp 51) _ rfl am (List.replicate 4 0) H3.out rfl rfl rfl true HA.out ?_; simp only [Act.put, List.setIfInBounds_toArray, List.set_cons_zero, List.set_cons_succ]))
    go_ret
    exact ⟨rfl, B1.out⟩
  have HT : Hid ((decide (0 ≤ tm) && decide (tm ≤ 4611686018427387904)) = true) := c0
  clear c0
  by_cases c1 : tk = 0
  rotate_left
  · have cz : ¬ (tk = 0) := c1
    clear c1
    clear hm hL h1 h2 h3 hq hn
    go_enter Tryz.func35, Tryz.ntmps35
    go_upto_region 1 with (refine wpList_boxG 46 rfl (.tmp 0) rfl L rfl ?_; intro X1 q1 q2 q3; have R1 : Hid (En X1 w.heap.size 2 sd tm tk rc am gs (.slice A n cap)) := ⟨(by have := HL.out; subst this; exact q1), H1.out, H2.out, H3.out⟩; have B1 : Hid (Below w.heap.size w X1) := q2; clear q1 q2 q3; simp only [Act.put, List.setIfInBounds_toArray, List.set_cons_zero, List.set_cons_succ])
    obtain ⟨b, hb⟩ : ∃ b, b = w.heap.size := ⟨_, rfl⟩
    rw [← hb] at R1 ⊢
    clear hb
    have ck := R1.out.c_kind
    have ct := R1.out.c_time
    have ctk := R1.out.c_token
    have cg := R1.out.c_gas
    have cb := R1.out.c_body
    go_wp2_with (first
      | (go_at_call 48; refine Calls.mono (rwithin_any _ _ _ X1) ?_; rintro e1 Y ⟨rfl, hqq⟩; obtain rfl := hqq.symm; first | rw [HT.out] | rw [HK.out] | rw [HG.out])
      | (refine wpList_load_w rfl 40 (.tmp 43) rfl b 23 rfl (vB rc) _ R1.out.r_to Tryz.underlying40 rfl HI2.out ?_; simp only [Act.put, List.setIfInBounds_toArray, List.set_cons_zero, List.set_cons_succ])
      | (refine wpList_load_w rfl 43 (.tmp 49) rfl b 43 rfl (vQ am) _ R1.out.r_amount Tryz.underlying43 rfl HI3.out ?_; simp only [Act.put, List.setIfInBounds_toArray, List.set_cons_zero, List.set_cons_succ])
      | (refine wpList_buildW0 rfl rfl ?_; simp only [Act.put, List.setIfInBounds_toArray, List.set_cons_zero, List.set_cons_succ])
      | (refine wpList_buildA0 rfl rfl ?_; simp only [Act.put, List.setIfInBounds_toArray, List.set_cons_zero, List.set_cons_succ])
      | (refine wpList_eql_b rfl 40 (.tmp 44) (.tmp 45) _ rfl 5 20 rc (List.replicate 20 0#8) rfl rfl Tryz.underlying40 Tryz.underlying5 info_u8 H2.out rfl guardAE true HRC.out ?_; simp only [Act.put, List.setIfInBounds_toArray, List.set_cons_zero, List.set_cons_succ])
      | (refine wpList_eql_q rfl (.tmp 50) (.tmp 51) _ rfl am (List.replicate 4 0) H3.out rfl rfl rfl true HA.out ?_; simp only [Act.put, List.setIfInBounds_toArray, List.set_cons_zero, List.set_cons_succ]))
    go_ret
    exact ⟨rfl, B1.out⟩
  obtain rfl : tk = 0 := c1
  by_cases c2 : rc = (List.replicate 20 0#8)
  rotate_left
  · have HRC : Hid (decide (rc = (List.replicate 20 0#8)) = false) := decide_eq_false c2
    clear c2
    clear hm hL h1 h2 h3 hq hn
    go_enter Tryz.func35, Tryz.ntmps35
    go_upto_region 1 with (refine wpList_boxG 46 rfl (.tmp 0) rfl L rfl ?_; intro X1 q1 q2 q3; have R1 : Hid (En X1 w.heap.size 2 sd tm 0 rc am gs (.slice A n cap)) := ⟨(by have := HL.out; subst this; exact q1), H1.out, H2.out, H3.out⟩; have B1 : Hid (Below w.heap.size w X1) := q2; clear q1 q2 q3; simp only [Act.put, List.setIfInBounds_toArray, List.set_cons_zero, List.set_cons_succ])
    obtain ⟨b, hb⟩ : ∃ b, b = w.heap.size := ⟨_, rfl⟩
    rw [← hb] at R1 ⊢
    clear hb
    have ck := R1.out.c_kind
    have ct := R1.out.c_time
    have ctk := R1.out.c_token
    have cg := R1.out.c_gas
    have cb := R1.out.c_body
    go_wp2_with (first
      | (go_at_call 48; refine Calls.mono (rwithin_any _ _ _ X1) ?_; rintro e1 Y ⟨rfl, hqq⟩; obtain rfl := hqq.symm; first | rw [HT.out] | rw [HK.out] | rw [HG.out])
      | (refine wpList_load_w rfl 40 (.tmp 43) rfl b 23 rfl (vB rc) _ R1.out.r_to Tryz.underlying40 rfl HI2.out ?_; simp only [Act.put, List.setIfInBounds_toArray, List.set_cons_zero, List.set_cons_succ])
      | (refine wpList_load_w rfl 43 (.tmp 49) rfl b 43 rfl (vQ am) _ R1.out.r_amount Tryz.underlying43 rfl HI3.out ?_; simp only [Act.put, List.setIfInBounds_toArray, List.set_cons_zero, List.set_cons_succ])
      | (refine wpList_buildW0 rfl rfl ?_; simp only [Act.put, List.setIfInBounds_toArray, List.set_cons_zero, List.set_cons_succ])
      | (refine wpList_buildA0 rfl rfl ?_; simp only [Act.put, List.setIfInBounds_toArray, List.set_cons_zero, List.set_cons_succ])
      | (refine wpList_eql_b rfl 40 (.tmp 44) (.tmp 45) _ rfl 5 20 rc (List.replicate 20 0#8) rfl rfl Tryz.underlying40 Tryz.underlying5 info_u8 H2.out rfl guardAE false HRC.out ?_; simp only [Act.put, List.setIfInBounds_toArray, List.set_cons_zero, List.set_cons_succ])
      | (refine wpList_eql_q rfl (.tmp 50) (.tmp 51) _ rfl am (List.replicate 4 0) H3.out rfl rfl rfl true HA.out ?_; simp only [Act.put, List.setIfInBounds_toArray, List.set_cons_zero, List.set_cons_succ]))
    go_ret
    exact ⟨rfl, B1.out⟩
  have HRC : Hid (decide (rc = (List.replicate 20 0#8)) = true) := decide_eq_true c2
  by_cases c3 : am = (List.replicate 4 0)
  rotate_left
  · have HA : Hid (decide (am = (List.replicate 4 0)) = false) := decide_eq_false c3
    clear c2 c3
    clear hm hL h1 h2 h3 hq hn
    go_enter Tryz.func35, Tryz.ntmps35
    go_upto_region 1 with (refine wpList_boxG 46 rfl (.tmp 0) rfl L rfl ?_; intro X1 q1 q2 q3; have R1 : Hid (En X1 w.heap.size 2 sd tm 0 rc am gs (.slice A n cap)) := ⟨(by have := HL.out; subst this; exact q1), H1.out, H2.out, H3.out⟩; have B1 : Hid (Below w.heap.size w X1) := q2; clear q1 q2 q3; simp only [Act.put, List.setIfInBounds_toArray, List.set_cons_zero, List.set_cons_succ])
    obtain ⟨b, hb⟩ : ∃ b, b = w.heap.size := ⟨_, rfl⟩
    rw [← hb] at R1 ⊢
    clear hb
    have ck := R1.out.c_kind
    have ct := R1.out.c_time
    have ctk := R1.out.c_token
    have cg := R1.out.c_gas
    have cb := R1.out.c_body
    go_wp2_with (first
      | (go_at_call 48; refine Calls.mono (rwithin_any _ _ _ X1) ?_; rintro e1 Y ⟨rfl, hqq⟩; obtain rfl := hqq.symm; first | rw [HT.out] | rw [HK.out] | rw [HG.out])
      | (refine wpList_load_w rfl 40 (.tmp 43) rfl b 23 rfl (vB rc) _ R1.out.r_to Tryz.underlying40 rfl HI2.out ?_; simp only [Act.put, List.setIfInBounds_toArray, List.set_cons_zero, List.set_cons_succ])
      | (refine wpList_load_w rfl 43 (.tmp 49) rfl b 43 rfl (vQ am) _ R1.out.r_amount Tryz.underlying43 rfl HI3.out ?_; simp only [Act.put, List.setIfInBounds_toArray, List.set_cons_zero, List.set_cons_succ])
      | (refine wpList_buildW0 rfl rfl ?_; simp only [Act.put, List.setIfInBounds_toArray, List.set_cons_zero, List.set_cons_succ])
      | (refine wpList_buildA0 rfl rfl ?_; simp only [Act.put, List.setIfInBounds_toArray, List.set_cons_zero, List.set_cons_succ])
      | (refine wpList_eql_b rfl 40 (.tmp 44) (.tmp 45) _ rfl 5 20 rc (List.replicate 20 0#8) rfl rfl Tryz.underlying40 Tryz.underlying5 info_u8 H2.out rfl guardAE true HRC.out ?_; simp only [Act.put, List.setIfInBounds_toArray, List.set_cons_zero, List.set_cons_succ])
      | (refine wpList_eql_q rfl (.tmp 50) (.tmp 51) _ rfl am (List.replicate 4 0) H3.out rfl rfl rfl false HA.out ?_; simp only [Act.put, List.setIfInBounds_toArray, List.set_cons_zero, List.set_cons_succ]))
    go_ret
    exact ⟨rfl, B1.out⟩
  have HA : Hid (decide (am = (List.replicate 4 0)) = true) := decide_eq_true c3
  by_cases c4 : gs = 0
  rotate_left
  · have cz : ¬ (gs = 0) := c4
    clear c2 c3 c4
    clear hm hL h1 h2 h3 hq hn
    go_enter Tryz.func35, Tryz.ntmps35
    go_upto_region 1 with (refine wpList_boxG 46 rfl (.tmp 0) rfl L rfl ?_; intro X1 q1 q2 q3; have R1 : Hid (En X1 w.heap.size 2 sd tm 0 rc am gs (.slice A n cap)) := ⟨(by have := HL.out; subst this; exact q1), H1.out, H2.out, H3.out⟩; have B1 : Hid (Below w.heap.size w X1) := q2; clear q1 q2 q3; simp only [Act.put, List.setIfInBounds_toArray, List.set_cons_zero, List.set_cons_succ])
    obtain ⟨b, hb⟩ : ∃ b, b = w.heap.size := ⟨_, rfl⟩
    rw [← hb] at R1 ⊢
    clear hb
    have ck := R1.out.c_kind
    have ct := R1.out.c_time
    have ctk := R1.out.c_token
    have cg := R1.out.c_gas
    have cb := R1.out.c_body
    go_wp2_with (first
      | (go_at_call 48; refine Calls.mono (rwithin_any _ _ _ X1) ?_; rintro e1 Y ⟨rfl, hqq⟩; obtain rfl := hqq.symm; first | rw [HT.out] | rw [HK.out] | rw [HG.out])
      | (refine wpList_load_w rfl 40 (.tmp 43) rfl b 23 rfl (vB rc) _ R1.out.r_to Tryz.underlying40 rfl HI2.out ?_; simp only [Act.put, List.setIfInBounds_toArray, List.set_cons_zero, List.set_cons_succ])
      | (refine wpList_load_w rfl 43 (.tmp 49) rfl b 43 rfl (vQ am) _ R1.out.r_amount Tryz.underlying43 rfl HI3.out ?_; simp only [Act.put, List.setIfInBounds_toArray, List.set_cons_zero, List.set_cons_succ])
      | (refine wpList_buildW0 rfl rfl ?_; simp only [Act.put, List.setIfInBounds_toArray, List.set_cons_zero, List.set_cons_succ])
      | (refine wpList_buildA0 rfl rfl ?_; simp only [Act.put, List.setIfInBounds_toArray, List.set_cons_zero, List.set_cons_succ])
      | (refine wpList_eql_b rfl 40 (.tmp 44) (.tmp 45) _ rfl 5 20 rc (List.replicate 20 0#8) rfl rfl Tryz.underlying40 Tryz.underlying5 info_u8 H2.out rfl guardAE true HRC.out ?_; simp only [Act.put, List.setIfInBounds_toArray, List.set_cons_zero, List.set_cons_succ])
      | (refine wpList_eql_q rfl (.tmp 50) (.tmp 51) _ rfl am (List.replicate 4 0) H3.out rfl rfl rfl true HA.out ?_; simp only [Act.put, List.setIfInBounds_toArray, List.set_cons_zero, List.set_cons_succ]))
    go_ret
    exact ⟨rfl, B1.out⟩
  obtain rfl : gs = 0 := c4
  by_cases c5 : (n : Int) ≤ 4096
  rotate_left
  · have cz : ¬ ((n : Int) ≤ 4096) := c5
    have cy : decide ((n : Int) ≤ 4096) = false := decide_eq_false c5
    have cx : (4096 : Int) < (n : Int) := by omega
    clear c2 c3 c5
    clear hm hL h1 h2 h3 hq hn
    go_enter Tryz.func35, Tryz.ntmps35
    go_upto_region 1 with (refine wpList_boxG 46 rfl (.tmp 0) rfl L rfl ?_; intro X1 q1 q2 q3; have R1 : Hid (En X1 w.heap.size 2 sd tm 0 rc am 0 (.slice A n cap)) := ⟨(by have := HL.out; subst this; exact q1), H1.out, H2.out, H3.out⟩; have B1 : Hid (Below w.heap.size w X1) := q2; clear q1 q2 q3; simp only [Act.put, List.setIfInBounds_toArray, List.set_cons_zero, List.set_cons_succ])
    obtain ⟨b, hb⟩ : ∃ b, b = w.heap.size := ⟨_, rfl⟩
    rw [← hb] at R1 ⊢
    clear hb
    have ck := R1.out.c_kind
    have ct := R1.out.c_time
    have ctk := R1.out.c_token
    have cg := R1.out.c_gas
    have cb := R1.out.c_body
    go_wp2_with (first
      | (go_at_call 48; refine Calls.mono (rwithin_any _ _ _ X1) ?_; rintro e1 Y ⟨rfl, hqq⟩; obtain rfl := hqq.symm; first | rw [HT.out] | rw [HK.out] | rw [HG.out])
      | (refine wpList_load_w rfl 40 (.tmp 43) rfl b 23 rfl (vB rc) _ R1.out.r_to Tryz.underlying40 rfl HI2.out ?_; simp only [Act.put, List.setIfInBounds_toArray, List.set_cons_zero, List.set_cons_succ])
      | (refine wpList_load_w rfl 43 (.tmp 49) rfl b 43 rfl (vQ am) _ R1.out.r_amount Tryz.underlying43 rfl HI3.out ?_; simp only [Act.put, List.setIfInBounds_toArray, List.set_cons_zero, List.set_cons_succ])
      | (refine wpList_buildW0 rfl rfl ?_; simp only [Act.put, List.setIfInBounds_toArray, List.set_cons_zero, List.set_cons_succ])
      | (refine wpList_buildA0 rfl rfl ?_; simp only [Act.put, List.setIfInBounds_toArray, List.set_cons_zero, List.set_cons_succ])
      | (refine wpList_eql_b rfl 40 (.tmp 44) (.tmp 45) _ rfl 5 20 rc (List.replicate 20 0#8) rfl rfl Tryz.underlying40 Tryz.underlying5 info_u8 H2.out rfl guardAE true HRC.out ?_; simp only [Act.put, List.setIfInBounds_toArray, List.set_cons_zero, List.set_cons_succ])
      | (refine wpList_eql_q rfl (.tmp 50) (.tmp 51) _ rfl am (List.replicate 4 0) H3.out rfl rfl rfl true HA.out ?_; simp only [Act.put, List.setIfInBounds_toArray, List.set_cons_zero, List.set_cons_succ]))
    go_ret
    exact ⟨rfl, B1.out⟩
  exact absurd (may_of2 ⟨2, sd, tm, 0, rc, am, 0, d⟩ rfl ⟨HT.out, rfl, c2, c3, rfl, by show d.length ≤ 4096; omega⟩) hm
theorem rcheck_no (e : Ev) (hw : e.Wf) (hm : ¬ e.May) (A : Option Addr) (n cap : Nat) (hn : e.d.length = n) (L : List Value) (hL : L = e.cells (.slice A n cap)) (w : World) :
    Calls Tryz.prog 35 #[.agg L.toArray] w fun r w' => r = .returned (.int .i64 63) ∧ Below w.heap.size w w' := by
  by_cases h1 : e.k = 1
  · exact rcheck_n1 e hw h1 hm A n cap hn L hL w
  · by_cases h2 : e.k = 2
    · exact rcheck_n2 e hw h2 hm A n cap hn L hL w
    · exact rcheck_k e hw h1 h2 A n cap hn L hL w

end Go.Proofs.YtknabkoddickaaaGreatDoor
