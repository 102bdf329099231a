/-
  the inbox: Check of entries that may be, one behind the other.
-/
import Derived.Test.YtmfmdlaeflahlaaGreatDoorIbK

namespace Go.Proofs.YtmfmdlaeflahlaaGreatDoor
open Go Go.RowKit
open Sha

/-- Each entry may be, and none is below the one ahead of it. -/
structure Okr (es : List Ev) : Prop where
  ok : ∀ e ∈ es, e.Wf ∧ e.May
  up : ∀ (i : Nat) (e : Ev), es[i]? = some e → ¬ e.tm < ltm es i
theorem Okr.wf {es : List Ev} (h : Okr es) {i : Nat} {e : Ev} (he : es[i]? = some e) : e.Wf ∧ e.May := h.ok e (List.mem_of_getElem? he)
theorem ltm_take (es : List Ev) (i : Nat) : ltm (es.take i) i = ltm es i := by
  cases i with
  | zero => rfl
  | succ i => simp only [ltm]; rw [List.getElem?_take_of_lt (by omega)]
theorem info_ents : (Tryz.prog.info? 52).map (·.size) = some 1 := by kernel_rfl
set_option maxRecDepth 100000 in
set_option maxHeartbeats 8000000 in
theorem boxed_any (es : List Ev) (ho : Okr es) (A0 : Option Addr) (N c0 : Nat) (hN : N = es.length) (hNb : N ≤ 100000) (w : World) (hT : Tab w 1) (h0 : EsAt w A0 es) :
    Calls Tryz.prog 24 #[.slice A0 N c0] w fun r w' => ∃ p v, r = .returned (.pointer (some ⟨p, 0, none⟩)) ∧ Bx w w' p v es := by
  have HO : Hid (Okr es) := ho
  have HN : Hid (N = es.length) := hN
  have HT : Hid (∀ X, Below w.heap.size w X → Tab X 1) := fun X k => hT.below k hT.lt
  have HES : Hid (EsAt w A0 es) := h0
  clear ho hN hT h0
  go_enter Tryz.func24, Tryz.ntmps24
  go_upto_region 2 with (go_at_call 10; refine Calls.mono (bnew_any w) ?_; rintro e1 X1 ⟨p, rfl, q⟩; have K1 : Hid (Bx w X1 p (.slice none 0 0) (es.take 0)) := q; clear q)
  go_wp2_with fail
  go_loopw [4] (fun v4 wr => ∃ (i : Nat) (v : Value), i ≤ N ∧ v4 = .int .i64 (i : Int) ∧ Hid (Bx w wr p v (es.take i))) (fun v4 _ => N - (intOf v4).toNat)
  case atStart => exact ⟨0, _, Nat.zero_le _, rfl, K1⟩
  case round =>
    obtain ⟨i, v, hi, rfl, HB⟩ := hrel
    clear K1
    by_cases hlt : i < N
    · obtain ⟨e, he⟩ : ∃ e, es[i]? = some e := ⟨_, List.getElem?_eq_getElem (by have := HN.out; omega)⟩
      obtain ⟨b, o, A', c', hA0, hrg, hsl, hnil⟩ := HES.out i e he
      subst hA0
      obtain ⟨hw, hm⟩ := HO.out.wf he
      obtain ⟨n, hn⟩ : ∃ n, n = e.d.length := ⟨_, rfl⟩
      rw [← hn] at hrg hsl
      obtain ⟨L, hL⟩ : ∃ L, L = e.cells (.slice A' n c') := ⟨_, rfl⟩
      rw [← hL] at hrg
      obtain ⟨q, hq⟩ : ∃ q, q = o + i * 49 := ⟨_, rfl⟩
      have HQ : Hid (o + i * 49 = q) := hq.symm
      rw [← hq] at hrg
      have hl : (es.take i).length = i := by rw [List.length_take]; have := HN.out; omega
      have hte : es.take i ++ [e] = es.take (i + 1) := by rw [List.take_add_one, he]; rfl
      have HIN : Hid (i < N) := hlt
      have HI : Hid ((Tryz.prog.info? 46).map (·.size) = some L.length) := by rw [hL]; exact Ev.info hw _
      have HR : Hid (∀ X, Below w.heap.size w X → X.rangeAt b q L) := fun X k => range_be hrg k
      have HAD : Hid (∀ X, Bx w X p v (es.take i) → Calls Tryz.prog 33 #[.pointer (some ⟨p, 0, none⟩), .agg L.toArray] X fun r w' => r = .returned (.tuple #[.int .i64 (i : Int), .int .i64 0]) ∧ ∃ v', Bx w w' p v' (es.take (i + 1))) := fun X hb => by
        have hup := HO.out.up i e he
        refine (add_ok w p v (es.take i) (by omega) e hw hm (by rw [hl, ltm_take]; exact hup) A' n c' hn.symm hnil L hL X hb (HT.out X hb.be) (hsl.be hb.be)).mono ?_
        rintro r w' ⟨q1, v', q2, _⟩
        rw [hl] at q1
        rw [hte] at q2
        exact ⟨q1, v', q2⟩
      clear he hrg hsl hnil hw hm hn hL hq hl hte
      go_upto_region 8 with (first
        | (refine wpList_ixO 52 46 (.tmp 18) (.tmp 19) rfl b o N c0 i 49 q HQ.out rfl rfl HIN.out Tryz.underlying52 info_ent rfl ?_; simp only [Act.put, List.setIfInBounds_toArray, List.set_cons_zero, List.set_cons_succ])
        | (refine wpList_load_w rfl 46 (.tmp 20) rfl b q rfl L _ (HR.out wr HB.out.be) Tryz.underlying46 rfl HI.out ?_; simp only [Act.put, List.setIfInBounds_toArray, List.set_cons_zero, List.set_cons_succ])
        | (go_at_call 33; refine Calls.mono (HAD.out wr HB.out) ?_; rintro e2 X2 ⟨rfl, v2, q1⟩; have K2 : Hid (Bx w X2 p v2 (es.take (i + 1))) := q1; clear q1))
      clear HAD HR HI HB
      go_wp2_with fail
      go_roundw
      case rel => exact ⟨i + 1, v2, hlt, rfl, K2⟩
      case measure => simp [intOf]; omega
    · obtain rfl : i = N := by omega
      have h1 : ¬ ((i : Int) < (i : Int)) := by omega
      go_wp2
      go_ret
      have hB := HB.out
      rw [HN.out, List.take_length] at hB
      exact ⟨p, rfl, v, hB⟩
theorem wp_notI {P : Program} {Q : Exit → Act → World → Prop} {o : Oper} {a : Act} {w : World} {K : Act → World → Prop} {t : TypeId} {x : Operand} (ho : o.op = .unOp .not t x) (hx : a.eval x = .bool true) (h : K (a.put o.dst (.bool false)) w) : Oper.wp P o a w K Q := by
  unfold Oper.wp execOp
  simp only [ho, hx]
  go_simp
  exact h
set_option maxRecDepth 100000 in
set_option maxHeartbeats 8000000 in
/-- Alike of two lists of the same entries. -/
theorem alike_same (es : List Ev) (ho : ∀ e ∈ es, e.Wf) (A1 A2 : Option Addr) (N c1 c2 : Nat) (hN : N = es.length) (hNb : N ≤ 100000) (w : World) (h1 : EsAt w A1 es) (h2 : EsAt w A2 es) :
    Calls Tryz.prog 29 #[.slice A1 N c1, .slice A2 N c2] w fun r w' => r = .returned (.bool true) ∧ Below w.heap.size w w' := by
  have HO : Hid (∀ e ∈ es, e.Wf) := ho
  have HN : Hid (N = es.length) := hN
  have H1 : Hid (EsAt w A1 es) := h1
  have H2 : Hid (EsAt w A2 es) := h2
  clear ho hN h1 h2
  go_enter Tryz.func29, Tryz.ntmps29
  go_wp2_with fail
  go_loopw [5] (fun v5 wr => ∃ (i : Nat), i ≤ N ∧ v5 = .int .i64 (i : Int) ∧ Hid (Below w.heap.size w wr)) (fun v5 _ => N - (intOf v5).toNat)
  case atStart => exact ⟨0, Nat.zero_le _, rfl, Below.refl _ _⟩
  case round =>
    obtain ⟨i, hi, rfl, HB⟩ := hrel
    by_cases hlt : i < N
    · obtain ⟨e, he⟩ : ∃ e, es[i]? = some e := ⟨_, List.getElem?_eq_getElem (by have := HN.out; omega)⟩
      obtain ⟨b, o, A', c', hA1, hrg, hsl, hnil⟩ := H1.out i e he
      obtain ⟨b2, o2, A2', c2', hA2, hrg2, hsl2, hnil2⟩ := H2.out i e he
      subst hA1 hA2
      have hw := HO.out e (List.mem_of_getElem? he)
      obtain ⟨n, hn⟩ : ∃ n, n = e.d.length := ⟨_, rfl⟩
      rw [← hn] at hrg hsl hrg2 hsl2
      obtain ⟨L, hL⟩ : ∃ L, L = e.cells (.slice A' n c') := ⟨_, rfl⟩
      obtain ⟨M, hM⟩ : ∃ L, L = e.cells (.slice A2' n c2') := ⟨_, rfl⟩
      rw [← hL] at hrg
      rw [← hM] at hrg2
      obtain ⟨q, hq⟩ : ∃ q, q = o + i * 49 := ⟨_, rfl⟩
      obtain ⟨q2, hq2⟩ : ∃ q, q = o2 + i * 49 := ⟨_, rfl⟩
      have HQ : Hid (o + i * 49 = q) := hq.symm
      have HQ2 : Hid (o2 + i * 49 = q2) := hq2.symm
      rw [← hq] at hrg
      rw [← hq2] at hrg2
      have HIN : Hid (i < N) := hlt
      have HI : Hid ((Tryz.prog.info? 46).map (·.size) = some L.length) := by rw [hL]; exact Ev.info hw _
      have HI2 : Hid ((Tryz.prog.info? 46).map (·.size) = some M.length) := by rw [hM]; exact Ev.info hw _
      have HR : Hid (∀ X, Below w.heap.size w X → X.rangeAt b q L) := fun X k => range_be hrg k
      have HR2 : Hid (∀ X, Below w.heap.size w X → X.rangeAt b2 q2 M) := fun X k => range_be hrg2 k
      have HSA : Hid (∀ X, Below w.heap.size w X → Calls Tryz.prog 21 #[.agg L.toArray, .agg M.toArray] X fun r w' => r = .returned (.bool true) ∧ Below X.heap.size X w') := fun X k => rsame_ok e hw A' A2' n c' c2' L M hL hM X (hsl.be k) (hsl2.be k)
      clear he hrg hsl hnil hw hn hL hq hrg2 hsl2 hnil2 hM hq2
      go_upto_region 6 with fail
      have hb1 := Below.refl wr.heap.size wr
      refine wp_named fun a0 ha0 => ?_
      have hsz : a0.tmps.size = 27 := by rw [ha0]; rfl
      have zs0 : a0.eval (.tmp 0) = .slice (some ⟨b, o, none⟩) N c1 := by rw [ha0]; rfl
      have zs1 : a0.eval (.tmp 1) = .slice (some ⟨b2, o2, none⟩) N c2 := by rw [ha0]; rfl
      have zs5 : a0.eval (.tmp 5) = .int .i64 (i : Int) := by rw [ha0]; rfl
      obtain ⟨D, hD⟩ : ∃ D : List (Tmp × SP), D = [(17, SP.is (.slice (some ⟨b, o, none⟩) N c1)), (18, SP.is (.int .i64 (i : Int))), (19, SP.is (.pointer (some ⟨b, q, none⟩))), (20, SP.is (.agg L.toArray)), (21, SP.is (.slice (some ⟨b2, o2, none⟩) N c2)), (22, SP.is (.int .i64 (i : Int))), (23, SP.is (.pointer (some ⟨b2, q2, none⟩))), (24, SP.is (.agg M.toArray)), (25, SP.is (.bool true)), (26, SP.is (.bool false))] := ⟨_, rfl⟩
      refine wp_region_down (by kernel_rfl) (fun listed ac W => listed.size = 10 ∧ Fp D a0 listed ac W ∧ Below wr.heap.size wr W) ?_ ?_ ?_
      · exact ⟨by simp, Fp.start D a0 _ _, Below.drew hb1⟩
      · clear ha0 hb1  
        intro listed ac W k hI hdn hk
        obtain ⟨hl, hF, hb1⟩ := hI
        have hk1 : k < 10 := List.mem_range.1 (List.mem_filter.1 hk).1
        have hl2 : ∀ j, (listed.setIfInBounds j true).size = 10 := fun j => by rw [Array.size_setIfInBounds]; exact hl
        rcases (show k = 0 ∨ k = 1 ∨ k = 2 ∨ k = 3 ∨ k = 4 ∨ k = 5 ∨ k = 6 ∨ k = 7 ∨ k = 8 ∨ k = 9 by omega) with rfl | rfl | rfl | rfl | rfl | rfl | rfl | rfl | rfl | rfl
        · have hk3 := hk
          exact wpOp_plain rfl rfl (wp_move_v (ac.eval (.tmp 0)) rfl rfl ⟨hl2 0, (hF.put 0 17 (SP.is (.slice (some ⟨b, o, none⟩) N c1)) (ac.eval (.tmp 0)) (by rw [hD]; rfl) (((hF.keep 0 (by rw [hD]; rfl)).trans zs0)) (by rw [hD]; rfl) (by rw [hsz]; decide) (by rw [hl]; decide)), hb1⟩)
        · have hk3 := hk
          exact wpOp_plain rfl rfl (wp_move_v (ac.eval (.tmp 5)) rfl rfl ⟨hl2 1, (hF.put 1 18 (SP.is (.int .i64 (i : Int))) (ac.eval (.tmp 5)) (by rw [hD]; rfl) (((hF.keep 5 (by rw [hD]; rfl)).trans zs5)) (by rw [hD]; rfl) (by rw [hsz]; decide) (by rw [hl]; decide)), hb1⟩)
        · have hk3 := hk
          have ea := (hF.done 0 (17, SP.is (.slice (some ⟨b, o, none⟩) N c1)) (by rw [hD]; rfl) (ready_dep hk 0 (by kernel_rfl)))
          have eb := (hF.done 1 (18, SP.is (.int .i64 (i : Int))) (by rw [hD]; rfl) (ready_dep hk 1 (by kernel_rfl)))
          exact wpOp_plain rfl rfl (wp_ixO 52 46 rfl b o N c1 i 49 q HQ.out ea eb HIN.out Tryz.underlying52 info_ent ⟨hl2 2, (hF.put 2 19 (SP.is (.pointer (some ⟨b, q, none⟩))) (.pointer (some ⟨b, q, none⟩)) (by rw [hD]; rfl) rfl (by rw [hD]; rfl) (by rw [hsz]; decide) (by rw [hl]; decide)), hb1⟩)
        · have hk3 := hk
          have ea := (hF.done 2 (19, SP.is (.pointer (some ⟨b, q, none⟩))) (by rw [hD]; rfl) (ready_dep hk 2 (by kernel_rfl)))
          exact wpOp_plain rfl rfl (wp_load_mid 46 (.tmp 19) rfl b q ea L _ (HR.out W (HB.out.trans (hb1.mono HB.out.size))) Tryz.underlying46 rfl HI.out ⟨hl2 3, (hF.put 3 20 (SP.is (.agg L.toArray)) (.agg L.toArray) (by rw [hD]; rfl) rfl (by rw [hD]; rfl) (by rw [hsz]; decide) (by rw [hl]; decide)), hb1⟩)
        · have hk3 := hk
          exact wpOp_plain rfl rfl (wp_move_v (ac.eval (.tmp 1)) rfl rfl ⟨hl2 4, (hF.put 4 21 (SP.is (.slice (some ⟨b2, o2, none⟩) N c2)) (ac.eval (.tmp 1)) (by rw [hD]; rfl) (((hF.keep 1 (by rw [hD]; rfl)).trans zs1)) (by rw [hD]; rfl) (by rw [hsz]; decide) (by rw [hl]; decide)), hb1⟩)
        · have hk3 := hk
          exact wpOp_plain rfl rfl (wp_move_v (ac.eval (.tmp 5)) rfl rfl ⟨hl2 5, (hF.put 5 22 (SP.is (.int .i64 (i : Int))) (ac.eval (.tmp 5)) (by rw [hD]; rfl) (((hF.keep 5 (by rw [hD]; rfl)).trans zs5)) (by rw [hD]; rfl) (by rw [hsz]; decide) (by rw [hl]; decide)), hb1⟩)
        · have hk3 := hk
          have ea := (hF.done 4 (21, SP.is (.slice (some ⟨b2, o2, none⟩) N c2)) (by rw [hD]; rfl) (ready_dep hk 4 (by kernel_rfl)))
          have eb := (hF.done 5 (22, SP.is (.int .i64 (i : Int))) (by rw [hD]; rfl) (ready_dep hk 5 (by kernel_rfl)))
          exact wpOp_plain rfl rfl (wp_ixO 52 46 rfl b2 o2 N c2 i 49 q2 HQ2.out ea eb HIN.out Tryz.underlying52 info_ent ⟨hl2 6, (hF.put 6 23 (SP.is (.pointer (some ⟨b2, q2, none⟩))) (.pointer (some ⟨b2, q2, none⟩)) (by rw [hD]; rfl) rfl (by rw [hD]; rfl) (by rw [hsz]; decide) (by rw [hl]; decide)), hb1⟩)
        · have hk3 := hk
          have ea := (hF.done 6 (23, SP.is (.pointer (some ⟨b2, q2, none⟩))) (by rw [hD]; rfl) (ready_dep hk 6 (by kernel_rfl)))
          exact wpOp_plain rfl rfl (wp_load_mid 46 (.tmp 23) rfl b2 q2 ea M _ (HR2.out W (HB.out.trans (hb1.mono HB.out.size))) Tryz.underlying46 rfl HI2.out ⟨hl2 7, (hF.put 7 24 (SP.is (.agg M.toArray)) (.agg M.toArray) (by rw [hD]; rfl) rfl (by rw [hD]; rfl) (by rw [hsz]; decide) (by rw [hl]; decide)), hb1⟩)
        · have hk3 := hk
          have ea := (hF.done 3 (20, SP.is (.agg L.toArray)) (by rw [hD]; rfl) (ready_dep hk 3 (by kernel_rfl)))
          have eb := (hF.done 7 (24, SP.is (.agg M.toArray)) (by rw [hD]; rfl) (ready_dep hk 7 (by kernel_rfl)))
          refine wpOp_plain rfl rfl (wp_fcall_v 21 #[.agg L.toArray, .agg M.toArray] rfl rfl (by show [ac.eval (.tmp 20), ac.eval (.tmp 24)] = _; rw [show ac.eval (.tmp 20) = _ from ea, show ac.eval (.tmp 24) = _ from eb]) (by go_simp) ((HSA.out W (HB.out.trans (hb1.mono HB.out.size))).mono ?_))
          rintro e W2 ⟨rfl, hB⟩
          exact ⟨_, rfl, hl2 8, ((hF.world hB).put 8 25 (SP.is (.bool true)) (.bool true) (by rw [hD]; rfl) rfl (by rw [hD]; rfl) (by rw [hsz]; decide) (by rw [hl]; decide)), hb1.trans (hB.mono hb1.size)⟩
        · have hk3 := hk
          have ea := (hF.done 8 (25, SP.is (.bool true)) (by rw [hD]; rfl) (ready_dep hk 8 (by kernel_rfl)))
          exact wpOp_plain rfl rfl (wp_notI rfl ea ⟨hl2 9, (hF.put 9 26 (SP.is (.bool false)) (.bool false) (by rw [hD]; rfl) rfl (by rw [hD]; rfl) (by rw [hsz]; decide) (by rw [hl]; decide)), hb1⟩)
      · clear hb1  
        intro listed ac W hI hr
        obtain ⟨hl, hF, hb1⟩ := hI
        have hall := all_listed (by kernel_rfl) hl hr
        have h17 : ac.eval (.tmp 17) = .slice (some ⟨b, o, none⟩) N c1 := hF.done 0 (17, SP.is (.slice (some ⟨b, o, none⟩) N c1)) (by rw [hD]; rfl) (hall 0 (by decide))
        have h18 : ac.eval (.tmp 18) = .int .i64 (i : Int) := hF.done 1 (18, SP.is (.int .i64 (i : Int))) (by rw [hD]; rfl) (hall 1 (by decide))
        have h19 : ac.eval (.tmp 19) = .pointer (some ⟨b, q, none⟩) := hF.done 2 (19, SP.is (.pointer (some ⟨b, q, none⟩))) (by rw [hD]; rfl) (hall 2 (by decide))
        have h20 : ac.eval (.tmp 20) = .agg L.toArray := hF.done 3 (20, SP.is (.agg L.toArray)) (by rw [hD]; rfl) (hall 3 (by decide))
        have h21 : ac.eval (.tmp 21) = .slice (some ⟨b2, o2, none⟩) N c2 := hF.done 4 (21, SP.is (.slice (some ⟨b2, o2, none⟩) N c2)) (by rw [hD]; rfl) (hall 4 (by decide))
        have h22 : ac.eval (.tmp 22) = .int .i64 (i : Int) := hF.done 5 (22, SP.is (.int .i64 (i : Int))) (by rw [hD]; rfl) (hall 5 (by decide))
        have h23 : ac.eval (.tmp 23) = .pointer (some ⟨b2, q2, none⟩) := hF.done 6 (23, SP.is (.pointer (some ⟨b2, q2, none⟩))) (by rw [hD]; rfl) (hall 6 (by decide))
        have h24 : ac.eval (.tmp 24) = .agg M.toArray := hF.done 7 (24, SP.is (.agg M.toArray)) (by rw [hD]; rfl) (hall 7 (by decide))
        have h25 : ac.eval (.tmp 25) = .bool true := hF.done 8 (25, SP.is (.bool true)) (by rw [hD]; rfl) (hall 8 (by decide))
        have h26 : ac.eval (.tmp 26) = .bool false := hF.done 9 (26, SP.is (.bool false)) (by rw [hD]; rfl) (hall 9 (by decide))
        have ea := hF.lay [(17, .slice (some ⟨b, o, none⟩) N c1), (18, .int .i64 (i : Int)), (19, .pointer (some ⟨b, q, none⟩)), (20, .agg L.toArray), (21, .slice (some ⟨b2, o2, none⟩) N c2), (22, .int .i64 (i : Int)), (23, .pointer (some ⟨b2, q2, none⟩)), (24, .agg M.toArray), (25, .bool true), (26, .bool false)] (by rw [hD, hsz]; rfl) (by simp only [List.forall_mem_cons, List.not_mem_nil, false_implies, implies_true, and_true]; exact ⟨h17, h18, h19, h20, h21, h22, h23, h24, h25, h26⟩)
        rw [ha0] at ea
        simp only [List.foldl_cons, List.foldl_nil, List.setIfInBounds_toArray, List.set_cons_zero, List.set_cons_succ] at ea
        clear hF hall hr hl hD  zs0 zs1 zs5 ha0 hsz h17 h18 h19 h20 h21 h22 h23 h24 h25 h26
        subst ea
        have HB2 : Hid (Below w.heap.size w W) := HB.out.trans (hb1.mono HB.out.size)
        clear hb1 HB HR HR2 HSA
        go_wp2_with fail
        go_roundw
        case rel => exact ⟨i + 1, hlt, rfl, HB2⟩
        case measure => simp [intOf]; omega
    · obtain rfl : i = N := by omega
      have h1 : ¬ ((i : Int) < (i : Int)) := by omega
      go_wp2
      go_ret
      exact ⟨rfl, HB.out⟩

end Go.Proofs.YtmfmdlaeflahlaaGreatDoor

namespace Go.Proofs.YtmfmdlaeflahlaaGreatDoor
open Go Go.RowKit
open Sha

theorem built_r1 (kk : List (BitVec 8)) (hk : kk.length = 32) : Tryz.prog.built 97 [(1, .agg (vB kk).toArray)] = some (zE ++ vB kk).toArray := by
  obtain ⟨places, p, p0, p1⟩ := built_row
  have hl : (vB kk).length = 32 := by rw [vB_length, hk]
  rw [p, fill_step _ 1 49 _ (vB kk) zR _ (by rw [hl]; exact p1) rfl (by rw [hl]; decide)]
  have z := cut_mid zE (vB zK) [] (vB kk) (by rw [hl]; rfl)
  rw [show zE.length = 49 by decide, List.append_nil, List.append_nil] at z
  show some (List.toArray _) = _
  unfold zR
  rw [z]
theorem wpList_buildR1 {ops : Array Oper} {rest : List Oper} {op : Oper} {a : Act} {w : World} {Q : Exit → Act → World → Prop} (hgd : op.guard = none) (x : Operand) (ho : op.op = .build 97 #[(1, x)]) (kk : List (BitVec 8)) (hk : kk.length = 32) (hx : a.eval x = .agg (vB kk).toArray) (R : List Value) (hR : R = zE ++ vB kk) (h : wpList Tryz.prog ops Q rest (a.put op.dst (.agg R.toArray)) w) : wpList Tryz.prog ops Q (op :: rest) a w :=
  wpList_plain hgd fun _ hK => by
    subst hR
    have hr := run_build (P := Tryz.prog) w 97 #[(1, .agg (vB kk).toArray)] _ (built_r1 kk hk)
    unfold Oper.wp execOp
    simp only [ho, List.map_toArray, List.map_cons, List.map_nil, hx, Sem.run_bind, hr, Result.andThen_ok, Sem.run_pure, Oper.upon_value]
    exact hK _ _ h
theorem Irw.first (kk : List (BitVec 8)) (hk : kk.length = 32) : Irw (zE ++ vB kk) 0 kk := ⟨rw_len _ _ (by decide) hk, by rw [List.getElem?_append_left (by decide)]; rfl, fun j u q => by
    rw [List.getElem?_append_right (by rw [show zE.length = 49 by decide]; omega), show zE.length = 49 by decide, Nat.add_sub_cancel_left]; exact q, hk⟩
theorem zE_one : ∀ v ∈ zE, v.oneCell' = true := ent_one1 _ _ _ _ _ _ _ _ _ _
theorem row_oneI (L : List Value) (kk : List (BitVec 8)) (h : ∀ v ∈ L, v.oneCell' = true) : ∀ u ∈ L ++ vB kk, u.oneCell' = true := fun u hu => by
  rcases List.mem_append.1 hu with q | q
  · exact h u q
  · exact vB_one _ u q
theorem wpList_neq_bI {ops : Array Oper} {rest : List Oper} {op : Oper} {a : Act} {w : World} {Q : Exit → Act → World → Prop} (hw : Region.wanted op (yielded ops a.tmps) = true) (x y : Operand) (yt : TypeId) (ho : op.op = .binOp .neq 51 x y yt) (l r : List (BitVec 8)) (hx : a.eval x = .agg (vB l).toArray) (hy : a.eval y = .agg (vB r).toArray) (hl : l.length = 32) (hr : r.length = 32)
    (B : Bool) (hB : (!decide (l = r)) = B) (h : wpList Tryz.prog ops Q rest (a.put op.dst (.bool B)) w) : wpList Tryz.prog ops Q (op :: rest) a w :=
  BigFrame.wpList_want hw fun _ hK => by
    have hq := run_neq_vB (P := Tryz.prog) w 51 5 32 Tryz.underlying51 Tryz.underlying5 info_u8 l r hl hr
    rw [hB] at hq
    unfold Oper.wp execOp
    simp only [ho, hx, hy, Sem.run_bind, run_eqGuard_agg w .neq 51 x y _ _ guardDE, Result.andThen_ok, hq, Sem.run_pure, Oper.upon_value]
    exact hK _ _ h
/-- The row that Check has behind some entries. -/
structure Ck (w w' : World) (bl : Nat) (t0 : Int) (kk : List (BitVec 8)) : Prop where
  r : ∃ R, Row w' bl R 97 ∧ Irw R t0 kk ∧ ∀ u ∈ R, u.oneCell' = true
  b0 : w.heap.size ≤ bl
  be : Below w.heap.size w w'
set_option maxRecDepth 100000 in
set_option maxHeartbeats 8000000 in
theorem check_any (es : List Ev) (ho : Okr es) (A0 : Option Addr) (N c0 : Nat) (hN : N = es.length) (hNb : N ≤ 100000) (kk tt : List (BitVec 8)) (hk : kk.length = 32) (htt : tt.length = 32) (w : World) (hT : Tab w 1) (h0 : EsAt w A0 es) (E : Int) (hE : E = if lkf kk es = tt then 0 else 154) :
    Calls Tryz.prog 17 #[.agg (vB kk).toArray, .agg (vB tt).toArray, .slice A0 N c0] w fun r w' => r = .returned (.int .i64 E) ∧ Below w.heap.size w w' := by
  have HO : Hid (Okr es) := ho
  have HN : Hid (N = es.length) := hN
  have HT : Hid (∀ X, Below w.heap.size w X → Tab X 1) := fun X k => hT.below k hT.lt
  have HES : Hid (EsAt w A0 es) := h0
  have HKK : Hid (kk.length = 32) := hk
  have HTT : Hid (tt.length = 32) := htt
  have HEE : Hid (E = if lkf kk es = tt then 0 else 154) := hE
  obtain ⟨MK, hMK⟩ : ∃ M, M = vB kk := ⟨_, rfl⟩
  obtain ⟨MT, hMT⟩ : ∃ M, M = vB tt := ⟨_, rfl⟩
  have HMK : Hid (MK = vB kk) := hMK
  have HMT : Hid (MT = vB tt) := hMT
  have HIK : Hid ((Tryz.prog.info? 51).map (·.size) = some (vB kk).length) := by show _ = _; rw [vB_length, hk]; exact info_dg
  have HIT : Hid ((Tryz.prog.info? 51).map (·.size) = some (vB tt).length) := by show _ = _; rw [vB_length, htt]; exact info_dg
  obtain ⟨R0, hR0⟩ : ∃ R, R = zE ++ vB kk := ⟨_, rfl⟩
  have HR0 : Hid (R0 = zE ++ vB kk) := hR0
  have HL0 : Hid (R0.length = zR.length) := by show _ = _; rw [hR0, rw_len _ _ (by decide) hk]; rfl
  have HI0 : Hid ((Tryz.prog.info? 97).map (·.size) = some R0.length) := by show _ = _; rw [HL0.out]; exact info_row
  have HO0 : Hid (R0.toArray.all (·.oneCell') = true) := by rw [hR0]; exact rw_one _ _ zE_one
  rw [← hMK, ← hMT]
  clear ho hN hT h0 hk htt hE hMK hMT hR0
  go_enter Tryz.func17, Tryz.ntmps17
  go_upto_region 1 with (first
    | (refine wpList_boxG 51 rfl (.tmp 0) rfl MK rfl ?_; intro X1 q1 q2 q3; have D1 : Hid (Row X1 w.heap.size (vB kk) 51) := (by rw [← HMK.out]; exact q1); have B1 : Hid (Below w.heap.size w X1) := q2; clear q1 q2 q3; simp only [Act.put, List.setIfInBounds_toArray, List.set_cons_zero, List.set_cons_succ])
    | (refine wpList_boxG 51 rfl (.tmp 1) rfl MT rfl ?_; intro X2 q1 q2 q3; have T2 : Hid (Row X2 X1.heap.size (vB tt) 51) := (by rw [← HMT.out]; exact q1); have D2 : Hid (Row X2 w.heap.size (vB kk) 51) := Row.below D1.out q2 D1.out.lt; have B2 : Hid (Below w.heap.size w X2) := B1.out.trans (q2.mono B1.out.size); clear q1 q2 q3; simp only [Act.put, List.setIfInBounds_toArray, List.set_cons_zero, List.set_cons_succ]))
  obtain ⟨bk, hbk⟩ : ∃ b, b = w.heap.size := ⟨_, rfl⟩
  obtain ⟨bt, hbt⟩ : ∃ b, b = X1.heap.size := ⟨_, rfl⟩
  have NT : Hid (bt < X2.heap.size) := by rw [hbt]; exact T2.out.lt
  rw [← hbk] at D2 ⊢
  rw [← hbt] at T2 ⊢
  clear hbk hbt D1 B1
  go_upto_region 2 with (first
    | (refine wpList_load_w rfl 51 (.tmp 3) rfl bk (0) rfl (vB kk) _ D2.out.all Tryz.underlying51 rfl HIK.out ?_; simp only [Act.put, List.setIfInBounds_toArray, List.set_cons_zero, List.set_cons_succ])
    | (refine wpList_buildR1 rfl (.tmp 12) rfl kk HKK.out rfl R0 HR0.out ?_; simp only [Act.put, List.setIfInBounds_toArray, List.set_cons_zero, List.set_cons_succ])
    | (refine wpList_allocR rfl rfl ?_; intro X3 q1 q2; have Z3 : Hid (Row X3 X2.heap.size zR 97) := q1; have B3 : Hid (Below X2.heap.size X2 X3) := q2; clear q1 q2; simp only [Act.put, List.setIfInBounds_toArray, List.set_cons_zero, List.set_cons_succ])
    | (refine wpList_storeL rfl 97 (.tmp 7) (.tmp 13) rfl X2.heap.size R0 zR 97 rfl rfl Z3.out HL0.out HI0.out HO0.out ?_; intro X4 q1 q2; have R4 : Hid (Row X4 X2.heap.size R0 97) := q2; have B4 : Hid (Below X2.heap.size X2 X4) := (by rw [q1]; exact below_setCells B3.out (Nat.le_refl _) _); clear q1 q2; simp only [Act.put]))
  obtain ⟨bl, hbl⟩ : ∃ b, b = X2.heap.size := ⟨_, rfl⟩
  have T4 : Hid (Row X4 bt (vB tt) 51) := Row.below T2.out B4.out T2.out.lt
  have C0 : Hid (Ck w X4 bl (ltm es 0) (lkf kk (es.take 0))) := ⟨⟨R0, by rw [hbl]; exact R4.out, by rw [HR0.out]; exact Irw.first kk HKK.out, by rw [HR0.out]; exact row_oneI _ _ zE_one⟩, by rw [hbl]; exact B2.out.size, B2.out.trans (B4.out.mono B2.out.size)⟩
  rw [← hbl] at R4 ⊢
  have NBT : Hid (bt ≠ bl) := by show _ ≠ _; have := NT.out; omega
  clear hbl B2 B3 B4 Z3 R4 D2 T2 HR0 HL0 HI0 HO0 HIK HMK HMT NT
  go_wp2_with fail
  go_loopw [16] (fun v16 wr => ∃ (i : Nat), i ≤ N ∧ v16 = .int .i64 (i : Int) ∧ Hid (Ck w wr bl (ltm es i) (lkf kk (es.take i))) ∧ Hid (Row wr bt (vB tt) 51)) (fun v16 _ => N - (intOf v16).toNat)
  case atStart => exact ⟨0, Nat.zero_le _, rfl, C0, T4⟩
  case round =>
    obtain ⟨i, hi, rfl, HC, HTR⟩ := hrel
    clear C0 T4
    obtain ⟨R, hRr, hRi, hRo⟩ := HC.out.r
    have HRr : Hid (Row wr bl R 97) := hRr
    have HRi : Hid (Irw R (ltm es i) (lkf kk (es.take i))) := hRi
    have HRL : Hid (R.length = 81) := hRi.len
    have HRI : Hid ((Tryz.prog.info? 97).map (·.size) = some R.length) := hRi.info
    have HBW : Hid (Below w.heap.size w wr) := HC.out.be
    have HBL : Hid (w.heap.size ≤ bl) := HC.out.b0
    clear hRr hRi hRo HC
    by_cases hlt : i < N
    · obtain ⟨e, he⟩ : ∃ e, es[i]? = some e := ⟨_, List.getElem?_eq_getElem (by have := HN.out; omega)⟩
      obtain ⟨b, o, A', c', hA0, hrg, hsl, hnil⟩ := HES.out i e he
      subst hA0
      obtain ⟨hw, hm⟩ := HO.out.wf he
      have hup := HO.out.up i e he
      obtain ⟨n, hn⟩ : ∃ n, n = e.d.length := ⟨_, rfl⟩
      rw [← hn] at hrg hsl
      obtain ⟨L, hL⟩ : ∃ L, L = e.cells (.slice A' n c') := ⟨_, rfl⟩
      rw [← hL] at hrg
      obtain ⟨q, hq⟩ : ∃ q, q = o + i * 49 := ⟨_, rfl⟩
      have HQ : Hid (o + i * 49 = q) := hq.symm
      rw [← hq] at hrg
      obtain ⟨dd, hdd⟩ : ∃ d, d = nx (lkf kk (es.take i)) e := ⟨_, rfl⟩
      have hlk : lkf kk (es.take (i + 1)) = dd := by rw [List.take_add_one, he, lkf_app, hdd]; rfl
      have hlt2 : ltm es (i + 1) = e.tm := by simp [ltm, he]
      have HDL : Hid (dd.length = 32) := by rw [hdd]; exact dig_length _
      have HIN : Hid (i < N) := hlt
      have HI : Hid ((Tryz.prog.info? 46).map (·.size) = some L.length) := by rw [hL]; exact Ev.info hw _
      have HLZ : Hid (L.length = zE.length) := by show _ = _; rw [hL, Ev.len hw]; rfl
      have HLO : Hid (L.toArray.all (·.oneCell') = true) := by rw [hL]; exact all_oneCell_toArray (Ev.one e _ _ _)
      have HR : Hid (∀ X, Below w.heap.size w X → X.rangeAt b q L) := fun X k => range_be hrg k
      obtain ⟨R', hR'⟩ : ∃ R', R' = L ++ vB dd := ⟨_, rfl⟩
      have HRN : Hid (Irw R' (ltm es (i + 1)) (lkf kk (es.take (i + 1)))) := by rw [hlk, hlt2, hR', hL]; exact Irw.of hw _ dd HDL.out
      have HRL' : Hid (R'.length = zR.length) := by rw [HRN.out.len]; exact rfl
      have HRI' : Hid ((Tryz.prog.info? 97).map (·.size) = some R'.length) := HRN.out.info
      have HRO1 : Hid (∀ u ∈ R', u.oneCell' = true) := by rw [hR']; exact row_oneI _ _ (by rw [hL]; exact Ev.one e _ _ _)
      have HRO' : Hid (R'.toArray.all (·.oneCell') = true) := all_oneCell_toArray HRO1.out
      have HNX : Hid (∀ X, Below w.heap.size w X → Calls Tryz.prog 44 #[.agg R.toArray, .agg L.toArray] X fun r w' => r = .returned (.tuple #[.agg R'.toArray, .int .i64 0]) ∧ Below X.heap.size X w') := fun X k => by rw [hR']; exact rnext_ok e hw hm (lkf kk (es.take i)) dd hdd A' n c' hn.symm hnil L hL R _ HRi.out hup X (HT.out X k) (hsl.be k)
      clear he hrg hsl hnil hw hm hup hn hL hq hdd hlk hlt2 hR'
      go_upto_region 5 with (first
        | (refine wpList_ixO 52 46 (.tmp 14) (.tmp 16) rfl b o N c0 i 49 q HQ.out rfl rfl HIN.out Tryz.underlying52 info_ent rfl ?_; simp only [Act.put, List.setIfInBounds_toArray, List.set_cons_zero, List.set_cons_succ])
        | (refine wpList_load_w rfl 46 (.tmp 18) rfl b (q) rfl (L) _ (HR.out wr HBW.out) Tryz.underlying46 rfl HI.out ?_; simp only [Act.put, List.setIfInBounds_toArray, List.set_cons_zero, List.set_cons_succ])
        | (refine wpList_allocE rfl rfl ?_; intro Y1 q1 q2; have Z1 : Hid (Row Y1 wr.heap.size zE 46) := q1; have B1 : Hid (Below wr.heap.size wr Y1) := q2; clear q1 q2; simp only [Act.put, List.setIfInBounds_toArray, List.set_cons_zero, List.set_cons_succ])
        | (refine wpList_storeL rfl 46 (.tmp 9) (.tmp 19) rfl wr.heap.size L zE 46 rfl rfl Z1.out HLZ.out HI.out HLO.out ?_; intro Y2 q1 q2; have E2 : Hid (Row Y2 wr.heap.size L 46) := q2; have B2 : Hid (Below wr.heap.size wr Y2) := (by rw [q1]; exact below_setCells B1.out (Nat.le_refl _) _); clear q1 q2; simp only [Act.put]))
      obtain ⟨be, hbe⟩ : ∃ b, b = wr.heap.size := ⟨_, rfl⟩
      rw [← hbe] at E2 ⊢
      have RR2 : Hid (Row Y2 bl R 97) := Row.below HRr.out B2.out HRr.out.lt
      have TT2 : Hid (Row Y2 bt (vB tt) 51) := Row.below HTR.out B2.out HTR.out.lt
      have BW2 : Hid (Below w.heap.size w Y2) := HBW.out.trans (B2.out.mono HBW.out.size)
      clear hbe Z1 B1 B2 HRr HTR HBW HR HQ HIN HLZ HLO
      go_upto_region 6 with (first
        | (refine wpList_load_w rfl 97 (.tmp 7) rfl bl (0) rfl (R) _ RR2.out.all Tryz.underlying97 rfl HRI.out ?_; simp only [Act.put, List.setIfInBounds_toArray, List.set_cons_zero, List.set_cons_succ])
        | (refine wpList_load_w rfl 46 (.tmp 9) rfl be (0) rfl (L) _ E2.out.all Tryz.underlying46 rfl HI.out ?_; simp only [Act.put, List.setIfInBounds_toArray, List.set_cons_zero, List.set_cons_succ])
        | (go_at_call 44; refine Calls.mono (HNX.out Y2 BW2.out) ?_; rintro e4 Y3 ⟨rfl, q3⟩; have B3 : Hid (Below Y2.heap.size Y2 Y3) := q3; clear q3)
        | (refine wpList_allocR rfl rfl ?_; intro Y4 q1 q2; have Z4 : Hid (Row Y4 Y3.heap.size zR 97) := q1; have B4 : Hid (Below Y3.heap.size Y3 Y4) := q2; clear q1 q2; simp only [Act.put, List.setIfInBounds_toArray, List.set_cons_zero, List.set_cons_succ])
        | (refine wpList_storeL rfl 97 (.tmp 10) (.tmp 24) rfl Y3.heap.size R' zR 97 rfl rfl Z4.out HRL'.out HRI'.out HRO'.out ?_; intro Y5 q1 q2; have N5 : Hid (Row Y5 Y3.heap.size R' 97) := q2; have B5 : Hid (Below Y3.heap.size Y3 Y5) := (by rw [q1]; exact below_setCells B4.out (Nat.le_refl _) _); clear q1 q2; simp only [Act.put]))
      have B25 : Below Y2.heap.size Y2 Y5 := B3.out.trans (B5.out.mono B3.out.size)
      obtain ⟨bn, hbn⟩ : ∃ b, b = Y3.heap.size := ⟨_, rfl⟩
      rw [← hbn] at N5 ⊢
      have RR5 : Hid (Row Y5 bl R 97) := Row.below RR2.out B25 RR2.out.lt
      have TT5 : Hid (Row Y5 bt (vB tt) 51) := Row.below TT2.out B25 TT2.out.lt
      have BW5 : Hid (Below w.heap.size w Y5) := BW2.out.trans (B25.mono BW2.out.size)
      have HLR : Hid (R'.length = R.length) := by rw [HRL.out, HRL'.out]; exact rfl
      clear hbn B25 Z4 B3 B4 B5 RR2 TT2 BW2 E2 HNX
      go_upto_region 9 with (first
        | (refine wpList_load_w rfl 97 (.tmp 10) rfl bn (0) rfl (R') _ N5.out.all Tryz.underlying97 rfl HRI'.out ?_; simp only [Act.put, List.setIfInBounds_toArray, List.set_cons_zero, List.set_cons_succ])
        | (refine wpList_storeL rfl 97 (.tmp 7) (.tmp 29) rfl bl R' R 97 rfl rfl RR5.out HLR.out HRI'.out HRO'.out ?_; intro Y6 q1 q2; have R6 : Hid (Row Y6 bl R' 97) := q2; have T6 : Hid (Row Y6 bt (vB tt) 51) := (by rw [q1]; exact (gro_over (Gro.refl _ _) bl 0 R' rfl : Gro (· = bl) _ _).row TT5.out NBT.out); have B6 : Hid (Below w.heap.size w Y6) := (by rw [q1]; exact below_setCells BW5.out HBL.out _); clear q1 q2; simp only [Act.put]))
      have CN : Hid (Ck w Y6 bl (ltm es (i + 1)) (lkf kk (es.take (i + 1)))) := ⟨⟨R', R6.out, HRN.out, HRO1.out⟩, HBL.out, B6.out⟩
      clear RR5 TT5 BW5 N5 R6 B6 HRN HRO1
      go_wp2_with fail
      go_roundw
      case rel => exact ⟨i + 1, hlt, rfl, CN, T6⟩
      case measure => simp [intOf]; omega
    · obtain rfl : i = N := by omega
      have h1 : ¬ ((i : Int) < (i : Int)) := by omega
      obtain ⟨zz, hzz⟩ : ∃ z, z = lkf kk (es.take i) := ⟨_, rfl⟩
      have hz2 : lkf kk es = zz := by rw [hzz, HN.out, List.take_length]
      have HZL : Hid (zz.length = 32) := by rw [hzz]; exact lkf_len kk HKK.out _
      have HIZ : Hid ((Tryz.prog.info? 51).map (·.size) = some (vB zz).length) := by show _ = _; rw [vB_length, HZL.out]; exact info_dg
      have HZR : Hid (wr.rangeAt bl 49 (vB zz)) := HRr.out.range 49 _ (fun j u hj => HRi.out.lk j u (by rw [← hzz]; exact hj))
      rw [hz2] at HEE
      clear hzz hz2
      by_cases hq : zz = tt
      · have HZT : Hid (zz = tt) := hq
        have HE0 : Hid (E = 0) := by have := HEE.out; rw [if_pos hq] at this; exact this
        clear hq
        go_wp2_with (first
          | (refine wpList_load_w rfl 51 (.tmp 31) rfl bl (49) rfl (vB zz) _ HZR.out Tryz.underlying51 rfl HIZ.out ?_; simp only [Act.put, List.setIfInBounds_toArray, List.set_cons_zero, List.set_cons_succ])
          | (refine wpList_load_w rfl 51 (.tmp 4) rfl bt (0) rfl (vB tt) _ HTR.out.all Tryz.underlying51 rfl HIT.out ?_; simp only [Act.put, List.setIfInBounds_toArray, List.set_cons_zero, List.set_cons_succ])
          | (refine wpList_neq_bI rfl (.tmp 32) (.tmp 33) _ rfl zz tt rfl rfl HZL.out HTT.out false (by rw [decide_eq_true HZT.out]; rfl) ?_; simp only [Act.put, List.setIfInBounds_toArray, List.set_cons_zero, List.set_cons_succ]))
        go_ret
        exact ⟨by rw [HE0.out]; rfl, HBW.out⟩
      · have HZT : Hid (¬ zz = tt) := hq
        have HE0 : Hid (E = 154) := by have := HEE.out; rw [if_neg hq] at this; exact this
        clear hq
        go_wp2_with (first
          | (refine wpList_load_w rfl 51 (.tmp 31) rfl bl (49) rfl (vB zz) _ HZR.out Tryz.underlying51 rfl HIZ.out ?_; simp only [Act.put, List.setIfInBounds_toArray, List.set_cons_zero, List.set_cons_succ])
          | (refine wpList_load_w rfl 51 (.tmp 4) rfl bt (0) rfl (vB tt) _ HTR.out.all Tryz.underlying51 rfl HIT.out ?_; simp only [Act.put, List.setIfInBounds_toArray, List.set_cons_zero, List.set_cons_succ])
          | (refine wpList_neq_bI rfl (.tmp 32) (.tmp 33) _ rfl zz tt rfl rfl HZL.out HTT.out true (by rw [decide_eq_false HZT.out]; rfl) ?_; simp only [Act.put, List.setIfInBounds_toArray, List.set_cons_zero, List.set_cons_succ]))
        go_ret
        exact ⟨by rw [HE0.out]; rfl, HBW.out⟩

end Go.Proofs.YtmfmdlaeflahlaaGreatDoor
