/-
  the inbox: boxed, Alike of entries that are the same, Check of a row that leads.
-/
import Derived.Test.YtkbaaelffnmjlaaGreatDoorIbK
namespace Go.Proofs.YtkbaaelffnmjlaaGreatDoor
open Go Go.RowKit
open Sha

/-- Each entry may be, and none is below the one ahead of it. -/
structure Okr (es : List Ev) : Prop where
  ok : ∀ e ∈ es, e.Wf ∧ e.May
  up : ∀ (i : Nat) (e : Ev), es[i]? = some e → ¬ e.tm < ltm es i
theorem Okr.wf {es : List Ev} (h : Okr es) {i : Nat} {e : Ev} (he : es[i]? = some e) : e.Wf ∧ e.May := h.ok e (List.mem_of_getElem? he)
theorem ltm_take (es : List Ev) (i : Nat) : ltm (es.take i) i = ltm es i := by
  cases i with
  | zero => rfl
  | succ i => simp only [ltm]; rw [List.getElem?_take_of_lt (by omega)]
theorem info_ents : (Tryz.prog.info? 52).map (·.size) = some 1 := by kernel_rfl
set_option maxRecDepth 100000 in
set_option maxHeartbeats 8000000 in
theorem boxed_any (es : List Ev) (ho : Okr es) (A0 : Option Addr) (N c0 : Nat) (hN : N = es.length) (hNb : N ≤ 100000) (w : World) (hT : Tab w 1) (h0 : EsAt w A0 es) :
    Calls Tryz.prog 24 #[.slice A0 N c0] w fun r w' => ∃ p v, r = .returned (.pointer (some ⟨p, 0, none⟩)) ∧ Bx w w' p v es := by
  have HO : Hid (Okr es) := ho
  have HN : Hid (N = es.length) := hN
  have HT : Hid (∀ X, Below w.heap.size w X → Tab X 1) := fun X k => hT.below k hT.lt
  have HES : Hid (EsAt w A0 es) := h0
  clear ho hN hT h0
  go_enter Tryz.func24, Tryz.ntmps24
  go_upto_region 2 with (go_at_call 10; refine Calls.mono (bnew_any w) ?_; rintro e1 X1 ⟨p, rfl, q⟩; have K1 : Hid (Bx w X1 p (.slice none 0 0) (es.take 0)) := q; clear q)
  go_wp2_with fail
  go_loopw [4] (fun v4 wr => ∃ (i : Nat) (v : Value), i ≤ N ∧ v4 = .int .i64 (i : Int) ∧ Hid (Bx w wr p v (es.take i))) (fun v4 _ => N - (intOf v4).toNat)
  case atStart => exact ⟨0, _, Nat.zero_le _, rfl, K1⟩
  case round =>
    obtain ⟨i, v, hi, rfl, HB⟩ := hrel
    clear K1
    by_cases hlt : i < N
    · obtain ⟨e, he⟩ : ∃ e, es[i]? = some e := ⟨_, List.getElem?_eq_getElem (by have := HN.out; omega)⟩
      obtain ⟨b, o, A', c', hA0, hrg, hsl, hnil⟩ := HES.out i e he
      subst hA0
      obtain ⟨hw, hm⟩ := HO.out.wf he
      obtain ⟨n, hn⟩ : ∃ n, n = e.d.length := ⟨_, rfl⟩
      rw [← hn] at hrg hsl
      obtain ⟨L, hL⟩ : ∃ L, L = e.cells (.slice A' n c') := ⟨_, rfl⟩
      rw [← hL] at hrg
      obtain ⟨q, hq⟩ : ∃ q, q = o + i * 49 := ⟨_, rfl⟩
      have HQ : Hid (o + i * 49 = q) := hq.symm
      rw [← hq] at hrg
      have hl : (es.take i).length = i := by rw [List.length_take]; have := HN.out; omega
      have hte : es.take i ++ [e] = es.take (i + 1) := by rw [List.take_add_one, he]; rfl
      have HIN : Hid (i < N) := hlt
      have HI : Hid ((Tryz.prog.info? 46).map (·.size) = some L.length) := by rw [hL]; exact Ev.info hw _
      have HR : Hid (∀ X, Below w.heap.size w X → X.rangeAt b q L) := fun X k => range_be hrg k
      have HAD : Hid (∀ X, Bx w X p v (es.take i) → Calls Tryz.prog 33 #[.pointer (some ⟨p, 0, none⟩), .agg L.toArray] X fun r w' => r = .returned (.tuple #[.int .i64 (i : Int), .int .i64 0]) ∧ ∃ v', Bx w w' p v' (es.take (i + 1))) := fun X hb => by
        have hup := HO.out.up i e he
        refine (add_ok w p v (es.take i) (by omega) e hw hm (by rw [hl, ltm_take]; exact hup) A' n c' hn.symm hnil L hL X hb (HT.out X hb.be) (hsl.be hb.be)).mono ?_
        rintro r w' ⟨q1, v', q2, _⟩
        rw [hl] at q1
        rw [hte] at q2
        exact ⟨q1, v', q2⟩
      clear he hrg hsl hnil hw hm hn hL hq hl hte
      go_upto_region 8 with (first
        | (refine wpList_ixO 52 46 (.tmp 18) (.tmp 19) rfl b o N c0 i 49 q HQ.out rfl rfl HIN.out Tryz.underlying52 info_ent rfl ?_; simp only [Act.put, List.setIfInBounds_toArray, List.set_cons_zero, List.set_cons_succ])
        | (refine wpList_load_w rfl 46 (.tmp 20) rfl b q rfl L _ (HR.out wr HB.out.be) Tryz.underlying46 rfl HI.out ?_; simp only [Act.put, List.setIfInBounds_toArray, List.set_cons_zero, List.set_cons_succ])
        | (go_at_call 33; refine Calls.mono (HAD.out wr HB.out) ?_; rintro e2 X2 ⟨rfl, v2, q1⟩; have K2 : Hid (Bx w X2 p v2 (es.take (i + 1))) := q1; clear q1))
      clear HAD HR HI HB
      go_wp2_with fail
      go_roundw
      case rel => exact ⟨i + 1, v2, hlt, rfl, K2⟩
      case measure => simp [intOf]; omega
    · obtain rfl : i = N := by omega
      have h1 : ¬ ((i : Int) < (i : Int)) := by omega
      go_wp2
      go_ret
      have hB := HB.out
      rw [HN.out, List.take_length] at hB
      exact ⟨p, rfl, v, hB⟩
theorem wp_notI {P : Program} {Q : Exit → Act → World → Prop} {o : Oper} {a : Act} {w : World} {K : Act → World → Prop} {t : TypeId} {x : Operand} (ho : o.op = .unOp .not t x) (hx : a.eval x = .bool true) (h : K (a.put o.dst (.bool false)) w) : Oper.wp P o a w K Q := by
  unfold Oper.wp execOp
  simp only [ho, hx]
  go_simp
  exact h
set_option maxRecDepth 100000 in
set_option maxHeartbeats 8000000 in
/-- Alike of two lists of the same entries. -/
theorem alike_same (es : List Ev) (ho : ∀ e ∈ es, e.Wf) (A1 A2 : Option Addr) (N c1 c2 : Nat) (hN : N = es.length) (hNb : N ≤ 100000) (w : World) (h1 : EsAt w A1 es) (h2 : EsAt w A2 es) :
    Calls Tryz.prog 29 #[.slice A1 N c1, .slice A2 N c2] w fun r w' => r = .returned (.bool true) ∧ Below w.heap.size w w' := by
  have HO : Hid (∀ e ∈ es, e.Wf) := ho
  have HN : Hid (N = es.length) := hN
  have H1 : Hid (EsAt w A1 es) := h1
  have H2 : Hid (EsAt w A2 es) := h2
  clear ho hN h1 h2
  go_enter Tryz.func29, Tryz.ntmps29
  go_wp2_with fail
  go_loopw [5] (fun v5 wr => ∃ (i : Nat), i ≤ N ∧ v5 = .int .i64 (i : Int) ∧ Hid (Below w.heap.size w wr)) (fun v5 _ => N - (intOf v5).toNat)
  case atStart => exact ⟨0, Nat.zero_le _, rfl, Below.refl _ _⟩
  case round =>
    obtain ⟨i, hi, rfl, HB⟩ := hrel
    by_cases hlt : i < N
    · obtain ⟨e, he⟩ : ∃ e, es[i]? = some e := ⟨_, List.getElem?_eq_getElem (by have := HN.out; omega)⟩
      obtain ⟨b, o, A', c', hA1, hrg, hsl, hnil⟩ := H1.out i e he
      obtain ⟨b2, o2, A2', c2', hA2, hrg2, hsl2, hnil2⟩ := H2.out i e he
      subst hA1 hA2
      have hw := HO.out e (List.mem_of_getElem? he)
      obtain ⟨n, hn⟩ : ∃ n, n = e.d.length := ⟨_, rfl⟩
      rw [← hn] at hrg hsl hrg2 hsl2
      obtain ⟨L, hL⟩ : ∃ L, L = e.cells (.slice A' n c') := ⟨_, rfl⟩
      obtain ⟨M, hM⟩ : ∃ L, L = e.cells (.slice A2' n c2') := ⟨_, rfl⟩
      rw [← hL] at hrg
      rw [← hM] at hrg2
      obtain ⟨q, hq⟩ : ∃ q, q = o + i * 49 := ⟨_, rfl⟩
      obtain ⟨q2, hq2⟩ : ∃ q, q = o2 + i * 49 := ⟨_, rfl⟩
      have HQ : Hid (o + i * 49 = q) := hq.symm
      have HQ2 : Hid (o2 + i * 49 = q2) := hq2.symm
      rw [← hq] at hrg
      rw [← hq2] at hrg2
      have HIN : Hid (i < N) := hlt
      have HI : Hid ((Tryz.prog.info? 46).map (·.size) = some L.length) := by rw [hL]; exact Ev.info hw _
      have HI2 : Hid ((Tryz.prog.info? 46).map (·.size) = some M.length) := by rw [hM]; exact Ev.info hw _
      have HR : Hid (∀ X, Below w.heap.size w X → X.rangeAt b q L) := fun X k => range_be hrg k
      have HR2 : Hid (∀ X, Below w.heap.size w X → X.rangeAt b2 q2 M) := fun X k => range_be hrg2 k
      have HSA : Hid (∀ X, Below w.heap.size w X → Calls Tryz.prog 21 #[.agg L.toArray, .agg M.toArray] X fun r w' => r = .returned (.bool true) ∧ Below X.heap.size X w') := fun X k => rsame_ok e hw A' A2' n c' c2' L M hL hM X (hsl.be k) (hsl2.be k)
      clear he hrg hsl hnil hw hn hL hq hrg2 hsl2 hnil2 hM hq2
      go_upto_region 6 with fail
      have hb1 := Below.refl wr.heap.size wr
      refine wp_named fun a0 ha0 => ?_
      have hsz : a0.tmps.size = 27 := by rw [ha0]; rfl
      have zs0 : a0.eval (.tmp 0) = .slice (some ⟨b, o, none⟩) N c1 := by rw [ha0]; rfl
      have zs1 : a0.eval (.tmp 1) = .slice (some ⟨b2, o2, none⟩) N c2 := by rw [ha0]; rfl
      have zs5 : a0.eval (.tmp 5) = .int .i64 (i : Int) := by rw [ha0]; rfl
      obtain ⟨D, hD⟩ : ∃ D : List (Tmp × SP), D = [(17, SP.is (.slice (some ⟨b, o, none⟩) N c1)), (18, SP.is (.int .i64 (i : Int))), (19, SP.is (.pointer (some ⟨b, q, none⟩))), (20, SP.is (.agg L.toArray)), (21, SP.is (.slice (some ⟨b2, o2, none⟩) N c2)), (22, SP.is (.int .i64 (i : Int))), (23, SP.is (.pointer (some ⟨b2, q2, none⟩))), (24, SP.is (.agg M.toArray)), (25, SP.is (.bool true)), (26, SP.is (.bool false))] := ⟨_, rfl⟩
      refine wp_region_down (by kernel_rfl) (fun listed ac W => listed.size = 10 ∧ Fp D a0 listed ac W ∧ Below wr.heap.size wr W) ?_ ?_ ?_
      · exact ⟨by simp, Fp.start D a0 _ _, Below.drew hb1⟩
      · clear ha0 hb1  
        intro listed ac W k hI hdn hk
        obtain ⟨hl, hF, hb1⟩ := hI
        have hk1 : k < 10 := List.mem_range.1 (List.mem_filter.1 hk).1
        have hl2 : ∀ j, (listed.setIfInBounds j true).size = 10 := fun j => by rw [Array.size_setIfInBounds]; exact hl
        rcases (show k = 0 ∨ k = 1 ∨ k = 2 ∨ k = 3 ∨ k = 4 ∨ k = 5 ∨ k = 6 ∨ k = 7 ∨ k = 8 ∨ k = 9 by omega) with rfl | rfl | rfl | rfl | rfl | rfl | rfl | rfl | rfl | rfl
        · have hk3 := hk
          exact wpOp_plain rfl rfl (wp_move_v (ac.eval (.tmp 0)) rfl rfl ⟨hl2 0, (hF.put 0 17 (SP.is (.slice (some ⟨b, o, none⟩) N c1)) (ac.eval (.tmp 0)) (by rw [hD]; rfl) (((hF.keep 0 (by rw [hD]; rfl)).trans zs0)) (by rw [hD]; rfl) (by rw [hsz]; decide) (by rw [hl]; decide)), hb1⟩)
        · have hk3 := hk
          exact wpOp_plain rfl rfl (wp_move_v (ac.eval (.tmp 5)) rfl rfl ⟨hl2 1, (hF.put 1 18 (SP.is (.int .i64 (i : Int))) (ac.eval (.tmp 5)) (by rw [hD]; rfl) (((hF.keep 5 (by rw [hD]; rfl)).trans zs5)) (by rw [hD]; rfl) (by rw [hsz]; decide) (by rw [hl]; decide)), hb1⟩)
        · have hk3 := hk
          have ea := (hF.done 0 (17, SP.is (.slice (some ⟨b, o, none⟩) N c1)) (by rw [hD]; rfl) (ready_dep hk 0 (by kernel_rfl)))
          have eb := (hF.done 1 (18, SP.is (.int .i64 (i : Int))) (by rw [hD]; rfl) (ready_dep hk 1 (by kernel_rfl)))
          exact wpOp_plain rfl rfl (wp_ixO 52 46 rfl b o N c1 i 49 q HQ.out ea eb HIN.out Tryz.underlying52 info_ent ⟨hl2 2, (hF.put 2 19 (SP.is (.pointer (some ⟨b, q, none⟩))) (.pointer (some ⟨b, q, none⟩)) (by rw [hD]; rfl) rfl (by rw [hD]; rfl) (by rw [hsz]; decide) (by rw [hl]; decide)), hb1⟩)
        · have hk3 := hk
          have ea := (hF.done 2 (19, SP.is (.pointer (some ⟨b, q, none⟩))) (by rw [hD]; rfl) (ready_dep hk 2 (by kernel_rfl)))
          exact wpOp_plain rfl rfl (wp_load_mid 46 (.tmp 19) rfl b q ea L _ (HR.out W (HB.out.trans (hb1.mono HB.out.size))) Tryz.underlying46 rfl HI.out ⟨hl2 3, (hF.put 3 20 (SP.is (.agg L.toArray)) (.agg L.toArray) (by rw [hD]; rfl) rfl (by rw [hD]; rfl) (by rw [hsz]; decide) (by rw [hl]; decide)), hb1⟩)
        · have hk3 := hk
          exact wpOp_plain rfl rfl (wp_move_v (ac.eval (.tmp 1)) rfl rfl ⟨hl2 4, (hF.put 4 21 (SP.is (.slice (some ⟨b2, o2, none⟩) N c2)) (ac.eval (.tmp 1)) (by rw [hD]; rfl) (((hF.keep 1 (by rw [hD]; rfl)).trans zs1)) (by rw [hD]; rfl) (by rw [hsz]; decide) (by rw [hl]; decide)), hb1⟩)
        · have hk3 := hk
          exact wpOp_plain rfl rfl (wp_move_v (ac.eval (.tmp 5)) rfl rfl ⟨hl2 5, (hF.put 5 22 (SP.is (.int .i64 (i : Int))) (ac.eval (.tmp 5)) (by rw [hD]; rfl) (((hF.keep 5 (by rw [hD]; rfl)).trans zs5)) (by rw [hD]; rfl) (by rw [hsz]; decide) (by rw [hl]; decide)), hb1⟩)
        · have hk3 := hk
          have ea := (hF.done 4 (21, SP.is (.slice (some ⟨b2, o2, none⟩) N c2)) (by rw [hD]; rfl) (ready_dep hk 4 (by kernel_rfl)))
          have eb := (hF.done 5 (22, SP.is (.int .i64 (i : Int))) (by rw [hD]; rfl) (ready_dep hk 5 (by kernel_rfl)))
          exact wpOp_plain rfl rfl (wp_ixO 52 46 rfl b2 o2 N c2 i 49 q2 HQ2.out ea eb HIN.out Tryz.underlying52 info_ent ⟨hl2 6, (hF.put 6 23 (SP.is (.pointer (some ⟨b2, q2, none⟩))) (.pointer (some ⟨b2, q2, none⟩)) (by rw [hD]; rfl) rfl (by rw [hD]; rfl) (by rw [hsz]; decide) (by rw [hl]; decide)), hb1⟩)
        · have hk3 := hk
          have ea := (hF.done 6 (23, SP.is (.pointer (some ⟨b2, q2, none⟩))) (by rw [hD]; rfl) (ready_dep hk 6 (by kernel_rfl)))
          exact wpOp_plain rfl rfl (wp_load_mid 46 (.tmp 23) rfl b2 q2 ea M _ (HR2.out W (HB.out.trans (hb1.mono HB.out.size))) Tryz.underlying46 rfl HI2.out ⟨hl2 7, (hF.put 7 24 (SP.is (.agg M.toArray)) (.agg M.toArray) (by rw [hD]; rfl) rfl (by rw [hD]; rfl) (by rw [hsz]; decide) (by rw [hl]; decide)), hb1⟩)
        · have hk3 := hk
          have ea := (hF.done 3 (20, SP.is (.agg L.toArray)) (by rw [hD]; rfl) (ready_dep hk 3 (by kernel_rfl)))
          have eb := (hF.done 7 (24, SP.is (.agg M.toArray)) (by rw [hD]; rfl) (ready_dep hk 7 (by kernel_rfl)))
          refine wpOp_plain rfl rfl (wp_fcall_v 21 #[.agg L.toArray, .agg M.toArray] rfl rfl (by show [ac.eval (.tmp 20), ac.eval (.tmp 24)] = _; rw [show ac.eval (.tmp 20) = _ from ea, show ac.eval (.tmp 24) = _ from eb]) (by go_simp) ((HSA.out W (HB.out.trans (hb1.mono HB.out.size))).mono ?_))
          rintro e W2 ⟨rfl, hB⟩
          exact ⟨_, rfl, hl2 8, ((hF.world hB).put 8 25 (SP.is (.bool true)) (.bool true) (by rw [hD]; rfl) rfl (by rw [hD]; rfl) (by rw [hsz]; decide) (by rw [hl]; decide)), hb1.trans (hB.mono hb1.size)⟩
        · have hk3 := hk
          have ea := (hF.done 8 (25, SP.is (.bool true)) (by rw [hD]; rfl) (ready_dep hk 8 (by kernel_rfl)))
          exact wpOp_plain rfl rfl (wp_notI rfl ea ⟨hl2 9, (hF.put 9 26 (SP.is (.bool false)) (.bool false) (by rw [hD]; rfl) rfl (by rw [hD]; rfl) (by rw [hsz]; decide) (by rw [hl]; decide)), hb1⟩)
      · clear hb1  
        intro listed ac W hI hr
        obtain ⟨hl, hF, hb1⟩ := hI
        have hall := all_listed (by kernel_rfl) hl hr
        have h17 : ac.eval (.tmp 17) = .slice (some ⟨b, o, none⟩) N c1 := hF.done 0 (17, SP.is (.slice (some ⟨b, o, none⟩) N c1)) (by rw [hD]; rfl) (hall 0 (by decide))
        have h18 : ac.eval (.tmp 18) = .int .i64 (i : Int) := hF.done 1 (18, SP.is (.int .i64 (i : Int))) (by rw [hD]; rfl) (hall 1 (by decide))
        have h19 : ac.eval (.tmp 19) = .pointer (some ⟨b, q, none⟩) := hF.done 2 (19, SP.is (.pointer (some ⟨b, q, none⟩))) (by rw [hD]; rfl) (hall 2 (by decide))
        have h20 : ac.eval (.tmp 20) = .agg L.toArray := hF.done 3 (20, SP.is (.agg L.toArray)) (by rw [hD]; rfl) (hall 3 (by decide))
        have h21 : ac.eval (.tmp 21) = .slice (some ⟨b2, o2, none⟩) N c2 := hF.done 4 (21, SP.is (.slice (some ⟨b2, o2, none⟩) N c2)) (by rw [hD]; rfl) (hall 4 (by decide))
        have h22 : ac.eval (.tmp 22) = .int .i64 (i : Int) := hF.done 5 (22, SP.is (.int .i64 (i : Int))) (by rw [hD]; rfl) (hall 5 (by decide))
        have h23 : ac.eval (.tmp 23) = .pointer (some ⟨b2, q2, none⟩) := hF.done 6 (23, SP.is (.pointer (some ⟨b2, q2, none⟩))) (by rw [hD]; rfl) (hall 6 (by decide))
        have h24 : ac.eval (.tmp 24) = .agg M.toArray := hF.done 7 (24, SP.is (.agg M.toArray)) (by rw [hD]; rfl) (hall 7 (by decide))
        have h25 : ac.eval (.tmp 25) = .bool true := hF.done 8 (25, SP.is (.bool true)) (by rw [hD]; rfl) (hall 8 (by decide))
        have h26 : ac.eval (.tmp 26) = .bool false := hF.done 9 (26, SP.is (.bool false)) (by rw [hD]; rfl) (hall 9 (by decide))
        have ea := hF.lay [(17, .slice (some ⟨b, o, none⟩) N c1), (18, .int .i64 (i : Int)), (19, .pointer (some ⟨b, q, none⟩)), (20, .agg L.toArray), (21, .slice (some ⟨b2, o2, none⟩) N c2), (22, .int .i64 (i : Int)), (23, .pointer (some ⟨b2, q2, none⟩)), (24, .agg M.toArray), (25, .bool true), (26, .bool false)] (by rw [hD, hsz]; rfl) (by simp only [List.forall_mem_cons, List.not_mem_nil, false_implies, implies_true, and_true]; exact ⟨h17, h18, h19, h20, h21, h22, h23, h24, h25, h26⟩)
        rw [ha0] at ea
        simp only [List.foldl_cons, List.foldl_nil, List.setIfInBounds_toArray, List.set_cons_zero, List.set_cons_succ] at ea
        clear hF hall hr hl hD  zs0 zs1 zs5 ha0 hsz h17 h18 h19 h20 h21 h22 h23 h24 h25 h26
        subst ea
        have HB2 : Hid (Below w.heap.size w W) := HB.out.trans (hb1.mono HB.out.size)
        clear hb1 HB HR HR2 HSA
        go_wp2_with fail
        go_roundw
        case rel => exact ⟨i + 1, hlt, rfl, HB2⟩
        case measure => simp [intOf]; omega
    · obtain rfl : i = N := by omega
      have h1 : ¬ ((i : Int) < (i : Int)) := by omega
      go_wp2
      go_ret
      exact ⟨rfl, HB.out⟩

end Go.Proofs.YtkbaaelffnmjlaaGreatDoor
