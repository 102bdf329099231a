/-
  the ladder's laws: same, do, pick.
-/
import Derived.Test.YtfdbjcdcfmnicaaLaK
import Derived.Test.YtfdbjcdcfmnicaaLaRow
namespace Go.Proofs.Ytfdbjcdcfmnicaa
open Go Go.RowKit
open Sha

/-- A list of pending ones that can be read. -/
structure Pr (w : World) (A : Option Addr) (n : Nat) (l : List Pn) : Prop where
  len : l.length = n
  wf : ∀ p ∈ l, p.Wf
  nil : A = none → n = 0
  at_ : ∀ ad, A = some ad → ∃ g o, ad = ⟨g, o, none⟩ ∧ w.rangeAt g o (pcs l)
theorem Pr.be {w w' : World} {A : Option Addr} {n : Nat} {l : List Pn} (h : Pr w A n l) (k : Below w.heap.size w w') : Pr w' A n l := ⟨h.len, h.wf, h.nil, fun ad e => by obtain ⟨g, o, e2, q⟩ := h.at_ ad e; exact ⟨g, o, e2, range_be q k⟩⟩
theorem Pr.of {w : World} {A : Option Addr} {n c : Nat} {l : List Pn} (h : Lw w tP 90 (.slice A n c) n (pcs l)) (hn : l.length = n) (hw : ∀ p ∈ l, p.Wf) : Pr w A n l := by
  obtain ⟨A', cap, e1, _, h1, h2⟩ := (Lo.of h).form
  obtain ⟨rfl, rfl⟩ : A = A' ∧ c = cap := by simpa using e1
  exact ⟨hn, hw, fun e => (h1 e).1, h2⟩
theorem Pr.get {w : World} {A : Option Addr} {n : Nat} {l : List Pn} (h : Pr w A n l) {t : Nat} {x : Pn} (hx : l[t]? = some x) : ∃ g o, A = some ⟨g, o, none⟩ ∧ w.rangeAt g (o + t * 90) x.cells := by
  have ht : t < n := by have := (List.getElem?_eq_some_iff.1 hx).1; rw [h.len] at this; exact this
  cases A with
  | none => have := h.nil rfl; omega
  | some ad =>
    obtain ⟨g, o, rfl, hr⟩ := h.at_ ad rfl
    refine ⟨g, o, rfl, fun j u hj => ?_⟩
    rw [Nat.add_assoc]
    exact hr (t * 90 + j) u (pcs_at h.wf hx j u hj)
theorem wp_neP {Q : Exit → Act → World → Prop} {o : Oper} {a : Act} {w : World} {K : Act → World → Prop} (x y : Operand) (yt : TypeId) (ho : o.op = .binOp .neq tP x y yt) (c d : Pn) (hc : c.Wf) (hd : d.Wf) (hx : a.eval x = .agg c.cells.toArray) (hy : a.eval y = .agg d.cells.toArray) (B : Bool) (hB : (!decide (c = d)) = B) (h : K (a.put o.dst (.bool B)) w) : Oper.wp Try.prog o a w K Q := by
  have hr : (binOp .neq tP (.agg c.cells.toArray) (.agg d.cells.toArray)).run Try.prog w = .ok (.bool B) w := by rw [run_neq_struct, eq_pn 9996 w c d hc hd, ← hB]; rfl
  unfold Oper.wp execOp
  simp only [ho, hx, hy, Sem.run_bind, run_eqGuard_agg w .neq tP x y _ _ guardP, Result.andThen_ok, hr, Sem.run_pure, Oper.upon_value]
  exact h
set_option maxRecDepth 100000 in
set_option maxHeartbeats 4000000 in
theorem same_any (w : World) (Aa Ab : Option Addr) (n m ca cb : Nat) (la lb : List Pn) (ha : Pr w Aa n la) (hb : Pr w Ab m lb) (hn : n ≤ 1000000) (R : Bool) (hR : R = decide (la = lb)) : Calls Try.prog 26 #[.slice Aa n ca, .slice Ab m cb] w fun e w' => e = .returned (.bool R) ∧ Below w.heap.size w w' := by
  have HA : Hid (Pr w Aa n la) := ha
  have HB : Hid (Pr w Ab m lb) := hb
  have HR0 : Hid (R = decide (la = lb)) := hR
  by_cases hnm : n = m
  case neg =>
    have HF : Hid (R = false) := by
      show _ = _
      rw [hR]
      exact decide_eq_false (fun e => hnm (by rw [← ha.len, ← hb.len, e]))
    have hne : ¬ ((n : Int) = (m : Int)) := by omega
    clear ha hb hR hnm
    go_enter Try.func26, Try.ntmps26
    go_wp2
    go_ret
    exact ⟨by rw [HF.out]; rfl, Below.refl _ _⟩
  case pos =>
  subst hnm
  clear ha hb hR
  go_enter Try.func26, Try.ntmps26
  go_wp2
  go_loopw [5] (fun i wr => ∃ t : Nat, t ≤ n ∧ i = .int .i64 (t : Int) ∧ Below w.heap.size w wr ∧ la.take t = lb.take t) (fun i _ => n - (intOf i).toNat)
  case atStart => exact ⟨0, Nat.zero_le _, rfl, Below.refl _ _, rfl⟩
  case round =>
    obtain ⟨t, ht, rfl, hbw, htk⟩ := hrel
    have HBW : Hid (Below w.heap.size w wr) := hbw
    have HTK : Hid (la.take t = lb.take t) := htk
    clear hbw htk
    by_cases hlt : t < n
    · obtain ⟨x, hx⟩ : ∃ x, la[t]? = some x := ⟨_, List.getElem?_eq_getElem (by rw [HA.out.len]; exact hlt)⟩
      obtain ⟨y, hy⟩ : ∃ y, lb[t]? = some y := ⟨_, List.getElem?_eq_getElem (by rw [HB.out.len]; exact hlt)⟩
      obtain ⟨g1, o1, rfl, r1⟩ := HA.out.get hx
      obtain ⟨g2, o2, rfl, r2⟩ := HB.out.get hy
      have HX : Hid x.Wf := HA.out.wf x (List.mem_of_getElem? hx)
      have HY : Hid y.Wf := HB.out.wf y (List.mem_of_getElem? hy)
      have HI1 : Hid ((Try.prog.info? tP).map (·.size) = some x.cells.length) := Pn.info HX.out
      have HI2 : Hid ((Try.prog.info? tP).map (·.size) = some y.cells.length) := Pn.info HY.out
      obtain ⟨T, hT⟩ : ∃ T, T = !decide (x = y) := ⟨_, rfl⟩
      have HT : Hid ((!decide (x = y)) = T) := hT.symm
      have HXL : Hid (la[t]? = some x) := hx
      have HYL : Hid (lb[t]? = some y) := hy
      obtain ⟨c1, hc1⟩ : ∃ c, c = ca := ⟨_, rfl⟩
      obtain ⟨c2, hc2⟩ : ∃ c, c = cb := ⟨_, rfl⟩
      rw [← hc1, ← hc2]
      clear hx hy hT hc1 hc2
      go_upto_region 6 with fail
      obtain ⟨V, hV⟩ : ∃ V, V = wr := ⟨_, rfl⟩
      have HR1 : Hid (∀ X, Below V.heap.size V X → X.rangeAt g1 (o1 + t * 90) x.cells) := fun X k => range_be r1 (HBW.out.trans ((hV ▸ k : Below wr.heap.size wr X).mono HBW.out.size))
      have HR2 : Hid (∀ X, Below V.heap.size V X → X.rangeAt g2 (o2 + t * 90) y.cells) := fun X k => range_be r2 (HBW.out.trans ((hV ▸ k : Below wr.heap.size wr X).mono HBW.out.size))
      rw [← hV] at HBW
      rw [← hV]
      have hb1 := Below.refl V.heap.size V
      clear hV r1 r2
      refine wp_named fun a0 ha0 => ?_
      have hsz : a0.tmps.size = 26 := by rw [ha0]; rfl
      have zs0 : a0.eval (.tmp 0) = .slice (some ⟨g1, o1, none⟩) n c1 := by rw [ha0]; rfl
      have zs1 : a0.eval (.tmp 1) = .slice (some ⟨g2, o2, none⟩) n c2 := by rw [ha0]; rfl
      have zs5 : a0.eval (.tmp 5) = .int .i64 (t : Int) := by rw [ha0]; rfl
      obtain ⟨D, hD⟩ : ∃ D : List (Tmp × SP), D = [(17, SP.is (.slice (some ⟨g1, o1, none⟩) n c1)), (18, SP.is (.int .i64 (t : Int))), (19, SP.is (.pointer (some ⟨g1, o1 + t * 90, none⟩))), (20, SP.is (.agg x.cells.toArray)), (21, SP.is (.slice (some ⟨g2, o2, none⟩) n c2)), (22, SP.is (.int .i64 (t : Int))), (23, SP.is (.pointer (some ⟨g2, o2 + t * 90, none⟩))), (24, SP.is (.agg y.cells.toArray)), (25, SP.is (.bool T))] := ⟨_, rfl⟩
      refine wp_region_down (by kernel_rfl) (fun listed ac W => listed.size = 9 ∧ Fp D a0 listed ac W ∧ Below V.heap.size V W) ?_ ?_ ?_
      · exact ⟨by simp, Fp.start D a0 _ _, Below.drew hb1⟩
      · clear ha0 hb1  
        intro listed ac W k hI hdn hk
        obtain ⟨hl, hF, hb1⟩ := hI
        have hk1 : k < 9 := List.mem_range.1 (List.mem_filter.1 hk).1
        have hl2 : ∀ j, (listed.setIfInBounds j true).size = 9 := fun j => by rw [Array.size_setIfInBounds]; exact hl
        rcases (show k = 0 ∨ k = 1 ∨ k = 2 ∨ k = 3 ∨ k = 4 ∨ k = 5 ∨ k = 6 ∨ k = 7 ∨ k = 8 by omega) with rfl | rfl | rfl | rfl | rfl | rfl | rfl | rfl | rfl
        · have hk3 := hk
          exact wpOp_plain rfl rfl (wp_move_v (ac.eval (.tmp 0)) rfl rfl ⟨hl2 0, (hF.put 0 17 (SP.is (.slice (some ⟨g1, o1, none⟩) n c1)) (ac.eval (.tmp 0)) (by rw [hD]; rfl) (((hF.keep 0 (by rw [hD]; rfl)).trans zs0)) (by rw [hD]; rfl) (by rw [hsz]; decide) (by rw [hl]; decide)), hb1⟩)
        · have hk3 := hk
          exact wpOp_plain rfl rfl (wp_move_v (ac.eval (.tmp 5)) rfl rfl ⟨hl2 1, (hF.put 1 18 (SP.is (.int .i64 (t : Int))) (ac.eval (.tmp 5)) (by rw [hD]; rfl) (((hF.keep 5 (by rw [hD]; rfl)).trans zs5)) (by rw [hD]; rfl) (by rw [hsz]; decide) (by rw [hl]; decide)), hb1⟩)
        · have hk3 := hk
          have e0 := (hF.done 0 (17, SP.is (.slice (some ⟨g1, o1, none⟩) n c1)) (by rw [hD]; rfl) (ready_dep hk 0 (by kernel_rfl)))
          have e1 := (hF.done 1 (18, SP.is (.int .i64 (t : Int))) (by rw [hD]; rfl) (ready_dep hk 1 (by kernel_rfl)))
          exact wpOp_plain rfl rfl (wp_ixL tPs tP rfl g1 o1 n c1 t 90 e0 e1 hlt Try.underlying42 info_P ⟨hl2 2, (hF.put 2 19 (SP.is (.pointer (some ⟨g1, o1 + t * 90, none⟩))) (.pointer (some ⟨g1, o1 + t * 90, none⟩)) (by rw [hD]; rfl) rfl (by rw [hD]; rfl) (by rw [hsz]; decide) (by rw [hl]; decide)), hb1⟩)
        · have hk3 := hk
          have e0 := (hF.done 2 (19, SP.is (.pointer (some ⟨g1, o1 + t * 90, none⟩))) (by rw [hD]; rfl) (ready_dep hk 2 (by kernel_rfl)))
          exact wpOp_plain rfl rfl (wp_load_mid tP (.tmp 19) rfl g1 (o1 + t * 90) e0 x.cells _ (HR1.out W hb1) Try.underlying66 rfl HI1.out ⟨hl2 3, (hF.put 3 20 (SP.is (.agg x.cells.toArray)) (.agg x.cells.toArray) (by rw [hD]; rfl) rfl (by rw [hD]; rfl) (by rw [hsz]; decide) (by rw [hl]; decide)), hb1⟩)
        · have hk3 := hk
          exact wpOp_plain rfl rfl (wp_move_v (ac.eval (.tmp 1)) rfl rfl ⟨hl2 4, (hF.put 4 21 (SP.is (.slice (some ⟨g2, o2, none⟩) n c2)) (ac.eval (.tmp 1)) (by rw [hD]; rfl) (((hF.keep 1 (by rw [hD]; rfl)).trans zs1)) (by rw [hD]; rfl) (by rw [hsz]; decide) (by rw [hl]; decide)), hb1⟩)
        · have hk3 := hk
          exact wpOp_plain rfl rfl (wp_move_v (ac.eval (.tmp 5)) rfl rfl ⟨hl2 5, (hF.put 5 22 (SP.is (.int .i64 (t : Int))) (ac.eval (.tmp 5)) (by rw [hD]; rfl) (((hF.keep 5 (by rw [hD]; rfl)).trans zs5)) (by rw [hD]; rfl) (by rw [hsz]; decide) (by rw [hl]; decide)), hb1⟩)
        · have hk3 := hk
          have e0 := (hF.done 4 (21, SP.is (.slice (some ⟨g2, o2, none⟩) n c2)) (by rw [hD]; rfl) (ready_dep hk 4 (by kernel_rfl)))
          have e1 := (hF.done 5 (22, SP.is (.int .i64 (t : Int))) (by rw [hD]; rfl) (ready_dep hk 5 (by kernel_rfl)))
          exact wpOp_plain rfl rfl (wp_ixL tPs tP rfl g2 o2 n c2 t 90 e0 e1 hlt Try.underlying42 info_P ⟨hl2 6, (hF.put 6 23 (SP.is (.pointer (some ⟨g2, o2 + t * 90, none⟩))) (.pointer (some ⟨g2, o2 + t * 90, none⟩)) (by rw [hD]; rfl) rfl (by rw [hD]; rfl) (by rw [hsz]; decide) (by rw [hl]; decide)), hb1⟩)
        · have hk3 := hk
          have e0 := (hF.done 6 (23, SP.is (.pointer (some ⟨g2, o2 + t * 90, none⟩))) (by rw [hD]; rfl) (ready_dep hk 6 (by kernel_rfl)))
          exact wpOp_plain rfl rfl (wp_load_mid tP (.tmp 23) rfl g2 (o2 + t * 90) e0 y.cells _ (HR2.out W hb1) Try.underlying66 rfl HI2.out ⟨hl2 7, (hF.put 7 24 (SP.is (.agg y.cells.toArray)) (.agg y.cells.toArray) (by rw [hD]; rfl) rfl (by rw [hD]; rfl) (by rw [hsz]; decide) (by rw [hl]; decide)), hb1⟩)
        · have hk3 := hk
          have e0 := (hF.done 3 (20, SP.is (.agg x.cells.toArray)) (by rw [hD]; rfl) (ready_dep hk 3 (by kernel_rfl)))
          have e1 := (hF.done 7 (24, SP.is (.agg y.cells.toArray)) (by rw [hD]; rfl) (ready_dep hk 7 (by kernel_rfl)))
          exact wpOp_plain rfl rfl (wp_neP (.tmp 20) (.tmp 24) _ rfl x y HX.out HY.out e0 e1 T HT.out ⟨hl2 8, (hF.put 8 25 (SP.is (.bool T)) (.bool T) (by rw [hD]; rfl) rfl (by rw [hD]; rfl) (by rw [hsz]; decide) (by rw [hl]; decide)), hb1⟩)
      · clear hb1  
        intro listed ac W hI hr
        obtain ⟨hl, hF, hb1⟩ := hI
        have hall := all_listed (by kernel_rfl) hl hr
        have h17 : ac.eval (.tmp 17) = .slice (some ⟨g1, o1, none⟩) n c1 := hF.done 0 (17, SP.is (.slice (some ⟨g1, o1, none⟩) n c1)) (by rw [hD]; rfl) (hall 0 (by decide))
        have h18 : ac.eval (.tmp 18) = .int .i64 (t : Int) := hF.done 1 (18, SP.is (.int .i64 (t : Int))) (by rw [hD]; rfl) (hall 1 (by decide))
        have h19 : ac.eval (.tmp 19) = .pointer (some ⟨g1, o1 + t * 90, none⟩) := hF.done 2 (19, SP.is (.pointer (some ⟨g1, o1 + t * 90, none⟩))) (by rw [hD]; rfl) (hall 2 (by decide))
        have h20 : ac.eval (.tmp 20) = .agg x.cells.toArray := hF.done 3 (20, SP.is (.agg x.cells.toArray)) (by rw [hD]; rfl) (hall 3 (by decide))
        have h21 : ac.eval (.tmp 21) = .slice (some ⟨g2, o2, none⟩) n c2 := hF.done 4 (21, SP.is (.slice (some ⟨g2, o2, none⟩) n c2)) (by rw [hD]; rfl) (hall 4 (by decide))
        have h22 : ac.eval (.tmp 22) = .int .i64 (t : Int) := hF.done 5 (22, SP.is (.int .i64 (t : Int))) (by rw [hD]; rfl) (hall 5 (by decide))
        have h23 : ac.eval (.tmp 23) = .pointer (some ⟨g2, o2 + t * 90, none⟩) := hF.done 6 (23, SP.is (.pointer (some ⟨g2, o2 + t * 90, none⟩))) (by rw [hD]; rfl) (hall 6 (by decide))
        have h24 : ac.eval (.tmp 24) = .agg y.cells.toArray := hF.done 7 (24, SP.is (.agg y.cells.toArray)) (by rw [hD]; rfl) (hall 7 (by decide))
        have h25 : ac.eval (.tmp 25) = .bool T := hF.done 8 (25, SP.is (.bool T)) (by rw [hD]; rfl) (hall 8 (by decide))
        have ea := hF.lay [(17, .slice (some ⟨g1, o1, none⟩) n c1), (18, .int .i64 (t : Int)), (19, .pointer (some ⟨g1, o1 + t * 90, none⟩)), (20, .agg x.cells.toArray), (21, .slice (some ⟨g2, o2, none⟩) n c2), (22, .int .i64 (t : Int)), (23, .pointer (some ⟨g2, o2 + t * 90, none⟩)), (24, .agg y.cells.toArray), (25, .bool T)] (by rw [hD, hsz]; rfl) (by simp only [List.forall_mem_cons, List.not_mem_nil, false_implies, implies_true, and_true]; exact ⟨h17, h18, h19, h20, h21, h22, h23, h24, h25⟩)
        rw [ha0] at ea
        simp only [List.foldl_cons, List.foldl_nil, List.setIfInBounds_toArray, List.set_cons_zero, List.set_cons_succ] at ea
        clear hF hall hr hl hD  zs0 zs1 zs5 ha0 hsz h17 h18 h19 h20 h21 h22 h23 h24 h25
        subst ea
        have B2 : Hid (Below w.heap.size w W) := HBW.out.trans (hb1.mono HBW.out.size)
        clear hb1
        cases T with
        | true =>
          go_wp2
          go_ret
          refine ⟨?_, B2.out⟩
          have hxy : x ≠ y := fun e => by have := HT.out; rw [decide_eq_true e] at this; cases this
          rw [HR0.out, decide_eq_false (fun e => hxy (by have := HXL.out; rw [e, HYL.out] at this; exact (Option.some.inj this).symm))]
          rfl
        | false =>
          go_wp2
          refine ⟨⟨t + 1, hlt, by go_num, B2.out, ?_⟩, by simp [intOf]; omega⟩
          have hxy : x = y := by
            have := HT.out
            cases hd : decide (x = y) with
            | true => exact of_decide_eq_true hd
            | false => rw [hd] at this; cases this
          rw [List.take_add_one, List.take_add_one, HTK.out, HXL.out, HYL.out, hxy]
    · go_wp2
      go_ret
      refine ⟨?_, HBW.out⟩
      have e : la = lb := by
        have := HTK.out
        rwa [List.take_of_length_le (by rw [HA.out.len]; omega), List.take_of_length_le (by rw [HB.out.len]; omega)] at this
      rw [HR0.out, decide_eq_true e]
      rfl
def pk (c : Int) (n : Nat) : Nat := ((if c < 0 then -(c + 1) else c) % (n : Int)).toNat
set_option maxRecDepth 100000 in
set_option maxHeartbeats 4000000 in
theorem pick_any (c : Int) (n : Nat) (hc : B64 c) (hn : 0 < n) (hn2 : n < 9223372036854775807) (w : World) : Calls Try.prog 16 #[.int .i64 c, .int .i64 (n : Int)] w fun e w' => e = .returned (.int .i64 ((pk c n : Nat) : Int)) ∧ w' = w := by
  have HP : Hid (((pk c n : Nat) : Int) = (if c < 0 then -(c + 1) else c) % (n : Int)) := by
    show _ = _
    unfold pk
    rw [Int.toNat_of_nonneg (Int.emod_nonneg _ (by omega))]
  obtain ⟨K, hK⟩ : ∃ K : Int, K = ((pk c n : Nat) : Int) := ⟨_, rfl⟩
  rw [← hK] at HP ⊢
  have hz : ¬ ((n : Int) = 0) := by omega
  obtain ⟨N, hN⟩ : ∃ N : Int, N = (n : Int) := ⟨_, rfl⟩
  rw [← hN] at hz HP ⊢
  by_cases h0 : c < 0
  · have h1 : IntKind.i64.wrap (c + 1) = c + 1 := by rw [IntKind.wrap_i64]; have := hc.1; omega
    have h2 : IntKind.i64.wrap (-(c + 1)) = -(c + 1) := by rw [IntKind.wrap_i64]; have := hc.1; omega
    have h3 : IntKind.i64.wrap ((-(c + 1)).tmod N) = K := by
      have e : (-(c + 1)).tmod N = K := by
        have := HP.out
        rw [if_pos h0] at this
        rw [this]
        exact Int.tmod_eq_emod_of_nonneg (by omega)
      rw [e, IntKind.wrap_i64]
      have p := HP.out
      rw [if_pos h0, hN] at p
      have q1 := Int.emod_nonneg (-(c + 1)) (show (n : Int) ≠ 0 by omega)
      have q2 := Int.emod_lt_of_pos (-(c + 1)) (show (0 : Int) < n by omega)
      omega
    have HE : Hid (-((c + 1).tmod N) = K) := by
      show _ = _
      have := HP.out
      rw [if_pos h0] at this
      rw [← Int.neg_tmod, this]
      exact Int.tmod_eq_emod_of_nonneg (by omega)
    clear HP hK hN hc hn hn2
    go_enter Try.func16, Try.ntmps16
    go_wp2
    go_ret
    exact ⟨by show Ending.returned (Value.int .i64 (-((c + 1).tmod N))) = _; rw [HE.out], rfl⟩
  · have h3 : IntKind.i64.wrap (c.tmod N) = K := by
      have e : c.tmod N = K := by
        have := HP.out
        rw [if_neg h0] at this
        rw [this]
        exact Int.tmod_eq_emod_of_nonneg (by omega)
      rw [e, IntKind.wrap_i64]
      have p := HP.out
      rw [if_neg h0, hN] at p
      have q1 := Int.emod_nonneg c (show (n : Int) ≠ 0 by omega)
      have q2 := Int.emod_lt_of_pos c (show (0 : Int) < n by omega)
      omega
    have HE : Hid (c % N = K) := by show _ = _; have := HP.out; rw [if_neg h0] at this; exact this.symm
    clear HP hK hN hc hn hn2
    go_enter Try.func16, Try.ntmps16
    go_wp2
    go_ret
    exact ⟨by show Ending.returned (Value.int .i64 (c % N)) = _; rw [HE.out], rfl⟩
/-! ### do -/
def La.doS (st : La) (s : Sp16) : La :=
  if s.kd = 1 then (st.post s.c s.ad s.ib s.now).1
  else if s.kd = 2 then (st.confirm s.now).1
  else if s.kd = 3 then (st.drop s.nr).1
  else if s.kd = 4 then (st.hold s.nr s.now).1
  else if s.kd = 5 then (st.rel s.nr).1
  else st
theorem Sp16.at_kd (s : Sp16) : s.cells[0]? = some (.int .i64 s.kd) := rfl
theorem Sp16.c_range (s : Sp16) (j : Nat) (u : Value) (hj : s.c.cells[j]? = some u) : s.cells[3 + j]? = some u := by
  unfold Sp16.cells
  rw [Nat.add_comm, List.getElem?_cons_succ, List.getElem?_cons_succ, List.getElem?_cons_succ, List.getElem?_append_left ((List.getElem?_eq_some_iff.1 hj).1)]
  exact hj
theorem Sp16.a_range {s : Sp16} (h : s.Ok) (j : Nat) (u : Value) (hj : (vB s.ad)[j]? = some u) : s.cells[69 + j]? = some u := by
  unfold Sp16.cells
  rw [show 69 + j = (66 + j) + 1 + 1 + 1 by omega, List.getElem?_cons_succ, List.getElem?_cons_succ, List.getElem?_cons_succ, List.getElem?_append_right (by rw [Cm.len h.c]; omega), Cm.len h.c, show 66 + j - 66 = j by omega, List.getElem?_append_left ((List.getElem?_eq_some_iff.1 hj).1)]
  exact hj
theorem Sp16.tail {s : Sp16} (h : s.Ok) (j : Nat) : s.cells[89 + j]? = [Value.int .i64 s.ib, .int .i64 s.now, .int .i64 s.nr, .int .i64 s.fs, .int .i64 s.wd][j]? := by
  unfold Sp16.cells
  rw [show 89 + j = (86 + j) + 1 + 1 + 1 by omega, List.getElem?_cons_succ, List.getElem?_cons_succ, List.getElem?_cons_succ, List.getElem?_append_right (by rw [Cm.len h.c]; omega), Cm.len h.c, List.getElem?_append_right (by rw [vB_length, h.a]; omega), vB_length, h.a, show 86 + j - 66 - 20 = j by omega]
theorem Sp16.at_ib {s : Sp16} (h : s.Ok) : s.cells[89]? = some (.int .i64 s.ib) := Sp16.tail h 0
theorem Sp16.at_now {s : Sp16} (h : s.Ok) : s.cells[90]? = some (.int .i64 s.now) := Sp16.tail h 1
theorem Sp16.at_nr {s : Sp16} (h : s.Ok) : s.cells[91]? = some (.int .i64 s.nr) := Sp16.tail h 2
theorem info_St : (Try.prog.info? 53).map (·.size) = some 94 := by kernel_rfl
theorem Sp16.one (s : Sp16) : ∀ v ∈ s.cells, v.oneCell' = true := by
  intro v hv
  simp only [Sp16.cells, List.mem_cons, List.mem_append, List.not_mem_nil, or_false] at hv
  rcases hv with rfl | rfl | rfl | h | h | rfl | rfl | rfl | rfl | rfl
  · rfl
  · rfl
  · rfl
  · exact Cm.one _ v h
  · exact vB_one _ v h
  all_goals rfl
set_option maxRecDepth 100000 in
set_option maxHeartbeats 4000000 in
theorem do_any {w : World} {p : Nat} {v : Value} {B : Int} {st : La} (h : Ld w p v B st) (hB : 0 ≤ B) (hB2 : B < 4611686018427387904) (s : Sp16) (hs : s.Ok) (Ls : List Value) (hLs : Ls = s.cells) (st' : La) (hst : st.doS s = st') : Calls Try.prog 33 #[.pointer (some ⟨p, 0, none⟩), .agg Ls.toArray] w fun e w' => e = .returned (.tuple #[]) ∧ Tn w w' p v (B + 1) st' := by
  have HLD : Hid (Ld w p v B st) := h
  have HS : Hid s.Ok := hs
  have HLS : Hid (Ls = s.cells) := hLs
  have HB1 : Hid (B ≤ B + 1) := by show _ ≤ _; omega
  have HIA : Hid ((Try.prog.info? tAd).map (·.size) = some (vB s.ad).length) := by show _ = _; rw [vB_length, hs.a]; exact info_A
  unfold La.doS at hst
  by_cases hk : s.kd = 1
  · rw [if_pos hk] at hst
    obtain ⟨N, E, hp⟩ : ∃ N E, st.post s.c s.ad s.ib s.now = (st', N, E) := ⟨(st.post s.c s.ad s.ib s.now).2.1, (st.post s.c s.ad s.ib s.now).2.2, by rw [← hst]⟩
    have HC : Hid (∀ X, Ld X p v B st → Calls Try.prog 23 #[.pointer (some ⟨p, 0, none⟩), .agg s.c.cells.toArray, .agg (vB s.ad).toArray, .int .i64 s.ib, .int .i64 s.now] X fun e w' => e = .returned (.tuple #[.int .i64 N, .int .i64 E]) ∧ Tn X w' p v (B + 1) st') := fun X h => post_any h hB hB2 s.c hs.c s.ad hs.a s.ib s.now _ rfl st' N E hp
    clear hst hp h hs hLs hB hB2
    have HK : Hid (s.kd = 1) := hk
    clear hk
    go_enter Try.func33, Try.ntmps33
    go_wp2_with (first
      | (refine wpList_bxG 53 rfl (.tmp 1) rfl Ls rfl ?_; intro X1 q1 q2 q3; clear q3; rw [HLS.out] at q1; have ck := q1.cell 0 _ (Sp16.at_kd s); rw [HK.out] at ck; have B1 : Hid (Below w.heap.size w X1) := q2; have RS : Hid (Row X1 w.heap.size s.cells 53) := q1; have c89 := q1.cell 89 _ (Sp16.at_ib HS.out);have c90 := q1.cell 90 _ (Sp16.at_now HS.out); clear q1 q2; simp only [Act.put, List.setIfInBounds_toArray, List.set_cons_zero, List.set_cons_succ])
      | (refine wpList_ldS rfl tC (.tmp 9) rfl w.heap.size 3 rfl s.c.cells _ (RS.out.range 3 _ (fun j u hj => Sp16.c_range s j u hj)) Try.underlying25 rfl (Cm.info HS.out.c) ?_; simp only [Act.put, List.setIfInBounds_toArray, List.set_cons_zero, List.set_cons_succ])
      | (refine wpList_ldS rfl tAd (.tmp 11) rfl w.heap.size 69 rfl (vB s.ad) _ (RS.out.range 69 _ (fun j u hj => Sp16.a_range HS.out j u hj)) Try.underlying51 rfl HIA.out ?_; simp only [Act.put, List.setIfInBounds_toArray, List.set_cons_zero, List.set_cons_succ])
      | (go_at_call 23; refine Calls.mono (HC.out _ (HLD.out.be B1.out)) ?_; rintro e X2 ⟨rfl, q⟩; have T2 : Hid (Tn w X2 p v (B + 1) st') := q.after B1.out; clear q))
    go_end0
    exact ⟨rfl, T2.out⟩
  rw [if_neg hk] at hst
  replace hk : ¬ s.kd = 1 := hk
  have n1 := hk
  clear hk
  by_cases hk : s.kd = 2
  · rw [if_pos hk] at hst
    obtain ⟨y, E, hp⟩ : ∃ y E, st.confirm s.now = (st', y, E) := ⟨(st.confirm s.now).2.1, (st.confirm s.now).2.2, by rw [← hst]⟩
    have HC : Hid (∀ X, Ld X p v B st → Calls Try.prog 24 #[.pointer (some ⟨p, 0, none⟩), .int .i64 s.now] X fun e w' => e = .returned (.tuple #[.agg y.cells.toArray, .int .i64 E]) ∧ Ts X w' p v B st') := fun X h => confirm_any h s.now st' y E hp
    clear hst hp h hs hLs hB hB2 n1
    have HK : Hid (s.kd = 2) := hk
    clear hk
    go_enter Try.func33, Try.ntmps33
    go_wp2_with (first
      | (refine wpList_bxG 53 rfl (.tmp 1) rfl Ls rfl ?_; intro X1 q1 q2 q3; clear q3; rw [HLS.out] at q1; have ck := q1.cell 0 _ (Sp16.at_kd s); rw [HK.out] at ck; have B1 : Hid (Below w.heap.size w X1) := q2; have RS : Hid (Row X1 w.heap.size s.cells 53) := q1; have c90 := q1.cell 90 _ (Sp16.at_now HS.out); clear q1 q2; simp only [Act.put, List.setIfInBounds_toArray, List.set_cons_zero, List.set_cons_succ])
      | (go_at_call 24; refine Calls.mono (HC.out _ (HLD.out.be B1.out)) ?_; rintro e X2 ⟨rfl, q⟩; have T2 : Hid (Tn w X2 p v (B + 1) st') := (q.tn.after B1.out).mono HB1.out; clear q))
    go_end0
    exact ⟨rfl, T2.out⟩
  rw [if_neg hk] at hst
  have n2 := hk
  clear hk
  by_cases hk : s.kd = 3
  · rw [if_pos hk] at hst
    obtain ⟨y, E, hp⟩ : ∃ y E, st.drop s.nr = (st', y, E) := ⟨(st.drop s.nr).2.1, (st.drop s.nr).2.2, by rw [← hst]⟩
    have HC : Hid (∀ X, Ld X p v B st → Calls Try.prog 25 #[.pointer (some ⟨p, 0, none⟩), .int .i64 s.nr] X fun e w' => ∃ A' m c', e = .returned (.tuple #[.slice A' m c', .int .i64 E]) ∧ y.length = m ∧ Lw w' tP 90 (.slice A' m c') m (pcs y) ∧ Fresh X.heap.size (.slice A' m c') ∧ Ts X w' p v B st') := fun X h => drop_any h s.nr st' y E hp
    clear hst hp h hs hLs hB hB2 n1 n2
    have HK : Hid (s.kd = 3) := hk
    clear hk
    go_enter Try.func33, Try.ntmps33
    go_wp2_with (first
      | (refine wpList_bxG 53 rfl (.tmp 1) rfl Ls rfl ?_; intro X1 q1 q2 q3; clear q3; rw [HLS.out] at q1; have ck := q1.cell 0 _ (Sp16.at_kd s); rw [HK.out] at ck; have B1 : Hid (Below w.heap.size w X1) := q2; have RS : Hid (Row X1 w.heap.size s.cells 53) := q1; have c91 := q1.cell 91 _ (Sp16.at_nr HS.out); clear q1 q2; simp only [Act.put, List.setIfInBounds_toArray, List.set_cons_zero, List.set_cons_succ])
      | (go_at_call 25; refine Calls.mono (HC.out _ (HLD.out.be B1.out)) ?_; rintro e X2 ⟨A', m, c', rfl, _, _, _, q⟩; have T2 : Hid (Tn w X2 p v (B + 1) st') := (q.tn.after B1.out).mono HB1.out; clear q))
    go_end0
    exact ⟨rfl, T2.out⟩
  rw [if_neg hk] at hst
  have n3 := hk
  clear hk
  by_cases hk : s.kd = 4
  · rw [if_pos hk] at hst
    obtain ⟨E, hp⟩ : ∃ E, st.hold s.nr s.now = (st', E) := ⟨(st.hold s.nr s.now).2, by rw [← hst]⟩
    have HC : Hid (∀ X, Ld X p v B st → Calls Try.prog 27 #[.pointer (some ⟨p, 0, none⟩), .int .i64 s.nr, .int .i64 s.now] X fun e w' => e = .returned (.int .i64 E) ∧ Tn X w' p v (B + 1) st') := fun X h => hold_any h hB2 s.nr s.now st' E hp
    clear hst hp h hs hLs hB hB2 n1 n2 n3
    have HK : Hid (s.kd = 4) := hk
    clear hk
    go_enter Try.func33, Try.ntmps33
    go_wp2_with (first
      | (refine wpList_bxG 53 rfl (.tmp 1) rfl Ls rfl ?_; intro X1 q1 q2 q3; clear q3; rw [HLS.out] at q1; have ck := q1.cell 0 _ (Sp16.at_kd s); rw [HK.out] at ck; have B1 : Hid (Below w.heap.size w X1) := q2; have RS : Hid (Row X1 w.heap.size s.cells 53) := q1; have c90 := q1.cell 90 _ (Sp16.at_now HS.out);have c91 := q1.cell 91 _ (Sp16.at_nr HS.out); clear q1 q2; simp only [Act.put, List.setIfInBounds_toArray, List.set_cons_zero, List.set_cons_succ])
      | (go_at_call 27; refine Calls.mono (HC.out _ (HLD.out.be B1.out)) ?_; rintro e X2 ⟨rfl, q⟩; have T2 : Hid (Tn w X2 p v (B + 1) st') := q.after B1.out; clear q))
    go_end0
    exact ⟨rfl, T2.out⟩
  rw [if_neg hk] at hst
  have n4 := hk
  clear hk
  by_cases hk : s.kd = 5
  · rw [if_pos hk] at hst
    obtain ⟨E, hp⟩ : ∃ E, st.rel s.nr = (st', E) := ⟨(st.rel s.nr).2, by rw [← hst]⟩
    have HC : Hid (∀ X, Ld X p v B st → Calls Try.prog 28 #[.pointer (some ⟨p, 0, none⟩), .int .i64 s.nr] X fun e w' => e = .returned (.int .i64 E) ∧ Tn X w' p v B st') := fun X h => release_any h hB2 s.nr st' E hp
    clear hst hp h hs hLs hB hB2 n1 n2 n3 n4
    have HK : Hid (s.kd = 5) := hk
    clear hk
    go_enter Try.func33, Try.ntmps33
    go_wp2_with (first
      | (refine wpList_bxG 53 rfl (.tmp 1) rfl Ls rfl ?_; intro X1 q1 q2 q3; clear q3; rw [HLS.out] at q1; have ck := q1.cell 0 _ (Sp16.at_kd s); rw [HK.out] at ck; have B1 : Hid (Below w.heap.size w X1) := q2; have RS : Hid (Row X1 w.heap.size s.cells 53) := q1; have c91 := q1.cell 91 _ (Sp16.at_nr HS.out); clear q1 q2; simp only [Act.put, List.setIfInBounds_toArray, List.set_cons_zero, List.set_cons_succ])
      | (go_at_call 28; refine Calls.mono (HC.out _ (HLD.out.be B1.out)) ?_; rintro e X2 ⟨rfl, q⟩; have T2 : Hid (Tn w X2 p v (B + 1) st') := (q.after B1.out).mono HB1.out; clear q))
    go_end0
    exact ⟨rfl, T2.out⟩
  rw [if_neg hk] at hst
  subst hst
  obtain ⟨kd, hkd⟩ : ∃ kd, s.kd = kd := ⟨_, rfl⟩
  have HK : Hid (s.kd = kd) := hkd
  rw [hkd] at n1 n2 n3 n4 hk
  clear hkd h hs hLs hB hB2
  go_enter Try.func33, Try.ntmps33
  go_wp2_with (refine wpList_bxG 53 rfl (.tmp 1) rfl Ls rfl ?_; intro X1 q1 q2 q3; clear q3; rw [HLS.out] at q1; have ck := q1.cell 0 _ (Sp16.at_kd s); rw [HK.out] at ck; have B1 : Hid (Below w.heap.size w X1) := q2; have RS : Hid (Row X1 w.heap.size s.cells 53) := q1;  clear q1 q2; simp only [Act.put, List.setIfInBounds_toArray, List.set_cons_zero, List.set_cons_succ])
  go_end0
  exact ⟨rfl, (Tn.same HLD.out B1.out).mono HB1.out⟩

end Go.Proofs.Ytfdbjcdcfmnicaa
