/-
  the inbox: the document's Check of any entries; both Checks answer the same.
-/
import Derived.Test.YtknabkoddickaaaGreatDoorIbV
import Derived.Test.YtknabkoddickaaaGreatDoorIcB
namespace Go.Proofs.YtknabkoddickaaaGreatDoor
open Go Go.RowKit
open Sha

section
variable {P : Program} {ops : Array Oper} {i : Nat} {Q : Exit → Act → World → Prop} {o : Oper} {a : Act} {w : World} {K : Act → World → Prop}
theorem wpOp_off (ho : ops[i]? = some o) (hw : Region.wanted o (yielded ops a.tmps) = false) (h : K (a.put o.dst undef) w) : wpOp P ops Q i K a w := by
  unfold wpOp
  rw [ho]
  simp only [hw]
  exact h
theorem unwanted_g {g : Nat} {b : Bool} {t : Tmp} (ho : o.guard = some (g, b)) (hg : ((ops[g]?).bind fun o => o.dst) = some t) (h : a.eval (.tmp t) = .bool (!b)) (hs : t < a.tmps.size) : Region.wanted o (yielded ops a.tmps) = false := by
  have h2 : a.tmps[t]? = some (.bool (!b)) := by
    rw [Array.getElem?_eq_getElem hs]
    have : a.tmps[t]?.getD undef = .bool (!b) := by simpa [Act.eval] using h
    rw [Array.getElem?_eq_getElem hs] at this
    simpa using this
  cases b <;> simp [Region.wanted, ho, yielded, hg, h2]
theorem wp_gtrJ {x y : Operand} {t yt : TypeId} (ho : o.op = .binOp .gtr t x y yt) (ht : t = 3) (u z : Int) (B : Bool) (hx : a.eval x = .int .i64 u) (hy : a.eval y = .int .i64 z) (hB : decide (z < u) = B) (h : K (a.put o.dst (.bool B)) w) : Oper.wp Tryz.prog o a w K Q := by
  subst ht hB
  unfold Oper.wp execOp
  simp only [ho, hx, hy]
  simp [go_sem]
  exact h
theorem wp_lssJ {x y : Operand} {t yt : TypeId} (ho : o.op = .binOp .lss t x y yt) (ht : t = 3) (u z : Int) (B : Bool) (hx : a.eval x = .int .i64 u) (hy : a.eval y = .int .i64 z) (hB : decide (u < z) = B) (h : K (a.put o.dst (.bool B)) w) : Oper.wp Tryz.prog o a w K Q := by
  subst ht hB
  unfold Oper.wp execOp
  simp only [ho, hx, hy]
  simp [go_sem]
  exact h
theorem wp_subJ {x y : Operand} {t yt : TypeId} (ho : o.op = .binOp .sub t x y yt) (ht : t = 3) (u z r : Int) (hx : a.eval x = .int .i64 u) (hy : a.eval y = .int .i64 z) (hr : IntKind.i64.wrap (u - z) = r) (h : K (a.put o.dst (.int .i64 r)) w) : Oper.wp Tryz.prog o a w K Q := by
  subst ht
  unfold Oper.wp execOp
  simp only [ho, hx, hy]
  simp [go_sem, hr]
  exact h
theorem wp_fe2 {x : Operand} (ho : o.op = .fieldAddr 46 x 2) (B q : Nat) (hx : a.eval x = .pointer (some ⟨B, q, none⟩)) (h : K (a.put o.dst (.pointer (some ⟨B, q + 21, none⟩))) w) : Oper.wp Tryz.prog o a w K Q := by
  unfold Oper.wp execOp
  simp only [ho, hx]
  go_simp
  exact h
theorem wp_ldT {x : Operand} (ho : o.op = .load 3 x) (b f : Nat) (hx : a.eval x = .pointer (some ⟨b, f, none⟩)) (n : Int) (hc : w.cell? ⟨b, f, none⟩ = some (.int .i64 n)) (h : K (a.put o.dst (.int .i64 n)) w) : Oper.wp Tryz.prog o a w K Q := by
  unfold Oper.wp execOp
  simp only [ho, hx]
  go_simp
  exact h
theorem wp_lenE {x : Operand} (ho : o.op = .call { callee := .builtin .len, args := #[x], argTypes := #[52] }) (A : Option Addr) (n c : Nat) (hx : a.eval x = .slice A n c) (h : K (a.put o.dst (.int .i64 (n : Int))) w) : Oper.wp Tryz.prog o a w K Q :=
  wp_len_s 52 46 A n c ho Tryz.underlying52 hx h
theorem wp_neD (x y : Operand) (yt : TypeId) (ho : o.op = .binOp .neq 51 x y yt) (l r : List (BitVec 8)) (hl : l.length = 32) (hr : r.length = 32) (hx : a.eval x = .agg (vB l).toArray) (hy : a.eval y = .agg (vB r).toArray) (B : Bool) (hB : (!decide (l = r)) = B) (h : K (a.put o.dst (.bool B)) w) : Oper.wp Tryz.prog o a w K Q :=
  wp_neq_d 51 x y yt ho 5 32 l r hx hy Tryz.underlying51 Tryz.underlying5 info_u8 hl hr guardDE B hB h
end
set_option maxRecDepth 100000 in
set_option maxHeartbeats 16000000 in
theorem dcheck_any (es : List Ev) (ho : Okr es) (A0 : Option Addr) (N c0 M : Nat) (hM : M = es.length) (hNb : N ≤ 100000) (kk tt : List (BitVec 8)) (hk : kk.length = 32) (htt : tt.length = 32) (w : World) (hG : Given w) (h0 : EsAt w A0 es) (E : Int) (hF : (M = N ∧ E = if lkf kk es = tt then 0 else 154) ∨ (M < N ∧ ∃ el, el.Wf ∧ EsAt w A0 (es ++ [el]) ∧ rfE el (ltm es es.length) E)) :
    Calls Tryz.prog 14 #[.agg (vB kk).toArray, .agg (vB tt).toArray, .slice A0 N c0] w fun r w' => r = .returned (.int .i64 E) ∧ Below w.heap.size w w' := by
  have hMN : M ≤ N := by rcases hF with ⟨q, _⟩ | ⟨q, _⟩ <;> omega
  have HO : Hid (Okr es) := ho
  have HM : Hid (M = es.length) := hM
  have HES : Hid (EsAt w A0 es) := h0
  have HKK : Hid (kk.length = 32) := hk
  have HTT : Hid (tt.length = 32) := htt
  have HFF : Hid ((M = N ∧ E = if lkf kk es = tt then 0 else 154) ∨ (M < N ∧ ∃ el, el.Wf ∧ EsAt w A0 (es ++ [el]) ∧ rfE el (ltm es es.length) E)) := hF
  have HGW : Hid (∀ X, Below w.heap.size w X → Given X) := fun X k => hG.below k (Nat.le_refl _)
  obtain ⟨MK, hMK⟩ : ∃ M, M = vB kk := ⟨_, rfl⟩
  obtain ⟨MT, hMT⟩ : ∃ M, M = vB tt := ⟨_, rfl⟩
  have HMK : Hid (MK = vB kk) := hMK
  have HMT : Hid (MT = vB tt) := hMT
  have HIK : Hid ((Tryz.prog.info? 51).map (·.size) = some MK.length) := by show _ = _; rw [hMK, vB_length, hk]; exact info_dg
  have HIT : Hid ((Tryz.prog.info? 51).map (·.size) = some MT.length) := by show _ = _; rw [hMT, vB_length, htt]; exact info_dg
  rw [← hMK, ← hMT]
  clear ho hM hG h0 hk htt hF hMK hMT
  go_enter Tryz.func14, Tryz.ntmps14
  go_upto_region 1 with (first
    | (refine wpList_boxG 51 rfl (.tmp 0) rfl MK rfl ?_; intro X1 q1 q2 q3; have D1 : Hid (Row X1 w.heap.size MK 51) := q1; have B1 : Hid (Below w.heap.size w X1) := q2; clear q1 q2 q3; simp only [Act.put, List.setIfInBounds_toArray, List.set_cons_zero, List.set_cons_succ])
    | (refine wpList_boxG 51 rfl (.tmp 1) rfl MT rfl ?_; intro X2 q1 q2 q3; have T2 : Hid (Row X2 X1.heap.size MT 51) := q1; have D2 : Hid (Row X2 w.heap.size MK 51) := Row.below D1.out q2 D1.out.lt; have B2 : Hid (Below w.heap.size w X2) := B1.out.trans (q2.mono B1.out.size); clear q1 q2 q3; simp only [Act.put, List.setIfInBounds_toArray, List.set_cons_zero, List.set_cons_succ]))
  obtain ⟨bk, hbk⟩ : ∃ b, b = w.heap.size := ⟨_, rfl⟩
  obtain ⟨bt, hbt⟩ : ∃ b, b = X1.heap.size := ⟨_, rfl⟩
  rw [← hbk] at D2 ⊢
  rw [← hbt] at T2 ⊢
  clear hbk hbt D1 B1
  go_wp2_with fail
  go_loopw [7] (fun v7 wr => ∃ i : Nat, i ≤ M ∧ v7 = .int .i64 (i : Int) ∧ Hid (Below X2.heap.size X2 wr)) (fun v7 _ => M - (intOf v7).toNat)
  case atStart => exact ⟨0, Nat.zero_le _, rfl, Below.refl _ _⟩
  case round =>
    obtain ⟨i, hi, rfl, HBX⟩ := hrel
    have HBW : Hid (Below w.heap.size w wr) := B2.out.trans (HBX.out.mono B2.out.size)
    by_cases hlt : i < M
    · have hin : i < N := by omega
      have HIN : Hid (i < N) := hin
      have hin2 : (i : Int) < (N : Int) := by omega
      obtain ⟨e, he⟩ : ∃ e, es[i]? = some e := ⟨_, List.getElem?_eq_getElem (by have := HM.out; omega)⟩
      obtain ⟨we, me⟩ := HO.out.wf he
      have hup := HO.out.up i e he
      obtain ⟨b, o, A', c', hA0, hrg, hsl, hnil⟩ := HES.out i e he
      subst hA0
      obtain ⟨n1, hn1⟩ : ∃ n, n = e.d.length := ⟨_, rfl⟩
      rw [← hn1] at hrg hsl
      obtain ⟨L, hL⟩ : ∃ L, L = e.cells (.slice A' n1 c') := ⟨_, rfl⟩
      rw [← hL] at hrg
      obtain ⟨q, hq⟩ : ∃ q, q = o + i * 49 := ⟨_, rfl⟩
      have HQ : Hid (o + i * 49 = q) := hq.symm
      rw [← hq] at hrg
      have HI : Hid ((Tryz.prog.info? 46).map (·.size) = some L.length) := by rw [hL]; exact Ev.info we _
      have HR : Hid (∀ X, Below w.heap.size w X → X.rangeAt b q L) := fun X k => range_be hrg k
      obtain ⟨t1, ht1⟩ : ∃ t, t = e.tm := ⟨_, rfl⟩
      have HT0 : Hid (∀ X, Below w.heap.size w X → X.cell? ⟨b, q + 21, none⟩ = some (.int .i64 t1)) := fun X k => range_be hrg k 21 _ (by rw [hL, ht1]; exact Ev.time we _)
      have HCE : Hid (∀ X, Calls Tryz.prog 35 #[.agg L.toArray] X fun r w' => r = .returned (.int .i64 0) ∧ Below X.heap.size X w') := fun X => rcheck_ok e we me A' n1 c' hn1.symm L hL X
      rw [← ht1] at hup
      clear hrg hsl hnil hn1 hL hq ht1 me we he
      by_cases hz : i = 0
      · have HG0 : Hid (decide ((0 : Int) < (i : Int)) = false) := decide_eq_false (by omega)
        clear hup HT0 hz
        go_upto_region 5 with (first
          | (refine wpList_ixO 52 46 (.tmp 16) (.tmp 17) rfl b o N c0 i 49 q HQ.out rfl rfl HIN.out Tryz.underlying52 info_ent rfl ?_; simp only [Act.put, List.setIfInBounds_toArray, List.set_cons_zero, List.set_cons_succ])
          | (refine wpList_load_w rfl 46 (.tmp 18) rfl b q rfl (L) _ (HR.out wr HBW.out) Tryz.underlying46 rfl HI.out ?_; simp only [Act.put, List.setIfInBounds_toArray, List.set_cons_zero, List.set_cons_succ])
          | (go_at_call 35; refine Calls.mono (HCE.out wr) ?_; rintro e9 Y1 ⟨rfl, q3⟩; have BY : Hid (Below wr.heap.size wr Y1) := q3; clear q3))
        clear HCE HR
        go_upto_region 7 with fail
        have hb1 := Below.refl Y1.heap.size Y1
        refine wp_named fun a0 ha0 => ?_
        have hsz : a0.tmps.size = 49 := by rw [ha0]; rfl
        have zs7 : a0.eval (.tmp 7) = .int .i64 (i : Int) := by rw [ha0]; rfl
        obtain ⟨D, hD⟩ : ∃ D : List (Tmp × SP), D = [(23, SP.is (.int .i64 (i : Int))), (24, SP.is (.bool false)), (25, SP.is (.bool false)), (26, SP.is (undef)), (27, SP.is (undef)), (28, SP.is (undef)), (29, SP.is (undef)), (30, SP.is (undef)), (31, SP.is (undef)), (32, SP.is (undef)), (33, SP.is (undef)), (34, SP.is (undef)), (35, SP.is (undef)), (36, SP.is (undef)), (37, SP.is (undef)), (38, SP.is (.bool false))] := ⟨_, rfl⟩
        refine wp_region_down (by kernel_rfl) (fun listed ac W => listed.size = 16 ∧ Fp D a0 listed ac W ∧ Below Y1.heap.size Y1 W) ?_ ?_ ?_
        · exact ⟨by simp, Fp.start D a0 _ _, Below.drew hb1⟩
        · clear ha0 hb1  
          intro listed ac W k hI hdn hk
          obtain ⟨hl, hF, hb1⟩ := hI
          have hk1 : k < 16 := List.mem_range.1 (List.mem_filter.1 hk).1
          have hl2 : ∀ j, (listed.setIfInBounds j true).size = 16 := fun j => by rw [Array.size_setIfInBounds]; exact hl
          rcases (show k = 0 ∨ k = 1 ∨ k = 2 ∨ k = 3 ∨ k = 4 ∨ k = 5 ∨ k = 6 ∨ k = 7 ∨ k = 8 ∨ k = 9 ∨ k = 10 ∨ k = 11 ∨ k = 12 ∨ k = 13 ∨ k = 14 ∨ k = 15 by omega) with rfl | rfl | rfl | rfl | rfl | rfl | rfl | rfl | rfl | rfl | rfl | rfl | rfl | rfl | rfl | rfl
          · have hk3 := hk
            exact wpOp_plain rfl rfl (wp_move_v (ac.eval (.tmp 7)) rfl rfl ⟨hl2 0, (hF.put 0 23 (SP.is (.int .i64 (i : Int))) (ac.eval (.tmp 7)) (by rw [hD]; rfl) (((hF.keep 7 (by rw [hD]; rfl)).trans zs7)) (by rw [hD]; rfl) (by rw [hsz]; decide) (by rw [hl]; decide)), hb1⟩)
          · have hk3 := hk
            have e := (hF.done 0 (23, SP.is (.int .i64 (i : Int))) (by rw [hD]; rfl) (ready_dep hk 0 (by kernel_rfl)))
            exact wpOp_plain rfl rfl (wp_gtrJ rfl rfl _ 0 false e rfl HG0.out ⟨hl2 1, (hF.put 1 24 (SP.is (.bool false)) (.bool false) (by rw [hD]; rfl) rfl (by rw [hD]; rfl) (by rw [hsz]; decide) (by rw [hl]; decide)), hb1⟩)
          · have hk3 := hk
            exact wpOp_plain rfl rfl (wp_move_v (ac.eval (.tmp 24)) rfl rfl ⟨hl2 2, (hF.put 2 25 (SP.is (.bool false)) (ac.eval (.tmp 24)) (by rw [hD]; rfl) ((hF.done 1 (24, SP.is (.bool false)) (by rw [hD]; rfl) (ready_dep hk 1 (by kernel_rfl)))) (by rw [hD]; rfl) (by rw [hsz]; decide) (by rw [hl]; decide)), hb1⟩)
          · have hk3 := hk
            exact wpOp_off rfl (unwanted_g (g := 2) (b := true) rfl rfl (hF.done 2 (25, SP.is (.bool false)) (by rw [hD]; rfl) (ready_dep hk 2 (by kernel_rfl))) (by rw [hF.size, hsz]; decide)) ⟨hl2 3, (hF.put 3 26 (SP.is (undef)) undef (by rw [hD]; rfl) rfl (by rw [hD]; rfl) (by rw [hsz]; decide) (by rw [hl]; decide)), hb1⟩
          · have hk3 := hk
            exact wpOp_off rfl (unwanted_g (g := 2) (b := true) rfl rfl (hF.done 2 (25, SP.is (.bool false)) (by rw [hD]; rfl) (ready_dep hk 2 (by kernel_rfl))) (by rw [hF.size, hsz]; decide)) ⟨hl2 4, (hF.put 4 27 (SP.is (undef)) undef (by rw [hD]; rfl) rfl (by rw [hD]; rfl) (by rw [hsz]; decide) (by rw [hl]; decide)), hb1⟩
          · have hk3 := hk
            exact wpOp_off rfl (unwanted_g (g := 2) (b := true) rfl rfl (hF.done 2 (25, SP.is (.bool false)) (by rw [hD]; rfl) (ready_dep hk 2 (by kernel_rfl))) (by rw [hF.size, hsz]; decide)) ⟨hl2 5, (hF.put 5 28 (SP.is (undef)) undef (by rw [hD]; rfl) rfl (by rw [hD]; rfl) (by rw [hsz]; decide) (by rw [hl]; decide)), hb1⟩
          · have hk3 := hk
            exact wpOp_off rfl (unwanted_g (g := 2) (b := true) rfl rfl (hF.done 2 (25, SP.is (.bool false)) (by rw [hD]; rfl) (ready_dep hk 2 (by kernel_rfl))) (by rw [hF.size, hsz]; decide)) ⟨hl2 6, (hF.put 6 29 (SP.is (undef)) undef (by rw [hD]; rfl) rfl (by rw [hD]; rfl) (by rw [hsz]; decide) (by rw [hl]; decide)), hb1⟩
          · have hk3 := hk
            exact wpOp_off rfl (unwanted_g (g := 2) (b := true) rfl rfl (hF.done 2 (25, SP.is (.bool false)) (by rw [hD]; rfl) (ready_dep hk 2 (by kernel_rfl))) (by rw [hF.size, hsz]; decide)) ⟨hl2 7, (hF.put 7 30 (SP.is (undef)) undef (by rw [hD]; rfl) rfl (by rw [hD]; rfl) (by rw [hsz]; decide) (by rw [hl]; decide)), hb1⟩
          · have hk3 := hk
            exact wpOp_off rfl (unwanted_g (g := 2) (b := true) rfl rfl (hF.done 2 (25, SP.is (.bool false)) (by rw [hD]; rfl) (ready_dep hk 2 (by kernel_rfl))) (by rw [hF.size, hsz]; decide)) ⟨hl2 8, (hF.put 8 31 (SP.is (undef)) undef (by rw [hD]; rfl) rfl (by rw [hD]; rfl) (by rw [hsz]; decide) (by rw [hl]; decide)), hb1⟩
          · have hk3 := hk
            exact wpOp_off rfl (unwanted_g (g := 2) (b := true) rfl rfl (hF.done 2 (25, SP.is (.bool false)) (by rw [hD]; rfl) (ready_dep hk 2 (by kernel_rfl))) (by rw [hF.size, hsz]; decide)) ⟨hl2 9, (hF.put 9 32 (SP.is (undef)) undef (by rw [hD]; rfl) rfl (by rw [hD]; rfl) (by rw [hsz]; decide) (by rw [hl]; decide)), hb1⟩
          · have hk3 := hk
            exact wpOp_off rfl (unwanted_g (g := 2) (b := true) rfl rfl (hF.done 2 (25, SP.is (.bool false)) (by rw [hD]; rfl) (ready_dep hk 2 (by kernel_rfl))) (by rw [hF.size, hsz]; decide)) ⟨hl2 10, (hF.put 10 33 (SP.is (undef)) undef (by rw [hD]; rfl) rfl (by rw [hD]; rfl) (by rw [hsz]; decide) (by rw [hl]; decide)), hb1⟩
          · have hk3 := hk
            exact wpOp_off rfl (unwanted_g (g := 2) (b := true) rfl rfl (hF.done 2 (25, SP.is (.bool false)) (by rw [hD]; rfl) (ready_dep hk 2 (by kernel_rfl))) (by rw [hF.size, hsz]; decide)) ⟨hl2 11, (hF.put 11 34 (SP.is (undef)) undef (by rw [hD]; rfl) rfl (by rw [hD]; rfl) (by rw [hsz]; decide) (by rw [hl]; decide)), hb1⟩
          · have hk3 := hk
            exact wpOp_off rfl (unwanted_g (g := 2) (b := true) rfl rfl (hF.done 2 (25, SP.is (.bool false)) (by rw [hD]; rfl) (ready_dep hk 2 (by kernel_rfl))) (by rw [hF.size, hsz]; decide)) ⟨hl2 12, (hF.put 12 35 (SP.is (undef)) undef (by rw [hD]; rfl) rfl (by rw [hD]; rfl) (by rw [hsz]; decide) (by rw [hl]; decide)), hb1⟩
          · have hk3 := hk
            exact wpOp_off rfl (unwanted_g (g := 2) (b := true) rfl rfl (hF.done 2 (25, SP.is (.bool false)) (by rw [hD]; rfl) (ready_dep hk 2 (by kernel_rfl))) (by rw [hF.size, hsz]; decide)) ⟨hl2 13, (hF.put 13 36 (SP.is (undef)) undef (by rw [hD]; rfl) rfl (by rw [hD]; rfl) (by rw [hsz]; decide) (by rw [hl]; decide)), hb1⟩
          · have hk3 := hk
            exact wpOp_off rfl (unwanted_g (g := 2) (b := true) rfl rfl (hF.done 2 (25, SP.is (.bool false)) (by rw [hD]; rfl) (ready_dep hk 2 (by kernel_rfl))) (by rw [hF.size, hsz]; decide)) ⟨hl2 14, (hF.put 14 37 (SP.is (undef)) undef (by rw [hD]; rfl) rfl (by rw [hD]; rfl) (by rw [hsz]; decide) (by rw [hl]; decide)), hb1⟩
          · have hk3 := hk
            have e := (hF.done 2 (25, SP.is (.bool false)) (by rw [hD]; rfl) (ready_dep hk 2 (by kernel_rfl)))
            exact wpOp_plain rfl rfl (wp_pick_f (.bool false) rfl e rfl ⟨hl2 15, (hF.put 15 38 (SP.is (.bool false)) (.bool false) (by rw [hD]; rfl) rfl (by rw [hD]; rfl) (by rw [hsz]; decide) (by rw [hl]; decide)), hb1⟩)
        · clear hb1  
          intro listed ac W hI hr
          obtain ⟨hl, hF, hb1⟩ := hI
          have hall := all_listed (by kernel_rfl) hl hr
          have h23 : ac.eval (.tmp 23) = .int .i64 (i : Int) := hF.done 0 (23, SP.is (.int .i64 (i : Int))) (by rw [hD]; rfl) (hall 0 (by decide))
          have h24 : ac.eval (.tmp 24) = .bool false := hF.done 1 (24, SP.is (.bool false)) (by rw [hD]; rfl) (hall 1 (by decide))
          have h25 : ac.eval (.tmp 25) = .bool false := hF.done 2 (25, SP.is (.bool false)) (by rw [hD]; rfl) (hall 2 (by decide))
          have h26 : ac.eval (.tmp 26) = undef := hF.done 3 (26, SP.is (undef)) (by rw [hD]; rfl) (hall 3 (by decide))
          have h27 : ac.eval (.tmp 27) = undef := hF.done 4 (27, SP.is (undef)) (by rw [hD]; rfl) (hall 4 (by decide))
          have h28 : ac.eval (.tmp 28) = undef := hF.done 5 (28, SP.is (undef)) (by rw [hD]; rfl) (hall 5 (by decide))
          have h29 : ac.eval (.tmp 29) = undef := hF.done 6 (29, SP.is (undef)) (by rw [hD]; rfl) (hall 6 (by decide))
          have h30 : ac.eval (.tmp 30) = undef := hF.done 7 (30, SP.is (undef)) (by rw [hD]; rfl) (hall 7 (by decide))
          have h31 : ac.eval (.tmp 31) = undef := hF.done 8 (31, SP.is (undef)) (by rw [hD]; rfl) (hall 8 (by decide))
          have h32 : ac.eval (.tmp 32) = undef := hF.done 9 (32, SP.is (undef)) (by rw [hD]; rfl) (hall 9 (by decide))
          have h33 : ac.eval (.tmp 33) = undef := hF.done 10 (33, SP.is (undef)) (by rw [hD]; rfl) (hall 10 (by decide))
          have h34 : ac.eval (.tmp 34) = undef := hF.done 11 (34, SP.is (undef)) (by rw [hD]; rfl) (hall 11 (by decide))
          have h35 : ac.eval (.tmp 35) = undef := hF.done 12 (35, SP.is (undef)) (by rw [hD]; rfl) (hall 12 (by decide))
          have h36 : ac.eval (.tmp 36) = undef := hF.done 13 (36, SP.is (undef)) (by rw [hD]; rfl) (hall 13 (by decide))
          have h37 : ac.eval (.tmp 37) = undef := hF.done 14 (37, SP.is (undef)) (by rw [hD]; rfl) (hall 14 (by decide))
          have h38 : ac.eval (.tmp 38) = .bool false := hF.done 15 (38, SP.is (.bool false)) (by rw [hD]; rfl) (hall 15 (by decide))
          have ea := hF.lay [(23, .int .i64 (i : Int)), (24, .bool false), (25, .bool false), (26, undef), (27, undef), (28, undef), (29, undef), (30, undef), (31, undef), (32, undef), (33, undef), (34, undef), (35, undef), (36, undef), (37, undef), (38, .bool false)] (by rw [hD, hsz]; rfl) (by simp only [List.forall_mem_cons, List.not_mem_nil, false_implies, implies_true, and_true]; exact ⟨h23, h24, h25, h26, h27, h28, h29, h30, h31, h32, h33, h34, h35, h36, h37, h38⟩)
          rw [ha0] at ea
          simp only [List.foldl_cons, List.foldl_nil, List.setIfInBounds_toArray, List.set_cons_zero, List.set_cons_succ] at ea
          clear hF hall hr hl hD  zs7 ha0 hsz h23 h24 h25 h26 h27 h28 h29 h30 h31 h32 h33 h34 h35 h36 h37 h38
          subst ea
          obtain ⟨Y2, hY2⟩ : ∃ Y, Y = W := ⟨_, rfl⟩
          rw [← hY2] at hb1 ⊢
          have BY2 : Hid (Below X2.heap.size X2 Y2) := HBX.out.trans ((BY.out.trans (hb1.mono BY.out.size)).mono HBX.out.size)
          clear hY2 hb1
          go_wp2_with fail
          exact ⟨⟨i + 1, hlt, by go_num, BY2⟩, by simp [intOf]; omega⟩
      · obtain ⟨m, him⟩ : ∃ m, i = m + 1 := ⟨i - 1, by omega⟩
        obtain ⟨e2, he2⟩ : ∃ e, es[m]? = some e := ⟨_, List.getElem?_eq_getElem (by have := HM.out; omega)⟩
        obtain ⟨b2, o2, A2, c2, hA2, hrg2, _, _⟩ := HES.out m e2 he2
        simp only [Option.some.injEq, Addr.mk.injEq, and_true] at hA2
        obtain ⟨rfl, rfl⟩ := hA2
        have we2 := (HO.out.wf he2).1
        obtain ⟨q2, hq2⟩ : ∃ q, q = o + m * 49 := ⟨_, rfl⟩
        have HQ2 : Hid (o + m * 49 = q2) := hq2.symm
        rw [← hq2] at hrg2
        obtain ⟨t2, ht2⟩ : ∃ t, t = e2.tm := ⟨_, rfl⟩
        have HTT2 : Hid (∀ X, Below w.heap.size w X → X.cell? ⟨b, q2 + 21, none⟩ = some (.int .i64 t2)) := fun X k => range_be hrg2 k 21 _ (by rw [ht2]; exact Ev.time we2 _)
        have HSU : Hid (IntKind.i64.wrap ((i : Int) - 1) = (m : Int)) := by
          show _ = _
          rw [show (i : Int) - 1 = (m : Int) by omega]
          simp [IntKind.wrap, IntKind.bits, IntKind.signed]
          omega
        have HG1 : Hid (decide ((0 : Int) < (i : Int)) = true) := decide_eq_true (by omega)
        have HMN : Hid (m < N) := by show _ < _; omega
        have hltm : ltm es i = t2 := by rw [him, ht2]; simp only [ltm]; rw [he2]; rfl
        have HLT : Hid (decide (t1 < t2) = false) := decide_eq_false (by rw [← hltm]; exact hup)
        clear hup hz he2 hrg2 we2 hq2 ht2 hltm him
        go_upto_region 5 with (first
          | (refine wpList_ixO 52 46 (.tmp 16) (.tmp 17) rfl b o N c0 i 49 q HQ.out rfl rfl HIN.out Tryz.underlying52 info_ent rfl ?_; simp only [Act.put, List.setIfInBounds_toArray, List.set_cons_zero, List.set_cons_succ])
          | (refine wpList_load_w rfl 46 (.tmp 18) rfl b q rfl (L) _ (HR.out wr HBW.out) Tryz.underlying46 rfl HI.out ?_; simp only [Act.put, List.setIfInBounds_toArray, List.set_cons_zero, List.set_cons_succ])
          | (go_at_call 35; refine Calls.mono (HCE.out wr) ?_; rintro e9 Y1 ⟨rfl, q3⟩; have BY : Hid (Below wr.heap.size wr Y1) := q3; clear q3))
        have HBY : Hid (Below w.heap.size w Y1) := HBW.out.trans (BY.out.mono HBW.out.size)
        have HT1 : Hid (∀ X, Below Y1.heap.size Y1 X → X.cell? ⟨b, q + 21, none⟩ = some (.int .i64 t1)) := fun X k => HT0.out X (HBY.out.trans (k.mono HBY.out.size))
        have HT2 : Hid (∀ X, Below Y1.heap.size Y1 X → X.cell? ⟨b, q2 + 21, none⟩ = some (.int .i64 t2)) := fun X k => HTT2.out X (HBY.out.trans (k.mono HBY.out.size))
        clear HCE HR HT0 HTT2
        go_upto_region 7 with fail
        have hb1 := Below.refl Y1.heap.size Y1
        refine wp_named fun a0 ha0 => ?_
        have hsz : a0.tmps.size = 49 := by rw [ha0]; rfl
        have zs2 : a0.eval (.tmp 2) = .slice (some ⟨b, o, none⟩) N c0 := by rw [ha0]; rfl
        have zs7 : a0.eval (.tmp 7) = .int .i64 (i : Int) := by rw [ha0]; rfl
        obtain ⟨D, hD⟩ : ∃ D : List (Tmp × SP), D = [(23, SP.is (.int .i64 (i : Int))), (24, SP.is (.bool true)), (25, SP.is (.bool true)), (26, SP.is (.slice (some ⟨b, o, none⟩) N c0)), (27, SP.is (.int .i64 (i : Int))), (28, SP.is (.pointer (some ⟨b, q, none⟩))), (29, SP.is (.pointer (some ⟨b, q + 21, none⟩))), (30, SP.is (.int .i64 t1)), (31, SP.is (.slice (some ⟨b, o, none⟩) N c0)), (32, SP.is (.int .i64 (i : Int))), (33, SP.is (.int .i64 (m : Int))), (34, SP.is (.pointer (some ⟨b, q2, none⟩))), (35, SP.is (.pointer (some ⟨b, q2 + 21, none⟩))), (36, SP.is (.int .i64 t2)), (37, SP.is (.bool false)), (38, SP.is (.bool false))] := ⟨_, rfl⟩
        refine wp_region_down (by kernel_rfl) (fun listed ac W => listed.size = 16 ∧ Fp D a0 listed ac W ∧ Below Y1.heap.size Y1 W) ?_ ?_ ?_
        · exact ⟨by simp, Fp.start D a0 _ _, Below.drew hb1⟩
        · clear ha0 hb1  
          intro listed ac W k hI hdn hk
          obtain ⟨hl, hF, hb1⟩ := hI
          have hk1 : k < 16 := List.mem_range.1 (List.mem_filter.1 hk).1
          have hl2 : ∀ j, (listed.setIfInBounds j true).size = 16 := fun j => by rw [Array.size_setIfInBounds]; exact hl
          rcases (show k = 0 ∨ k = 1 ∨ k = 2 ∨ k = 3 ∨ k = 4 ∨ k = 5 ∨ k = 6 ∨ k = 7 ∨ k = 8 ∨ k = 9 ∨ k = 10 ∨ k = 11 ∨ k = 12 ∨ k = 13 ∨ k = 14 ∨ k = 15 by omega) with rfl | rfl | rfl | rfl | rfl | rfl | rfl | rfl | rfl | rfl | rfl | rfl | rfl | rfl | rfl | rfl
          · have hk3 := hk
            exact wpOp_plain rfl rfl (wp_move_v (ac.eval (.tmp 7)) rfl rfl ⟨hl2 0, (hF.put 0 23 (SP.is (.int .i64 (i : Int))) (ac.eval (.tmp 7)) (by rw [hD]; rfl) (((hF.keep 7 (by rw [hD]; rfl)).trans zs7)) (by rw [hD]; rfl) (by rw [hsz]; decide) (by rw [hl]; decide)), hb1⟩)
          · have hk3 := hk
            have e := (hF.done 0 (23, SP.is (.int .i64 (i : Int))) (by rw [hD]; rfl) (ready_dep hk 0 (by kernel_rfl)))
            exact wpOp_plain rfl rfl (wp_gtrJ rfl rfl _ 0 true e rfl HG1.out ⟨hl2 1, (hF.put 1 24 (SP.is (.bool true)) (.bool true) (by rw [hD]; rfl) rfl (by rw [hD]; rfl) (by rw [hsz]; decide) (by rw [hl]; decide)), hb1⟩)
          · have hk3 := hk
            exact wpOp_plain rfl rfl (wp_move_v (ac.eval (.tmp 24)) rfl rfl ⟨hl2 2, (hF.put 2 25 (SP.is (.bool true)) (ac.eval (.tmp 24)) (by rw [hD]; rfl) ((hF.done 1 (24, SP.is (.bool true)) (by rw [hD]; rfl) (ready_dep hk 1 (by kernel_rfl)))) (by rw [hD]; rfl) (by rw [hsz]; decide) (by rw [hl]; decide)), hb1⟩)
          · have hk3 := hk
            exact wpOp_wanted rfl (wanted_g (g := 2) (b := true) rfl rfl (hF.done 2 (25, SP.is (.bool true)) (by rw [hD]; rfl) (ready_dep hk 2 (by kernel_rfl))) (by rw [hF.size, hsz]; decide)) (wp_move_v (ac.eval (.tmp 2)) rfl rfl ⟨hl2 3, (hF.put 3 26 (SP.is (.slice (some ⟨b, o, none⟩) N c0)) (ac.eval (.tmp 2)) (by rw [hD]; rfl) (((hF.keep 2 (by rw [hD]; rfl)).trans zs2)) (by rw [hD]; rfl) (by rw [hsz]; decide) (by rw [hl]; decide)), hb1⟩)
          · have hk3 := hk
            exact wpOp_wanted rfl (wanted_g (g := 2) (b := true) rfl rfl (hF.done 2 (25, SP.is (.bool true)) (by rw [hD]; rfl) (ready_dep hk 2 (by kernel_rfl))) (by rw [hF.size, hsz]; decide)) (wp_move_v (ac.eval (.tmp 7)) rfl rfl ⟨hl2 4, (hF.put 4 27 (SP.is (.int .i64 (i : Int))) (ac.eval (.tmp 7)) (by rw [hD]; rfl) (((hF.keep 7 (by rw [hD]; rfl)).trans zs7)) (by rw [hD]; rfl) (by rw [hsz]; decide) (by rw [hl]; decide)), hb1⟩)
          · have hk3 := hk
            have ea := (hF.done 3 (26, SP.is (.slice (some ⟨b, o, none⟩) N c0)) (by rw [hD]; rfl) (ready_dep hk 3 (by kernel_rfl)))
            have eb := (hF.done 4 (27, SP.is (.int .i64 (i : Int))) (by rw [hD]; rfl) (ready_dep hk 4 (by kernel_rfl)))
            exact wpOp_wanted rfl (wanted_g (g := 2) (b := true) rfl rfl (hF.done 2 (25, SP.is (.bool true)) (by rw [hD]; rfl) (ready_dep hk 2 (by kernel_rfl))) (by rw [hF.size, hsz]; decide)) (wp_ixO 52 46 rfl b o N c0 i 49 q HQ.out ea eb HIN.out Tryz.underlying52 info_ent ⟨hl2 5, (hF.put 5 28 (SP.is (.pointer (some ⟨b, q, none⟩))) (.pointer (some ⟨b, q, none⟩)) (by rw [hD]; rfl) rfl (by rw [hD]; rfl) (by rw [hsz]; decide) (by rw [hl]; decide)), hb1⟩)
          · have hk3 := hk
            have e := (hF.done 5 (28, SP.is (.pointer (some ⟨b, q, none⟩))) (by rw [hD]; rfl) (ready_dep hk 5 (by kernel_rfl)))
            exact wpOp_wanted rfl (wanted_g (g := 2) (b := true) rfl rfl (hF.done 2 (25, SP.is (.bool true)) (by rw [hD]; rfl) (ready_dep hk 2 (by kernel_rfl))) (by rw [hF.size, hsz]; decide)) (wp_fe2 rfl b q e ⟨hl2 6, (hF.put 6 29 (SP.is (.pointer (some ⟨b, q + 21, none⟩))) (.pointer (some ⟨b, q + 21, none⟩)) (by rw [hD]; rfl) rfl (by rw [hD]; rfl) (by rw [hsz]; decide) (by rw [hl]; decide)), hb1⟩)
          · have hk3 := hk
            have e := (hF.done 6 (29, SP.is (.pointer (some ⟨b, q + 21, none⟩))) (by rw [hD]; rfl) (ready_dep hk 6 (by kernel_rfl)))
            exact wpOp_wanted rfl (wanted_g (g := 2) (b := true) rfl rfl (hF.done 2 (25, SP.is (.bool true)) (by rw [hD]; rfl) (ready_dep hk 2 (by kernel_rfl))) (by rw [hF.size, hsz]; decide)) (wp_ldT rfl b (q + 21) e t1 (HT1.out W hb1) ⟨hl2 7, (hF.put 7 30 (SP.is (.int .i64 t1)) (.int .i64 t1) (by rw [hD]; rfl) rfl (by rw [hD]; rfl) (by rw [hsz]; decide) (by rw [hl]; decide)), hb1⟩)
          · have hk3 := hk
            exact wpOp_wanted rfl (wanted_g (g := 2) (b := true) rfl rfl (hF.done 2 (25, SP.is (.bool true)) (by rw [hD]; rfl) (ready_dep hk 2 (by kernel_rfl))) (by rw [hF.size, hsz]; decide)) (wp_move_v (ac.eval (.tmp 2)) rfl rfl ⟨hl2 8, (hF.put 8 31 (SP.is (.slice (some ⟨b, o, none⟩) N c0)) (ac.eval (.tmp 2)) (by rw [hD]; rfl) (((hF.keep 2 (by rw [hD]; rfl)).trans zs2)) (by rw [hD]; rfl) (by rw [hsz]; decide) (by rw [hl]; decide)), hb1⟩)
          · have hk3 := hk
            exact wpOp_wanted rfl (wanted_g (g := 2) (b := true) rfl rfl (hF.done 2 (25, SP.is (.bool true)) (by rw [hD]; rfl) (ready_dep hk 2 (by kernel_rfl))) (by rw [hF.size, hsz]; decide)) (wp_move_v (ac.eval (.tmp 7)) rfl rfl ⟨hl2 9, (hF.put 9 32 (SP.is (.int .i64 (i : Int))) (ac.eval (.tmp 7)) (by rw [hD]; rfl) (((hF.keep 7 (by rw [hD]; rfl)).trans zs7)) (by rw [hD]; rfl) (by rw [hsz]; decide) (by rw [hl]; decide)), hb1⟩)
          · have hk3 := hk
            have e := (hF.done 9 (32, SP.is (.int .i64 (i : Int))) (by rw [hD]; rfl) (ready_dep hk 9 (by kernel_rfl)))
            exact wpOp_wanted rfl (wanted_g (g := 2) (b := true) rfl rfl (hF.done 2 (25, SP.is (.bool true)) (by rw [hD]; rfl) (ready_dep hk 2 (by kernel_rfl))) (by rw [hF.size, hsz]; decide)) (wp_subJ rfl rfl _ 1 _ e rfl HSU.out ⟨hl2 10, (hF.put 10 33 (SP.is (.int .i64 (m : Int))) (.int .i64 (m : Int)) (by rw [hD]; rfl) rfl (by rw [hD]; rfl) (by rw [hsz]; decide) (by rw [hl]; decide)), hb1⟩)
          · have hk3 := hk
            have ea := (hF.done 8 (31, SP.is (.slice (some ⟨b, o, none⟩) N c0)) (by rw [hD]; rfl) (ready_dep hk 8 (by kernel_rfl)))
            have eb := (hF.done 10 (33, SP.is (.int .i64 (m : Int))) (by rw [hD]; rfl) (ready_dep hk 10 (by kernel_rfl)))
            exact wpOp_wanted rfl (wanted_g (g := 2) (b := true) rfl rfl (hF.done 2 (25, SP.is (.bool true)) (by rw [hD]; rfl) (ready_dep hk 2 (by kernel_rfl))) (by rw [hF.size, hsz]; decide)) (wp_ixO 52 46 rfl b o N c0 m 49 q2 HQ2.out ea eb HMN.out Tryz.underlying52 info_ent ⟨hl2 11, (hF.put 11 34 (SP.is (.pointer (some ⟨b, q2, none⟩))) (.pointer (some ⟨b, q2, none⟩)) (by rw [hD]; rfl) rfl (by rw [hD]; rfl) (by rw [hsz]; decide) (by rw [hl]; decide)), hb1⟩)
          · have hk3 := hk
            have e := (hF.done 11 (34, SP.is (.pointer (some ⟨b, q2, none⟩))) (by rw [hD]; rfl) (ready_dep hk 11 (by kernel_rfl)))
            exact wpOp_wanted rfl (wanted_g (g := 2) (b := true) rfl rfl (hF.done 2 (25, SP.is (.bool true)) (by rw [hD]; rfl) (ready_dep hk 2 (by kernel_rfl))) (by rw [hF.size, hsz]; decide)) (wp_fe2 rfl b q2 e ⟨hl2 12, (hF.put 12 35 (SP.is (.pointer (some ⟨b, q2 + 21, none⟩))) (.pointer (some ⟨b, q2 + 21, none⟩)) (by rw [hD]; rfl) rfl (by rw [hD]; rfl) (by rw [hsz]; decide) (by rw [hl]; decide)), hb1⟩)
          · have hk3 := hk
            have e := (hF.done 12 (35, SP.is (.pointer (some ⟨b, q2 + 21, none⟩))) (by rw [hD]; rfl) (ready_dep hk 12 (by kernel_rfl)))
            exact wpOp_wanted rfl (wanted_g (g := 2) (b := true) rfl rfl (hF.done 2 (25, SP.is (.bool true)) (by rw [hD]; rfl) (ready_dep hk 2 (by kernel_rfl))) (by rw [hF.size, hsz]; decide)) (wp_ldT rfl b (q2 + 21) e t2 (HT2.out W hb1) ⟨hl2 13, (hF.put 13 36 (SP.is (.int .i64 t2)) (.int .i64 t2) (by rw [hD]; rfl) rfl (by rw [hD]; rfl) (by rw [hsz]; decide) (by rw [hl]; decide)), hb1⟩)
          · have hk3 := hk
            have ea := (hF.done 7 (30, SP.is (.int .i64 t1)) (by rw [hD]; rfl) (ready_dep hk 7 (by kernel_rfl)))
            have eb := (hF.done 13 (36, SP.is (.int .i64 t2)) (by rw [hD]; rfl) (ready_dep hk 13 (by kernel_rfl)))
            exact wpOp_wanted rfl (wanted_g (g := 2) (b := true) rfl rfl (hF.done 2 (25, SP.is (.bool true)) (by rw [hD]; rfl) (ready_dep hk 2 (by kernel_rfl))) (by rw [hF.size, hsz]; decide)) (wp_lssJ rfl rfl _ _ false ea eb HLT.out ⟨hl2 14, (hF.put 14 37 (SP.is (.bool false)) (.bool false) (by rw [hD]; rfl) rfl (by rw [hD]; rfl) (by rw [hsz]; decide) (by rw [hl]; decide)), hb1⟩)
          · have hk3 := hk
            have ec := (hF.done 2 (25, SP.is (.bool true)) (by rw [hD]; rfl) (ready_dep hk 2 (by kernel_rfl)))
            have e := (hF.done 14 (37, SP.is (.bool false)) (by rw [hD]; rfl) (ready_dep hk 14 (by kernel_rfl)))
            exact wpOp_plain rfl rfl (wp_pick_v (.bool false) rfl ec e ⟨hl2 15, (hF.put 15 38 (SP.is (.bool false)) (.bool false) (by rw [hD]; rfl) rfl (by rw [hD]; rfl) (by rw [hsz]; decide) (by rw [hl]; decide)), hb1⟩)
        · clear hb1  
          intro listed ac W hI hr
          obtain ⟨hl, hF, hb1⟩ := hI
          have hall := all_listed (by kernel_rfl) hl hr
          have h23 : ac.eval (.tmp 23) = .int .i64 (i : Int) := hF.done 0 (23, SP.is (.int .i64 (i : Int))) (by rw [hD]; rfl) (hall 0 (by decide))
          have h24 : ac.eval (.tmp 24) = .bool true := hF.done 1 (24, SP.is (.bool true)) (by rw [hD]; rfl) (hall 1 (by decide))
          have h25 : ac.eval (.tmp 25) = .bool true := hF.done 2 (25, SP.is (.bool true)) (by rw [hD]; rfl) (hall 2 (by decide))
          have h26 : ac.eval (.tmp 26) = .slice (some ⟨b, o, none⟩) N c0 := hF.done 3 (26, SP.is (.slice (some ⟨b, o, none⟩) N c0)) (by rw [hD]; rfl) (hall 3 (by decide))
          have h27 : ac.eval (.tmp 27) = .int .i64 (i : Int) := hF.done 4 (27, SP.is (.int .i64 (i : Int))) (by rw [hD]; rfl) (hall 4 (by decide))
          have h28 : ac.eval (.tmp 28) = .pointer (some ⟨b, q, none⟩) := hF.done 5 (28, SP.is (.pointer (some ⟨b, q, none⟩))) (by rw [hD]; rfl) (hall 5 (by decide))
          have h29 : ac.eval (.tmp 29) = .pointer (some ⟨b, q + 21, none⟩) := hF.done 6 (29, SP.is (.pointer (some ⟨b, q + 21, none⟩))) (by rw [hD]; rfl) (hall 6 (by decide))
          have h30 : ac.eval (.tmp 30) = .int .i64 t1 := hF.done 7 (30, SP.is (.int .i64 t1)) (by rw [hD]; rfl) (hall 7 (by decide))
          have h31 : ac.eval (.tmp 31) = .slice (some ⟨b, o, none⟩) N c0 := hF.done 8 (31, SP.is (.slice (some ⟨b, o, none⟩) N c0)) (by rw [hD]; rfl) (hall 8 (by decide))
          have h32 : ac.eval (.tmp 32) = .int .i64 (i : Int) := hF.done 9 (32, SP.is (.int .i64 (i : Int))) (by rw [hD]; rfl) (hall 9 (by decide))
          have h33 : ac.eval (.tmp 33) = .int .i64 (m : Int) := hF.done 10 (33, SP.is (.int .i64 (m : Int))) (by rw [hD]; rfl) (hall 10 (by decide))
          have h34 : ac.eval (.tmp 34) = .pointer (some ⟨b, q2, none⟩) := hF.done 11 (34, SP.is (.pointer (some ⟨b, q2, none⟩))) (by rw [hD]; rfl) (hall 11 (by decide))
          have h35 : ac.eval (.tmp 35) = .pointer (some ⟨b, q2 + 21, none⟩) := hF.done 12 (35, SP.is (.pointer (some ⟨b, q2 + 21, none⟩))) (by rw [hD]; rfl) (hall 12 (by decide))
          have h36 : ac.eval (.tmp 36) = .int .i64 t2 := hF.done 13 (36, SP.is (.int .i64 t2)) (by rw [hD]; rfl) (hall 13 (by decide))
          have h37 : ac.eval (.tmp 37) = .bool false := hF.done 14 (37, SP.is (.bool false)) (by rw [hD]; rfl) (hall 14 (by decide))
          have h38 : ac.eval (.tmp 38) = .bool false := hF.done 15 (38, SP.is (.bool false)) (by rw [hD]; rfl) (hall 15 (by decide))
          have ea := hF.lay [(23, .int .i64 (i : Int)), (24, .bool true), (25, .bool true), (26, .slice (some ⟨b, o, none⟩) N c0), (27, .int .i64 (i : Int)), (28, .pointer (some ⟨b, q, none⟩)), (29, .pointer (some ⟨b, q + 21, none⟩)), (30, .int .i64 t1), (31, .slice (some ⟨b, o, none⟩) N c0), (32, .int .i64 (i : Int)), (33, .int .i64 (m : Int)), (34, .pointer (some ⟨b, q2, none⟩)), (35, .pointer (some ⟨b, q2 + 21, none⟩)), (36, .int .i64 t2), (37, .bool false), (38, .bool false)] (by rw [hD, hsz]; rfl) (by simp only [List.forall_mem_cons, List.not_mem_nil, false_implies, implies_true, and_true]; exact ⟨h23, h24, h25, h26, h27, h28, h29, h30, h31, h32, h33, h34, h35, h36, h37, h38⟩)
          rw [ha0] at ea
          simp only [List.foldl_cons, List.foldl_nil, List.setIfInBounds_toArray, List.set_cons_zero, List.set_cons_succ] at ea
          clear hF hall hr hl hD  zs2 zs7 ha0 hsz h23 h24 h25 h26 h27 h28 h29 h30 h31 h32 h33 h34 h35 h36 h37 h38
          subst ea
          obtain ⟨Y2, hY2⟩ : ∃ Y, Y = W := ⟨_, rfl⟩
          rw [← hY2] at hb1 ⊢
          have BY2 : Hid (Below X2.heap.size X2 Y2) := HBX.out.trans ((BY.out.trans (hb1.mono BY.out.size)).mono HBX.out.size)
          clear hY2 hb1
          go_wp2_with fail
          exact ⟨⟨i + 1, hlt, by go_num, BY2⟩, by simp [intOf]; omega⟩
    · have hiM : i = M := by omega
      rcases HFF.out with ⟨hMN2, hE⟩ | ⟨hMN2, el, we, hes2, hre⟩
      · have hin2 : ¬ ((i : Int) < (N : Int)) := by omega
        have HLK : Hid (∀ X, Below w.heap.size w X → Calls Tryz.prog 12 #[.agg MK.toArray, .slice A0 N c0] X fun r w' => ∃ g c, r = .returned (.slice (some ⟨g, 0, none⟩) (N + 1) c) ∧ Lw w' 51 32 (.slice (some ⟨g, 0, none⟩) (N + 1) c) (N + 1) (dcs kk es N) ∧ X.heap.size ≤ g ∧ Below X.heap.size X w') := fun X k => links_any kk HKK.out es HO.out.ok A0 N c0 (by rw [← hMN2]; exact HM.out) hNb X (HGW.out X k) (HES.out.be k) MK HMK.out
        have DR : Hid (Row wr bk MK 51) := Row.below D2.out HBX.out D2.out.lt
        have TR : Hid (Row wr bt MT 51) := Row.below T2.out HBX.out T2.out.lt
        obtain ⟨kd, hkd⟩ : ∃ k, k = lkf kk es := ⟨_, rfl⟩
        have HKD : Hid (kd.length = 32) := by rw [hkd]; exact lkf_len kk HKK.out _
        have HDC : Hid (∀ j u, (vB kd)[j]? = some u → (dcs kk es N)[N * 32 + j]? = some u) := fun j u hj => dcs_at kk HKK.out es N N (Nat.le_refl _) j u (by rw [List.take_of_length_le (by have := HM.out; omega), ← hkd]; exact hj)
        obtain ⟨BB, hBB⟩ : ∃ B, B = !decide (kd = tt) := ⟨_, rfl⟩
        have HBB : Hid ((!decide (kd = tt)) = BB) := hBB.symm
        have HEE : Hid (E = if BB = true then 154 else 0) := by
          show _ = _
          rw [hE, hBB, ← hkd]
          by_cases q : kd = tt
          · simp [q]
          · simp [q]
        clear hE hkd hBB hlt hiM hMN2 D2 T2
        go_upto_region 10 with (first
          | (refine wpList_load_w rfl 51 (.tmp 3) rfl bk 0 rfl (MK) _ DR.out.all Tryz.underlying51 rfl HIK.out ?_; simp only [Act.put, List.setIfInBounds_toArray, List.set_cons_zero, List.set_cons_succ])
          | (go_at_call 12; refine Calls.mono (HLK.out wr HBW.out) ?_; rintro e9 Y1 ⟨g, c, rfl, q1, q2, q3⟩; have LY : Hid (Lw Y1 51 32 (.slice (some ⟨g, 0, none⟩) (N + 1) c) (N + 1) (dcs kk es N)) := q1; have BY : Hid (Below wr.heap.size wr Y1) := q3; have TY : Hid (Row Y1 bt MT 51) := Row.below TR.out q3 TR.out.lt; clear q1 q2 q3))
        clear HLK DR TR
        obtain ⟨q5, hq5⟩ : ∃ q, q = 0 + N * 32 := ⟨_, rfl⟩
        have HQ5 : Hid (0 + N * 32 = q5) := hq5.symm
        have HRK : Hid (∀ X, Below Y1.heap.size Y1 X → X.rangeAt g q5 (vB kd)) := fun X k2 j u hj => by
          have := (Lw.be LY.out k2).range (N * 32 + j) u (HDC.out j u hj)
          rw [show q5 + j = 0 + (N * 32 + j) by omega]
          exact this
        have HRT : Hid (∀ X, Below Y1.heap.size Y1 X → X.rangeAt bt 0 (vB tt)) := fun X k2 => by
          have := (Row.below TY.out k2 TY.out.lt).all
          rwa [HMT.out] at this
        have HIK2 : Hid ((Tryz.prog.info? 51).map (·.size) = some (vB kd).length) := by show _ = _; rw [vB_length, HKD.out]; exact info_dg
        have HIT2 : Hid ((Tryz.prog.info? 51).map (·.size) = some (vB tt).length) := by show _ = _; rw [vB_length, HTT.out]; exact info_dg
        have HN1 : Hid (N < N + 1) := Nat.lt_succ_self _
        clear hq5 LY TY HDC
        have hb1 := Below.refl Y1.heap.size Y1
        refine wp_named fun a0 ha0 => ?_
        have hsz : a0.tmps.size = 49 := by rw [ha0]; rfl
        have zs2 : a0.eval (.tmp 2) = .slice A0 N c0 := by rw [ha0]; rfl
        have zs4 : a0.eval (.tmp 4) = .pointer (some ⟨bt, 0, none⟩) := by rw [ha0]; rfl
        have zs9 : a0.eval (.tmp 9) = .slice (some ⟨g, 0, none⟩) (N + 1) c := by rw [ha0]; rfl
        obtain ⟨D, hD⟩ : ∃ D : List (Tmp × SP), D = [(42, SP.is (.slice (some ⟨g, 0, none⟩) (N + 1) c)), (43, SP.is (.slice A0 N c0)), (44, SP.is (.int .i64 (N : Int))), (45, SP.is (.pointer (some ⟨g, q5, none⟩))), (46, SP.is (.agg (vB kd).toArray)), (47, SP.is (.agg (vB tt).toArray)), (48, SP.is (.bool BB))] := ⟨_, rfl⟩
        refine wp_region_down (by kernel_rfl) (fun listed ac W => listed.size = 7 ∧ Fp D a0 listed ac W ∧ Below Y1.heap.size Y1 W) ?_ ?_ ?_
        · exact ⟨by simp, Fp.start D a0 _ _, Below.drew hb1⟩
        · clear ha0 hb1  
          intro listed ac W k hI hdn hk
          obtain ⟨hl, hF, hb1⟩ := hI
          have hk1 : k < 7 := List.mem_range.1 (List.mem_filter.1 hk).1
          have hl2 : ∀ j, (listed.setIfInBounds j true).size = 7 := fun j => by rw [Array.size_setIfInBounds]; exact hl
          rcases (show k = 0 ∨ k = 1 ∨ k = 2 ∨ k = 3 ∨ k = 4 ∨ k = 5 ∨ k = 6 by omega) with rfl | rfl | rfl | rfl | rfl | rfl | rfl
          · have hk3 := hk
            exact wpOp_plain rfl rfl (wp_move_v (ac.eval (.tmp 9)) rfl rfl ⟨hl2 0, (hF.put 0 42 (SP.is (.slice (some ⟨g, 0, none⟩) (N + 1) c)) (ac.eval (.tmp 9)) (by rw [hD]; rfl) (((hF.keep 9 (by rw [hD]; rfl)).trans zs9)) (by rw [hD]; rfl) (by rw [hsz]; decide) (by rw [hl]; decide)), hb1⟩)
          · have hk3 := hk
            exact wpOp_plain rfl rfl (wp_move_v (ac.eval (.tmp 2)) rfl rfl ⟨hl2 1, (hF.put 1 43 (SP.is (.slice A0 N c0)) (ac.eval (.tmp 2)) (by rw [hD]; rfl) (((hF.keep 2 (by rw [hD]; rfl)).trans zs2)) (by rw [hD]; rfl) (by rw [hsz]; decide) (by rw [hl]; decide)), hb1⟩)
          · have hk3 := hk
            have e := (hF.done 1 (43, SP.is (.slice A0 N c0)) (by rw [hD]; rfl) (ready_dep hk 1 (by kernel_rfl)))
            exact wpOp_plain rfl rfl (wp_lenE rfl A0 N c0 e ⟨hl2 2, (hF.put 2 44 (SP.is (.int .i64 (N : Int))) (.int .i64 (N : Int)) (by rw [hD]; rfl) rfl (by rw [hD]; rfl) (by rw [hsz]; decide) (by rw [hl]; decide)), hb1⟩)
          · have hk3 := hk
            have ea := (hF.done 0 (42, SP.is (.slice (some ⟨g, 0, none⟩) (N + 1) c)) (by rw [hD]; rfl) (ready_dep hk 0 (by kernel_rfl)))
            have eb := (hF.done 2 (44, SP.is (.int .i64 (N : Int))) (by rw [hD]; rfl) (ready_dep hk 2 (by kernel_rfl)))
            exact wpOp_plain rfl rfl (wp_ixO 54 51 rfl g 0 (N + 1) c N 32 q5 HQ5.out ea eb HN1.out Tryz.underlying54 info_dg ⟨hl2 3, (hF.put 3 45 (SP.is (.pointer (some ⟨g, q5, none⟩))) (.pointer (some ⟨g, q5, none⟩)) (by rw [hD]; rfl) rfl (by rw [hD]; rfl) (by rw [hsz]; decide) (by rw [hl]; decide)), hb1⟩)
          · have hk3 := hk
            have ea := (hF.done 3 (45, SP.is (.pointer (some ⟨g, q5, none⟩))) (by rw [hD]; rfl) (ready_dep hk 3 (by kernel_rfl)))
            exact wpOp_plain rfl rfl (wp_load_mid 51 (.tmp 45) rfl g q5 ea (vB kd) _ (HRK.out W hb1) Tryz.underlying51 rfl HIK2.out ⟨hl2 4, (hF.put 4 46 (SP.is (.agg (vB kd).toArray)) (.agg (vB kd).toArray) (by rw [hD]; rfl) rfl (by rw [hD]; rfl) (by rw [hsz]; decide) (by rw [hl]; decide)), hb1⟩)
          · have hk3 := hk
            have ea := ((hF.keep 4 (by rw [hD]; rfl)).trans zs4)
            exact wpOp_plain rfl rfl (wp_load_mid 51 (.tmp 4) rfl bt 0 ea (vB tt) _ (HRT.out W hb1) Tryz.underlying51 rfl HIT2.out ⟨hl2 5, (hF.put 5 47 (SP.is (.agg (vB tt).toArray)) (.agg (vB tt).toArray) (by rw [hD]; rfl) rfl (by rw [hD]; rfl) (by rw [hsz]; decide) (by rw [hl]; decide)), hb1⟩)
          · have hk3 := hk
            have ea := (hF.done 4 (46, SP.is (.agg (vB kd).toArray)) (by rw [hD]; rfl) (ready_dep hk 4 (by kernel_rfl)))
            have eb := (hF.done 5 (47, SP.is (.agg (vB tt).toArray)) (by rw [hD]; rfl) (ready_dep hk 5 (by kernel_rfl)))
            exact wpOp_plain rfl rfl (wp_neD (.tmp 46) (.tmp 47) _ rfl kd tt HKD.out HTT.out ea eb BB HBB.out ⟨hl2 6, (hF.put 6 48 (SP.is (.bool BB)) (.bool BB) (by rw [hD]; rfl) rfl (by rw [hD]; rfl) (by rw [hsz]; decide) (by rw [hl]; decide)), hb1⟩)
        · clear hb1  
          intro listed ac W hI hr
          obtain ⟨hl, hF, hb1⟩ := hI
          have hall := all_listed (by kernel_rfl) hl hr
          have h42 : ac.eval (.tmp 42) = .slice (some ⟨g, 0, none⟩) (N + 1) c := hF.done 0 (42, SP.is (.slice (some ⟨g, 0, none⟩) (N + 1) c)) (by rw [hD]; rfl) (hall 0 (by decide))
          have h43 : ac.eval (.tmp 43) = .slice A0 N c0 := hF.done 1 (43, SP.is (.slice A0 N c0)) (by rw [hD]; rfl) (hall 1 (by decide))
          have h44 : ac.eval (.tmp 44) = .int .i64 (N : Int) := hF.done 2 (44, SP.is (.int .i64 (N : Int))) (by rw [hD]; rfl) (hall 2 (by decide))
          have h45 : ac.eval (.tmp 45) = .pointer (some ⟨g, q5, none⟩) := hF.done 3 (45, SP.is (.pointer (some ⟨g, q5, none⟩))) (by rw [hD]; rfl) (hall 3 (by decide))
          have h46 : ac.eval (.tmp 46) = .agg (vB kd).toArray := hF.done 4 (46, SP.is (.agg (vB kd).toArray)) (by rw [hD]; rfl) (hall 4 (by decide))
          have h47 : ac.eval (.tmp 47) = .agg (vB tt).toArray := hF.done 5 (47, SP.is (.agg (vB tt).toArray)) (by rw [hD]; rfl) (hall 5 (by decide))
          have h48 : ac.eval (.tmp 48) = .bool BB := hF.done 6 (48, SP.is (.bool BB)) (by rw [hD]; rfl) (hall 6 (by decide))
          have ea := hF.lay [(42, .slice (some ⟨g, 0, none⟩) (N + 1) c), (43, .slice A0 N c0), (44, .int .i64 (N : Int)), (45, .pointer (some ⟨g, q5, none⟩)), (46, .agg (vB kd).toArray), (47, .agg (vB tt).toArray), (48, .bool BB)] (by rw [hD, hsz]; rfl) (by simp only [List.forall_mem_cons, List.not_mem_nil, false_implies, implies_true, and_true]; exact ⟨h42, h43, h44, h45, h46, h47, h48⟩)
          rw [ha0] at ea
          simp only [List.foldl_cons, List.foldl_nil, List.setIfInBounds_toArray, List.set_cons_zero, List.set_cons_succ] at ea
          clear hF hall hr hl hD  zs2 zs4 zs9 ha0 hsz h42 h43 h44 h45 h46 h47 h48
          subst ea
          obtain ⟨Y2, hY2⟩ : ∃ Y, Y = W := ⟨_, rfl⟩
          rw [← hY2] at hb1 ⊢
          have BY2 : Hid (Below w.heap.size w Y2) := HBW.out.trans ((BY.out.trans (hb1.mono BY.out.size)).mono HBW.out.size)
          clear hY2 hb1 HRK HRT
          have hEE := HEE.out
          clear HEE HBB
          cases BB with
          | true =>
            go_wp2_with fail
            go_ret
            first | exact ⟨rfl, BY2.out⟩ | exact ⟨by rw [hEE]; rfl, BY2.out⟩
          | false =>
            go_wp2_with fail
            go_ret
            first | exact ⟨rfl, BY2.out⟩ | exact ⟨by rw [hEE]; rfl, BY2.out⟩
      · have hin : i < N := by omega
        have HIN : Hid (i < N) := hin
        have hin2 : (i : Int) < (N : Int) := by omega
        obtain ⟨b, o, A', c', hA0, hrg, hsl, hnil⟩ := hes2 i el (by rw [hiM, HM.out, List.getElem?_append_right (Nat.le_refl _), Nat.sub_self]; rfl)
        subst hA0
        obtain ⟨n1, hn1⟩ : ∃ n, n = el.d.length := ⟨_, rfl⟩
        rw [← hn1] at hrg hsl
        obtain ⟨L, hL⟩ : ∃ L, L = el.cells (.slice A' n1 c') := ⟨_, rfl⟩
        rw [← hL] at hrg
        obtain ⟨q, hq⟩ : ∃ q, q = o + i * 49 := ⟨_, rfl⟩
        have HQ : Hid (o + i * 49 = q) := hq.symm
        rw [← hq] at hrg
        have HI : Hid ((Tryz.prog.info? 46).map (·.size) = some L.length) := by rw [hL]; exact Ev.info we _
        have HR : Hid (∀ X, Below w.heap.size w X → X.rangeAt b q L) := fun X k => range_be hrg k
        obtain ⟨t1, ht1⟩ : ∃ t, t = el.tm := ⟨_, rfl⟩
        have HT0 : Hid (∀ X, Below w.heap.size w X → X.cell? ⟨b, q + 21, none⟩ = some (.int .i64 t1)) := fun X k => range_be hrg k 21 _ (by rw [hL, ht1]; exact Ev.time we _)
        rcases hre with ⟨hm, hE⟩ | ⟨hm, htm, hE⟩
        · have HCE : Hid (∀ X, Calls Tryz.prog 35 #[.agg L.toArray] X fun r w' => r = .returned (.int .i64 63) ∧ Below X.heap.size X w') := fun X => rcheck_no el we hm A' n1 c' hn1.symm L hL X
          clear hrg hsl hnil hn1 hL hq ht1 hm we hes2 hMN2 HT0 hlt hiM
          subst hE
          go_upto_region 5 with (first
            | (refine wpList_ixO 52 46 (.tmp 16) (.tmp 17) rfl b o N c0 i 49 q HQ.out rfl rfl HIN.out Tryz.underlying52 info_ent rfl ?_; simp only [Act.put, List.setIfInBounds_toArray, List.set_cons_zero, List.set_cons_succ])
            | (refine wpList_load_w rfl 46 (.tmp 18) rfl b q rfl (L) _ (HR.out wr HBW.out) Tryz.underlying46 rfl HI.out ?_; simp only [Act.put, List.setIfInBounds_toArray, List.set_cons_zero, List.set_cons_succ])
            | (go_at_call 35; refine Calls.mono (HCE.out wr) ?_; rintro e9 Y1 ⟨rfl, q3⟩; have BY : Hid (Below wr.heap.size wr Y1) := q3; clear q3))
          have BY2 : Hid (Below w.heap.size w Y1) := HBW.out.trans (BY.out.mono HBW.out.size)
          clear HCE HR
          go_wp2_with fail
          go_ret
          exact ⟨rfl, BY2.out⟩
        · have HCE : Hid (∀ X, Calls Tryz.prog 35 #[.agg L.toArray] X fun r w' => r = .returned (.int .i64 0) ∧ Below X.heap.size X w') := fun X => rcheck_ok el we hm A' n1 c' hn1.symm L hL X
          have hz : i ≠ 0 := fun q => by
            have h9 := HM.out
            rw [show es.length = 0 by omega] at htm
            have := hm.1
            simp only [ltm] at htm
            omega
          obtain ⟨m, him⟩ : ∃ m, i = m + 1 := ⟨i - 1, by omega⟩
          obtain ⟨e2, he2⟩ : ∃ e, es[m]? = some e := ⟨_, List.getElem?_eq_getElem (by have := HM.out; omega)⟩
          obtain ⟨b2, o2, A2, c2, hA2, hrg2, _, _⟩ := HES.out m e2 he2
          simp only [Option.some.injEq, Addr.mk.injEq, and_true] at hA2
          obtain ⟨rfl, rfl⟩ := hA2
          have we2 := (HO.out.wf he2).1
          obtain ⟨q2, hq2⟩ : ∃ q, q = o + m * 49 := ⟨_, rfl⟩
          have HQ2 : Hid (o + m * 49 = q2) := hq2.symm
          rw [← hq2] at hrg2
          obtain ⟨t2, ht2⟩ : ∃ t, t = e2.tm := ⟨_, rfl⟩
          have HTT2 : Hid (∀ X, Below w.heap.size w X → X.cell? ⟨b, q2 + 21, none⟩ = some (.int .i64 t2)) := fun X k => range_be hrg2 k 21 _ (by rw [ht2]; exact Ev.time we2 _)
          have HSU : Hid (IntKind.i64.wrap ((i : Int) - 1) = (m : Int)) := by
            show _ = _
            rw [show (i : Int) - 1 = (m : Int) by omega]
            simp [IntKind.wrap, IntKind.bits, IntKind.signed]
            omega
          have HG1 : Hid (decide ((0 : Int) < (i : Int)) = true) := decide_eq_true (by omega)
          have HMN : Hid (m < N) := by show _ < _; omega
          have hltm : ltm es i = t2 := by rw [him, ht2]; simp only [ltm]; rw [he2]; rfl
          have HLT : Hid (decide (t1 < t2) = true) := decide_eq_true (by rw [← hltm, ht1, hiM, HM.out]; exact htm)
          clear hrg hsl hnil hn1 hL hq ht1 hm we hes2 hMN2 hz he2 hrg2 we2 hq2 ht2 hltm him htm hlt hiM
          subst hE
          go_upto_region 5 with (first
            | (refine wpList_ixO 52 46 (.tmp 16) (.tmp 17) rfl b o N c0 i 49 q HQ.out rfl rfl HIN.out Tryz.underlying52 info_ent rfl ?_; simp only [Act.put, List.setIfInBounds_toArray, List.set_cons_zero, List.set_cons_succ])
            | (refine wpList_load_w rfl 46 (.tmp 18) rfl b q rfl (L) _ (HR.out wr HBW.out) Tryz.underlying46 rfl HI.out ?_; simp only [Act.put, List.setIfInBounds_toArray, List.set_cons_zero, List.set_cons_succ])
            | (go_at_call 35; refine Calls.mono (HCE.out wr) ?_; rintro e9 Y1 ⟨rfl, q3⟩; have BY : Hid (Below wr.heap.size wr Y1) := q3; clear q3))
          have HBY : Hid (Below w.heap.size w Y1) := HBW.out.trans (BY.out.mono HBW.out.size)
          have HT1 : Hid (∀ X, Below Y1.heap.size Y1 X → X.cell? ⟨b, q + 21, none⟩ = some (.int .i64 t1)) := fun X k => HT0.out X (HBY.out.trans (k.mono HBY.out.size))
          have HT2 : Hid (∀ X, Below Y1.heap.size Y1 X → X.cell? ⟨b, q2 + 21, none⟩ = some (.int .i64 t2)) := fun X k => HTT2.out X (HBY.out.trans (k.mono HBY.out.size))
          clear HCE HR HT0 HTT2
          go_upto_region 7 with fail
          have hb1 := Below.refl Y1.heap.size Y1
          refine wp_named fun a0 ha0 => ?_
          have hsz : a0.tmps.size = 49 := by rw [ha0]; rfl
          have zs2 : a0.eval (.tmp 2) = .slice (some ⟨b, o, none⟩) N c0 := by rw [ha0]; rfl
          have zs7 : a0.eval (.tmp 7) = .int .i64 (i : Int) := by rw [ha0]; rfl
          obtain ⟨D, hD⟩ : ∃ D : List (Tmp × SP), D = [(23, SP.is (.int .i64 (i : Int))), (24, SP.is (.bool true)), (25, SP.is (.bool true)), (26, SP.is (.slice (some ⟨b, o, none⟩) N c0)), (27, SP.is (.int .i64 (i : Int))), (28, SP.is (.pointer (some ⟨b, q, none⟩))), (29, SP.is (.pointer (some ⟨b, q + 21, none⟩))), (30, SP.is (.int .i64 t1)), (31, SP.is (.slice (some ⟨b, o, none⟩) N c0)), (32, SP.is (.int .i64 (i : Int))), (33, SP.is (.int .i64 (m : Int))), (34, SP.is (.pointer (some ⟨b, q2, none⟩))), (35, SP.is (.pointer (some ⟨b, q2 + 21, none⟩))), (36, SP.is (.int .i64 t2)), (37, SP.is (.bool true)), (38, SP.is (.bool true))] := ⟨_, rfl⟩
          refine wp_region_down (by kernel_rfl) (fun listed ac W => listed.size = 16 ∧ Fp D a0 listed ac W ∧ Below Y1.heap.size Y1 W) ?_ ?_ ?_
          · exact ⟨by simp, Fp.start D a0 _ _, Below.drew hb1⟩
          · clear ha0 hb1  
            intro listed ac W k hI hdn hk
            obtain ⟨hl, hF, hb1⟩ := hI
            have hk1 : k < 16 := List.mem_range.1 (List.mem_filter.1 hk).1
            have hl2 : ∀ j, (listed.setIfInBounds j true).size = 16 := fun j => by rw [Array.size_setIfInBounds]; exact hl
            rcases (show k = 0 ∨ k = 1 ∨ k = 2 ∨ k = 3 ∨ k = 4 ∨ k = 5 ∨ k = 6 ∨ k = 7 ∨ k = 8 ∨ k = 9 ∨ k = 10 ∨ k = 11 ∨ k = 12 ∨ k = 13 ∨ k = 14 ∨ k = 15 by omega) with rfl | rfl | rfl | rfl | rfl | rfl | rfl | rfl | rfl | rfl | rfl | rfl | rfl | rfl | rfl | rfl
            · have hk3 := hk
              exact wpOp_plain rfl rfl (wp_move_v (ac.eval (.tmp 7)) rfl rfl ⟨hl2 0, (hF.put 0 23 (SP.is (.int .i64 (i : Int))) (ac.eval (.tmp 7)) (by rw [hD]; rfl) (((hF.keep 7 (by rw [hD]; rfl)).trans zs7)) (by rw [hD]; rfl) (by rw [hsz]; decide) (by rw [hl]; decide)), hb1⟩)
            · have hk3 := hk
              have e := (hF.done 0 (23, SP.is (.int .i64 (i : Int))) (by rw [hD]; rfl) (ready_dep hk 0 (by kernel_rfl)))
              exact wpOp_plain rfl rfl (wp_gtrJ rfl rfl _ 0 true e rfl HG1.out ⟨hl2 1, (hF.put 1 24 (SP.is (.bool true)) (.bool true) (by rw [hD]; rfl) rfl (by rw [hD]; rfl) (by rw [hsz]; decide) (by rw [hl]; decide)), hb1⟩)
            · have hk3 := hk
              exact wpOp_plain rfl rfl (wp_move_v (ac.eval (.tmp 24)) rfl rfl ⟨hl2 2, (hF.put 2 25 (SP.is (.bool true)) (ac.eval (.tmp 24)) (by rw [hD]; rfl) ((hF.done 1 (24, SP.is (.bool true)) (by rw [hD]; rfl) (ready_dep hk 1 (by kernel_rfl)))) (by rw [hD]; rfl) (by rw [hsz]; decide) (by rw [hl]; decide)), hb1⟩)
            · have hk3 := hk
              exact wpOp_wanted rfl (wanted_g (g := 2) (b := true) rfl rfl (hF.done 2 (25, SP.is (.bool true)) (by rw [hD]; rfl) (ready_dep hk 2 (by kernel_rfl))) (by rw [hF.size, hsz]; decide)) (wp_move_v (ac.eval (.tmp 2)) rfl rfl ⟨hl2 3, (hF.put 3 26 (SP.is (.slice (some ⟨b, o, none⟩) N c0)) (ac.eval (.tmp 2)) (by rw [hD]; rfl) (((hF.keep 2 (by rw [hD]; rfl)).trans zs2)) (by rw [hD]; rfl) (by rw [hsz]; decide) (by rw [hl]; decide)), hb1⟩)
            · have hk3 := hk
              exact wpOp_wanted rfl (wanted_g (g := 2) (b := true) rfl rfl (hF.done 2 (25, SP.is (.bool true)) (by rw [hD]; rfl) (ready_dep hk 2 (by kernel_rfl))) (by rw [hF.size, hsz]; decide)) (wp_move_v (ac.eval (.tmp 7)) rfl rfl ⟨hl2 4, (hF.put 4 27 (SP.is (.int .i64 (i : Int))) (ac.eval (.tmp 7)) (by rw [hD]; rfl) (((hF.keep 7 (by rw [hD]; rfl)).trans zs7)) (by rw [hD]; rfl) (by rw [hsz]; decide) (by rw [hl]; decide)), hb1⟩)
            · have hk3 := hk
              have ea := (hF.done 3 (26, SP.is (.slice (some ⟨b, o, none⟩) N c0)) (by rw [hD]; rfl) (ready_dep hk 3 (by kernel_rfl)))
              have eb := (hF.done 4 (27, SP.is (.int .i64 (i : Int))) (by rw [hD]; rfl) (ready_dep hk 4 (by kernel_rfl)))
              exact wpOp_wanted rfl (wanted_g (g := 2) (b := true) rfl rfl (hF.done 2 (25, SP.is (.bool true)) (by rw [hD]; rfl) (ready_dep hk 2 (by kernel_rfl))) (by rw [hF.size, hsz]; decide)) (wp_ixO 52 46 rfl b o N c0 i 49 q HQ.out ea eb HIN.out Tryz.underlying52 info_ent ⟨hl2 5, (hF.put 5 28 (SP.is (.pointer (some ⟨b, q, none⟩))) (.pointer (some ⟨b, q, none⟩)) (by rw [hD]; rfl) rfl (by rw [hD]; rfl) (by rw [hsz]; decide) (by rw [hl]; decide)), hb1⟩)
            · have hk3 := hk
              have e := (hF.done 5 (28, SP.is (.pointer (some ⟨b, q, none⟩))) (by rw [hD]; rfl) (ready_dep hk 5 (by kernel_rfl)))
              exact wpOp_wanted rfl (wanted_g (g := 2) (b := true) rfl rfl (hF.done 2 (25, SP.is (.bool true)) (by rw [hD]; rfl) (ready_dep hk 2 (by kernel_rfl))) (by rw [hF.size, hsz]; decide)) (wp_fe2 rfl b q e ⟨hl2 6, (hF.put 6 29 (SP.is (.pointer (some ⟨b, q + 21, none⟩))) (.pointer (some ⟨b, q + 21, none⟩)) (by rw [hD]; rfl) rfl (by rw [hD]; rfl) (by rw [hsz]; decide) (by rw [hl]; decide)), hb1⟩)
            · have hk3 := hk
              have e := (hF.done 6 (29, SP.is (.pointer (some ⟨b, q + 21, none⟩))) (by rw [hD]; rfl) (ready_dep hk 6 (by kernel_rfl)))
              exact wpOp_wanted rfl (wanted_g (g := 2) (b := true) rfl rfl (hF.done 2 (25, SP.is (.bool true)) (by rw [hD]; rfl) (ready_dep hk 2 (by kernel_rfl))) (by rw [hF.size, hsz]; decide)) (wp_ldT rfl b (q + 21) e t1 (HT1.out W hb1) ⟨hl2 7, (hF.put 7 30 (SP.is (.int .i64 t1)) (.int .i64 t1) (by rw [hD]; rfl) rfl (by rw [hD]; rfl) (by rw [hsz]; decide) (by rw [hl]; decide)), hb1⟩)
            · have hk3 := hk
              exact wpOp_wanted rfl (wanted_g (g := 2) (b := true) rfl rfl (hF.done 2 (25, SP.is (.bool true)) (by rw [hD]; rfl) (ready_dep hk 2 (by kernel_rfl))) (by rw [hF.size, hsz]; decide)) (wp_move_v (ac.eval (.tmp 2)) rfl rfl ⟨hl2 8, (hF.put 8 31 (SP.is (.slice (some ⟨b, o, none⟩) N c0)) (ac.eval (.tmp 2)) (by rw [hD]; rfl) (((hF.keep 2 (by rw [hD]; rfl)).trans zs2)) (by rw [hD]; rfl) (by rw [hsz]; decide) (by rw [hl]; decide)), hb1⟩)
            · have hk3 := hk
              exact wpOp_wanted rfl (wanted_g (g := 2) (b := true) rfl rfl (hF.done 2 (25, SP.is (.bool true)) (by rw [hD]; rfl) (ready_dep hk 2 (by kernel_rfl))) (by rw [hF.size, hsz]; decide)) (wp_move_v (ac.eval (.tmp 7)) rfl rfl ⟨hl2 9, (hF.put 9 32 (SP.is (.int .i64 (i : Int))) (ac.eval (.tmp 7)) (by rw [hD]; rfl) (((hF.keep 7 (by rw [hD]; rfl)).trans zs7)) (by rw [hD]; rfl) (by rw [hsz]; decide) (by rw [hl]; decide)), hb1⟩)
            · have hk3 := hk
              have e := (hF.done 9 (32, SP.is (.int .i64 (i : Int))) (by rw [hD]; rfl) (ready_dep hk 9 (by kernel_rfl)))
              exact wpOp_wanted rfl (wanted_g (g := 2) (b := true) rfl rfl (hF.done 2 (25, SP.is (.bool true)) (by rw [hD]; rfl) (ready_dep hk 2 (by kernel_rfl))) (by rw [hF.size, hsz]; decide)) (wp_subJ rfl rfl _ 1 _ e rfl HSU.out ⟨hl2 10, (hF.put 10 33 (SP.is (.int .i64 (m : Int))) (.int .i64 (m : Int)) (by rw [hD]; rfl) rfl (by rw [hD]; rfl) (by rw [hsz]; decide) (by rw [hl]; decide)), hb1⟩)
            · have hk3 := hk
              have ea := (hF.done 8 (31, SP.is (.slice (some ⟨b, o, none⟩) N c0)) (by rw [hD]; rfl) (ready_dep hk 8 (by kernel_rfl)))
              have eb := (hF.done 10 (33, SP.is (.int .i64 (m : Int))) (by rw [hD]; rfl) (ready_dep hk 10 (by kernel_rfl)))
              exact wpOp_wanted rfl (wanted_g (g := 2) (b := true) rfl rfl (hF.done 2 (25, SP.is (.bool true)) (by rw [hD]; rfl) (ready_dep hk 2 (by kernel_rfl))) (by rw [hF.size, hsz]; decide)) (wp_ixO 52 46 rfl b o N c0 m 49 q2 HQ2.out ea eb HMN.out Tryz.underlying52 info_ent ⟨hl2 11, (hF.put 11 34 (SP.is (.pointer (some ⟨b, q2, none⟩))) (.pointer (some ⟨b, q2, none⟩)) (by rw [hD]; rfl) rfl (by rw [hD]; rfl) (by rw [hsz]; decide) (by rw [hl]; decide)), hb1⟩)
            · have hk3 := hk
              have e := (hF.done 11 (34, SP.is (.pointer (some ⟨b, q2, none⟩))) (by rw [hD]; rfl) (ready_dep hk 11 (by kernel_rfl)))
              exact wpOp_wanted rfl (wanted_g (g := 2) (b := true) rfl rfl (hF.done 2 (25, SP.is (.bool true)) (by rw [hD]; rfl) (ready_dep hk 2 (by kernel_rfl))) (by rw [hF.size, hsz]; decide)) (wp_fe2 rfl b q2 e ⟨hl2 12, (hF.put 12 35 (SP.is (.pointer (some ⟨b, q2 + 21, none⟩))) (.pointer (some ⟨b, q2 + 21, none⟩)) (by rw [hD]; rfl) rfl (by rw [hD]; rfl) (by rw [hsz]; decide) (by rw [hl]; decide)), hb1⟩)
            · have hk3 := hk
              have e := (hF.done 12 (35, SP.is (.pointer (some ⟨b, q2 + 21, none⟩))) (by rw [hD]; rfl) (ready_dep hk 12 (by kernel_rfl)))
              exact wpOp_wanted rfl (wanted_g (g := 2) (b := true) rfl rfl (hF.done 2 (25, SP.is (.bool true)) (by rw [hD]; rfl) (ready_dep hk 2 (by kernel_rfl))) (by rw [hF.size, hsz]; decide)) (wp_ldT rfl b (q2 + 21) e t2 (HT2.out W hb1) ⟨hl2 13, (hF.put 13 36 (SP.is (.int .i64 t2)) (.int .i64 t2) (by rw [hD]; rfl) rfl (by rw [hD]; rfl) (by rw [hsz]; decide) (by rw [hl]; decide)), hb1⟩)
            · have hk3 := hk
              have ea := (hF.done 7 (30, SP.is (.int .i64 t1)) (by rw [hD]; rfl) (ready_dep hk 7 (by kernel_rfl)))
              have eb := (hF.done 13 (36, SP.is (.int .i64 t2)) (by rw [hD]; rfl) (ready_dep hk 13 (by kernel_rfl)))
              exact wpOp_wanted rfl (wanted_g (g := 2) (b := true) rfl rfl (hF.done 2 (25, SP.is (.bool true)) (by rw [hD]; rfl) (ready_dep hk 2 (by kernel_rfl))) (by rw [hF.size, hsz]; decide)) (wp_lssJ rfl rfl _ _ true ea eb HLT.out ⟨hl2 14, (hF.put 14 37 (SP.is (.bool true)) (.bool true) (by rw [hD]; rfl) rfl (by rw [hD]; rfl) (by rw [hsz]; decide) (by rw [hl]; decide)), hb1⟩)
            · have hk3 := hk
              have ec := (hF.done 2 (25, SP.is (.bool true)) (by rw [hD]; rfl) (ready_dep hk 2 (by kernel_rfl)))
              have e := (hF.done 14 (37, SP.is (.bool true)) (by rw [hD]; rfl) (ready_dep hk 14 (by kernel_rfl)))
              exact wpOp_plain rfl rfl (wp_pick_v (.bool true) rfl ec e ⟨hl2 15, (hF.put 15 38 (SP.is (.bool true)) (.bool true) (by rw [hD]; rfl) rfl (by rw [hD]; rfl) (by rw [hsz]; decide) (by rw [hl]; decide)), hb1⟩)
          · clear hb1  
            intro listed ac W hI hr
            obtain ⟨hl, hF, hb1⟩ := hI
            have hall := all_listed (by kernel_rfl) hl hr
            have h23 : ac.eval (.tmp 23) = .int .i64 (i : Int) := hF.done 0 (23, SP.is (.int .i64 (i : Int))) (by rw [hD]; rfl) (hall 0 (by decide))
            have h24 : ac.eval (.tmp 24) = .bool true := hF.done 1 (24, SP.is (.bool true)) (by rw [hD]; rfl) (hall 1 (by decide))
            have h25 : ac.eval (.tmp 25) = .bool true := hF.done 2 (25, SP.is (.bool true)) (by rw [hD]; rfl) (hall 2 (by decide))
            have h26 : ac.eval (.tmp 26) = .slice (some ⟨b, o, none⟩) N c0 := hF.done 3 (26, SP.is (.slice (some ⟨b, o, none⟩) N c0)) (by rw [hD]; rfl) (hall 3 (by decide))
            have h27 : ac.eval (.tmp 27) = .int .i64 (i : Int) := hF.done 4 (27, SP.is (.int .i64 (i : Int))) (by rw [hD]; rfl) (hall 4 (by decide))
            have h28 : ac.eval (.tmp 28) = .pointer (some ⟨b, q, none⟩) := hF.done 5 (28, SP.is (.pointer (some ⟨b, q, none⟩))) (by rw [hD]; rfl) (hall 5 (by decide))
            have h29 : ac.eval (.tmp 29) = .pointer (some ⟨b, q + 21, none⟩) := hF.done 6 (29, SP.is (.pointer (some ⟨b, q + 21, none⟩))) (by rw [hD]; rfl) (hall 6 (by decide))
            have h30 : ac.eval (.tmp 30) = .int .i64 t1 := hF.done 7 (30, SP.is (.int .i64 t1)) (by rw [hD]; rfl) (hall 7 (by decide))
            have h31 : ac.eval (.tmp 31) = .slice (some ⟨b, o, none⟩) N c0 := hF.done 8 (31, SP.is (.slice (some ⟨b, o, none⟩) N c0)) (by rw [hD]; rfl) (hall 8 (by decide))
            have h32 : ac.eval (.tmp 32) = .int .i64 (i : Int) := hF.done 9 (32, SP.is (.int .i64 (i : Int))) (by rw [hD]; rfl) (hall 9 (by decide))
            have h33 : ac.eval (.tmp 33) = .int .i64 (m : Int) := hF.done 10 (33, SP.is (.int .i64 (m : Int))) (by rw [hD]; rfl) (hall 10 (by decide))
            have h34 : ac.eval (.tmp 34) = .pointer (some ⟨b, q2, none⟩) := hF.done 11 (34, SP.is (.pointer (some ⟨b, q2, none⟩))) (by rw [hD]; rfl) (hall 11 (by decide))
            have h35 : ac.eval (.tmp 35) = .pointer (some ⟨b, q2 + 21, none⟩) := hF.done 12 (35, SP.is (.pointer (some ⟨b, q2 + 21, none⟩))) (by rw [hD]; rfl) (hall 12 (by decide))
            have h36 : ac.eval (.tmp 36) = .int .i64 t2 := hF.done 13 (36, SP.is (.int .i64 t2)) (by rw [hD]; rfl) (hall 13 (by decide))
            have h37 : ac.eval (.tmp 37) = .bool true := hF.done 14 (37, SP.is (.bool true)) (by rw [hD]; rfl) (hall 14 (by decide))
            have h38 : ac.eval (.tmp 38) = .bool true := hF.done 15 (38, SP.is (.bool true)) (by rw [hD]; rfl) (hall 15 (by decide))
            have ea := hF.lay [(23, .int .i64 (i : Int)), (24, .bool true), (25, .bool true), (26, .slice (some ⟨b, o, none⟩) N c0), (27, .int .i64 (i : Int)), (28, .pointer (some ⟨b, q, none⟩)), (29, .pointer (some ⟨b, q + 21, none⟩)), (30, .int .i64 t1), (31, .slice (some ⟨b, o, none⟩) N c0), (32, .int .i64 (i : Int)), (33, .int .i64 (m : Int)), (34, .pointer (some ⟨b, q2, none⟩)), (35, .pointer (some ⟨b, q2 + 21, none⟩)), (36, .int .i64 t2), (37, .bool true), (38, .bool true)] (by rw [hD, hsz]; rfl) (by simp only [List.forall_mem_cons, List.not_mem_nil, false_implies, implies_true, and_true]; exact ⟨h23, h24, h25, h26, h27, h28, h29, h30, h31, h32, h33, h34, h35, h36, h37, h38⟩)
            rw [ha0] at ea
            simp only [List.foldl_cons, List.foldl_nil, List.setIfInBounds_toArray, List.set_cons_zero, List.set_cons_succ] at ea
            clear hF hall hr hl hD  zs2 zs7 ha0 hsz h23 h24 h25 h26 h27 h28 h29 h30 h31 h32 h33 h34 h35 h36 h37 h38
            subst ea
            obtain ⟨Y2, hY2⟩ : ∃ Y, Y = W := ⟨_, rfl⟩
            rw [← hY2] at hb1 ⊢
            have BY2 : Hid (Below X2.heap.size X2 Y2) := HBX.out.trans ((BY.out.trans (hb1.mono BY.out.size)).mono HBX.out.size)
            clear hY2 hb1
            have BY3 : Hid (Below w.heap.size w Y2) := B2.out.trans (BY2.out.mono B2.out.size)
            go_wp2_with fail
            go_ret
            exact ⟨rfl, BY3.out⟩

end Go.Proofs.YtknabkoddickaaaGreatDoor
