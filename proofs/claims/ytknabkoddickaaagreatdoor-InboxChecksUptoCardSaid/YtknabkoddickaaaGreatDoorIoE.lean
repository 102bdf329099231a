/-
  Links.
-/
import Derived.Test.YtknabkoddickaaaGreatDoorIbM

namespace Go.Proofs.YtknabkoddickaaaGreatDoor
open Go Go.RowKit
open Sha

theorem Ev.ext' {e f : Ev} (h1 : e.k = f.k) (h2 : e.sd = f.sd) (h3 : e.tm = f.tm) (h4 : e.tk = f.tk) (h5 : e.rc = f.rc) (h6 : e.am = f.am) (h7 : e.gs = f.gs) (h8 : e.d = f.d) : e = f := by
  cases e; cases f; simp_all
instance evDec : DecidableEq Ev := fun e f =>
  if h : e.k = f.k ∧ e.sd = f.sd ∧ e.tm = f.tm ∧ e.tk = f.tk ∧ e.rc = f.rc ∧ e.am = f.am ∧ e.gs = f.gs ∧ e.d = f.d then .isTrue (Ev.ext' h.1 h.2.1 h.2.2.1 h.2.2.2.1 h.2.2.2.2.1 h.2.2.2.2.2.1 h.2.2.2.2.2.2.1 h.2.2.2.2.2.2.2)
  else .isFalse (fun z => h (by subst z; exact ⟨rfl, rfl, rfl, rfl, rfl, rfl, rfl, rfl⟩))
/-- What is hashed for the link behind an entry. -/
def txt (k : List (BitVec 8)) (es : List Ev) (i : Nat) : List (BitVec 8) := lkf k (es.take i) ++ (match es[i]? with | some e => e.bytes | none => [])
/-- Two texts of one digest at one place. -/
def clB (k : List (BitVec 8)) (es fs : List Ev) (i : Nat) : Bool := !decide (txt k es i = txt k fs i) && decide (dig (txt k es i) = dig (txt k fs i))
def clN (k : List (BitVec 8)) (es fs : List Ev) (n : Nat) : Bool := (List.range n).any (clB k es fs)
/-- How many first entries two rows have in common. -/
def forkN (es fs : List Ev) : Nat → Nat
  | 0 => 0
  | n + 1 => if forkN es fs n = n ∧ es[n]? = fs[n]? then n + 1 else forkN es fs n
end Go.Proofs.YtknabkoddickaaaGreatDoor

namespace Go.Proofs.YtknabkoddickaaaGreatDoor
open Go Go.RowKit
open Sha

section
variable {Q : Exit → Act → World → Prop} {o : Oper} {a : Act} {w : World} {K : Act → World → Prop}
theorem wp_notT {P : Program} {t : TypeId} {x : Operand} (b : Bool) (ho : o.op = .unOp .not t x) (hx : a.eval x = .bool b) (h : K (a.put o.dst (.bool (!b))) w) : Oper.wp P o a w K Q := by
  unfold Oper.wp execOp
  simp only [ho, hx]
  go_simp
  exact h
theorem wp_allocDg (ho : o.op = .alloc 51) (h : K (a.put o.dst (.pointer (some ⟨w.heap.size, 0, none⟩))) (w.alloc (.cells (vB zK).toArray 51))) : Oper.wp Tryz.prog o a w K Q := by
  obtain ⟨dst, op, ty, pos, after, guard⟩ := o
  simp only at ho
  subst ho
  unfold Oper.wp
  go_simp
  exact h
end
end Go.Proofs.YtknabkoddickaaaGreatDoor

namespace Go.Proofs.YtknabkoddickaaaGreatDoor
open Go Go.RowKit
open Sha

theorem lw_row {w : World} {g : Nat} {L : List Value} (r : Row w g L 51) (hL : L.length = 32) : Lw w 51 32 (.slice (some ⟨g, 0, none⟩) (0 + 1) 1) (0 + 1) L :=
  ⟨by rw [hL], .inr ⟨g, 1, L.toArray, rfl, Nat.zero_le _, r, Nat.le_refl _, by unfold maxLen; omega, by simp [hL], by simp [hL, List.take_of_length_le]⟩⟩
theorem info_dgAll : (Tryz.prog.info? 51).map (fun i => (i.size, i.bytes)) = some (32, 32) := by kernel_rfl
theorem info_dgZ : ((Tryz.prog.info? 51).bind (·.zero)).map (·.cells.size) = some 32 := by kernel_rfl
theorem info_dgO : ∃ ie z, Tryz.prog.info? 51 = some ie ∧ ie.zero = some z ∧ ie.size = 32 ∧ ie.bytes = 32 ∧ z.cells.size = 32 := by
  have i1 := info_dgAll
  have i2 := info_dgZ
  cases hi : Tryz.prog.info? 51 with
  | none => rw [hi] at i1; cases i1
  | some ie =>
    rw [hi] at i1 i2
    simp only [Option.map_some, Option.some.injEq, Prod.mk.injEq] at i1
    cases hz : ie.zero with
    | none => simp [hz] at i2
    | some z => exact ⟨ie, z, rfl, hz, i1.1, i1.2, by simpa [hz] using i2⟩
section
variable {ops : Array Oper} {rest : List Oper} {op : Oper} {a : Act} {w : World} {Q : Exit → Act → World → Prop}
theorem wpList_bDg (hgd : op.guard = none) (x : Operand) (ho : op.op = .buildSlice 54 1 #[(0, x)]) (L : List Value) (hL : L.length = 32) (hx : a.eval x = .agg L.toArray)
    (h : ∀ X, Row X w.heap.size L 51 → Below w.heap.size w X → wpList Tryz.prog ops Q rest (a.put op.dst (.slice (some ⟨w.heap.size, 0, none⟩) 1 1)) X) : wpList Tryz.prog ops Q (op :: rest) a w := by
  obtain ⟨ie, z, h1, h2, h3, _, h4⟩ := info_dgO
  refine wpList_buildSlice hgd 54 51 1 _ ho L.toArray ie z Tryz.underlying54 h1 h2 (by rw [h3]; omega) (by rw [h3]; omega) ?_ (h _ (Row.new' rfl rfl) ((Below.refl _ _).alloc (Nat.le_refl _) _))
  rw [show (Array.map (fun (p : Nat × Operand) => match p with | (i, x) => (i, a.eval x)) #[(0, x)]).toList = [(0, a.eval x)] by simp, hx, h3]
  exact fill_oneI 32 (by decide) _ _ (by simp [hL]) (by simp)
end
/-- The links behind each of some entries, as cells. -/
def dcs (k : List (BitVec 8)) (es : List Ev) : Nat → List Value
  | 0 => vB (lkf k (es.take 0))
  | n + 1 => dcs k es n ++ vB (lkf k (es.take (n + 1)))
theorem dcs_len (k : List (BitVec 8)) (hk : k.length = 32) (es : List Ev) : ∀ n, (dcs k es n).length = (n + 1) * 32
  | 0 => by unfold dcs; rw [vB_length, lkf_len k hk]
  | n + 1 => by unfold dcs; rw [List.length_append, dcs_len k hk es n, vB_length, lkf_len k hk]; omega
theorem dcs_at (k : List (BitVec 8)) (hk : k.length = 32) (es : List Ev) : ∀ n i, i ≤ n → ∀ j u, (vB (lkf k (es.take i)))[j]? = some u → (dcs k es n)[i * 32 + j]? = some u
  | 0, i, hi, j, u, h => by
    have : i = 0 := by omega
    subst this
    unfold dcs
    rw [Nat.zero_mul, Nat.zero_add]
    exact h
  | n + 1, i, hi, j, u, h => by
    have hj : j < 32 := by have := (List.getElem?_eq_some_iff.1 h).1; rwa [vB_length, lkf_len k hk] at this
    unfold dcs
    by_cases e : i = n + 1
    · subst e
      rw [List.getElem?_append_right (by rw [dcs_len k hk]; omega), dcs_len k hk, show (n + 1) * 32 + j - (n + 1) * 32 = j by omega]
      exact h
    · rw [List.getElem?_append_left (by rw [dcs_len k hk]; omega)]
      exact dcs_at k hk es n i (by omega) j u h
set_option maxRecDepth 100000 in
set_option maxHeartbeats 8000000 in
theorem links_any (k : List (BitVec 8)) (hk : k.length = 32) (es : List Ev) (ho : ∀ e ∈ es, e.Wf ∧ e.May) (A1 : Option Addr) (N c1 : Nat) (hN : N = es.length) (hNb : N ≤ 100000) (w : World) (hG : Given w) (h1 : EsAt w A1 es) (KK : List Value) (hKK : KK = vB k) :
    Calls Tryz.prog 12 #[.agg KK.toArray, .slice A1 N c1] w fun r w' => ∃ g c, r = .returned (.slice (some ⟨g, 0, none⟩) (N + 1) c) ∧ Lw w' 51 32 (.slice (some ⟨g, 0, none⟩) (N + 1) c) (N + 1) (dcs k es N) ∧ w.heap.size ≤ g ∧ Below w.heap.size w w' := by
  have HO : Hid (∀ e ∈ es, e.Wf ∧ e.May) := ho
  have HK : Hid (k.length = 32) := hk
  have HN : Hid (N = es.length) := hN
  have H1 : Hid (EsAt w A1 es) := h1
  have HKK : Hid (KK = vB k) := hKK
  have HKL : Hid (KK.length = 32) := by show _ = _; rw [hKK, vB_length, hk]
  have HKO : Hid (∀ v ∈ KK, v.oneCell' = true) := by rw [hKK]; exact vB_one k
  have HKI : Hid ((Tryz.prog.info? 51).map (·.size) = some KK.length) := by show _ = _; rw [HKL.out]; exact info_dg
  have HGW : Hid (∀ X, Below w.heap.size w X → Given X) := fun X k => hG.below k (Nat.le_refl _)
  clear ho hN h1 hk hKK hG
  go_enter Tryz.func12, Tryz.ntmps12
  go_upto_region 2 with (first
    | (refine wpList_boxG 51 rfl (.tmp 0) rfl KK rfl ?_; intro X1 q1 q2 q3; have R1 : Hid (Row X1 w.heap.size KK 51) := q1; have B1 : Hid (Below w.heap.size w X1) := q2; clear q1 q2 q3; simp only [Act.put, List.setIfInBounds_toArray, List.set_cons_zero, List.set_cons_succ])
    | (refine wpList_load_w rfl 51 (.tmp 2) rfl w.heap.size 0 rfl (KK) _ R1.out.all Tryz.underlying51 rfl HKI.out ?_; simp only [Act.put, List.setIfInBounds_toArray, List.set_cons_zero, List.set_cons_succ])
    | (refine wpList_bDg rfl (.tmp 9) rfl KK HKL.out rfl ?_; intro X2 q1 q2; have HW0 : Hid (Lw X2 51 32 (.slice (some ⟨X1.heap.size, 0, none⟩) (0 + 1) 1) (0 + 1) (dcs k es 0) ∧ w.heap.size ≤ X1.heap.size ∧ Below w.heap.size w X2) := ⟨(by rw [show dcs k es 0 = KK by rw [HKK.out]; rfl]; exact lw_row q1 HKL.out), B1.out.size, B1.out.trans (q2.mono B1.out.size)⟩; clear q1 q2; simp only [Act.put, List.setIfInBounds_toArray, List.set_cons_zero, List.set_cons_succ]))
  clear R1 B1
  go_wp2_with fail
  go_loopw [5, 6] (fun v5 v6 wr => ∃ (i g c : Nat), i ≤ N ∧ v6 = .int .i64 (i : Int) ∧ v5 = .slice (some ⟨g, 0, none⟩) (i + 1) c ∧ Hid (Lw wr 51 32 (.slice (some ⟨g, 0, none⟩) (i + 1) c) (i + 1) (dcs k es i) ∧ w.heap.size ≤ g ∧ Below w.heap.size w wr)) (fun _ v6 _ => N - (intOf v6).toNat)
  case atStart => exact ⟨0, X1.heap.size, 1, Nat.zero_le _, rfl, rfl, HW0⟩
  case round =>
    clear HW0
    obtain ⟨i, g, c, hi, rfl, rfl, HI0⟩ := hrel
    have HLW : Hid (Lw wr 51 32 (.slice (some ⟨g, 0, none⟩) (i + 1) c) (i + 1) (dcs k es i)) := HI0.out.1
    have HGE : Hid (w.heap.size ≤ g) := HI0.out.2.1
    have HB : Hid (Below w.heap.size w wr) := HI0.out.2.2
    clear HI0
    by_cases hlt : i < N
    · have hlt2 : (i : Int) < (N : Int) := by omega
      obtain ⟨e, he⟩ : ∃ e, es[i]? = some e := ⟨_, List.getElem?_eq_getElem (by have := HN.out; omega)⟩
      obtain ⟨b, o, A', c', hA1, hrg, hsl, hnil⟩ := H1.out i e he
      subst hA1
      obtain ⟨we, me⟩ := HO.out e (List.mem_of_getElem? he)
      obtain ⟨n1, hn1⟩ : ∃ n, n = e.d.length := ⟨_, rfl⟩
      rw [← hn1] at hrg hsl
      obtain ⟨L, hL⟩ : ∃ L, L = e.cells (.slice A' n1 c') := ⟨_, rfl⟩
      rw [← hL] at hrg
      obtain ⟨q, hq⟩ : ∃ q, q = o + i * 49 := ⟨_, rfl⟩
      have HQ : Hid (o + i * 49 = q) := hq.symm
      rw [← hq] at hrg
      have HIN : Hid (i < N) := hlt
      have HI1 : Hid (i < i + 1) := Nat.lt_succ_self i
      have HI : Hid ((Tryz.prog.info? 46).map (·.size) = some L.length) := by rw [hL]; exact Ev.info we _
      have HR : Hid (∀ X, Below w.heap.size w X → X.rangeAt b q L) := fun X k => range_be hrg k
      obtain ⟨kk, hkk⟩ : ∃ z, z = lkf k (es.take i) := ⟨_, rfl⟩
      obtain ⟨dd, hdd⟩ : ∃ z, z = lkf k (es.take (i + 1)) := ⟨_, rfl⟩
      have hk1 : kk.length = 32 := by rw [hkk]; exact lkf_len k HK.out _
      have hd1 : dd.length = 32 := by rw [hdd]; exact lkf_len k HK.out _
      have hnx : dd = nx kk e := by
        rw [hdd, hkk, show es.take (i + 1) = es.take i ++ [e] by rw [List.take_add_one, he]; rfl, lkf_app]
        rfl
      obtain ⟨q5, hq5⟩ : ∃ q, q = 0 + i * 32 := ⟨_, rfl⟩
      have HQ5 : Hid (0 + i * 32 = q5) := hq5.symm
      have HRK : Hid (∀ X, Below wr.heap.size wr X → X.rangeAt g q5 (vB kk)) := fun X k2 j u hj => by
        have := (Lw.be HLW.out k2).range (i * 32 + j) u (dcs_at k HK.out es i i (Nat.le_refl _) j u (by rw [← hkk]; exact hj))
        rw [show q5 + j = 0 + (i * 32 + j) by omega]
        exact this
      have HIK : Hid ((Tryz.prog.info? 51).map (·.size) = some (vB kk).length) := by show _ = _; rw [vB_length, hk1]; exact info_dg
      have HID : Hid ((Tryz.prog.info? 51).map (·.size) = some (vB dd).length) := by show _ = _; rw [vB_length, hd1]; exact info_dg
      have HIJ : Hid ((Tryz.prog.info? 51).map (·.size) = some (vB dd).toArray.size) := by show _ = _; rw [List.size_toArray]; exact HID.out
      have HDL : Hid ((vB dd).length = (vB zK).length) := by show _ = _; rw [vB_length, vB_length, hd1]; rfl
      have HDT : Hid (0 + (vB dd).toArray.size ≤ (vB zK).length) := by show _ ≤ _; rw [List.size_toArray, HDL.out]; omega
      have HDN : Hid ((vB dd).length = 32) := by show _ = _; rw [vB_length, hd1]
      have HDC : Hid (dcs k es (i + 1) = dcs k es i ++ vB dd) := by rw [hdd]; exact rfl
      have HNX : Hid (∀ X, Below w.heap.size w X → Calls Tryz.prog 16 #[.agg (vB kk).toArray, .agg L.toArray] X fun r w' => r = .returned (.tuple #[.agg (vB dd).toArray, .int .i64 0]) ∧ Below X.heap.size X w') := fun X k2 => dnext_ok e we me kk dd hk1 hnx A' n1 c' hn1.symm hnil L hL X (HGW.out X k2) (hsl.be k2)
      clear he hrg hsl hnil we me hn1 hL hq hkk hdd hk1 hd1 hnx hq5
      go_upto_region 5 with fail
      have hb1 := Below.refl wr.heap.size wr
      have hge := HGE.out
      have HWP : Hid (0 < wr.heap.size) := by show _ < _; have := Lw.lt HLW.out g rfl; omega
      refine wp_named fun a0 ha0 => ?_
      have hsz : a0.tmps.size = 34 := by rw [ha0]; rfl
      have zs1 : a0.eval (.tmp 1) = .slice (some ⟨b, o, none⟩) N c1 := by rw [ha0]; rfl
      have zs5 : a0.eval (.tmp 5) = .slice (some ⟨g, 0, none⟩) (i + 1) c := by rw [ha0]; rfl
      have zs6 : a0.eval (.tmp 6) = .int .i64 (i : Int) := by rw [ha0]; rfl
      obtain ⟨D, hD⟩ : ∃ D : List (Tmp × SP), D = [(18, SP.is (.slice (some ⟨g, 0, none⟩) (i + 1) c)), (19, SP.is (.int .i64 (i : Int))), (20, SP.is (.pointer (some ⟨g, q5, none⟩))), (21, SP.is (.agg (vB kk).toArray)), (22, SP.is (.slice (some ⟨b, o, none⟩) N c1)), (23, SP.is (.int .i64 (i : Int))), (24, SP.is (.pointer (some ⟨b, q, none⟩))), (25, SP.is (.agg L.toArray)), (26, SP.is (.tuple #[.agg (vB dd).toArray, .int .i64 0])), (17, SP.is (.tuple #[.agg (vB dd).toArray, .int .i64 0])), (27, SP.is (.agg (vB dd).toArray)), (28, SP.is (.int .i64 0)), (7, SP.any), (1000, SP.any), (8, SP.is (.int .i64 0))] := ⟨_, rfl⟩
      refine wp_region_down (by kernel_rfl) (fun listed ac W => ∃ (bD : Nat), listed.size = 15 ∧ Fp D a0 listed ac W ∧ Below wr.heap.size wr W ∧ (listed.getD 12 false = true → ac.eval (.tmp 7) = .pointer (some ⟨bD, 0, none⟩) ∧ wr.heap.size - 1 < bD ∧ Row W bD (if listed.getD 13 false = true then (vB dd) else (vB zK)) 51) ∧ (listed.getD 13 false = true → listed.getD 12 false = true)) ?_ ?_ ?_
      · exact ⟨0, by simp, Fp.start D a0 _ _, Below.drew hb1, (fun h => (start_no h).elim), (fun h => (start_no h).elim)⟩
      · clear ha0 hb1  
        intro listed ac W k hI hdn hk
        obtain ⟨bD, hl, hF, hb1, al12, as12⟩ := hI
        have hk1 : k < 15 := List.mem_range.1 (List.mem_filter.1 hk).1
        have hl2 : ∀ j, (listed.setIfInBounds j true).size = 15 := fun j => by rw [Array.size_setIfInBounds]; exact hl
        rcases (show k = 0 ∨ k = 1 ∨ k = 2 ∨ k = 3 ∨ k = 4 ∨ k = 5 ∨ k = 6 ∨ k = 7 ∨ k = 8 ∨ k = 9 ∨ k = 10 ∨ k = 11 ∨ k = 12 ∨ k = 13 ∨ k = 14 by omega) with rfl | rfl | rfl | rfl | rfl | rfl | rfl | rfl | rfl | rfl | rfl | rfl | rfl | rfl | rfl
        · have hk3 := hk
          exact wpOp_plain rfl rfl (wp_move_v (ac.eval (.tmp 5)) rfl rfl ⟨bD, hl2 0, (hF.put 0 18 (SP.is (.slice (some ⟨g, 0, none⟩) (i + 1) c)) (ac.eval (.tmp 5)) (by rw [hD]; rfl) (((hF.keep 5 (by rw [hD]; rfl)).trans zs5)) (by rw [hD]; rfl) (by rw [hsz]; decide) (by rw [hl]; decide)), hb1, (fun h => ⟨(eval_put_other ac _ (by decide)).trans ((al12 (by rwa [getD_set _ _ _ (by decide)] at h)).1), (al12 (by rwa [getD_set _ _ _ (by decide)] at h)).2.1, by rw [getD_set _ _ _ (by decide)]; exact (al12 (by rwa [getD_set _ _ _ (by decide)] at h)).2.2⟩), (fun h => by rw [getD_set _ _ _ (by decide)]; exact as12 (by rwa [getD_set _ _ _ (by decide)] at h))⟩)
        · have hk3 := hk
          exact wpOp_plain rfl rfl (wp_move_v (ac.eval (.tmp 6)) rfl rfl ⟨bD, hl2 1, (hF.put 1 19 (SP.is (.int .i64 (i : Int))) (ac.eval (.tmp 6)) (by rw [hD]; rfl) (((hF.keep 6 (by rw [hD]; rfl)).trans zs6)) (by rw [hD]; rfl) (by rw [hsz]; decide) (by rw [hl]; decide)), hb1, (fun h => ⟨(eval_put_other ac _ (by decide)).trans ((al12 (by rwa [getD_set _ _ _ (by decide)] at h)).1), (al12 (by rwa [getD_set _ _ _ (by decide)] at h)).2.1, by rw [getD_set _ _ _ (by decide)]; exact (al12 (by rwa [getD_set _ _ _ (by decide)] at h)).2.2⟩), (fun h => by rw [getD_set _ _ _ (by decide)]; exact as12 (by rwa [getD_set _ _ _ (by decide)] at h))⟩)
        · have hk3 := hk
          have ea := (hF.done 0 (18, SP.is (.slice (some ⟨g, 0, none⟩) (i + 1) c)) (by rw [hD]; rfl) (ready_dep hk 0 (by kernel_rfl)))
          have eb := (hF.done 1 (19, SP.is (.int .i64 (i : Int))) (by rw [hD]; rfl) (ready_dep hk 1 (by kernel_rfl)))
          exact wpOp_plain rfl rfl (wp_ixO 54 51 rfl g 0 (i + 1) c i 32 q5 HQ5.out ea eb HI1.out Tryz.underlying54 info_dg ⟨bD, hl2 2, (hF.put 2 20 (SP.is (.pointer (some ⟨g, q5, none⟩))) (.pointer (some ⟨g, q5, none⟩)) (by rw [hD]; rfl) rfl (by rw [hD]; rfl) (by rw [hsz]; decide) (by rw [hl]; decide)), hb1, (fun h => ⟨(eval_put_other ac _ (by decide)).trans ((al12 (by rwa [getD_set _ _ _ (by decide)] at h)).1), (al12 (by rwa [getD_set _ _ _ (by decide)] at h)).2.1, by rw [getD_set _ _ _ (by decide)]; exact (al12 (by rwa [getD_set _ _ _ (by decide)] at h)).2.2⟩), (fun h => by rw [getD_set _ _ _ (by decide)]; exact as12 (by rwa [getD_set _ _ _ (by decide)] at h))⟩)
        · have hk3 := hk
          have ea := (hF.done 2 (20, SP.is (.pointer (some ⟨g, q5, none⟩))) (by rw [hD]; rfl) (ready_dep hk 2 (by kernel_rfl)))
          exact wpOp_plain rfl rfl (wp_load_mid 51 (.tmp 20) rfl g q5 ea (vB kk) _ (HRK.out W hb1) Tryz.underlying51 rfl HIK.out ⟨bD, hl2 3, (hF.put 3 21 (SP.is (.agg (vB kk).toArray)) (.agg (vB kk).toArray) (by rw [hD]; rfl) rfl (by rw [hD]; rfl) (by rw [hsz]; decide) (by rw [hl]; decide)), hb1, (fun h => ⟨(eval_put_other ac _ (by decide)).trans ((al12 (by rwa [getD_set _ _ _ (by decide)] at h)).1), (al12 (by rwa [getD_set _ _ _ (by decide)] at h)).2.1, by rw [getD_set _ _ _ (by decide)]; exact (al12 (by rwa [getD_set _ _ _ (by decide)] at h)).2.2⟩), (fun h => by rw [getD_set _ _ _ (by decide)]; exact as12 (by rwa [getD_set _ _ _ (by decide)] at h))⟩)
        · have hk3 := hk
          exact wpOp_plain rfl rfl (wp_move_v (ac.eval (.tmp 1)) rfl rfl ⟨bD, hl2 4, (hF.put 4 22 (SP.is (.slice (some ⟨b, o, none⟩) N c1)) (ac.eval (.tmp 1)) (by rw [hD]; rfl) (((hF.keep 1 (by rw [hD]; rfl)).trans zs1)) (by rw [hD]; rfl) (by rw [hsz]; decide) (by rw [hl]; decide)), hb1, (fun h => ⟨(eval_put_other ac _ (by decide)).trans ((al12 (by rwa [getD_set _ _ _ (by decide)] at h)).1), (al12 (by rwa [getD_set _ _ _ (by decide)] at h)).2.1, by rw [getD_set _ _ _ (by decide)]; exact (al12 (by rwa [getD_set _ _ _ (by decide)] at h)).2.2⟩), (fun h => by rw [getD_set _ _ _ (by decide)]; exact as12 (by rwa [getD_set _ _ _ (by decide)] at h))⟩)
        · have hk3 := hk
          exact wpOp_plain rfl rfl (wp_move_v (ac.eval (.tmp 6)) rfl rfl ⟨bD, hl2 5, (hF.put 5 23 (SP.is (.int .i64 (i : Int))) (ac.eval (.tmp 6)) (by rw [hD]; rfl) (((hF.keep 6 (by rw [hD]; rfl)).trans zs6)) (by rw [hD]; rfl) (by rw [hsz]; decide) (by rw [hl]; decide)), hb1, (fun h => ⟨(eval_put_other ac _ (by decide)).trans ((al12 (by rwa [getD_set _ _ _ (by decide)] at h)).1), (al12 (by rwa [getD_set _ _ _ (by decide)] at h)).2.1, by rw [getD_set _ _ _ (by decide)]; exact (al12 (by rwa [getD_set _ _ _ (by decide)] at h)).2.2⟩), (fun h => by rw [getD_set _ _ _ (by decide)]; exact as12 (by rwa [getD_set _ _ _ (by decide)] at h))⟩)
        · have hk3 := hk
          have ea := (hF.done 4 (22, SP.is (.slice (some ⟨b, o, none⟩) N c1)) (by rw [hD]; rfl) (ready_dep hk 4 (by kernel_rfl)))
          have eb := (hF.done 5 (23, SP.is (.int .i64 (i : Int))) (by rw [hD]; rfl) (ready_dep hk 5 (by kernel_rfl)))
          exact wpOp_plain rfl rfl (wp_ixO 52 46 rfl b o N c1 i 49 q HQ.out ea eb HIN.out Tryz.underlying52 info_ent ⟨bD, hl2 6, (hF.put 6 24 (SP.is (.pointer (some ⟨b, q, none⟩))) (.pointer (some ⟨b, q, none⟩)) (by rw [hD]; rfl) rfl (by rw [hD]; rfl) (by rw [hsz]; decide) (by rw [hl]; decide)), hb1, (fun h => ⟨(eval_put_other ac _ (by decide)).trans ((al12 (by rwa [getD_set _ _ _ (by decide)] at h)).1), (al12 (by rwa [getD_set _ _ _ (by decide)] at h)).2.1, by rw [getD_set _ _ _ (by decide)]; exact (al12 (by rwa [getD_set _ _ _ (by decide)] at h)).2.2⟩), (fun h => by rw [getD_set _ _ _ (by decide)]; exact as12 (by rwa [getD_set _ _ _ (by decide)] at h))⟩)
        · have hk3 := hk
          have ea := (hF.done 6 (24, SP.is (.pointer (some ⟨b, q, none⟩))) (by rw [hD]; rfl) (ready_dep hk 6 (by kernel_rfl)))
          exact wpOp_plain rfl rfl (wp_load_mid 46 (.tmp 24) rfl b q ea L _ (HR.out W (HB.out.trans (hb1.mono HB.out.size))) Tryz.underlying46 rfl HI.out ⟨bD, hl2 7, (hF.put 7 25 (SP.is (.agg L.toArray)) (.agg L.toArray) (by rw [hD]; rfl) rfl (by rw [hD]; rfl) (by rw [hsz]; decide) (by rw [hl]; decide)), hb1, (fun h => ⟨(eval_put_other ac _ (by decide)).trans ((al12 (by rwa [getD_set _ _ _ (by decide)] at h)).1), (al12 (by rwa [getD_set _ _ _ (by decide)] at h)).2.1, by rw [getD_set _ _ _ (by decide)]; exact (al12 (by rwa [getD_set _ _ _ (by decide)] at h)).2.2⟩), (fun h => by rw [getD_set _ _ _ (by decide)]; exact as12 (by rwa [getD_set _ _ _ (by decide)] at h))⟩)
        · have hk3 := hk
          have e21 := (hF.done 3 (21, SP.is (.agg (vB kk).toArray)) (by rw [hD]; rfl) (ready_dep hk 3 (by kernel_rfl)))
          have e25 := (hF.done 7 (25, SP.is (.agg L.toArray)) (by rw [hD]; rfl) (ready_dep hk 7 (by kernel_rfl)))
          refine wpOp_plain rfl rfl (wp_fcall_v 16 #[.agg (vB kk).toArray, .agg L.toArray] rfl rfl (by show [ac.eval (.tmp 21), ac.eval (.tmp 25)] = _; rw [show ac.eval (.tmp 21) = _ from e21, show ac.eval (.tmp 25) = _ from e25]) (by go_simp) ((HNX.out W (HB.out.trans (hb1.mono HB.out.size))).mono ?_))
          rintro e W2 ⟨rfl, hB⟩
          exact ⟨_, rfl, bD, hl2 8, ((hF.world hB).put 8 26 (SP.is (.tuple #[.agg (vB dd).toArray, .int .i64 0])) (.tuple #[.agg (vB dd).toArray, .int .i64 0]) (by rw [hD]; rfl) rfl (by rw [hD]; rfl) (by rw [hsz]; decide) (by rw [hl]; decide)), hb1.trans (hB.mono hb1.size), (fun h => ⟨(eval_put_other ac _ (by decide)).trans ((al12 (by rwa [getD_set _ _ _ (by decide)] at h)).1), (al12 (by rwa [getD_set _ _ _ (by decide)] at h)).2.1, by rw [getD_set _ _ _ (by decide)]; exact Row.below (al12 (by rwa [getD_set _ _ _ (by decide)] at h)).2.2 hB (Row.lt (al12 (by rwa [getD_set _ _ _ (by decide)] at h)).2.2)⟩), (fun h => by rw [getD_set _ _ _ (by decide)]; exact as12 (by rwa [getD_set _ _ _ (by decide)] at h))⟩
        · have hk3 := hk
          exact wpOp_plain rfl rfl (wp_move_v (ac.eval (.tmp 26)) rfl rfl ⟨bD, hl2 9, (hF.put 9 17 (SP.is (.tuple #[.agg (vB dd).toArray, .int .i64 0])) (ac.eval (.tmp 26)) (by rw [hD]; rfl) ((hF.done 8 (26, SP.is (.tuple #[.agg (vB dd).toArray, .int .i64 0])) (by rw [hD]; rfl) (ready_dep hk 8 (by kernel_rfl)))) (by rw [hD]; rfl) (by rw [hsz]; decide) (by rw [hl]; decide)), hb1, (fun h => ⟨(eval_put_other ac _ (by decide)).trans ((al12 (by rwa [getD_set _ _ _ (by decide)] at h)).1), (al12 (by rwa [getD_set _ _ _ (by decide)] at h)).2.1, by rw [getD_set _ _ _ (by decide)]; exact (al12 (by rwa [getD_set _ _ _ (by decide)] at h)).2.2⟩), (fun h => by rw [getD_set _ _ _ (by decide)]; exact as12 (by rwa [getD_set _ _ _ (by decide)] at h))⟩)
        · have hk3 := hk
          exact wpOp_plain rfl rfl (wp_extract (.tmp 17) 0 rfl _ (hF.done 9 (17, SP.is (.tuple #[.agg (vB dd).toArray, .int .i64 0])) (by rw [hD]; rfl) (ready_dep hk 9 (by kernel_rfl))) (.agg (vB dd).toArray) rfl ⟨bD, hl2 10, (hF.put 10 27 (SP.is (.agg (vB dd).toArray)) (.agg (vB dd).toArray) (by rw [hD]; rfl) rfl (by rw [hD]; rfl) (by rw [hsz]; decide) (by rw [hl]; decide)), hb1, (fun h => ⟨(eval_put_other ac _ (by decide)).trans ((al12 (by rwa [getD_set _ _ _ (by decide)] at h)).1), (al12 (by rwa [getD_set _ _ _ (by decide)] at h)).2.1, by rw [getD_set _ _ _ (by decide)]; exact (al12 (by rwa [getD_set _ _ _ (by decide)] at h)).2.2⟩), (fun h => by rw [getD_set _ _ _ (by decide)]; exact as12 (by rwa [getD_set _ _ _ (by decide)] at h))⟩)
        · have hk3 := hk
          exact wpOp_plain rfl rfl (wp_extract (.tmp 17) 1 rfl _ (hF.done 9 (17, SP.is (.tuple #[.agg (vB dd).toArray, .int .i64 0])) (by rw [hD]; rfl) (ready_dep hk 9 (by kernel_rfl))) (.int .i64 0) rfl ⟨bD, hl2 11, (hF.put 11 28 (SP.is (.int .i64 0)) (.int .i64 0) (by rw [hD]; rfl) rfl (by rw [hD]; rfl) (by rw [hsz]; decide) (by rw [hl]; decide)), hb1, (fun h => ⟨(eval_put_other ac _ (by decide)).trans ((al12 (by rwa [getD_set _ _ _ (by decide)] at h)).1), (al12 (by rwa [getD_set _ _ _ (by decide)] at h)).2.1, by rw [getD_set _ _ _ (by decide)]; exact (al12 (by rwa [getD_set _ _ _ (by decide)] at h)).2.2⟩), (fun h => by rw [getD_set _ _ _ (by decide)]; exact as12 (by rwa [getD_set _ _ _ (by decide)] at h))⟩)
        · have hk3 := hk
          have hsm : wr.heap.size - 1 < W.heap.size := (by have := hb1.size; have := HWP.out; omega)
          have hB : Below W.heap.size W (W.alloc (.cells (vB zK).toArray 51)) := (Below.refl _ _).alloc (Nat.le_refl _) _
          have hns : ¬ listed.getD 13 false = true := fun h => not_yet hk (as12 h)
          exact wpOp_plain rfl rfl (wp_allocDg rfl ⟨W.heap.size, hl2 12, ((hF.world hB).put 12 7 (SP.any) (.pointer (some ⟨W.heap.size, 0, none⟩)) (by rw [hD]; rfl) trivial (by rw [hD]; rfl) (by rw [hsz]; decide) (by rw [hl]; decide)), hb1.alloc hb1.size _, (fun _ => ⟨eval_put_same ac _ (by rw [hF.size, hsz]; decide), hsm, by rw [getD_set _ _ _ (by decide), if_neg hns]; exact Row.new' rfl rfl⟩), (fun _ => getD_same (by rw [hl]; decide))⟩)
        · have hk3 := hk
          have hal := ready_dep hk 12 (by kernel_rfl)
          obtain ⟨e1, m1, y2⟩ := al12 hal
          rw [if_neg (not_yet hk)] at y2
          have T := y2.there 0 (vB dd).toArray.size HDT.out
          have fin := y2.over (vs := (vB dd)) HDL.out
          have hT : Fp D a0 listed ac (W.setCells bD 0 (vB dd)) := hF.turn (by rw [hD]; simp only [List.forall_mem_cons, List.not_mem_nil, false_implies, implies_true, and_true]; exact ⟨fun _ h => h, fun _ h => h, fun _ h => h, fun _ h => h, fun _ h => h, fun _ h => h, fun _ h => h, fun _ h => h, fun _ h => h, fun _ h => h, fun _ h => h, fun _ h => h, fun _ h => h, fun _ h => h, fun _ h => h⟩)
          exact wpOp_plain rfl rfl (wp_store_mid 51 (.tmp 7) (.tmp 27) rfl bD 0 (vB dd).toArray e1 (hF.done 10 (27, SP.is (.agg (vB dd).toArray)) (by rw [hD]; rfl) (ready_dep hk 10 (by kernel_rfl))) T HIJ.out (all_oneCell_toArray (vB_one dd)) ⟨bD, hl2 13, (hT.skip 13 1000 (by rw [hD]; rfl) (by rw [hl]; decide)), below_setCells hb1 (by omega) _, (fun _ => ⟨e1, m1, by rw [if_pos (getD_same (by rw [hl]; decide))]; exact fin⟩), (fun _ => by rw [getD_set _ _ _ (by decide)]; exact hal)⟩)
        · have hk3 := hk
          exact wpOp_plain rfl rfl (wp_assign_v (ac.eval (.tmp 28)) rfl rfl ⟨bD, hl2 14, (hF.put 14 8 (SP.is (.int .i64 0)) (ac.eval (.tmp 28)) (by rw [hD]; rfl) ((hF.done 11 (28, SP.is (.int .i64 0)) (by rw [hD]; rfl) (ready_dep hk 11 (by kernel_rfl)))) (by rw [hD]; rfl) (by rw [hsz]; decide) (by rw [hl]; decide)), hb1, (fun h => ⟨(eval_put_other ac _ (by decide)).trans ((al12 (by rwa [getD_set _ _ _ (by decide)] at h)).1), (al12 (by rwa [getD_set _ _ _ (by decide)] at h)).2.1, by rw [getD_set _ _ _ (by decide)]; exact (al12 (by rwa [getD_set _ _ _ (by decide)] at h)).2.2⟩), (fun h => by rw [getD_set _ _ _ (by decide)]; exact as12 (by rwa [getD_set _ _ _ (by decide)] at h))⟩)
      · clear hb1  
        intro listed ac W hI hr
        obtain ⟨bD, hl, hF, hb1, al12, as12⟩ := hI
        have hall := all_listed (by kernel_rfl) hl hr
        obtain ⟨ea7, m7, p7⟩ := al12 (hall 12 (by decide))
        rw [if_pos (hall 13 (by decide))] at p7
        have h18 : ac.eval (.tmp 18) = .slice (some ⟨g, 0, none⟩) (i + 1) c := hF.done 0 (18, SP.is (.slice (some ⟨g, 0, none⟩) (i + 1) c)) (by rw [hD]; rfl) (hall 0 (by decide))
        have h19 : ac.eval (.tmp 19) = .int .i64 (i : Int) := hF.done 1 (19, SP.is (.int .i64 (i : Int))) (by rw [hD]; rfl) (hall 1 (by decide))
        have h20 : ac.eval (.tmp 20) = .pointer (some ⟨g, q5, none⟩) := hF.done 2 (20, SP.is (.pointer (some ⟨g, q5, none⟩))) (by rw [hD]; rfl) (hall 2 (by decide))
        have h21 : ac.eval (.tmp 21) = .agg (vB kk).toArray := hF.done 3 (21, SP.is (.agg (vB kk).toArray)) (by rw [hD]; rfl) (hall 3 (by decide))
        have h22 : ac.eval (.tmp 22) = .slice (some ⟨b, o, none⟩) N c1 := hF.done 4 (22, SP.is (.slice (some ⟨b, o, none⟩) N c1)) (by rw [hD]; rfl) (hall 4 (by decide))
        have h23 : ac.eval (.tmp 23) = .int .i64 (i : Int) := hF.done 5 (23, SP.is (.int .i64 (i : Int))) (by rw [hD]; rfl) (hall 5 (by decide))
        have h24 : ac.eval (.tmp 24) = .pointer (some ⟨b, q, none⟩) := hF.done 6 (24, SP.is (.pointer (some ⟨b, q, none⟩))) (by rw [hD]; rfl) (hall 6 (by decide))
        have h25 : ac.eval (.tmp 25) = .agg L.toArray := hF.done 7 (25, SP.is (.agg L.toArray)) (by rw [hD]; rfl) (hall 7 (by decide))
        have h26 : ac.eval (.tmp 26) = .tuple #[.agg (vB dd).toArray, .int .i64 0] := hF.done 8 (26, SP.is (.tuple #[.agg (vB dd).toArray, .int .i64 0])) (by rw [hD]; rfl) (hall 8 (by decide))
        have h17 : ac.eval (.tmp 17) = .tuple #[.agg (vB dd).toArray, .int .i64 0] := hF.done 9 (17, SP.is (.tuple #[.agg (vB dd).toArray, .int .i64 0])) (by rw [hD]; rfl) (hall 9 (by decide))
        have h27 : ac.eval (.tmp 27) = .agg (vB dd).toArray := hF.done 10 (27, SP.is (.agg (vB dd).toArray)) (by rw [hD]; rfl) (hall 10 (by decide))
        have h28 : ac.eval (.tmp 28) = .int .i64 0 := hF.done 11 (28, SP.is (.int .i64 0)) (by rw [hD]; rfl) (hall 11 (by decide))
        have h8 : ac.eval (.tmp 8) = .int .i64 0 := hF.done 14 (8, SP.is (.int .i64 0)) (by rw [hD]; rfl) (hall 14 (by decide))
        have ea := hF.lay [(18, .slice (some ⟨g, 0, none⟩) (i + 1) c), (19, .int .i64 (i : Int)), (20, .pointer (some ⟨g, q5, none⟩)), (21, .agg (vB kk).toArray), (22, .slice (some ⟨b, o, none⟩) N c1), (23, .int .i64 (i : Int)), (24, .pointer (some ⟨b, q, none⟩)), (25, .agg L.toArray), (26, .tuple #[.agg (vB dd).toArray, .int .i64 0]), (17, .tuple #[.agg (vB dd).toArray, .int .i64 0]), (27, .agg (vB dd).toArray), (28, .int .i64 0), (7, .pointer (some ⟨bD, 0, none⟩)), (8, .int .i64 0)] (by rw [hD, hsz]; rfl) (by simp only [List.forall_mem_cons, List.not_mem_nil, false_implies, implies_true, and_true]; exact ⟨h18, h19, h20, h21, h22, h23, h24, h25, h26, h17, h27, h28, ea7, h8⟩)
        rw [ha0] at ea
        simp only [List.foldl_cons, List.foldl_nil, List.setIfInBounds_toArray, List.set_cons_zero, List.set_cons_succ] at ea
        clear hF hall hr hl hD al12 as12 zs1 zs5 zs6 ha0 hsz h18 h19 h20 h21 h22 h23 h24 h25 h26 h17 h27 h28 ea7 h8
        subst ea
        obtain ⟨Y1, hY1⟩ : ∃ Y, Y = W := ⟨_, rfl⟩
        rw [← hY1] at hb1 p7 ⊢
        have RD : Hid (Row Y1 bD (vB dd) 51) := p7
        have LY : Hid (Lw Y1 51 32 (.slice (some ⟨g, 0, none⟩) (i + 1) c) (i + 1) (dcs k es i)) := Lw.be HLW.out hb1
        have BY : Hid (Below w.heap.size w Y1) := HB.out.trans (hb1.mono HB.out.size)
        clear hY1 p7 hb1 HR HRK HNX m7 hge
        go_wp2_with (first
          | (refine wpList_load_w rfl 51 (.tmp 7) rfl bD 0 rfl (vB dd) _ RD.out.all Tryz.underlying51 rfl HID.out ?_; simp only [Act.put, List.setIfInBounds_toArray, List.set_cons_zero, List.set_cons_succ])
          | (refine wpList_bDg rfl (.tmp 30) rfl (vB dd) HDN.out rfl ?_; intro Y2 q1 q2; have RE : Hid (Row Y2 Y1.heap.size (vB dd) 51) := q1; have LY2 : Hid (Lw Y2 51 32 (.slice (some ⟨g, 0, none⟩) (i + 1) c) (i + 1) (dcs k es i)) := Lw.be LY.out q2; have BY2 : Hid (Below w.heap.size w Y2) := BY.out.trans (q2.mono BY.out.size); clear q1 q2; simp only [Act.put, List.setIfInBounds_toArray, List.set_cons_zero, List.set_cons_succ])
          | (refine wpList_appL 54 51 32 32 Tryz.underlying54 info_dgO (by decide) (by decide) rfl (.tmp 29) (.tmp 31) rfl (.slice (some ⟨g, 0, none⟩) (i + 1) c) (i + 1) (dcs k es i) (vB dd) rfl LY2.out Y1.heap.size HDN.out rfl RE.out.all (vB_one dd) (by omega) ?_; intro v9 Y3 q1 q2 q3; obtain ⟨g9, c9, e9, _⟩ := Lw.open q1 (Nat.succ_pos _); subst e9; have FL : Hid (Lw Y3 51 32 (.slice (some ⟨g9, 0, none⟩) (i + 1 + 1) c9) (i + 1 + 1) (dcs k es (i + 1)) ∧ w.heap.size ≤ g9 ∧ Below w.heap.size w Y3) := ⟨(by rw [HDC.out]; exact q1), (by rcases q3 with z | z; (have z2 : g9 = g := (by simpa [Value.ownBlock] using z); rw [z2]; exact HGE.out); (have z2 : g9 = Y2.heap.size := (by simpa [Value.ownBlock] using z); rw [z2]; exact BY2.out.size)), below_gb BY2.out q2 (fun g0 e0 => by (have z2 : g = g0 := (by simpa [Value.ownBlock] using e0)); rw [← z2]; exact HGE.out)⟩; clear q1 q2 q3; simp only [Act.put, List.setIfInBounds_toArray, List.set_cons_zero, List.set_cons_succ]))
        exact ⟨⟨i + 1, g9, c9, hlt, by go_num, rfl, FL⟩, by simp [intOf]; omega⟩
    have hlt2 : ¬ ((i : Int) < (N : Int)) := by omega
    have hiN : i = N := by omega
    have FL : Hid (Lw wr 51 32 (.slice (some ⟨g, 0, none⟩) (N + 1) c) (N + 1) (dcs k es N)) := by rw [← hiN]; exact HLW.out
    have HIE : Hid (i = N) := hiN
    clear hlt hiN
    go_wp2_with fail
    go_ret
    exact ⟨g, c, by rw [HIE.out]; rfl, FL.out, HGE.out, HB.out⟩

end Go.Proofs.YtknabkoddickaaaGreatDoor
