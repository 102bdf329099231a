/-
  EscrowPlays: the document's Free and Pay.
-/
import Derived.Test.YtkbdnebmekhcdaaEpA
import Derived.Test.YtkbdnebmekhcdaaWRef

namespace Go.Proofs.Ytkbdnebmekhcdaa
open Go Go.RowKit Go.Maps
open Wd

/-- The document's vault has turned, and says the same as s. -/
def Rx (w w' : World) (q : Nat) (v : Value) (n : Nat) (s : St) : Prop := ∃ l', Rel l' s ∧ l'.length ≤ n + 1 ∧ Rt w w' q v l'
theorem Rx.same {w X : World} {q : Nat} {v : Value} {l : List Acv} {s : St} (h : Ro w q v l) (hR : Rel l s) (k : Below w.heap.size w X) : Rx w X q v l.length s := ⟨l, hR, Nat.le_succ _, Rt.same h k⟩
theorem Rx.more {w X : World} {q : Nat} {v : Value} {l : List Acv} {a : Acv} {s : St} (hR : Rel (l ++ [a]) s) (k : Rt w X q v (l ++ [a])) : Rx w X q v l.length s := ⟨_, hR, by rw [List.length_append]; exact Nat.le_refl _, k⟩
theorem fnd_E (T : Int → Option (Bool × Nat)) (x : Int) : ((fnd T x).2.2 = 140 ∧ (x < 0 ∨ 64 ≤ x)) ∨ ((fnd T x).2.2 = 141 ∧ 0 ≤ x ∧ x < 64 ∧ T x = none) ∨ ∃ b m, fnd T x = (b, m, 0) ∧ 0 ≤ x ∧ x < 64 ∧ T x = some (b, m) := by
  unfold fnd
  by_cases h : x < 0 ∨ 64 ≤ x
  · rw [if_pos h]; exact .inl ⟨rfl, h⟩
  · rw [if_neg h]
    have h1 : 0 ≤ x := by omega
    have h2 : x < 64 := by omega
    cases hT : T x with
    | none => exact .inr (.inl ⟨rfl, h1, h2, rfl⟩)
    | some p => obtain ⟨b, m⟩ := p; exact .inr (.inr ⟨b, m, rfl, h1, h2, rfl⟩)
theorem built_a2 (k t : Int) : Try.prog.built tAc [(0, .int .i64 k), (2, .int .i64 t)] = some (Acv.mk k 0 t 0).cells.toArray := by kernel_rfl
theorem rlE {w : World} {q : Nat} {v : Value} {l : List Acv} {s : St} (h : Ro w q v l) (hR : Rel l s) (t : Int) : Calls Try.prog 55 #[.pointer (some ⟨q, 0, none⟩), .int .i64 t] w fun e w' => e = .returned (.int .i64 (fnd s.T t).2.2) ∧ w' = w := by
  obtain ⟨A, cap, _, hv⟩ := h.rv
  exact there_any hv hR t
theorem rlL {w : World} {q : Nat} {v : Value} {l : List Acv} (h : Ro w q v l) (t : Int) : Calls Try.prog 39 #[.pointer (some ⟨q, 0, none⟩), .int .i64 t] w fun e w' => e = .returned (.tuple #[.bool (rl l t).1, .bool (rl l t).2]) ∧ w' = w := by
  obtain ⟨A, cap, _, hv⟩ := h.rv
  exact rlisted_any hv t
set_option maxRecDepth 100000 in
set_option maxHeartbeats 4000000 in
theorem rlist_any {w : World} {q : Nat} {v : Value} {l : List Acv} {s : St} (h : Ro w q v l) (hR : Rel l s) (hn : l.length < 2199023255551) (t : Int) (s' : St) (E : Int) (hs : sList s t = (s', E)) :
    Calls Try.prog 31 #[.pointer (some ⟨q, 0, none⟩), .int .i64 t] w fun e w' => e = .returned (.int .i64 E) ∧ Rx w w' q v l.length s' := by
  have HTH : Hid (Calls Try.prog 55 #[.pointer (some ⟨q, 0, none⟩), .int .i64 t] w fun e w' => e = .returned (.int .i64 (fnd s.T t).2.2) ∧ w' = w) := rlE h hR t
  rcases fnd_E s.T t with ⟨hE, hx⟩ | ⟨hE, h0, h6, hT⟩ | ⟨b, m, hf, h0, h6, hT⟩
  · rw [hE] at HTH
    have HS : Hid (s' = s ∧ E = 140) := by unfold sList at hs; rw [hE, if_neg (by decide), if_neg (by decide)] at hs; cases hs; exact ⟨rfl, rfl⟩
    have HX : Hid (Rx w w q v l.length s) := Rx.same h hR (Below.refl _ _)
    clear h hR hs hE hx
    go_enter Try.func31, Try.ntmps31
    go_wp2_with (first
      | (go_at_call 55; refine Calls.mono HTH.out ?_; rintro e X ⟨rfl, rfl⟩))
    go_ret
    exact ⟨by rw [HS.out.2]; rfl, by rw [HS.out.1]; exact HX.out⟩
  · rw [hE] at HTH
    have HS : Hid (s' = { s with T := upd s.T t (some (false, 0)) } ∧ E = 0) := by unfold sList at hs; rw [hE, if_neg (by decide), if_pos rfl] at hs; cases hs; exact ⟨rfl, rfl⟩
    obtain ⟨R8, hR8⟩ : ∃ R, R = (Acv.mk 0 0 t 0).cells := ⟨_, rfl⟩
    have HB : Hid (Try.prog.built tAc [(0, .int .i64 0), (2, .int .i64 t)] = some R8.toArray) := by show _ = _; rw [hR8]; exact built_a2 0 t
    have HDO : Hid (Calls Try.prog 56 #[.pointer (some ⟨q, 0, none⟩), .agg R8.toArray] w fun e w' => e = .returned (.int .i64 0) ∧ Rx w w' q v l.length { s with T := upd s.T t (some (false, 0)) }) := (do_any h ⟨0, 0, t, 0⟩ (by show (0 : Nat) < 2 ^ 256; decide) hn R8 hR8).mono fun e w' hh => ⟨hh.1, Rx.more (hR.list h0 h6 hT) hh.2⟩
    clear h hR hs hE h0 h6 hT hR8
    go_enter Try.func31, Try.ntmps31
    go_wp2_with (first
      | (go_at_call 55; refine Calls.mono HTH.out ?_; rintro e X ⟨rfl, rfl⟩)
      | (refine wpList_blt rfl tAc _ rfl [(0, .int .i64 0), (2, .int .i64 t)] rfl R8 HB.out ?_; simp only [Act.put, List.setIfInBounds_toArray, List.set_cons_zero, List.set_cons_succ])
      | (go_at_call 56; refine Calls.mono HDO.out ?_; rintro e Y ⟨rfl, q⟩; have HX := (show Hid _ from q); clear q))
    go_ret
    exact ⟨by rw [HS.out.2]; rfl, by rw [HS.out.1]; exact HX.out⟩
  · rw [hf] at HTH
    have HS : Hid (s' = s ∧ E = 142) := by unfold sList at hs; rw [hf, if_pos rfl] at hs; cases hs; exact ⟨rfl, rfl⟩
    have HX : Hid (Rx w w q v l.length s) := Rx.same h hR (Below.refl _ _)
    clear h hR hs hf h0 h6 hT
    go_enter Try.func31, Try.ntmps31
    go_wp2_with (first
      | (go_at_call 55; refine Calls.mono HTH.out ?_; rintro e X ⟨rfl, rfl⟩))
    go_ret
    exact ⟨by rw [HS.out.2]; rfl, by rw [HS.out.1]; exact HX.out⟩
set_option maxRecDepth 100000 in
set_option maxHeartbeats 4000000 in
theorem rstop_true {w : World} {q : Nat} {v : Value} {l : List Acv} {s : St} (h : Ro w q v l) (hR : Rel l s) (hn : l.length < 2199023255551) (t : Int) (s' : St) (E : Int) (hs : sStop s t true = (s', E)) :
    Calls Try.prog 32 #[.pointer (some ⟨q, 0, none⟩), .int .i64 t, .bool true] w fun e w' => e = .returned (.int .i64 E) ∧ Rx w w' q v l.length s' := by
  have HTH : Hid (Calls Try.prog 55 #[.pointer (some ⟨q, 0, none⟩), .int .i64 t] w fun e w' => e = .returned (.int .i64 (fnd s.T t).2.2) ∧ w' = w) := rlE h hR t
  have HLS : Hid (Calls Try.prog 39 #[.pointer (some ⟨q, 0, none⟩), .int .i64 t] w fun e w' => e = .returned (.tuple #[.bool (rl l t).1, .bool (rl l t).2]) ∧ w' = w) := rlL h t
  have HX0 : Hid (Rx w w q v l.length s) := Rx.same h hR (Below.refl _ _)
  rcases fnd_E s.T t with ⟨hE, hx⟩ | ⟨hE, h0, h6, hT⟩ | ⟨b, m, hf, h0, h6, hT⟩
  · rw [hE] at HTH
    have HS : Hid (s' = s ∧ E = 140) := by unfold sStop at hs; rw [hE, if_pos (by decide)] at hs; cases hs; exact ⟨rfl, rfl⟩
    clear h hR hs hE hx
    go_enter Try.func32, Try.ntmps32
    go_wp2_with (first
      | (go_at_call 55; refine Calls.mono HTH.out ?_; rintro e X ⟨rfl, rfl⟩))
    go_ret
    exact ⟨by rw [HS.out.2]; rfl, by rw [HS.out.1]; exact HX0.out⟩
  · rw [hE] at HTH
    have HS : Hid (s' = s ∧ E = 141) := by unfold sStop at hs; rw [hE, if_pos (by decide)] at hs; cases hs; exact ⟨rfl, rfl⟩
    clear h hR hs hE h0 h6 hT
    go_enter Try.func32, Try.ntmps32
    go_wp2_with (first
      | (go_at_call 55; refine Calls.mono HTH.out ?_; rintro e X ⟨rfl, rfl⟩))
    go_ret
    exact ⟨by rw [HS.out.2]; rfl, by rw [HS.out.1]; exact HX0.out⟩
  · rw [hf] at HTH
    have htk := hR.t t h0 h6
    rw [hT] at htk
    have e1 : (rl l t).1 = true := by rw [htk.1]
    have e2 : (rl l t).2 = b := by rw [htk.1]
    rw [e1, e2] at HLS
    clear e1 e2 htk
    cases b with
    | true =>
      have HS : Hid (s' = s ∧ E = 143) := by unfold sStop at hs; rw [hf, if_neg (by simp), if_pos rfl] at hs; cases hs; exact ⟨rfl, rfl⟩
      clear h hR hs hf h0 h6 hT
      go_enter Try.func32, Try.ntmps32
      go_wp2_with (first
        | (go_at_call 55; refine Calls.mono HTH.out ?_; rintro e X ⟨rfl, rfl⟩)
        | (go_at_call 39; refine Calls.mono HLS.out ?_; rintro e X ⟨rfl, rfl⟩))
      go_ret
      exact ⟨by rw [HS.out.2]; rfl, by rw [HS.out.1]; exact HX0.out⟩
    | false =>
      have HS : Hid (s' = { s with T := upd s.T t (some (true, m)) } ∧ E = 0) := by unfold sStop at hs; rw [hf, if_neg (by simp), if_neg (by simp)] at hs; cases hs; exact ⟨rfl, rfl⟩
      obtain ⟨R8, hR8⟩ : ∃ R, R = (Acv.mk 1 0 t 0).cells := ⟨_, rfl⟩
      have HB : Hid (Try.prog.built tAc [(0, .int .i64 1), (2, .int .i64 t)] = some R8.toArray) := by show _ = _; rw [hR8]; exact built_a2 1 t
      have HDO : Hid (Calls Try.prog 56 #[.pointer (some ⟨q, 0, none⟩), .agg R8.toArray] w fun e w' => e = .returned (.int .i64 0) ∧ Rx w w' q v l.length s') := (do_any h ⟨1, 0, t, 0⟩ (by show (0 : Nat) < 2 ^ 256; decide) hn R8 hR8).mono fun e w' hh => ⟨hh.1, by rw [HS.out.1]; exact Rx.more (hR.stop h0 h6 hT) hh.2⟩
      clear h hR hs hf h0 h6 hT hR8
      go_enter Try.func32, Try.ntmps32
      go_wp2_with (first
        | (go_at_call 55; refine Calls.mono HTH.out ?_; rintro e X ⟨rfl, rfl⟩)
        | (go_at_call 39; refine Calls.mono HLS.out ?_; rintro e X ⟨rfl, rfl⟩)
        | (refine wpList_blt rfl tAc _ rfl [(0, .int .i64 1), (2, .int .i64 t)] rfl R8 HB.out ?_; simp only [Act.put, List.setIfInBounds_toArray, List.set_cons_zero, List.set_cons_succ])
        | (go_at_call 56; refine Calls.mono HDO.out ?_; rintro e Y ⟨rfl, q⟩; have HX := (show Hid _ from q); clear q))
      go_ret
      exact ⟨by rw [HS.out.2]; rfl, HX.out⟩
set_option maxRecDepth 100000 in
set_option maxHeartbeats 4000000 in
theorem rstop_false {w : World} {q : Nat} {v : Value} {l : List Acv} {s : St} (h : Ro w q v l) (hR : Rel l s) (hn : l.length < 2199023255551) (t : Int) (s' : St) (E : Int) (hs : sStop s t false = (s', E)) :
    Calls Try.prog 32 #[.pointer (some ⟨q, 0, none⟩), .int .i64 t, .bool false] w fun e w' => e = .returned (.int .i64 E) ∧ Rx w w' q v l.length s' := by
  have HTH : Hid (Calls Try.prog 55 #[.pointer (some ⟨q, 0, none⟩), .int .i64 t] w fun e w' => e = .returned (.int .i64 (fnd s.T t).2.2) ∧ w' = w) := rlE h hR t
  have HLS : Hid (Calls Try.prog 39 #[.pointer (some ⟨q, 0, none⟩), .int .i64 t] w fun e w' => e = .returned (.tuple #[.bool (rl l t).1, .bool (rl l t).2]) ∧ w' = w) := rlL h t
  have HX0 : Hid (Rx w w q v l.length s) := Rx.same h hR (Below.refl _ _)
  rcases fnd_E s.T t with ⟨hE, hx⟩ | ⟨hE, h0, h6, hT⟩ | ⟨b, m, hf, h0, h6, hT⟩
  · rw [hE] at HTH
    have HS : Hid (s' = s ∧ E = 140) := by unfold sStop at hs; rw [hE, if_pos (by decide)] at hs; cases hs; exact ⟨rfl, rfl⟩
    clear h hR hs hE hx
    go_enter Try.func32, Try.ntmps32
    go_wp2_with (first
      | (go_at_call 55; refine Calls.mono HTH.out ?_; rintro e X ⟨rfl, rfl⟩))
    go_ret
    exact ⟨by rw [HS.out.2]; rfl, by rw [HS.out.1]; exact HX0.out⟩
  · rw [hE] at HTH
    have HS : Hid (s' = s ∧ E = 141) := by unfold sStop at hs; rw [hE, if_pos (by decide)] at hs; cases hs; exact ⟨rfl, rfl⟩
    clear h hR hs hE h0 h6 hT
    go_enter Try.func32, Try.ntmps32
    go_wp2_with (first
      | (go_at_call 55; refine Calls.mono HTH.out ?_; rintro e X ⟨rfl, rfl⟩))
    go_ret
    exact ⟨by rw [HS.out.2]; rfl, by rw [HS.out.1]; exact HX0.out⟩
  · rw [hf] at HTH
    have htk := hR.t t h0 h6
    rw [hT] at htk
    have e1 : (rl l t).1 = true := by rw [htk.1]
    have e2 : (rl l t).2 = b := by rw [htk.1]
    rw [e1, e2] at HLS
    clear e1 e2 htk
    cases b with
    | false =>
      have HS : Hid (s' = s ∧ E = 143) := by unfold sStop at hs; rw [hf, if_neg (by simp), if_pos rfl] at hs; cases hs; exact ⟨rfl, rfl⟩
      clear h hR hs hf h0 h6 hT
      go_enter Try.func32, Try.ntmps32
      go_wp2_with (first
        | (go_at_call 55; refine Calls.mono HTH.out ?_; rintro e X ⟨rfl, rfl⟩)
        | (go_at_call 39; refine Calls.mono HLS.out ?_; rintro e X ⟨rfl, rfl⟩))
      go_ret
      exact ⟨by rw [HS.out.2]; rfl, by rw [HS.out.1]; exact HX0.out⟩
    | true =>
      have HS : Hid (s' = { s with T := upd s.T t (some (false, m)) } ∧ E = 0) := by unfold sStop at hs; rw [hf, if_neg (by simp), if_neg (by simp)] at hs; cases hs; exact ⟨rfl, rfl⟩
      obtain ⟨R8, hR8⟩ : ∃ R, R = (Acv.mk 2 0 t 0).cells := ⟨_, rfl⟩
      have HB : Hid (Try.prog.built tAc [(0, .int .i64 2), (2, .int .i64 t)] = some R8.toArray) := by show _ = _; rw [hR8]; exact built_a2 2 t
      have HDO : Hid (Calls Try.prog 56 #[.pointer (some ⟨q, 0, none⟩), .agg R8.toArray] w fun e w' => e = .returned (.int .i64 0) ∧ Rx w w' q v l.length s') := (do_any h ⟨2, 0, t, 0⟩ (by show (0 : Nat) < 2 ^ 256; decide) hn R8 hR8).mono fun e w' hh => ⟨hh.1, by rw [HS.out.1]; exact Rx.more (hR.again h0 h6 hT) hh.2⟩
      clear h hR hs hf h0 h6 hT hR8
      go_enter Try.func32, Try.ntmps32
      go_wp2_with (first
        | (go_at_call 55; refine Calls.mono HTH.out ?_; rintro e X ⟨rfl, rfl⟩)
        | (go_at_call 39; refine Calls.mono HLS.out ?_; rintro e X ⟨rfl, rfl⟩)
        | (refine wpList_blt rfl tAc _ rfl [(0, .int .i64 2), (2, .int .i64 t)] rfl R8 HB.out ?_; simp only [Act.put, List.setIfInBounds_toArray, List.set_cons_zero, List.set_cons_succ])
        | (go_at_call 56; refine Calls.mono HDO.out ?_; rintro e Y ⟨rfl, q⟩; have HX := (show Hid _ from q); clear q))
      go_ret
      exact ⟨by rw [HS.out.2]; rfl, HX.out⟩

end Go.Proofs.Ytkbdnebmekhcdaa

namespace Go.Proofs.Ytkbdnebmekhcdaa
open Go Go.RowKit Go.Maps
open Wd

theorem built_a3 (k t : Int) (m : Nat) : Try.prog.built tAc [(0, .int .i64 k), (2, .int .i64 t), (3, .agg (vQ (dgs m 4)).toArray)] = some (Acv.mk k 0 t m).cells.toArray := by kernel_rfl
theorem built_a4 (k i t : Int) (m : Nat) : Try.prog.built tAc [(0, .int .i64 k), (1, .int .i64 i), (2, .int .i64 t), (3, .agg (vQ (dgs m 4)).toArray)] = some (Acv.mk k i t m).cells.toArray := by kernel_rfl
theorem wpP_lss {Q : Exit → Act → World → Prop} {o : Oper} {a : Act} {w : World} {K : Act → World → Prop} {x y : Operand} {yt : TypeId} (ho : o.op = .binOp .lss 3 x y yt) (m n : Int) (B : Bool) (hB : decide (m < n) = B) (hx : a.eval x = .int .i64 m) (hy : a.eval y = .int .i64 n) (h : K (a.put o.dst (.bool B)) w) : Oper.wp Try.prog o a w K Q := by
  subst hB
  unfold Oper.wp execOp
  simp only [ho, hx, hy]
  simp [go_sem]
  exact h
theorem wd4_info (m : Nat) : (Try.prog.info? 33).map (·.size) = some (vQ (dgs m 4)).length := by rw [vQ_length, dgs_length]; kernel_rfl
theorem rkL {w : World} {q : Nat} {v : Value} {l : List Acv} {s : St} (h : Ro w q v l) (hR : Rel l s) : Calls Try.prog 42 #[.pointer (some ⟨q, 0, none⟩)] w fun e w' => e = .returned (.agg (vQ (dgs s.L 4)).toArray) ∧ Below w.heap.size w w' := by
  obtain ⟨A, cap, _, hv⟩ := h.rv
  rw [← hR.l]
  exact rlocked_any hv
theorem rhL {w : World} {q : Nat} {v : Value} {l : List Acv} (h : Ro w q v l) (t : Int) : Calls Try.prog 40 #[.pointer (some ⟨q, 0, none⟩), .int .i64 t] w fun e w' => e = .returned (.agg (vQ (dgs (rh l t) 4)).toArray) ∧ Below w.heap.size w w' := by
  obtain ⟨A, cap, _, hv⟩ := h.rv
  exact rheld_any hv t
theorem rpL {w : World} {q : Nat} {v : Value} {l : List Acv} {s : St} (h : Ro w q v l) (hR : Rel l s) (i : Int) : Calls Try.prog 41 #[.pointer (some ⟨q, 0, none⟩), .int .i64 i] w fun e w' => e = .returned (.bool (paid s.U i)) ∧ w' = w := by
  obtain ⟨A, cap, _, hv⟩ := h.rv
  rw [← hR.p]
  exact rpaid_any hv i
theorem refCmp_e {ca cb : List Value} {a b : Nat} (Ha : Wc ca a) (Hb : Wc cb b) (ha : a < 2 ^ 256) (hb : b < 2 ^ 256) {E : Int} (hE : cmpR a b = E) (w : World) : Calls Try.prog 26 #[.agg ca.toArray, .agg cb.toArray] w fun e w' => e = .returned (.int .i64 E) ∧ Below w.heap.size w w' := by
  subst hE; rw [Ha, Hb]
  exact refCmp_any a b ha hb w
theorem refIsZero_e {ca : List Value} {a : Nat} (Ha : Wc ca a) (ha : a < 2 ^ 256) {B : Bool} (hB : decide (a = 0) = B) (w : World) : Calls Try.prog 57 #[.agg ca.toArray] w fun e w' => e = .returned (.bool B) ∧ Below w.heap.size w w' := by
  subst hB; rw [Ha]
  exact refIsZero_any a ha w
theorem cmp_lt (a b : Nat) : decide (cmpR a b < 0) = decide (a < b) := by
  unfold cmpR
  by_cases h : a = b
  · rw [if_pos h, decide_eq_false (by decide), decide_eq_false (by omega)]
  · rw [if_neg h]
    by_cases h2 : a < b
    · rw [if_pos h2, decide_eq_true (by decide), decide_eq_true h2]
    · rw [if_neg h2, decide_eq_false (by decide), decide_eq_false h2]
set_option maxRecDepth 100000 in
set_option maxHeartbeats 4000000 in
theorem rfree_any {w : World} {q : Nat} {v : Value} {l : List Acv} {s : St} (h : Ro w q v l) (hR : Rel l s) (hL : s.L < 2 ^ 256) (hn : l.length < 2199023255551) (m : Nat) (hm : m < 2 ^ 256) (s' : St) (E : Int) (hs : sFree s m = (s', E)) :
    Calls Try.prog 36 #[.pointer (some ⟨q, 0, none⟩), .agg (vQ (dgs m 4)).toArray] w fun e w' => e = .returned (.int .i64 E) ∧ Rx w w' q v l.length s' := by
  obtain ⟨cM, hcM⟩ : ∃ c, c = vQ (dgs m 4) := ⟨_, rfl⟩
  obtain ⟨cH, hcH⟩ : ∃ c, c = vQ (dgs s.L 4) := ⟨_, rfl⟩
  obtain ⟨ce, hce⟩ : ∃ c, c = cmpR s.L m := ⟨_, rfl⟩
  have HMI : Hid ((Try.prog.info? 33).map (·.size) = some cM.length) := by show _ = _; rw [hcM]; exact wd4_info m
  have HCM : Hid (∀ W, Calls Try.prog 26 #[.agg cH.toArray, .agg cM.toArray] W fun e w' => e = .returned (.int .i64 ce) ∧ Below W.heap.size W w') := fun W => refCmp_e hcH hcM hL hm hce.symm W
  have HK0 : Hid (∀ X, Below w.heap.size w X → Calls Try.prog 42 #[.pointer (some ⟨q, 0, none⟩)] X fun e w' => e = .returned (.agg cH.toArray) ∧ Below X.heap.size X w') := fun X k => by rw [hcH]; exact rkL (h.be k) hR
  rw [← hcM]
  by_cases hlt : s.L < m
  · have HLT : Hid (decide (ce < 0) = true) := by show _ = _; rw [hce, cmp_lt]; exact decide_eq_true hlt
    have HS : Hid (s' = s ∧ E = 149) := by unfold sFree subE at hs; rw [if_pos hlt, if_pos (by decide)] at hs; cases hs; exact ⟨rfl, rfl⟩
    have HX : Hid (∀ X, Below w.heap.size w X → Rx w X q v l.length s) := fun X k => Rx.same h hR k
    clear h hR hs hlt hcM hcH hce
    go_enter Try.func36, Try.ntmps36
    go_upto_region 1 with (refine wpList_bxG 33 rfl (.tmp 1) rfl cM rfl ?_; intro V1 q1 q2 q3; have R1 : Hid (Row V1 w.heap.size cM 33) := q1; have B1 : Hid (Below w.heap.size w V1) := q2; clear q1 q2 q3; simp only [Act.put, List.setIfInBounds_toArray, List.set_cons_zero, List.set_cons_succ])
    obtain ⟨bB, hbB⟩ : ∃ b, b = w.heap.size := ⟨_, rfl⟩
    rw [← hbB] at R1 ⊢
    have rB := R1.out
    have hb1 := Below.refl V1.heap.size V1
    have HHD : Hid (∀ W, Below V1.heap.size V1 W → Calls Try.prog 42 #[.pointer (some ⟨q, 0, none⟩)] W fun e w' => e = .returned (.agg cH.toArray) ∧ Below W.heap.size W w') := fun W k => HK0.out W (B1.out.trans (k.mono B1.out.size))
    clear R1 hbB HK0
    refine wp_named fun a0 ha0 => ?_
    have hsz : a0.tmps.size = 14 := by rw [ha0]; rfl
    have zs0 : a0.eval (.tmp 0) = .pointer (some ⟨q, 0, none⟩) := by rw [ha0]; rfl
    have zs3 : a0.eval (.tmp 3) = .pointer (some ⟨bB, 0, none⟩) := by rw [ha0]; rfl
    obtain ⟨D, hD⟩ : ∃ D : List (Tmp × SP), D = [(5, SP.is (.pointer (some ⟨q, 0, none⟩))), (6, SP.is (.agg cH.toArray)), (7, SP.is (.agg cM.toArray)), (8, SP.is (.int .i64 ce)), (9, SP.is (.bool true))] := ⟨_, rfl⟩
    refine wp_region_down (by kernel_rfl) (fun listed ac W => listed.size = 5 ∧ Fp D a0 listed ac W ∧ Below V1.heap.size V1 W ∧ Row W bB cM 33) ?_ ?_ ?_
    · exact ⟨by simp, Fp.start D a0 _ _, Below.drew hb1, Row.drew rB⟩
    · clear ha0 hb1 rB 
      intro listed ac W k hI hdn hk
      obtain ⟨hl, hF, hb1, rB⟩ := hI
      have hk1 : k < 5 := List.mem_range.1 (List.mem_filter.1 hk).1
      have hl2 : ∀ j, (listed.setIfInBounds j true).size = 5 := fun j => by rw [Array.size_setIfInBounds]; exact hl
      rcases (show k = 0 ∨ k = 1 ∨ k = 2 ∨ k = 3 ∨ k = 4 by omega) with rfl | rfl | rfl | rfl | rfl
      · have hk3 := hk
        exact wpOp_plain rfl rfl (wp_move_v (ac.eval (.tmp 0)) rfl rfl ⟨hl2 0, (hF.put 0 5 (SP.is (.pointer (some ⟨q, 0, none⟩))) (ac.eval (.tmp 0)) (by rw [hD]; rfl) (((hF.keep 0 (by rw [hD]; rfl)).trans zs0)) (by rw [hD]; rfl) (by rw [hsz]; decide) (by rw [hl]; decide)), hb1, rB⟩)
      · have hk3 := hk
        have ea := (hF.done 0 (5, SP.is (.pointer (some ⟨q, 0, none⟩))) (by rw [hD]; rfl) (ready_dep hk 0 (by kernel_rfl)))
        refine wpOp_plain rfl rfl (wp_fcall_v 42 #[.pointer (some ⟨q, 0, none⟩)] rfl rfl (by show [ac.eval (.tmp 5)] = _; rw [show ac.eval (.tmp 5) = _ from ea]) (by go_simp) ((HHD.out W hb1).mono ?_))
        rintro e W2 ⟨rfl, hB⟩
        exact ⟨_, rfl, hl2 1, ((hF.world hB).put 1 6 (SP.is (.agg cH.toArray)) (.agg cH.toArray) (by rw [hD]; rfl) rfl (by rw [hD]; rfl) (by rw [hsz]; decide) (by rw [hl]; decide)), hb1.trans (hB.mono hb1.size), Row.below rB hB (Row.lt rB)⟩
      · have hk3 := hk
        exact wpOp_plain rfl rfl (wp_load_mid 33 (.tmp 3) rfl bB 0 ((hF.keep 3 (by rw [hD]; rfl)).trans zs3) cM _ rB.all Try.underlying33 rfl (HMI.out) ⟨hl2 2, (hF.put 2 7 (SP.is (.agg cM.toArray)) (.agg cM.toArray) (by rw [hD]; rfl) rfl (by rw [hD]; rfl) (by rw [hsz]; decide) (by rw [hl]; decide)), hb1, rB⟩)
      · have hk3 := hk
        have ea := (hF.done 1 (6, SP.is (.agg cH.toArray)) (by rw [hD]; rfl) (ready_dep hk 1 (by kernel_rfl)))
        have eb := (hF.done 2 (7, SP.is (.agg cM.toArray)) (by rw [hD]; rfl) (ready_dep hk 2 (by kernel_rfl)))
        refine wpOp_plain rfl rfl (wp_fcall_v 26 #[.agg cH.toArray, .agg cM.toArray] rfl rfl (by show [ac.eval (.tmp 6), ac.eval (.tmp 7)] = _; rw [show ac.eval (.tmp 6) = _ from ea, show ac.eval (.tmp 7) = _ from eb]) (by go_simp) ((HCM.out W).mono ?_))
        rintro e W2 ⟨rfl, hB⟩
        exact ⟨_, rfl, hl2 3, ((hF.world hB).put 3 8 (SP.is (.int .i64 ce)) (.int .i64 ce) (by rw [hD]; rfl) rfl (by rw [hD]; rfl) (by rw [hsz]; decide) (by rw [hl]; decide)), hb1.trans (hB.mono hb1.size), Row.below rB hB (Row.lt rB)⟩
      · have hk3 := hk
        have ea := (hF.done 3 (8, SP.is (.int .i64 ce)) (by rw [hD]; rfl) (ready_dep hk 3 (by kernel_rfl)))
        exact wpOp_plain rfl rfl (wpP_lss rfl ce 0 true HLT.out ea rfl ⟨hl2 4, (hF.put 4 9 (SP.is (.bool true)) (.bool true) (by rw [hD]; rfl) rfl (by rw [hD]; rfl) (by rw [hsz]; decide) (by rw [hl]; decide)), hb1, rB⟩)
    · clear hb1 rB 
      intro listed ac W hI hr
      obtain ⟨hl, hF, hb1, rB⟩ := hI
      have hall := all_listed (by kernel_rfl) hl hr
      have h5 : ac.eval (.tmp 5) = .pointer (some ⟨q, 0, none⟩) := hF.done 0 (5, SP.is (.pointer (some ⟨q, 0, none⟩))) (by rw [hD]; rfl) (hall 0 (by decide))
      have h6 : ac.eval (.tmp 6) = .agg cH.toArray := hF.done 1 (6, SP.is (.agg cH.toArray)) (by rw [hD]; rfl) (hall 1 (by decide))
      have h7 : ac.eval (.tmp 7) = .agg cM.toArray := hF.done 2 (7, SP.is (.agg cM.toArray)) (by rw [hD]; rfl) (hall 2 (by decide))
      have h8 : ac.eval (.tmp 8) = .int .i64 ce := hF.done 3 (8, SP.is (.int .i64 ce)) (by rw [hD]; rfl) (hall 3 (by decide))
      have h9 : ac.eval (.tmp 9) = .bool true := hF.done 4 (9, SP.is (.bool true)) (by rw [hD]; rfl) (hall 4 (by decide))
      have ea := hF.lay [(5, .pointer (some ⟨q, 0, none⟩)), (6, .agg cH.toArray), (7, .agg cM.toArray), (8, .int .i64 ce), (9, .bool true)] (by rw [hD, hsz]; rfl) (by simp only [List.forall_mem_cons, List.not_mem_nil, false_implies, implies_true, and_true]; exact ⟨h5, h6, h7, h8, h9⟩)
      rw [ha0] at ea
      simp only [List.foldl_cons, List.foldl_nil, List.setIfInBounds_toArray, List.set_cons_zero, List.set_cons_succ] at ea
      clear hF hall hr hl hD  zs0 zs3 ha0 hsz h5 h6 h7 h8 h9
      subst ea
      have HXW : Hid (Rx w W q v l.length s) := HX.out W (B1.out.trans (hb1.mono B1.out.size))
      clear hb1 rB
      go_wp2_with fail
      go_ret
      exact ⟨by rw [HS.out.2]; rfl, by rw [HS.out.1]; exact HXW.out⟩
  · have HLT : Hid (decide (ce < 0) = false) := by show _ = _; rw [hce, cmp_lt]; exact decide_eq_false hlt
    have HS : Hid (s' = { s with L := subR s.L m } ∧ E = 0) := by unfold sFree subE at hs; rw [if_neg hlt, if_neg (by decide)] at hs; cases hs; exact ⟨rfl, rfl⟩
    obtain ⟨R8, hR8⟩ : ∃ R, R = (Acv.mk 6 0 (-1) m).cells := ⟨_, rfl⟩
    have HB : Hid (Try.prog.built tAc [(0, .int .i64 6), (2, .int .i64 (-1)), (3, .agg cM.toArray)] = some R8.toArray) := by show _ = _; rw [hR8, hcM]; exact built_a3 6 (-1) m
    have HDO : Hid (∀ X, Below w.heap.size w X → Calls Try.prog 56 #[.pointer (some ⟨q, 0, none⟩), .agg R8.toArray] X fun e w' => e = .returned (.int .i64 0) ∧ Rx w w' q v l.length s') := fun X k => (do_any (h.be k) ⟨6, 0, -1, m⟩ hm hn R8 hR8).mono fun e w' hh => ⟨hh.1, by rw [HS.out.1]; exact Rx.more (by have := hR.bond ⟨6, 0, -1, m⟩ (by simp) (by simp) (by simp) (by simp) (by simp); simpa [stepK] using this) (Rt.of k hh.2)⟩
    clear h hR hs hlt hcM hcH hce hR8
    go_enter Try.func36, Try.ntmps36
    go_upto_region 1 with (refine wpList_bxG 33 rfl (.tmp 1) rfl cM rfl ?_; intro V1 q1 q2 q3; have R1 : Hid (Row V1 w.heap.size cM 33) := q1; have B1 : Hid (Below w.heap.size w V1) := q2; clear q1 q2 q3; simp only [Act.put, List.setIfInBounds_toArray, List.set_cons_zero, List.set_cons_succ])
    obtain ⟨bB, hbB⟩ : ∃ b, b = w.heap.size := ⟨_, rfl⟩
    rw [← hbB] at R1 ⊢
    have rB := R1.out
    have hb1 := Below.refl V1.heap.size V1
    have HHD : Hid (∀ W, Below V1.heap.size V1 W → Calls Try.prog 42 #[.pointer (some ⟨q, 0, none⟩)] W fun e w' => e = .returned (.agg cH.toArray) ∧ Below W.heap.size W w') := fun W k => HK0.out W (B1.out.trans (k.mono B1.out.size))
    clear R1 hbB HK0
    refine wp_named fun a0 ha0 => ?_
    have hsz : a0.tmps.size = 14 := by rw [ha0]; rfl
    have zs0 : a0.eval (.tmp 0) = .pointer (some ⟨q, 0, none⟩) := by rw [ha0]; rfl
    have zs3 : a0.eval (.tmp 3) = .pointer (some ⟨bB, 0, none⟩) := by rw [ha0]; rfl
    obtain ⟨D, hD⟩ : ∃ D : List (Tmp × SP), D = [(5, SP.is (.pointer (some ⟨q, 0, none⟩))), (6, SP.is (.agg cH.toArray)), (7, SP.is (.agg cM.toArray)), (8, SP.is (.int .i64 ce)), (9, SP.is (.bool false))] := ⟨_, rfl⟩
    refine wp_region_down (by kernel_rfl) (fun listed ac W => listed.size = 5 ∧ Fp D a0 listed ac W ∧ Below V1.heap.size V1 W ∧ Row W bB cM 33) ?_ ?_ ?_
    · exact ⟨by simp, Fp.start D a0 _ _, Below.drew hb1, Row.drew rB⟩
    · clear ha0 hb1 rB 
      intro listed ac W k hI hdn hk
      obtain ⟨hl, hF, hb1, rB⟩ := hI
      have hk1 : k < 5 := List.mem_range.1 (List.mem_filter.1 hk).1
      have hl2 : ∀ j, (listed.setIfInBounds j true).size = 5 := fun j => by rw [Array.size_setIfInBounds]; exact hl
      rcases (show k = 0 ∨ k = 1 ∨ k = 2 ∨ k = 3 ∨ k = 4 by omega) with rfl | rfl | rfl | rfl | rfl
      · have hk3 := hk
        exact wpOp_plain rfl rfl (wp_move_v (ac.eval (.tmp 0)) rfl rfl ⟨hl2 0, (hF.put 0 5 (SP.is (.pointer (some ⟨q, 0, none⟩))) (ac.eval (.tmp 0)) (by rw [hD]; rfl) (((hF.keep 0 (by rw [hD]; rfl)).trans zs0)) (by rw [hD]; rfl) (by rw [hsz]; decide) (by rw [hl]; decide)), hb1, rB⟩)
      · have hk3 := hk
        have ea := (hF.done 0 (5, SP.is (.pointer (some ⟨q, 0, none⟩))) (by rw [hD]; rfl) (ready_dep hk 0 (by kernel_rfl)))
        refine wpOp_plain rfl rfl (wp_fcall_v 42 #[.pointer (some ⟨q, 0, none⟩)] rfl rfl (by show [ac.eval (.tmp 5)] = _; rw [show ac.eval (.tmp 5) = _ from ea]) (by go_simp) ((HHD.out W hb1).mono ?_))
        rintro e W2 ⟨rfl, hB⟩
        exact ⟨_, rfl, hl2 1, ((hF.world hB).put 1 6 (SP.is (.agg cH.toArray)) (.agg cH.toArray) (by rw [hD]; rfl) rfl (by rw [hD]; rfl) (by rw [hsz]; decide) (by rw [hl]; decide)), hb1.trans (hB.mono hb1.size), Row.below rB hB (Row.lt rB)⟩
      · have hk3 := hk
        exact wpOp_plain rfl rfl (wp_load_mid 33 (.tmp 3) rfl bB 0 ((hF.keep 3 (by rw [hD]; rfl)).trans zs3) cM _ rB.all Try.underlying33 rfl (HMI.out) ⟨hl2 2, (hF.put 2 7 (SP.is (.agg cM.toArray)) (.agg cM.toArray) (by rw [hD]; rfl) rfl (by rw [hD]; rfl) (by rw [hsz]; decide) (by rw [hl]; decide)), hb1, rB⟩)
      · have hk3 := hk
        have ea := (hF.done 1 (6, SP.is (.agg cH.toArray)) (by rw [hD]; rfl) (ready_dep hk 1 (by kernel_rfl)))
        have eb := (hF.done 2 (7, SP.is (.agg cM.toArray)) (by rw [hD]; rfl) (ready_dep hk 2 (by kernel_rfl)))
        refine wpOp_plain rfl rfl (wp_fcall_v 26 #[.agg cH.toArray, .agg cM.toArray] rfl rfl (by show [ac.eval (.tmp 6), ac.eval (.tmp 7)] = _; rw [show ac.eval (.tmp 6) = _ from ea, show ac.eval (.tmp 7) = _ from eb]) (by go_simp) ((HCM.out W).mono ?_))
        rintro e W2 ⟨rfl, hB⟩
        exact ⟨_, rfl, hl2 3, ((hF.world hB).put 3 8 (SP.is (.int .i64 ce)) (.int .i64 ce) (by rw [hD]; rfl) rfl (by rw [hD]; rfl) (by rw [hsz]; decide) (by rw [hl]; decide)), hb1.trans (hB.mono hb1.size), Row.below rB hB (Row.lt rB)⟩
      · have hk3 := hk
        have ea := (hF.done 3 (8, SP.is (.int .i64 ce)) (by rw [hD]; rfl) (ready_dep hk 3 (by kernel_rfl)))
        exact wpOp_plain rfl rfl (wpP_lss rfl ce 0 false HLT.out ea rfl ⟨hl2 4, (hF.put 4 9 (SP.is (.bool false)) (.bool false) (by rw [hD]; rfl) rfl (by rw [hD]; rfl) (by rw [hsz]; decide) (by rw [hl]; decide)), hb1, rB⟩)
    · clear hb1 rB 
      intro listed ac W hI hr
      obtain ⟨hl, hF, hb1, rB⟩ := hI
      have hall := all_listed (by kernel_rfl) hl hr
      have h5 : ac.eval (.tmp 5) = .pointer (some ⟨q, 0, none⟩) := hF.done 0 (5, SP.is (.pointer (some ⟨q, 0, none⟩))) (by rw [hD]; rfl) (hall 0 (by decide))
      have h6 : ac.eval (.tmp 6) = .agg cH.toArray := hF.done 1 (6, SP.is (.agg cH.toArray)) (by rw [hD]; rfl) (hall 1 (by decide))
      have h7 : ac.eval (.tmp 7) = .agg cM.toArray := hF.done 2 (7, SP.is (.agg cM.toArray)) (by rw [hD]; rfl) (hall 2 (by decide))
      have h8 : ac.eval (.tmp 8) = .int .i64 ce := hF.done 3 (8, SP.is (.int .i64 ce)) (by rw [hD]; rfl) (hall 3 (by decide))
      have h9 : ac.eval (.tmp 9) = .bool false := hF.done 4 (9, SP.is (.bool false)) (by rw [hD]; rfl) (hall 4 (by decide))
      have ea := hF.lay [(5, .pointer (some ⟨q, 0, none⟩)), (6, .agg cH.toArray), (7, .agg cM.toArray), (8, .int .i64 ce), (9, .bool false)] (by rw [hD, hsz]; rfl) (by simp only [List.forall_mem_cons, List.not_mem_nil, false_implies, implies_true, and_true]; exact ⟨h5, h6, h7, h8, h9⟩)
      rw [ha0] at ea
      simp only [List.foldl_cons, List.foldl_nil, List.setIfInBounds_toArray, List.set_cons_zero, List.set_cons_succ] at ea
      clear hF hall hr hl hD  zs0 zs3 ha0 hsz h5 h6 h7 h8 h9
      subst ea
      have B2 : Hid (Below w.heap.size w W) := B1.out.trans (hb1.mono B1.out.size)
      have RB2 : Hid (Row W bB cM 33) := rB
      clear hb1 rB
      go_wp2_with (first
        | (refine wpList_ldS rfl 33 (.tmp 3) rfl bB 0 rfl cM _ RB2.out.all Try.underlying33 rfl HMI.out ?_; simp only [Act.put, List.setIfInBounds_toArray, List.set_cons_zero, List.set_cons_succ])
        | (refine wpList_blt rfl tAc _ rfl [(0, .int .i64 6), (2, .int .i64 (-1)), (3, .agg cM.toArray)] rfl R8 HB.out ?_; simp only [Act.put, List.setIfInBounds_toArray, List.set_cons_zero, List.set_cons_succ])
        | (go_at_call 56; refine Calls.mono (HDO.out _ B2.out) ?_; rintro e Y ⟨rfl, q⟩; have HX := (show Hid _ from q); clear q))
      go_ret
      exact ⟨by rw [HS.out.2]; rfl, HX.out⟩

end Go.Proofs.Ytkbdnebmekhcdaa
