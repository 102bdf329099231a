/-
  math/bits.Mul64, wide.mulAdd.
-/
import Derived.Deep.Quiet
import Derived.StillTail
import Derived.Deep.MidRow
import Derived.Test.YtclbiophgnkggaaGreatDoorWNum
import Derived.Test.YtclbiophgnkggaaGreatDoorMem
import Derived.Test.YtclbiophgnkggaaGreatDoorProg
import Derived.Laws.Externs
import Derived.BigQuiet
import Derived.Shelf.Spec.BitsCarry
import Derived.Shelf.Bits.Mul64

namespace Go.Proofs.YtclbiophgnkggaaGreatDoor
open Go

section
variable {P : Program} {ops : Array Oper} {md : Region.Mode} {C : World → Prop}

def anyHead (P : Program) (md : Region.Mode) (ops : Array Oper) (C : World → Prop) (n : Nat) (L : Array Bool → Act → Prop) : Nat → Array Bool → Act → Prop
  | 0, listed, a => L listed a
  | f + 1, listed, a =>
    Region.ready md ops listed ≠ [] ∧ ∀ i ∈ Region.ready md ops listed, i < n ∧ qOp P ops C i (anyHead P md ops C n L f (listed.setIfInBounds i true)) a

theorem any_of_head {n g : Nat} {L : Array Bool → Act → Prop} {Q' : Exit → Act → World → Prop} (hL : ∀ listed a w, C w → L listed a → wpAny P md ops Q' g listed a w) :
    ∀ (f : Nat) (listed : Array Bool) (a : Act) (w : World), C w → anyHead P md ops C n L f listed a → wpAny P md ops Q' (f + g) listed a w
  | 0, listed, a, w, hw, h => by rw [Nat.zero_add]; exact hL _ _ _ hw h
  | f + 1, listed, a, w, hw, h => by
    rw [show f + 1 + g = (f + g) + 1 by omega]
    exact ⟨fun h0 => absurd h0 h.1, fun i hi => wpOp_of_qOp hw (fun a' w' hw' h' => any_of_head hL f _ a' w' hw' h') (h.2 i hi).2⟩

theorem head_first {n i : Nat} {oi : Oper} {v : Value} {L : Array Bool → Act → Prop} (hi : ops[i]? = some oi) (hsel : ∀ (j : Nat) (o : Oper) cs b, ops[j]? = some o → o.op ≠ .select cs b)
    (hs : Region.sinkB md ops n = true) (hc : Region.chainB md ops n = true) (hn : n < ops.size) (hin : i < n)
    (hdone : ∀ listed a, L listed a → ∀ j ∈ Region.ready md ops listed, n ≤ j) :
    ∀ (f : Nat) (listed : Array Bool) (a : Act), HeadInv md ops n listed →
      (∀ j oj, ops[j]? = some oj → j ≠ i → listed.getD j true = false → (∀ e ∈ oj.after, Region.binds md e = true → e.on ≠ i) → oi.apart ops oj = true) →
      i ∈ Region.ready md ops listed → YieldsIn P ops C oi v a →
      anyHead P md ops C n L f (listed.setIfInBounds i true) (a.put oi.dst v) → anyHead P md ops C n L (f + 1) listed a := by
  intro f
  induction f with
  | zero =>
    intro listed a inv _ hr hy H
    have hun := (mem_ready.1 hr).1
    refine ⟨fun h => (by rw [h] at hr; cases hr), fun j hj => ?_⟩
    have hjn : j < n := by
      rcases Nat.lt_or_ge j n with h | h
      · exact h
      · exact absurd hj (tail_waits hs hc hn inv _ i rfl hin hun j h)
    refine ⟨hjn, ?_⟩
    by_cases hji : j = i
    · subst hji; exact hy.qOp hi H
    · have := hdone _ _ H j (ready_mono hj hji)
      omega
  | succ f ih =>
    intro listed a inv hfree hr hy H
    have hun := (mem_ready.1 hr).1
    refine ⟨fun h => (by rw [h] at hr; cases hr), fun j hj => ?_⟩
    have hjn : j < n := by
      rcases Nat.lt_or_ge j n with h | h
      · exact h
      · exact absurd hj (tail_waits hs hc hn inv _ i rfl hin hun j h)
    refine ⟨hjn, ?_⟩
    by_cases hji : j = i
    · subst hji; exact hy.qOp hi H
    · have h1 := (H.2 j (ready_mono hj hji)).2
      obtain ⟨hjun, oj, hoj, hall⟩ := mem_ready.1 hj
      have hnot : ∀ e ∈ oj.after, Region.binds md e = true → e.on ≠ i := fun e he hb heq => by
        have h1 := hall e he hb
        rw [heq, getD_both hun] at h1
        cases h1
      have h2 := qOp_put hoj (hfree j oj hoj hji hjun hnot) (fun cs b => hsel i oi cs b hi) (fun cs b => hsel j oj cs b hoj) hy h1
      have hfree' : ∀ k ok, ops[k]? = some ok → k ≠ i → (listed.setIfInBounds j true).getD k true = false →
          (∀ e ∈ ok.after, Region.binds md e = true → e.on ≠ i) → oi.apart ops ok = true := fun k ok hk hki hun hno => by
        refine hfree k ok hk hki ?_ hno
        by_cases hjk : j = k
        · subst hjk; exact hjun
        · rw [getD_set_ne true hjk] at hun; exact hun
      refine qOp_mono (fun a' h3 => ih (listed.setIfInBounds j true) a' (inv.set hj hjn) hfree' (ready_mono hr (Ne.symm hji)) h3.1 ?_) h2
      rw [Array.setIfInBounds_comm _ _ hji]
      exact h3.2

theorem head_lex {n g : Nat} {Lq : Act → Prop} (hsel : Region.noSelect ops = true) (hs : Region.sinkB md ops n = true) (hc : Region.chainB md ops n = true) (hn : n < ops.size) :
    ∀ (l : List Oper) (k : Nat) (listed : Array Bool) (a : Act), (∀ j, j < l.length → l[j]? = ops[k + j]?) → k + l.length = n → HeadInv md ops n listed →
    Region.lexHead md ops g l.length k listed = true → wpQuiet P ops C Lq l a →
    anyHead P md ops C n (fun listed' a' => Region.seqB md ops g n listed' = true ∧ Lq a') l.length listed a
  | [], k, listed, a, _, hk, _, hB, h => by
    have : k = n := by simpa using hk
    subst this
    exact ⟨by simpa [Region.lexHead] using hB, h⟩
  | o :: l, k, listed, a, hl, hk, inv, hB, h => by
    have h0 : ops[k]? = some o := by simpa using (hl 0 (by simp)).symm
    simp only [List.length_cons, Region.lexHead, Bool.and_eq_true] at hB
    obtain ⟨⟨hr, hf⟩, hB'⟩ := hB
    have hkn : k < n := by simp only [List.length_cons] at hk; omega
    have hr' : k ∈ Region.ready md ops listed := by simpa using hr
    have hst : qOp P ops C k (wpQuiet P ops C Lq l) a := by unfold qOp; simp only [h0]; exact h
    obtain ⟨v, hy, hK⟩ := yieldsIn_of_qOp h0 hst
    exact head_first h0 (Region.noSelect_spec hsel) hs hc hn hkn (fun listed' a' hL => seqB_ready hL.1) l.length listed a inv (Region.free_spec h0 hf) hr' hy
      (head_lex hsel hs hc hn l (k + 1) _ _ (fun j hj => by have := hl (j + 1) (by simp; omega); simpa [Nat.add_assoc, Nat.add_comm 1 j] using this) (by simp only [List.length_cons] at hk; omega) (inv.set hr' hkn) hB' hK)

/-- THE LAW: the first n operations, quiet in the class C, are walked in the text's order; the others behind them, from every world of C. -/
theorem wp_region_quiet_tail {id : Nat} {Q : Exit → Act → World → Prop} {a : Act} {w : World} {l : List Oper} (n : Nat) (hm : P.follows .mixedOrders = true) (hB : Region.lexTailB .any l.toArray n = true)
    (hC : C { w with drawn := w.drawn + 1 })
    (h : wpQuiet P l.toArray C (fun a' => ∀ w', C w' → wpList P l.toArray Q (l.drop n) a' w') (l.take n) a) : (Code.region id l.toArray true).wp P Q a w := by
  simp only [Region.lexTailB, Bool.and_eq_true, decide_eq_true_eq] at hB
  obtain ⟨⟨⟨⟨hsel, hn⟩, hs⟩, hc⟩, hlex⟩ := hB
  have hn' : n < l.length := by simpa using hn
  have htl : (l.take n).length = n := by simp; omega
  have hdl : (l.drop n).length = l.toArray.size - n := by simp
  have inv0 : HeadInv .any l.toArray n (Array.replicate l.toArray.size false) :=
    ⟨by simp, fun j oj _ hl => (by rw [getD_replicate_false] at hl; cases hl), fun t _ ht => getD_in (by simpa using ht) (getD_replicate_false _ _)⟩
  have H := head_lex (md := .any) (g := l.toArray.size - n) hsel hs hc hn (l.take n) 0 _ a (fun j hj => by
    have hj' : j < n := by rw [htl] at hj; exact hj
    simp [hj']) (by simpa using htl) inv0 (by rw [htl]; exact hlex) h
  refine wp_region_any hm ?_
  have := any_of_head (Q' := Q) (g := l.toArray.size - n) (fun listed a' w' hw' hL => by
    have := wpAny_of_seq (md := .any) (Q' := Q) (l.drop n) n listed a' w' (fun j => by simp [List.getElem?_drop]) (by rw [hdl]; exact hL.1) (hL.2 w' hw')
    rwa [hdl] at this) _ _ _ _ hC H
  rw [htl, show n + (l.toArray.size - n) = l.toArray.size by omega] at this
  exact this

/-! ### Single steps of a quiet walk, in a class of worlds of one's own -/
variable {Q : Act → Prop} {rest : List Oper} {o : Oper} {a : Act}
theorem quiet_val (hg : o.guard = none) (v : Value) (h : ∀ w, C w → (execOp a.eval o).run P w = .ok (.value v) w) (k : wpQuiet P ops C Q rest (a.put o.dst v)) : wpQuiet P ops C Q (o :: rest) a :=
  wpQuiet_step fun K hK => by
    simp only [Region.wanted, hg, if_true]
    exact ⟨v, fun w hw => by unfold Oper.quietAt; rw [h w hw]; exact ⟨rfl, rfl⟩, hK _ k⟩
theorem quiet_call (hg : o.guard = none) (f : FuncId) (args : Array Value) (v : Value) (h : ∀ w, C w → (execOp a.eval o).run P w = .ok (.enter f args) w)
    (hc : ∀ w, C w → Calls P f args w fun e w' => e = .returned v ∧ C w') (k : wpQuiet P ops C Q rest (a.put o.dst v)) : wpQuiet P ops C Q (o :: rest) a :=
  wpQuiet_step fun K hK => by
    simp only [Region.wanted, hg, if_true]
    exact ⟨v, fun w hw => by unfold Oper.quietAt; rw [h w hw]; exact ⟨rfl, hc w hw⟩, hK _ k⟩
theorem quiet_load (hg : o.guard = none) (ty : TypeId) (x : Operand) (ho : o.op = .load ty x) (b off : Nat) (hx : a.eval x = .pointer (some ⟨b, off, none⟩)) (cs : List Value) (d : TypeDesc) (hC : ∀ w, C w → w.rangeAt b off cs)
    (hu : P.underlying ty = some d) (hd : d.isRow = true) (hi : (P.info? ty).map (·.size) = some cs.length) (k : wpQuiet P ops C Q rest (a.put o.dst (.agg cs.toArray))) : wpQuiet P ops C Q (o :: rest) a :=
  quiet_val hg _ (fun w hw => by
    unfold execOp
    simp only [ho, hx, Instr.loadAt, Instr.sureAddr, Sem.run_bind, Sem.run_pure, Result.andThen_ok, run_loadVar_mid w b off ty cs d (hC w hw) hu hd hi]) k
theorem quiet_copy (hg : o.guard = none) (x : Operand) (ho : o.op = .move x ∨ o.op = .assign x) (k : wpQuiet P ops C Q rest (a.put o.dst (a.eval x))) : wpQuiet P ops C Q (o :: rest) a :=
  quiet_val hg _ (fun w _ => by rcases ho with ho | ho <;> (unfold execOp; simp only [ho]; rfl)) k

end
end Go.Proofs.YtclbiophgnkggaaGreatDoor

namespace Go.Proofs.YtclbiophgnkggaaGreatDoor
open Go Go.RowKit
open Wd

theorem add64_run (x y c : Nat) (hc : c ≤ 1) (w : World) : (callFunc 92 #[.int .u64 (x : Int), .int .u64 (y : Int), .int .u64 (c : Int)]).run Tryz.prog w =
    .ok (.value (.tuple #[.int .u64 (((x + y + c) % 18446744073709551616 : Nat) : Int), .int .u64 (((x + y + c) / 18446744073709551616 : Nat) : Int)])) w := by
  rw [run_callFunc_extern Tryz.func92 (by kernel_rfl) (by kernel_rfl) (by kernel_rfl) (e := add64Entry) (by kernel_rfl), run_add64 x y c (by omega) (by omega) (by omega) (by omega)]
  simp only [Result.andThen]
  congr 5 <;> omega
theorem sub64_run (x y c : Nat) (hc : c ≤ 1) (w : World) : (callFunc 93 #[.int .u64 (x : Int), .int .u64 (y : Int), .int .u64 (c : Int)]).run Tryz.prog w =
    .ok (.value (.tuple #[.int .u64 (((x + 18446744073709551616 - y - c) % 18446744073709551616 : Nat) : Int), .int .u64 ((if x < y + c then 1 else 0 : Nat) : Int)])) w := by
  rw [run_callFunc_extern Tryz.func93 (by kernel_rfl) (by kernel_rfl) (by kernel_rfl) (e := sub64Entry) (by kernel_rfl), run_sub64 x y c hc]
  rfl

theorem results_row_tmp {P : Program} {fn : Func} {p q : Tmp} {ty : TypeId} {n : Nat} {e : TypeId} (h : fn.results = #[.cell p ty, .tmp q]) (tmps : Array Value) (w : World) (g : Nat) (t : TypeId) (cs : List Value) (v : Value)
    (hp : tmps.getD p undef = .pointer (some ⟨g, 0, none⟩)) (hv : tmps.getD q undef = v) (hg : Row w g cs t) (hu : P.underlying ty = some (.array n e)) (hi : (P.info? ty).map (·.size) = some n) (hl : cs.length = n) :
    (results fn tmps).run P w = .ok (.tuple #[.agg cs.toArray, v]) w := by
  have hp' : tmps[p]?.getD undef = .pointer (some ⟨g, 0, none⟩) := by simpa using hp
  have hv' : tmps[q]?.getD undef = v := by simpa using hv
  have hr := run_loadVar_row (P := P) w g t ty cs.toArray (0, 0) (.array n e) hg hu rfl (by simp [hi, hl])
  simp [results, h, hp', hv', asAddr, hr]

theorem info_w4 : (Tryz.prog.info? 37).map (·.size) = some 4 := by kernel_rfl

set_option maxRecDepth 100000 in
set_option maxHeartbeats 1000000 in
theorem add_any (a b : Nat) (ha : a < 2 ^ 256) (hb : b < 2 ^ 256) (w : World) :
    Calls Tryz.prog 68 #[.agg (vQ (dgs a 4)).toArray, .agg (vQ (dgs b 4)).toArray] w fun e w' => e = .returned (.tuple #[.agg (vQ (dgs (addR a b) 4)).toArray, .int .i64 (addE a b)]) ∧ Below w.heap.size w w' := by
  have HC4 : Hid (car a b 4 = if a + b < 2 ^ 256 then 0 else 1) := car_four a b ha hb
  clear ha hb
  go_enter Tryz.func68, Tryz.ntmps68
  go_wp2
  go_loopw [7, 8, 9] (fun c _ i wr => ∃ t : Nat, t ≤ 4 ∧ i = .int .i64 (t : Int) ∧ c = .int .u64 ((car a b t : Nat) : Int) ∧ Below w.heap.size w wr ∧ Row wr w.heap.size (vQ (dgs a 4)) 37 ∧ Row wr (w.heap.size + 1) (vQ (dgs b 4)) 37 ∧ Row wr (w.heap.size + 1 + 1) (vQ (List.replicate 4 0)) 37 ∧ Row wr (w.heap.size + 1 + 1 + 1) (vQ (dgs (a + b) t ++ List.replicate (4 - t) 0)) 37)
    (fun _ _ i _ => 4 - (intOf i).toNat)
  case atStart =>
    refine ⟨0, by omega, rfl, by rw [car_zero]; rfl, ((((Below.refl _ _).alloc (Nat.le_refl _) _).alloc (by simp) _).alloc (by simp; omega) _).alloc (by simp; omega) _, ?_, ?_, ?_, ?_⟩
    · exact (((Row.new' rfl rfl).alloc _).alloc _).alloc _
    · exact ((Row.new' (by simp) rfl).alloc _).alloc _
    · exact (Row.new' (by simp) rfl).alloc _
    · exact Row.new' (by simp) rfl
  case round =>
    obtain ⟨t, ht, rfl, rfl, hb, h0, h1, h2, h3⟩ := hrel
    by_cases hlt : t < 4
    · have g0 := h0.cell t _ (vQ_get _ t (by rw [dgs_length]; exact hlt))
      have g1 := h1.cell t _ (vQ_get _ t (by rw [dgs_length]; exact hlt))
      have g3 := h3.cell t _ (vQ_get _ t (by rw [List.length_append, dgs_length, List.length_replicate]; omega))
      have gf := h3.thaw t
      rw [dgs_getD _ _ _ hlt] at g0 g1
      have hst := add_step a b t hlt
      have hc1 := car_le a b t
      have HST : Hid _ := hst
      generalize (dgs (a + b) t ++ List.replicate (4 - t) 0).getD t 0 = z at g3
      generalize lim a t = x at g0 HST
      generalize lim b t = y at g1 HST
      generalize car a b t = cc at hc1 HST
      have H64 : Hid _ := add64_run x y cc hc1
      clear hst
      go_wp2
      have h64 := H64.out
      go_region
      have e1 : ((x : Int) + (y : Int) + (cc : Int)) % 18446744073709551616 = ((lim (a + b) t : Nat) : Int) := by rw [← HST.out.1]; omega
      have e2 : ((x : Int) + (y : Int) + (cc : Int)) / 18446744073709551616 = ((car a b (t + 1) : Nat) : Int) := by rw [← HST.out.2]; omega
      clear h64 H64
      go_wp2
      refine ⟨⟨t + 1, hlt, by go_num, by rw [e2], ?_, ?_, ?_, ?_, ?_⟩, by simp [intOf]; omega⟩
      · exact Below.drew (Below.setCell hb (by simp; omega) _)
      · exact Row.drew (Row.set_other h0 _ _ _ (by omega))
      · exact Row.drew (Row.set_other h1 _ _ _ (by omega))
      · exact Row.drew (Row.set_other h2 _ _ _ (by omega))
      · have := h3.set t (.int .u64 ((lim (a + b) t : Nat) : Int))
        rw [vQ_set, fill _ t 4 _ (dgs_length _ _) hlt, ← dgs_succ] at this
        exact Row.drew this
    · have e4 : (t : Int) = 4 := by omega
      have et : t = 4 := by omega
      rw [et] at h3
      rw [show car a b t = car a b 4 by rw [et], e4]
      clear e4 et ht hlt
      have h3' : Row wr (w.heap.size + 1 + 1 + 1) (vQ (dgs (a + b) 4)) 37 := by simpa using h3
      clear h3
      by_cases hc : a + b < 2 ^ 256
      · have hcar : car a b 4 = 0 := by rw [HC4.out, if_pos hc]
        rw [hcar]
        have HR : Hid (a + b < 2 ^ 256) := hc
        obtain ⟨cs, hcs⟩ : ∃ cs, cs = vQ (dgs (a + b) 4) := ⟨_, rfl⟩
        have hl : cs.length = 4 := by rw [hcs, vQ_length, dgs_length]
        rw [← hcs] at h3'
        have i4 : (Tryz.prog.info? 37).map (·.size) = some cs.length := by rw [info_w4, hl]
        have i4' : (Tryz.prog.info? 37).map (·.size) = some cs.toArray.size := by rw [info_w4]; simp [hl]
        have hone := all_oneCell_toArray (show ∀ v ∈ cs, v.oneCell' = true by rw [hcs]; exact vQ_one _)
        have T := h2.there 0 cs.toArray.size (by simp [hl, vQ_length])
        have fin := h2.over (vs := cs) (by rw [hl]; rfl)
        have hbf := below_setCells hb (b := w.heap.size + 1 + 1) (o := 0) (by omega) cs
        have HE : Hid (vQ (dgs (a + b) 4) = cs) := hcs.symm
        have HL : Hid (cs.length = 4) := hl
        clear hcs hl hb hc HC4 hcar
        go_wp2_with (first
          | (refine wpList_load_mid rfl 37 (.tmp 6) rfl (w.heap.size + 1 + 1 + 1) 0 rfl cs _ h3'.all Tryz.underlying37 rfl i4 ?_; simp only [Act.put, List.setIfInBounds_toArray, List.set_cons_zero, List.set_cons_succ])
          | (refine wpList_store_mid rfl 37 (.tmp 4) (.tmp 29) rfl (w.heap.size + 1 + 1) 0 cs.toArray rfl rfl T i4' hone ?_; simp only [Act.put]))
        exact bodyPost_ret (results_row_tmp Tryz.results68 _ _ (w.heap.size + 1 + 1) 37 cs (.int .i64 0) rfl rfl fin Tryz.underlying37 info_w4 HL.out) rfl ⟨by rw [show addR a b = a + b from if_pos HR.out, show addE a b = 0 from if_pos HR.out, HE.out], hbf⟩
      · have hcar : car a b 4 = 1 := by rw [HC4.out, if_neg hc]
        rw [hcar]
        have HR : Hid (¬ a + b < 2 ^ 256) := hc
        have T := h2.there 0 (vQ (List.replicate 4 0)).toArray.size (Nat.le_refl 4)
        have fin := h2.over (vs := vQ (List.replicate 4 0)) rfl
        have hbf := below_setCells hb (b := w.heap.size + 1 + 1) (o := 0) (by omega) (vQ (List.replicate 4 0))
        clear hb hc HC4 hcar
        go_wp2_with (refine wpList_store_mid rfl 37 (.tmp 4) (.tmp 28) rfl (w.heap.size + 1 + 1) 0 (vQ (List.replicate 4 0)).toArray rfl rfl T info_w4 (all_oneCell_toArray (vQ_one _)) ?_; simp only [Act.put])
        exact bodyPost_ret (results_row_tmp Tryz.results68 _ _ (w.heap.size + 1 + 1) 37 (vQ (List.replicate 4 0)) (.int .i64 22) rfl rfl fin Tryz.underlying37 info_w4 rfl) rfl ⟨by rw [show addR a b = 0 from if_neg HR.out, show addE a b = 22 from if_neg HR.out, dgs_zero], hbf⟩

end Go.Proofs.YtclbiophgnkggaaGreatDoor

namespace Go.Proofs.YtclbiophgnkggaaGreatDoor
open Go Go.RowKit
open Wd

set_option maxRecDepth 100000 in
set_option maxHeartbeats 1000000 in
theorem sub_any (a b : Nat) (ha : a < 2 ^ 256) (hb : b < 2 ^ 256) (w : World) :
    Calls Tryz.prog 70 #[.agg (vQ (dgs a 4)).toArray, .agg (vQ (dgs b 4)).toArray] w fun e w' => e = .returned (.tuple #[.agg (vQ (dgs (subR a b) 4)).toArray, .int .i64 (subE a b)]) ∧ Below w.heap.size w w' := by
  have HC4 : Hid (bor a b 4 = if a < b then 1 else 0) := bor_four a b ha hb
  obtain ⟨D, hD⟩ : ∃ D, D = a + 2 ^ 256 - b % 2 ^ 256 := ⟨_, rfl⟩
  have HD : Hid (¬ a < b → dgs D 4 = dgs (a - b) 4) := by
    intro h
    rw [hD, Nat.mod_eq_of_lt hb, show a + 2 ^ 256 - b = (a - b) + 2 ^ 256 by omega, dgs_top]
  have HSTEP : Hid (∀ t, t < 4 → (lim a t + 18446744073709551616 - lim b t - bor a b t) % 18446744073709551616 = lim D t ∧ (if lim a t < lim b t + bor a b t then 1 else 0) = bor a b (t + 1)) := by rw [hD]; exact fun t ht => sub_step a b t ht
  clear hD
  clear ha hb
  go_enter Tryz.func70, Tryz.ntmps70
  go_wp2
  go_loopw [7, 8, 9] (fun c _ i wr => ∃ t : Nat, t ≤ 4 ∧ i = .int .i64 (t : Int) ∧ c = .int .u64 ((bor a b t : Nat) : Int) ∧ Below w.heap.size w wr ∧ Row wr w.heap.size (vQ (dgs a 4)) 37 ∧ Row wr (w.heap.size + 1) (vQ (dgs b 4)) 37 ∧ Row wr (w.heap.size + 1 + 1) (vQ (List.replicate 4 0)) 37 ∧ Row wr (w.heap.size + 1 + 1 + 1) (vQ (dgs D t ++ List.replicate (4 - t) 0)) 37)
    (fun _ _ i _ => 4 - (intOf i).toNat)
  case atStart =>
    refine ⟨0, by omega, rfl, by rw [bor_zero]; rfl, ((((Below.refl _ _).alloc (Nat.le_refl _) _).alloc (by simp) _).alloc (by simp; omega) _).alloc (by simp; omega) _, ?_, ?_, ?_, ?_⟩
    · exact (((Row.new' rfl rfl).alloc _).alloc _).alloc _
    · exact ((Row.new' (by simp) rfl).alloc _).alloc _
    · exact (Row.new' (by simp) rfl).alloc _
    · exact Row.new' (by simp) rfl
  case round =>
    obtain ⟨t, ht, rfl, rfl, hb, h0, h1, h2, h3⟩ := hrel
    by_cases hlt : t < 4
    · have g0 := h0.cell t _ (vQ_get _ t (by rw [dgs_length]; exact hlt))
      have g1 := h1.cell t _ (vQ_get _ t (by rw [dgs_length]; exact hlt))
      have g3 := h3.cell t _ (vQ_get _ t (by rw [List.length_append, dgs_length, List.length_replicate]; omega))
      have gf := h3.thaw t
      rw [dgs_getD _ _ _ hlt] at g0 g1
      have hst := HSTEP.out t hlt
      have hc1 := bor_le a b t
      have HST : Hid _ := hst
      generalize (dgs D t ++ List.replicate (4 - t) 0).getD t 0 = z at g3
      generalize lim a t = x at g0 HST
      generalize lim b t = y at g1 HST
      generalize bor a b t = cc at hc1 HST
      have H64 : Hid (∀ w, (callFunc 93 #[.int .u64 (x : Int), .int .u64 (y : Int), .int .u64 (cc : Int)]).run Tryz.prog w = .ok (.value (.tuple #[.int .u64 ((lim D t : Nat) : Int), .int .u64 ((bor a b (t + 1) : Nat) : Int)])) w) := fun w => by rw [sub64_run x y cc hc1, HST.out.1, HST.out.2]
      clear hst
      go_wp2
      have h64 := H64.out
      go_region
      clear h64 H64
      go_wp2
      refine ⟨⟨t + 1, hlt, by go_num, rfl, ?_, ?_, ?_, ?_, ?_⟩, by simp [intOf]; omega⟩
      · exact Below.drew (Below.setCell hb (by simp; omega) _)
      · exact Row.drew (Row.set_other h0 _ _ _ (by omega))
      · exact Row.drew (Row.set_other h1 _ _ _ (by omega))
      · exact Row.drew (Row.set_other h2 _ _ _ (by omega))
      · have := h3.set t (.int .u64 ((lim D t : Nat) : Int))
        rw [vQ_set, fill _ t 4 _ (dgs_length _ _) hlt, ← dgs_succ] at this
        exact Row.drew this
    · have e4 : (t : Int) = 4 := by omega
      have et : t = 4 := by omega
      rw [et] at h3
      rw [show bor a b t = bor a b 4 by rw [et], e4]
      clear e4 et ht hlt
      have h3' : Row wr (w.heap.size + 1 + 1 + 1) (vQ (dgs D 4)) 37 := by simpa using h3
      clear h3
      by_cases hc : ¬ a < b
      · have hbor : bor a b 4 = 0 := by rw [HC4.out, if_neg hc]
        rw [hbor]
        have HR : Hid (¬ a < b) := hc
        obtain ⟨cs, hcs⟩ : ∃ cs, cs = vQ (dgs D 4) := ⟨_, rfl⟩
        have hl : cs.length = 4 := by rw [hcs, vQ_length, dgs_length]
        rw [← hcs] at h3'
        have i4 : (Tryz.prog.info? 37).map (·.size) = some cs.length := by rw [info_w4, hl]
        have i4' : (Tryz.prog.info? 37).map (·.size) = some cs.toArray.size := by rw [info_w4]; simp [hl]
        have hone := all_oneCell_toArray (show ∀ v ∈ cs, v.oneCell' = true by rw [hcs]; exact vQ_one _)
        have T := h2.there 0 cs.toArray.size (by simp [hl, vQ_length])
        have fin := h2.over (vs := cs) (by rw [hl]; rfl)
        have hbf := below_setCells hb (b := w.heap.size + 1 + 1) (o := 0) (by omega) cs
        have HE : Hid (vQ (dgs D 4) = cs) := hcs.symm
        have HL : Hid (cs.length = 4) := hl
        clear hcs hl hb hc HC4 hbor
        go_wp2_with (first
          | (refine wpList_load_mid rfl 37 (.tmp 6) rfl (w.heap.size + 1 + 1 + 1) 0 rfl cs _ h3'.all Tryz.underlying37 rfl i4 ?_; simp only [Act.put, List.setIfInBounds_toArray, List.set_cons_zero, List.set_cons_succ])
          | (refine wpList_store_mid rfl 37 (.tmp 4) (.tmp 29) rfl (w.heap.size + 1 + 1) 0 cs.toArray rfl rfl T i4' hone ?_; simp only [Act.put]))
        exact bodyPost_ret (results_row_tmp Tryz.results70 _ _ (w.heap.size + 1 + 1) 37 cs (.int .i64 0) rfl rfl fin Tryz.underlying37 info_w4 HL.out) rfl ⟨by rw [show subR a b = a - b from if_neg HR.out, show subE a b = 0 from if_neg HR.out, ← HD.out HR.out, HE.out], hbf⟩
      · have hbor : bor a b 4 = 1 := by rw [HC4.out, if_pos (by omega)]
        rw [hbor]
        have HR : Hid (a < b) := by show a < b; omega
        have T := h2.there 0 (vQ (List.replicate 4 0)).toArray.size (Nat.le_refl 4)
        have fin := h2.over (vs := vQ (List.replicate 4 0)) rfl
        have hbf := below_setCells hb (b := w.heap.size + 1 + 1) (o := 0) (by omega) (vQ (List.replicate 4 0))
        clear hb hc HC4 hbor
        go_wp2_with (refine wpList_store_mid rfl 37 (.tmp 4) (.tmp 28) rfl (w.heap.size + 1 + 1) 0 (vQ (List.replicate 4 0)).toArray rfl rfl T info_w4 (all_oneCell_toArray (vQ_one _)) ?_; simp only [Act.put])
        exact bodyPost_ret (results_row_tmp Tryz.results70 _ _ (w.heap.size + 1 + 1) 37 (vQ (List.replicate 4 0)) (.int .i64 23) rfl rfl fin Tryz.underlying37 info_w4 rfl) rfl ⟨by rw [show subR a b = 0 from if_pos HR.out, show subE a b = 23 from if_pos HR.out, dgs_zero], hbf⟩

end Go.Proofs.YtclbiophgnkggaaGreatDoor

namespace Go.Proofs.YtclbiophgnkggaaGreatDoor
open Go Go.RowKit
open Wd

set_option maxHeartbeats 1000000 in
theorem mul64_any (x y : Nat) (hx : x < 18446744073709551616) (hy : y < 18446744073709551616) (w : World) :
    Calls Tryz.prog 118 #[.int .u64 (x : Int), .int .u64 (y : Int)] w fun e w' => e = .returned (.tuple #[.int .u64 ((x * y / 18446744073709551616 : Nat) : Int), .int .u64 ((x * y % 18446744073709551616 : Nat) : Int)]) ∧ w' = w := by
  obtain ⟨d1, d2, d3, top⟩ := Lib.mul64_hi x y hx hy
  have q1 := Lib.half_mul_le (a := x / 4294967296) (b := y / 4294967296) (by omega) (by omega)
  have q2 := Lib.half_mul_le (a := x / 4294967296) (b := y % 4294967296) (by omega) (by omega)
  have q3 := Lib.half_mul_le (a := x % 4294967296) (b := y / 4294967296) (by omega) (by omega)
  have r1 : x / 4294967296 * (y / 4294967296) < 18446744073709551616 := by omega
  have r2 : x / 4294967296 * (y % 4294967296) < 18446744073709551616 := by omega
  have r3 : x % 4294967296 * (y / 4294967296) < 18446744073709551616 := by omega
  have s1 : x / 4294967296 * (y / 4294967296) + (x / 4294967296 * (y % 4294967296) + x % 4294967296 * (y % 4294967296) / 4294967296) / 4294967296 < 18446744073709551616 := by omega
  have s2 : x / 4294967296 * (y / 4294967296) + (x / 4294967296 * (y % 4294967296) + x % 4294967296 * (y % 4294967296) / 4294967296) / 4294967296 + ((x / 4294967296 * (y % 4294967296) + x % 4294967296 * (y % 4294967296) / 4294967296) % 4294967296 + x % 4294967296 * (y / 4294967296)) / 4294967296 < 18446744073709551616 := by omega
  go_enter Tryz.func118, Tryz.ntmps118
  go_wp2
  simp only [Mul64.maskN x hx, Mul64.maskN y hy, Mul64.divN, Mul64.mulN, Mul64.addN, Mul64.wrapN _ d1, Mul64.wrapN _ r2, Mul64.wrapN _ d2, Mul64.maskN _ d2, Mul64.wrapN _ r3, Mul64.wrapN _ d3, Mul64.wrapN _ r1, Mul64.wrapN _ s1, Mul64.wrapN _ s2, Mul64.wrapM (x * y)]
  rw [top]
  go_ret2
  exact ⟨rfl, rfl⟩

theorem add64_run0 (x y : Nat) (w : World) : (callFunc 92 #[.int .u64 (x : Int), .int .u64 (y : Int), .int .u64 0]).run Tryz.prog w =
    .ok (.value (.tuple #[.int .u64 (((x + y) % 18446744073709551616 : Nat) : Int), .int .u64 (((x + y) / 18446744073709551616 : Nat) : Int)])) w := add64_run x y 0 (by omega) w
theorem mad_bound (x y c : Nat) (hx : x < 18446744073709551616) (hy : y < 18446744073709551616) (hc : c < 18446744073709551616) :
    (x * y + c) / 18446744073709551616 < 18446744073709551616 ∧ x * y / 18446744073709551616 + (x * y % 18446744073709551616 + c) / 18446744073709551616 = (x * y + c) / 18446744073709551616 ∧ (x * y % 18446744073709551616 + c) % 18446744073709551616 = (x * y + c) % 18446744073709551616 := by
  have h : x * y ≤ 18446744073709551615 * 18446744073709551615 := Nat.mul_le_mul (by omega) (by omega)
  generalize x * y = m at *
  omega

set_option maxHeartbeats 1000000 in
theorem mulAdd_any (x y c : Nat) (hx : x < 18446744073709551616) (hy : y < 18446744073709551616) (hc : c < 18446744073709551616) (w : World) :
    Calls Tryz.prog 106 #[.int .u64 (x : Int), .int .u64 (y : Int), .int .u64 (c : Int)] w fun e w' => e = .returned (.tuple #[.int .u64 (((x * y + c) / 18446744073709551616 : Nat) : Int), .int .u64 (((x * y + c) % 18446744073709551616 : Nat) : Int)]) ∧ w' = w := by
  obtain ⟨b1, b2, b3⟩ := mad_bound x y c hx hy hc
  have HM : Hid (∀ w, _) := mul64_any x y hx hy
  have H64 : Hid (∀ w, _) := add64_run0 (x * y % 18446744073709551616) c
  rw [b3] at H64
  obtain ⟨hi, hhi⟩ : ∃ hi, hi = x * y / 18446744073709551616 := ⟨_, rfl⟩
  obtain ⟨lo, hlo⟩ : ∃ lo, lo = x * y % 18446744073709551616 := ⟨_, rfl⟩
  obtain ⟨ov, hov⟩ : ∃ ov, ov = (x * y % 18446744073709551616 + c) / 18446744073709551616 := ⟨_, rfl⟩
  obtain ⟨rh, hrh⟩ : ∃ rh, rh = (x * y + c) / 18446744073709551616 := ⟨_, rfl⟩
  obtain ⟨rl, hrl⟩ : ∃ rl, rl = (x * y + c) % 18446744073709551616 := ⟨_, rfl⟩
  rw [← hhi, ← hlo] at HM
  rw [← hlo] at hov
  rw [← hlo, ← hov, ← hrl] at H64
  rw [← hhi, ← hlo, ← hov, ← hrh] at b2
  rw [← hrh] at b1
  rw [← hrh, ← hrl]
  clear hhi hlo hov hrh hrl b3 hx hy hc
  go_enter Tryz.func106, Tryz.ntmps106
  have h64 := H64.out
  go_wp2_with (go_at_call 118; refine (HM.out w).mono ?_; rintro e w ⟨rfl, rfl⟩)
  go_ret2
  exact ⟨by simp; omega, rfl⟩

end Go.Proofs.YtclbiophgnkggaaGreatDoor
