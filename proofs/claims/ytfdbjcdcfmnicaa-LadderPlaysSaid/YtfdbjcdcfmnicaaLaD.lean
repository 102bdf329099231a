/-
  the ladder: what it is asked.
-/
import Derived.Test.YtfdbjcdcfmnicaaLaC
namespace Go.Proofs.Ytfdbjcdcfmnicaa
open Go Go.RowKit
open Sha

def mayB (c : Cm) : Bool := decide (0 ≤ c.n) && decide (c.n ≤ 1099511627776) && decide (0 ≤ c.k) && decide (c.k ≤ 1099511627776)
theorem mayB_iff (c : Cm) : mayB c = true ↔ c.May := by
  unfold mayB Cm.May
  simp only [Bool.and_eq_true, decide_eq_true_eq, and_assoc]
set_option maxRecDepth 100000 in
set_option maxHeartbeats 4000000 in
theorem mayBe_any (c : Cm) (hw : c.Wf) (L : List Value) (hL : L = c.cells) (w : World) : Calls Try.prog 34 #[.agg L.toArray] w fun e w' => e = .returned (.bool (mayB c)) ∧ Below w.heap.size w w' := by
  obtain ⟨B, hB⟩ : ∃ B, B = mayB c := ⟨_, rfl⟩
  rw [← hB]
  have HL : Hid (L = c.cells) := hL
  have HW : Hid c.Wf := hw
  clear hL hw
  by_cases h1 : 0 ≤ c.n
  · by_cases h2 : c.n ≤ 1099511627776
    · by_cases h3 : 0 ≤ c.k
      · by_cases h4 : c.k ≤ 1099511627776
        · have HB : Hid (B = true) := by show _ = _; rw [hB, mayB, decide_eq_true h1, decide_eq_true h2, decide_eq_true h3, decide_eq_true h4]; rfl
          clear hB
          go_enter Try.func34, Try.ntmps34
          go_wp2_with (refine wpList_bxG tC rfl (.tmp 0) rfl L rfl ?_; intro X q1 q2 _; rw [HL.out] at q1; have c0 := q1.cell 0 _ (Cm.at_n c); have c1 := q1.cell 65 _ (Cm.at_k HW.out); have B1 : Hid (Below w.heap.size w X) := q2; clear q1 q2; simp only [Act.put, List.setIfInBounds_toArray, List.set_cons_zero, List.set_cons_succ])
          go_ret
          exact ⟨by rw [HB.out]; rfl, B1.out⟩
        · have HB : Hid (B = false) := by show _ = _; rw [hB, mayB, decide_eq_false h4, Bool.and_false]
          clear hB
          go_enter Try.func34, Try.ntmps34
          go_wp2_with (refine wpList_bxG tC rfl (.tmp 0) rfl L rfl ?_; intro X q1 q2 _; rw [HL.out] at q1; have c0 := q1.cell 0 _ (Cm.at_n c); have c1 := q1.cell 65 _ (Cm.at_k HW.out); have B1 : Hid (Below w.heap.size w X) := q2; clear q1 q2; simp only [Act.put, List.setIfInBounds_toArray, List.set_cons_zero, List.set_cons_succ])
          go_ret
          exact ⟨by rw [HB.out]; rfl, B1.out⟩
      · have HB : Hid (B = false) := by show _ = _; rw [hB, mayB, decide_eq_false h3, Bool.and_false, Bool.false_and]
        clear hB
        go_enter Try.func34, Try.ntmps34
        go_wp2_with (refine wpList_bxG tC rfl (.tmp 0) rfl L rfl ?_; intro X q1 q2 _; rw [HL.out] at q1; have c0 := q1.cell 0 _ (Cm.at_n c); have c1 := q1.cell 65 _ (Cm.at_k HW.out); have B1 : Hid (Below w.heap.size w X) := q2; clear q1 q2; simp only [Act.put, List.setIfInBounds_toArray, List.set_cons_zero, List.set_cons_succ])
        go_ret
        exact ⟨by rw [HB.out]; rfl, B1.out⟩
    · have HB : Hid (B = false) := by show _ = _; rw [hB, mayB, decide_eq_false h2, Bool.and_false, Bool.false_and, Bool.false_and]
      clear hB
      go_enter Try.func34, Try.ntmps34
      go_wp2_with (refine wpList_bxG tC rfl (.tmp 0) rfl L rfl ?_; intro X q1 q2 _; rw [HL.out] at q1; have c0 := q1.cell 0 _ (Cm.at_n c); have c1 := q1.cell 65 _ (Cm.at_k HW.out); have B1 : Hid (Below w.heap.size w X) := q2; clear q1 q2; simp only [Act.put, List.setIfInBounds_toArray, List.set_cons_zero, List.set_cons_succ])
      go_ret
      exact ⟨by rw [HB.out]; rfl, B1.out⟩
  · have HB : Hid (B = false) := by show _ = _; rw [hB, mayB, decide_eq_false h1, Bool.false_and, Bool.false_and, Bool.false_and]
    clear hB
    go_enter Try.func34, Try.ntmps34
    go_wp2_with (refine wpList_bxG tC rfl (.tmp 0) rfl L rfl ?_; intro X q1 q2 _; rw [HL.out] at q1; have c0 := q1.cell 0 _ (Cm.at_n c); have c1 := q1.cell 65 _ (Cm.at_k HW.out); have B1 : Hid (Below w.heap.size w X) := q2; clear q1 q2; simp only [Act.put, List.setIfInBounds_toArray, List.set_cons_zero, List.set_cons_succ])
    go_ret
    exact ⟨by rw [HB.out]; rfl, B1.out⟩
def folB (c d : Cm) : Bool := mayB c && decide (d.n < c.n) && decide (c.n - d.n ≤ 1024) && decide (d.k ≤ c.k)
set_option maxRecDepth 100000 in
set_option maxHeartbeats 4000000 in
theorem follows_any (c d : Cm) (hw : c.Wf) (hw2 : d.Wf) (hd : d.May) (L M : List Value) (hL : L = c.cells) (hM : M = d.cells) (w : World) : Calls Try.prog 70 #[.agg L.toArray, .agg M.toArray] w fun e w' => e = .returned (.bool (folB c d)) ∧ Below w.heap.size w w' := by
  obtain ⟨B, hB⟩ : ∃ B, B = folB c d := ⟨_, rfl⟩
  rw [← hB]
  obtain ⟨T, hT⟩ : ∃ T, T = mayB c := ⟨_, rfl⟩
  have hc : T = true → c.May := fun h => (mayB_iff c).1 (by rw [← hT]; exact h)
  have HI : Hid ((Try.prog.info? tC).map (·.size) = some L.length) := by show _ = _; rw [hL]; exact Cm.info hw
  have HM : Hid (∀ w, Calls Try.prog 34 #[.agg L.toArray] w fun e w' => e = .returned (.bool T) ∧ Below w.heap.size w w') := fun w => by rw [hT]; exact mayBe_any c hw L hL w
  have HL : Hid (L = c.cells) := hL
  have HM2 : Hid (M = d.cells) := hM
  have HW : Hid c.Wf := hw
  have HW2 : Hid d.Wf := hw2
  have hB2 : B = (T && decide (d.n < c.n) && decide (c.n - d.n ≤ 1024) && decide (d.k ≤ c.k)) := by rw [hB, folB, ← hT]
  clear hL hM hw hw2 hB hT
  obtain ⟨d1, d2, d3, d4⟩ := hd
  cases T with
  | false =>
    have HB : Hid (B = false) := by show _ = _; rw [hB2, Bool.false_and, Bool.false_and, Bool.false_and]
    clear hB2 hc d1 d2 d3 d4
    go_enter Try.func70, Try.ntmps70
    go_wp2_with (first
      | (refine wpList_bxG tC rfl (.tmp 0) rfl L rfl ?_; intro X q1 q2 q3; have R1 : Hid (Row X w.heap.size L tC) := q1; have B1 : Hid (Below w.heap.size w X) := q2; have S1 : Hid (X.heap.size = w.heap.size + 1) := q3; clear q1 q2 q3; simp only [Act.put, List.setIfInBounds_toArray, List.set_cons_zero, List.set_cons_succ])
      | (refine wpList_bxG tC rfl (.tmp 1) rfl M rfl ?_; intro Y q1 q2 q3; have R2 : Hid (Row Y X.heap.size M tC) := q1; have B2 : Hid (Below w.heap.size w Y) := B1.out.trans (q2.mono B1.out.size); have R3 : Hid (Row Y w.heap.size L tC) := Row.below R1.out q2 R1.out.lt; clear q1 q2 q3; simp only [Act.put, List.setIfInBounds_toArray, List.set_cons_zero, List.set_cons_succ])
      | (refine wpList_ldS rfl tC (.tmp 2) rfl w.heap.size 0 rfl L _ R3.out.all Try.underlying25 rfl HI.out ?_; simp only [Act.put, List.setIfInBounds_toArray, List.set_cons_zero, List.set_cons_succ])
      | (go_at_call 34; refine Calls.mono (HM.out _) ?_; rintro e Z ⟨rfl, q⟩; have B3 : Hid (Below w.heap.size w Z) := B2.out.trans (q.mono B2.out.size); have R4 : Hid (Row Z w.heap.size L tC) := Row.below R3.out q R3.out.lt; have R5 : Hid (Row Z X.heap.size M tC) := Row.below R2.out q R2.out.lt; rw [HL.out] at R4; rw [HM2.out] at R5; have c0 := R4.out.cell 0 _ (Cm.at_n c); have c1 := R4.out.cell 65 _ (Cm.at_k HW.out); have d0 := R5.out.cell 0 _ (Cm.at_n d); have d1 := R5.out.cell 65 _ (Cm.at_k HW2.out); clear q))
    go_ret
    exact ⟨by rw [HB.out]; first | rfl | (show Ending.returned (Value.bool (decide (d.k ≤ c.k))) = _; rw [decide_eq_false (by omega)]), B3.out⟩
  | true =>
    obtain ⟨c1, c2, c3, c4⟩ := hc rfl
    clear hc
    by_cases h1 : d.n < c.n
    · have hs : IntKind.i64.wrap (c.n - d.n) = c.n - d.n := by rw [IntKind.wrap_i64]; omega
      by_cases h2 : c.n - d.n ≤ 1024
      · by_cases h3 : d.k ≤ c.k
        · have HB : Hid (B = true) := by show _ = _; rw [hB2, decide_eq_true h1, decide_eq_true h2, decide_eq_true h3]; rfl
          clear hB2 c1 c2 c3 c4 d1 d2 d3 d4
          go_enter Try.func70, Try.ntmps70
          go_wp2_with (first
            | (refine wpList_bxG tC rfl (.tmp 0) rfl L rfl ?_; intro X q1 q2 q3; have R1 : Hid (Row X w.heap.size L tC) := q1; have B1 : Hid (Below w.heap.size w X) := q2; have S1 : Hid (X.heap.size = w.heap.size + 1) := q3; clear q1 q2 q3; simp only [Act.put, List.setIfInBounds_toArray, List.set_cons_zero, List.set_cons_succ])
            | (refine wpList_bxG tC rfl (.tmp 1) rfl M rfl ?_; intro Y q1 q2 q3; have R2 : Hid (Row Y X.heap.size M tC) := q1; have B2 : Hid (Below w.heap.size w Y) := B1.out.trans (q2.mono B1.out.size); have R3 : Hid (Row Y w.heap.size L tC) := Row.below R1.out q2 R1.out.lt; clear q1 q2 q3; simp only [Act.put, List.setIfInBounds_toArray, List.set_cons_zero, List.set_cons_succ])
            | (refine wpList_ldS rfl tC (.tmp 2) rfl w.heap.size 0 rfl L _ R3.out.all Try.underlying25 rfl HI.out ?_; simp only [Act.put, List.setIfInBounds_toArray, List.set_cons_zero, List.set_cons_succ])
            | (go_at_call 34; refine Calls.mono (HM.out _) ?_; rintro e Z ⟨rfl, q⟩; have B3 : Hid (Below w.heap.size w Z) := B2.out.trans (q.mono B2.out.size); have R4 : Hid (Row Z w.heap.size L tC) := Row.below R3.out q R3.out.lt; have R5 : Hid (Row Z X.heap.size M tC) := Row.below R2.out q R2.out.lt; rw [HL.out] at R4; rw [HM2.out] at R5; have c0 := R4.out.cell 0 _ (Cm.at_n c); have c1 := R4.out.cell 65 _ (Cm.at_k HW.out); have d0 := R5.out.cell 0 _ (Cm.at_n d); have d1 := R5.out.cell 65 _ (Cm.at_k HW2.out); clear q))
          go_ret
          exact ⟨by rw [HB.out]; first | rfl | (show Ending.returned (Value.bool (decide (d.k ≤ c.k))) = _; rw [decide_eq_false (by omega)]), B3.out⟩
        · have HB : Hid (B = false) := by show _ = _; rw [hB2, decide_eq_false h3, Bool.and_false]
          clear hB2 c1 c2 c3 c4 d1 d2 d3 d4
          go_enter Try.func70, Try.ntmps70
          go_wp2_with (first
            | (refine wpList_bxG tC rfl (.tmp 0) rfl L rfl ?_; intro X q1 q2 q3; have R1 : Hid (Row X w.heap.size L tC) := q1; have B1 : Hid (Below w.heap.size w X) := q2; have S1 : Hid (X.heap.size = w.heap.size + 1) := q3; clear q1 q2 q3; simp only [Act.put, List.setIfInBounds_toArray, List.set_cons_zero, List.set_cons_succ])
            | (refine wpList_bxG tC rfl (.tmp 1) rfl M rfl ?_; intro Y q1 q2 q3; have R2 : Hid (Row Y X.heap.size M tC) := q1; have B2 : Hid (Below w.heap.size w Y) := B1.out.trans (q2.mono B1.out.size); have R3 : Hid (Row Y w.heap.size L tC) := Row.below R1.out q2 R1.out.lt; clear q1 q2 q3; simp only [Act.put, List.setIfInBounds_toArray, List.set_cons_zero, List.set_cons_succ])
            | (refine wpList_ldS rfl tC (.tmp 2) rfl w.heap.size 0 rfl L _ R3.out.all Try.underlying25 rfl HI.out ?_; simp only [Act.put, List.setIfInBounds_toArray, List.set_cons_zero, List.set_cons_succ])
            | (go_at_call 34; refine Calls.mono (HM.out _) ?_; rintro e Z ⟨rfl, q⟩; have B3 : Hid (Below w.heap.size w Z) := B2.out.trans (q.mono B2.out.size); have R4 : Hid (Row Z w.heap.size L tC) := Row.below R3.out q R3.out.lt; have R5 : Hid (Row Z X.heap.size M tC) := Row.below R2.out q R2.out.lt; rw [HL.out] at R4; rw [HM2.out] at R5; have c0 := R4.out.cell 0 _ (Cm.at_n c); have c1 := R4.out.cell 65 _ (Cm.at_k HW.out); have d0 := R5.out.cell 0 _ (Cm.at_n d); have d1 := R5.out.cell 65 _ (Cm.at_k HW2.out); clear q))
          go_ret
          exact ⟨by rw [HB.out]; first | rfl | (show Ending.returned (Value.bool (decide (d.k ≤ c.k))) = _; rw [decide_eq_false (by omega)]), B3.out⟩
      · have HB : Hid (B = false) := by show _ = _; rw [hB2, decide_eq_false h2, Bool.and_false, Bool.false_and]
        clear hB2 c1 c2 c3 c4 d1 d2 d3 d4
        go_enter Try.func70, Try.ntmps70
        go_wp2_with (first
          | (refine wpList_bxG tC rfl (.tmp 0) rfl L rfl ?_; intro X q1 q2 q3; have R1 : Hid (Row X w.heap.size L tC) := q1; have B1 : Hid (Below w.heap.size w X) := q2; have S1 : Hid (X.heap.size = w.heap.size + 1) := q3; clear q1 q2 q3; simp only [Act.put, List.setIfInBounds_toArray, List.set_cons_zero, List.set_cons_succ])
          | (refine wpList_bxG tC rfl (.tmp 1) rfl M rfl ?_; intro Y q1 q2 q3; have R2 : Hid (Row Y X.heap.size M tC) := q1; have B2 : Hid (Below w.heap.size w Y) := B1.out.trans (q2.mono B1.out.size); have R3 : Hid (Row Y w.heap.size L tC) := Row.below R1.out q2 R1.out.lt; clear q1 q2 q3; simp only [Act.put, List.setIfInBounds_toArray, List.set_cons_zero, List.set_cons_succ])
          | (refine wpList_ldS rfl tC (.tmp 2) rfl w.heap.size 0 rfl L _ R3.out.all Try.underlying25 rfl HI.out ?_; simp only [Act.put, List.setIfInBounds_toArray, List.set_cons_zero, List.set_cons_succ])
          | (go_at_call 34; refine Calls.mono (HM.out _) ?_; rintro e Z ⟨rfl, q⟩; have B3 : Hid (Below w.heap.size w Z) := B2.out.trans (q.mono B2.out.size); have R4 : Hid (Row Z w.heap.size L tC) := Row.below R3.out q R3.out.lt; have R5 : Hid (Row Z X.heap.size M tC) := Row.below R2.out q R2.out.lt; rw [HL.out] at R4; rw [HM2.out] at R5; have c0 := R4.out.cell 0 _ (Cm.at_n c); have c1 := R4.out.cell 65 _ (Cm.at_k HW.out); have d0 := R5.out.cell 0 _ (Cm.at_n d); have d1 := R5.out.cell 65 _ (Cm.at_k HW2.out); clear q))
        go_ret
        exact ⟨by rw [HB.out]; first | rfl | (show Ending.returned (Value.bool (decide (d.k ≤ c.k))) = _; rw [decide_eq_false (by omega)]), B3.out⟩
    · have HB : Hid (B = false) := by show _ = _; rw [hB2, decide_eq_false h1, Bool.and_false, Bool.false_and, Bool.false_and]
      clear hB2 c1 c2 c3 c4 d1 d2 d3 d4
      go_enter Try.func70, Try.ntmps70
      go_wp2_with (first
        | (refine wpList_bxG tC rfl (.tmp 0) rfl L rfl ?_; intro X q1 q2 q3; have R1 : Hid (Row X w.heap.size L tC) := q1; have B1 : Hid (Below w.heap.size w X) := q2; have S1 : Hid (X.heap.size = w.heap.size + 1) := q3; clear q1 q2 q3; simp only [Act.put, List.setIfInBounds_toArray, List.set_cons_zero, List.set_cons_succ])
        | (refine wpList_bxG tC rfl (.tmp 1) rfl M rfl ?_; intro Y q1 q2 q3; have R2 : Hid (Row Y X.heap.size M tC) := q1; have B2 : Hid (Below w.heap.size w Y) := B1.out.trans (q2.mono B1.out.size); have R3 : Hid (Row Y w.heap.size L tC) := Row.below R1.out q2 R1.out.lt; clear q1 q2 q3; simp only [Act.put, List.setIfInBounds_toArray, List.set_cons_zero, List.set_cons_succ])
        | (refine wpList_ldS rfl tC (.tmp 2) rfl w.heap.size 0 rfl L _ R3.out.all Try.underlying25 rfl HI.out ?_; simp only [Act.put, List.setIfInBounds_toArray, List.set_cons_zero, List.set_cons_succ])
        | (go_at_call 34; refine Calls.mono (HM.out _) ?_; rintro e Z ⟨rfl, q⟩; have B3 : Hid (Below w.heap.size w Z) := B2.out.trans (q.mono B2.out.size); have R4 : Hid (Row Z w.heap.size L tC) := Row.below R3.out q R3.out.lt; have R5 : Hid (Row Z X.heap.size M tC) := Row.below R2.out q R2.out.lt; rw [HL.out] at R4; rw [HM2.out] at R5; have c0 := R4.out.cell 0 _ (Cm.at_n c); have c1 := R4.out.cell 65 _ (Cm.at_k HW.out); have d0 := R5.out.cell 0 _ (Cm.at_n d); have d1 := R5.out.cell 65 _ (Cm.at_k HW2.out); clear q))
      go_ret
      exact ⟨by rw [HB.out]; first | rfl | (show Ending.returned (Value.bool (decide (d.k ≤ c.k))) = _; rw [decide_eq_false (by omega)]), B3.out⟩
theorem wpList_cpd {ops : Array Oper} {rest : List Oper} {op : Oper} {a : Act} {w : World} {Q : Exit → Act → World → Prop} (hgd : op.guard = none) (x : Operand) (ho : op.op = .call { callee := .builtin .append, args := #[.const (.slice none 0 0), x], argTypes := #[tPs, tPs] }) (A : Option Addr) (n cap : Nat) (v' : Value) (w' : World) (hx : a.eval x = .slice A n cap) (hr : (Builtin.append_ #[tPs, tPs] op.type #[.slice none 0 0, .slice A n cap]).run Try.prog w = .ok v' w') (h : wpList Try.prog ops Q rest (a.put op.dst v') w') : wpList Try.prog ops Q (op :: rest) a w :=
  wpList_plain hgd fun _ hK => by
    have hc : a.eval (.const (.slice none 0 0)) = .slice none 0 0 := rfl
    unfold Oper.wp execOp
    simp only [ho, resolve, invoke, builtin, Sem.run_bind, Sem.run_pure, Result.andThen_ok, List.map_toArray, List.map_cons, List.map_nil, hx, hc, hr]
    exact hK _ _ h
set_option maxRecDepth 100000 in
set_option maxHeartbeats 4000000 in
theorem copied_any (w : World) (A : Option Addr) (n cap : Nat) (l : List Pn) (hn : l.length = n) (hw : ∀ p ∈ l, p.Wf) (hA : A = none → n = 0 ∧ cap = 0) (hS : ∀ ad, A = some ad → ∃ g o, ad = ⟨g, o, none⟩ ∧ w.rangeAt g o (pcs l)) (hb : n ≤ 1000000) :
    Calls Try.prog 68 #[.slice A n cap] w fun r w' => ∃ A' c', r = .returned (.slice A' n c') ∧ Lw w' tP 90 (.slice A' n c') n (pcs l) ∧ Fresh w.heap.size (.slice A' n c') ∧ Below w.heap.size w w' := by
  obtain ⟨v', w', q1, q2, q3, q4⟩ := run_copied w tPs A n cap (pcs l) (by rw [pcs_len hw, hn]) hA hS (pcs_one l) hb
  obtain ⟨A', c', rfl, _, _⟩ := Lw.form q2
  have HR : Hid ((Builtin.append_ #[tPs, tPs] tPs #[.slice none 0 0, .slice A n cap]).run Try.prog w = .ok (.slice A' n c') w') := q1
  have H2 : Hid (Lw w' tP 90 (.slice A' n c') n (pcs l)) := q2
  have H3 : Hid (Fresh w.heap.size (.slice A' n c')) := q3
  have H4 : Hid (Below w.heap.size w w') := q4
  clear q1 q2 q3 q4 hn hw hA hS hb
  go_enter Try.func68, Try.ntmps68
  go_wp2_with (refine wpList_cpd rfl (.tmp 3) rfl A n cap (.slice A' n c') w' rfl HR.out ?_; simp only [Act.put, List.setIfInBounds_toArray, List.set_cons_zero, List.set_cons_succ])
  go_ret
  exact ⟨A', c', rfl, H2.out, H3.out, H4.out⟩

end Go.Proofs.Ytfdbjcdcfmnicaa
