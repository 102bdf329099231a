/-
  the ladder: Release, Hold, Drop, Confirm.
-/
import Derived.Test.YtddkmpbcjieolaaLaF
namespace Go.Proofs.Ytddkmpbcjieolaa
open Go Go.RowKit
open Sha

theorem La.Ok.mono {B C : Int} {st : La} (h : st.Ok B) (k : B ≤ C) : st.Ok C := ⟨h.w1, h.w2, h.l0, h.l1, h.g0, Int.le_trans h.g1 k, h.cf, h.cm, h.pw, h.pm, fun p hp => ⟨(h.pd p hp).1, Int.le_trans (h.pd p hp).2 k⟩, h.pl⟩
theorem fiN_lt {l : List Pn} {nr : Int} {i : Nat} (h : fiN l nr = some i) : i < l.length ∧ ∃ x, l[i]? = some x ∧ x.nr = nr := by
  unfold fiN at h
  rw [List.findIdx?_eq_some_iff_getElem] at h
  obtain ⟨h1, h2, _⟩ := h
  exact ⟨h1, l[i], List.getElem?_eq_getElem h1, of_decide_eq_true h2⟩
theorem drop_take_set (cs : List Value) (o m k : Nat) (u : Value) (hk : k < m) (hl : o + m ≤ cs.length) : ((cs.set (o + k) u).drop o).take m = ((cs.drop o).take m).set k u := by
  apply List.ext_getElem?
  intro j
  by_cases hj : j < m
  · rw [List.getElem?_take_of_lt hj, List.getElem?_drop]
    by_cases e : j = k
    · subst e
      rw [List.getElem?_set_self (by omega), List.getElem?_set_self (by rw [List.length_take, List.length_drop]; omega)]
    · rw [List.getElem?_set_ne (by omega), List.getElem?_set_ne (by omega), List.getElem?_take_of_lt hj, List.getElem?_drop]
  · rw [List.getElem?_eq_none (by rw [List.length_take]; omega), List.getElem?_eq_none (by rw [List.length_set, List.length_take]; omega)]
theorem pcs_set {l : List Pn} (h : ∀ p ∈ l, p.Wf) {i : Nat} {x : Pn} (hi : l[i]? = some x) (d : Int) : (pcs l).set (i * 90 + 89) (.int .i64 d) = pcs (l.set i { x with du := d }) := by
  induction l generalizing i with
  | nil => cases hi
  | cons a l ih =>
    have ha := Pn.len (h a (List.mem_cons_self ..))
    cases i with
    | zero =>
      obtain rfl : a = x := by simpa using hi
      rw [pcs_cons, List.set_append_left _ _ (by rw [ha]; decide), List.set_cons_zero, pcs_cons, Nat.zero_mul, Nat.zero_add, Pn.set_du (h a (List.mem_cons_self ..))]
    | succ i =>
      rw [pcs_cons, List.set_append_right _ _ (by rw [ha]; omega), ha, show (i + 1) * 90 + 89 - 90 = i * 90 + 89 by omega, ih (fun p hp => h p (List.mem_cons_of_mem _ hp)) (by simpa using hi), List.set_cons_succ, pcs_cons]
def La.setDu (st : La) (i : Nat) (x : Pn) (d : Int) : La := { st with pend := st.pend.set i { x with du := d } }
theorem mem_setP {l : List Pn} {i : Nat} {y p : Pn} (h : p ∈ l.set i y) : p ∈ l ∨ p = y := by
  rcases List.mem_or_eq_of_mem_set h with h | h
  · exact .inl h
  · exact .inr h
theorem La.setDu_ok {B C : Int} {st : La} (h : st.Ok B) {i : Nat} {x : Pn} (hi : st.pend[i]? = some x) (d : Int) (h0 : 0 ≤ d) (h1 : d ≤ C) (k : B ≤ C) : (st.setDu i x d).Ok C := by
  have hx := List.mem_of_getElem? hi
  refine ⟨h.w1, h.w2, h.l0, h.l1, h.g0, Int.le_trans h.g1 k, h.cf, h.cm, fun p hp => ?_, fun p hp => ?_, fun p hp => ?_, by show (st.pend.set i _).length ≤ 32; rw [List.length_set]; exact h.pl⟩
  · rcases mem_setP hp with q | rfl
    · exact h.pw p q
    · exact ⟨(h.pw x hx).c, (h.pw x hx).a⟩
  · rcases mem_setP hp with q | rfl
    · exact h.pm p q
    · exact h.pm x hx
  · rcases mem_setP hp with q | rfl
    · exact ⟨(h.pd p q).1, Int.le_trans (h.pd p q).2 k⟩
    · exact ⟨h0, h1⟩
/-! ### Release, Hold -/
def La.rel (st : La) (nr : Int) : La × Int := match fiN st.pend nr with
  | none => (st, 164)
  | some i => match st.pend[i]? with
    | none => (st, 164)
    | some x => if x.du = 0 then (st, 166) else (st.setDu i x (x.du - 1), 0)
def La.hold (st : La) (nr now : Int) : La × Int := if tmB now = false then (st, 168) else match fiN st.pend nr with
  | none => (st, 164)
  | some i => match st.pend[i]? with
    | none => (st, 164)
    | some x => if x.dl ≤ now then (st, 167) else (st.setDu i x (x.du + 1), 0)
end Go.Proofs.Ytddkmpbcjieolaa
