/-
  List of bytes, by the law's takeBytes.
-/
import Derived.Test.YtmkmdbpibpbcjaaXLb
namespace Go.Proofs.Ytmkmdbpibpbcjaa
open Go Go.RowKit
open Sha

set_option maxRecDepth 100000 in
theorem seeBl_any (P : Nat) (A : Option Addr) (cap : Nat) (bs : List (BitVec 8)) (a : Nat) (most : Int) (qm : Nat) (hf : cnE bs a most = 0) (w : World) (h : Rg w P A cap bs a) (hm : Row w qm [.int .i64 most] 3) :
    Calls Try.prog 123 #[.pointer (some ⟨P, 0, none⟩), .pointer (some ⟨qm, 0, none⟩)] w fun e w' => e = .returned (.int .i64 ((nuW bs a : Nat) : Int)) ∧ Rg w' P A cap bs (a + 1 + at8 bs a) ∧ Gp P w w' := by
  have HC : Hid _ := seeCount_any P A cap bs a most hf w h
  have cm := hm.cell 0 _ rfl
  clear h hm
  go_enter Try.func123, Try.ntmps123
  go_wp2_with fail
  refine Calls.mono HC.out ?_
  rintro e V ⟨rfl, hr, hg⟩
  have HR : Hid (Rg _ _ _ _ _ _) := hr
  have HG : Hid (Gro _ _ _) := hg
  clear hr hg HC cm
  go_wp2_with fail
  go_ret
  exact ⟨rfl, HR.out, HG.out⟩
set_option maxRecDepth 100000 in
theorem seeBl_no (P : Nat) (A : Option Addr) (cap : Nat) (bs : List (BitVec 8)) (a : Nat) (most : Int) (qm : Nat) (hf : ¬ cnE bs a most = 0) (w : World) (h : Rg w P A cap bs a) (hm : Row w qm [.int .i64 most] 3) :
    Calls Try.prog 123 #[.pointer (some ⟨P, 0, none⟩), .pointer (some ⟨qm, 0, none⟩)] w fun e w' => e = .panicked (gu (cnE bs a most)) ∧ Gave w w' P A cap bs := by
  have HC : Hid _ := seeCount_no P A cap bs a most _ rfl hf w h
  have cm := hm.cell 0 _ rfl
  clear h hm
  go_enter Try.func123, Try.ntmps123
  go_wp2_with fail
  refine Calls.mono HC.out ?_
  rintro e V ⟨rfl, hr⟩
  have HR : Hid (Gave _ _ _ _ _ _) := hr
  clear hr HC cm
  go_wp2_with fail
  exact ⟨rfl, rfl, HR.out⟩
theorem bfunc_kind : (Try.prog.underlying 110).map (fun d => match d with | .func .. => true | _ => false) = some true := by kernel_rfl
theorem bfunc_nil (fn : Fn) (a b : Array Value) (w : World) : (binOp .eql 110 (.func fn a b) .nilFunc).run Try.prog w = .ok (.bool false) w := by
  have hk := bfunc_kind
  cases h : Try.prog.underlying 110 with
  | none => rw [h] at hk; cases hk
  | some d =>
    rw [h] at hk
    cases d with
    | func =>
      have he : ∀ d, (Op.equalIn (d + 1) 110 (.func fn a b) .nilFunc).run Try.prog w = .ok false w := fun d => by simp [Op.equalIn, run_underlying h]
      have he2 : (Op.equal 110 (.func fn a b) .nilFunc).run Try.prog w = .ok false w := he 9999
      simp only [binOp]
      simp [he2]
    | _ => simp at hk

def pcs (bs : List (BitVec 8)) (a t : Nat) : List (List (BitVec 8)) := (List.range t).map (pb bs a)
theorem pcs_len (bs : List (BitVec 8)) (a t : Nat) : (pcs bs a t).length = t := by simp [pcs]
theorem pcs_succ (bs : List (BitVec 8)) (a t : Nat) : pcs bs a (t + 1) = pcs bs a t ++ [pb bs a t] := by simp [pcs, List.range_succ]
theorem rb_ge (bs : List (BitVec 8)) (a : Nat) (ha : a ≤ bs.length) : ∀ t, a ≤ (rb bs a 0 t).1 ∧ (rb bs a 0 t).1 ≤ bs.length
  | 0 => ⟨Nat.le_refl _, ha⟩
  | t + 1 => by
    have ih := rb_ge bs a ha t
    simp only [rb]
    by_cases h : (rb bs a 0 t).2 = 0
    · rw [if_pos h]
      by_cases h2 : cnE bs (rb bs a 0 t).1 5 = 0
      · rw [if_pos h2]
        have := cnE_ok h2
        exact ⟨by simp only; omega, by simp only; omega⟩
      · rw [if_neg h2]; exact ih
    · rw [if_neg h]; exact ih
theorem rb_pre (bs : List (BitVec 8)) (a : Nat) (t : Nat) (h : (rb bs a 0 (t + 1)).2 = 0) : (rb bs a 0 t).2 = 0 ∧ cnE bs (rb bs a 0 t).1 5 = 0 := by
  simp only [rb] at h
  by_cases h1 : (rb bs a 0 t).2 = 0
  · rw [if_pos h1] at h
    by_cases h2 : cnE bs (rb bs a 0 t).1 5 = 0
    · exact ⟨h1, h2⟩
    · rw [if_neg h2] at h; exact absurd h h2
  · rw [if_neg h1] at h; exact absurd h h1
theorem rb_stay (bs : List (BitVec 8)) (a : Nat) (t : Nat) (h : ¬ (rb bs a 0 t).2 = 0) : ∀ d, rb bs a 0 (t + d) = rb bs a 0 t
  | 0 => rfl
  | d + 1 => by
    have ih := rb_stay bs a t h d
    show (if (rb bs a 0 (t + d)).2 = 0 then _ else rb bs a 0 (t + d)) = _
    rw [ih, if_neg h]

/-- What List leaves. -/
def Lp (w w' : World) (e : Ending) (P : Nat) (Ar : Option Addr) (capr : Nat) (bs : List (BitVec 8)) (a : Nat) (most : Int) : Prop :=
  (cnE bs a most = 0 ∧ (rb bs (a + 1 + at8 bs a) 0 (nuW bs a)).2 = 0 ∧ ∃ Av cv vs, e = .returned (.slice Av (nuW bs a) cv) ∧ Ly w.heap.size w' (.slice Av (nuW bs a) cv) vs (pcs bs (a + 1 + at8 bs a) (nuW bs a)) ∧ Rg w' P Ar capr bs (rb bs (a + 1 + at8 bs a) 0 (nuW bs a)).1) ∨
  (∃ b f, ¬ f = 0 ∧ a ≤ b ∧ b ≤ bs.length ∧ e = .returned (.slice none 0 0) ∧ Rf w' P b f)

theorem Ly.app {N : Nat} {w W1 w' : World} {v v' : Value} {vs : List Value} {ps : List (List (BitVec 8))} {y : Value} {d : List (BitVec 8)} (h : Ly N W1 v vs ps) (hy : Bo N d d.length W1 y) (hw : Below w.heap.size w W1) (hN : N ≤ w.heap.size)
    (q1 : Sw w' v' (vs ++ [y])) (q2 : W1.grownBy w' v.ownBlock) (q3 : v'.ownBlock = v.ownBlock ∨ v'.ownBlock = some W1.heap.size) : Ly N w' v' (vs ++ [y]) (ps ++ [d]) := by
  have G : Gro (fun g => v.ownBlock = some g) W1 w' := (Gro.refl _ _).grown q2 (fun g e => .inl e)
  have hno : ∀ g, N ≤ g → (∃ cs, Row W1 g cs 5) → ¬ v.ownBlock = some g := fun g _ ⟨cs, r⟩ e => by
    obtain ⟨cs2, r2⟩ := Sw.row h.own g e
    exact row_ne r r2 (by decide) rfl
  refine ⟨q1, fun g e => ?_, by rw [List.length_append, List.length_append, h.len]; rfl, fun i hi => ?_⟩
  · rcases q3 with q | q
    · exact h.fv g (q.symm.trans e)
    · have e2 : some W1.heap.size = some g := q.symm.trans e
      simp only [Option.some.injEq] at e2
      rw [← e2]
      exact Nat.le_trans hN hw.size
  · rw [List.length_append] at hi
    have hl := h.len
    by_cases hlt : i < ps.length
    · have := (h.each i hlt).gro G hno
      rw [List.getD_eq_getElem?_getD, List.getD_eq_getElem?_getD, List.getElem?_append_left (by omega), List.getElem?_append_left (by omega), ← List.getD_eq_getElem?_getD, ← List.getD_eq_getElem?_getD]
      exact this
    · obtain rfl : i = ps.length := by simp at hi; omega
      have := hy.gro G hno
      have e1 : (ps ++ [d]).getD ps.length [] = d := by simp
      have e2 : (vs ++ [y]).getD ps.length undef = y := by rw [← hl]; simp
      rw [e1, e2]
      exact this

end Go.Proofs.Ytmkmdbpibpbcjaa
