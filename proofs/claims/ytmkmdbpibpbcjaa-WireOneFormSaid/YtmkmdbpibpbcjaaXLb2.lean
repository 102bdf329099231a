/-
  List of bytes, by the law's takeBytes.
-/
import Derived.Test.YtmkmdbpibpbcjaaXCp

namespace Go.Proofs.Ytmkmdbpibpbcjaa
open Go Go.RowKit
open Sha

theorem info_sall : (Try.prog.info? 27).map (fun i => (i.size, i.bytes)) = some (1, 24) := by kernel_rfl
theorem info_szero : ((Try.prog.info? 27).bind (·.zero)).map (·.cells.size) = some 1 := by kernel_rfl
theorem info_sopen : ∃ ie z, Try.prog.info? 27 = some ie ∧ ie.zero = some z ∧ ie.size = 1 ∧ ie.bytes = 24 ∧ z.cells.size = 1 := by
  have i1 := info_sall
  have i2 := info_szero
  cases hi : Try.prog.info? 27 with
  | none => rw [hi] at i1; cases i1
  | some ie =>
    rw [hi] at i1 i2
    cases hz : ie.zero with
    | none => simp [hz] at i2
    | some z =>
      have i3 : ie.size = 1 ∧ ie.bytes = 24 := by simpa using i1
      exact ⟨ie, z, rfl, hz, i3.1, i3.2, by simpa [hz] using i2⟩
/-- A list of lists that is owned. -/
abbrev Sw (w : World) (v : Value) (vs : List Value) : Prop := w.ownsRow 0 27 1 v vs.length vs
section
variable {w w' : World} {v : Value} {vs : List Value}
theorem Sw.lt (h : Sw w v vs) : ∀ g, v.ownBlock = some g → g < w.heap.size := fun g e => (World.ownsRow.lt h g e).2
theorem Sw.block (h : Sw w v vs) (k : ∀ g, v.ownBlock = some g → w'.heap[g]? = w.heap[g]?) : Sw w' v vs := by
  obtain ⟨h1, h2⟩ := h
  refine ⟨h1, ?_⟩
  rcases h2 with h2 | ⟨g, cap, cur, hv, hg, hh, r⟩
  · exact .inl h2
  · exact .inr ⟨g, cap, cur, hv, hg, (k g (by rw [hv]; rfl)).trans hh, r⟩
theorem Sw.be (h : Sw w v vs) (k : Below w.heap.size w w') : Sw w' v vs := Sw.block h fun g e => k.block g (Sw.lt h g e)
theorem Sw.gro {R : Nat → Prop} (h : Sw w v vs) (k : Gro R w w') (hR : ∀ g, v.ownBlock = some g → ¬ R g) : Sw w' v vs := Sw.block h fun g e => k.block g (Sw.lt h g e) (hR g e)
theorem Sw.form (h : Sw w v vs) : ∃ A cap, v = .slice A vs.length cap ∧ vs.length ≤ cap ∧ (A = none → cap = 0) := by
  rcases h.2 with ⟨h1, h2⟩ | ⟨g, cap, cur, hv, _, _, hc, _⟩
  · exact ⟨none, 0, by rw [h1, h2], by omega, fun _ => rfl⟩
  · exact ⟨_, cap, hv, hc, fun e => by cases e⟩
theorem Sw.nil (w : World) : Sw w (.slice none 0 0) [] := ⟨rfl, .inl ⟨rfl, rfl⟩⟩
theorem Sw.row (h : Sw w v vs) : ∀ g, v.ownBlock = some g → ∃ cs, Row w g cs 27 := fun g e => by
  rcases h.2 with ⟨h1, _⟩ | ⟨g', cap, cur, hv, _, hh, _⟩
  · rw [h1] at e; simp [Value.ownBlock] at e
  · rw [hv] at e
    simp only [Value.ownBlock, Option.some.injEq] at e
    subst e
    exact ⟨cur.toList, by unfold Row; rw [hh]⟩
theorem Sw.at (h : Sw w v vs) (i : Nat) (hi : i < vs.length) : ∃ g, v.ownBlock = some g ∧ (∃ cap, v = .slice (some ⟨g, 0, none⟩) vs.length cap ∧ vs.length ≤ cap) ∧ w.cell? ⟨g, i, none⟩ = some (vs.getD i undef) := by
  rcases h.2 with ⟨h1, h2⟩ | ⟨g, cap, cur, hv, hg, hh, hc, hm, hs, ht⟩
  · omega
  · have hr : Row w g cur.toList 27 := by unfold Row; rw [hh]
    refine ⟨g, by rw [hv]; rfl, ⟨cap, hv, hc⟩, hr.cell i _ ?_⟩
    have e1 : vs[i]? = some (vs.getD i undef) := by rw [List.getD_eq_getElem?_getD, List.getElem?_eq_getElem hi]; rfl
    rw [← ht] at e1
    rw [List.getElem?_take_of_lt (by omega)] at e1
    rw [ht] at e1
    exact e1
end
section
variable {ops : Array Oper} {rest : List Oper} {o : Oper} {a : Act} {w : World} {Q : Exit → Act → World → Prop}
theorem wpList_apps (hgd : o.guard = none) (s x : Operand) (ho : o.op = .call { callee := .builtin .append, args := #[s, x], argTypes := #[65, 65] }) (v : Value) (vs : List Value) (hs : a.eval s = v) (hown : Sw w v vs)
    (N : Nat) (y : Value) (hy : y.oneCell' = true) (hx : a.eval x = .slice (some ⟨N, 0, none⟩) 1 1) (hN : Row w N [y] 27) (hk : (vs.length + 1) * 24 ≤ 140737488355328)
    (h : ∀ v' w', Sw w' v' (vs ++ [y]) → w.grownBy w' v.ownBlock → (v'.ownBlock = v.ownBlock ∨ v'.ownBlock = some w.heap.size) → wpList Try.prog ops Q rest (a.put o.dst v') w') : wpList Try.prog ops Q (o :: rest) a w := by
  obtain ⟨ie, z, h1, h2, h3, h5, h4⟩ := info_sopen
  have hcell := hN.all
  obtain ⟨v', w', hr, q2, q3, _, q5⟩ := run_append_own_at (P := Try.prog) w 0 65 o.type 27 ie z 1 24 Try.underlying65 h1 h2 h3 h5 h4 (by decide) v vs.length vs hown ⟨N, 0, none⟩ 1 1 [y] rfl
    (fun j u hj => by rw [Addr.add_mid]; exact hcell j u hj) (fun u hu => by obtain rfl := List.mem_singleton.1 hu; exact hy) (by unfold maxLen; omega) hk (Nat.zero_le _)
  refine wpList_plain hgd fun K hK => ?_
  unfold Oper.wp execOp
  simp only [ho, resolve, invoke, builtin, Sem.run_bind, Sem.run_pure, Result.andThen_ok, List.map_toArray, List.map_cons, List.map_nil, hs, hx, hr]
  refine hK _ _ (h v' w' ?_ q3 q5)
  unfold Sw
  rw [List.length_append]; exact q2
end

/-- Place and fault behind t lists of at most five bytes. -/
def rb (bs : List (BitVec 8)) (a : Nat) (f : Int) : Nat → Nat × Int
  | 0 => (a, f)
  | t + 1 => if (rb bs a f t).2 = 0 then (if cnE bs (rb bs a f t).1 5 = 0 then ((rb bs a f t).1 + 1 + at8 bs (rb bs a f t).1 + nuW bs (rb bs a f t).1, 0) else ((rb bs a f t).1, cnE bs (rb bs a f t).1 5)) else rb bs a f t
/-- The t-th of them. -/
def pb (bs : List (BitVec 8)) (a : Nat) (t : Nat) : List (BitVec 8) := sub bs ((rb bs a 0 t).1 + 1 + at8 bs (rb bs a 0 t).1) (nuW bs (rb bs a 0 t).1)

/-- A list of bytes that came out, each one's own. -/
structure Ly (N : Nat) (w : World) (v : Value) (vs : List Value) (ps : List (List (BitVec 8))) : Prop where
  own : Sw w v vs
  fv : Fresh N v
  len : vs.length = ps.length
  each : ∀ i, i < ps.length → Bo N (ps.getD i []) (ps.getD i []).length w (vs.getD i undef)
theorem Bo.gro {R : Nat → Prop} {N : Nat} {d : List (BitVec 8)} {n : Nat} {w w' : World} {v : Value} (h : Bo N d n w v) (k : Gro R w w') (hR : ∀ g, N ≤ g → (∃ cs, Row w g cs 5) → ¬ R g) : Bo N d n w' v := by
  obtain ⟨A, c, e, hb, hf, hn⟩ := h
  refine ⟨A, c, e, Bw.gro hb k (fun g eg => hR g (hf g eg) ?_), hf, hn⟩
  rcases hb.2 with ⟨h1, _⟩ | ⟨g', cap, cur, hv, _, hh, _⟩
  · rw [h1] at eg; simp [Value.ownBlock] at eg
  · rw [hv] at eg
    simp only [Value.ownBlock, Option.some.injEq] at eg
    subst eg
    exact ⟨cur.toList, by unfold Row; rw [hh]⟩
theorem Ly.gro {R : Nat → Prop} {N : Nat} {w w' : World} {v : Value} {vs : List Value} {ps : List (List (BitVec 8))} (h : Ly N w v vs ps) (k : Gro R w w') (h1 : ∀ g, v.ownBlock = some g → ¬ R g) (h2 : ∀ g, N ≤ g → (∃ cs, Row w g cs 5) → ¬ R g) : Ly N w' v vs ps :=
  ⟨Sw.gro h.own k h1, h.fv, h.len, fun i hi => (h.each i hi).gro k h2⟩

set_option maxRecDepth 100000 in
theorem takeBytes_any (P : Nat) (A : Option Addr) (cap : Nat) (bs : List (BitVec 8)) (a : Nat) (w : World) (h : Rg w P A cap bs a) :
    Calls Try.prog 88 #[.pointer (some ⟨P, 0, none⟩)] w fun e w' => (cnE bs a 5 = 0 → ∃ v, e = .returned v ∧ Bo w.heap.size (sub bs (a + 1 + at8 bs a) (nuW bs a)) (nuW bs a) w' v ∧ Rg w' P A cap bs (a + 1 + at8 bs a + nuW bs a)) ∧ (¬ cnE bs a 5 = 0 → e = .returned (.slice none 0 0) ∧ Rf w' P a (cnE bs a 5)) ∧ Gp P w w' := by
  have HF : Hid _ := face_bytes P A cap bs a 5 w h
  clear h
  generalize cnE bs a 5 = f at *
  generalize Bo w.heap.size (sub bs (a + 1 + at8 bs a) (nuW bs a)) (nuW bs a) = Qv at *
  generalize a + 1 + at8 bs a + nuW bs a = a' at *
  go_enter Try.func88, Try.ntmps88
  go_wp2_with fail
  refine Calls.mono HF.out ?_
  rintro e V ⟨h1, h2, hg⟩
  have HG : Hid (Gro _ _ _) := hg
  by_cases hz : f = 0
  · obtain ⟨v, rfl, hq, hr⟩ := h1 hz
    have HQ : Hid (Qv V v) := hq
    have HR : Hid (Rg _ _ _ _ _ _) := hr
    clear h1 h2 hg HF hr hq
    go_wp2_with fail
    go_ret
    exact ⟨fun _ => ⟨v, rfl, HQ.out, HR.out⟩, fun q => absurd hz q, HG.out⟩
  · obtain ⟨rfl, hr⟩ := h2 hz
    have HR : Hid (Rf _ _ _ _) := hr
    clear h1 h2 hg HF hr
    go_wp2_with fail
    go_ret
    exact ⟨fun q => absurd q hz, fun _ => ⟨rfl, HR.out⟩, HG.out⟩

end Go.Proofs.Ytmkmdbpibpbcjaa

namespace Go.Proofs.Ytmkmdbpibpbcjaa
open Go Go.RowKit
open Sha

set_option maxRecDepth 100000 in
theorem seeBl_any (P : Nat) (A : Option Addr) (cap : Nat) (bs : List (BitVec 8)) (a : Nat) (most : Int) (qm : Nat) (hf : cnE bs a most = 0) (w : World) (h : Rg w P A cap bs a) (hm : Row w qm [.int .i64 most] 3) :
    Calls Try.prog 123 #[.pointer (some ⟨P, 0, none⟩), .pointer (some ⟨qm, 0, none⟩)] w fun e w' => e = .returned (.int .i64 ((nuW bs a : Nat) : Int)) ∧ Rg w' P A cap bs (a + 1 + at8 bs a) ∧ Gp P w w' := by
  have HC : Hid _ := seeCount_any P A cap bs a most hf w h
  have cm := hm.cell 0 _ rfl
  clear h hm
  go_enter Try.func123, Try.ntmps123
  go_wp2_with fail
  refine Calls.mono HC.out ?_
  rintro e V ⟨rfl, hr, hg⟩
  have HR : Hid (Rg _ _ _ _ _ _) := hr
  have HG : Hid (Gro _ _ _) := hg
  clear hr hg HC cm
  go_wp2_with fail
  go_ret
  exact ⟨rfl, HR.out, HG.out⟩
set_option maxRecDepth 100000 in
theorem seeBl_no (P : Nat) (A : Option Addr) (cap : Nat) (bs : List (BitVec 8)) (a : Nat) (most : Int) (qm : Nat) (hf : ¬ cnE bs a most = 0) (w : World) (h : Rg w P A cap bs a) (hm : Row w qm [.int .i64 most] 3) :
    Calls Try.prog 123 #[.pointer (some ⟨P, 0, none⟩), .pointer (some ⟨qm, 0, none⟩)] w fun e w' => e = .panicked (gu (cnE bs a most)) ∧ Gave w w' P A cap bs := by
  have HC : Hid _ := seeCount_no P A cap bs a most _ rfl hf w h
  have cm := hm.cell 0 _ rfl
  clear h hm
  go_enter Try.func123, Try.ntmps123
  go_wp2_with fail
  refine Calls.mono HC.out ?_
  rintro e V ⟨rfl, hr⟩
  have HR : Hid (Gave _ _ _ _ _ _) := hr
  clear hr HC cm
  go_wp2_with fail
  exact ⟨rfl, rfl, HR.out⟩
theorem bfunc_kind : (Try.prog.underlying 110).map (fun d => match d with | .func .. => true | _ => false) = some true := by kernel_rfl
theorem bfunc_nil (fn : Fn) (a b : Array Value) (w : World) : (binOp .eql 110 (.func fn a b) .nilFunc).run Try.prog w = .ok (.bool false) w := by
  have hk := bfunc_kind
  cases h : Try.prog.underlying 110 with
  | none => rw [h] at hk; cases hk
  | some d =>
    rw [h] at hk
    cases d with
    | func =>
      have he : ∀ d, (Op.equalIn (d + 1) 110 (.func fn a b) .nilFunc).run Try.prog w = .ok false w := fun d => by simp [Op.equalIn, run_underlying h]
      have he2 : (Op.equal 110 (.func fn a b) .nilFunc).run Try.prog w = .ok false w := he 9999
      simp only [binOp]
      simp [he2]
    | _ => simp at hk

def pcs (bs : List (BitVec 8)) (a t : Nat) : List (List (BitVec 8)) := (List.range t).map (pb bs a)
theorem pcs_len (bs : List (BitVec 8)) (a t : Nat) : (pcs bs a t).length = t := by simp [pcs]
theorem pcs_succ (bs : List (BitVec 8)) (a t : Nat) : pcs bs a (t + 1) = pcs bs a t ++ [pb bs a t] := by simp [pcs, List.range_succ]
theorem rb_ge (bs : List (BitVec 8)) (a : Nat) (ha : a ≤ bs.length) : ∀ t, a ≤ (rb bs a 0 t).1 ∧ (rb bs a 0 t).1 ≤ bs.length
  | 0 => ⟨Nat.le_refl _, ha⟩
  | t + 1 => by
    have ih := rb_ge bs a ha t
    simp only [rb]
    by_cases h : (rb bs a 0 t).2 = 0
    · rw [if_pos h]
      by_cases h2 : cnE bs (rb bs a 0 t).1 5 = 0
      · rw [if_pos h2]
        have := cnE_ok h2
        exact ⟨by simp only; omega, by simp only; omega⟩
      · rw [if_neg h2]; exact ih
    · rw [if_neg h]; exact ih
theorem rb_pre (bs : List (BitVec 8)) (a : Nat) (t : Nat) (h : (rb bs a 0 (t + 1)).2 = 0) : (rb bs a 0 t).2 = 0 ∧ cnE bs (rb bs a 0 t).1 5 = 0 := by
  simp only [rb] at h
  by_cases h1 : (rb bs a 0 t).2 = 0
  · rw [if_pos h1] at h
    by_cases h2 : cnE bs (rb bs a 0 t).1 5 = 0
    · exact ⟨h1, h2⟩
    · rw [if_neg h2] at h; exact absurd h h2
  · rw [if_neg h1] at h; exact absurd h h1
theorem rb_stay (bs : List (BitVec 8)) (a : Nat) (t : Nat) (h : ¬ (rb bs a 0 t).2 = 0) : ∀ d, rb bs a 0 (t + d) = rb bs a 0 t
  | 0 => rfl
  | d + 1 => by
    have ih := rb_stay bs a t h d
    show (if (rb bs a 0 (t + d)).2 = 0 then _ else rb bs a 0 (t + d)) = _
    rw [ih, if_neg h]

/-- What List leaves. -/
def Lp (w w' : World) (e : Ending) (P : Nat) (Ar : Option Addr) (capr : Nat) (bs : List (BitVec 8)) (a : Nat) (most : Int) : Prop :=
  (cnE bs a most = 0 ∧ (rb bs (a + 1 + at8 bs a) 0 (nuW bs a)).2 = 0 ∧ ∃ Av cv vs, e = .returned (.slice Av (nuW bs a) cv) ∧ Ly w.heap.size w' (.slice Av (nuW bs a) cv) vs (pcs bs (a + 1 + at8 bs a) (nuW bs a)) ∧ Rg w' P Ar capr bs (rb bs (a + 1 + at8 bs a) 0 (nuW bs a)).1) ∨
  (∃ b f, ¬ f = 0 ∧ a ≤ b ∧ b ≤ bs.length ∧ e = .returned (.slice none 0 0) ∧ Rf w' P b f)

theorem Ly.app {N : Nat} {w W1 w' : World} {v v' : Value} {vs : List Value} {ps : List (List (BitVec 8))} {y : Value} {d : List (BitVec 8)} (h : Ly N W1 v vs ps) (hy : Bo N d d.length W1 y) (hw : Below w.heap.size w W1) (hN : N ≤ w.heap.size)
    (q1 : Sw w' v' (vs ++ [y])) (q2 : W1.grownBy w' v.ownBlock) (q3 : v'.ownBlock = v.ownBlock ∨ v'.ownBlock = some W1.heap.size) : Ly N w' v' (vs ++ [y]) (ps ++ [d]) := by
  have G : Gro (fun g => v.ownBlock = some g) W1 w' := (Gro.refl _ _).grown q2 (fun g e => .inl e)
  have hno : ∀ g, N ≤ g → (∃ cs, Row W1 g cs 5) → ¬ v.ownBlock = some g := fun g _ ⟨cs, r⟩ e => by
    obtain ⟨cs2, r2⟩ := Sw.row h.own g e
    exact row_ne r r2 (by decide) rfl
  refine ⟨q1, fun g e => ?_, by rw [List.length_append, List.length_append, h.len]; rfl, fun i hi => ?_⟩
  · rcases q3 with q | q
    · exact h.fv g (q.symm.trans e)
    · have e2 : some W1.heap.size = some g := q.symm.trans e
      simp only [Option.some.injEq] at e2
      rw [← e2]
      exact Nat.le_trans hN hw.size
  · rw [List.length_append] at hi
    have hl := h.len
    by_cases hlt : i < ps.length
    · have := (h.each i hlt).gro G hno
      rw [List.getD_eq_getElem?_getD, List.getD_eq_getElem?_getD, List.getElem?_append_left (by omega), List.getElem?_append_left (by omega), ← List.getD_eq_getElem?_getD, ← List.getD_eq_getElem?_getD]
      exact this
    · obtain rfl : i = ps.length := by simp at hi; omega
      have := hy.gro G hno
      have e1 : (ps ++ [d]).getD ps.length [] = d := by simp
      have e2 : (vs ++ [y]).getD ps.length undef = y := by rw [← hl]; simp
      rw [e1, e2]
      exact this

end Go.Proofs.Ytmkmdbpibpbcjaa
