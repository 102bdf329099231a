/-
  the ladder in memory; its small functions.
-/
import Derived.Test.YtfdbjcdcfmnicaaLaB
namespace Go.Proofs.Ytfdbjcdcfmnicaa
open Go Go.RowKit
open Sha

structure La where
  win : Int
  last : Int
  given : Int
  conf : Cm
  pend : List Pn
def La.cells (st : La) (v : Value) : List Value := .int .i64 st.win :: .int .i64 st.last :: .int .i64 st.given :: (st.conf.cells ++ [v])
def pcs (l : List Pn) : List Value := (l.map Pn.cells).flatten
def Cm.May (c : Cm) : Prop := 0 ≤ c.n ∧ c.n ≤ 1099511627776 ∧ 0 ≤ c.k ∧ c.k ≤ 1099511627776
structure La.Ok (B : Int) (st : La) : Prop where
  w1 : 1 ≤ st.win
  w2 : st.win ≤ 4611686018427387904
  l0 : 0 ≤ st.last
  l1 : st.last ≤ 4611686018427387904
  g0 : 0 ≤ st.given
  g1 : st.given ≤ B
  cf : st.conf.Wf
  cm : st.conf.May
  pw : ∀ p ∈ st.pend, p.Wf
  pm : ∀ p ∈ st.pend, p.c.May
  pd : ∀ p ∈ st.pend, 0 ≤ p.du ∧ p.du ≤ B
  pl : st.pend.length ≤ 32
theorem La.len {B : Int} {st : La} (h : st.Ok B) (v : Value) : (st.cells v).length = 70 := by
  unfold La.cells; simp only [List.length_cons, List.length_append, Cm.len h.cf, List.length_nil]
theorem pcs_len {l : List Pn} (h : ∀ p ∈ l, p.Wf) : (pcs l).length = l.length * 90 := by
  unfold pcs
  induction l with
  | nil => rfl
  | cons a l ih =>
    rw [List.map_cons, List.flatten_cons, List.length_append, Pn.len (h a (List.mem_cons_self ..)), ih (fun p hp => h p (List.mem_cons_of_mem _ hp)), List.length_cons, Nat.add_mul]
    omega
theorem pcs_cons (a : Pn) (l : List Pn) : pcs (a :: l) = a.cells ++ pcs l := rfl
theorem pcs_app (l m : List Pn) : pcs (l ++ m) = pcs l ++ pcs m := by
  unfold pcs; rw [List.map_append, List.flatten_append]
theorem pcs_one (l : List Pn) : ∀ v ∈ pcs l, v.oneCell' = true := by
  intro v hv
  unfold pcs at hv
  rw [List.mem_flatten] at hv
  obtain ⟨x, hx, hv⟩ := hv
  obtain ⟨p, _, rfl⟩ := List.mem_map.1 hx
  exact Pn.one p v hv
theorem pcs_take {l : List Pn} (h : ∀ p ∈ l, p.Wf) (m : Nat) : (pcs l).take (m * 90) = pcs (l.take m) := by
  induction l generalizing m with
  | nil => simp [pcs]
  | cons a l ih =>
    have ha := Pn.len (h a (List.mem_cons_self ..))
    cases m with
    | zero => simp [pcs]
    | succ m => rw [pcs_cons, show (m + 1) * 90 = a.cells.length + m * 90 by rw [ha]; omega, List.take_length_add_append, ih (fun p hp => h p (List.mem_cons_of_mem _ hp)), List.take_succ_cons, pcs_cons]
theorem pcs_drop {l : List Pn} (h : ∀ p ∈ l, p.Wf) (m : Nat) : (pcs l).drop (m * 90) = pcs (l.drop m) := by
  induction l generalizing m with
  | nil => simp [pcs]
  | cons a l ih =>
    have ha := Pn.len (h a (List.mem_cons_self ..))
    cases m with
    | zero => simp
    | succ m => rw [pcs_cons, show (m + 1) * 90 = a.cells.length + m * 90 by rw [ha]; omega, List.drop_length_add_append, ih (fun p hp => h p (List.mem_cons_of_mem _ hp)), List.drop_succ_cons]
theorem pcs_at {l : List Pn} (h : ∀ p ∈ l, p.Wf) {i : Nat} {p : Pn} (hi : l[i]? = some p) (j : Nat) (u : Value) (hj : p.cells[j]? = some u) : (pcs l)[i * 90 + j]? = some u := by
  have hil : i < l.length := (List.getElem?_eq_some_iff.1 hi).1
  rw [← List.getElem?_drop, pcs_drop h i, List.drop_eq_getElem_cons hil, pcs_cons, show l[i] = p from (List.getElem?_eq_some_iff.1 hi).2, List.getElem?_append_left ((List.getElem?_eq_some_iff.1 hj).1)]
  exact hj
/-- The ladder lies at p, its list is v. -/
structure Ld (w : World) (p : Nat) (v : Value) (B : Int) (st : La) : Prop where
  row : Row w p (st.cells v) tL
  own : Lo w tP 90 v st.pend.length (pcs st.pend)
  ok : st.Ok B
/-- What may change when the ladder does. -/
def Tb (p : Nat) (v : Value) (g : Nat) : Prop := g = p ∨ v.ownBlock = some g
section
variable {w w' : World} {p : Nat} {v : Value} {B : Int} {st : La}
theorem Ld.gro {R : Nat → Prop} (h : Ld w p v B st) (k : Gro R w w') (hR : ∀ g, Tb p v g → ¬ R g) : Ld w' p v B st :=
  ⟨k.row h.row (hR p (.inl rfl)), h.own.gro k (fun g e => hR g (.inr e)), h.ok⟩
theorem Ld.be (h : Ld w p v B st) (k : Below w.heap.size w w') : Ld w' p v B st := h.gro (R := fun _ => False) (Gro.of_below k) fun _ _ q => q
theorem Ld.lt (h : Ld w p v B st) : ∀ g, Tb p v g → g < w.heap.size := fun g q => by
  rcases q with rfl | q
  · exact h.row.lt
  · exact h.own.lt g q
theorem Ld.c0 (h : Ld w p v B st) : w.cell? ⟨p, 0, none⟩ = some (.int .i64 st.win) := h.row.cell 0 _ rfl
theorem Ld.c1 (h : Ld w p v B st) : w.cell? ⟨p, 1, none⟩ = some (.int .i64 st.last) := h.row.cell 1 _ rfl
theorem Ld.c2 (h : Ld w p v B st) : w.cell? ⟨p, 2, none⟩ = some (.int .i64 st.given) := h.row.cell 2 _ rfl
theorem La.at_v {B : Int} {st : La} (h : st.Ok B) (v : Value) : (st.cells v)[69]? = some v := by
  unfold La.cells
  rw [List.getElem?_cons_succ, List.getElem?_cons_succ, List.getElem?_cons_succ, List.getElem?_append_right (by rw [Cm.len h.cf]; decide), Cm.len h.cf]
  rfl
theorem Ld.c69 (h : Ld w p v B st) : w.cell? ⟨p, 69, none⟩ = some v := h.row.cell 69 _ (La.at_v h.ok v)
theorem Ld.conf (h : Ld w p v B st) : w.rangeAt p 3 st.conf.cells := h.row.range 3 _ fun j u hj => by
  unfold La.cells
  rw [Nat.add_comm, List.getElem?_cons_succ, List.getElem?_cons_succ, List.getElem?_cons_succ, List.getElem?_append_left ((List.getElem?_eq_some_iff.1 hj).1)]
  exact hj
theorem La.set_v {B : Int} {st : La} (h : st.Ok B) (v u : Value) : (st.cells v).set 69 u = st.cells u := by
  unfold La.cells
  rw [List.set_cons_succ, List.set_cons_succ, List.set_cons_succ, List.set_append_right _ _ (by rw [Cm.len h.cf]; decide), Cm.len h.cf]
  rfl
/-- The i-th pending one, where it lies. -/
theorem Ld.at (h : Ld w p v B st) {i : Nat} {x : Pn} (hi : st.pend[i]? = some x) : ∃ g o cap, v = .slice (some ⟨g, o, none⟩) st.pend.length cap ∧ w.rangeAt g (o + i * 90) x.cells ∧ g ≠ p := by
  have hil : i < st.pend.length := (List.getElem?_eq_some_iff.1 hi).1
  obtain ⟨A, cap, e, _, hA, hS⟩ := h.own.form
  cases A with
  | none => have := (hA rfl).1; omega
  | some ad =>
    obtain ⟨g, o, rfl, hr⟩ := hS ad rfl
    refine ⟨g, o, cap, e, fun j u hj => ?_, h.own.ne h.row (by decide) g (by rw [e]; rfl)⟩
    rw [Nat.add_assoc]
    exact hr (i * 90 + j) u (pcs_at h.ok.pw hi j u hj)
theorem Ld.form (h : Ld w p v B st) : ∃ A cap, v = .slice A st.pend.length cap ∧ st.pend.length ≤ cap ∧ (A = none → st.pend.length = 0 ∧ cap = 0) ∧ ∀ ad, A = some ad → ∃ g o, ad = ⟨g, o, none⟩ ∧ w.rangeAt g o (pcs st.pend) := h.own.form
end
theorem results_rS {P : Program} {fn : Func} {p : Tmp} {ty : TypeId} {fs : Array Field} (h : fn.results = #[.cell p ty]) (tmps : Array Value) (w : World) (g : Nat) (t : TypeId) (cs : List Value)
    (hp : tmps.getD p undef = .pointer (some ⟨g, 0, none⟩)) (hg : Row w g cs t) (hu : P.underlying ty = some (.struct fs)) (hi : (P.info? ty).map (·.size) = some cs.length) :
    (results fn tmps).run P w = .ok (.agg cs.toArray) w := by
  have hp' : tmps[p]?.getD undef = .pointer (some ⟨g, 0, none⟩) := by simpa using hp
  have hr := run_loadVar_row (P := P) w g t ty cs.toArray (0, 0) (.struct fs) hg hu rfl (by simp [hi])
  simp [results, h, hp', asAddr, hr]
theorem results_rSt {P : Program} {fn : Func} {p q : Tmp} {ty : TypeId} {fs : Array Field} (h : fn.results = #[.cell p ty, .tmp q]) (tmps : Array Value) (w : World) (g : Nat) (t : TypeId) (cs : List Value) (v : Value)
    (hp : tmps.getD p undef = .pointer (some ⟨g, 0, none⟩)) (hv : tmps.getD q undef = v) (hg : Row w g cs t) (hu : P.underlying ty = some (.struct fs)) (hi : (P.info? ty).map (·.size) = some cs.length) :
    (results fn tmps).run P w = .ok (.tuple #[.agg cs.toArray, v]) w := by
  have hp' : tmps[p]?.getD undef = .pointer (some ⟨g, 0, none⟩) := by simpa using hp
  have hv' : tmps[q]?.getD undef = v := by simpa using hv
  have hr := run_loadVar_row (P := P) w g t ty cs.toArray (0, 0) (.struct fs) hg hu rfl (by simp [hi])
  simp [results, h, hp', hv', asAddr, hr]

/-! ### times -/
def tmB (now : Int) : Bool := decide (0 ≤ now) && decide (now ≤ 4611686018427387904)
theorem isTime_any (now : Int) (w : World) : Calls Try.prog 72 #[.int .i64 now] w fun e w' => e = .returned (.bool (tmB now)) ∧ w' = w := by
  obtain ⟨B, hB⟩ : ∃ B, B = tmB now := ⟨_, rfl⟩
  rw [← hB]
  by_cases h1 : 0 ≤ now
  · by_cases h2 : now ≤ 4611686018427387904
    · have HB : Hid (B = true) := by show _ = _; rw [hB, tmB, decide_eq_true h1, decide_eq_true h2]; rfl
      clear hB
      go_enter Try.func72, Try.ntmps72
      go_wp2
      go_ret
      exact ⟨by rw [HB.out]; rfl, rfl⟩
    · have HB : Hid (B = false) := by show _ = _; rw [hB, tmB, decide_eq_false h2, Bool.and_false]
      clear hB
      go_enter Try.func72, Try.ntmps72
      go_wp2
      go_ret
      exact ⟨by rw [HB.out]; rfl, rfl⟩
  · have HB : Hid (B = false) := by show _ = _; rw [hB, tmB, decide_eq_false h1, Bool.false_and]
    clear hB
    go_enter Try.func72, Try.ntmps72
    go_wp2
    go_ret
    exact ⟨by rw [HB.out]; rfl, rfl⟩
def goB (st : La) (now : Int) : Bool := tmB now && decide (st.last ≤ now)
theorem goesOn_any (now : Int) (w : World) (p : Nat) (la : Int) (hc : w.cell? ⟨p, 1, none⟩ = some (.int .i64 la)) : Calls Try.prog 69 #[.pointer (some ⟨p, 0, none⟩), .int .i64 now] w fun e w' => e = .returned (.bool (tmB now && decide (la ≤ now))) ∧ w' = w := by
  obtain ⟨T, hT⟩ : ∃ T, T = tmB now := ⟨_, rfl⟩
  have HT : Hid (∀ w, Calls Try.prog 72 #[.int .i64 now] w fun e w' => e = .returned (.bool T) ∧ w' = w) := fun w => by rw [hT]; exact isTime_any now w
  rw [← hT]
  clear hT
  cases T with
  | false =>
    go_enter Try.func69, Try.ntmps69
    go_wp2_with (go_at_call 72; refine Calls.mono (HT.out _) ?_; rintro e X ⟨rfl, rfl⟩)
    go_ret
    exact ⟨rfl, rfl⟩
  | true =>
    by_cases h1 : la ≤ now
    · have HB : Hid (decide (la ≤ now) = true) := decide_eq_true h1
      go_enter Try.func69, Try.ntmps69
      go_wp2_with (go_at_call 72; refine Calls.mono (HT.out _) ?_; rintro e X ⟨rfl, rfl⟩)
      go_ret
      exact ⟨by rw [HB.out]; rfl, rfl⟩
    · have HB : Hid (decide (la ≤ now) = false) := decide_eq_false h1
      go_enter Try.func69, Try.ntmps69
      go_wp2_with (go_at_call 72; refine Calls.mono (HT.out _) ?_; rintro e X ⟨rfl, rfl⟩)
      go_ret
      exact ⟨by rw [HB.out]; rfl, rfl⟩

end Go.Proofs.Ytfdbjcdcfmnicaa
