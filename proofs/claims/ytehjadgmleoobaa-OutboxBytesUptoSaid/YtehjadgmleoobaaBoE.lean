/-
  the law OutboxBytes: what its walk stands on.
-/
import Derived.Test.YtehjadgmleoobaaBoD
import Derived.Test.YtehjadgmleoobaaRqH
import Derived.Test.YtehjadgmleoobaaObG
import Derived.ArgAppend
namespace Go.Proofs.Ytehjadgmleoobaa
open Go Go.RowKit
open Sha

/-- The bytes of any leaf, and the code beside them. -/
def lbs (ix en tk : Int) (rc : List (BitVec 8)) (am : List Nat) : List (BitVec 8) := if may ix en tk am = true then lfb ix en tk rc am else []
def lbe (ix en tk : Int) (am : List Nat) : Int := if may ix en tk am = true then 0 else 110
theorem lbs_len (ix en tk : Int) (rc : List (BitVec 8)) (am : List Nat) (hto : rc.length = 20) : (lbs ix en tk rc am).length ≤ 153 := by
  unfold lbs
  split
  · exact lfb_len ix en tk rc am hto
  · exact Nat.zero_le _
theorem ob_any (ix en tk : Int) (rc : List (BitVec 8)) (am : List Nat) (hrc : rc.length = 20) (ham : am.length = 4) (hq4 : ∀ x ∈ am, x < 18446744073709551616) (L : List Value) (hL : L = lf ix en tk rc am) (w : World) : Calls Try.prog 5 #[.agg L.toArray] w fun e w' => ∃ A n cap, n = (lbs ix en tk rc am).length ∧ e = .returned (.tuple #[.slice A n cap, .int .i64 (lbe ix en tk am)]) ∧ Bw w' (.slice A n cap) (lbs ix en tk rc am) ∧ Fresh w.heap.size (.slice A n cap) ∧ Below w.heap.size w w' := by
  unfold lbs lbe
  by_cases hm : may ix en tk am = true
  · rw [if_pos hm, if_pos hm]
    refine (bytes_ok ix en tk rc am hrc ham hq4 hm L hL w).mono ?_
    rintro e w' ⟨A, n, cap, h1, rfl, h3, h4, h5⟩
    exact ⟨A, n, cap, h1, rfl, h3, h4, h5⟩
  · rw [if_neg hm, if_neg hm]
    refine (bytes_no ix en tk rc am hrc ham (by simpa using hm) L hL w).mono ?_
    rintro e w' ⟨rfl, hb⟩
    exact ⟨none, 0, 0, rfl, rfl, Bw.nil _, (fun g q => by simp [Value.ownBlock] at q), hb⟩
theorem rb_any (ix en tk : Int) (rc : List (BitVec 8)) (am : List Nat) (hrc : rc.length = 20) (ham : am.length = 4) (hq4 : ∀ x ∈ am, x < 18446744073709551616) (L : List Value) (hL : L = lf ix en tk rc am) (w : World) : Calls Try.prog 6 #[.agg L.toArray] w fun e w' => ∃ A n cap, n = (lbs ix en tk rc am).length ∧ e = .returned (.tuple #[.slice A n cap, .int .i64 (lbe ix en tk am)]) ∧ Bw w' (.slice A n cap) (lbs ix en tk rc am) ∧ Fresh w.heap.size (.slice A n cap) ∧ Below w.heap.size w w' := by
  unfold lbs lbe
  by_cases hm : may ix en tk am = true
  · rw [if_pos hm, if_pos hm]
    refine (obytes_ok ix en tk rc am hrc ham hq4 hm L hL w).mono ?_
    rintro e w' ⟨v, rfl, h3, h4, h5⟩
    obtain ⟨A, cap, rfl, _, _⟩ := Bw.form h3
    exact ⟨A, _, cap, rfl, rfl, h3, h4, h5⟩
  · rw [if_neg hm, if_neg hm]
    refine (obytes_no ix en tk rc am hrc ham (by simpa using hm) L hL w).mono ?_
    rintro e w' ⟨rfl, hb⟩
    exact ⟨none, 0, 0, rfl, rfl, Bw.nil _, (fun g q => by simp [Value.ownBlock] at q), hb⟩
/-- What both readers make of any bytes: the same. -/
theorem read_both (bs : List (BitVec 8)) : ∃ (ix en tk : Int) (rc : List (BitVec 8)) (am : List Nat) (E : Int), rc.length = 20 ∧ am.length = 4 ∧
    (∀ (w : World) (A : Option Addr) (n cap : Nat), bs.length = n → (A = none → cap = 0) → SlAt w (.slice A n cap) bs → Calls Try.prog 10 #[.slice A n cap] w fun e w' => e = .returned (.tuple #[.agg (lf ix en tk rc am).toArray, .int .i64 E]) ∧ Below w.heap.size w w') ∧
    (∀ (w : World) (A : Option Addr) (n cap g ao : Nat), bs.length = n → n ≤ 140737488355328 → n ≤ cap → ((bs = [] ∧ (A = none → cap = 0)) ∨ A = some ⟨g, ao, none⟩) → (0 < bs.length → w.rangeAt g ao (vB bs)) → Calls Try.prog 11 #[.slice A n cap] w fun e w' => e = .returned (.tuple #[.agg (lf ix en tk rc am).toArray, .int .i64 E]) ∧ Below w.heap.size w w') := by
  by_cases h : ∃ ix en tk rc am, rc.length = 20 ∧ am.length = 4 ∧ (∀ x ∈ am, x < 18446744073709551616) ∧ may ix en tk am = true ∧ bs = lfb ix en tk rc am
  · obtain ⟨ix, en, tk, rc, am, h1, h2, h3, h4, h5⟩ := h
    exact ⟨ix, en, tk, rc, am, 0, h1, h2, fun w A n cap e hn hv => (read_is bs A n cap e hn w hv).1 ix en tk rc am h1 h2 h3 h4 h5, fun w A n cap g ao e hl hc hs hr => (rread_is bs g A cap ao n e hl hc hs w hr).1 ix en tk rc am h1 h2 h3 h4 h5⟩
  · exact ⟨0, 0, 0, List.replicate 20 0#8, List.replicate 4 0, 110, rfl, rfl, fun w A n cap e hn hv => (read_is bs A n cap e hn w hv).2 h, fun w A n cap g ao e hl hc hs hr => (rread_is bs g A cap ao n e hl hc hs w hr).2 h⟩
/-- A block that the book leaves alone. -/
def Ap (B : Nat) (vl vw : Value) (g : Nat) : Prop := g ≠ B ∧ vl.ownBlock ≠ some g ∧ vw.ownBlock ≠ some g
/-- A text of the law's, apart from its book. -/
def Txd (w : World) (B : Nat) (vl vw v : Value) (d : List (BitVec 8)) : Prop := ∃ A cap g ao, v = .slice A d.length cap ∧ d.length ≤ cap ∧ ((d = [] ∧ (A = none → cap = 0)) ∨ A = some ⟨g, ao, none⟩) ∧ (0 < d.length → w.rangeAt g ao (vB d) ∧ Ap B vl vw g)
/-- The law's texts. -/
structure Tl (w : World) (B : Nat) (vl vw : Value) (A : Option Addr) (vs : List Value) (ts : List (List (BitVec 8))) : Prop where
  len : vs.length = ts.length
  lies : ∀ (i : Nat) (v : Value), vs[i]? = some v → ∃ b o, A = some ⟨b, o, none⟩ ∧ w.cell? ⟨b, o + i, none⟩ = some v ∧ Ap B vl vw b
  tx : ∀ (i : Nat) (v : Value) (d : List (BitVec 8)), vs[i]? = some v → ts[i]? = some d → Txd w B vl vw v d
abbrev Bkr (B : Nat) (vl vw : Value) : Nat → Prop := fun g => g = B ∨ vl.ownBlock = some g ∨ vw.ownBlock = some g
section
variable {w w' : World} {B : Nat} {vl vw vl' vw' v : Value} {d : List (BitVec 8)} {A : Option Addr} {vs : List Value} {ts : List (List (BitVec 8))}
theorem Ap.no {g : Nat} (h : Ap B vl vw g) : ¬ Bkr B vl vw g := fun q => by
  rcases q with q | q | q
  · exact h.1 q
  · exact h.2.1 q
  · exact h.2.2 q
theorem Ap.on {g N : Nat} (h : Ap B vl vw g) (hg : g < N) (hl : ∀ g, vl'.ownBlock = some g → vl.ownBlock = some g ∨ N ≤ g) (hw : ∀ g, vw'.ownBlock = some g → vw.ownBlock = some g ∨ N ≤ g) : Ap B vl' vw' g :=
  ⟨h.1, fun e => by rcases hl g e with q | q; exact h.2.1 q; omega, fun e => by rcases hw g e with q | q; exact h.2.2 q; omega⟩
theorem Txd.below (h : Txd w B vl vw v d) (k : Below w.heap.size w w') : Txd w' B vl vw v d := by
  obtain ⟨A, cap, g, ao, h1, h2, h4, h5⟩ := h
  exact ⟨A, cap, g, ao, h1, h2, h4, fun e => ⟨range_be (h5 e).1 k, (h5 e).2⟩⟩
theorem Txd.keep (h : Txd w B vl vw v d) (k : Gro (Bkr B vl vw) w w') (hl : ∀ g, vl'.ownBlock = some g → vl.ownBlock = some g ∨ w.heap.size ≤ g) (hw : ∀ g, vw'.ownBlock = some g → vw.ownBlock = some g ∨ w.heap.size ≤ g) : Txd w' B vl' vw' v d := by
  obtain ⟨A, cap, g, ao, h1, h2, h4, h5⟩ := h
  refine ⟨A, cap, g, ao, h1, h2, h4, fun e => ?_⟩
  obtain ⟨r, p⟩ := h5 e
  have hg := range_lt r e
  exact ⟨range_block r (k.block g hg p.no), p.on hg hl hw⟩
theorem Txd.of_bw (h : Bw w v d) (hp : ∀ g, v.ownBlock = some g → Ap B vl vw g) : Txd w B vl vw v d := by
  rcases h.2 with ⟨h1, h2⟩ | ⟨g, cap, cur, hv, _, _, hc, _⟩
  · have e0 : d = [] := List.eq_nil_of_length_eq_zero h2
    exact ⟨none, 0, 0, 0, by rw [h1, h2], by omega, .inl ⟨e0, fun _ => rfl⟩, fun e => by omega⟩
  · refine ⟨_, cap, g, 0, hv, hc, .inr rfl, fun e => ⟨?_, hp g (by rw [hv]; rfl)⟩⟩
    have hs := Bw.sl h
    rcases hs with ⟨e0, _⟩ | ⟨ab, ao, cap', e1, _, r⟩
    · rw [e0] at e; cases e
    · rw [hv] at e1
      simp only [Value.slice.injEq, Option.some.injEq, Addr.mk.injEq] at e1
      obtain ⟨⟨rfl, rfl, _⟩, _, _⟩ := e1
      exact r
theorem Txd.form (h : Txd w B vl vw v d) : ∃ A cap g ao, v = .slice A d.length cap ∧ d.length ≤ cap ∧ (A = none → cap = 0) ∧ ((d = [] ∧ (A = none → cap = 0)) ∨ A = some ⟨g, ao, none⟩) ∧ (0 < d.length → w.rangeAt g ao (vB d)) ∧ SlAt w v d := by
  obtain ⟨A, cap, g, ao, h1, h2, h4, h5⟩ := h
  refine ⟨A, cap, g, ao, h1, h2, ?_, h4, fun e => (h5 e).1, ?_⟩
  · rcases h4 with q | q
    · exact q.2
    · intro e; rw [q] at e; cases e
  · by_cases h0 : 0 < d.length
    · rcases h4 with q | q
      · rw [q.1] at h0; cases h0
      · exact .inr ⟨g, ao, cap, by rw [h1, q], h2, (h5 h0).1⟩
    · have e0 : d = [] := List.eq_nil_of_length_eq_zero (by omega)
      exact .inl ⟨e0, A, cap, by rw [h1, e0]; rfl⟩
theorem Tl.below (h : Tl w B vl vw A vs ts) (k : Below w.heap.size w w') : Tl w' B vl vw A vs ts :=
  ⟨h.len, fun i v hv => by obtain ⟨b, o, q1, q2, q3⟩ := h.lies i v hv; exact ⟨b, o, q1, cell_be q2 k, q3⟩, fun i v d h1 h2 => (h.tx i v d h1 h2).below k⟩
theorem Tl.keep (h : Tl w B vl vw A vs ts) (k : Gro (Bkr B vl vw) w w') (hl : ∀ g, vl'.ownBlock = some g → vl.ownBlock = some g ∨ w.heap.size ≤ g) (hw : ∀ g, vw'.ownBlock = some g → vw.ownBlock = some g ∨ w.heap.size ≤ g) : Tl w' B vl' vw' A vs ts :=
  ⟨h.len, fun i v hv => by
    obtain ⟨b, o, q1, q2, q3⟩ := h.lies i v hv
    have hb := World.block_lt_of_cell? w _ q2
    exact ⟨b, o, q1, (World.cell?_of_block (a := ⟨b, o + i, none⟩) (k.block b hb q3.no)).trans q2, q3.on hb hl hw⟩, fun i v d h1 h2 => (h.tx i v d h1 h2).keep k hl hw⟩
theorem Tl.app (h : Tl w B vl vw A vs ts) (k : Below w.heap.size w w') {A' : Option Addr} {n c' : Nat} {u : Value} (L : Lw w' 29 1 (.slice A' (n + 1) c') (n + 1) (vs ++ [u])) (hf : ∀ g, (Value.slice A' (n + 1) c').ownBlock = some g → w.heap.size ≤ g) (hB : B < w.heap.size) (hvl : ∀ g, vl.ownBlock = some g → g < w.heap.size) (hvw : ∀ g, vw.ownBlock = some g → g < w.heap.size) (hu : Txd w' B vl vw u d) : Tl w' B vl vw A' (vs ++ [u]) (ts ++ [d]) := by
  obtain ⟨g, cap, e, _⟩ := Lw.open L (Nat.succ_pos _)
  simp only [Value.slice.injEq] at e
  obtain ⟨rfl, _, rfl⟩ := e
  have r := Lw.range L
  have hg := hf g rfl
  have p : Ap B vl vw g := ⟨by omega, fun e => by have := hvl g e; omega, fun e => by have := hvw g e; omega⟩
  refine ⟨by rw [List.length_append, List.length_append, h.len]; rfl, fun i v hv => ⟨g, 0, rfl, r i v hv, p⟩, fun i v d' h1 h2 => ?_⟩
  rcases snoc_get _ _ _ _ h1 with q1 | ⟨q1, rfl⟩
  · have hi : i < ts.length := by rw [← h.len]; exact (List.getElem?_eq_some_iff.1 q1).1
    rw [List.getElem?_append_left hi] at h2
    exact (h.tx i v d' q1 h2).below k
  · rcases snoc_get _ _ _ _ h2 with q2 | ⟨_, rfl⟩
    · have := (List.getElem?_eq_some_iff.1 q2).1
      rw [q1, h.len] at this
      omega
    · exact hu
end
section
variable {Q : Exit → Act → World → Prop} {o : Oper} {a : Act} {w : World} {K : Act → World → Prop}
/-- A list without room grows by one: its values lie in new memory. -/
theorem wp_appT (s x : Operand) (ho : o.op = .call { callee := .builtin .append, args := #[s, x], argTypes := #[23, 23] }) (TA : Option Addr) (n : Nat) (vs : List Value) (hol : vs.length = n) (hn : n ≤ 1000000000) (hs : a.eval s = .slice TA n n)
    (holds : ∀ j u, vs[j]? = some u → ∃ b o, TA = some ⟨b, o, none⟩ ∧ w.cell? ⟨b, o + j, none⟩ = some u) (hA : TA = none → n = 0) (M : Nat) (u : Value) (hu : u.oneCell' = true) (hx : a.eval x = .slice (some ⟨M, 0, none⟩) 1 1) (hr : Row w M [u] 29)
    (h : ∀ A' c' w', Lw w' 29 1 (.slice A' (n + 1) c') (n + 1) (vs ++ [u]) → (∀ g, (Value.slice A' (n + 1) c').ownBlock = some g → w.heap.size ≤ g) → Below w.heap.size w w' → K (a.put o.dst (.slice A' (n + 1) c')) w') : Oper.wp Try.prog o a w K Q := by
  cases TA with
  | none =>
    obtain rfl := hA rfl
    obtain rfl : vs = [] := List.eq_nil_of_length_eq_zero hol
    refine wp_appL 23 29 1 24 Try.underlying23 info_sl (by decide) (by decide) s x ho (.slice none 0 0) 0 [] [u] hs (Lw.nil _ _ _) M rfl hx hr.all (fun v hv => by obtain rfl := List.mem_singleton.1 hv; exact hu) (by decide) ?_
    intro v' w' p1 p2 p3
    obtain ⟨A', c', rfl, _, _⟩ := Lw.form p1
    refine h A' c' w' p1 (fun g e => ?_) ((Below.refl _ _).grown p2 (Nat.le_refl _) (fun k e => by cases e))
    rcases p3 with q | q
    · rw [q] at e; cases e
    · rw [q] at e; cases e; exact Nat.le_refl _
  | some ad =>
    obtain ⟨ie, z, h1, h2, h3, h5, h4⟩ := info_sl
    obtain ⟨v', w', hrun, r1, r2⟩ := run_append_arg_grows (P := Try.prog) w 23 o.type 29 ie z 1 24 Try.underlying23 h1 h2 h3 h5 h4 (by decide) ad n n vs (by omega) (fun j v hj => by
      obtain ⟨b, o, e, q⟩ := holds j v hj
      obtain rfl := Option.some.inj e
      rw [Addr.add_mid]; exact q) ⟨M, 0, none⟩ 1 1 [u] rfl (fun j v hj => by rw [Addr.add_mid]; exact hr.all j v hj) (by omega) (by unfold maxLen; omega) (by omega)
    have hL : Lw w' 29 1 v' (n + 1) (vs ++ [u]) ∧ ∀ g, v'.ownBlock = some g → w.heap.size ≤ g := by
      obtain ⟨q1, q2⟩ := r1
      rcases q2 with ⟨_, q3⟩ | ⟨g', cap', cur, q3, q0, q4⟩
      · omega
      · exact ⟨⟨q1, .inr ⟨g', cap', cur, q3, Nat.zero_le _, q4⟩⟩, fun g e => by rw [q3] at e; cases e; exact q0⟩
    obtain ⟨A', c', rfl, _, _⟩ := Lw.form hL.1
    have hB : Below w.heap.size w w' := (Below.refl _ _).grown r2 (Nat.le_refl _) (fun k e => by cases e)
    unfold Oper.wp
    simp [execOp, ho, resolve, invoke, builtin, hs, hx, hrun, Result.andThen]
    exact h A' c' w' hL.1 hL.2 hB
/-- texts[:n:n], of any list. -/
theorem wp_full (x y z : Operand) (ho : o.op = .slice 23 x none (some y) (some z)) (TA : Option Addr) (n c : Nat) (hc : n ≤ c) (hA : TA = none → c = 0) (hx : a.eval x = .slice TA n c) (hy : a.eval y = .int .i64 (n : Int)) (hz : a.eval z = .int .i64 (n : Int))
    (h : K (a.put o.dst (.slice TA n n)) w) : Oper.wp Try.prog o a w K Q := by
  have hr : (Instr.sliceAt 23 (.slice TA n c) none (some (.int .i64 (n : Int))) (some (.int .i64 (n : Int)))).run Try.prog w = .ok (.slice TA n n) w := by
    obtain ⟨ie, zz, h1, _⟩ := info_sl
    cases TA with
    | none =>
      obtain rfl := hA rfl
      obtain rfl : n = 0 := by omega
      simp [Instr.sliceAt, Instr.slice, run_underlying Try.underlying23, Instr.sliceBounds, Instr.sliceBound, asIntOf, sizeOf, typeInfo, h1]
    | some ad =>
      obtain ⟨b, f, sp⟩ := ad
      cases sp <;> simp [Instr.sliceAt, Instr.slice, run_underlying Try.underlying23, Instr.sliceBounds, Instr.sliceBound, asIntOf, sizeOf, typeInfo, h1, hc, Addr.add]
  unfold Oper.wp execOp
  simp only [ho, hx, hy, hz, Option.map_some, Option.map_none, Sem.run_bind, hr, Result.andThen_ok, Sem.run_pure, Oper.upon_value]
  exact h
end

end Go.Proofs.Ytehjadgmleoobaa
