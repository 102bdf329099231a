/-
  LadderBytes: laws; what is kept beside.
-/
import Derived.Test.YtfommclhnfcioaaLbO
namespace Go.Proofs.Ytfommclhnfcioaa
open Go Go.RowKit
open Sha

section
variable {Q : Exit → Act → World → Prop} {o : Oper} {a : Act} {w : World} {K : Act → World → Prop}
theorem wp_convs {x : Operand} (ho : o.op = .convert 26 9 x) (d : List (BitVec 8)) (v : Value) (hx : a.eval x = v) (hv : SlAt w v d) (h : K (a.put o.dst (.string (str d))) w) : Oper.wp Try.prog o a w K Q := by
  have hr := run_convert_sl (P := Try.prog) w 26 5 9 Try.underlying26 Try.underlying5 Try.underlying9 v d hv
  unfold Oper.wp execOp
  simp only [ho, hx, Sem.run_bind, hr, Result.andThen_ok, Sem.run_pure, Oper.upon_value]
  exact h
theorem wp_neqs {x y : Operand} {t yt : TypeId} (ho : o.op = .binOp .neq t x y yt) (d : List (BitVec 8)) (hx : a.eval x = .string (str d)) (hy : a.eval y = .string (str d)) (h : K (a.put o.dst (.bool false)) w) : Oper.wp Try.prog o a w K Q := by
  unfold Oper.wp execOp
  simp only [ho, hx, hy]
  simp [go_sem]
  exact h
theorem wp_neqE {x y : Operand} {t yt : TypeId} (ho : o.op = .binOp .neq t x y yt) (E : Int) (hx : a.eval x = .int .i64 E) (hy : a.eval y = .int .i64 E) (h : K (a.put o.dst (.bool false)) w) : Oper.wp Try.prog o a w K Q := by
  unfold Oper.wp execOp
  simp only [ho, hx, hy]
  simp [go_sem]
  exact h
theorem wp_neC (x y : Operand) (yt : TypeId) (ho : o.op = .binOp .neq tC x y yt) (c d : Cm) (hc : c.Wf) (hd : d.Wf) (hx : a.eval x = .agg c.cells.toArray) (hy : a.eval y = .agg d.cells.toArray) (B : Bool) (hB : (!decide (c = d)) = B) (h : K (a.put o.dst (.bool B)) w) : Oper.wp Try.prog o a w K Q := by
  have hr : (binOp .neq tC (.agg c.cells.toArray) (.agg d.cells.toArray)).run Try.prog w = .ok (.bool B) w := by rw [run_neq_struct, eq_cm 9997 w c d hc hd, ← hB]; rfl
  unfold Oper.wp execOp
  simp only [ho, hx, hy, Sem.run_bind, run_eqGuard_agg w .neq tC x y _ _ guardC, Result.andThen_ok, hr, Sem.run_pure, Oper.upon_value]
  exact h
theorem wp_cutTo (t e : TypeId) (x y : Operand) (A : Option Addr) (n cap i s : Nat) (ho : o.op = .slice t x none (some y) none) (hx : a.eval x = .slice A n cap) (hy : a.eval y = .int .i64 (i : Int)) (hi : i ≤ n) (hn : n ≤ cap)
    (hu : Try.prog.underlying t = some (.slice e)) (hs : (Try.prog.info? e).map (·.size) = some s) (h : K (a.put o.dst (.slice A i cap)) w) : Oper.wp Try.prog o a w K Q := by
  cases hq : Try.prog.info? e with
  | none => simp [hq] at hs
  | some ie =>
    have hr : (Instr.sliceAt t (.slice A n cap) none (some (.int .i64 (i : Int))) none).run Try.prog w = .ok (.slice A i cap) w := by
      have e2 : i ≤ cap := by omega
      cases A with
      | none => simp [Instr.sliceAt, Instr.slice, run_underlying hu, Instr.sliceBounds, Instr.sliceBound, asIntOf, sizeOf, typeInfo, hq, e2]
      | some ad => obtain ⟨b, f, sp⟩ := ad; simp [Instr.sliceAt, Instr.slice, run_underlying hu, Instr.sliceBounds, Instr.sliceBound, asIntOf, sizeOf, typeInfo, hq, e2, Addr.add]
    unfold Oper.wp execOp
    simp only [ho, hx, hy, Option.map_some, Option.map_none, Sem.run_bind, hr, Result.andThen_ok, Sem.run_pure, Oper.upon_value]
    exact h
end
/-- What the bytes of a commit are, told by both sides. -/
theorem bytes_one (c : Cm) (hw : c.Wf) (L : List Value) (hL : L = c.cells) : ∃ (DB : List (BitVec 8)) (FE : Int) (N : Nat), N = DB.length ∧ N ≤ 1000 ∧ ((mayB c = true ∧ DB = cmb c ∧ FE = 0) ∨ (DB = [] ∧ FE = 160)) ∧
    (∀ X, Calls Try.prog 10 #[.agg L.toArray] X fun e w' => ∃ A cap, e = .returned (.tuple #[.slice A N cap, .int .i64 FE]) ∧ Bw w' (.slice A N cap) DB ∧ Fresh X.heap.size (.slice A N cap) ∧ Below X.heap.size X w') ∧
    (∀ X, Calls Try.prog 11 #[.agg L.toArray] X fun e w' => ∃ A cap, e = .returned (.tuple #[.slice A N cap, .int .i64 FE]) ∧ Bw w' (.slice A N cap) DB ∧ Below X.heap.size X w') := by
  cases hm : mayB c with
  | true =>
    refine ⟨cmb c, 0, (cmb c).length, rfl, Nat.le_trans (cmb_len hw) (by decide), .inl ⟨rfl, rfl, rfl⟩, fun X => ?_, fun X => ?_⟩
    · refine (lbytes_ok c hw hm L hL X).mono ?_
      rintro e w' ⟨A, n, cap, rfl, he, q1, q2, q3⟩
      exact ⟨A, cap, he, q1, q2, q3⟩
    · refine (dbytes_ok c hw hm L hL X).mono ?_
      rintro e w' ⟨v, he, q1, q2, q3⟩
      obtain ⟨A, cap, rfl, _⟩ := Bw.form q1
      exact ⟨A, cap, he, q1, q3⟩
  | false =>
    refine ⟨[], 160, 0, rfl, by decide, .inr ⟨rfl, rfl⟩, fun X => ?_, fun X => ?_⟩
    · refine (lbytes_no c hw hm L hL X).mono ?_
      rintro e w' ⟨he, q⟩
      exact ⟨none, 0, he, Bw.nil _, (fun g e => by cases e), q⟩
    · refine (dbytes_no c hw hm L hL X).mono ?_
      rintro e w' ⟨he, q⟩
      exact ⟨none, 0, he, Bw.nil _, q⟩
theorem cmb_inj {c d : Cm} (hc : c.Wf) (hd : d.Wf) (mc : mayB c = true) (md : mayB d = true) (h : cmb c = cmb d) : c = d := by
  have h1 := (cmb_reads (cmb c) _ _ _ _ _ _ _ _ _ _ _ _ _ _ _ rfl rfl rfl rfl rfl rfl rfl rfl rfl rfl rfl rfl rfl rfl rfl c hc mc rfl).2
  have h2 := (cmb_reads (cmb c) _ _ _ _ _ _ _ _ _ _ _ _ _ _ _ rfl rfl rfl rfl rfl rfl rfl rfl rfl rfl rfl rfl rfl rfl rfl d hd md h).2
  exact h1.symm.trans h2
/-- A commit's bytes are read as it. -/
theorem reads_own (c : Cm) (hw : c.Wf) (hm : mayB c = true) (L : List Value) (hL : L = c.cells) (A : Option Addr) (n cap : Nat) (hn : n = (cmb c).length) (X : World) (h : Bw X (.slice A n cap) (cmb c)) :
    Calls Try.prog 12 #[.slice A n cap] X fun e w' => e = .returned (.tuple #[.agg L.toArray, .int .i64 0]) ∧ Below X.heap.size X w' := by
  obtain ⟨V, RE, hV, hVw, h1, _⟩ := reads_one (cmb c)
  rcases hV with ⟨v1, v2, v3, v4⟩ | ⟨v1, _, _⟩
  · obtain rfl := cmb_inj hw v1 hm v2 v3
    subst v4
    rw [hL]
    refine h1 A n cap hn.symm (fun e => ?_) X (Bw.sl h)
    obtain ⟨A', c', e2, _, q⟩ := Bw.form h
    simp only [Value.slice.injEq] at e2
    obtain ⟨rfl, _, rfl⟩ := e2
    exact q e
  · exact absurd ⟨c, hw, hm, rfl⟩ v1
/-- A commit, and two lists of bytes apart, all made since w0. -/
structure Kb (w0 w : World) (bC : Nat) (L : List Value) (va vb : Value) (DB : List (BitVec 8)) : Prop where
  be : Below w0.heap.size w0 w
  row : Row w bC L tC
  a : Bw w va DB
  b : Bw w vb DB
  fa : Fresh w0.heap.size va
  fb : Fresh w0.heap.size vb
  ap : ∀ g, va.ownBlock = some g → vb.ownBlock ≠ some g
theorem Kb.keep {w0 w X : World} {bC : Nat} {L : List Value} {va vb : Value} {DB : List (BitVec 8)} (h : Kb w0 w bC L va vb DB) (k : Below w.heap.size w X) : Kb w0 X bC L va vb DB :=
  ⟨h.be.trans (k.mono h.be.size), Row.below h.row k h.row.lt, Bw.be h.a k, Bw.be h.b k, h.fa, h.fb, h.ap⟩
theorem Kb.owned {w0 w : World} {bC : Nat} {L : List Value} {A B : Option Addr} {N ca cb : Nat} {DB : List (BitVec 8)} (h : Kb w0 w bC L (.slice A N ca) (.slice B N cb) DB) (hN : N ≤ 1000) :
    Calls Try.prog 14 #[.slice A N ca, .slice B N cb] w fun e w' => e = .returned (.bool true) ∧ Below w0.heap.size w0 w' := by
  refine (ownedB_any N N hN hN A B ca cb DB DB w (fun g => (Value.slice A N ca).ownBlock = some g ∨ (Value.slice B N cb).ownBlock = some g) ⟨h.a, h.b, h.ap, Gro.refl _ _, fun g e => .inl (.inl e), fun g e => .inl (.inr e)⟩).mono ?_
  rintro e w' ⟨he, q⟩
  refine ⟨he, h.be.trans (q.to_below h.be.size (fun g e => ?_))⟩
  rcases e with e | e
  · exact h.fa g e
  · exact h.fb g e
/-- The law's own: the bytes, marks behind them, and what is left. -/
def owb (bs : List (BitVec 8)) (t : Nat) : List (BitVec 8) := bs ++ (List.replicate t 201#8 ++ List.replicate (20 - t) 0#8)
theorem owb_len (bs : List (BitVec 8)) (t : Nat) (h : t ≤ 20) : (owb bs t).length = bs.length + 20 := by
  unfold owb; simp only [List.length_append, List.length_replicate]; omega
theorem owb_set (bs : List (BitVec 8)) (t : Nat) (h : t < 20) : (owb bs t).set (bs.length + t) 201#8 = owb bs (t + 1) := by
  unfold owb
  rw [List.set_append_right _ _ (by omega), Nat.add_sub_cancel_left, List.set_append_right _ _ (by rw [List.length_replicate]; exact Nat.le_refl _), List.length_replicate, Nat.sub_self, show 20 - t = (20 - (t + 1)) + 1 by omega, List.replicate_succ (n := 20 - (t + 1)), List.set_cons_zero, List.replicate_succ' (n := t), List.append_assoc]
  rfl
theorem owb_at (bs : List (BitVec 8)) (j : Nat) (h1 : bs.length ≤ j) (h2 : j < bs.length + 20) : (owb bs 20)[j]? = some 201#8 := by
  unfold owb
  rw [List.getElem?_append_right h1, List.getElem?_append_left (by rw [List.length_replicate]; omega), List.getElem?_replicate, if_pos (by omega)]
theorem owb_0 (bs : List (BitVec 8)) (n : Nat) (h : bs.length = n) : List.take 0 (vB (List.replicate (n + 20) 0#8)) ++ vB (bs.take (n + 20)) ++ List.drop (0 + (vB (bs.take (n + 20))).length) (vB (List.replicate (n + 20) 0#8)) = vB (owb bs 0) := by
  rw [show bs.take (n + 20) = bs from List.take_of_length_le (by omega), vB_length, h, List.take_zero, List.nil_append, Nat.zero_add]
  unfold owb vB
  rw [List.map_append, ← List.map_drop, List.drop_replicate]
  simp
theorem owb_range {w : World} {G : Nat} {bs : List (BitVec 8)} {t : Nat} (r : Row w G (vB (owb bs t)) 5) : w.rangeAt G 0 (vB bs) := fun j u hj => by
  refine r.all j u ?_
  unfold owb vB
  rw [List.map_append, List.getElem?_append_left (by have := (List.getElem?_eq_some_iff.1 hj).1; simpa [vB] using this)]
  exact hj

end Go.Proofs.Ytfommclhnfcioaa
