/-
  the duel: its cells, its memory.
-/
import Derived.Test.YtddkmpbcjieolaaLaJ
import Derived.BigQuiet
namespace Go.Proofs.Ytddkmpbcjieolaa
open Go Go.RowKit
open Sha

abbrev tDl : TypeId := 43
abbrev tDv : TypeId := 36

/-! ### lists in three parts -/
theorem in3_at {pre post : List Value} {x : Value} {o : Nat} (h : pre.length = o) : (pre ++ (x :: post))[o]? = some x := by
  subst h; rw [List.getElem?_append_right (Nat.le_refl _), Nat.sub_self]; rfl
theorem in3_set {pre post : List Value} {x y : Value} {o : Nat} (h : pre.length = o) : (pre ++ (x :: post)).set o y = pre ++ (y :: post) := by
  subst h; rw [List.set_append_right _ _ (Nat.le_refl _), Nat.sub_self]; rfl
theorem in3_get {pre post part : List Value} {o j : Nat} {u : Value} (h : pre.length = o) (hj : part[j]? = some u) : (pre ++ (part ++ post))[o + j]? = some u := by
  subst h
  rw [List.getElem?_append_right (Nat.le_add_right _ _), Nat.add_sub_cancel_left, List.getElem?_append_left ((List.getElem?_eq_some_iff.1 hj).1)]
  exact hj
theorem in3_put {pre post part new : List Value} {o : Nat} (h : pre.length = o) (hn : new.length = part.length) : (pre ++ (part ++ post)).take o ++ new ++ (pre ++ (part ++ post)).drop (o + new.length) = pre ++ (new ++ post) := by
  subst h
  rw [List.take_left, List.append_assoc, hn, List.drop_length_add_append, List.drop_left]

/-- A duel: what View tells (all but the last three), the turn, the time, how it ends if nobody moves. -/
structure Du where
  nr : Int
  ch : List (BitVec 8)
  df : List (BitVec 8)
  st : Int
  low : Cm
  high : Cm
  mid : Cm
  unt : Int
  rds : Int
  turn : Int
  last : Int
  lap : Value
def Du.vw (d : Du) : List Value := .int .i64 d.nr :: (vB d.ch ++ (vB d.df ++ (.int .i64 d.st :: (d.low.cells ++ (d.high.cells ++ (d.mid.cells ++ [.int .i64 d.unt, .int .i64 d.rds]))))))
def Du.cells (d : Du) : List Value := .int .i64 d.nr :: (vB d.ch ++ (vB d.df ++ (.int .i64 d.st :: (d.low.cells ++ (d.high.cells ++ (d.mid.cells ++ [.int .i64 d.unt, .int .i64 d.rds, .int .i64 d.turn, .int .i64 d.last, d.lap]))))))
structure Du.Wf (d : Du) : Prop where
  c : d.ch.length = 20
  f : d.df.length = 20
  l : d.low.Wf
  h : d.high.Wf
  m : d.mid.Wf
  o : d.lap.oneCell' = true
theorem Du.len {d : Du} (h : d.Wf) : d.cells.length = 245 := by
  unfold Du.cells; simp only [List.length_cons, List.length_append, vB_length, Cm.len h.l, Cm.len h.h, Cm.len h.m, h.c, h.f, List.length_nil]
theorem Du.vlen {d : Du} (h : d.Wf) : d.vw.length = 242 := by
  unfold Du.vw; simp only [List.length_cons, List.length_append, vB_length, Cm.len h.l, Cm.len h.h, Cm.len h.m, h.c, h.f, List.length_nil]
theorem Du.split (d : Du) : d.cells = d.vw ++ [.int .i64 d.turn, .int .i64 d.last, d.lap] := by
  unfold Du.cells Du.vw; simp only [List.cons_append, List.append_assoc, List.nil_append]
theorem Du.vone (d : Du) : ∀ v ∈ d.vw, v.oneCell' = true := by
  intro v hv
  simp only [Du.vw, List.mem_cons, List.mem_append, List.not_mem_nil, or_false] at hv
  rcases hv with rfl | h | h | rfl | h | h | h | rfl | rfl
  · rfl
  · exact vB_one _ v h
  · exact vB_one _ v h
  · rfl
  · exact Cm.one _ v h
  · exact Cm.one _ v h
  · exact Cm.one _ v h
  · rfl
  · rfl
theorem info_Dl : (Try.prog.info? tDl).map (·.size) = some 245 := by kernel_rfl
theorem info_Dv : (Try.prog.info? tDv).map (·.size) = some 242 := by kernel_rfl
theorem info_fn : (Try.prog.info? 41).map (·.size) = some 1 := by kernel_rfl

/-! ### what stands ahead of each part -/
def Du.p1 (d : Du) : List Value := [.int .i64 d.nr]
def Du.p21 (d : Du) : List Value := .int .i64 d.nr :: vB d.ch
def Du.p41 (d : Du) : List Value := .int .i64 d.nr :: (vB d.ch ++ vB d.df)
def Du.p42 (d : Du) : List Value := .int .i64 d.nr :: (vB d.ch ++ (vB d.df ++ [.int .i64 d.st]))
def Du.p108 (d : Du) : List Value := .int .i64 d.nr :: (vB d.ch ++ (vB d.df ++ (.int .i64 d.st :: d.low.cells)))
def Du.p174 (d : Du) : List Value := .int .i64 d.nr :: (vB d.ch ++ (vB d.df ++ (.int .i64 d.st :: (d.low.cells ++ d.high.cells))))
def Du.p240 (d : Du) : List Value := .int .i64 d.nr :: (vB d.ch ++ (vB d.df ++ (.int .i64 d.st :: (d.low.cells ++ (d.high.cells ++ d.mid.cells)))))
section
variable {d : Du}
theorem Du.l1 : d.p1.length = 1 := rfl
theorem Du.l21 (h : d.Wf) : d.p21.length = 21 := by unfold Du.p21; simp only [List.length_cons, vB_length, h.c]
theorem Du.l41 (h : d.Wf) : d.p41.length = 41 := by unfold Du.p41; simp only [List.length_cons, List.length_append, vB_length, h.c, h.f]
theorem Du.l42 (h : d.Wf) : d.p42.length = 42 := by unfold Du.p42; simp only [List.length_cons, List.length_append, vB_length, h.c, h.f, List.length_nil]
theorem Du.l108 (h : d.Wf) : d.p108.length = 108 := by unfold Du.p108; simp only [List.length_cons, List.length_append, vB_length, h.c, h.f, Cm.len h.l]
theorem Du.l174 (h : d.Wf) : d.p174.length = 174 := by unfold Du.p174; simp only [List.length_cons, List.length_append, vB_length, h.c, h.f, Cm.len h.l, Cm.len h.h]
theorem Du.l240 (h : d.Wf) : d.p240.length = 240 := by unfold Du.p240; simp only [List.length_cons, List.length_append, vB_length, h.c, h.f, Cm.len h.l, Cm.len h.h, Cm.len h.m]
theorem Du.e1 (d : Du) : d.cells = d.p1 ++ (vB d.ch ++ (vB d.df ++ (.int .i64 d.st :: (d.low.cells ++ (d.high.cells ++ (d.mid.cells ++ [.int .i64 d.unt, .int .i64 d.rds, .int .i64 d.turn, .int .i64 d.last, d.lap])))))) := by unfold Du.cells Du.p1; simp only [List.cons_append, List.nil_append]
theorem Du.e21 (d : Du) : d.cells = d.p21 ++ (vB d.df ++ (.int .i64 d.st :: (d.low.cells ++ (d.high.cells ++ (d.mid.cells ++ [.int .i64 d.unt, .int .i64 d.rds, .int .i64 d.turn, .int .i64 d.last, d.lap]))))) := by unfold Du.cells Du.p21; simp only [List.cons_append]
theorem Du.e41 (d : Du) : d.cells = d.p41 ++ (.int .i64 d.st :: (d.low.cells ++ (d.high.cells ++ (d.mid.cells ++ [.int .i64 d.unt, .int .i64 d.rds, .int .i64 d.turn, .int .i64 d.last, d.lap])))) := by unfold Du.cells Du.p41; simp only [List.cons_append, List.append_assoc]
theorem Du.e42 (d : Du) : d.cells = d.p42 ++ (d.low.cells ++ (d.high.cells ++ (d.mid.cells ++ [.int .i64 d.unt, .int .i64 d.rds, .int .i64 d.turn, .int .i64 d.last, d.lap]))) := by unfold Du.cells Du.p42; simp only [List.cons_append, List.append_assoc, List.nil_append]
theorem Du.e108 (d : Du) : d.cells = d.p108 ++ (d.high.cells ++ (d.mid.cells ++ [.int .i64 d.unt, .int .i64 d.rds, .int .i64 d.turn, .int .i64 d.last, d.lap])) := by unfold Du.cells Du.p108; simp only [List.cons_append, List.append_assoc]
theorem Du.e174 (d : Du) : d.cells = d.p174 ++ (d.mid.cells ++ [.int .i64 d.unt, .int .i64 d.rds, .int .i64 d.turn, .int .i64 d.last, d.lap]) := by unfold Du.cells Du.p174; simp only [List.cons_append, List.append_assoc]
theorem Du.e240 (d : Du) : d.cells = d.p240 ++ [.int .i64 d.unt, .int .i64 d.rds, .int .i64 d.turn, .int .i64 d.last, d.lap] := by unfold Du.cells Du.p240; simp only [List.cons_append, List.append_assoc]
theorem Du.at_st (h : d.Wf) : d.cells[41]? = some (.int .i64 d.st) := by rw [Du.e41]; exact in3_at (Du.l41 h)
theorem Du.at_t (h : d.Wf) (i : Nat) : d.cells[240 + i]? = [.int .i64 d.unt, .int .i64 d.rds, .int .i64 d.turn, .int .i64 d.last, d.lap][i]? := by
  rw [Du.e240, List.getElem?_append_right (by rw [Du.l240 h]; omega), Du.l240 h, Nat.add_sub_cancel_left]
theorem Du.at_low (h : d.Wf) (j : Nat) (u : Value) (hj : d.low.cells[j]? = some u) : d.cells[42 + j]? = some u := by rw [Du.e42]; exact in3_get (Du.l42 h) hj
theorem Du.at_high (h : d.Wf) (j : Nat) (u : Value) (hj : d.high.cells[j]? = some u) : d.cells[108 + j]? = some u := by rw [Du.e108]; exact in3_get (Du.l108 h) hj
theorem Du.at_mid (h : d.Wf) (j : Nat) (u : Value) (hj : d.mid.cells[j]? = some u) : d.cells[174 + j]? = some u := by rw [Du.e174]; exact in3_get (Du.l174 h) hj
theorem Du.at_ch (j : Nat) (u : Value) (hj : (vB d.ch)[j]? = some u) : d.cells[1 + j]? = some u := by rw [Du.e1]; exact in3_get Du.l1 hj
theorem Du.at_df (h : d.Wf) (j : Nat) (u : Value) (hj : (vB d.df)[j]? = some u) : d.cells[21 + j]? = some u := by rw [Du.e21]; exact in3_get (Du.l21 h) hj
theorem Du.at_vw (j : Nat) (u : Value) (hj : d.vw[j]? = some u) : d.cells[0 + j]? = some u := by
  rw [Du.split, Nat.zero_add, List.getElem?_append_left ((List.getElem?_eq_some_iff.1 hj).1)]; exact hj
theorem Du.set_st (h : d.Wf) (x : Int) : d.cells.set 41 (.int .i64 x) = Du.cells { d with st := x } := by
  rw [Du.e41, in3_set (Du.l41 h), Du.e41]; rfl
theorem Du.set_t (h : d.Wf) (i : Nat) (x : Value) : d.cells.set (240 + i) x = d.p240 ++ [.int .i64 d.unt, .int .i64 d.rds, .int .i64 d.turn, .int .i64 d.last, d.lap].set i x := by
  rw [Du.e240, List.set_append_right _ _ (by rw [Du.l240 h]; omega), Du.l240 h, Nat.add_sub_cancel_left]
theorem Du.set_unt (h : d.Wf) (x : Int) : d.cells.set 240 (.int .i64 x) = Du.cells { d with unt := x } := (Du.set_t h 0 _).trans (by rw [Du.e240]; rfl)
theorem Du.set_rds (h : d.Wf) (x : Int) : d.cells.set 241 (.int .i64 x) = Du.cells { d with rds := x } := (Du.set_t h 1 _).trans (by rw [Du.e240]; rfl)
theorem Du.set_last (h : d.Wf) (x : Int) : d.cells.set 243 (.int .i64 x) = Du.cells { d with last := x } := (Du.set_t h 3 _).trans (by rw [Du.e240]; rfl)
theorem Du.set_lap (h : d.Wf) (x : Value) : d.cells.set 244 x = Du.cells { d with lap := x } := (Du.set_t h 4 _).trans (by rw [Du.e240]; rfl)
theorem Du.put_low (h : d.Wf) {c : Cm} (hc : c.Wf) : d.cells.take 42 ++ c.cells ++ d.cells.drop (42 + c.cells.length) = Du.cells { d with low := c } := by
  rw [Du.e42, in3_put (Du.l42 h) ((Cm.len hc).trans (Cm.len h.l).symm), Du.e42]; rfl
theorem Du.put_high (h : d.Wf) {c : Cm} (hc : c.Wf) : d.cells.take 108 ++ c.cells ++ d.cells.drop (108 + c.cells.length) = Du.cells { d with high := c } := by
  rw [Du.e108, in3_put (Du.l108 h) ((Cm.len hc).trans (Cm.len h.h).symm), Du.e108]; rfl
theorem Du.put_mid (h : d.Wf) {c : Cm} (hc : c.Wf) : d.cells.take 174 ++ c.cells ++ d.cells.drop (174 + c.cells.length) = Du.cells { d with mid := c } := by
  rw [Du.e174, in3_put (Du.l174 h) ((Cm.len hc).trans (Cm.len h.m).symm), Du.e174]; rfl
end
/-- A duel in memory. -/
structure Dm (w : World) (p : Nat) (d : Du) : Prop where
  row : Row w p d.cells tDl
  wf : d.Wf
section
variable {w w' : World} {p : Nat} {d : Du}
theorem Dm.be (h : Dm w p d) (k : Below w.heap.size w w') : Dm w' p d := ⟨Row.below h.row k h.row.lt, h.wf⟩
theorem Dm.c_st (h : Dm w p d) : w.cell? ⟨p, 41, none⟩ = some (.int .i64 d.st) := h.row.cell 41 _ (Du.at_st h.wf)
theorem Dm.c_ln (h : Dm w p d) : w.cell? ⟨p, 42, none⟩ = some (.int .i64 d.low.n) := h.row.cell 42 _ (Du.at_low h.wf 0 _ rfl)
theorem Dm.c_hn (h : Dm w p d) : w.cell? ⟨p, 108, none⟩ = some (.int .i64 d.high.n) := h.row.cell 108 _ (Du.at_high h.wf 0 _ rfl)
theorem Dm.c_unt (h : Dm w p d) : w.cell? ⟨p, 240, none⟩ = some (.int .i64 d.unt) := h.row.cell 240 _ (Du.at_t h.wf 0)
theorem Dm.c_rds (h : Dm w p d) : w.cell? ⟨p, 241, none⟩ = some (.int .i64 d.rds) := h.row.cell 241 _ (Du.at_t h.wf 1)
theorem Dm.c_turn (h : Dm w p d) : w.cell? ⟨p, 242, none⟩ = some (.int .i64 d.turn) := h.row.cell 242 _ (Du.at_t h.wf 2)
theorem Dm.c_last (h : Dm w p d) : w.cell? ⟨p, 243, none⟩ = some (.int .i64 d.last) := h.row.cell 243 _ (Du.at_t h.wf 3)
theorem Dm.c_lap (h : Dm w p d) : w.cell? ⟨p, 244, none⟩ = some d.lap := h.row.cell 244 _ (Du.at_t h.wf 4)
theorem Dm.low (h : Dm w p d) : w.rangeAt p 42 d.low.cells := h.row.range 42 _ (Du.at_low h.wf)
theorem Dm.high (h : Dm w p d) : w.rangeAt p 108 d.high.cells := h.row.range 108 _ (Du.at_high h.wf)
theorem Dm.mid (h : Dm w p d) : w.rangeAt p 174 d.mid.cells := h.row.range 174 _ (Du.at_mid h.wf)
theorem Dm.ch (h : Dm w p d) : w.rangeAt p 1 (vB d.ch) := h.row.range 1 _ Du.at_ch
theorem Dm.df (h : Dm w p d) : w.rangeAt p 21 (vB d.df) := h.row.range 21 _ (Du.at_df h.wf)
theorem Dm.vw (h : Dm w p d) : w.rangeAt p 0 d.vw := h.row.range 0 _ Du.at_vw
end
theorem guardAd : Try.prog.eqGuardType Try.prog.depth tAd = false := by kernel_rfl
section
variable {ops : Array Oper} {rest : List Oper} {op : Oper} {a : Act} {w : World} {Q : Exit → Act → World → Prop}
theorem wpList_eqAd (hw : Region.wanted op (yielded ops a.tmps) = true) (x y : Operand) (yt : TypeId) (ho : op.op = .binOp .eql tAd x y yt) (l r : List (BitVec 8)) (hl : l.length = 20) (hr : r.length = 20) (hx : a.eval x = .agg (vB l).toArray) (hy : a.eval y = .agg (vB r).toArray) (B : Bool) (hB : decide (l = r) = B) (h : wpList Try.prog ops Q rest (a.put op.dst (.bool B)) w) : wpList Try.prog ops Q (op :: rest) a w :=
  BigFrame.wpList_want hw fun _ hK => by
    have hr : (binOp .eql tAd (.agg (vB l).toArray) (.agg (vB r).toArray)).run Try.prog w = .ok (.bool B) w := by rw [run_eql_struct, eq_by 9998 w tAd 20 Try.underlying24 l r hl hr, ← hB]; rfl
    unfold Oper.wp execOp
    simp only [ho, hx, hy, Sem.run_bind, run_eqGuard_agg w .eql tAd x y _ _ guardAd, Result.andThen_ok, hr, Sem.run_pure, Oper.upon_value]
    exact hK _ _ h
end
theorem run_neqAd (w : World) (l r : List (BitVec 8)) (hl : l.length = 20) (hr : r.length = 20) : (binOp .neq tAd (.agg (vB l).toArray) (.agg (vB r).toArray)).run Try.prog w = .ok (.bool (!decide (l = r))) w := by
  rw [run_neq_struct, eq_by 9998 w tAd 20 Try.underlying24 l r hl hr]; rfl

end Go.Proofs.Ytddkmpbcjieolaa
