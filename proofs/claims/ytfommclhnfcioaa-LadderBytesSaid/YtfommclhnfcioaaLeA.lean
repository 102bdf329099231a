/-
  an entry of any values: its cells; which fields are zero, which may be.
-/
import Derived.Test.YtfommclhnfcioaaLtC
namespace Go.Proofs.Ytfommclhnfcioaa
open Go Go.RowKit
open Sha

/-- An entry's cells. -/
def ent (k : Int) (sd : List (BitVec 8)) (tm tk : Int) (rc : List (BitVec 8)) (am : List Nat) (gs : Int) (v : Value) : List Value :=
  .int .i64 k :: (vB sd ++ (.int .i64 tm :: .int .i64 tk :: (vB rc ++ (vQ am ++ [.int .i64 gs, v]))))
section
variable {k tm tk gs : Int} {sd rc : List (BitVec 8)} {am : List Nat} {v : Value} {b : Nat} {w : World}
theorem vQ_len (l : List Nat) : (vQ l).length = l.length := by simp [vQ]
theorem app_at (xs ys : List Value) (n i : Nat) (h : xs.length = n) : (xs ++ ys)[n + i]? = ys[i]? := by
  rw [List.getElem?_append_right (by omega), h, Nat.add_sub_cancel_left]
theorem ent_mid (h1 : sd.length = 20) (i : Nat) : (ent k sd tm tk rc am gs v)[21 + i]? = (Value.int .i64 tm :: .int .i64 tk :: (vB rc ++ (vQ am ++ [.int .i64 gs, v])))[i]? := by
  rw [show 21 + i = (20 + i) + 1 by omega]
  exact app_at (vB sd) _ 20 i (by rw [vB_length, h1])
theorem ent_to (h1 : sd.length = 20) (i : Nat) : (ent k sd tm tk rc am gs v)[23 + i]? = (vB rc ++ (vQ am ++ [.int .i64 gs, v]))[i]? := by
  rw [show 23 + i = 21 + (i + 1 + 1) by omega, ent_mid h1]
  rfl
theorem ent_am (h1 : sd.length = 20) (h2 : rc.length = 20) (i : Nat) : (ent k sd tm tk rc am gs v)[43 + i]? = (vQ am ++ [.int .i64 gs, v])[i]? := by
  rw [show 43 + i = 23 + (20 + i) by omega, ent_to h1]
  exact app_at (vB rc) _ 20 i (by rw [vB_length, h2])
theorem ent_gs (h1 : sd.length = 20) (h2 : rc.length = 20) (h3 : am.length = 4) (i : Nat) : (ent k sd tm tk rc am gs v)[47 + i]? = ([.int .i64 gs, v] : List Value)[i]? := by
  rw [show 47 + i = 43 + (4 + i) by omega, ent_am h1 h2]
  exact app_at (vQ am) _ 4 i (by rw [vQ_len, h3])
end
section
variable {ops : Array Oper} {rest : List Oper} {op : Oper} {a : Act} {w : World} {Q : Exit → Act → World → Prop}
theorem wpList_neq_q (hw : Region.wanted op (yielded ops a.tmps) = true) (x y : Operand) (yt : TypeId) (ho : op.op = .binOp .neq 125 x y yt) (l r : List Nat) (hl : l.length = 4) (hr : r.length = 4) (hx : a.eval x = .agg (vQ l).toArray) (hy : a.eval y = .agg (vQ r).toArray)
    (B : Bool) (hB : (!decide (l = r)) = B) (h : wpList Try.prog ops Q rest (a.put op.dst (.bool B)) w) : wpList Try.prog ops Q (op :: rest) a w :=
  BigFrame.wpList_want hw fun _ hK => by
    subst hB
    unfold Oper.wp execOp
    simp only [ho, hx, hy, Sem.run_bind, run_eqGuard_agg w .neq _ x y _ _ guard_wide, Result.andThen_ok, run_neq_w w l r hl hr, Sem.run_pure, Oper.upon_value]
    exact hK _ _ h
end
end Go.Proofs.Ytfommclhnfcioaa
