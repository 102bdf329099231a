/-
  the tables of fields as lists; Contains; fits.
-/
import Derived.Test.YtekgojokhjihfaaDoorTFp
import Derived.Test.YtekgojokhjihfaaDoorXEq
import Derived.Test.YtekgojokhjihfaaDoorXWb
import Derived.LoopN

namespace Go.Proofs.YtekgojokhjihfaaDoor
open Go Go.RowKit
open Sha

theorem run_load_i (w : World) (b f : Nat) (v : Value) (h : w.cell? ⟨b, f, none⟩ = some v) : (loadVar 3 ⟨b, f, none⟩).run Tryd.prog w = .ok v w := by
  simp [loadVar, isAgg, run_underlying Tryd.underlying3, h]
section
variable {P : Program} {o : Oper} {a : Act} {w : World} {K : Act → World → Prop} {Q : Exit → Act → World → Prop}
theorem run_eql_vB (w : World) (t e : TypeId) (n : Nat) (ht : P.underlying t = some (.array n e)) (he : P.underlying e = some (.int .u8)) (hs : (P.info? e).map (·.size) = some 1) (l r : List (BitVec 8)) (hl : l.length = n) (hr : r.length = n) :
    (binOp .eql t (.agg (vB l).toArray) (.agg (vB r).toArray)).run P w = .ok (.bool (decide (l = r))) w := by
  have hsz : ∀ w, (sizeOf e).run P w = .ok 1 w := by
    intro w
    cases hq : P.info? e with
    | none => simp [hq] at hs
    | some i => have h1 : i.size = 1 := by simpa [hq] using hs
                simp [sizeOf, typeInfo, hq, h1]
  rw [vB_cell, vB_cell, run_eql_struct, run_equalIn_bytes w 9998 t e n ht he hsz (toU l) (toU r) (by rw [toU_length, hl]) (by rw [toU_length, hr])]
  simp [← toU_beq]
theorem wp_eql_b (t : TypeId) (x y : Operand) (yt : TypeId) (ho : o.op = .binOp .eql t x y yt) (e n : Nat) (l r : List (BitVec 8)) (hx : a.eval x = .agg (vB l).toArray) (hy : a.eval y = .agg (vB r).toArray)
    (ht : P.underlying t = some (.array n e)) (he : P.underlying e = some (.int .u8)) (hs : (P.info? e).map (·.size) = some 1) (hl : l.length = n) (hr : r.length = n) (hm : P.eqGuardType P.depth t = false)
    (B : Bool) (hB : decide (l = r) = B) (h : K (a.put o.dst (.bool B)) w) : Oper.wp P o a w K Q := by
  subst hB
  unfold Oper.wp execOp
  simp only [ho, hx, hy, Sem.run_bind, run_eqGuard_agg w .eql t x y _ _ hm, Result.andThen_ok, run_eql_vB w t e n ht he hs l r hl hr, Sem.run_pure, Oper.upon_value]
  exact h
theorem wp_eql_q (x y : Operand) (yt : TypeId) (ho : o.op = .binOp .eql 30 x y yt) (l r : List Nat) (hl : l.length = 4) (hr : r.length = 4) (hx : a.eval x = .agg (vQ l).toArray) (hy : a.eval y = .agg (vQ r).toArray) (B : Bool) (hB : decide (l = r) = B)
    (h : K (a.put o.dst (.bool B)) w) : Oper.wp Tryd.prog o a w K Q := by
  subst hB
  unfold Oper.wp execOp
  simp only [ho, hx, hy, Sem.run_bind, run_eqGuard_agg w .eql _ x y _ _ guard_wide, Result.andThen_ok, run_eql_w w l r hl hr, Sem.run_pure, Oper.upon_value]
  exact h
theorem wp_pick_f {c x y : Operand} (v : Value) (ho : o.op = .pick c x y) (hc : a.eval c = .bool false) (hy : a.eval y = v) (h : K (a.put o.dst v) w) : Oper.wp P o a w K Q := by
  unfold Oper.wp execOp
  simp only [ho, hc, hy]
  simp [go_sem]
  exact h
theorem wp_not_v {x : Operand} {t : TypeId} {B : Bool} (ho : o.op = .unOp .not t x) (hx : a.eval x = .bool B) (h : K (a.put o.dst (.bool (!B))) w) : Oper.wp P o a w K Q := by
  unfold Oper.wp execOp
  simp only [ho, hx]
  simp [go_sem]
  exact h
theorem wp_len_s {x : Operand} (t e : TypeId) (A : Option Addr) (n cap : Nat) (ho : o.op = .call { callee := .builtin .len, args := #[x], argTypes := #[t] }) (ht : P.underlying t = some (.slice e)) (hx : a.eval x = .slice A n cap) (h : K (a.put o.dst (.int .i64 (n : Int))) w) : Oper.wp P o a w K Q := by
  have hr : (Builtin.len_ #[t] o.type #[.slice A n cap]).run P w = .ok (goInt n) w := by
    simp [Builtin.len_, run_underlying ht]
  unfold Oper.wp
  simp [execOp, ho, resolve, invoke, builtin, hx, hr, Result.andThen]
  exact h
theorem wp_load_1 {ty : TypeId} {x : Operand} (b f : Nat) (v : Value) (ho : o.op = .load ty x) (hx : a.eval x = .pointer (some ⟨b, f, none⟩)) (hr : (loadVar ty ⟨b, f, none⟩).run P w = .ok v w) (h : K (a.put o.dst v) w) : Oper.wp P o a w K Q := by
  unfold Oper.wp execOp
  simp only [ho, hx, Instr.loadAt, Instr.sureAddr, Sem.run_bind, Sem.run_pure, Result.andThen_ok, hr, Oper.upon_value]
  exact h
end

end Go.Proofs.YtekgojokhjihfaaDoor

namespace Go.Proofs.YtekgojokhjihfaaDoor
open Go Go.RowKit
open Sha

theorem results_rowS {P : Program} {fn : Func} {p : Tmp} {ty : TypeId} {fs : Array Field} (h : fn.results = #[.cell p ty]) (tmps : Array Value) (w : World) (g : Nat) (t : TypeId) (cs : List Value)
    (hp : tmps.getD p undef = .pointer (some ⟨g, 0, none⟩)) (hg : Row w g cs t) (hu : P.underlying ty = some (.struct fs)) (hi : (P.info? ty).map (·.size) = some cs.length) :
    (results fn tmps).run P w = .ok (.agg cs.toArray) w :=
  results_cell_row h tmps w g t cs.toArray (0, 0) _ hp hg hu rfl (by simp [hi])
end Go.Proofs.YtekgojokhjihfaaDoor

namespace Go.Proofs.YtekgojokhjihfaaDoor
open Go Go.RowKit
open Sha

theorem range_sub {w : World} {b : Nat} {cs l : List Value} {t : TypeId} (h : Row w b cs t) (o n : Nat) (e : (cs.drop o).take n = l) : w.rangeAt b o l := h.range o l (fun j v hj => by
  rw [← e, List.getElem?_take] at hj
  split at hj
  · rwa [List.getElem?_drop] at hj
  · cases hj)
theorem info_20 : (Tryd.prog.info? 27).map (·.size) = some (vB (List.replicate 20 0#8)).length := by kernel_rfl
theorem info_4 : (Tryd.prog.info? 30).map (·.size) = some (vQ (List.replicate 4 0)).length := by kernel_rfl
theorem guardA : Tryd.prog.eqGuardType Tryd.prog.depth 27 = false := by kernel_rfl
section
variable {P : Program} {ops : Array Oper} {rest : List Oper} {op : Oper} {a : Act} {w : World} {Q : Exit → Act → World → Prop}
theorem wpList_eql_b (hw : Region.wanted op (yielded ops a.tmps) = true) (t : TypeId) (x y : Operand) (yt : TypeId) (ho : op.op = .binOp .eql t x y yt) (e n : Nat) (l r : List (BitVec 8)) (hx : a.eval x = .agg (vB l).toArray) (hy : a.eval y = .agg (vB r).toArray)
    (ht : P.underlying t = some (.array n e)) (he : P.underlying e = some (.int .u8)) (hs : (P.info? e).map (·.size) = some 1) (hl : l.length = n) (hr : r.length = n) (hm : P.eqGuardType P.depth t = false)
    (B : Bool) (hB : decide (l = r) = B) (h : wpList P ops Q rest (a.put op.dst (.bool B)) w) : wpList P ops Q (op :: rest) a w :=
  BigFrame.wpList_want hw fun _ hK => wp_eql_b t x y yt ho e n l r hx hy ht he hs hl hr hm B hB (hK _ _ h)
theorem wpList_eql_q (hw : Region.wanted op (yielded ops a.tmps) = true) (x y : Operand) (yt : TypeId) (ho : op.op = .binOp .eql 30 x y yt) (l r : List Nat) (hl : l.length = 4) (hr : r.length = 4) (hx : a.eval x = .agg (vQ l).toArray) (hy : a.eval y = .agg (vQ r).toArray)
    (B : Bool) (hB : decide (l = r) = B) (h : wpList Tryd.prog ops Q rest (a.put op.dst (.bool B)) w) : wpList Tryd.prog ops Q (op :: rest) a w :=
  BigFrame.wpList_want hw fun _ hK => wp_eql_q x y yt ho l r hl hr hx hy B hB (hK _ _ h)
end
/-- A letter's cells. -/
abbrev lt (k t n : Int) : List Value := [.int .i64 (k), .int .i64 (t), .int .u8 0, .int .u8 0, .int .u8 0, .int .u8 0, .int .u8 0, .int .u8 0, .int .u8 0, .int .u8 0, .int .u8 0, .int .u8 0, .int .u8 0, .int .u8 0, .int .u8 0, .int .u8 0, .int .u8 0, .int .u8 0, .int .u8 0, .int .u8 0, .int .u8 0, .int .u8 0, .int .u8 0, .int .u8 0, .int .u8 0, .int .u8 0, .int .u8 0, .int .u8 0, .int .u8 0, .int .u8 0, .int .u8 0, .int .u8 0, .int .u8 0, .int .u8 0, .int .u8 0, .int .u8 0, .int .u8 0, .int .u8 0, .int .u8 0, .int .u8 0, .int .u8 0, .int .u8 0, .int .u64 0, .int .u64 0, .int .u64 0, .int .u64 0, .int .i64 (n), .int .i64 0, .slice none 0 0, .slice none 0 0, .slice none 0 0]
abbrev en (k t : Int) (v : Value) : List Value := [.int .i64 (k), .int .u8 0, .int .u8 0, .int .u8 0, .int .u8 0, .int .u8 0, .int .u8 0, .int .u8 0, .int .u8 0, .int .u8 0, .int .u8 0, .int .u8 0, .int .u8 0, .int .u8 0, .int .u8 0, .int .u8 0, .int .u8 0, .int .u8 0, .int .u8 0, .int .u8 0, .int .u8 0, .int .i64 (t), .int .i64 0, .int .u8 0, .int .u8 0, .int .u8 0, .int .u8 0, .int .u8 0, .int .u8 0, .int .u8 0, .int .u8 0, .int .u8 0, .int .u8 0, .int .u8 0, .int .u8 0, .int .u8 0, .int .u8 0, .int .u8 0, .int .u8 0, .int .u8 0, .int .u8 0, .int .u8 0, .int .u8 0, .int .u64 0, .int .u64 0, .int .u64 0, .int .u64 0, .int .i64 0, v]
end Go.Proofs.YtekgojokhjihfaaDoor

namespace Go.Proofs.YtekgojokhjihfaaDoor
open Go Go.RowKit
open Sha


end Go.Proofs.YtekgojokhjihfaaDoor
