/-
  Digests compared (Eq, with other imports), in regions that draw their order too; len; pick.
-/
import Derived.Test.YtnogjhbohljjnabDoorTRbA
import Derived.BigRegion
import Derived.Stop.BytesEq
namespace Go.Proofs.YtnogjhbohljjnabDoor
open Go Go.RowKit
open Sha

def toU (l : List (BitVec 8)) : List UInt8 := l.map UInt8.ofBitVec
theorem vB_cell (l : List (BitVec 8)) : vB l = (toU l).map Extern.Stop.cell := by
  unfold vB toU; rw [List.map_map]; rfl
theorem toU_length (l : List (BitVec 8)) : (toU l).length = l.length := by simp [toU]
theorem toU_inj {l r : List (BitVec 8)} (h : toU l = toU r) : l = r := by
  unfold toU at h
  exact (List.map_inj_right (fun x y h => congrArg UInt8.toBitVec h)).1 h
theorem toU_beq (l r : List (BitVec 8)) : (toU l == toU r) = decide (l = r) := by
  rw [Bool.eq_iff_iff]; simp only [beq_iff_eq, decide_eq_true_eq]
  exact ⟨toU_inj, fun h => by rw [h]⟩

section
variable {P : Program} {ops : Array Oper} {rest : List Oper} {op : Oper} {a : Act} {w : World} {Q : Exit → Act → World → Prop}

theorem run_eql_vB (w : World) (t e : TypeId) (n : Nat) (ht : P.underlying t = some (.array n e)) (he : P.underlying e = some (.int .u8)) (hs : (P.info? e).map (·.size) = some 1) (l r : List (BitVec 8)) (hl : l.length = n) (hr : r.length = n) :
    (binOp .eql t (.agg (vB l).toArray) (.agg (vB r).toArray)).run P w = .ok (.bool (decide (l = r))) w := by
  have hsz : ∀ w, (sizeOf e).run P w = .ok 1 w := by
    intro w
    cases hq : P.info? e with
    | none => simp [hq] at hs
    | some i => have h1 : i.size = 1 := by simpa [hq] using hs
                simp [sizeOf, typeInfo, hq, h1]
  rw [vB_cell, vB_cell, run_eql_bytes w t e n ht he hsz (toU l) (toU r) (by rw [toU_length, hl]) (by rw [toU_length, hr]), toU_beq]

theorem wpList_load_w (hw : Region.wanted op (yielded ops a.tmps) = true) (ty : TypeId) (x : Operand) (ho : op.op = .load ty x)
    (b o : Nat) (hx : a.eval x = .pointer (some ⟨b, o, none⟩)) (cs : List Value) (d : TypeDesc) (hc : w.rangeAt b o cs)
    (hu : P.underlying ty = some d) (hd : d.isRow = true) (hi : (P.info? ty).map (·.size) = some cs.length)
    (h : wpList P ops Q rest (a.put op.dst (.agg cs.toArray)) w) : wpList P ops Q (op :: rest) a w :=
  BigFrame.wpList_want hw fun _ hK => wp_load_mid ty x ho b o hx cs d hc hu hd hi (hK _ _ h)

theorem wpList_eql_w (hw : Region.wanted op (yielded ops a.tmps) = true) (t : TypeId) (x y : Operand) (yt : TypeId) (ho : op.op = .binOp .eql t x y yt) (e n : Nat) (l r : List (BitVec 8)) (hx : a.eval x = .agg (vB l).toArray) (hy : a.eval y = .agg (vB r).toArray)
    (ht : P.underlying t = some (.array n e)) (he : P.underlying e = some (.int .u8)) (hs : (P.info? e).map (·.size) = some 1) (hl : l.length = n) (hr : r.length = n) (hm : P.eqGuardType P.depth t = false)
    (h : wpList P ops Q rest (a.put op.dst (.bool (decide (l = r)))) w) : wpList P ops Q (op :: rest) a w :=
  BigFrame.wpList_want hw fun _ hK => by
    unfold Oper.wp execOp
    simp only [ho, hx, hy, Sem.run_bind, run_eqGuard_agg w .eql t x y _ _ hm, Result.andThen_ok, run_eql_vB w t e n ht he hs l r hl hr, Sem.run_pure, Oper.upon_value]
    exact hK _ _ h
end

theorem guard_dig : Tryd.prog.eqGuardType Tryd.prog.depth 28 = false := by kernel_rfl


section
variable {P : Program} {Q : Exit → Act → World → Prop} {o : Oper} {a : Act} {w : World} {K : Act → World → Prop}
theorem run_neq_vB (w : World) (t e : TypeId) (n : Nat) (ht : P.underlying t = some (.array n e)) (he : P.underlying e = some (.int .u8)) (hs : (P.info? e).map (·.size) = some 1) (l r : List (BitVec 8)) (hl : l.length = n) (hr : r.length = n) :
    (binOp .neq t (.agg (vB l).toArray) (.agg (vB r).toArray)).run P w = .ok (.bool (!decide (l = r))) w := by
  have hsz : ∀ w, (sizeOf e).run P w = .ok 1 w := by
    intro w
    cases hq : P.info? e with
    | none => simp [hq] at hs
    | some i => have h1 : i.size = 1 := by simpa [hq] using hs
                simp [sizeOf, typeInfo, hq, h1]
  rw [vB_cell, vB_cell, run_neq_struct, run_equalIn_bytes w 9998 t e n ht he hsz (toU l) (toU r) (by rw [toU_length, hl]) (by rw [toU_length, hr])]
  simp [← toU_beq]
theorem wp_neq_d (t : TypeId) (x y : Operand) (yt : TypeId) (ho : o.op = .binOp .neq t x y yt) (e n : Nat) (l r : List (BitVec 8)) (hx : a.eval x = .agg (vB l).toArray) (hy : a.eval y = .agg (vB r).toArray)
    (ht : P.underlying t = some (.array n e)) (he : P.underlying e = some (.int .u8)) (hs : (P.info? e).map (·.size) = some 1) (hl : l.length = n) (hr : r.length = n) (hm : P.eqGuardType P.depth t = false)
    (B : Bool) (hB : (!decide (l = r)) = B) (h : K (a.put o.dst (.bool B)) w) : Oper.wp P o a w K Q := by
  subst hB
  unfold Oper.wp execOp
  simp only [ho, hx, hy, Sem.run_bind, run_eqGuard_agg w .neq t x y _ _ hm, Result.andThen_ok, run_neq_vB w t e n ht he hs l r hl hr, Sem.run_pure, Oper.upon_value]
  exact h
theorem wp_neqint_v {x y : Operand} {t yt : TypeId} {k : IntKind} {m n : Int} {B : Bool} (ho : o.op = .binOp .neq t x y yt) (hx : a.eval x = .int k m) (hy : a.eval y = .int k n) (hB : (!(m == n)) = B) (h : K (a.put o.dst (.bool B)) w) : Oper.wp P o a w K Q := by
  subst hB
  unfold Oper.wp execOp
  simp only [ho, hx, hy]
  simp [go_sem]
  exact h
theorem wp_pick_f {c x y : Operand} (v : Value) (ho : o.op = .pick c x y) (hc : a.eval c = .bool false) (hy : a.eval y = v) (h : K (a.put o.dst v) w) : Oper.wp P o a w K Q := by
  unfold Oper.wp execOp
  simp only [ho, hc, hy]
  simp [go_sem]
  exact h
theorem wp_len_s {x : Operand} (t e : TypeId) (A : Option Addr) (n cap : Nat) (ho : o.op = .call { callee := .builtin .len, args := #[x], argTypes := #[t] }) (ht : P.underlying t = some (.slice e)) (hx : a.eval x = .slice A n cap) (h : K (a.put o.dst (.int .i64 (n : Int))) w) : Oper.wp P o a w K Q := by
  have hr : (Builtin.len_ #[t] o.type #[.slice A n cap]).run P w = .ok (goInt n) w := by
    simp [Builtin.len_, run_underlying ht]
  unfold Oper.wp
  simp [execOp, ho, resolve, invoke, builtin, hx, hr, Result.andThen]
  exact h
end

end Go.Proofs.YtnogjhbohljjnabDoor
