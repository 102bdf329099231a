/-
  Digests compared; loads and comparisons behind a guard that says yes.
-/
import Derived.Test.YtihigbkanbabeaaDoorAwake
import Derived.Stop.BytesEq
namespace Go.Proofs.YtihigbkanbabeaaDoor
open Go Go.RowKit
open Sha

def toU (l : List (BitVec 8)) : List UInt8 := l.map UInt8.ofBitVec
theorem vB_cell (l : List (BitVec 8)) : vB l = (toU l).map Extern.Stop.cell := by
  unfold vB toU; rw [List.map_map]; rfl
theorem toU_length (l : List (BitVec 8)) : (toU l).length = l.length := by simp [toU]
theorem toU_inj {l r : List (BitVec 8)} (h : toU l = toU r) : l = r := by
  unfold toU at h
  exact (List.map_inj_right (fun x y h => congrArg UInt8.toBitVec h)).1 h
theorem toU_beq (l r : List (BitVec 8)) : (toU l == toU r) = decide (l = r) := by
  rw [Bool.eq_iff_iff]; simp only [beq_iff_eq, decide_eq_true_eq]
  exact ⟨toU_inj, fun h => by rw [h]⟩

section
variable {P : Program} {ops : Array Oper} {rest : List Oper} {op : Oper} {a : Act} {w : World} {Q : Exit → Act → World → Prop}

theorem run_eql_vB (w : World) (t e : TypeId) (n : Nat) (ht : P.underlying t = some (.array n e)) (he : P.underlying e = some (.int .u8)) (hs : (P.info? e).map (·.size) = some 1) (l r : List (BitVec 8)) (hl : l.length = n) (hr : r.length = n) :
    (binOp .eql t (.agg (vB l).toArray) (.agg (vB r).toArray)).run P w = .ok (.bool (decide (l = r))) w := by
  have hsz : ∀ w, (sizeOf e).run P w = .ok 1 w := by
    intro w
    cases hq : P.info? e with
    | none => simp [hq] at hs
    | some i => have h1 : i.size = 1 := by simpa [hq] using hs
                simp [sizeOf, typeInfo, hq, h1]
  rw [vB_cell, vB_cell, run_eql_bytes w t e n ht he hsz (toU l) (toU r) (by rw [toU_length, hl]) (by rw [toU_length, hr]), toU_beq]

theorem wpList_load_w (hw : Region.wanted op (yielded ops a.tmps) = true) (ty : TypeId) (x : Operand) (ho : op.op = .load ty x)
    (b o : Nat) (hx : a.eval x = .pointer (some ⟨b, o, none⟩)) (cs : List Value) (d : TypeDesc) (hc : w.rangeAt b o cs)
    (hu : P.underlying ty = some d) (hd : d.isRow = true) (hi : (P.info? ty).map (·.size) = some cs.length)
    (h : wpList P ops Q rest (a.put op.dst (.agg cs.toArray)) w) : wpList P ops Q (op :: rest) a w :=
  BigFrame.wpList_want hw fun _ hK => wp_load_mid ty x ho b o hx cs d hc hu hd hi (hK _ _ h)

theorem wpList_eql_w (hw : Region.wanted op (yielded ops a.tmps) = true) (t : TypeId) (x y : Operand) (yt : TypeId) (ho : op.op = .binOp .eql t x y yt) (e n : Nat) (l r : List (BitVec 8)) (hx : a.eval x = .agg (vB l).toArray) (hy : a.eval y = .agg (vB r).toArray)
    (ht : P.underlying t = some (.array n e)) (he : P.underlying e = some (.int .u8)) (hs : (P.info? e).map (·.size) = some 1) (hl : l.length = n) (hr : r.length = n) (hm : P.eqGuardType P.depth t = false)
    (h : wpList P ops Q rest (a.put op.dst (.bool (decide (l = r)))) w) : wpList P ops Q (op :: rest) a w :=
  BigFrame.wpList_want hw fun _ hK => by
    unfold Oper.wp execOp
    simp only [ho, hx, hy, Sem.run_bind, run_eqGuard_agg w .eql t x y _ _ hm, Result.andThen_ok, run_eql_vB w t e n ht he hs l r hl hr, Sem.run_pure, Oper.upon_value]
    exact hK _ _ h
end

theorem guard_dig : Tryd.prog.eqGuardType Tryd.prog.depth 26 = false := by kernel_rfl

end Go.Proofs.YtihigbkanbabeaaDoor
