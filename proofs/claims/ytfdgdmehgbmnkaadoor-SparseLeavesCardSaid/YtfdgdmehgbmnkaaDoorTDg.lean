/-
  Digests as letters: what a walk asks of one.
-/
import Derived.Test.YtfdgdmehgbmnkaaDoorTEq
namespace Go.Proofs.YtfdgdmehgbmnkaaDoor
open Go Go.RowKit
open Sha

/-- A digest's bytes. -/
def Dl (x : List (BitVec 8)) : Prop := x.length = 32
abbrev z32 : List Value := vB (List.replicate 32 0#8)
theorem z32_length : z32.length = 32 := rfl
theorem Dl.len {x : List (BitVec 8)} (h : Dl x) : (vB x).length = 32 := by rw [vB_length]; exact h
theorem Dl.info {x : List (BitVec 8)} (h : Dl x) : (Tryd.prog.info? 29).map (·.size) = some (vB x).length := by rw [info_dig, h.len]
theorem Dl.info' {x : List (BitVec 8)} (h : Dl x) : (Tryd.prog.info? 29).map (·.size) = some (vB x).toArray.size := by rw [info_dig, List.size_toArray, h.len]
theorem Dl.one {x : List (BitVec 8)} (_ : Dl x) : (vB x).toArray.all (·.oneCell') = true := all_oneCell_toArray (vB_one x)
theorem Dl.there {x : List (BitVec 8)} (h : Dl x) {W : World} {N : Nat} {cs : List Value} {t : TypeId} (r : Row W N cs t) (hc : cs.length = 32) : W.there N 0 (vB x).toArray.size := r.there 0 _ (by rw [List.size_toArray, h.len, hc]; decide)
theorem Dl.over {x : List (BitVec 8)} (h : Dl x) {cs : List Value} (hc : cs.length = 32) : (vB x).length = cs.length := by rw [h.len, hc]
theorem dl_dig (d : List (BitVec 8)) : Dl (dig d) := dig_length d
theorem SlAt.be {w w' : World} {v : Value} {d : List (BitVec 8)} (h : SlAt w v d) (k : Below w.heap.size w w') : SlAt w' v d := h.below k (Nat.le_refl _)
theorem Tab.be {w w' : World} {g : Nat} (h : Tab w g) (k : Below w.heap.size w w') : Tab w' g := h.below k h.lt

theorem wp_alloc_d {o : Oper} {a : Act} {w : World} {K : Act → World → Prop} {Q : Exit → Act → World → Prop} (ho : o.op = .alloc 29) (h : K (a.put o.dst (.pointer (some ⟨w.heap.size, 0, none⟩))) (w.alloc (.cells z32.toArray 29))) : Oper.wp Tryd.prog o a w K Q := by
  obtain ⟨dst, op, ty, pos, after, guard⟩ := o
  simp only at ho
  subst ho
  unfold Oper.wp
  go_simp
  exact h

section
variable {ops : Array Oper} {rest : List Oper} {op : Oper} {a : Act} {w : World} {Q : Exit → Act → World → Prop}
/-- == of two digests that are one. -/
theorem wpList_eql_same (hw : Region.wanted op (yielded ops a.tmps) = true) (x y : Operand) (yt : TypeId) (ho : op.op = .binOp .eql 29 x y yt) (l : List (BitVec 8)) (hl : Dl l) (hx : a.eval x = .agg (vB l).toArray) (hy : a.eval y = .agg (vB l).toArray)
    (h : wpList Tryd.prog ops Q rest (a.put op.dst (.bool true)) w) : wpList Tryd.prog ops Q (op :: rest) a w :=
  wpList_eql_w hw 29 x y yt ho 5 32 l l hx hy Tryd.underlying29 Tryd.underlying5 info_u8 hl hl guard_dig (by simpa using h)
/-- == of two digests. -/
theorem wpList_eql_d (hw : Region.wanted op (yielded ops a.tmps) = true) (x y : Operand) (yt : TypeId) (ho : op.op = .binOp .eql 29 x y yt) (l r : List (BitVec 8)) (B : Bool) (hB : decide (l = r) = B) (hl : Dl l) (hr : Dl r) (hx : a.eval x = .agg (vB l).toArray) (hy : a.eval y = .agg (vB r).toArray)
    (h : wpList Tryd.prog ops Q rest (a.put op.dst (.bool B)) w) : wpList Tryd.prog ops Q (op :: rest) a w :=
  wpList_eql_w hw 29 x y yt ho 5 32 l r hx hy Tryd.underlying29 Tryd.underlying5 info_u8 hl hr guard_dig (by rw [hB]; exact h)
end

end Go.Proofs.YtfdgdmehgbmnkaaDoor
