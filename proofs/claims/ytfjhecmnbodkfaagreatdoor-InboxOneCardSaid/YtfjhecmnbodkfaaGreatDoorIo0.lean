/-
  InboxOne: laws.
-/
import Derived.Test.YtfjhecmnbodkfaaGreatDoorIbM
namespace Go.Proofs.YtfjhecmnbodkfaaGreatDoor
open Go Go.RowKit
open Sha

section
variable {Q : Exit → Act → World → Prop} {o : Oper} {a : Act} {w : World} {K : Act → World → Prop}
theorem wp_frw0 {x : Operand} (ho : o.op = .fieldAddr 90 x 0) (B i : Nat) (hx : a.eval x = .pointer (some ⟨B, i, none⟩)) (h : K (a.put o.dst (.pointer (some ⟨B, i, none⟩))) w) : Oper.wp Tryz.prog o a w K Q := by
  unfold Oper.wp execOp
  simp only [ho, hx]
  go_simp
  exact h
theorem wp_notT {P : Program} {t : TypeId} {x : Operand} (b : Bool) (ho : o.op = .unOp .not t x) (hx : a.eval x = .bool b) (h : K (a.put o.dst (.bool (!b))) w) : Oper.wp P o a w K Q := by
  unfold Oper.wp execOp
  simp only [ho, hx]
  go_simp
  exact h
theorem wp_allocDg (ho : o.op = .alloc 51) (h : K (a.put o.dst (.pointer (some ⟨w.heap.size, 0, none⟩))) (w.alloc (.cells (vB zK).toArray 51))) : Oper.wp Tryz.prog o a w K Q := by
  obtain ⟨dst, op, ty, pos, after, guard⟩ := o
  simp only at ho
  subst ho
  unfold Oper.wp
  go_simp
  exact h
end
theorem Bx.ent {w0 w : World} {p : Nat} {v : Value} {es : List Ev} (h : Bx w0 w p v es) {i : Nat} {e : Ev} (he : es[i]? = some e) : ∃ g cap A c, v = .slice (some ⟨g, 0, none⟩) es.length cap ∧ w.rangeAt g (i * 81) (e.cells (.slice A e.d.length c)) ∧ SlAt w (.slice A e.d.length c) e.d := by
  obtain ⟨g, cap, A, c, h1, h2, h3, _⟩ := h.at he
  exact ⟨g, cap, A, c, h1, fun j u hj => h2 j u (by rw [List.getElem?_append_left ((List.getElem?_eq_some_iff.1 hj).1)]; exact hj), Bw.sl h3⟩

end Go.Proofs.YtfjhecmnbodkfaaGreatDoor
