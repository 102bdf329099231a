/-
  the ladder: New, Find, Before, Copy.
-/
import Derived.Test.YtddkmpbcjieolaaLaE
namespace Go.Proofs.Ytddkmpbcjieolaa
open Go Go.RowKit
open Sha

def La0 (c : Cm) (win : Int) : La := ⟨win, 0, 0, c, []⟩
theorem La0_ok {c : Cm} {win : Int} (hw : c.Wf) (hm : c.May) (h1 : 1 ≤ win) (h2 : win ≤ 4611686018427387904) {B : Int} (hB : 0 ≤ B) : (La0 c win).Ok B :=
  ⟨h1, h2, Int.le_refl _, (show (0 : Int) ≤ 4611686018427387904 by decide), Int.le_refl _, hB, hw, hm, (fun p h => by cases h), (fun p h => by cases h), (fun p h => by cases h), Nat.zero_le _⟩
def zL : List Value := La.cells (La0 zC 0) (.slice none 0 0)
def newE (c : Cm) (win : Int) : Int := if mayB c = true then (if 1 ≤ win ∧ win ≤ 4611686018427387904 then 0 else 1) else 160
theorem zL_len : zL.length = 70 := by kernel_rfl
theorem La.one {B : Int} {st : La} (_h : st.Ok B) (A : Option Addr) (n c : Nat) : ∀ v ∈ st.cells (.slice A n c), v.oneCell' = true := by
  intro v hv
  simp only [La.cells, List.mem_cons, List.mem_append, List.not_mem_nil, or_false] at hv
  rcases hv with rfl | rfl | rfl | h | rfl
  · rfl
  · rfl
  · rfl
  · exact Cm.one _ v h
  · rfl
section
variable {ops : Array Oper} {rest : List Oper} {op : Oper} {a : Act} {w : World} {Q : Exit → Act → World → Prop}
end
end Go.Proofs.Ytddkmpbcjieolaa
