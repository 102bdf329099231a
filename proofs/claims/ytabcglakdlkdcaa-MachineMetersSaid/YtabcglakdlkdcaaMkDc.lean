/-
  run.all at such a program.
-/
import Derived.Test.YtabcglakdlkdcaaMkDb
namespace Go.Proofs.Ytabcglakdlkdcaa
open Go Go.RowKit
open Sha
open Wd

theorem zR_one : zR.toArray.all (·.oneCell') = true := by rw [← Array.all_toList]; rfl
/-- What run.all answers. -/
def rans (E : Int) (v l1 : Nat) : List Value := if E = 0 then wq v ++ [.int .i64 ((100 - l1 : Nat) : Int)] else zR
end Go.Proofs.Ytabcglakdlkdcaa
