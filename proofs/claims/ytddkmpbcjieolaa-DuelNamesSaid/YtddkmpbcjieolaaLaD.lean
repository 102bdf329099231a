/-
  the ladder: what it is asked.
-/
import Derived.Test.YtddkmpbcjieolaaLaC
namespace Go.Proofs.Ytddkmpbcjieolaa
open Go Go.RowKit
open Sha

def mayB (c : Cm) : Bool := decide (0 ≤ c.n) && decide (c.n ≤ 1099511627776) && decide (0 ≤ c.k) && decide (c.k ≤ 1099511627776)
theorem mayB_iff (c : Cm) : mayB c = true ↔ c.May := by
  unfold mayB Cm.May
  simp only [Bool.and_eq_true, decide_eq_true_eq, and_assoc]
def folB (c d : Cm) : Bool := mayB c && decide (d.n < c.n) && decide (c.n - d.n ≤ 1024) && decide (d.k ≤ c.k)
end Go.Proofs.Ytddkmpbcjieolaa
