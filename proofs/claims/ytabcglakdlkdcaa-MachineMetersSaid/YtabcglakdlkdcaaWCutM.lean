/-
  Mathematics of wide.cutDigits and wide.Text: the last nineteen digits, and those ahead of them. Nothing of the program.
-/
import Derived.Test.YtabcglakdlkdcaaWNum
import Derived.Lib.ItoaNum
namespace Go.Proofs.Ytabcglakdlkdcaa
open Go
namespace Wd
open Go.Lib (decDigits nDigits dg)

/-- What Div64 is handed above part t. -/
def lw (a t : Nat) : Nat := a / 2 ^ (64 * t) % 10000000000000000000
/-! ### The numeral -/
/-- The digits of v in k places. -/
def padk (k v : Nat) : List UInt8 := (List.range k).map fun t => dg v (k - 1 - t)
end Wd
end Go.Proofs.Ytabcglakdlkdcaa
