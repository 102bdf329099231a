/-
  wide.Mul, wide.Cmp.
-/
import Derived.Test.YtefjonidpmpjbaaWHalf
namespace Go.Proofs.Ytefjonidpmpjbaa
open Go Go.RowKit
open Wd

end Go.Proofs.Ytefjonidpmpjbaa
