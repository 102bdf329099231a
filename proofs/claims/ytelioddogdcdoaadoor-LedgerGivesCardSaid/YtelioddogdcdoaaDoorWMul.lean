/-
  wide.Mul, wide.Cmp.
-/
import Derived.Test.YtelioddogdcdoaaDoorWHalf
namespace Go.Proofs.YtelioddogdcdoaaDoor
open Go Go.RowKit
open Wd

end Go.Proofs.YtelioddogdcdoaaDoor
