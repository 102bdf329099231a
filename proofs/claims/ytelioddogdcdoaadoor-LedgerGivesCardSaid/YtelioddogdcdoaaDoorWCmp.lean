/-
  wide.Cmp.
-/
import Derived.Test.YtelioddogdcdoaaDoorWMul
namespace Go.Proofs.YtelioddogdcdoaaDoor
open Go Go.RowKit
open Wd

end Go.Proofs.YtelioddogdcdoaaDoor
