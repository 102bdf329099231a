/-
  wide.Bits.
-/
import Derived.Test.YtelioddogdcdoaaDoorWLen
import Derived.Test.YtelioddogdcdoaaDoorWDvN
namespace Go.Proofs.YtelioddogdcdoaaDoor
open Go Go.RowKit
open Wd

end Go.Proofs.YtelioddogdcdoaaDoor
