/-
  wide.cutDigits.
-/
import Derived.Test.YtelioddogdcdoaaDoorWDivU
import Derived.Test.YtelioddogdcdoaaDoorWCutM

namespace Go.Proofs.YtelioddogdcdoaaDoor
open Go Go.RowKit
open Wd

end Go.Proofs.YtelioddogdcdoaaDoor

namespace Go.Proofs.YtelioddogdcdoaaDoor
open Go Go.RowKit
open Wd

end Go.Proofs.YtelioddogdcdoaaDoor

namespace Go.Proofs.YtelioddogdcdoaaDoor
open Go Go.RowKit
open Wd

end Go.Proofs.YtelioddogdcdoaaDoor
