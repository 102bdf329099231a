/-
  wide.Mul, wide.Cmp.
-/
import Derived.Test.YtobmhggfkgcnfaaDoorWHalf
namespace Go.Proofs.YtobmhggfkgcnfaaDoor
open Go Go.RowKit
open Wd

end Go.Proofs.YtobmhggfkgcnfaaDoor
