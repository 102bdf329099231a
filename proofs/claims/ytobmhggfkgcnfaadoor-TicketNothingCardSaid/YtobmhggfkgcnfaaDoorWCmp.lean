/-
  wide.Cmp.
-/
import Derived.Test.YtobmhggfkgcnfaaDoorWMul
namespace Go.Proofs.YtobmhggfkgcnfaaDoor
open Go Go.RowKit
open Wd

end Go.Proofs.YtobmhggfkgcnfaaDoor
