/-
  wide.cutDigits.
-/
import Derived.Test.YtobmhggfkgcnfaaDoorWDivU
import Derived.Test.YtobmhggfkgcnfaaDoorWCutM

namespace Go.Proofs.YtobmhggfkgcnfaaDoor
open Go Go.RowKit
open Wd

end Go.Proofs.YtobmhggfkgcnfaaDoor

namespace Go.Proofs.YtobmhggfkgcnfaaDoor
open Go Go.RowKit
open Wd

end Go.Proofs.YtobmhggfkgcnfaaDoor

namespace Go.Proofs.YtobmhggfkgcnfaaDoor
open Go Go.RowKit
open Wd

end Go.Proofs.YtobmhggfkgcnfaaDoor
