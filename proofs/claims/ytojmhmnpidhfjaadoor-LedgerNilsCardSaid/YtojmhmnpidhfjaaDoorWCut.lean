/-
  wide.cutDigits.
-/
import Derived.Test.YtojmhmnpidhfjaaDoorWDivU
import Derived.Test.YtojmhmnpidhfjaaDoorWCutM

namespace Go.Proofs.YtojmhmnpidhfjaaDoor
open Go Go.RowKit
open Wd

end Go.Proofs.YtojmhmnpidhfjaaDoor

namespace Go.Proofs.YtojmhmnpidhfjaaDoor
open Go Go.RowKit
open Wd

end Go.Proofs.YtojmhmnpidhfjaaDoor

namespace Go.Proofs.YtojmhmnpidhfjaaDoor
open Go Go.RowKit
open Wd

end Go.Proofs.YtojmhmnpidhfjaaDoor
