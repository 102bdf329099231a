/-
  wide.Cmp.
-/
import Derived.Test.YtojmhmnpidhfjaaDoorWMul
namespace Go.Proofs.YtojmhmnpidhfjaaDoor
open Go Go.RowKit
open Wd

end Go.Proofs.YtojmhmnpidhfjaaDoor
