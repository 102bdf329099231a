/-
  wide.Mul, wide.Cmp.
-/
import Derived.Test.YtojmhmnpidhfjaaDoorWHalf
namespace Go.Proofs.YtojmhmnpidhfjaaDoor
open Go Go.RowKit
open Wd

end Go.Proofs.YtojmhmnpidhfjaaDoor
