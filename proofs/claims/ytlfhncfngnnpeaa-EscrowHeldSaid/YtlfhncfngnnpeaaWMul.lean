/-
  wide.Mul, wide.Cmp.
-/
import Derived.Test.YtlfhncfngnnpeaaWHalf
namespace Go.Proofs.Ytlfhncfngnnpeaa
open Go Go.RowKit
open Wd

end Go.Proofs.Ytlfhncfngnnpeaa
