/-
  wide.Cmp.
-/
import Derived.Test.YtlfhncfngnnpeaaWMul
namespace Go.Proofs.Ytlfhncfngnnpeaa
open Go Go.RowKit
open Wd

end Go.Proofs.Ytlfhncfngnnpeaa
