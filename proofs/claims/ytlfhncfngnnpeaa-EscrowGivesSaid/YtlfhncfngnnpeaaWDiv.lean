/-
  math/bits.Div64.
-/
import Derived.Test.YtlfhncfngnnpeaaWDivU
namespace Go.Proofs.Ytlfhncfngnnpeaa
open Go Go.RowKit
open Wd

end Go.Proofs.Ytlfhncfngnnpeaa
