/-
  wide.Bits.
-/
import Derived.Test.YtlfhncfngnnpeaaWLen
import Derived.Test.YtlfhncfngnnpeaaWDvN
namespace Go.Proofs.Ytlfhncfngnnpeaa
open Go Go.RowKit
open Wd

end Go.Proofs.Ytlfhncfngnnpeaa
