/-
  wide.cutDigits.
-/
import Derived.Test.YtlfhncfngnnpeaaWDivU
import Derived.Test.YtlfhncfngnnpeaaWCutM

namespace Go.Proofs.Ytlfhncfngnnpeaa
open Go Go.RowKit
open Wd

end Go.Proofs.Ytlfhncfngnnpeaa

namespace Go.Proofs.Ytlfhncfngnnpeaa
open Go Go.RowKit
open Wd

end Go.Proofs.Ytlfhncfngnnpeaa

namespace Go.Proofs.Ytlfhncfngnnpeaa
open Go Go.RowKit
open Wd

end Go.Proofs.Ytlfhncfngnnpeaa
