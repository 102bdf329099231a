/-
  wide.Bits.
-/
import Derived.Test.YtefjonidpmpjbaaWLen
import Derived.Test.YtefjonidpmpjbaaWDvN
namespace Go.Proofs.Ytefjonidpmpjbaa
open Go Go.RowKit
open Wd

end Go.Proofs.Ytefjonidpmpjbaa
