/-
  wide.cutDigits.
-/
import Derived.Test.YtefjonidpmpjbaaWDivU
import Derived.Test.YtefjonidpmpjbaaWCutM

namespace Go.Proofs.Ytefjonidpmpjbaa
open Go Go.RowKit
open Wd

end Go.Proofs.Ytefjonidpmpjbaa

namespace Go.Proofs.Ytefjonidpmpjbaa
open Go Go.RowKit
open Wd

end Go.Proofs.Ytefjonidpmpjbaa

namespace Go.Proofs.Ytefjonidpmpjbaa
open Go Go.RowKit
open Wd

end Go.Proofs.Ytefjonidpmpjbaa
