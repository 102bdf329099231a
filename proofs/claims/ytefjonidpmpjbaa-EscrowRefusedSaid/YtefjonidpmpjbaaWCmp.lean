/-
  wide.Cmp.
-/
import Derived.Test.YtefjonidpmpjbaaWMul
namespace Go.Proofs.Ytefjonidpmpjbaa
open Go Go.RowKit
open Wd

end Go.Proofs.Ytefjonidpmpjbaa
