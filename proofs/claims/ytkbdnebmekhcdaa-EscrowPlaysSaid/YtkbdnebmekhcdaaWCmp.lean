/-
  wide.Cmp.
-/
import Derived.Test.YtkbdnebmekhcdaaWMul
namespace Go.Proofs.Ytkbdnebmekhcdaa
open Go Go.RowKit
open Wd

end Go.Proofs.Ytkbdnebmekhcdaa
