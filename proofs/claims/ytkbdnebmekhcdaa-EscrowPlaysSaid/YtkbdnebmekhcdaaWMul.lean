/-
  wide.Mul, wide.Cmp.
-/
import Derived.Test.YtkbdnebmekhcdaaWHalf
namespace Go.Proofs.Ytkbdnebmekhcdaa
open Go Go.RowKit
open Wd

end Go.Proofs.Ytkbdnebmekhcdaa
