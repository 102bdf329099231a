/-
  wide.Bits.
-/
import Derived.Test.YtkbdnebmekhcdaaWLen
import Derived.Test.YtkbdnebmekhcdaaWDvN
namespace Go.Proofs.Ytkbdnebmekhcdaa
open Go Go.RowKit
open Wd

end Go.Proofs.Ytkbdnebmekhcdaa
