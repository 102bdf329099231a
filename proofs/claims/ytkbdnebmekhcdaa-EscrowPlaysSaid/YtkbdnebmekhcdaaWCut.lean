/-
  wide.cutDigits.
-/
import Derived.Test.YtkbdnebmekhcdaaWDivU
import Derived.Test.YtkbdnebmekhcdaaWCutM

namespace Go.Proofs.Ytkbdnebmekhcdaa
open Go Go.RowKit
open Wd

end Go.Proofs.Ytkbdnebmekhcdaa

namespace Go.Proofs.Ytkbdnebmekhcdaa
open Go Go.RowKit
open Wd

end Go.Proofs.Ytkbdnebmekhcdaa

namespace Go.Proofs.Ytkbdnebmekhcdaa
open Go Go.RowKit
open Wd

end Go.Proofs.Ytkbdnebmekhcdaa
