/-
  The document's reader: numbers, a list's number.
-/
import Derived.Test.YtehjadgmleoobaaXRn
namespace Go.Proofs.Ytehjadgmleoobaa
open Go Go.RowKit
open Sha

end Go.Proofs.Ytehjadgmleoobaa
