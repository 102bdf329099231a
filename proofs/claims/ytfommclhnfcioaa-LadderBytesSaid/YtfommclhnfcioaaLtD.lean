/-
  fits, at concrete letters and entries.
-/
import Derived.Test.YtfommclhnfcioaaLtC
namespace Go.Proofs.Ytfommclhnfcioaa
open Go Go.RowKit
open Sha

end Go.Proofs.Ytfommclhnfcioaa
