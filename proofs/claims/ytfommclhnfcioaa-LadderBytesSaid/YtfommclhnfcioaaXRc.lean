/-
  The document's reader: numbers, a list's number.
-/
import Derived.Test.YtfommclhnfcioaaXRn
namespace Go.Proofs.Ytfommclhnfcioaa
open Go Go.RowKit
open Sha

end Go.Proofs.Ytfommclhnfcioaa
