/-
  wire.take: a look that gave up is caught.
-/
import Derived.Test.YtekgojokhjihfaaXTk
namespace Go.Proofs.Ytekgojokhjihfaa
open Go Go.RowKit
open Sha

end Go.Proofs.Ytekgojokhjihfaa
