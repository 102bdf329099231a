/-
  wire.take: a look that gave up is caught.
-/
import Derived.Test.YtekgojokhjihfaaDoorXTk
namespace Go.Proofs.YtekgojokhjihfaaDoor
open Go Go.RowKit
open Sha

end Go.Proofs.YtekgojokhjihfaaDoor
