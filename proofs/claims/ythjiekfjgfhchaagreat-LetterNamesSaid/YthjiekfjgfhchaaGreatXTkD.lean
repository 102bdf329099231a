/-
  wire.take: a look that gave up is caught.
-/
import Derived.Test.YthjiekfjgfhchaaGreatXTk
namespace Go.Proofs.YthjiekfjgfhchaaGreat
open Go Go.RowKit
open Sha

end Go.Proofs.YthjiekfjgfhchaaGreat
