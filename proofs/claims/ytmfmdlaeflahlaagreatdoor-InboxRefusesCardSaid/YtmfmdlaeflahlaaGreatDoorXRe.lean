/-
  End, of the program's reader and of the document's.
-/
import Derived.Test.YtmfmdlaeflahlaaGreatDoorXRr
import Derived.Test.YtmfmdlaeflahlaaGreatDoorXShut
namespace Go.Proofs.YtmfmdlaeflahlaaGreatDoor
open Go Go.RowKit
open Sha

end Go.Proofs.YtmfmdlaeflahlaaGreatDoor
