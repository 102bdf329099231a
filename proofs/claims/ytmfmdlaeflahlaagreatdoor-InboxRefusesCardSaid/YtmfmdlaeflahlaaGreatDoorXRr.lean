/-
  The document's reader.
-/
import Derived.Test.YtmfmdlaeflahlaaGreatDoorXSee
namespace Go.Proofs.YtmfmdlaeflahlaaGreatDoor
open Go Go.RowKit
open Sha

section
variable {w w' : World} {D g a : Nat} {bs : List (BitVec 8)} {f : Int}
end

end Go.Proofs.YtmfmdlaeflahlaaGreatDoor
