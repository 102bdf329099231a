/-
  the laws of the outbox: samePath.
-/
import Derived.Test.YtbfahgdienppoaaGreatDoorTLp
namespace Go.Proofs.YtbfahgdienppoaaGreatDoor
open Go Go.RowKit
open Sha

end Go.Proofs.YtbfahgdienppoaaGreatDoor
