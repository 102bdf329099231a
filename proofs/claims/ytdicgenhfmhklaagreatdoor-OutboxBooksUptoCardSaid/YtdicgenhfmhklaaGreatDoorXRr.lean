/-
  The document's reader.
-/
import Derived.Test.YtdicgenhfmhklaaGreatDoorXSee
namespace Go.Proofs.YtdicgenhfmhklaaGreatDoor
open Go Go.RowKit
open Sha

section
variable {w w' : World} {D g a : Nat} {bs : List (BitVec 8)} {f : Int}
end

end Go.Proofs.YtdicgenhfmhklaaGreatDoor
