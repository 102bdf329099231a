/-
  End, of the program's reader and of the document's.
-/
import Derived.Test.YtkbaaelffnmjlaaGreatDoorXRr
import Derived.Test.YtkbaaelffnmjlaaGreatDoorXShut
namespace Go.Proofs.YtkbaaelffnmjlaaGreatDoor
open Go Go.RowKit
open Sha

end Go.Proofs.YtkbaaelffnmjlaaGreatDoor
