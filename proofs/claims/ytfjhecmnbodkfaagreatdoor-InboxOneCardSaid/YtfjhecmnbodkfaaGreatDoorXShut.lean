/-
  wire.Reader with a fault: it answers noughts, and nothing happens.
-/
import Derived.Test.YtfjhecmnbodkfaaGreatDoorXRd2
import Derived.Test.YtfjhecmnbodkfaaGreatDoorXLaw2
namespace Go.Proofs.YtfjhecmnbodkfaaGreatDoor
open Go Go.RowKit
open Sha

/-- A reader with a fault (or whatever a reader holds). -/
abbrev Rs (w : World) (P : Nat) (v : Value) (a f : Int) : Prop := Row w P [v, .int .i64 a, .int .i64 f] 183

end Go.Proofs.YtfjhecmnbodkfaaGreatDoor
