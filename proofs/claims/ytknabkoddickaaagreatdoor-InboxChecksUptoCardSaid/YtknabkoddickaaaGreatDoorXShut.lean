/-
  wire.Reader with a fault: it answers noughts, and nothing happens.
-/
import Derived.Test.YtknabkoddickaaaGreatDoorXRd2
import Derived.Test.YtknabkoddickaaaGreatDoorXLaw2
namespace Go.Proofs.YtknabkoddickaaaGreatDoor
open Go Go.RowKit
open Sha

/-- A reader with a fault (or whatever a reader holds). -/
abbrev Rs (w : World) (P : Nat) (v : Value) (a f : Int) : Prop := Row w P [v, .int .i64 a, .int .i64 f] 176

end Go.Proofs.YtknabkoddickaaaGreatDoor
