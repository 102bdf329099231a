/-
  the inbox: a box's Entries; a list cut at both ends.
-/
import Derived.Test.YtknabkoddickaaaGreatDoorIbO
import Derived.Laws.MakeOwn
namespace Go.Proofs.YtknabkoddickaaaGreatDoor
open Go Go.RowKit
open Sha

/-- Where a list that is cut lies. -/
def cutA (A : Option Addr) (cap i s : Nat) : Option Addr := if cap = i then A else A.map (·.add (i * s))
section
variable {ops : Array Oper} {rest : List Oper} {op : Oper} {a : Act} {w : World} {Q : Exit → Act → World → Prop}
end
end Go.Proofs.YtknabkoddickaaaGreatDoor
