/-
  wire.Reader: seeFlag, seeWide, seeDigest, seeAddress, whatever the bytes.
-/
import Derived.Test.YtknabkoddickaaaGreatDoorXSee
import Derived.Test.YtknabkoddickaaaGreatDoorXLaw2
namespace Go.Proofs.YtknabkoddickaaaGreatDoor
open Go Go.RowKit
open Sha

/-- What is wrong with a truth. -/
def flE (bs : List (BitVec 8)) (a : Nat) : Int := if bs.length ≤ a then 31 else if 1 < at8 bs a then 32 else 0
/-- What is wrong with so many bytes. -/
def dgE (n : Nat) (bs : List (BitVec 8)) (a : Nat) : Int := if bs.length < a + n then 31 else 0
def byE (bs : List (BitVec 8)) (a : Nat) : Int := if bs.length ≤ a then 31 else 0
/-- Bytes from a place on. -/
def sub (bs : List (BitVec 8)) (a n : Nat) : List (BitVec 8) := (bs.drop a).take n
section
variable {ops : Array Oper} {rest : List Oper} {op : Oper} {a : Act} {w : World} {Q : Exit → Act → World → Prop}
end

end Go.Proofs.YtknabkoddickaaaGreatDoor
