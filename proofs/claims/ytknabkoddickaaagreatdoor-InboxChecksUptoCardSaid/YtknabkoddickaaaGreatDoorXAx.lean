/-
  A reader with or without a fault: numbers; the same of the document's.
-/
import Derived.Test.YtknabkoddickaaaGreatDoorXSee
import Derived.Test.YtknabkoddickaaaGreatDoorXShut
namespace Go.Proofs.YtknabkoddickaaaGreatDoor
open Go Go.RowKit
open Sha

/-- A reader, with or without a fault. -/
def Rx (w : World) (P : Nat) (A : Option Addr) (cap : Nat) (bs : List (BitVec 8)) (a : Nat) (f : Int) : Prop := (f = 0 ∧ Rg w P A cap bs a) ∨ (¬ f = 0 ∧ Rf w P a f)
section
variable {w w' : World} {P cap a : Nat} {A : Option Addr} {bs : List (BitVec 8)} {f : Int}
end
def nV (bs : List (BitVec 8)) (a : Nat) (f : Int) : Nat := if f = 0 then (if nuE bs a = 0 then nuW bs a else 0) else 0
def nA (bs : List (BitVec 8)) (a : Nat) (f : Int) : Nat := if f = 0 then (if nuE bs a = 0 then a + 1 + at8 bs a else a) else a
def nF (bs : List (BitVec 8)) (a : Nat) (f : Int) : Int := if f = 0 then nuE bs a else f
def cV (bs : List (BitVec 8)) (a : Nat) (f most : Int) : Nat := if f = 0 then (if cnE bs a most = 0 then nuW bs a else 0) else 0
def cA (bs : List (BitVec 8)) (a : Nat) (f most : Int) : Nat := if f = 0 then (if cnE bs a most = 0 then a + 1 + at8 bs a else a) else a
def cF (bs : List (BitVec 8)) (a : Nat) (f most : Int) : Int := if f = 0 then cnE bs a most else f
end Go.Proofs.YtknabkoddickaaaGreatDoor
