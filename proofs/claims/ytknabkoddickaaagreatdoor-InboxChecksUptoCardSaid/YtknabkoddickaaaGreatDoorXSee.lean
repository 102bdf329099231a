/-
  wire.Reader: seeNumber, seeCount, seeFlag, seeWide, whatever the bytes.
-/
import Derived.Test.YtknabkoddickaaaGreatDoorXMem
import Derived.Test.YtknabkoddickaaaGreatDoorXRd2
import Derived.WalkSmall
import Derived.Laws.Bits64

namespace Go.Proofs.YtknabkoddickaaaGreatDoor
open Go Go.RowKit
open Sha

--MATH
def at8 (bs : List (BitVec 8)) (i : Nat) : Nat := (bs.getD i 0).toNat
/-- What is wrong with a number of at most so many bytes at a place (0: nothing). -/
def hiF (most : Nat) (bs : List (BitVec 8)) (a : Nat) : Int :=
  if bs.length ≤ a then 31 else if most < at8 bs a then 32 else if bs.length < a + 1 + at8 bs a then 31 else if 0 < at8 bs a ∧ at8 bs (a + 1) = 0 then 32 else 0
/-- Part j of the number whose last byte stands ahead of e, by its last t bytes. -/
def lb (bs : List (BitVec 8)) (e : Nat) (j : Nat) : Nat → Nat
  | 0 => 0
  | t + 1 => if t / 8 = j then lb bs e j t + at8 bs (e - 1 - t) * 256 ^ (t % 8) else lb bs e j t
/-- The number by its first i bytes, from s on. -/
def hv (bs : List (BitVec 8)) (s : Nat) : Nat → Nat
  | 0 => 0
  | i + 1 => 256 * hv bs s i + at8 bs (s + i)
/-- What is wrong with a number; its worth. -/
def nuW (bs : List (BitVec 8)) (a : Nat) : Nat := lb bs (a + 1 + at8 bs a) 0 (at8 bs a)
def nuE (bs : List (BitVec 8)) (a : Nat) : Int := if hiF 8 bs a = 0 then (if 9223372036854775807 < nuW bs a then 32 else 0) else hiF 8 bs a
--END

end Go.Proofs.YtknabkoddickaaaGreatDoor

namespace Go.Proofs.YtknabkoddickaaaGreatDoor
open Go Go.RowKit
open Sha

/-- A reader that has no fault. -/
structure Rg (w : World) (P : Nat) (A : Option Addr) (cap : Nat) (bs : List (BitVec 8)) (a : Nat) : Prop where
  row : Row w P [.slice A bs.length cap, .int .i64 (a : Int), .int .i64 0] 176
  bw : Bw w (.slice A bs.length cap) bs
  le : a ≤ bs.length
  len : bs.length ≤ 4194304
/-- A reader with a fault. -/
abbrev Rf (w : World) (P : Nat) (a : Nat) (f : Int) : Prop := Row w P [.slice none 0 0, .int .i64 (a : Int), .int .i64 f] 176
section
variable {w w' : World} {P cap a : Nat} {A : Option Addr} {bs : List (BitVec 8)}
end
abbrev GU : TypeId := 177
abbrev gu (e : Int) : List PanicEntry := [{ v := .iface GU (.int .i64 e), recovered := false }]

end Go.Proofs.YtknabkoddickaaaGreatDoor

namespace Go.Proofs.YtknabkoddickaaaGreatDoor
open Go Go.RowKit
open Sha

/-- The reader's own block alone turns. -/
abbrev Gp (P : Nat) : World → World → Prop := Gro (fun k => k = P)
/-- A look gave up. -/
def Gave (w w' : World) (P : Nat) (A : Option Addr) (cap : Nat) (bs : List (BitVec 8)) : Prop := (∃ b, Rg w' P A cap bs b) ∧ Gp P w w'
def qd (bs : List (BitVec 8)) (e t : Nat) : List Value := q4 (lb bs e 0 t) (lb bs e 1 t) (lb bs e 2 t) (lb bs e 3 t)
end Go.Proofs.YtknabkoddickaaaGreatDoor

namespace Go.Proofs.YtknabkoddickaaaGreatDoor
open Go Go.RowKit
open Sha

/-- What is wrong with a list's number. -/
def cnE (bs : List (BitVec 8)) (a : Nat) (most : Int) : Int :=
  if nuE bs a = 0 then (if most < (nuW bs a : Int) then 30 else if bs.length < a + 1 + at8 bs a + nuW bs a then 31 else 0) else nuE bs a
end Go.Proofs.YtknabkoddickaaaGreatDoor
