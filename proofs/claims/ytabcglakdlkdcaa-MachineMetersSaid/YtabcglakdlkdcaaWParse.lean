/-
  wide.Parse.
-/
import Derived.Test.YtabcglakdlkdcaaWCmp
import Derived.Lib.Strings

namespace Go.Proofs.Ytabcglakdlkdcaa
open Go Go.RowKit
open Wd
namespace Wd
def pc (a d t : Nat) : Nat := (10 * (a % 2 ^ (64 * t)) + d) / 2 ^ (64 * t)
end Wd

end Go.Proofs.Ytabcglakdlkdcaa

namespace Go.Proofs.Ytabcglakdlkdcaa
open Go Go.RowKit
open Wd
namespace Wd
/-- Digits behind a number. -/
def pars : List Nat → Nat → Option Nat
  | [], a => some a
  | c :: r, a => if c < 48 ∨ 57 < c then none else if 10 * a + (c - 48) < 2 ^ 256 then pars r (10 * a + (c - 48)) else none
/-- What a text says. -/
def parse (l : List Nat) : Option Nat := if l = [] ∨ (l.getD 0 0 = 48 ∧ 1 < l.length) then none else pars l 0
def ansR (o : Option Nat) : Nat := o.getD 0
def ansE (o : Option Nat) : Int := if o.isSome then 0 else 21
end Wd

/-- s has the bytes l. -/
structure StrN (s : ByteArray) (l : List Nat) : Prop where
  size : s.size = l.length
  lt : ∀ x ∈ l, x < 256
  at' : ∀ i (h : i < s.size), s[i].toNat = l.getD i 0

end Go.Proofs.Ytabcglakdlkdcaa
