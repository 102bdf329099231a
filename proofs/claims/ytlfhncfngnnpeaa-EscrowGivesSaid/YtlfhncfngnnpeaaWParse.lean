/-
  wide.Parse.
-/
import Derived.Test.YtlfhncfngnnpeaaWPut
import Derived.Lib.Strings
namespace Go.Proofs.Ytlfhncfngnnpeaa
open Go Go.RowKit
open Wd
namespace Wd
/-- Digits behind a number. -/
def pars : List Nat → Nat → Option Nat
  | [], a => some a
  | c :: r, a => if c < 48 ∨ 57 < c then none else if 10 * a + (c - 48) < 2 ^ 256 then pars r (10 * a + (c - 48)) else none
/-- What a text says. -/
def parse (l : List Nat) : Option Nat := if l = [] ∨ (l.getD 0 0 = 48 ∧ 1 < l.length) then none else pars l 0
def ansR (o : Option Nat) : Nat := o.getD 0
def ansE (o : Option Nat) : Int := if o.isSome then 0 else 21
end Wd

/-- s has the bytes l. -/
structure StrN (s : ByteArray) (l : List Nat) : Prop where
  size : s.size = l.length
  lt : ∀ x ∈ l, x < 256
  at' : ∀ i (h : i < s.size), s[i].toNat = l.getD i 0

theorem idx_run {s : ByteArray} {l : List Nat} (hs : StrN s l) (i : Nat) (hi : i < l.length) (w : World) : (Instr.index 9 (.string s) (.int .i64 (i : Int))).run Try.prog w = .ok (.int .u8 ((l.getD i 0 : Nat) : Int)) w := by
  have hr := run_index_string (P := Try.prog) w 9 s .i64 (i : Int) Try.underlying9
  have hsz := hs.size
  rw [dif_pos (by omega)] at hr
  rw [hr]
  have := hs.at' i (by omega)
  simp only [Int.toNat_natCast]
  rw [← this]

theorem four (n : Nat) : dgs n 4 = [lim n 0, lim n 1, lim n 2, lim n 3] := rfl

end Go.Proofs.Ytlfhncfngnnpeaa
