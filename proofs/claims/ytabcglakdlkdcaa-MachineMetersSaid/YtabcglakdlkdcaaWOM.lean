/-
  Mathematics of binary digits: their length, cut and compared. Nothing of the program.
-/
import Derived.Test.YtabcglakdlkdcaaWDvN
namespace Go.Proofs.Ytabcglakdlkdcaa
open Go
namespace Wd
/-- Binary digit i. -/
def bt (a i : Nat) : Nat := a / 2 ^ i % 2
def bts (a n : Nat) : List Nat := (List.range n).map (bt a)
/-- How many binary digits. -/
def blen (a : Nat) : Nat := if a = 0 then 0 else a.log2 + 1
/-! ### Lists of numbers in slots and cells -/
def vI (l : List Nat) : List Value := l.map (fun (x : Nat) => Value.int .i64 (x : Int))
theorem vI_length (l : List Nat) : (vI l).length = l.length := by simp [vI]
theorem vI_get (l : List Nat) (i : Nat) (h : i < l.length) : (vI l)[i]? = some (.int .i64 ((l.getD i 0 : Nat) : Int)) := by simp [vI, h]
theorem vI_set (l : List Nat) (i : Nat) (x : Nat) : (vI l).set i (.int .i64 (x : Int)) = vI (l.set i x) := by simp [vI, List.map_set]

end Wd
end Go.Proofs.Ytabcglakdlkdcaa
