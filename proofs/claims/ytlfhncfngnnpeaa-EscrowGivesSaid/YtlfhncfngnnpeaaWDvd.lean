/-
  wide.divide.
-/
import Derived.Test.YtlfhncfngnnpeaaWTake
import Derived.Test.YtlfhncfngnnpeaaWDbl
import Derived.Test.YtlfhncfngnnpeaaWBits
import Derived.Test.YtlfhncfngnnpeaaWInv
import Derived.Deep.RegionLaw
import Derived.Deep.LoopGhost
import Derived.WalkMore
import Derived.BigQuiet
namespace Go.Proofs.Ytlfhncfngnnpeaa
open Go Go.RowKit
open Wd

theorem drewN_add (w : World) (m k : Nat) : (w.drewN m).drewN k = w.drewN (m + k) := by simp [World.drewN, Nat.add_assoc]
theorem eight (n : Nat) : dgs n 8 = [lim n 0, lim n 1, lim n 2, lim n 3, lim n 4, lim n 5, lim n 6, lim n 7] := rfl

end Go.Proofs.Ytlfhncfngnnpeaa
