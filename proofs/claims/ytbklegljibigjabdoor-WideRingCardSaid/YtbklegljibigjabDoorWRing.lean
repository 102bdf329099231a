/-
  causewaylaw02.WideRing.
-/
import Derived.Test.YtbklegljibigjabDoorWRingA
import Derived.Test.YtbklegljibigjabDoorWRingB
import Derived.Test.YtbklegljibigjabDoorWRingC
namespace Go.Proofs.YtbklegljibigjabDoor
open Go Go.RowKit
open Wd

theorem ring_walk (a b c : Nat) (ha : a < 2 ^ 256) (hb : b < 2 ^ 256) (hc : c < 2 ^ 256) (w : World) (hp : P10 w) :
    Calls Tryd.prog 5 #[.agg (vQ (dgs a 4)).toArray, .agg (vQ (dgs b 4)).toArray, .agg (vQ (dgs c 4)).toArray] w fun e w' => e = .returned (.bool true) ∧ Below w.heap.size w w' := by
  rcases Nat.lt_trichotomy a b with h | h | h
  · exact ring_lt a b c ha hb hc h w hp
  · exact ring_eq a b c ha hb hc h w hp
  · exact ring_gt a b c ha hb hc h w hp

end Go.Proofs.YtbklegljibigjabDoor
