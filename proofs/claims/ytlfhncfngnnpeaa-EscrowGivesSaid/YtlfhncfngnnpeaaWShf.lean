/-
  wide.shiftUp.
-/
import Derived.Test.YtlfhncfngnnpeaaWEq
import Derived.Test.YtlfhncfngnnpeaaWDivU
import Derived.Test.YtlfhncfngnnpeaaWDvM
namespace Go.Proofs.Ytlfhncfngnnpeaa
open Go Go.RowKit
open Wd

theorem run_index_vQ {P : Program} (t e : TypeId) (n : Nat) (ht : P.underlying t = some (.array n e)) (he : P.underlying e = some (.int .u64)) (hsz : ∀ w, (sizeOf e).run P w = .ok 1 w) (xs : List Nat) (hx : xs.length = n) (i : Nat) (hi : i < n) (w : World) :
    (Instr.index t (.agg (vQ xs).toArray) (.int .i64 (i : Int))).run P w = .ok (.int .u64 ((xs.getD i 0 : Nat) : Int)) w := by
  have h1 : (0 : Int) ≤ (i : Int) ∧ (i : Int) < (n : Int) := by omega
  have hp : (part e (vQ xs).toArray i).run P w = .ok (.int .u64 ((xs.getD i 0 : Nat) : Int)) w := by
    simp [part, isAgg, run_underlying he, vQ, List.getElem?_eq_getElem (show i < xs.length by omega)]
  simp [Instr.index, run_underlying ht, asIntOf, hsz, hp, hi]

/-! ### shiftDown -/
theorem dnpart (R s t : Nat) (hs : s ≤ 63) (ht : t < 4) : (dgs (R / 2 ^ s) t ++ List.replicate (4 - t) 0).set t (lim R t / 2 ^ s ||| (lim R (t + 1) * 2 ^ (64 - s) % 18446744073709551616)) = dgs (R / 2 ^ s) (t + 1) ++ List.replicate (4 - (t + 1)) 0 := by
  rw [down_part R s t hs, fill _ t 4 _ (dgs_length _ _) ht, ← dgs_succ]

end Go.Proofs.Ytlfhncfngnnpeaa
