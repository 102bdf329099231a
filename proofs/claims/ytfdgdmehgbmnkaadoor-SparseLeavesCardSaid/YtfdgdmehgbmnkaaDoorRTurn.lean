/-
  The document's turned and word.
-/
import Derived.Test.YtfdgdmehgbmnkaaDoorParts
namespace Go.Proofs.YtfdgdmehgbmnkaaDoor
open Go Go.RowKit
open Sha

theorem rturn_eq (x : BitVec 32) (n : Nat) : bits BinOp.or IntKind.u32 (u x / 2 ^ n) (u x * 2 ^ (32 - n) % 4294967296) = u (rotr x n) := by
  rw [u_shr, ← IntKind.wrap_u32', u_shl, bits_or]; rfl

set_option maxHeartbeats 400000 in
theorem turned_any (x : BitVec 32) (n : Nat) (h1 : 1 ≤ n) (h2 : n ≤ 31) (w : World) :
    Calls Tryd.prog 99 #[.int .u32 (u x), .int .u32 (n : Int)] w fun e w' => e = .returned (.int .u32 (u (rotr x n))) ∧ w' = w := by
  go_enter Tryd.func99, Tryd.ntmps99
  go_wp2
  go_ret
  exact ⟨ret_int (rturn_eq x n), rfl⟩

theorem turned_lit (x : BitVec 32) (m : Int) (n : Nat) (hm : m = (n : Int)) (h1 : 1 ≤ n) (h2 : n ≤ 31) (w : World) :
    Calls Tryd.prog 99 #[.int .u32 (u x), .int .u32 m] w fun e w' => e = .returned (.int .u32 (u (rotr x n))) ∧ w' = w := by
  subst hm; exact turned_any x n h1 h2 w

set_option maxHeartbeats 400000 in
theorem word_any (b : List (BitVec 8)) (g n cap k : Nat) (hn : b.length = n) (hk : k + 4 ≤ n) (hlen : n < 1152921504606846976) (w : World) (hr : w.rangeAt g 0 (vB b)) :
    Calls Tryd.prog 98 #[.slice (some ⟨g, 0, none⟩) n cap, .int .i64 (k : Int)] w fun e w' => e = .returned (.int .u32 (u (wd (b.getD k 0) (b.getD (k + 1) 0) (b.getD (k + 2) 0) (b.getD (k + 3) 0)))) ∧ ∃ m, w' = w.drewN m := by
  have g0 := hr k _ (vB_get b k (by omega))
  have g1 := hr (k + 1) _ (vB_get b (k + 1) (by omega))
  have g2 := hr (k + 2) _ (vB_get b (k + 2) (by omega))
  have g3 := hr (k + 3) _ (vB_get b (k + 3) (by omega))
  rw [Nat.zero_add] at g0 g1 g2 g3
  generalize b.getD k 0 = x0 at g0 ⊢
  generalize b.getD (k + 1) 0 = x1 at g1 ⊢
  generalize b.getD (k + 2) 0 = x2 at g2 ⊢
  generalize b.getD (k + 3) 0 = x3 at g3 ⊢
  go_enter Tryd.func98, Tryd.ntmps98
  go_wp2
  go_quiet (fail)
  go_wp2
  go_ret
  exact ⟨ret_int (wd_eq x0 x1 x2 x3), ⟨_, rfl⟩⟩

end Go.Proofs.YtfdgdmehgbmnkaaDoor
