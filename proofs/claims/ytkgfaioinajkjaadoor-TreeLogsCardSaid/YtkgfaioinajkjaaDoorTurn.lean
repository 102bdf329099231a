/-
  The contracts of turn and bits.RotateLeft32: nothing in memory turns.
-/
import Derived.Test.YtkgfaioinajkjaaDoorChecked
import Derived.Test.YtkgfaioinajkjaaDoorSha
import Derived.WalkKit
import Derived.WalkLawsBesides
namespace Go.Proofs.YtkgfaioinajkjaaDoor
open Go Go.RowKit
open Sha

theorem neg_and (n : Nat) (h1 : 1 ≤ n) (h2 : n ≤ 31) : bits .and .u64 (IntKind.u64.wrap (-(n : Int))) 31 = ((32 - n : Nat) : Int) := by
  have : n = 1 ∨ n = 2 ∨ n = 3 ∨ n = 4 ∨ n = 5 ∨ n = 6 ∨ n = 7 ∨ n = 8 ∨ n = 9 ∨ n = 10 ∨ n = 11 ∨ n = 12 ∨ n = 13 ∨ n = 14 ∨ n = 15 ∨ n = 16 ∨ n = 17 ∨ n = 18 ∨ n = 19 ∨ n = 20 ∨ n = 21 ∨ n = 22 ∨ n = 23 ∨ n = 24 ∨ n = 25 ∨ n = 26 ∨ n = 27 ∨ n = 28 ∨ n = 29 ∨ n = 30 ∨ n = 31 := by omega
  rcases this with rfl | rfl | rfl | rfl | rfl | rfl | rfl | rfl | rfl | rfl | rfl | rfl | rfl | rfl | rfl | rfl | rfl | rfl | rfl | rfl | rfl | rfl | rfl | rfl | rfl | rfl | rfl | rfl | rfl | rfl | rfl <;> decide +kernel

theorem rot_eq (x : BitVec 32) (n : Nat) (_h1 : 1 ≤ n) (h2 : n ≤ 31) : bits BinOp.or IntKind.u32 (u x * 2 ^ (32 - n) % 4294967296) (u x / 2 ^ (32 - (32 - n))) = u (rotr x n) := by
  rw [show 32 - (32 - n) = n by omega, u_shr, ← IntKind.wrap_u32', u_shl, bits_or]
  unfold rotr
  rw [BitVec.or_comm]

theorem ret_int {k : IntKind} {a b : Int} (h : a = b) : Ending.returned (.int k a) = .returned (.int k b) := by rw [h]

set_option maxHeartbeats 400000 in
theorem turn_any (x : BitVec 32) (n : Nat) (h1 : 1 ≤ n) (h2 : n ≤ 31) (w : World) :
    Calls Tryd.prog 64 #[.int .u32 (u x), .int .i64 (n : Int)] w fun e w' => e = .returned (.int .u32 (u (rotr x n))) ∧ w' = w := by
  have hna := neg_and n h1 h2
  go_enter Tryd.func64, Tryd.ntmps64
  go_wp2
  go_ret
  exact ⟨ret_int (rot_eq x n h1 h2), rfl⟩

theorem turn_lit (x : BitVec 32) (m : Int) (n : Nat) (hm : m = (n : Int)) (h1 : 1 ≤ n) (h2 : n ≤ 31) (w : World) :
    Calls Tryd.prog 64 #[.int .u32 (u x), .int .i64 m] w fun e w' => e = .returned (.int .u32 (u (rotr x n))) ∧ w' = w := by
  subst hm; exact turn_any x n h1 h2 w

end Go.Proofs.YtkgfaioinajkjaaDoor
