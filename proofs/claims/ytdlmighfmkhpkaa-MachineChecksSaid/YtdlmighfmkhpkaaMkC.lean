/-
  operands.
-/
import Derived.Test.YtdlmighfmkhpkaaMkB
import Derived.BigQuiet
namespace Go.Proofs.Ytdlmighfmkhpkaa
open Go Go.RowKit
open Sha
open Wd

/-- An instruction's cells. -/
def ic (c p a n : Nat) : List Value := .int .i64 (c : Int) :: .int .i64 (p : Int) :: (wq a ++ [.int .i64 (n : Int)])
theorem ic_len (c p a n : Nat) : (ic c p a n).length = 7 := by unfold ic; rw [List.length_cons, List.length_cons, List.length_append, wq_len]; rfl
theorem ic_one (c p a n : Nat) : (ic c p a n).toArray.all (·.oneCell') = true := by
  rw [← Array.all_toList]
  unfold ic
  have := wq_one a
  rw [← Array.all_toList] at this
  rw [List.all_cons, List.all_cons, List.all_append, this]
  rfl
theorem info_I : (Try.prog.info? 64).map (·.size) = some 7 := by kernel_rfl
theorem info_Ic (c p a n : Nat) : (Try.prog.info? 64).map (·.size) = some (ic c p a n).length := by rw [ic_len]; exact info_I
theorem ic_0 (c p a n : Nat) : (ic c p a n)[0]? = some (.int .i64 (c : Int)) := rfl
theorem ic_1 (c p a n : Nat) : (ic c p a n)[1]? = some (.int .i64 (p : Int)) := rfl
theorem ic_6 (c p a n : Nat) : (ic c p a n)[6]? = some (.int .i64 (n : Int)) := by
  unfold ic
  rw [wq_cells]
  rfl
theorem ic_set1 (c p a n m : Nat) : (ic c p a n).set 1 (.int .i64 (m : Int)) = ic c m a n := rfl
theorem ic_set6 (c p a n m : Nat) : (ic c p a n).set 6 (.int .i64 (m : Int)) = ic c p a m := by
  unfold ic
  rw [wq_cells]
  rfl
theorem ic_num (c p a n m : Nat) : (ic c p a n).take 2 ++ wq m ++ (ic c p a n).drop (2 + (wq m).length) = ic c p m n := by
  rw [wq_len]
  unfold ic
  rw [wq_cells, wq_cells]
  rfl
theorem zI_ic : zI = ic 0 0 0 0 := by unfold ic; rw [wq_zero]; rfl
/-- The kind of a code's operand. -/
def oper (c : Nat) : Nat := [0, 0, 1, 0, 2, 3, 0, 0, 0, 0, 0, 0, 0, 0, 5, 5, 4, 0, 0, 0, 0, 0, 0, 0, 0, 0, 0, 0].getD c 0
theorem oper_le (c : Nat) (h : c < 28) : oper c ≤ 5 := by
  revert c
  decide
def lo (k : Nat) : Nat := if k = 1 ∨ k = 3 then 1 else 0
def hi (k : Nat) : Nat := if k = 1 then 32 else if k = 2 ∨ k = 3 then 15 else 255
theorem mtab_oper (c : Nat) (h : c < 28) : mtab[c * 6 + 1]? = some (.int .i64 (oper c : Int)) := by
  match c, h with
  | 0, _ => exact rfl
  | 1, _ => exact rfl
  | 2, _ => exact rfl
  | 3, _ => exact rfl
  | 4, _ => exact rfl
  | 5, _ => exact rfl
  | 6, _ => exact rfl
  | 7, _ => exact rfl
  | 8, _ => exact rfl
  | 9, _ => exact rfl
  | 10, _ => exact rfl
  | 11, _ => exact rfl
  | 12, _ => exact rfl
  | 13, _ => exact rfl
  | 14, _ => exact rfl
  | 15, _ => exact rfl
  | 16, _ => exact rfl
  | 17, _ => exact rfl
  | 18, _ => exact rfl
  | 19, _ => exact rfl
  | 20, _ => exact rfl
  | 21, _ => exact rfl
  | 22, _ => exact rfl
  | 23, _ => exact rfl
  | 24, _ => exact rfl
  | 25, _ => exact rfl
  | 26, _ => exact rfl
  | 27, _ => exact rfl
  | n + 28, h => exact absurd h (by omega)

/-- How many bytes an operand wants. -/
def ow (k : Nat) (r : List (BitVec 8)) : Nat := if k = 0 then 0 else if k = 5 then 2 else if k = 1 then (match r with | [] => 1 | x :: _ => 1 + x.toNat) else 1
theorem bounds_any (k : Nat) (hk : k ≤ 5) (w : World) : Calls Try.prog 72 #[.int .i64 (k : Int)] w fun e w' => e = .returned (.tuple #[.int .i64 (lo k : Int), .int .i64 (hi k : Int)]) ∧ w' = w := by
  match k, hk with
  | 0, _ =>
    go_enter Try.func72, Try.ntmps72
    go_wp2
    go_ret2
    exact ⟨rfl, rfl⟩
  | 1, _ =>
    go_enter Try.func72, Try.ntmps72
    go_wp2
    go_ret2
    exact ⟨rfl, rfl⟩
  | 2, _ =>
    go_enter Try.func72, Try.ntmps72
    go_wp2
    go_ret2
    exact ⟨rfl, rfl⟩
  | 3, _ =>
    go_enter Try.func72, Try.ntmps72
    go_wp2
    go_ret2
    exact ⟨rfl, rfl⟩
  | 4, _ =>
    go_enter Try.func72, Try.ntmps72
    go_wp2
    go_ret2
    exact ⟨rfl, rfl⟩
  | 5, _ =>
    go_enter Try.func72, Try.ntmps72
    go_wp2
    go_ret2
    exact ⟨rfl, rfl⟩

theorem ow_0 (A : Option Addr) (n cap : Nat) (w : World) : Calls Try.prog 51 #[.int .i64 0, .slice A n cap] w fun e w' => e = .returned (.int .i64 0) ∧ w' = w := by
  go_enter Try.func51, Try.ntmps51
  go_wp2
  go_ret
  exact ⟨rfl, rfl⟩
theorem ow_5 (A : Option Addr) (n cap : Nat) (w : World) : Calls Try.prog 51 #[.int .i64 5, .slice A n cap] w fun e w' => e = .returned (.int .i64 2) ∧ w' = w := by
  go_enter Try.func51, Try.ntmps51
  go_wp2
  go_ret
  exact ⟨rfl, rfl⟩
theorem ow_2 (A : Option Addr) (n cap : Nat) (w : World) : Calls Try.prog 51 #[.int .i64 2, .slice A n cap] w fun e w' => e = .returned (.int .i64 1) ∧ w' = w := by
  go_enter Try.func51, Try.ntmps51
  go_wp2
  go_ret
  exact ⟨rfl, rfl⟩
theorem ow_3 (A : Option Addr) (n cap : Nat) (w : World) : Calls Try.prog 51 #[.int .i64 3, .slice A n cap] w fun e w' => e = .returned (.int .i64 1) ∧ w' = w := by
  go_enter Try.func51, Try.ntmps51
  go_wp2
  go_ret
  exact ⟨rfl, rfl⟩
theorem ow_4 (A : Option Addr) (n cap : Nat) (w : World) : Calls Try.prog 51 #[.int .i64 4, .slice A n cap] w fun e w' => e = .returned (.int .i64 1) ∧ w' = w := by
  go_enter Try.func51, Try.ntmps51
  go_wp2
  go_ret
  exact ⟨rfl, rfl⟩
theorem ow_1e (A : Option Addr) (cap : Nat) (w : World) : Calls Try.prog 51 #[.int .i64 1, .slice A 0 cap] w fun e w' => e = .returned (.int .i64 1) ∧ w' = w := by
  go_enter Try.func51, Try.ntmps51
  go_wp2
  go_ret
  exact ⟨rfl, rfl⟩
theorem ow_1 (g o n cap : Nat) (h : 0 < n) (x : BitVec 8) (w : World) (c0 : w.cell? ⟨g, o, none⟩ = some (.int .u8 (c x))) : Calls Try.prog 51 #[.int .i64 1, .slice (some ⟨g, o, none⟩) n cap] w fun e w' => e = .returned (.int .i64 ((1 + x.toNat : Nat) : Int)) ∧ w' = w := by
  have hx : c x = (x.toNat : Int) := rfl
  have hlt := x.isLt
  go_enter Try.func51, Try.ntmps51
  go_wp2
  go_ret
  exact ⟨by rw [Int.natCast_add]; rfl, rfl⟩
theorem operandWidth_any (k : Nat) (hk : k ≤ 5) (A : Option Addr) (n cap : Nat) (r : List (BitVec 8)) (hr : r.length = n) (w : World) (hv : SlAt w (.slice A n cap) r) : Calls Try.prog 51 #[.int .i64 (k : Int), .slice A n cap] w fun e w' => e = .returned (.int .i64 (ow k r : Int)) ∧ w' = w := by
  match k, hk with
  | 0, _ => exact ow_0 A n cap w
  | 2, _ => exact ow_2 A n cap w
  | 3, _ => exact ow_3 A n cap w
  | 4, _ => exact ow_4 A n cap w
  | 5, _ => exact ow_5 A n cap w
  | 1, _ =>
    cases r with
    | nil =>
      subst hr
      exact ow_1e A cap w
    | cons x r =>
      rcases hv with ⟨h0, _⟩ | ⟨g, o, c', e, _, hr'⟩
      · cases h0
      · simp only [Value.slice.injEq] at e
        obtain ⟨rfl, _, _⟩ := e
        exact ow_1 g o n cap (by rw [← hr]; exact Nat.succ_pos _) x w (hr' 0 _ rfl)

end Go.Proofs.Ytdlmighfmkhpkaa
