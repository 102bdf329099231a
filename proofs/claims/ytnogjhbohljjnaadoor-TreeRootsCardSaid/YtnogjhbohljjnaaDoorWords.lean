/-
  wordsOf: sixteen words out of sixty-four bytes.
-/
import Derived.Test.YtnogjhbohljjnaaDoorChecked
import Derived.Test.YtnogjhbohljjnaaDoorSha
import Derived.WalkKit
import Derived.WalkLawsBesides
import Derived.Test.YtnogjhbohljjnaaDoorTail
import Derived.Test.YtnogjhbohljjnaaDoorMem
import Derived.Deep.QuietTactic
import Derived.BigQuiet

namespace Go.Proofs.YtnogjhbohljjnaaDoor
open Go Go.RowKit
open Sha

theorem neg_and (n : Nat) (h1 : 1 ≤ n) (h2 : n ≤ 31) : bits .and .u64 (IntKind.u64.wrap (-(n : Int))) 31 = ((32 - n : Nat) : Int) := by
  have : n = 1 ∨ n = 2 ∨ n = 3 ∨ n = 4 ∨ n = 5 ∨ n = 6 ∨ n = 7 ∨ n = 8 ∨ n = 9 ∨ n = 10 ∨ n = 11 ∨ n = 12 ∨ n = 13 ∨ n = 14 ∨ n = 15 ∨ n = 16 ∨ n = 17 ∨ n = 18 ∨ n = 19 ∨ n = 20 ∨ n = 21 ∨ n = 22 ∨ n = 23 ∨ n = 24 ∨ n = 25 ∨ n = 26 ∨ n = 27 ∨ n = 28 ∨ n = 29 ∨ n = 30 ∨ n = 31 := by omega
  rcases this with rfl | rfl | rfl | rfl | rfl | rfl | rfl | rfl | rfl | rfl | rfl | rfl | rfl | rfl | rfl | rfl | rfl | rfl | rfl | rfl | rfl | rfl | rfl | rfl | rfl | rfl | rfl | rfl | rfl | rfl | rfl <;> decide +kernel

theorem rot_eq (x : BitVec 32) (n : Nat) (_h1 : 1 ≤ n) (h2 : n ≤ 31) : bits BinOp.or IntKind.u32 (u x * 2 ^ (32 - n) % 4294967296) (u x / 2 ^ (32 - (32 - n))) = u (rotr x n) := by
  rw [show 32 - (32 - n) = n by omega, u_shr, ← IntKind.wrap_u32', u_shl, bits_or]
  unfold rotr
  rw [BitVec.or_comm]

theorem ret_int {k : IntKind} {a b : Int} (h : a = b) : Ending.returned (.int k a) = .returned (.int k b) := by rw [h]

set_option maxHeartbeats 400000 in
theorem turn_any (x : BitVec 32) (n : Nat) (h1 : 1 ≤ n) (h2 : n ≤ 31) (w : World) :
    Calls Tryd.prog 94 #[.int .u32 (u x), .int .i64 (n : Int)] w fun e w' => e = .returned (.int .u32 (u (rotr x n))) ∧ w' = w := by
  have hna := neg_and n h1 h2
  go_enter Tryd.func94, Tryd.ntmps94
  go_wp2
  go_ret
  exact ⟨ret_int (rot_eq x n h1 h2), rfl⟩

theorem turn_lit (x : BitVec 32) (m : Int) (n : Nat) (hm : m = (n : Int)) (h1 : 1 ≤ n) (h2 : n ≤ 31) (w : World) :
    Calls Tryd.prog 94 #[.int .u32 (u x), .int .i64 m] w fun e w' => e = .returned (.int .u32 (u (rotr x n))) ∧ w' = w := by
  subst hm; exact turn_any x n h1 h2 w

end Go.Proofs.YtnogjhbohljjnaaDoor

namespace Go.Proofs.YtnogjhbohljjnaaDoor
open Go Go.RowKit
open Sha


theorem wd_eq (x y z v : BitVec 8) : bits BinOp.or IntKind.u32 (bits BinOp.or IntKind.u32 (bits BinOp.or IntKind.u32 (c x % 4294967296 * 16777216 % 4294967296) (c y % 4294967296 * 65536 % 4294967296))
    (c z % 4294967296 * 256 % 4294967296)) (c v % 4294967296) = u (wd x y z v) := by
  simp only [c_u, u_shl' _ 24 16777216 (by decide), u_shl' _ 16 65536 (by decide), u_shl' _ 8 256 (by decide), bits_or]
  rfl

theorem info_arr16 : (Tryd.prog.info? 120).map (·.size) = some 16 := by kernel_rfl

theorem words_fill (p : List (BitVec 8)) (k : Nat) (h : k < 16) : (words p k ++ List.replicate (16 - k) 0#32).set k (word p k) = words p (k + 1) ++ List.replicate (16 - (k + 1)) 0#32 := by
  rw [show 16 - k = (16 - (k + 1)) + 1 by omega, List.replicate_succ, words_succ]
  rw [List.set_append_right _ _ (by simp [words_length])]
  simp [words_length]

set_option maxHeartbeats 400000 in
theorem words_any (p : List (BitVec 8)) (hp : p.length = 64) (w : World) :
    Calls Tryd.prog 87 #[.agg (vB p).toArray] w fun e w' => e = .returned (.agg (vW (words p 16)).toArray) ∧ Below w.heap.size w w' := by
  go_enter Tryd.func87, Tryd.ntmps87
  go_wp2
  go_loopw [6] (fun i wr => ∃ k : Nat, k ≤ 16 ∧ i = .int .i64 k ∧ Below w.heap.size w wr ∧ wr.heap.size = w.heap.size + 3 ∧ Row wr w.heap.size (vB p) 116 ∧
      Row wr (w.heap.size + 1) (vW (List.replicate 16 0#32)) 120 ∧ Row wr (w.heap.size + 1 + 1) (vW (words p k ++ List.replicate (16 - k) 0#32)) 120)
    (fun i _ => 16 - (intOf i).toNat)
  case atStart =>
    refine ⟨0, by omega, rfl, ((((Below.refl _ _).alloc (Nat.le_refl _) _).alloc (by simp) _).alloc (by simp; omega) _), by simp, ((Row.new w (vB p) 116).alloc _).alloc _, ?_, ?_⟩
    · exact (Row.new' (by simp) rfl).alloc _
    · exact Row.new' (by simp) rfl
  case round =>
    obtain ⟨k, hk, rfl, hb, hz, h0, h1, h2⟩ := hrel
    by_cases hlt : k < 16
    · have g0 := h0.cell (4 * k) _ (vB_get p (4 * k) (by omega))
      have g1 := h0.cell (4 * k + 1) _ (vB_get p (4 * k + 1) (by omega))
      have g2 := h0.cell (4 * k + 2) _ (vB_get p (4 * k + 2) (by omega))
      have g3 := h0.cell (4 * k + 3) _ (vB_get p (4 * k + 3) (by omega))
      have g4 := h2.cell k _ (vW_get _ k (by simp [words_length]; omega))
      have g5 := h2.thaw k
      have hw : Hid (word p k = wd (p.getD (4 * k) 0) (p.getD (4 * k + 1) 0) (p.getD (4 * k + 2) 0) (p.getD (4 * k + 3) 0)) := rfl
      generalize (words p k ++ List.replicate (16 - k) 0#32).getD k 0 = x4 at g4
      generalize p.getD (4 * k) 0 = x0 at g0 hw
      generalize p.getD (4 * k + 1) 0 = x1 at g1 hw
      generalize p.getD (4 * k + 2) 0 = x2 at g2 hw
      generalize p.getD (4 * k + 3) 0 = x3 at g3 hw
      go_wp2
      refine wp_region_quiet_tail (C := fun w' => ∃ n, w' = wr.drewN n) 27 (by kernel_rfl) (by kernel_rfl) ⟨1, rfl⟩ ?_
      simp only [List.take_succ_cons, List.take_zero, List.drop_succ_cons, List.drop_zero]
      repeat (go_big_quiet_step (fail))
      refine wpQuiet_nil ?_
      intro w' hw'
      obtain ⟨nq, rfl⟩ := hw'
      go_wp2
      rw [wd_eq x0 x1 x2 x3, ← hw.out]
      refine ⟨⟨k + 1, by omega, by go_num, Below.setCell (below_drewN hb nq) (p := ⟨w.heap.size + 1 + 1, k, none⟩) (by simp; omega) _, by simpa [World.setCell] using hz, (h0.drewN nq).set_other _ _ _ (by omega), (h1.drewN nq).set_other _ _ _ (by omega), ?_⟩, by simp [intOf]; omega⟩
      have := (h2.drewN nq).set k (.int .u32 (u (word p k)))
      rwa [vW_set, words_fill p k hlt] at this
    · obtain rfl : k = 16 := by omega
      have e2 : Row wr (w.heap.size + 1 + 1) (vW (words p 16)) 120 := by simpa using h2
      have r2 := e2.all
      have t1 := h1.there 0 (vW (words p 16)).toArray.size (by simp [vW_length, words_length])
      have hi : (Tryd.prog.info? 120).map (·.size) = some (vW (words p 16)).length := by rw [info_arr16, vW_length, words_length]
      have hi' : (Tryd.prog.info? 120).map (·.size) = some (vW (words p 16)).toArray.size := by rw [info_arr16]; simp [vW_length, words_length]
      have ho := all_oneCell_toArray (vW_one (words p 16))
      have fin := (h1.over (vs := vW (words p 16)) (by simp [vW_length, words_length]))
      have hbf := below_setCells hb (b := w.heap.size + 1) (o := 0) (by omega) (vW (words p 16))
      go_wp2_with (first
        | (refine wpList_load_mid rfl 120 (.tmp 3) rfl (w.heap.size + 1 + 1) 0 rfl (vW (words p 16)) _ r2 Tryd.underlying120 rfl hi ?_)
        | (refine wpList_store_mid rfl 120 (.tmp 2) (.tmp 39) rfl (w.heap.size + 1) 0 (vW (words p 16)).toArray rfl rfl t1 hi' ho ?_))
      exact bodyPost_ret (results_row Tryd.results87 _ _ (w.heap.size + 1) 120 _ rfl fin Tryd.underlying120 info_arr16 (by simp [vW_length, words_length])) rfl ⟨rfl, hbf⟩

end Go.Proofs.YtnogjhbohljjnaaDoor
