/-
  spread: the schedule of sixty-four words.
-/
import Derived.Test.YtfdgdmehgbmnkaaDoorChecked
import Derived.Test.YtfdgdmehgbmnkaaDoorSha
import Derived.WalkKit
import Derived.WalkLawsBesides
import Derived.Test.YtfdgdmehgbmnkaaDoorTail
import Derived.Test.YtfdgdmehgbmnkaaDoorMem
import Derived.Deep.QuietTactic
import Derived.BigQuiet
import Derived.Deep.RegionWith

namespace Go.Proofs.YtfdgdmehgbmnkaaDoor
open Go Go.RowKit
open Sha

theorem neg_and (n : Nat) (h1 : 1 ≤ n) (h2 : n ≤ 31) : bits .and .u64 (IntKind.u64.wrap (-(n : Int))) 31 = ((32 - n : Nat) : Int) := by
  have : n = 1 ∨ n = 2 ∨ n = 3 ∨ n = 4 ∨ n = 5 ∨ n = 6 ∨ n = 7 ∨ n = 8 ∨ n = 9 ∨ n = 10 ∨ n = 11 ∨ n = 12 ∨ n = 13 ∨ n = 14 ∨ n = 15 ∨ n = 16 ∨ n = 17 ∨ n = 18 ∨ n = 19 ∨ n = 20 ∨ n = 21 ∨ n = 22 ∨ n = 23 ∨ n = 24 ∨ n = 25 ∨ n = 26 ∨ n = 27 ∨ n = 28 ∨ n = 29 ∨ n = 30 ∨ n = 31 := by omega
  rcases this with rfl | rfl | rfl | rfl | rfl | rfl | rfl | rfl | rfl | rfl | rfl | rfl | rfl | rfl | rfl | rfl | rfl | rfl | rfl | rfl | rfl | rfl | rfl | rfl | rfl | rfl | rfl | rfl | rfl | rfl | rfl <;> decide +kernel

theorem rot_eq (x : BitVec 32) (n : Nat) (_h1 : 1 ≤ n) (h2 : n ≤ 31) : bits BinOp.or IntKind.u32 (u x * 2 ^ (32 - n) % 4294967296) (u x / 2 ^ (32 - (32 - n))) = u (rotr x n) := by
  rw [show 32 - (32 - n) = n by omega, u_shr, ← IntKind.wrap_u32', u_shl, bits_or]
  unfold rotr
  rw [BitVec.or_comm]

theorem ret_int {k : IntKind} {a b : Int} (h : a = b) : Ending.returned (.int k a) = .returned (.int k b) := by rw [h]

set_option maxHeartbeats 400000 in
theorem turn_any (x : BitVec 32) (n : Nat) (h1 : 1 ≤ n) (h2 : n ≤ 31) (w : World) :
    Calls Tryd.prog 101 #[.int .u32 (u x), .int .i64 (n : Int)] w fun e w' => e = .returned (.int .u32 (u (rotr x n))) ∧ w' = w := by
  have hna := neg_and n h1 h2
  go_enter Tryd.func101, Tryd.ntmps101
  go_wp2
  go_ret
  exact ⟨ret_int (rot_eq x n h1 h2), rfl⟩

theorem turn_lit (x : BitVec 32) (m : Int) (n : Nat) (hm : m = (n : Int)) (h1 : 1 ≤ n) (h2 : n ≤ 31) (w : World) :
    Calls Tryd.prog 101 #[.int .u32 (u x), .int .i64 m] w fun e w' => e = .returned (.int .u32 (u (rotr x n))) ∧ w' = w := by
  subst hm; exact turn_any x n h1 h2 w

end Go.Proofs.YtfdgdmehgbmnkaaDoor

namespace Go.Proofs.YtfdgdmehgbmnkaaDoor
open Go Go.RowKit
open Sha


theorem wd_eq (x y z v : BitVec 8) : bits BinOp.or IntKind.u32 (bits BinOp.or IntKind.u32 (bits BinOp.or IntKind.u32 (c x % 4294967296 * 16777216 % 4294967296) (c y % 4294967296 * 65536 % 4294967296))
    (c z % 4294967296 * 256 % 4294967296)) (c v % 4294967296) = u (wd x y z v) := by
  simp only [c_u, u_shl' _ 24 16777216 (by decide), u_shl' _ 16 65536 (by decide), u_shl' _ 8 256 (by decide), bits_or]
  rfl

theorem info_arr16 : (Tryd.prog.info? 155).map (·.size) = some 16 := by kernel_rfl

theorem words_fill (p : List (BitVec 8)) (k : Nat) (h : k < 16) : (words p k ++ List.replicate (16 - k) 0#32).set k (word p k) = words p (k + 1) ++ List.replicate (16 - (k + 1)) 0#32 := by
  rw [show 16 - k = (16 - (k + 1)) + 1 by omega, List.replicate_succ, words_succ]
  rw [List.set_append_right _ _ (by simp [words_length])]
  simp [words_length]

set_option maxHeartbeats 400000 in
theorem words_any (p : List (BitVec 8)) (hp : p.length = 64) (w : World) :
    Calls Tryd.prog 96 #[.agg (vB p).toArray] w fun e w' => e = .returned (.agg (vW (words p 16)).toArray) ∧ Below w.heap.size w w' := by
  go_enter Tryd.func96, Tryd.ntmps96
  go_wp2
  go_loopw [6] (fun i wr => ∃ k : Nat, k ≤ 16 ∧ i = .int .i64 k ∧ Below w.heap.size w wr ∧ wr.heap.size = w.heap.size + 3 ∧ Row wr w.heap.size (vB p) 151 ∧
      Row wr (w.heap.size + 1) (vW (List.replicate 16 0#32)) 155 ∧ Row wr (w.heap.size + 1 + 1) (vW (words p k ++ List.replicate (16 - k) 0#32)) 155)
    (fun i _ => 16 - (intOf i).toNat)
  case atStart =>
    refine ⟨0, by omega, rfl, ((((Below.refl _ _).alloc (Nat.le_refl _) _).alloc (by simp) _).alloc (by simp; omega) _), by simp, ((Row.new w (vB p) 151).alloc _).alloc _, ?_, ?_⟩
    · exact (Row.new' (by simp) rfl).alloc _
    · exact Row.new' (by simp) rfl
  case round =>
    obtain ⟨k, hk, rfl, hb, hz, h0, h1, h2⟩ := hrel
    by_cases hlt : k < 16
    · have g0 := h0.cell (4 * k) _ (vB_get p (4 * k) (by omega))
      have g1 := h0.cell (4 * k + 1) _ (vB_get p (4 * k + 1) (by omega))
      have g2 := h0.cell (4 * k + 2) _ (vB_get p (4 * k + 2) (by omega))
      have g3 := h0.cell (4 * k + 3) _ (vB_get p (4 * k + 3) (by omega))
      have g4 := h2.cell k _ (vW_get _ k (by simp [words_length]; omega))
      have g5 := h2.thaw k
      have hw : Hid (word p k = wd (p.getD (4 * k) 0) (p.getD (4 * k + 1) 0) (p.getD (4 * k + 2) 0) (p.getD (4 * k + 3) 0)) := rfl
      generalize (words p k ++ List.replicate (16 - k) 0#32).getD k 0 = x4 at g4
      generalize p.getD (4 * k) 0 = x0 at g0 hw
      generalize p.getD (4 * k + 1) 0 = x1 at g1 hw
      generalize p.getD (4 * k + 2) 0 = x2 at g2 hw
      generalize p.getD (4 * k + 3) 0 = x3 at g3 hw
      go_wp2
      refine wp_region_quiet_tail (C := fun w' => ∃ n, w' = wr.drewN n) 27 (by kernel_rfl) (by kernel_rfl) ⟨1, rfl⟩ ?_
      simp only [List.take_succ_cons, List.take_zero, List.drop_succ_cons, List.drop_zero]
      repeat (go_big_quiet_step (fail))
      refine wpQuiet_nil ?_
      intro w' hw'
      obtain ⟨nq, rfl⟩ := hw'
      go_wp2
      rw [wd_eq x0 x1 x2 x3, ← hw.out]
      refine ⟨⟨k + 1, by omega, by go_num, Below.setCell (below_drewN hb nq) (p := ⟨w.heap.size + 1 + 1, k, none⟩) (by simp; omega) _, by simpa [World.setCell] using hz, (h0.drewN nq).set_other _ _ _ (by omega), (h1.drewN nq).set_other _ _ _ (by omega), ?_⟩, by simp [intOf]; omega⟩
      have := (h2.drewN nq).set k (.int .u32 (u (word p k)))
      rwa [vW_set, words_fill p k hlt] at this
    · obtain rfl : k = 16 := by omega
      have e2 : Row wr (w.heap.size + 1 + 1) (vW (words p 16)) 155 := by simpa using h2
      have r2 := e2.all
      have t1 := h1.there 0 (vW (words p 16)).toArray.size (by simp [vW_length, words_length])
      have hi : (Tryd.prog.info? 155).map (·.size) = some (vW (words p 16)).length := by rw [info_arr16, vW_length, words_length]
      have hi' : (Tryd.prog.info? 155).map (·.size) = some (vW (words p 16)).toArray.size := by rw [info_arr16]; simp [vW_length, words_length]
      have ho := all_oneCell_toArray (vW_one (words p 16))
      have fin := (h1.over (vs := vW (words p 16)) (by simp [vW_length, words_length]))
      have hbf := below_setCells hb (b := w.heap.size + 1) (o := 0) (by omega) (vW (words p 16))
      go_wp2_with (first
        | (refine wpList_load_mid rfl 155 (.tmp 3) rfl (w.heap.size + 1 + 1) 0 rfl (vW (words p 16)) _ r2 Tryd.underlying155 rfl hi ?_)
        | (refine wpList_store_mid rfl 155 (.tmp 2) (.tmp 39) rfl (w.heap.size + 1) 0 (vW (words p 16)).toArray rfl rfl t1 hi' ho ?_))
      exact bodyPost_ret (results_row Tryd.results96 _ _ (w.heap.size + 1) 155 _ rfl fin Tryd.underlying155 info_arr16 (by simp [vW_length, words_length])) rfl ⟨rfl, hbf⟩

end Go.Proofs.YtfdgdmehgbmnkaaDoor

namespace Go.Proofs.YtfdgdmehgbmnkaaDoor
open Go Go.RowKit
open Sha

theorem info_arr64 : (Tryd.prog.info? 159).map (·.size) = some 64 := by kernel_rfl
theorem info_u32 : (Tryd.prog.info? 141).map (·.size) = some 1 := by kernel_rfl

theorem sch_fill (p : List (BitVec 32)) (hp : p.length = 16) (k : Nat) (h : k < 48) : (sch p k ++ List.replicate (48 - k) 0#32).set (16 + k) (nextw (sch p k) (16 + k)) = sch p (k + 1) ++ List.replicate (48 - (k + 1)) 0#32 := by
  rw [show 48 - k = (48 - (k + 1)) + 1 by omega, List.replicate_succ, List.set_append_right _ _ (by rw [sch_length]; omega), sch_length, hp]
  simp [sch]
theorem nextw_front (l r : List (BitVec 32)) (t : Nat) (h : l.length = t) (h16 : 16 ≤ t) : nextw (l ++ r) t = nextw l t := by
  unfold nextw
  simp only [List.getD_eq_getElem?_getD]
  rw [List.getElem?_append_left (by omega), List.getElem?_append_left (by omega), List.getElem?_append_left (by omega), List.getElem?_append_left (by omega)]

set_option maxHeartbeats 400000 in
theorem spread_any (p : List (BitVec 32)) (hp : p.length = 16) (w : World) :
    Calls Tryd.prog 100 #[.agg (vW p).toArray] w fun e w' => e = .returned (.agg (vW (sch p 48)).toArray) ∧ Below w.heap.size w w' := by
  obtain ⟨q, hq⟩ : ∃ q, q = sch p 48 := ⟨_, rfl⟩
  rw [← hq]
  have HQ : Hid (q = sch p 48) := hq
  clear hq
  go_enter Tryd.func100, Tryd.ntmps100
  go_wp2
  refine wp_region_quiet_tail (C := fun w' => ∃ n, w' = World.drewN _ n) 2 (by kernel_rfl) (by kernel_rfl) ⟨1, rfl⟩ ?_
  simp only [List.take_succ_cons, List.take_zero, List.drop_succ_cons, List.drop_zero]
  repeat (go_big_quiet_step (fail))
  refine wpQuiet_nil ?_
  intro w' hw'
  obtain ⟨nq, rfl⟩ := hw'
  refine wpList_copy 141 (w.heap.size + 1 + 1) 0 64 64 ⟨w.heap.size, 0, none⟩ 16 16 (vW p) rfl rfl Tryd.underlying165 info_u32 (by rw [vW_length, hp]; rfl) ?_ ?_ (vW_one p) ?_
  · intro j v hv
    rw [Addr.add_mid, Nat.zero_add]
    exact Row.cell (cs := vW p) (t := 155) (Row.drewN (Row.alloc (Row.alloc (Row.new w (vW p) 155) _) _) nq) j v hv
  · exact Row.there (cs := vW (List.replicate 64 0#32)) (t := 159) (Row.drewN (Row.new' (by simp) rfl) nq) 0 _ (by simp [vW_length, hp])
  go_wp2
  go_loopw [4] (fun i wr => ∃ k : Nat, k ≤ 48 ∧ i = .int .i64 (16 + k) ∧ Below w.heap.size w wr ∧ wr.heap.size = w.heap.size + 3 ∧
      Row wr (w.heap.size + 1) (vW (List.replicate 64 0#32)) 159 ∧ Row wr (w.heap.size + 1 + 1) (vW (sch p k ++ List.replicate (48 - k) 0#32)) 159)
    (fun i _ => 64 - (intOf i).toNat)
  case atStart =>
    refine ⟨0, by omega, rfl, ?_, ?_, ?_, ?_⟩
    · exact below_setCells (below_drewN ((((Below.refl _ _).alloc (Nat.le_refl _) _).alloc (by simp) _).alloc (by simp; omega) _) nq) (by omega) _
    · rw [size_setCells]; simp
    · exact Row.setCells_other (Row.drewN (Row.alloc (Row.new' (by simp) rfl) _) nq) _ _ _ (by omega)
    · have := Row.setCells (b := w.heap.size + 1 + 1) (t := 159) 0 (vW p) (Row.drewN (Row.new' (b := w.heap.size + 1 + 1) (w := (w.alloc (Obj.cells (vW p).toArray 155)).alloc (Obj.cells (vW (List.replicate 64 0#32)).toArray 159)) (o := (vW (List.replicate 64 0#32)).toArray) (t := 159) (cs := vW (List.replicate 64 0#32)) (by simp) rfl) nq) (by simp [vW_length, hp])
      have e : (vW (List.replicate 64 0#32)).take 0 ++ vW p ++ (vW (List.replicate 64 0#32)).drop (0 + (vW p).length) = vW (sch p 0 ++ List.replicate (48 - 0) 0#32) := by
        simp [vW, sch, hp]
      rw [e] at this
      exact this
  case round =>
    obtain ⟨k, hk, rfl, hb, hz, h1, h2⟩ := hrel
    by_cases hlt : k < 48
    · have hd := fun (i : Nat) (hi : i < 64) => h2.cell i _ (vW_get _ i (by rw [List.length_append, sch_length, hp, List.length_replicate]; omega))
      have e := nextw_front (sch p k) (List.replicate (48 - k) 0#32) (16 + k) (by rw [sch_length, hp]) (by omega)
      have g2 := hd (16 + k - 2) (by omega)
      have g7 := hd (16 + k - 7) (by omega)
      have g15 := hd (16 + k - 15) (by omega)
      have g16 := hd k (by omega)
      have gk := hd (16 + k) (by omega)
      have gf := h2.thaw (16 + k)
      clear hd
      obtain ⟨y, hy⟩ : ∃ y, y = nextw (sch p k) (16 + k) := ⟨_, rfl⟩
      rw [← hy] at e
      unfold nextw at e
      rw [show 16 + k - 16 = k by omega] at e
      have HY : Hid (y = nextw (sch p k) (16 + k)) := hy
      have en : Hid _ := e
      clear e hy
      generalize (sch p k ++ List.replicate (48 - k) 0#32).getD (16 + k - 2) 0 = x2 at g2 en
      generalize (sch p k ++ List.replicate (48 - k) 0#32).getD (16 + k - 7) 0 = x7 at g7 en
      generalize (sch p k ++ List.replicate (48 - k) 0#32).getD (16 + k - 15) 0 = x15 at g15 en
      generalize (sch p k ++ List.replicate (48 - k) 0#32).getD k 0 = x16 at g16 en
      generalize (sch p k ++ List.replicate (48 - k) 0#32).getD (16 + k) 0 = xk at gk
      go_wp2
      go_quiet (fail)
      go_wp2
      have hx := bits_xor
      have ha := mod_add
      have hs3 := fun x => u_div x 3 8 (by decide)
      have hs10 := fun x => u_div x 10 1024 (by decide)
      refine wp_region_quiet_tail (C := fun w' => ∃ n, w' = wr.drewN n) 29 (by kernel_rfl) (by kernel_rfl) ⟨nq + 1, rfl⟩ ?_
      simp only [List.take_succ_cons, List.take_zero, List.drop_succ_cons, List.drop_zero]
      repeat (go_big_quiet_step (first | (go_at_call_of 101 (Value.int IntKind.i64 17); exact Calls.quiet_of_same (turn_lit _ 17 17 rfl (by decide) (by decide) _)) | (go_at_call_of 101 (Value.int IntKind.i64 19); exact Calls.quiet_of_same (turn_lit _ 19 19 rfl (by decide) (by decide) _)) | (go_at_call_of 101 (Value.int IntKind.i64 7); exact Calls.quiet_of_same (turn_lit _ 7 7 rfl (by decide) (by decide) _)) | (go_at_call_of 101 (Value.int IntKind.i64 18); exact Calls.quiet_of_same (turn_lit _ 18 18 rfl (by decide) (by decide) _))))
      refine wpQuiet_nil ?_
      intro w' hw'
      obtain ⟨nr, rfl⟩ := hw'
      go_wp2
      have ey : (rotr x2 17 ^^^ rotr x2 19 ^^^ x2 >>> 10) + x7 + (rotr x15 7 ^^^ rotr x15 18 ^^^ x15 >>> 3) + x16 = y := en.out
      rw [ey]
      refine ⟨⟨k + 1, by omega, by go_num, Below.setCell (below_drewN hb nr) (p := ⟨w.heap.size + 1 + 1, 16 + k, none⟩) (by simp; omega) _, by simpa [World.setCell] using hz, (h1.drewN nr).set_other _ _ _ (by omega), ?_⟩, by simp [intOf]; omega⟩
      have := (h2.drewN nr).set (16 + k) (.int .u32 (u y))
      rw [vW_set, HY.out, sch_fill p hp k hlt] at this
      rw [HY.out]
      exact this
    · obtain rfl : k = 48 := by omega
      have e2 : Row wr (w.heap.size + 1 + 1) (vW q) 159 := by rw [HQ.out]; simpa using h2
      have r2 := e2.all
      have hl : (vW q).length = 64 := by rw [HQ.out, vW_length, sch_length, hp]
      clear h2
      have t1 := h1.there 0 (vW q).toArray.size (by simp [vW_length] at hl ⊢; omega)
      have hi : (Tryd.prog.info? 159).map (·.size) = some (vW q).length := by rw [info_arr64, hl]
      have hi' : (Tryd.prog.info? 159).map (·.size) = some (vW q).toArray.size := by rw [info_arr64]; simp [hl]
      have ho := all_oneCell_toArray (vW_one q)
      have fin := (h1.over (vs := vW q) (by rw [hl]; simp [vW_length]))
      have hbf := below_setCells hb (b := w.heap.size + 1) (o := 0) (by omega) (vW q)
      have HL : Hid ((vW q).length = 64) := hl
      clear hl
      go_wp2_with (first
        | (refine wpList_load_mid rfl 159 (.tmp 3) rfl (w.heap.size + 1 + 1) 0 rfl (vW q) _ r2 Tryd.underlying159 rfl hi ?_; simp only [Act.put, List.setIfInBounds_toArray, List.set_cons_zero, List.set_cons_succ])
        | (refine wpList_store_mid rfl 159 (.tmp 2) (.tmp 51) rfl (w.heap.size + 1) 0 (vW q).toArray rfl rfl t1 hi' ho ?_))
      exact bodyPost_ret (results_row Tryd.results100 _ _ (w.heap.size + 1) 159 _ rfl fin Tryd.underlying159 info_arr64 HL.out) rfl ⟨rfl, hbf⟩

theorem spread_q (p q : List (BitVec 32)) (hp : p.length = 16) (hq : q = sch p 48) (w : World) :
    Calls Tryd.prog 100 #[.agg (vW p).toArray] w fun e w' => e = .returned (.agg (vW q).toArray) ∧ Below w.heap.size w w' := by
  rw [hq]; exact spread_any p hp w

end Go.Proofs.YtfdgdmehgbmnkaaDoor
