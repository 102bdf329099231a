/-
  wide.Bytes.
-/
import Derived.Test.YtdlmighfmkhpkaaWVU
import Derived.Test.YtdlmighfmkhpkaaWRdM
namespace Go.Proofs.Ytdlmighfmkhpkaa
open Go Go.RowKit
open Wd

set_option maxRecDepth 100000 in
set_option maxHeartbeats 2000000 in
theorem bytes_any (a : Nat) (w : World) :
    Calls Try.prog 81 #[.agg (vQ (dgs a 4)).toArray] w fun e w' => ∃ N, w.heap.size ≤ N ∧ Row w' N (vU (bl a)) 5 ∧ e = .returned (.slice (some ⟨N, 0, none⟩) 32 32) ∧ Below w.heap.size w w' := by
  go_enter Try.func81, Try.ntmps81
  go_wp2_with (refine wpList_make_u rfl 23 (.const (.int .i64 32)) (.const (.int .i64 32)) rfl 5 32 _ _ rfl rfl rfl rfl (by decide) Try.underlying23 info_all_u8 ?_; simp only [Act.put, List.setIfInBounds_toArray, List.set_cons_zero, List.set_cons_succ])
  go_loopw [4, 8] (fun _ iv wr => ∃ t : Nat, t ≤ 32 ∧ iv = .int .i64 (t : Int) ∧ Below w.heap.size w wr ∧ Row wr w.heap.size (vQ (dgs a 4)) 29 ∧ Row wr (w.heap.size + 1) (vU (List.replicate (32 - t) 0 ++ rx (by8 a) t)) 5) (fun _ iv _ => 32 - (intOf iv).toNat)
  case atStart =>
    refine ⟨0, by omega, rfl, ((Below.refl _ _).alloc (Nat.le_refl _) _).alloc (by simp) _, (Row.new' rfl rfl).alloc _, ?_⟩
    exact Row.new' (by simp) rfl
  case round =>
    obtain ⟨t, ht, rfl, hb, h1, h3⟩ := hrel
    by_cases hlt : t < 32
    · have hq : t / 8 < 4 := by omega
      have g1 := h1.cell (t / 8) _ (vQ_get _ (t / 8) (by rw [dgs_length]; exact hq))
      rw [dgs_getD _ _ _ hq] at g1
      have hlen : (List.replicate (32 - t) 0 ++ rx (by8 a) t).length = 32 := by rw [List.length_append, List.length_replicate, rx_length]; omega
      have g3 := h3.cell (31 - t) _ (vU_get _ (31 - t) (by rw [hlen]; omega))
      have gf := h3.thaw (31 - t)
      have hby := by8_lim a t
      have hbl := by8_lt a t
      have hx := lim_lt a (t / 8)
      have e1 : (t : Int) / 8 = ((t / 8 : Nat) : Int) := by omega
      have e2 : (t : Int) % 8 = ((t % 8 : Nat) : Int) := by omega
      generalize (List.replicate (32 - t) 0 ++ rx (by8 a) t).getD (31 - t) 0 = z at g3
      generalize lim a (t / 8) = x at *
      obtain ⟨q, hqe⟩ : ∃ q, q = t / 8 := ⟨_, rfl⟩
      obtain ⟨r0, hr0⟩ : ∃ r0, r0 = t % 8 := ⟨_, rfl⟩
      obtain ⟨r, hre⟩ : ∃ r, r = r0 * 8 := ⟨_, rfl⟩
      obtain ⟨j, hj⟩ : ∃ j, j = 31 - t := ⟨_, rfl⟩
      rw [← hqe] at g1 e1 hq
      rw [← hr0] at e2 hby
      rw [← hre] at hby
      rw [← hj] at g3 gf
      have e3 : (r0 : Int) * 8 = (r : Int) := by omega
      have e4 : (31 : Int) - (t : Int) = (j : Int) := by omega
      have lr : (r : Int) ≤ 56 := by omega
      have lr' : r < 64 := by omega
      have lj : (j : Int) < 32 := by omega
      have lj' : j < 32 := by omega
      have lq : (q : Int) < 4 := by omega
      have eK : (x : Int) / 2 ^ r = ((x / 2 ^ r : Nat) : Int) := by simp
      obtain ⟨y, hy⟩ : ∃ y, y = x / 2 ^ r := ⟨_, rfl⟩
      rw [← hy] at eK hby
      obtain ⟨d, hd⟩ : ∃ d, d = by8 a t := ⟨_, rfl⟩
      rw [← hd] at hby hbl
      have eA : IntKind.u8.wrap (y : Int) = (d : Int) := by rw [IntKind.wrap_u8]; omega
      have HJ : Hid (j = 31 - t ∧ d = by8 a t) := ⟨hj, hd⟩
      clear hqe hre hr0 hy hby hx ht hj hd hlen hbl
      go_wp2
      refine ⟨⟨t + 1, hlt, by go_num, Below.setCell hb (by simp) _, h1.set_other _ _ _ (by omega), ?_⟩, by simp [intOf]; omega⟩
      have := h3.set j (.int .u8 (d : Int))
      rw [vU_set, HJ.out.1, HJ.out.2, show 31 - t = 32 - 1 - t from rfl, rx_fill (by8 a) t 32 hlt] at this
      rw [HJ.out.1, HJ.out.2]
      exact this
    · have et : t = 32 := by omega
      have e4 : (t : Int) = 32 := by omega
      rw [et, Nat.sub_self, List.replicate_zero, List.nil_append] at h3
      rw [e4]
      clear et e4 ht hlt
      go_wp2
      go_ret
      exact ⟨w.heap.size + 1, by omega, h3, by simp, hb⟩

end Go.Proofs.Ytdlmighfmkhpkaa
