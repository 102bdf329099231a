/-
  wide.cutDigits.
-/
import Derived.Test.YtbklegljibigjaaDoorWDivA
import Derived.Test.YtbklegljibigjaaDoorWCutM
namespace Go.Proofs.YtbklegljibigjaaDoor
open Go Go.RowKit
open Wd

theorem div64_N (hi lo y : Nat) (hh : hi < y) (hl : lo < 18446744073709551616) (hy : y < 18446744073709551616) (w : World) :
    Calls Tryd.prog 69 #[.int .u64 (hi : Int), .int .u64 (lo : Int), .int .u64 (y : Int)] w fun e w' => e = .returned (.tuple #[.int .u64 (((hi * 18446744073709551616 + lo) / y : Nat) : Int), .int .u64 (((hi * 18446744073709551616 + lo) % y : Nat) : Int)]) ∧ ∃ n, w' = w.drewN n := by
  refine (div64_any hi lo y hh hl hy w).mono ?_
  rintro e w' ⟨he, hw⟩
  refine ⟨he, ?_⟩
  rcases hw with h | h
  · exact ⟨0, by rw [h, World.drewN_zero]⟩
  · exact ⟨1, h⟩

set_option maxRecDepth 100000 in
set_option maxHeartbeats 1000000 in
theorem cutDigits_any (a : Nat) (ha : a < 2 ^ 256) (w : World) :
    Calls Tryd.prog 59 #[.agg (vQ (dgs a 4)).toArray] w fun e w' => e = .returned (.tuple #[.agg (vQ (dgs (a / 10000000000000000000) 4)).toArray, .int .u64 ((a % 10000000000000000000 : Nat) : Int)]) ∧ Below w.heap.size w w' := by
  have HL4 : Hid (lw a 4 = 0) := lw_four a ha
  have HL0 : Hid (lw a 0 = a % 10000000000000000000) := lw_zero a
  obtain ⟨q, hq⟩ : ∃ q, q = a / 10000000000000000000 := ⟨_, rfl⟩
  have HSTEP : Hid (∀ t, (lw a (t + 1) * 18446744073709551616 + lim a t) / 10000000000000000000 = lim q t ∧ (lw a (t + 1) * 18446744073709551616 + lim a t) % 10000000000000000000 = lw a t) := by rw [hq]; exact fun t => cut_step a t
  rw [← hq]
  obtain ⟨m, hm⟩ : ∃ m, m = a % 10000000000000000000 := ⟨_, rfl⟩
  rw [← hm] at HL0 ⊢
  clear hq hm ha
  go_enter Tryd.func59, Tryd.ntmps59
  go_wp2
  go_loopw [4, 5] (fun lv i wr => ∃ t : Nat, t ≤ 4 ∧ i = .int .i64 ((t : Int) - 1) ∧ lv = .int .u64 ((lw a t : Nat) : Int) ∧ Below w.heap.size w wr ∧ Row wr w.heap.size (vQ (dgs a t ++ (dgs q 4).drop t)) 24 ∧ Row wr (w.heap.size + 1) (vQ (List.replicate 4 0)) 24)
    (fun _ i _ => (intOf i + 1).toNat)
  case atStart =>
    refine ⟨4, by omega, rfl, by rw [HL4.out]; rfl, ((Below.refl _ _).alloc (Nat.le_refl _) _).alloc (by simp) _, ?_, ?_⟩
    · refine (Row.new' rfl ?_).alloc _
      rw [List.drop_of_length_le (by rw [dgs_length]; exact Nat.le_refl _), List.append_nil]
    · exact Row.new' (by simp) rfl
  case round =>
    obtain ⟨t, ht, rfl, rfl, hb, h0, h1⟩ := hrel
    by_cases hlt : 0 < t
    · obtain ⟨k, rfl⟩ : ∃ k, t = k + 1 := ⟨t - 1, by omega⟩
      have hk : k < 4 := by omega
      have ei : (((k + 1 : Nat) : Int) - 1) = (k : Int) := by omega
      rw [ei]
      have g0 := h0.cell k _ (vQ_get _ k (by rw [down_length q a (k + 1) (by omega)]; exact hk))
      have gf := h0.thaw k
      rw [down_get q a k] at g0
      have HMA : Hid (∀ w, Calls Tryd.prog 69 #[.int .u64 ((lw a (k + 1) : Nat) : Int), .int .u64 ((lim a k : Nat) : Int), .int .u64 10000000000000000000] w fun e w' => e = .returned (.tuple #[.int .u64 ((lim q k : Nat) : Int), .int .u64 ((lw a k : Nat) : Int)]) ∧ ∃ n, w' = w.drewN n) := by
        intro w
        have h := div64_N (lw a (k + 1)) (lim a k) 10000000000000000000 (lw_lt _ _) (lim_lt _ _) (by decide) w
        rw [(HSTEP.out k).1, (HSTEP.out k).2] at h
        exact h
      generalize lim a k = x at g0 HMA
      generalize lw a (k + 1) = lo at HMA
      clear ei ht hlt
      go_wp2_with (go_at_call 69; refine (HMA.out wr).mono ?_; rintro e w2 ⟨rfl, n, rfl⟩)
      refine ⟨⟨k, by omega, by go_num, rfl, Below.setCell (below_drewN hb n) (by simp) _, ?_, (h1.drewN n).set_other _ _ _ (by omega)⟩, by simp [intOf]⟩
      have := (h0.drewN n).set k (.int .u64 ((lim q k : Nat) : Int))
      rw [vQ_set, down_set q a k hk] at this
      exact this
    · have et : t = 0 := by omega
      subst et
      rw [show lw a 0 = m from HL0.out]
      clear ht hlt
      have h0' : Row wr w.heap.size (vQ (dgs q 4)) 24 := h0
      obtain ⟨cs, hcs⟩ : ∃ cs, cs = vQ (dgs q 4) := ⟨_, rfl⟩
      have hl : cs.length = 4 := by rw [hcs, vQ_length, dgs_length]
      rw [← hcs] at h0'
      have i4 : (Tryd.prog.info? 24).map (·.size) = some cs.length := by rw [info_w4, hl]
      have i4' : (Tryd.prog.info? 24).map (·.size) = some cs.toArray.size := by rw [info_w4]; simp [hl]
      have hone := all_oneCell_toArray (show ∀ v ∈ cs, v.oneCell' = true by rw [hcs]; exact vQ_one _)
      have T := h1.there 0 cs.toArray.size (by simp [hl, vQ_length])
      have fin := h1.over (vs := cs) (by rw [hl]; rfl)
      have hbf := below_setCells hb (b := w.heap.size + 1) (o := 0) (by omega) cs
      have HE : Hid (vQ (dgs q 4) = cs) := hcs.symm
      have HL : Hid (cs.length = 4) := hl
      clear hcs hl hb h0 HSTEP HL0 HL4
      go_wp2_with (first
        | (refine wpList_load_mid rfl 24 (.tmp 1) rfl w.heap.size 0 rfl cs _ h0'.all Tryd.underlying24 rfl i4 ?_; simp only [Act.put, List.setIfInBounds_toArray, List.set_cons_zero, List.set_cons_succ])
        | (refine wpList_store_mid rfl 24 (.tmp 2) (.tmp 20) rfl (w.heap.size + 1) 0 cs.toArray rfl rfl T i4' hone ?_; simp only [Act.put]))
      exact bodyPost_ret (results_row_tmp Tryd.results59 _ _ (w.heap.size + 1) 24 cs (.int .u64 (m : Int)) rfl rfl fin Tryd.underlying24 info_w4 HL.out) rfl ⟨by rw [HE.out], hbf⟩

end Go.Proofs.YtbklegljibigjaaDoor
