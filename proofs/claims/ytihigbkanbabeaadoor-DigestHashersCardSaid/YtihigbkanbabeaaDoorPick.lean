/-
  pick, Reset.
-/
import Derived.Test.YtihigbkanbabeaaDoorEq
namespace Go.Proofs.YtihigbkanbabeaaDoor
open Go Go.RowKit
open Sha

theorem neg_rem (k : Int) (n : Nat) (hk : k < 0) (hn : 0 < n) : ∃ r : Nat, r < n ∧ -((k + 1).tmod (n : Int)) = (r : Int) := by
  have e : k + 1 = -(-(k + 1)) := by omega
  rw [e, Int.neg_tmod, Int.neg_neg]
  have h0 : 0 ≤ -(k + 1) := by omega
  rw [Int.tmod_eq_emod_of_nonneg h0]
  have h1 := Int.emod_lt_of_pos (-(k + 1)) (show (0 : Int) < n by omega)
  have h2 := Int.emod_nonneg (-(k + 1)) (show (n : Int) ≠ 0 by omega)
  exact ⟨(-(k + 1) % (n : Int)).toNat, by omega, by omega⟩

set_option maxHeartbeats 400000 in
theorem pick_any (k : Int) (n : Nat) (h1 : -9223372036854775808 ≤ k) (h2 : k ≤ 9223372036854775807) (hn : 0 < n) (hn2 : n < 1152921504606846976) (w : World) :
    Calls Tryd.prog 22 #[.int .i64 k, .int .i64 (n : Int)] w fun e w' => ∃ r : Nat, r < n ∧ e = .returned (.int .i64 (r : Int)) ∧ w' = w := by
  by_cases hk : k < 0
  · go_enter Tryd.func22, Tryd.ntmps22
    go_wp2
    go_ret
    obtain ⟨r, hr, e⟩ := neg_rem k n hk hn
    exact ⟨r, hr, ret_int e, rfl⟩
  · go_enter Tryd.func22, Tryd.ntmps22
    go_wp2
    go_ret
    refine ⟨(k % (n : Int)).toNat, ?_, ret_int ?_, rfl⟩
    · have := Int.emod_lt_of_pos k (show (0 : Int) < n by omega); have := Int.emod_nonneg k (show (n : Int) ≠ 0 by omega); omega
    · have := Int.emod_nonneg k (show (n : Int) ≠ 0 by omega); show k % (n : Int) = _; omega

set_option maxRecDepth 100000 in
set_option maxHeartbeats 1000000 in
theorem reset_any (bs : List (BitVec 8)) (b : Nat) (w : World) (hH : HAt w b bs) :
    Calls Tryd.prog 34 #[.pointer (some ⟨b, 0, none⟩)] w fun e w' => e = .returned (.tuple #[]) ∧ HAt w' b [] ∧ But b w w' := by
  unfold HAt at hH
  have hl := hcells_length (hst bs) (hwait bs) bs.length (hwait_length _)
  obtain ⟨cs, hcs⟩ : ∃ cs, cs = hcells (hst bs) (hwait bs) bs.length := ⟨_, rfl⟩
  rw [← hcs] at hH hl
  clear hcs
  obtain ⟨zs, hzs⟩ : ∃ zs, zs = hcells (hst []) (hwait []) ([] : List (BitVec 8)).length := ⟨_, rfl⟩
  have hzl : zs.length = 73 := by rw [hzs]; exact hcells_length _ _ _ (hwait_length _)
  have hz1 : ∀ v ∈ zs, v.oneCell' = true := by
    rw [hzs]; intro v hv; unfold hcells at hv
    simp only [List.mem_append, List.mem_singleton] at hv
    rcases hv with (hv | hv) | hv
    · exact vW_one _ v hv
    · exact vB_one _ v hv
    · rw [hv]; rfl
  have HZ : Hid (zs = hcells (hst []) (hwait []) ([] : List (BitVec 8)).length) := hzs
  have hi : (Tryd.prog.info? 61).map (·.size) = some zs.length := by rw [info_hasher, hzl]
  have hi' : (Tryd.prog.info? 61).map (·.size) = some zs.toArray.size := by rw [info_hasher]; simp [hzl]
  have HZL : Hid (zs.length = 73) := hzl
  have HL : Hid (cs.length = 73) := hl
  clear hzs hzl hl
  have hbl := hH.lt
  go_enter Tryd.func34, Tryd.ntmps34
  go_wp2_with (first
    | (go_at_call 29; refine (new_any _).mono ?_; rintro e w1 ⟨b1, rfl, hb1, hH1, hB1⟩; (have r1 : Row w1 b1 zs 61 := (by rw [HZ.out]; exact hH1)); clear hH1)
    | (refine wpList_load_mid rfl 61 (.tmp 4) rfl b1 0 rfl zs _ r1.all Tryd.underlying61 rfl hi ?_; simp only [Act.put, List.setIfInBounds_toArray, List.set_cons_zero, List.set_cons_succ])
    | (refine wpList_store_mid rfl 61 (.tmp 6) (.tmp 5) rfl b 0 zs.toArray rfl rfl ((hH.below hB1 hbl).there 0 _ (by simp [HL.out, HZL.out])) hi' (all_oneCell_toArray hz1) ?_))
  have r2 := (hH.below hB1 hbl).over (vs := zs) (by rw [HL.out, HZL.out])
  have hBut := (But.of_below (b := b) hB1).trans (But.setCells b 0 w1 zs)
  go_end0
  refine ⟨rfl, ?_, hBut⟩
  unfold HAt
  rw [← HZ.out]
  exact r2

end Go.Proofs.YtihigbkanbabeaaDoor
