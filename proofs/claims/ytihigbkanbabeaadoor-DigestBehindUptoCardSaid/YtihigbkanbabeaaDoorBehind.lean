/-
  The law DigestBehind, walked.
-/
import Derived.Test.YtihigbkanbabeaaDoorBehindMath
namespace Go.Proofs.YtihigbkanbabeaaDoor
open Go Go.RowKit
open Sha

theorem bits_k (d dd : List (BitVec 8)) (m : Nat) (hm : d.length = m) (hd : m < 576460752303423488) (A : Option Addr) (cap n : Nat) (hn : n ≤ 8 * m) (hdd : dd = dbits d n) (w : World) (hK : Tab w 1) (hv : SlAt w (.slice A m cap) d) :
    Calls Tryd.prog 20 #[.slice A m cap, .int .i64 (n : Int)] w fun e w' => e = .returned (.tuple #[.agg (vB dd).toArray, .int .i64 0]) ∧ Below w.heap.size w w' := by
  subst hm; exact bits_ok d dd hd A cap n hn hdd w hK hv

set_option maxRecDepth 100000 in
set_option maxHeartbeats 2000000 in
theorem behind_walk (d j : List (BitVec 8)) (hd : d.length ≤ 1048576) (hj : j.length ≤ 1048576) (A A2 : Option Addr) (cap cap2 : Nat) (hnil : A2 = none → cap2 = 0) (n : Int) (h1 : -9223372036854775808 ≤ n) (h2 : n ≤ 9223372036854775807) (w : World) (hv : SlAt w (.slice A d.length cap) d) (hvj : SlAt w (.slice A2 j.length cap2) j) (hK : Tab w 1) :
    Calls Tryd.prog 6 #[.slice A d.length cap, .int .i64 n, .slice A2 j.length cap2] w fun e w' => e = .returned (.bool true) ∧ Below w.heap.size w w' := by
  have HV : Hid (SlAt w (.slice A d.length cap) d) := hv
  have HVJ : Hid (SlAt w (.slice A2 j.length cap2) j) := hvj
  have HNIL : Hid _ := hnil
  clear hv hvj hnil
  go_enter Tryd.func6, Tryd.ntmps6
  go_wp2_with fail
  refine (awake_any w hK).mono ?_
  rintro e W1 ⟨rfl, hW1⟩
  go_wp2_with fail
  refine (pick_z n (8 * d.length + 1) _ (by omega) h1 h2 (by omega) (by omega) W1).mono ?_
  rintro e W0 ⟨r, hr0, rfl, hE⟩
  obtain rfl : W0 = W1 := hE
  have hr : r ≤ 8 * d.length := by omega
  clear hr0
  obtain ⟨k, hk⟩ : ∃ k, k = (r + 7) / 8 := ⟨_, rfl⟩
  obtain ⟨q, hq⟩ : ∃ q, q = d.take k := ⟨_, rfl⟩
  have hkd : k ≤ d.length := by omega
  have HQ : Hid (q = d.take ((r + 7) / 8)) := by show _ = _; rw [hq, hk]
  have HQ0 : Hid (d.take k = q) := hq.symm
  have HQL : Hid (q.length = k) := by show _ = _; rw [hq, List.length_take]; omega
  have HKK : Hid (k = (r + 7) / 8) := hk
  have hki : ((r : Int) + 7) / 8 = (k : Int) := by omega
  obtain ⟨x, hx⟩ : ∃ x, x = dbits d r := ⟨_, rfl⟩
  have Hx : Hid (x = dbits d r) := hx
  have Lx : x.length = 32 := by rw [hx]; exact dbits_length _ _
  have Ix : (Tryd.prog.info? 26).map (·.size) = some (vB x).toArray.size := by rw [info_dig]; simp [vB_length, Lx]
  have Jx : (Tryd.prog.info? 26).map (·.size) = some (vB x).length := by rw [info_dig, vB_length, Lx]
  have Ox := all_oneCell_toArray (vB_one x)
  have Kx : Hid (x.length = 32) := Lx
  clear Lx
  clear hx hq hk
  go_wp2_with fail
  refine (bits_ok d x (by omega) A cap r hr Hx.out W0 (hK.below hW1 hK.lt) (HV.out.below hW1 (Nat.le_refl _))).mono ?_
  rintro e v3 ⟨rfl, hD3⟩
  obtain ⟨hS3, R8⟩ := digest_laid x Kx.out hD3
  have T3 := digest_there v3 x Kx.out
  have hW3 := hW1.trans (hS3.mono hW1.size)
  clear hD3 hS3 hW1
  go_wp2_with (first
    | (refine wpList_store_mid rfl 26 (.tmp 8) (.tmp 27) rfl v3.heap.size 0 (vB x).toArray rfl rfl T3 Ix Ox ?_; simp only [Act.put]; (change wpList _ _ _ _ _ (World.setCells (v3.alloc (Obj.cells (vB (List.replicate 32 0#8)).toArray 26)) v3.heap.size 0 (vB x))); clear T3; (generalize World.setCells (v3.alloc (Obj.cells (vB (List.replicate 32 0#8)).toArray 26)) v3.heap.size 0 (vB x) = W3 at *); (generalize v3.heap.size = p8 at *); clear v3)
    | (refine wpList_slice_h rfl 22 (.tmp 29) (.tmp 32) rfl w 5 A d.length cap d HV.out k _ (by omega) rfl rfl hkd Tryd.underlying22 info_u8 ?_; intro B4 c4 hS4; simp only [Act.put, List.setIfInBounds_toArray, List.set_cons_zero, List.set_cons_succ]))
  rw [HQ0.out] at hS4
  refine (twin_k q k HQL.out (by omega) B4 c4 W3 (SlAt.below hS4 hW3 (Nat.le_refl _))).mono ?_
  rintro e W5 ⟨g, rfl, hg, Rg, hB5⟩
  replace R8 := Row.below R8 hB5 (Row.lt R8)
  have hW5 := hW3.trans (hB5.mono hW3.size)
  have hgw : w.heap.size ≤ g := Nat.le_trans hW3.size hg
  clear hB5 hW3 hg hS4
  by_cases h8 : r % 8 = 0
  · have h8i : (r : Int) % 8 = 0 := by omega
    have hr8 : r / 8 ≤ d.length := by omega
    have HX8 : Hid (x = dig (d.take (r / 8))) := by show _ = _; rw [Hx.out]; exact dbits_whole d r h8 hr8
    have HX : Hid (x = dbits (q ++ j) r) := by show _ = _; rw [Hx.out, HQ.out]; exact (behind_plain d j r hr).symm
    clear h8
    have hown : W5.ownsRow g 5 1 (.slice (some ⟨g, 0, none⟩) k k) k (vB q) := row_owns (Nat.le_refl _) HQL.out (by omega) Rg
    have HOWN : Hid _ := hown
    have hgl := Row.lt Rg
    have hSJ : SlAt W5 (.slice A2 j.length cap2) j := SlAt.below HVJ.out hW5 (Nat.le_refl _)
    have HSJ : Hid _ := hSJ
    have hne8 : p8 ≠ g := Row.ne R8 Rg (by decide)
    have hl8 := Row.lt R8
    clear hown hSJ Rg
    go_wp2_with (refine wpList_append_bytes rfl (.tmp 65) (.tmp 66) rfl W5 w w.heap.size g _ k j.length q j HOWN.out rfl A2 cap2 rfl rfl HSJ.out HNIL.out (by omega) (Nat.le_of_lt hgl) hgw hW5 ?_; intro v7 W7 ho7 hW7 hg7; (replace R8 := (hg7.block p8 hl8 (by simp [Value.ownBlock]; exact hne8)).trans R8); (obtain ⟨hs7, A7, c7, rfl⟩ := owns_slAt ho7); simp only [Act.put, List.setIfInBounds_toArray, List.set_cons_zero, List.set_cons_succ]; clear ho7 hg7 HOWN HSJ hl8 hne8 hgl hW5)
    have hl7 : (q ++ j).length = k + j.length := by rw [List.length_append, HQL.out]
    have HS7 : Hid (SlAt W7 (.slice A7 (k + j.length) c7) (q ++ j)) := hs7
    have HL7 : Hid _ := hl7
    clear hs7 hl7
    refine (bits_k (q ++ j) x (k + j.length) HL7.out (by omega) A7 c7 r (by omega) HX.out W7 (hK.below hW7 hK.lt) HS7.out).mono ?_
    rintro e v9 ⟨rfl, hD9⟩
    obtain ⟨hS9, R13⟩ := digest_laid x Kx.out hD9
    have T9 := digest_there v9 x Kx.out
    have hW9 := hW7.trans (hS9.mono hW7.size)
    replace R8 := Row.below R8 hS9 (Row.lt R8)
    clear hD9 hS9 hW7
    go_wp2_with (first
      | (refine wpList_store_mid rfl 26 (.tmp 13) (.tmp 72) rfl v9.heap.size 0 (vB x).toArray rfl rfl T9 Ix Ox ?_; simp only [Act.put]; (change wpList _ _ _ _ _ (World.setCells (v9.alloc (Obj.cells (vB (List.replicate 32 0#8)).toArray 26)) v9.heap.size 0 (vB x))); clear T9; (generalize World.setCells (v9.alloc (Obj.cells (vB (List.replicate 32 0#8)).toArray 26)) v9.heap.size 0 (vB x) = W9 at *); (generalize v9.heap.size = p13 at *); clear v9)
      | (refine wpList_load_w rfl 26 (.tmp 8) rfl p8 0 rfl (vB x) _ R8.all Tryd.underlying26 rfl Jx ?_; simp only [Act.put, List.setIfInBounds_toArray, List.set_cons_zero, List.set_cons_succ])
      | (refine wpList_load_w rfl 26 (.tmp 13) rfl p13 0 rfl (vB x) _ R13.all Tryd.underlying26 rfl Jx ?_; simp only [Act.put, List.setIfInBounds_toArray, List.set_cons_zero, List.set_cons_succ])
      | (refine wpList_neq_same rfl 26 (.tmp 85) (.tmp 86) 26 rfl 5 32 x rfl rfl Tryd.underlying26 Tryd.underlying5 info_u8 Kx.out guard_dig ?_; simp only [Act.put, List.setIfInBounds_toArray, List.set_cons_zero, List.set_cons_succ])
      | (refine wpList_slice_h rfl 22 (.tmp 92) (.tmp 94) rfl w 5 A d.length cap d HV.out (r / 8) _ (by omega) rfl rfl hr8 Tryd.underlying22 info_u8 ?_; intro B10 c10 hS10; simp only [Act.put, List.setIfInBounds_toArray, List.set_cons_zero, List.set_cons_succ]))
    refine (sum_any (d.take (r / 8)) x HX8.out (by rw [List.length_take]; omega) _ W9 (hK.below hW9 hK.lt) (SlAt.below hS10 hW9 (Nat.le_refl _))).mono ?_
    rintro e v11 ⟨rfl, hD11⟩
    obtain ⟨hS11, R15⟩ := digest_laid x Kx.out hD11
    have T11 := digest_there v11 x Kx.out
    have hW11 := hW9.trans (hS11.mono hW9.size)
    replace R8 := Row.below R8 hS11 (Row.lt R8)
    replace R13 := Row.below R13 hS11 (Row.lt R13)
    clear hD11 hS11 hW9
    go_wp2_with (first
      | (refine wpList_store_mid rfl 26 (.tmp 15) (.tmp 96) rfl v11.heap.size 0 (vB x).toArray rfl rfl T11 Ix Ox ?_; simp only [Act.put]; (change wpList _ _ _ _ _ (World.setCells (v11.alloc (Obj.cells (vB (List.replicate 32 0#8)).toArray 26)) v11.heap.size 0 (vB x))); clear T11; (generalize World.setCells (v11.alloc (Obj.cells (vB (List.replicate 32 0#8)).toArray 26)) v11.heap.size 0 (vB x) = W11 at *); (generalize v11.heap.size = p15 at *); clear v11)
      | (refine wpList_load_w rfl 26 (.tmp 15) rfl p15 0 rfl (vB x) _ R15.all Tryd.underlying26 rfl Jx ?_; simp only [Act.put, List.setIfInBounds_toArray, List.set_cons_zero, List.set_cons_succ])
      | (refine wpList_load_w rfl 26 (.tmp 8) rfl p8 0 rfl (vB x) _ R8.all Tryd.underlying26 rfl Jx ?_; simp only [Act.put, List.setIfInBounds_toArray, List.set_cons_zero, List.set_cons_succ])
      | (refine wpList_eql_same rfl 26 (.tmp 97) (.tmp 98) 26 rfl 5 32 x rfl rfl Tryd.underlying26 Tryd.underlying5 info_u8 Kx.out guard_dig ?_; simp only [Act.put, List.setIfInBounds_toArray, List.set_cons_zero, List.set_cons_succ]))
    go_ret
    exact ⟨rfl, hW11⟩
  by_cases hj0 : j.length = 0
  · have h8i : (r : Int) % 8 ≠ 0 := by omega
    have hj0i : (j.length : Int) = 0 := by omega
    have HX : Hid (x = dbits (q ++ j) r) := by show _ = _; rw [Hx.out, HQ.out]; exact (behind_plain d j r hr).symm
    clear h8 hj0
    have hown : W5.ownsRow g 5 1 (.slice (some ⟨g, 0, none⟩) k k) k (vB q) := row_owns (Nat.le_refl _) HQL.out (by omega) Rg
    have HOWN : Hid _ := hown
    have hgl := Row.lt Rg
    have hSJ : SlAt W5 (.slice A2 j.length cap2) j := SlAt.below HVJ.out hW5 (Nat.le_refl _)
    have HSJ : Hid _ := hSJ
    have hne8 : p8 ≠ g := Row.ne R8 Rg (by decide)
    have hl8 := Row.lt R8
    clear hown hSJ Rg
    go_wp2_with (refine wpList_append_bytes rfl (.tmp 65) (.tmp 66) rfl W5 w w.heap.size g _ k j.length q j HOWN.out rfl A2 cap2 rfl rfl HSJ.out HNIL.out (by omega) (Nat.le_of_lt hgl) hgw hW5 ?_; intro v7 W7 ho7 hW7 hg7; (replace R8 := (hg7.block p8 hl8 (by simp [Value.ownBlock]; exact hne8)).trans R8); (obtain ⟨hs7, A7, c7, rfl⟩ := owns_slAt ho7); simp only [Act.put, List.setIfInBounds_toArray, List.set_cons_zero, List.set_cons_succ]; clear ho7 hg7 HOWN HSJ hl8 hne8 hgl hW5)
    have hl7 : (q ++ j).length = k + j.length := by rw [List.length_append, HQL.out]
    have HS7 : Hid (SlAt W7 (.slice A7 (k + j.length) c7) (q ++ j)) := hs7
    have HL7 : Hid _ := hl7
    clear hs7 hl7
    refine (bits_k (q ++ j) x (k + j.length) HL7.out (by omega) A7 c7 r (by omega) HX.out W7 (hK.below hW7 hK.lt) HS7.out).mono ?_
    rintro e v9 ⟨rfl, hD9⟩
    obtain ⟨hS9, R13⟩ := digest_laid x Kx.out hD9
    have T9 := digest_there v9 x Kx.out
    have hW9 := hW7.trans (hS9.mono hW7.size)
    replace R8 := Row.below R8 hS9 (Row.lt R8)
    clear hD9 hS9 hW7
    go_wp2_with (first
      | (refine wpList_store_mid rfl 26 (.tmp 13) (.tmp 72) rfl v9.heap.size 0 (vB x).toArray rfl rfl T9 Ix Ox ?_; simp only [Act.put]; (change wpList _ _ _ _ _ (World.setCells (v9.alloc (Obj.cells (vB (List.replicate 32 0#8)).toArray 26)) v9.heap.size 0 (vB x))); clear T9; (generalize World.setCells (v9.alloc (Obj.cells (vB (List.replicate 32 0#8)).toArray 26)) v9.heap.size 0 (vB x) = W9 at *); (generalize v9.heap.size = p13 at *); clear v9)
      | (refine wpList_load_w rfl 26 (.tmp 8) rfl p8 0 rfl (vB x) _ R8.all Tryd.underlying26 rfl Jx ?_; simp only [Act.put, List.setIfInBounds_toArray, List.set_cons_zero, List.set_cons_succ])
      | (refine wpList_load_w rfl 26 (.tmp 13) rfl p13 0 rfl (vB x) _ R13.all Tryd.underlying26 rfl Jx ?_; simp only [Act.put, List.setIfInBounds_toArray, List.set_cons_zero, List.set_cons_succ])
      | (refine wpList_neq_same rfl 26 (.tmp 85) (.tmp 86) 26 rfl 5 32 x rfl rfl Tryd.underlying26 Tryd.underlying5 info_u8 Kx.out guard_dig ?_; simp only [Act.put, List.setIfInBounds_toArray, List.set_cons_zero, List.set_cons_succ]))
    go_ret
    exact ⟨rfl, hW9⟩
  · have h8i : (r : Int) % 8 ≠ 0 := by omega
    have hj0i : (0 : Int) < (j.length : Int) := by omega
    rcases HVJ.out with ⟨e0, _⟩ | ⟨jb, jo, cq, hiv, _, hir⟩
    · exfalso; rw [e0] at hj0; exact hj0 rfl
    simp only [Value.slice.injEq] at hiv
    obtain ⟨hA2, _, hc2⟩ := hiv
    have gj0 := range_below hir hW5 (Nat.le_refl _) 0 _ (vB_get j 0 (by omega))
    rw [Nat.add_zero] at gj0
    have hk1 : 1 ≤ k := by have := HKK.out; omega
    have gq := Rg.cell (k - 1) _ (vB_get q (k - 1) (by rw [HQL.out]; omega))
    have gqf := Rg.thaw (k - 1)
    have HS0 := behind_set d j r (j.getD 0 0) hr h8
    rw [← HQ.out, ← HKK.out] at HS0
    have HS1 : Hid _ := HS0
    generalize j.getD 0 0 = y at gj0 HS1
    obtain ⟨qx, hqx⟩ : ∃ qx, qx = q.getD (k - 1) 0 := ⟨_, rfl⟩
    have HQX : Hid _ := hqx
    rw [← hqx] at gq
    have hj0n : 0 < j.length := by omega
    clear HS0 hqx hir h8 hj0 hc2
    subst hA2
    go_wp2
    refine wp_region_quiet_tail (C := fun w' => ∃ n, w' = W5.drewN n) 15 (by kernel_rfl) (by kernel_rfl) ⟨1, rfl⟩ ?_
    simp only [List.take_succ_cons, List.take_zero, List.drop_succ_cons, List.drop_zero]
    repeat (go_big_quiet_step (fail))
    refine wpQuiet_nil ?_
    intro w' hw'
    obtain ⟨nq, rfl⟩ := hw'
    rw [mask_byte, and_byte, or_byte]
    obtain ⟨z, hz⟩ : ∃ z, z = (qx &&& ~~~(255#8 >>> (r % 8))) ||| (y &&& (255#8 >>> (r % 8))) := ⟨_, rfl⟩
    rw [← hz]
    obtain ⟨q2, hq2⟩ : ∃ q2, q2 = q.set (k - 1) z := ⟨_, rfl⟩
    have HX : Hid (x = dbits (q2 ++ j) r) := by show _ = _; rw [Hx.out, hq2, hz, HQX.out]; exact HS1.out.symm
    have HQ2 : Hid (q2.length = k) := by show _ = _; rw [hq2, List.length_set, HQL.out]
    have Rg2 := (Rg.drewN nq).set (k - 1) (.int .u8 (c z))
    rw [vB_set, ← hq2] at Rg2
    have n8 := Row.ne R8 Rg (by decide)
    replace R8 := Row.set_other (R8.drewN nq) g (k - 1) (.int .u8 (c z)) n8
    have hW6 := Below.setCell (below_drewN hW5 nq) (p := ⟨g, k - 1, none⟩) hgw (.int .u8 (c z))
    refine wpList_store1 rfl 5 (.tmp 64) (.tmp 63) rfl g (k - 1) (.int .u8 (c z)) rfl rfl rfl (Row.there (Rg.drewN nq) _ 1 (by rw [vB_length, HQL.out]; omega)) info_u8 rfl ?_
    simp only [Act.put]
    clear hz hq2 n8 Rg hW5 gq gqf gj0
    generalize (W5.drewN nq).setCell ⟨g, k - 1, none⟩ (.int .u8 (c z)) = W6 at *
    clear W5
    have hown : W6.ownsRow g 5 1 (.slice (some ⟨g, 0, none⟩) k k) k (vB q2) := row_owns (Nat.le_refl _) HQ2.out (by omega) Rg2
    have HOWN : Hid _ := hown
    have hgl := Row.lt Rg2
    have hSJ : SlAt W6 (.slice (some ⟨jb, jo, none⟩) j.length cap2) j := SlAt.below HVJ.out hW6 (Nat.le_refl _)
    have HSJ : Hid _ := hSJ
    have hne8 : p8 ≠ g := Row.ne R8 Rg2 (by decide)
    have hl8 := Row.lt R8
    clear hown hSJ Rg2
    go_wp2_with (refine wpList_append_bytes rfl (.tmp 65) (.tmp 66) rfl W6 w w.heap.size g _ k j.length q2 j HOWN.out rfl (some ⟨jb, jo, none⟩) cap2 rfl rfl HSJ.out HNIL.out (by omega) (Nat.le_of_lt hgl) hgw hW6 ?_; intro v7 W7 ho7 hW7 hg7; (replace R8 := (hg7.block p8 hl8 (by simp [Value.ownBlock]; exact hne8)).trans R8); (obtain ⟨hs7, A7, c7, rfl⟩ := owns_slAt ho7); simp only [Act.put, List.setIfInBounds_toArray, List.set_cons_zero, List.set_cons_succ]; clear ho7 hg7 HOWN HSJ hl8 hne8 hgl hW6)
    have hl7 : (q2 ++ j).length = k + j.length := by rw [List.length_append, HQ2.out]
    have HS7 : Hid (SlAt W7 (.slice A7 (k + j.length) c7) (q2 ++ j)) := hs7
    have HL7 : Hid _ := hl7
    clear hs7 hl7
    refine (bits_k (q2 ++ j) x (k + j.length) HL7.out (by omega) A7 c7 r (by omega) HX.out W7 (hK.below hW7 hK.lt) HS7.out).mono ?_
    rintro e v9 ⟨rfl, hD9⟩
    obtain ⟨hS9, R13⟩ := digest_laid x Kx.out hD9
    have T9 := digest_there v9 x Kx.out
    have hW9 := hW7.trans (hS9.mono hW7.size)
    replace R8 := Row.below R8 hS9 (Row.lt R8)
    clear hD9 hS9 hW7
    go_wp2_with (first
      | (refine wpList_store_mid rfl 26 (.tmp 13) (.tmp 72) rfl v9.heap.size 0 (vB x).toArray rfl rfl T9 Ix Ox ?_; simp only [Act.put]; (change wpList _ _ _ _ _ (World.setCells (v9.alloc (Obj.cells (vB (List.replicate 32 0#8)).toArray 26)) v9.heap.size 0 (vB x))); clear T9; (generalize World.setCells (v9.alloc (Obj.cells (vB (List.replicate 32 0#8)).toArray 26)) v9.heap.size 0 (vB x) = W9 at *); (generalize v9.heap.size = p13 at *); clear v9)
      | (refine wpList_load_w rfl 26 (.tmp 8) rfl p8 0 rfl (vB x) _ R8.all Tryd.underlying26 rfl Jx ?_; simp only [Act.put, List.setIfInBounds_toArray, List.set_cons_zero, List.set_cons_succ])
      | (refine wpList_load_w rfl 26 (.tmp 13) rfl p13 0 rfl (vB x) _ R13.all Tryd.underlying26 rfl Jx ?_; simp only [Act.put, List.setIfInBounds_toArray, List.set_cons_zero, List.set_cons_succ])
      | (refine wpList_neq_same rfl 26 (.tmp 85) (.tmp 86) 26 rfl 5 32 x rfl rfl Tryd.underlying26 Tryd.underlying5 info_u8 Kx.out guard_dig ?_; simp only [Act.put, List.setIfInBounds_toArray, List.set_cons_zero, List.set_cons_succ]))
    go_ret
    exact ⟨rfl, hW9⟩

end Go.Proofs.YtihigbkanbabeaaDoor
