/-
  causewayref02.Sub.
-/
import Derived.Test.YtkbdnebmekhcdaaWDg
import Derived.Test.YtkbdnebmekhcdaaWLess
import Derived.Test.YtkbdnebmekhcdaaWRef
namespace Go.Proofs.Ytkbdnebmekhcdaa
open Go Go.RowKit
open Wd

set_option maxRecDepth 100000 in
set_option maxHeartbeats 4000000 in
theorem refSub_under (a b : Nat) (ha : a < 2 ^ 256) (hb : b < 2 ^ 256) (hba : a < b) (w : World) :
    Calls Try.prog 18 #[.agg (vQ (dgs a 4)).toArray, .agg (vQ (dgs b 4)).toArray] w fun e w' => e = .returned (.tuple #[.agg (vQ (dgs 0 4)).toArray, .int .i64 23]) ∧ Below w.heap.size w w' := by
  have HCP : Hid (∀ w, _) := fun w => refCmp_any a b ha hb w
  rw [show cmpR a b = -1 by unfold cmpR; rw [if_neg (by omega), if_pos hba]] at HCP
  obtain ⟨ca, Ha⟩ : ∃ c, Wc c a := ⟨_, rfl⟩
  obtain ⟨cb, Hb⟩ : ∃ c, Wc c b := ⟨_, rfl⟩
  rw [← show ca = vQ (dgs a 4) from Ha] at HCP ⊢
  rw [← show cb = vQ (dgs b 4) from Hb] at HCP ⊢
  clear ha hb hba
  have hb1 : Below w.heap.size w (((w.alloc (Obj.cells ca.toArray 33)).alloc (Obj.cells cb.toArray 33)).alloc (Obj.cells #[Value.int IntKind.u64 0, Value.int IntKind.u64 0, Value.int IntKind.u64 0, Value.int IntKind.u64 0] 33)) := (((Below.refl _ _).alloc (Nat.le_refl _) _).alloc (by simp) _).alloc (by simp; omega) _
  have r0 : Row (((w.alloc (Obj.cells ca.toArray 33)).alloc (Obj.cells cb.toArray 33)).alloc (Obj.cells #[Value.int IntKind.u64 0, Value.int IntKind.u64 0, Value.int IntKind.u64 0, Value.int IntKind.u64 0] 33)) w.heap.size ca 33 := ((Row.new w ca _).alloc _).alloc _
  have r1 : Row (((w.alloc (Obj.cells ca.toArray 33)).alloc (Obj.cells cb.toArray 33)).alloc (Obj.cells #[Value.int IntKind.u64 0, Value.int IntKind.u64 0, Value.int IntKind.u64 0, Value.int IntKind.u64 0] 33)) (w.heap.size + 1) cb 33 := (Row.new' (by simp) rfl).alloc _
  have r2 : Row (((w.alloc (Obj.cells ca.toArray 33)).alloc (Obj.cells cb.toArray 33)).alloc (Obj.cells #[Value.int IntKind.u64 0, Value.int IntKind.u64 0, Value.int IntKind.u64 0, Value.int IntKind.u64 0] 33)) (w.heap.size + 2) (vQ (List.replicate 4 0)) 33 := Row.new' (by simp) rfl
  go_enter Try.func18, Try.ntmps18
  go_wp2_with (first
    | (refine wpList_load_w rfl 33 (.tmp 2) rfl w.heap.size 0 rfl ca _ r0.all Try.underlying33 rfl Ha.info ?_; simp only [Act.put, List.setIfInBounds_toArray, List.set_cons_zero, List.set_cons_succ])
    | (refine wpList_load_w rfl 33 (.tmp 3) rfl (w.heap.size + 1) 0 rfl cb _ r1.all Try.underlying33 rfl Hb.info ?_; simp only [Act.put, List.setIfInBounds_toArray, List.set_cons_zero, List.set_cons_succ])
    | (go_at_call 26; refine (HCP.out _).mono ?_; rintro e W0 ⟨rfl, hBc⟩; (replace r0 := Row.below r0 hBc (Row.lt r0)); (replace r1 := Row.below r1 hBc (Row.lt r1)); (replace r2 := Row.below r2 hBc (Row.lt r2)); (replace hb1 := hb1.trans (hBc.mono hb1.size)); clear hBc HCP)
    | (refine wpList_store_mid rfl 33 (.tmp 4) (.tmp 10) rfl (w.heap.size + 2) 0 (vQ (List.replicate 4 0)).toArray rfl rfl (r2.there 0 (vQ (List.replicate 4 0)).toArray.size (Nat.le_refl 4)) info_w4 (all_oneCell_toArray (vQ_one _)) ?_; simp only [Act.put]))
  have fin := r2.over (vs := vQ (List.replicate 4 0)) rfl
  have hbf := below_setCells hb1 (b := w.heap.size + 2) (o := 0) (by omega) (vQ (List.replicate 4 0))
  exact bodyPost_ret (results_row_tmp Try.results18 _ _ (w.heap.size + 2) 33 (vQ (List.replicate 4 0)) (.int .i64 23) rfl rfl fin Try.underlying33 info_w4 rfl) rfl ⟨by rw [dgs_zero], hbf⟩

set_option maxRecDepth 100000 in
set_option maxHeartbeats 4000000 in
theorem refSub_any (a b : Nat) (ha : a < 2 ^ 256) (hb : b < 2 ^ 256) (hba : b ≤ a) (w : World) :
    Calls Try.prog 18 #[.agg (vQ (dgs a 4)).toArray, .agg (vQ (dgs b 4)).toArray] w fun e w' => e = .returned (.tuple #[.agg (vQ (dgs (numR (a - b)) 4)).toArray, .int .i64 (ansErr (a - b))]) ∧ Below w.heap.size w w' := by
  have HDA : Hid (∀ w, _) := digits_any a ha
  have HDB : Hid (∀ w, _) := digits_any b hb
  have HLA : Hid (blen a ≤ 256) := blen_le a 256 ha
  have HLB : Hid (blen b ≤ 256) := blen_le b 256 hb
  have HCP : Hid (∀ w, _) := fun w => refCmp_any a b ha hb w
  obtain ⟨C, hC, hC0⟩ : ∃ C : Int, C = cmpR a b ∧ ¬ C < 0 := ⟨_, rfl, by unfold cmpR; split; decide; rw [if_neg (by omega)]; decide⟩
  rw [← hC] at HCP
  clear hC
  obtain ⟨ca, Ha⟩ : ∃ c, Wc c a := ⟨_, rfl⟩
  obtain ⟨cb, Hb⟩ : ∃ c, Wc c b := ⟨_, rfl⟩
  rw [← show ca = vQ (dgs a 4) from Ha] at HDA HCP ⊢
  rw [← show cb = vQ (dgs b 4) from Hb] at HDB HCP ⊢
  have HOP : Hid (∀ (N M : Nat) (w : World), Row w N (vI (bts a 256)) 3 → Row w M (vI (bts b 256)) 3 → Calls Try.prog 46 #[.slice (some ⟨N, 0, none⟩) (blen a) 256, .slice (some ⟨M, 0, none⟩) (blen b) 256] w fun e w' => ∃ v, e = .returned v ∧ Dg w' v (blen ((a - b))) ((a - b)) ∧ Below w.heap.size w w') := fun N M w r1 r2 => less_cl a b N M (blen a) (blen b) 256 256 hba (blen_lt a) (blen_lt b) (Nat.lt_of_le_of_lt HLA.out (by decide)) w ((Cl.row r1).less HLA.out) ((Cl.row r2).less HLB.out)
  have HAN : Hid (∀ (v : Value) (w : World), Dg w v (blen ((a - b))) ((a - b)) → _) := fun v w h => answered_dg v (blen ((a - b))) ((a - b)) w h
  obtain ⟨m, hm⟩ : ∃ m, m = (a - b) := ⟨_, rfl⟩
  rw [← hm] at HOP HAN ⊢
  clear hm
  obtain ⟨cR, HR⟩ : ∃ c, Wc c (numR m) := ⟨_, rfl⟩
  rw [← show cR = vQ (dgs (numR m) 4) from HR] at HAN ⊢
  generalize ansErr m = E at *
  clear ha hb HLA HLB
  have hb1 : Below w.heap.size w (((w.alloc (Obj.cells ca.toArray 33)).alloc (Obj.cells cb.toArray 33)).alloc (Obj.cells #[Value.int IntKind.u64 0, Value.int IntKind.u64 0, Value.int IntKind.u64 0, Value.int IntKind.u64 0] 33)) := (((Below.refl _ _).alloc (Nat.le_refl _) _).alloc (by simp) _).alloc (by simp; omega) _
  have r0 : Row (((w.alloc (Obj.cells ca.toArray 33)).alloc (Obj.cells cb.toArray 33)).alloc (Obj.cells #[Value.int IntKind.u64 0, Value.int IntKind.u64 0, Value.int IntKind.u64 0, Value.int IntKind.u64 0] 33)) w.heap.size ca 33 := ((Row.new w ca _).alloc _).alloc _
  have r1 : Row (((w.alloc (Obj.cells ca.toArray 33)).alloc (Obj.cells cb.toArray 33)).alloc (Obj.cells #[Value.int IntKind.u64 0, Value.int IntKind.u64 0, Value.int IntKind.u64 0, Value.int IntKind.u64 0] 33)) (w.heap.size + 1) cb 33 := (Row.new' (by simp) rfl).alloc _
  have r2 : Row (((w.alloc (Obj.cells ca.toArray 33)).alloc (Obj.cells cb.toArray 33)).alloc (Obj.cells #[Value.int IntKind.u64 0, Value.int IntKind.u64 0, Value.int IntKind.u64 0, Value.int IntKind.u64 0] 33)) (w.heap.size + 2) (vQ (List.replicate 4 0)) 33 := Row.new' (by simp) rfl
  go_enter Try.func18, Try.ntmps18
  go_wp2_with (first
    | (refine wpList_load_w rfl 33 (.tmp 2) rfl w.heap.size 0 rfl ca _ r0.all Try.underlying33 rfl Ha.info ?_; simp only [Act.put, List.setIfInBounds_toArray, List.set_cons_zero, List.set_cons_succ])
    | (refine wpList_load_w rfl 33 (.tmp 3) rfl (w.heap.size + 1) 0 rfl cb _ r1.all Try.underlying33 rfl Hb.info ?_; simp only [Act.put, List.setIfInBounds_toArray, List.set_cons_zero, List.set_cons_succ])
    | (go_at_call 26; refine (HCP.out _).mono ?_; rintro e W0 ⟨rfl, hBc⟩; (replace r0 := Row.below r0 hBc (Row.lt r0)); (replace r1 := Row.below r1 hBc (Row.lt r1)); (replace r2 := Row.below r2 hBc (Row.lt r2)); (replace hb1 := hb1.trans (hBc.mono hb1.size)); clear hBc HCP))
  refine wp_region_inv (by kernel_rfl) (fun listed act W => ∃ (b0 b1 b2 b3 b4 b5 b6 b7 b8 b9 : Bool) (N12 N14 : Nat) (x5 x11 x12 x13 x14 x15 x16 x17 x18 : Value), listed = #[b0, b1, b2, b3, b4, b5, b6, b7, b8, b9] ∧ act = { tmps := #[.agg ca.toArray, .agg cb.toArray, .pointer (some ⟨w.heap.size, 0, none⟩), .pointer (some ⟨w.heap.size + 1, 0, none⟩), .pointer (some ⟨w.heap.size + 2, 0, none⟩), x5, .agg ca.toArray, .agg cb.toArray, .int .i64 C, .bool (decide (C < 0)), undef, x11, x12, x13, x14, x15, x16, x17, x18], defers := [] } ∧ Below w.heap.size w W ∧ Row W w.heap.size ca 33 ∧ Row W (w.heap.size + 1) cb 33 ∧ Row W (w.heap.size + 2) (if b8 = true then cR else vQ (List.replicate 4 0)) 33 ∧ (b0 = true → x11 = .agg ca.toArray) ∧ (b2 = true → x13 = .agg cb.toArray) ∧ (b5 = true → x16 = .tuple #[.agg cR.toArray, .int .i64 E]) ∧ (b6 = true → x17 = .agg cR.toArray) ∧ (b7 = true → x18 = .int .i64 E) ∧ (b9 = true → x5 = .int .i64 E) ∧ (b1 = true → b8 = false → x12 = .slice (some ⟨N12, 0, none⟩) (blen a) 256 ∧ Row W N12 (vI (bts a 256)) 3) ∧ (b3 = true → b8 = false → x14 = .slice (some ⟨N14, 0, none⟩) (blen b) 256 ∧ Row W N14 (vI (bts b 256)) 3) ∧ (b4 = true → b8 = false → Dg W x15 (blen m) m) ∧ (b8 = true → b4 = true ∧ b5 = true)) ?_ ?_ ?_
  · exact ⟨false, false, false, false, false, false, false, false, false, false, 0, 0, .int .i64 0, undef, undef, undef, undef, undef, undef, undef, undef, rfl, rfl, Below.drew hb1, Row.drew r0, Row.drew r1, (by rw [if_neg (by decide)]; exact Row.drew r2), (fun h => by cases h), (fun h => by cases h), (fun h => by cases h), (fun h => by cases h), (fun h => by cases h), (fun h => by cases h), (fun h => by cases h), (fun h => by cases h), (fun h => by cases h), (fun h => by cases h)⟩
  · clear hb1 r0 r1 r2 
    intro listed act W k hI hk
    obtain ⟨b0, b1, b2, b3, b4, b5, b6, b7, b8, b9, N12, N14, x5, x11, x12, x13, x14, x15, x16, x17, x18, rfl, rfl, hb1, r0, r1, r2, f0, f1, f2, f3, f4, f5, f6, f7, f8, f9⟩ := hI
    have hk2 := (List.mem_filter.1 hk).2
    have hk1 : k < 10 := List.mem_range.1 (List.mem_filter.1 hk).1
    clear hk
    rcases (show k = 0 ∨ k = 1 ∨ k = 2 ∨ k = 3 ∨ k = 4 ∨ k = 5 ∨ k = 6 ∨ k = 7 ∨ k = 8 ∨ k = 9 by omega) with rfl | rfl | rfl | rfl | rfl | rfl | rfl | rfl | rfl | rfl
    · exact wpOp_plain rfl rfl (wp_load_mid 33 (.tmp 2) rfl w.heap.size 0 rfl ca _ r0.all Try.underlying33 rfl Ha.info ⟨true, b1, b2, b3, b4, b5, b6, b7, b8, b9, N12, N14, x5, .agg ca.toArray, x12, x13, x14, x15, x16, x17, x18, rfl, rfl, hb1, r0, r1, r2, fun _ => rfl, f1, f2, f3, f4, f5, f6, f7, f8, f9⟩)
    · simp [Region.binds] at hk2
      obtain rfl := f0 (by simp [hk2])
      refine wpOp_plain rfl rfl (wp_fcall 45 #[.agg ca.toArray] (by go_simp) ((HDA.out W).mono ?_))
      rintro e W2 ⟨yN, yL, yR, rfl, hB2⟩
      exact ⟨_, rfl, b0, true, b2, b3, b4, b5, b6, b7, b8, b9, yN, N14, x5, .agg ca.toArray, .slice (some ⟨yN, 0, none⟩) (blen a) 256, x13, x14, x15, x16, x17, x18, rfl, rfl, hb1.trans (hB2.mono hb1.size), Row.below r0 hB2 (Row.lt r0), Row.below r1 hB2 (Row.lt r1), Row.below r2 hB2 (Row.lt r2), fun _ => rfl, f1, f2, f3, f4, f5, fun _ _ => ⟨rfl, yR⟩, fun h g => ⟨(f7 h g).1, Row.below (f7 h g).2 hB2 (Row.lt (f7 h g).2)⟩, fun h g => (f8 h g).below hB2, f9⟩
    · exact wpOp_plain rfl rfl (wp_load_mid 33 (.tmp 3) rfl (w.heap.size + 1) 0 rfl cb _ r1.all Try.underlying33 rfl Hb.info ⟨b0, b1, true, b3, b4, b5, b6, b7, b8, b9, N12, N14, x5, x11, x12, .agg cb.toArray, x14, x15, x16, x17, x18, rfl, rfl, hb1, r0, r1, r2, f0, fun _ => rfl, f2, f3, f4, f5, f6, f7, f8, f9⟩)
    · simp [Region.binds] at hk2
      obtain rfl := f1 (by simp [hk2])
      refine wpOp_plain rfl rfl (wp_fcall 45 #[.agg cb.toArray] (by go_simp) ((HDB.out W).mono ?_))
      rintro e W2 ⟨yN, yL, yR, rfl, hB2⟩
      exact ⟨_, rfl, b0, b1, b2, true, b4, b5, b6, b7, b8, b9, N12, yN, x5, x11, x12, .agg cb.toArray, .slice (some ⟨yN, 0, none⟩) (blen b) 256, x15, x16, x17, x18, rfl, rfl, hb1.trans (hB2.mono hb1.size), Row.below r0 hB2 (Row.lt r0), Row.below r1 hB2 (Row.lt r1), Row.below r2 hB2 (Row.lt r2), f0, fun _ => rfl, f2, f3, f4, f5, fun h g => ⟨(f6 h g).1, Row.below (f6 h g).2 hB2 (Row.lt (f6 h g).2)⟩, fun _ _ => ⟨rfl, yR⟩, fun h g => (f8 h g).below hB2, f9⟩
    · simp [Region.binds] at hk2
      have h8 : b8 = false := by
        cases e8 : b8 with
        | false => rfl
        | true => exact absurd (f9 e8).1 (by simp [hk2])
      obtain ⟨rfl, y1⟩ := f6 (by simp [hk2]) h8
      obtain ⟨rfl, y3⟩ := f7 (by simp [hk2]) h8
      refine wpOp_plain rfl rfl (wp_fcall 46 #[.slice (some ⟨N12, 0, none⟩) (blen a) 256, .slice (some ⟨N14, 0, none⟩) (blen b) 256] (by go_simp) ((HOP.out N12 N14 W y1 y3).mono ?_))
      rintro e W2 ⟨yv, rfl, yD, hB2⟩
      exact ⟨_, rfl, b0, b1, b2, b3, true, b5, b6, b7, b8, b9, N12, N14, x5, x11, .slice (some ⟨N12, 0, none⟩) (blen a) 256, x13, .slice (some ⟨N14, 0, none⟩) (blen b) 256, yv, x16, x17, x18, rfl, rfl, hb1.trans (hB2.mono hb1.size), Row.below r0 hB2 (Row.lt r0), Row.below r1 hB2 (Row.lt r1), Row.below r2 hB2 (Row.lt r2), f0, f1, f2, f3, f4, f5, fun _ _ => ⟨rfl, Row.below y1 hB2 (Row.lt y1)⟩, fun _ _ => ⟨rfl, Row.below y3 hB2 (Row.lt y3)⟩, fun _ _ => yD, fun h => ⟨rfl, (f9 h).2⟩⟩
    · simp [Region.binds] at hk2
      have h8 : b8 = false := by
        cases e8 : b8 with
        | false => rfl
        | true => exact absurd (f9 e8).2 (by simp [hk2])
      have y4 := f8 (by simp [hk2]) h8
      refine wpOp_plain rfl rfl (wp_fcall 43 #[x15] (by go_simp) ((HAN.out x15 W y4).mono ?_))
      rintro e W2 ⟨rfl, hB2⟩
      exact ⟨_, rfl, b0, b1, b2, b3, b4, true, b6, b7, b8, b9, N12, N14, x5, x11, x12, x13, x14, x15, .tuple #[.agg cR.toArray, .int .i64 E], x17, x18, rfl, rfl, hb1.trans (hB2.mono hb1.size), Row.below r0 hB2 (Row.lt r0), Row.below r1 hB2 (Row.lt r1), Row.below r2 hB2 (Row.lt r2), f0, f1, fun _ => rfl, f3, f4, f5, fun h g => ⟨(f6 h g).1, Row.below (f6 h g).2 hB2 (Row.lt (f6 h g).2)⟩, fun h g => ⟨(f7 h g).1, Row.below (f7 h g).2 hB2 (Row.lt (f7 h g).2)⟩, fun h g => (f8 h g).below hB2, fun h => ⟨(f9 h).1, rfl⟩⟩
    · simp [Region.binds] at hk2
      obtain rfl := f2 (by simp [hk2])
      exact wpOp_plain rfl rfl (wp_extract (.tmp 16) 0 rfl _ rfl _ rfl ⟨b0, b1, b2, b3, b4, b5, true, b7, b8, b9, N12, N14, x5, x11, x12, x13, x14, x15, .tuple #[.agg cR.toArray, .int .i64 E], .agg cR.toArray, x18, rfl, rfl, hb1, r0, r1, r2, f0, f1, fun _ => rfl, fun _ => rfl, f4, f5, f6, f7, f8, f9⟩)
    · simp [Region.binds] at hk2
      obtain rfl := f2 (by simp [hk2])
      exact wpOp_plain rfl rfl (wp_extract (.tmp 16) 1 rfl _ rfl _ rfl ⟨b0, b1, b2, b3, b4, b5, b6, true, b8, b9, N12, N14, x5, x11, x12, x13, x14, x15, .tuple #[.agg cR.toArray, .int .i64 E], x17, .int .i64 E, rfl, rfl, hb1, r0, r1, r2, f0, f1, fun _ => rfl, f3, fun _ => rfl, f5, f6, f7, f8, f9⟩)
    · simp [Region.binds] at hk2
      obtain rfl : b6 = true := by simp [hk2]
      obtain rfl : b8 = false := by simp [hk2]
      obtain rfl := f3 rfl
      obtain rfl : b4 = true := by simp [hk2]
      obtain rfl : b5 = true := by simp [hk2]
      rw [if_neg (by decide)] at r2
      have T := r2.there 0 cR.toArray.size (by simp [HR.len, vQ_length])
      have fin := r2.over (vs := cR) (by rw [HR.len]; rfl)
      exact wpOp_plain rfl rfl (wp_store_mid 33 (.tmp 4) (.tmp 17) rfl (w.heap.size + 2) 0 cR.toArray rfl rfl T HR.info' HR.one ⟨b0, b1, b2, b3, true, true, true, b7, true, b9, N12, N14, x5, x11, x12, x13, x14, x15, x16, .agg cR.toArray, x18, rfl, rfl, below_setCells hb1 (by omega) _, Row.setCells_other r0 _ _ _ (by omega), Row.setCells_other r1 _ _ _ (by omega), (by rw [if_pos rfl]; exact fin), f0, f1, f2, fun _ => rfl, f4, f5, (fun _ h => by cases h), (fun _ h => by cases h), (fun _ h => by cases h), fun _ => ⟨rfl, rfl⟩⟩)
    · simp [Region.binds] at hk2
      obtain rfl := f4 (by simp [hk2])
      exact wpOp_plain rfl rfl (wp_assign (.tmp 18) rfl ⟨b0, b1, b2, b3, b4, b5, b6, b7, b8, true, N12, N14, .int .i64 E, x11, x12, x13, x14, x15, x16, x17, .int .i64 E, rfl, rfl, hb1, r0, r1, r2, f0, f1, f2, f3, fun _ => rfl, fun _ => rfl, f6, f7, f8, f9⟩)
  · clear hb1 r0 r1 r2 
    intro listed act W hI hr
    obtain ⟨b0, b1, b2, b3, b4, b5, b6, b7, b8, b9, N12, N14, x5, x11, x12, x13, x14, x15, x16, x17, x18, rfl, rfl, hb1, r0, r1, r2, f0, f1, f2, f3, f4, f5, f6, f7, f8, f9⟩ := hI
    have hr2 := List.filter_eq_nil_iff.1 hr
    obtain rfl : b0 = true := by have := hr2 0 (List.mem_range.2 (by decide)); simpa [Region.binds] using this
    obtain rfl : b1 = true := by have := hr2 1 (List.mem_range.2 (by decide)); simpa [Region.binds] using this
    obtain rfl : b2 = true := by have := hr2 2 (List.mem_range.2 (by decide)); simpa [Region.binds] using this
    obtain rfl : b3 = true := by have := hr2 3 (List.mem_range.2 (by decide)); simpa [Region.binds] using this
    obtain rfl : b4 = true := by have := hr2 4 (List.mem_range.2 (by decide)); simpa [Region.binds] using this
    obtain rfl : b5 = true := by have := hr2 5 (List.mem_range.2 (by decide)); simpa [Region.binds] using this
    obtain rfl : b6 = true := by have := hr2 6 (List.mem_range.2 (by decide)); simpa [Region.binds] using this
    obtain rfl : b7 = true := by have := hr2 7 (List.mem_range.2 (by decide)); simpa [Region.binds] using this
    obtain rfl : b8 = true := by have := hr2 8 (List.mem_range.2 (by decide)); simpa [Region.binds] using this
    obtain rfl : b9 = true := by have := hr2 9 (List.mem_range.2 (by decide)); simpa [Region.binds] using this
    rw [if_pos rfl] at r2
    obtain rfl := f5 rfl
    clear hr hr2 f0 f1 f2 f3 f4 f5 f6 f7 f8 f9
    go_wp2
    exact bodyPost_ret (results_row_tmp Try.results18 _ _ (w.heap.size + 2) 33 cR (.int .i64 E) rfl rfl r2 Try.underlying33 info_w4 HR.len) rfl ⟨rfl, hb1⟩

theorem refSub_c (a b : Nat) (ha : a < 2 ^ 256) (hb : b < 2 ^ 256) (w : World) :
    Calls Try.prog 18 #[.agg (vQ (dgs a 4)).toArray, .agg (vQ (dgs b 4)).toArray] w fun e w' => e = .returned (.tuple #[.agg (vQ (dgs (subR a b) 4)).toArray, .int .i64 (subE a b)]) ∧ Below w.heap.size w w' := by
  by_cases h : a < b
  · rw [show subR a b = 0 from if_pos h, show subE a b = 23 from if_pos h]; exact refSub_under a b ha hb h w
  · have h1 : a - b < 2 ^ 256 := by omega
    rw [show subR a b = a - b from if_neg h, show subE a b = 0 from if_neg h]
    have := refSub_any a b ha hb (by omega) w
    rw [show numR (a - b) = a - b from if_pos h1, show ansErr (a - b) = 0 from if_pos h1] at this
    exact this

end Go.Proofs.Ytkbdnebmekhcdaa
