/-
  wide.MulDiv.
-/
import Derived.Test.YtehccmlbnfhhmabDoorWDivv
namespace Go.Proofs.YtehccmlbnfhhmabDoor
open Go Go.RowKit
open Wd

set_option maxRecDepth 100000 in
set_option maxHeartbeats 4000000 in
theorem mulDiv_any (a b c : Nat) (ha : a < 2 ^ 256) (hb : b < 2 ^ 256) (hc : c < 2 ^ 256) (w : World) :
    Calls Tryd.prog 12 #[.agg (vQ (dgs a 4)).toArray, .agg (vQ (dgs b 4)).toArray, .agg (vQ (dgs c 4)).toArray] w fun e w' => e = .returned (.tuple #[.agg (vQ (dgs (mdR a b c) 4)).toArray, .int .i64 (mdE a b c)]) ∧ Below w.heap.size w w' := by
  have hab : a * b < 18446744073709551616 ^ 8 := by
    have h1 : a * b ≤ (2 ^ 256 - 1) * (2 ^ 256 - 1) := Nat.mul_le_mul (by omega) (by omega)
    exact Nat.lt_of_le_of_lt h1 (by decide)
  have HZ : Hid (∀ w, _) := isZero_any c hc
  have HTM : Hid (∀ w, _) := times_any a b ha hb
  obtain ⟨m, hm⟩ : ∃ m, m = a * b := ⟨_, rfl⟩
  rw [← hm] at HTM hab
  have HDV : Hid (0 < c → ∀ w, Calls Tryd.prog 27 #[.agg (vQ (dgs m 8)).toArray, .agg (vQ (dgs c 4)).toArray] w fun e w' => e = .returned (.tuple #[.agg (vQ (dgs (m / c) 8)).toArray, .agg (vQ (dgs (m % c) 4)).toArray]) ∧ Below w.heap.size w w') := fun h0 w => divide_any m c hab hc h0 w
  have HHV : Hid (∀ w, _) := halves_any (m / c)
  have hov : m / c / 2 ^ 256 < 2 ^ 256 := by
    refine Nat.div_lt_of_lt_mul (Nat.lt_of_le_of_lt (Nat.div_le_self _ _) (Nat.lt_of_lt_of_le hab (by decide)))
  have HZO : Hid (∀ w, _) := isZero_any (m / c / 2 ^ 256) hov
  have HMD : Hid (mdR a b c = (if c = 0 then 0 else if m / c < 2 ^ 256 then m / c else 0) ∧ mdE a b c = (if c = 0 then 24 else if m / c < 2 ^ 256 then 0 else 22)) := by rw [hm]; exact ⟨rfl, rfl⟩
  obtain ⟨q, hq⟩ : ∃ q, q = m / c := ⟨_, rfl⟩
  obtain ⟨r, hr⟩ : ∃ r, r = m % c := ⟨_, rfl⟩
  rw [← hq, ← hr] at HDV
  rw [← hq] at HHV HZO HMD
  obtain ⟨ca, hca⟩ : ∃ ca, ca = vQ (dgs a 4) := ⟨_, rfl⟩
  obtain ⟨cb, hcb⟩ : ∃ cb, cb = vQ (dgs b 4) := ⟨_, rfl⟩
  obtain ⟨cc, hcc⟩ : ∃ cc, cc = vQ (dgs c 4) := ⟨_, rfl⟩
  obtain ⟨cd, hcd⟩ : ∃ cd, cd = vQ (dgs m 8) := ⟨_, rfl⟩
  obtain ⟨cq, hcq⟩ : ∃ cq, cq = vQ (dgs q 8) := ⟨_, rfl⟩
  obtain ⟨cr, hcr⟩ : ∃ cr, cr = vQ (dgs r 4) := ⟨_, rfl⟩
  obtain ⟨cl, hcl⟩ : ∃ cl, cl = vQ (dgs q 4) := ⟨_, rfl⟩
  obtain ⟨ch, hch⟩ : ∃ ch, ch = vQ (dgs (q / 2 ^ 256) 4) := ⟨_, rfl⟩
  rw [← hcc] at HZ
  rw [← hca, ← hcb, ← hcd] at HTM
  rw [← hcd, ← hcc, ← hcq, ← hcr] at HDV
  rw [← hcq, ← hcl, ← hch] at HHV
  rw [← hch] at HZO
  rw [← hca, ← hcb, ← hcc]
  have la : ca.length = 4 := by rw [hca, vQ_length, dgs_length]
  have lb : cb.length = 4 := by rw [hcb, vQ_length, dgs_length]
  have lc : cc.length = 4 := by rw [hcc, vQ_length, dgs_length]
  have lq : cq.length = 8 := by rw [hcq, vQ_length, dgs_length]
  have lr : cr.length = 4 := by rw [hcr, vQ_length, dgs_length]
  have ll : cl.length = 4 := by rw [hcl, vQ_length, dgs_length]
  have lh : ch.length = 4 := by rw [hch, vQ_length, dgs_length]
  have ia : (Tryd.prog.info? 24).map (·.size) = some ca.length := by rw [info_w4, la]
  have ib : (Tryd.prog.info? 24).map (·.size) = some cb.length := by rw [info_w4, lb]
  have ic : (Tryd.prog.info? 24).map (·.size) = some cc.length := by rw [info_w4, lc]
  have iq : (Tryd.prog.info? 54).map (·.size) = some cq.length := by rw [info_d8b, lq]
  have iq' : (Tryd.prog.info? 54).map (·.size) = some cq.toArray.size := by rw [info_d8b]; simp [lq]
  have ir' : (Tryd.prog.info? 24).map (·.size) = some cr.toArray.size := by rw [info_w4]; simp [lr]
  have il : (Tryd.prog.info? 24).map (·.size) = some cl.length := by rw [info_w4, ll]
  have il' : (Tryd.prog.info? 24).map (·.size) = some cl.toArray.size := by rw [info_w4]; simp [ll]
  have ih : (Tryd.prog.info? 24).map (·.size) = some ch.length := by rw [info_w4, lh]
  have ih' : (Tryd.prog.info? 24).map (·.size) = some ch.toArray.size := by rw [info_w4]; simp [lh]
  have oq := all_oneCell_toArray (show ∀ v ∈ cq, v.oneCell' = true by rw [hcq]; exact vQ_one _)
  have or := all_oneCell_toArray (show ∀ v ∈ cr, v.oneCell' = true by rw [hcr]; exact vQ_one _)
  have ol := all_oneCell_toArray (show ∀ v ∈ cl, v.oneCell' = true by rw [hcl]; exact vQ_one _)
  have oh := all_oneCell_toArray (show ∀ v ∈ ch, v.oneCell' = true by rw [hch]; exact vQ_one _)
  have HCL : Hid (vQ (dgs q 4) = cl) := hcl.symm
  have HLQ : Hid (cq.length = 8) := lq
  have HLR : Hid (cr.length = 4) := lr
  have HLL : Hid (cl.length = 4) := ll
  have HLH : Hid (ch.length = 4) := lh
  clear hca hcb hcc hcd hcq hcr hcl hch la lb lc ha hb hc lq lr ll lh hm hq hr hab hov
  have hb0 : Below w.heap.size w ((((w.alloc (Obj.cells ca.toArray 24)).alloc (Obj.cells cb.toArray 24)).alloc (Obj.cells cc.toArray 24)).alloc (Obj.cells #[Value.int IntKind.u64 0, Value.int IntKind.u64 0, Value.int IntKind.u64 0, Value.int IntKind.u64 0] 24)) := ((((Below.refl _ _).alloc (Nat.le_refl _) _).alloc (by simp) _).alloc (by simp; omega) _).alloc (by simp; omega) _
  have r0 : Row ((((w.alloc (Obj.cells ca.toArray 24)).alloc (Obj.cells cb.toArray 24)).alloc (Obj.cells cc.toArray 24)).alloc (Obj.cells #[Value.int IntKind.u64 0, Value.int IntKind.u64 0, Value.int IntKind.u64 0, Value.int IntKind.u64 0] 24)) w.heap.size ca 24 := (((Row.new w ca _).alloc _).alloc _).alloc _
  have r1 : Row ((((w.alloc (Obj.cells ca.toArray 24)).alloc (Obj.cells cb.toArray 24)).alloc (Obj.cells cc.toArray 24)).alloc (Obj.cells #[Value.int IntKind.u64 0, Value.int IntKind.u64 0, Value.int IntKind.u64 0, Value.int IntKind.u64 0] 24)) (w.heap.size + 1) cb 24 := ((Row.new' (by simp) rfl).alloc _).alloc _
  have r2 : Row ((((w.alloc (Obj.cells ca.toArray 24)).alloc (Obj.cells cb.toArray 24)).alloc (Obj.cells cc.toArray 24)).alloc (Obj.cells #[Value.int IntKind.u64 0, Value.int IntKind.u64 0, Value.int IntKind.u64 0, Value.int IntKind.u64 0] 24)) (w.heap.size + 1 + 1) cc 24 := (Row.new' (by simp) rfl).alloc _
  have r3 : Row ((((w.alloc (Obj.cells ca.toArray 24)).alloc (Obj.cells cb.toArray 24)).alloc (Obj.cells cc.toArray 24)).alloc (Obj.cells #[Value.int IntKind.u64 0, Value.int IntKind.u64 0, Value.int IntKind.u64 0, Value.int IntKind.u64 0] 24)) (w.heap.size + 1 + 1 + 1) (vQ (List.replicate 4 0)) 24 := Row.new' (by simp) rfl
  go_enter Tryd.func12, Tryd.ntmps12
  go_wp2_with (refine wpList_load_mid rfl 24 (.tmp 5) rfl (w.heap.size + 1 + 1) 0 rfl cc _ r2.all Tryd.underlying24 rfl ic ?_; simp only [Act.put, List.setIfInBounds_toArray, List.set_cons_zero, List.set_cons_succ])
  generalize ((((w.alloc (Obj.cells ca.toArray 24)).alloc (Obj.cells cb.toArray 24)).alloc (Obj.cells cc.toArray 24)).alloc (Obj.cells #[Value.int IntKind.u64 0, Value.int IntKind.u64 0, Value.int IntKind.u64 0, Value.int IntKind.u64 0] 24)) = W0 at *
  refine (HZ.out W0).mono ?_
  rintro e W1 ⟨rfl, hB⟩
  have hb1 := hb0.trans (hB.mono hb0.size)
  replace r0 := Row.below r0 hB (Row.lt r0)
  replace r1 := Row.below r1 hB (Row.lt r1)
  replace r2 := Row.below r2 hB (Row.lt r2)
  replace r3 := Row.below r3 hB (Row.lt r3)
  clear hB hb0 HZ
  by_cases hz : c = 0
  · have hd : decide (c = 0) = true := decide_eq_true hz
    rw [hd]
    have HR : Hid (mdR a b c = 0 ∧ mdE a b c = 24) := ⟨HMD.out.1.trans (if_pos hz), HMD.out.2.trans (if_pos hz)⟩
    clear hd hz HTM HDV HHV HZO HMD ia ib ic iq iq' ir' il il' ih ih' oq or ol oh
    have T2 := r3.there 0 (vQ (List.replicate 4 0)).toArray.size (Nat.le_refl 4)
    have f2 := r3.over (vs := vQ (List.replicate 4 0)) rfl
    have hbf := below_setCells hb1 (b := w.heap.size + 1 + 1 + 1) (o := 0) (by omega) (vQ (List.replicate 4 0))
    go_wp2_with (refine wpList_store_mid rfl 24 (.tmp 6) (.tmp 14) rfl (w.heap.size + 1 + 1 + 1) 0 (vQ (List.replicate 4 0)).toArray rfl rfl T2 info_w4 (all_oneCell_toArray (vQ_one _)) ?_; simp only [Act.put])
    exact bodyPost_ret (results_row_tmp Tryd.results12 _ _ (w.heap.size + 1 + 1 + 1) 24 (vQ (List.replicate 4 0)) (.int .i64 24) rfl rfl f2 Tryd.underlying24 info_w4 rfl) rfl ⟨by rw [HR.out.1, HR.out.2, dgs_zero], hbf⟩
  · have hd : decide (c = 0) = false := decide_eq_false hz
    rw [hd]
    have HMD2 : Hid (mdR a b c = (if q < 2 ^ 256 then q else 0) ∧ mdE a b c = (if q < 2 ^ 256 then 0 else 22)) := ⟨HMD.out.1.trans (if_neg hz), HMD.out.2.trans (if_neg hz)⟩
    have HD2 := HDV.out (by omega)
    have HDV2 : Hid _ := HD2
    clear hd hz HDV HD2 HMD
    go_wp2
    refine wp_region_inv (by kernel_rfl) (fun listed a W => ∃ (b0 b1 b2 b3 b4 b5 b6 b7 b8 b9 b10 b11 : Bool) (N8 N9 : Nat) (x8 x9 x15 x16 x17 x18 x19 x20 x21 x22 : Value), listed = #[b0, b1, b2, b3, b4, b5, b6, b7, b8, b9, b10, b11] ∧ a = { tmps := #[.agg ca.toArray, .agg cb.toArray, .agg cc.toArray, .pointer (some ⟨w.heap.size, 0, none⟩), .pointer (some ⟨w.heap.size + 1, 0, none⟩), .pointer (some ⟨w.heap.size + 1 + 1, 0, none⟩), .pointer (some ⟨w.heap.size + 1 + 1 + 1, 0, none⟩), .int .i64 0, x8, x9, undef, undef, .agg cc.toArray, .bool false, undef, x15, x16, x17, x18, x19, x20, x21, x22, undef, undef, undef, undef, undef, undef, undef, undef, undef, undef], defers := [] } ∧ Below w.heap.size w W ∧ Row W w.heap.size ca 24 ∧ Row W (w.heap.size + 1) cb 24 ∧ Row W (w.heap.size + 1 + 1) cc 24 ∧ Row W (w.heap.size + 1 + 1 + 1) (vQ (List.replicate 4 0)) 24 ∧ (b0 = true → x16 = .agg ca.toArray) ∧ (b1 = true → x17 = .agg cb.toArray) ∧ (b2 = true → x18 = .agg cd.toArray) ∧ (b3 = true → x19 = .agg cc.toArray) ∧ (b4 = true → x20 = .tuple #[.agg cq.toArray, .agg cr.toArray]) ∧ (b5 = true → x15 = .tuple #[.agg cq.toArray, .agg cr.toArray]) ∧ (b6 = true → x21 = .agg cq.toArray) ∧ (b7 = true → x22 = .agg cr.toArray) ∧ (b8 = true → x8 = .pointer (some ⟨N8, 0, none⟩) ∧ w.heap.size + 1 + 1 + 1 < N8 ∧ Row W N8 (if b10 = true then cq else vQ (List.replicate 8 0)) 54) ∧ (b9 = true → x9 = .pointer (some ⟨N9, 0, none⟩) ∧ w.heap.size + 1 + 1 + 1 < N9 ∧ Row W N9 (if b11 = true then cr else vQ (List.replicate 4 0)) 24) ∧ (b8 = true → b9 = true → N8 ≠ N9) ∧ (b10 = true → b8 = true) ∧ (b11 = true → b9 = true)) ?_ ?_ ?_
    · exact ⟨false, false, false, false, false, false, false, false, false, false, false, false, 0, 0, undef, undef, undef, undef, undef, undef, undef, undef, undef, undef, rfl, rfl, Below.drew hb1, Row.drew r0, Row.drew r1, Row.drew r2, Row.drew r3, (fun h => by cases h), (fun h => by cases h), (fun h => by cases h), (fun h => by cases h), (fun h => by cases h), (fun h => by cases h), (fun h => by cases h), (fun h => by cases h), (fun h => by cases h), (fun h => by cases h), (fun h => by cases h), (fun h => by cases h), (fun h => by cases h)⟩
    · clear hb1 r0 r1 r2 r3 
      intro listed a W k hI hk
      obtain ⟨b0, b1, b2, b3, b4, b5, b6, b7, b8, b9, b10, b11, N8, N9, x8, x9, x15, x16, x17, x18, x19, x20, x21, x22, rfl, rfl, hb1, r0, r1, r2, r3, f0, f1, f2, f3, f4, f5, f6, f7, f8, f9, f10, f11, f12⟩ := hI
      have hk2 := (List.mem_filter.1 hk).2
      have hk1 : k < 12 := List.mem_range.1 (List.mem_filter.1 hk).1
      clear hk
      rcases (show k = 0 ∨ k = 1 ∨ k = 2 ∨ k = 3 ∨ k = 4 ∨ k = 5 ∨ k = 6 ∨ k = 7 ∨ k = 8 ∨ k = 9 ∨ k = 10 ∨ k = 11 by omega) with rfl | rfl | rfl | rfl | rfl | rfl | rfl | rfl | rfl | rfl | rfl | rfl
      · exact wpOp_plain rfl rfl (wp_load_mid 24 (.tmp 3) rfl w.heap.size 0 rfl ca _ r0.all Tryd.underlying24 rfl ia ⟨true, b1, b2, b3, b4, b5, b6, b7, b8, b9, b10, b11, N8, N9, x8, x9, x15, .agg ca.toArray, x17, x18, x19, x20, x21, x22, rfl, rfl, hb1, r0, r1, r2, r3, fun _ => rfl, f1, f2, f3, f4, f5, f6, f7, f8, f9, f10, f11, f12⟩)
      · exact wpOp_plain rfl rfl (wp_load_mid 24 (.tmp 4) rfl (w.heap.size + 1) 0 rfl cb _ r1.all Tryd.underlying24 rfl ib ⟨b0, true, b2, b3, b4, b5, b6, b7, b8, b9, b10, b11, N8, N9, x8, x9, x15, x16, .agg cb.toArray, x18, x19, x20, x21, x22, rfl, rfl, hb1, r0, r1, r2, r3, f0, fun _ => rfl, f2, f3, f4, f5, f6, f7, f8, f9, f10, f11, f12⟩)
      · simp [Region.binds] at hk2
        obtain rfl := f0 (by simp [hk2])
        obtain rfl := f1 (by simp [hk2])
        refine wpOp_plain rfl rfl (wp_fcall 25 #[.agg ca.toArray, .agg cb.toArray] (by go_simp) ((HTM.out W).mono ?_))
        rintro e W2 ⟨rfl, hB2⟩
        exact ⟨_, rfl, b0, b1, true, b3, b4, b5, b6, b7, b8, b9, b10, b11, N8, N9, x8, x9, x15, .agg ca.toArray, .agg cb.toArray, .agg cd.toArray, x19, x20, x21, x22, rfl, rfl, hb1.trans (hB2.mono hb1.size), Row.below r0 hB2 (Row.lt r0), Row.below r1 hB2 (Row.lt r1), Row.below r2 hB2 (Row.lt r2), Row.below r3 hB2 (Row.lt r3), fun _ => rfl, fun _ => rfl, fun _ => rfl, f3, f4, f5, f6, f7, fun h => ⟨(f8 h).1, (f8 h).2.1, Row.below (f8 h).2.2 hB2 (Row.lt (f8 h).2.2)⟩, fun h => ⟨(f9 h).1, (f9 h).2.1, Row.below (f9 h).2.2 hB2 (Row.lt (f9 h).2.2)⟩, f10, f11, f12⟩
      · exact wpOp_plain rfl rfl (wp_load_mid 24 (.tmp 5) rfl (w.heap.size + 1 + 1) 0 rfl cc _ r2.all Tryd.underlying24 rfl ic ⟨b0, b1, b2, true, b4, b5, b6, b7, b8, b9, b10, b11, N8, N9, x8, x9, x15, x16, x17, x18, .agg cc.toArray, x20, x21, x22, rfl, rfl, hb1, r0, r1, r2, r3, f0, f1, f2, fun _ => rfl, f4, f5, f6, f7, f8, f9, f10, f11, f12⟩)
      · simp [Region.binds] at hk2
        obtain rfl := f2 (by simp [hk2])
        obtain rfl := f3 (by simp [hk2])
        refine wpOp_plain rfl rfl (wp_fcall 27 #[.agg cd.toArray, .agg cc.toArray] (by go_simp) ((HDV2.out W).mono ?_))
        rintro e W2 ⟨rfl, hB2⟩
        exact ⟨_, rfl, b0, b1, b2, b3, true, b5, b6, b7, b8, b9, b10, b11, N8, N9, x8, x9, x15, x16, x17, .agg cd.toArray, .agg cc.toArray, .tuple #[.agg cq.toArray, .agg cr.toArray], x21, x22, rfl, rfl, hb1.trans (hB2.mono hb1.size), Row.below r0 hB2 (Row.lt r0), Row.below r1 hB2 (Row.lt r1), Row.below r2 hB2 (Row.lt r2), Row.below r3 hB2 (Row.lt r3), f0, f1, fun _ => rfl, fun _ => rfl, fun _ => rfl, f5, f6, f7, fun h => ⟨(f8 h).1, (f8 h).2.1, Row.below (f8 h).2.2 hB2 (Row.lt (f8 h).2.2)⟩, fun h => ⟨(f9 h).1, (f9 h).2.1, Row.below (f9 h).2.2 hB2 (Row.lt (f9 h).2.2)⟩, f10, f11, f12⟩
      · simp [Region.binds] at hk2
        obtain rfl := f4 (by simp [hk2])
        exact wpOp_plain rfl rfl (wp_move (.tmp 20) rfl ⟨b0, b1, b2, b3, b4, true, b6, b7, b8, b9, b10, b11, N8, N9, x8, x9, .tuple #[.agg cq.toArray, .agg cr.toArray], x16, x17, x18, x19, .tuple #[.agg cq.toArray, .agg cr.toArray], x21, x22, rfl, rfl, hb1, r0, r1, r2, r3, f0, f1, f2, f3, fun _ => rfl, fun _ => rfl, f6, f7, f8, f9, f10, f11, f12⟩)
      · simp [Region.binds] at hk2
        obtain rfl := f5 (by simp [hk2])
        exact wpOp_plain rfl rfl (wp_extract (.tmp 15) 0 rfl _ rfl _ rfl ⟨b0, b1, b2, b3, b4, b5, true, b7, b8, b9, b10, b11, N8, N9, x8, x9, .tuple #[.agg cq.toArray, .agg cr.toArray], x16, x17, x18, x19, x20, .agg cq.toArray, x22, rfl, rfl, hb1, r0, r1, r2, r3, f0, f1, f2, f3, f4, fun _ => rfl, fun _ => rfl, f7, f8, f9, f10, f11, f12⟩)
      · simp [Region.binds] at hk2
        obtain rfl := f5 (by simp [hk2])
        exact wpOp_plain rfl rfl (wp_extract (.tmp 15) 1 rfl _ rfl _ rfl ⟨b0, b1, b2, b3, b4, b5, b6, true, b8, b9, b10, b11, N8, N9, x8, x9, .tuple #[.agg cq.toArray, .agg cr.toArray], x16, x17, x18, x19, x20, x21, .agg cr.toArray, rfl, rfl, hb1, r0, r1, r2, r3, f0, f1, f2, f3, f4, fun _ => rfl, f6, fun _ => rfl, f8, f9, f10, f11, f12⟩)
      · simp [Region.binds] at hk2
        have hsz : w.heap.size + 1 + 1 + 1 < W.heap.size := Row.lt r3
        have hbz : ¬ b10 = true := fun h => by have := f11 h; rw [hk2] at this; cases this
        exact wpOp_plain rfl rfl (wp_alloc8 rfl ⟨b0, b1, b2, b3, b4, b5, b6, b7, true, b9, b10, b11, W.heap.size, N9, .pointer (some ⟨W.heap.size, 0, none⟩), x9, x15, x16, x17, x18, x19, x20, x21, x22, rfl, rfl, hb1.alloc hb1.size _, Row.alloc r0 _, Row.alloc r1 _, Row.alloc r2 _, Row.alloc r3 _, f0, f1, f2, f3, f4, f5, f6, f7, fun _ => ⟨rfl, hsz, by rw [if_neg hbz]; exact Row.new' rfl rfl⟩, fun h => ⟨(f9 h).1, (f9 h).2.1, Row.alloc (f9 h).2.2 _⟩, fun _ h => Nat.ne_of_gt (Row.lt (f9 h).2.2), fun _ => rfl, f12⟩)
      · simp [Region.binds] at hk2
        have hsz : w.heap.size + 1 + 1 + 1 < W.heap.size := Row.lt r3
        have hbz : ¬ b11 = true := fun h => by have := f12 h; rw [hk2] at this; cases this
        exact wpOp_plain rfl rfl (wp_alloc4 rfl ⟨b0, b1, b2, b3, b4, b5, b6, b7, b8, true, b10, b11, N8, W.heap.size, x8, .pointer (some ⟨W.heap.size, 0, none⟩), x15, x16, x17, x18, x19, x20, x21, x22, rfl, rfl, hb1.alloc hb1.size _, Row.alloc r0 _, Row.alloc r1 _, Row.alloc r2 _, Row.alloc r3 _, f0, f1, f2, f3, f4, f5, f6, f7, fun h => ⟨(f8 h).1, (f8 h).2.1, Row.alloc (f8 h).2.2 _⟩, fun _ => ⟨rfl, hsz, by rw [if_neg hbz]; exact Row.new' rfl rfl⟩, fun h _ => Nat.ne_of_lt (Row.lt (f8 h).2.2), f11, fun _ => rfl⟩)
      · simp [Region.binds] at hk2
        obtain rfl : b8 = true := by simp [hk2]
        obtain rfl : b6 = true := by simp [hk2]
        obtain rfl : b10 = false := by simp [hk2]
        obtain ⟨rfl, y1, y2⟩ := f8 rfl
        obtain rfl := f6 rfl
        rw [if_neg (by decide)] at y2
        have T := y2.there 0 cq.toArray.size (by simp [HLQ.out, vQ_length])
        have fin := y2.over (vs := cq) (by rw [HLQ.out]; rfl)
        exact wpOp_plain rfl rfl (wp_store_mid 54 (.tmp 8) (.tmp 21) rfl N8 0 cq.toArray rfl rfl T iq' oq ⟨b0, b1, b2, b3, b4, b5, true, b7, true, b9, true, b11, N8, N9, .pointer (some ⟨N8, 0, none⟩), x9, x15, x16, x17, x18, x19, x20, .agg cq.toArray, x22, rfl, rfl, below_setCells hb1 (by omega) _, Row.setCells_other r0 _ _ _ (by omega), Row.setCells_other r1 _ _ _ (by omega), Row.setCells_other r2 _ _ _ (by omega), Row.setCells_other r3 _ _ _ (by omega), f0, f1, f2, f3, f4, f5, fun _ => rfl, f7, fun _ => ⟨rfl, y1, by rw [if_pos rfl]; exact fin⟩, fun h => ⟨(f9 h).1, (f9 h).2.1, Row.setCells_other (f9 h).2.2 _ _ _ (Ne.symm (f10 rfl h))⟩, f10, fun _ => rfl, f12⟩)
      · simp [Region.binds] at hk2
        obtain rfl : b9 = true := by simp [hk2]
        obtain rfl : b7 = true := by simp [hk2]
        obtain rfl : b11 = false := by simp [hk2]
        obtain ⟨rfl, y1, y2⟩ := f9 rfl
        obtain rfl := f7 rfl
        rw [if_neg (by decide)] at y2
        have T := y2.there 0 cr.toArray.size (by simp [HLR.out, vQ_length])
        have fin := y2.over (vs := cr) (by rw [HLR.out]; rfl)
        exact wpOp_plain rfl rfl (wp_store_mid 24 (.tmp 9) (.tmp 22) rfl N9 0 cr.toArray rfl rfl T ir' or ⟨b0, b1, b2, b3, b4, b5, b6, true, b8, true, b10, true, N8, N9, x8, .pointer (some ⟨N9, 0, none⟩), x15, x16, x17, x18, x19, x20, x21, .agg cr.toArray, rfl, rfl, below_setCells hb1 (by omega) _, Row.setCells_other r0 _ _ _ (by omega), Row.setCells_other r1 _ _ _ (by omega), Row.setCells_other r2 _ _ _ (by omega), Row.setCells_other r3 _ _ _ (by omega), f0, f1, f2, f3, f4, f5, f6, fun _ => rfl, fun h => ⟨(f8 h).1, (f8 h).2.1, Row.setCells_other (f8 h).2.2 _ _ _ (f10 h rfl)⟩, fun _ => ⟨rfl, y1, by rw [if_pos rfl]; exact fin⟩, f10, f11, fun _ => rfl⟩)
    · clear hb1 r0 r1 r2 r3 
      intro listed a W hI hr
      obtain ⟨b0, b1, b2, b3, b4, b5, b6, b7, b8, b9, b10, b11, N8, N9, x8, x9, x15, x16, x17, x18, x19, x20, x21, x22, rfl, rfl, hb1, r0, r1, r2, r3, f0, f1, f2, f3, f4, f5, f6, f7, f8, f9, f10, f11, f12⟩ := hI
      have hr2 := List.filter_eq_nil_iff.1 hr
      obtain rfl : b0 = true := by have := hr2 0 (List.mem_range.2 (by decide)); simpa [Region.binds] using this
      obtain rfl : b1 = true := by have := hr2 1 (List.mem_range.2 (by decide)); simpa [Region.binds] using this
      obtain rfl : b2 = true := by have := hr2 2 (List.mem_range.2 (by decide)); simpa [Region.binds] using this
      obtain rfl : b3 = true := by have := hr2 3 (List.mem_range.2 (by decide)); simpa [Region.binds] using this
      obtain rfl : b4 = true := by have := hr2 4 (List.mem_range.2 (by decide)); simpa [Region.binds] using this
      obtain rfl : b5 = true := by have := hr2 5 (List.mem_range.2 (by decide)); simpa [Region.binds] using this
      obtain rfl : b6 = true := by have := hr2 6 (List.mem_range.2 (by decide)); simpa [Region.binds] using this
      obtain rfl : b7 = true := by have := hr2 7 (List.mem_range.2 (by decide)); simpa [Region.binds] using this
      obtain rfl : b8 = true := by have := hr2 8 (List.mem_range.2 (by decide)); simpa [Region.binds] using this
      obtain rfl : b9 = true := by have := hr2 9 (List.mem_range.2 (by decide)); simpa [Region.binds] using this
      obtain rfl : b10 = true := by have := hr2 10 (List.mem_range.2 (by decide)); simpa [Region.binds] using this
      obtain rfl : b11 = true := by have := hr2 11 (List.mem_range.2 (by decide)); simpa [Region.binds] using this
      obtain ⟨rfl, m8, p8⟩ := f8 rfl
      rw [if_pos rfl] at p8
      obtain ⟨rfl, m9, p9⟩ := f9 rfl
      rw [if_pos rfl] at p9
      have ne89 := f10 rfl rfl
      clear hr hr2 f0 f1 f2 f3 f4 f5 f6 f7 f8 f9 f10 f11 f12
      have q8 := Row.lt p8
      have q9 := Row.lt p9
      go_wp2_with (refine wpList_load_mid rfl 54 (.tmp 8) rfl N8 0 rfl cq _ p8.all Tryd.underlying54 rfl iq ?_; simp only [Act.put, List.setIfInBounds_toArray, List.set_cons_zero, List.set_cons_succ])
      refine (HHV.out W).mono ?_
      rintro e W2 ⟨rfl, hB⟩
      have hb2 := hb1.trans (hB.mono hb1.size)
      replace r3 := Row.below r3 hB (Row.lt r3)
      have hsz := hB.size
      clear hB hb1 r0 r1 r2 p8 p9 HHV HTM HDV2 ia ib ic iq iq' oq ir' or
      have n9 : Row ((W2.alloc (Obj.cells #[Value.int IntKind.u64 0, Value.int IntKind.u64 0, Value.int IntKind.u64 0, Value.int IntKind.u64 0] 24)).alloc (Obj.cells #[Value.int IntKind.u64 0, Value.int IntKind.u64 0, Value.int IntKind.u64 0, Value.int IntKind.u64 0] 24)) W2.heap.size (vQ (List.replicate 4 0)) 24 := (Row.new' rfl rfl).alloc _
      have n10 : Row ((W2.alloc (Obj.cells #[Value.int IntKind.u64 0, Value.int IntKind.u64 0, Value.int IntKind.u64 0, Value.int IntKind.u64 0] 24)).alloc (Obj.cells #[Value.int IntKind.u64 0, Value.int IntKind.u64 0, Value.int IntKind.u64 0, Value.int IntKind.u64 0] 24)) (W2.heap.size + 1) (vQ (List.replicate 4 0)) 24 := Row.new' (by simp) rfl
      have T9 := n9.there 0 cl.toArray.size (by simp [HLL.out, vQ_length])
      have n10' := Row.setCells_other n10 W2.heap.size 0 cl (by omega)
      have T10 := n10'.there 0 ch.toArray.size (by simp [HLH.out, vQ_length])
      have u9 : Row ((((W2.alloc (Obj.cells #[Value.int IntKind.u64 0, Value.int IntKind.u64 0, Value.int IntKind.u64 0, Value.int IntKind.u64 0] 24)).alloc (Obj.cells #[Value.int IntKind.u64 0, Value.int IntKind.u64 0, Value.int IntKind.u64 0, Value.int IntKind.u64 0] 24)).setCells W2.heap.size 0 cl).setCells (W2.heap.size + 1) 0 ch) W2.heap.size cl 24 := Row.setCells_other (Row.over n9 (by rw [HLL.out]; rfl)) _ _ _ (by omega)
      have u10 : Row ((((W2.alloc (Obj.cells #[Value.int IntKind.u64 0, Value.int IntKind.u64 0, Value.int IntKind.u64 0, Value.int IntKind.u64 0] 24)).alloc (Obj.cells #[Value.int IntKind.u64 0, Value.int IntKind.u64 0, Value.int IntKind.u64 0, Value.int IntKind.u64 0] 24)).setCells W2.heap.size 0 cl).setCells (W2.heap.size + 1) 0 ch) (W2.heap.size + 1) ch 24 := Row.over n10' (by rw [HLH.out]; rfl)
      have hB4 : Below W2.heap.size W2 ((((W2.alloc (Obj.cells #[Value.int IntKind.u64 0, Value.int IntKind.u64 0, Value.int IntKind.u64 0, Value.int IntKind.u64 0] 24)).alloc (Obj.cells #[Value.int IntKind.u64 0, Value.int IntKind.u64 0, Value.int IntKind.u64 0, Value.int IntKind.u64 0] 24)).setCells W2.heap.size 0 cl).setCells (W2.heap.size + 1) 0 ch) := below_setCells (below_setCells (((Below.refl _ _).alloc (Nat.le_refl _) _).alloc (by simp) _) (Nat.le_refl _) _) (by omega) _
      have u3 := Row.below r3 hB4 (Row.lt r3)
      have ub := hb2.trans (hB4.mono hb2.size)
      clear n9 n10 n10' hB4 r3 hb2
      go_wp2_with (first
        | (refine wpList_store_mid rfl 24 (.tmp 10) (.tmp 26) rfl W2.heap.size 0 cl.toArray rfl rfl T9 il' ol ?_; simp only [Act.put])
        | (refine wpList_store_mid rfl 24 (.tmp 11) (.tmp 27) rfl (W2.heap.size + 1) 0 ch.toArray rfl rfl T10 ih' oh ?_; simp only [Act.put]; clear T9 T10; (change wpList _ _ _ _ _ ((((W2.alloc (Obj.cells #[Value.int IntKind.u64 0, Value.int IntKind.u64 0, Value.int IntKind.u64 0, Value.int IntKind.u64 0] 24)).alloc (Obj.cells #[Value.int IntKind.u64 0, Value.int IntKind.u64 0, Value.int IntKind.u64 0, Value.int IntKind.u64 0] 24)).setCells W2.heap.size 0 cl).setCells (W2.heap.size + 1) 0 ch)); (generalize ((((W2.alloc (Obj.cells #[Value.int IntKind.u64 0, Value.int IntKind.u64 0, Value.int IntKind.u64 0, Value.int IntKind.u64 0] 24)).alloc (Obj.cells #[Value.int IntKind.u64 0, Value.int IntKind.u64 0, Value.int IntKind.u64 0, Value.int IntKind.u64 0] 24)).setCells W2.heap.size 0 cl).setCells (W2.heap.size + 1) 0 ch) = W4 at *))
        | (refine wpList_load_mid rfl 24 (.tmp 11) rfl (W2.heap.size + 1) 0 rfl ch _ u10.all Tryd.underlying24 rfl ih ?_; simp only [Act.put, List.setIfInBounds_toArray, List.set_cons_zero, List.set_cons_succ]))
      refine (HZO.out W4).mono ?_
      rintro e W5 ⟨rfl, hB5⟩
      have hb5 := ub.trans (hB5.mono ub.size)
      replace u3 := Row.below u3 hB5 (Row.lt u3)
      replace u9 := Row.below u9 hB5 (Row.lt u9)
      clear hB5 ub u10
      by_cases ho : q / 2 ^ 256 = 0
      · have hlt : q < 2 ^ 256 := by omega
        have hd : decide (q / 2 ^ 256 = 0) = true := decide_eq_true ho
        rw [hd]
        have HR : Hid (mdR a b c = q ∧ mdE a b c = 0) := ⟨HMD2.out.1.trans (if_pos hlt), HMD2.out.2.trans (if_pos hlt)⟩
        have T := u3.there 0 cl.toArray.size (by simp [HLL.out, vQ_length])
        have fin := u3.over (vs := cl) (by rw [HLL.out]; rfl)
        have hbf := below_setCells hb5 (b := w.heap.size + 1 + 1 + 1) (o := 0) (by omega) cl
        clear hd ho hlt HMD2
        go_wp2_with (first
          | (refine wpList_load_mid rfl 24 (.tmp 10) rfl W2.heap.size 0 rfl cl _ u9.all Tryd.underlying24 rfl il ?_; simp only [Act.put, List.setIfInBounds_toArray, List.set_cons_zero, List.set_cons_succ])
          | (refine wpList_store_mid rfl 24 (.tmp 6) (.tmp 32) rfl (w.heap.size + 1 + 1 + 1) 0 cl.toArray rfl rfl T il' ol ?_; simp only [Act.put]))
        exact bodyPost_ret (results_row_tmp Tryd.results12 _ _ (w.heap.size + 1 + 1 + 1) 24 cl (.int .i64 0) rfl rfl fin Tryd.underlying24 info_w4 HLL.out) rfl ⟨by rw [HR.out.1, HR.out.2, HCL.out], hbf⟩
      · have hge : ¬ q < 2 ^ 256 := by omega
        have hd : decide (q / 2 ^ 256 = 0) = false := decide_eq_false ho
        rw [hd]
        have HR : Hid (mdR a b c = 0 ∧ mdE a b c = 22) := ⟨HMD2.out.1.trans (if_neg hge), HMD2.out.2.trans (if_neg hge)⟩
        have T := u3.there 0 (vQ (List.replicate 4 0)).toArray.size (Nat.le_refl 4)
        have fin := u3.over (vs := vQ (List.replicate 4 0)) rfl
        have hbf := below_setCells hb5 (b := w.heap.size + 1 + 1 + 1) (o := 0) (by omega) (vQ (List.replicate 4 0))
        clear hd ho hge HMD2
        go_wp2_with (refine wpList_store_mid rfl 24 (.tmp 6) (.tmp 31) rfl (w.heap.size + 1 + 1 + 1) 0 (vQ (List.replicate 4 0)).toArray rfl rfl T info_w4 (all_oneCell_toArray (vQ_one _)) ?_; simp only [Act.put])
        exact bodyPost_ret (results_row_tmp Tryd.results12 _ _ (w.heap.size + 1 + 1 + 1) 24 (vQ (List.replicate 4 0)) (.int .i64 22) rfl rfl fin Tryd.underlying24 info_w4 rfl) rfl ⟨by rw [HR.out.1, HR.out.2, dgs_zero], hbf⟩

end Go.Proofs.YtehccmlbnfhhmabDoor
