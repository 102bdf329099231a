/-
  Numbers in cells, by a letter each; the calls by such letters.
-/
import Derived.Test.YtclbiophgnkggaaGreatDoorWDvd
import Derived.Test.YtclbiophgnkggaaGreatDoorWMul
import Derived.Test.YtclbiophgnkggaaGreatDoorWText
import Derived.Test.YtclbiophgnkggaaGreatDoorWCmp
import Derived.BigFrame

namespace Go.Proofs.YtclbiophgnkggaaGreatDoor
open Go Go.RowKit
open Wd
namespace Wd
def divQ (a b : Nat) : Nat := if b = 0 then 0 else a / b
def divR (a b : Nat) : Nat := if b = 0 then 0 else a % b
def divE (b : Nat) : Int := if b = 0 then 24 else 0
def mdR (a b c : Nat) : Nat := if c = 0 then 0 else if a * b / c < 2 ^ 256 then a * b / c else 0
def mdE (a b c : Nat) : Int := if c = 0 then 24 else if a * b / c < 2 ^ 256 then 0 else 22
end Wd
theorem wp_alloc8 {o : Oper} {a : Act} {w : World} {K : Act → World → Prop} {Q : Exit → Act → World → Prop} (ho : o.op = .alloc 135) (h : K (a.put o.dst (.pointer (some ⟨w.heap.size, 0, none⟩))) (w.alloc (.cells (vQ (List.replicate 8 0)).toArray 135))) : Oper.wp Tryz.prog o a w K Q := by
  obtain ⟨dst, op, ty, pos, after, guard⟩ := o
  simp only at ho
  subst ho
  unfold Oper.wp
  go_simp
  exact h
theorem wp_alloc4 {o : Oper} {a : Act} {w : World} {K : Act → World → Prop} {Q : Exit → Act → World → Prop} (ho : o.op = .alloc 37) (h : K (a.put o.dst (.pointer (some ⟨w.heap.size, 0, none⟩))) (w.alloc (.cells (vQ (List.replicate 4 0)).toArray 37))) : Oper.wp Tryz.prog o a w K Q := by
  obtain ⟨dst, op, ty, pos, after, guard⟩ := o
  simp only at ho
  subst ho
  unfold Oper.wp
  go_simp
  exact h
theorem results_rows_tmp {P : Program} {fn : Func} {p q r : Tmp} {ty tz : TypeId} {n m : Nat} {e e' : TypeId} (h : fn.results = #[.cell p ty, .cell q tz, .tmp r]) (tmps : Array Value) (w : World) (g g' : Nat) (t t' : TypeId) (cs ds : List Value) (v : Value)
    (hp : tmps.getD p undef = .pointer (some ⟨g, 0, none⟩)) (hq : tmps.getD q undef = .pointer (some ⟨g', 0, none⟩)) (hv : tmps.getD r undef = v) (hg : Row w g cs t) (hg' : Row w g' ds t') (hu : P.underlying ty = some (.array n e)) (hi : (P.info? ty).map (·.size) = some n) (hl : cs.length = n) (hu' : P.underlying tz = some (.array m e')) (hi' : (P.info? tz).map (·.size) = some m) (hl' : ds.length = m) :
    (results fn tmps).run P w = .ok (.tuple #[.agg cs.toArray, .agg ds.toArray, v]) w := by
  have hp' : tmps[p]?.getD undef = .pointer (some ⟨g, 0, none⟩) := by simpa using hp
  have hq' : tmps[q]?.getD undef = .pointer (some ⟨g', 0, none⟩) := by simpa using hq
  have hv' : tmps[r]?.getD undef = v := by simpa using hv
  have hr := run_loadVar_row (P := P) w g t ty cs.toArray (0, 0) (.array n e) hg hu rfl (by simp [hi, hl])
  have hr' := run_loadVar_row (P := P) w g' t' tz ds.toArray (0, 0) (.array m e') hg' hu' rfl (by simp [hi', hl'])
  simp [results, h, hp', hq', hv', asAddr, hr, hr']

set_option maxRecDepth 100000 in
set_option maxHeartbeats 4000000 in
theorem div_any (a b : Nat) (ha : a < 2 ^ 256) (hb : b < 2 ^ 256) (w : World) :
    Calls Tryz.prog 72 #[.agg (vQ (dgs a 4)).toArray, .agg (vQ (dgs b 4)).toArray] w fun e w' => e = .returned (.tuple #[.agg (vQ (dgs (divQ a b) 4)).toArray, .agg (vQ (dgs (divR a b) 4)).toArray, .int .i64 (divE b)]) ∧ Below w.heap.size w w' := by
  have HZ : Hid (∀ w, _) := isZero_any b hb
  have HDB : Hid (∀ w, _) := doubled_any a ha
  have HDV : Hid (0 < b → ∀ w, Calls Tryz.prog 96 #[.agg (vQ (dgs a 8)).toArray, .agg (vQ (dgs b 4)).toArray] w fun e w' => e = .returned (.tuple #[.agg (vQ (dgs (a / b) 8)).toArray, .agg (vQ (dgs (a % b) 4)).toArray]) ∧ Below w.heap.size w w') := fun h0 w => divide_any a b (Nat.lt_of_lt_of_le ha (by decide)) hb h0 w
  have HHV : Hid (∀ w, _) := halves_any (a / b)
  obtain ⟨ca, hca⟩ : ∃ ca, ca = vQ (dgs a 4) := ⟨_, rfl⟩
  obtain ⟨cb, hcb⟩ : ∃ cb, cb = vQ (dgs b 4) := ⟨_, rfl⟩
  obtain ⟨cd, hcd⟩ : ∃ cd, cd = vQ (dgs a 8) := ⟨_, rfl⟩
  obtain ⟨cq, hcq⟩ : ∃ cq, cq = vQ (dgs (a / b) 8) := ⟨_, rfl⟩
  obtain ⟨cr, hcr⟩ : ∃ cr, cr = vQ (dgs (a % b) 4) := ⟨_, rfl⟩
  obtain ⟨cl, hcl⟩ : ∃ cl, cl = vQ (dgs (a / b) 4) := ⟨_, rfl⟩
  obtain ⟨ch, hch⟩ : ∃ ch, ch = vQ (dgs (a / b / 2 ^ 256) 4) := ⟨_, rfl⟩
  rw [← hcb] at HZ
  rw [← hca, ← hcd] at HDB
  rw [← hcd, ← hcb, ← hcq, ← hcr] at HDV
  rw [← hcq, ← hcl, ← hch] at HHV
  rw [← hca, ← hcb]
  have la : ca.length = 4 := by rw [hca, vQ_length, dgs_length]
  have lb : cb.length = 4 := by rw [hcb, vQ_length, dgs_length]
  have lq : cq.length = 8 := by rw [hcq, vQ_length, dgs_length]
  have lr : cr.length = 4 := by rw [hcr, vQ_length, dgs_length]
  have ll : cl.length = 4 := by rw [hcl, vQ_length, dgs_length]
  have lh : ch.length = 4 := by rw [hch, vQ_length, dgs_length]
  have ia : (Tryz.prog.info? 37).map (·.size) = some ca.length := by rw [info_w4, la]
  have ib : (Tryz.prog.info? 37).map (·.size) = some cb.length := by rw [info_w4, lb]
  have iq : (Tryz.prog.info? 135).map (·.size) = some cq.length := by rw [info_d8b, lq]
  have iq' : (Tryz.prog.info? 135).map (·.size) = some cq.toArray.size := by rw [info_d8b]; simp [lq]
  have ir : (Tryz.prog.info? 37).map (·.size) = some cr.length := by rw [info_w4, lr]
  have ir' : (Tryz.prog.info? 37).map (·.size) = some cr.toArray.size := by rw [info_w4]; simp [lr]
  have il : (Tryz.prog.info? 37).map (·.size) = some cl.length := by rw [info_w4, ll]
  have il' : (Tryz.prog.info? 37).map (·.size) = some cl.toArray.size := by rw [info_w4]; simp [ll]
  have ih' : (Tryz.prog.info? 37).map (·.size) = some ch.toArray.size := by rw [info_w4]; simp [lh]
  have oq := all_oneCell_toArray (show ∀ v ∈ cq, v.oneCell' = true by rw [hcq]; exact vQ_one _)
  have or := all_oneCell_toArray (show ∀ v ∈ cr, v.oneCell' = true by rw [hcr]; exact vQ_one _)
  have ol := all_oneCell_toArray (show ∀ v ∈ cl, v.oneCell' = true by rw [hcl]; exact vQ_one _)
  have oh := all_oneCell_toArray (show ∀ v ∈ ch, v.oneCell' = true by rw [hch]; exact vQ_one _)
  have HCR : Hid (vQ (dgs (a % b) 4) = cr) := hcr.symm
  have HCL : Hid (vQ (dgs (a / b) 4) = cl) := hcl.symm
  have HLQ : Hid (cq.length = 8) := lq
  have HLR : Hid (cr.length = 4) := lr
  have HLL : Hid (cl.length = 4) := ll
  have HLH : Hid (ch.length = 4) := lh
  clear hca hcb hcd hcq hcr hcl hch la lb ha hb lq lr ll lh
  have hb0 : Below w.heap.size w ((((w.alloc (Obj.cells ca.toArray 37)).alloc (Obj.cells cb.toArray 37)).alloc (Obj.cells (vQ (List.replicate 4 0)).toArray 37)).alloc (Obj.cells (vQ (List.replicate 4 0)).toArray 37)) := ((((Below.refl _ _).alloc (Nat.le_refl _) _).alloc (by simp) _).alloc (by simp; omega) _).alloc (by simp; omega) _
  have r0 : Row ((((w.alloc (Obj.cells ca.toArray 37)).alloc (Obj.cells cb.toArray 37)).alloc (Obj.cells (vQ (List.replicate 4 0)).toArray 37)).alloc (Obj.cells (vQ (List.replicate 4 0)).toArray 37)) w.heap.size ca 37 := (((Row.new w ca _).alloc _).alloc _).alloc _
  have r1 : Row ((((w.alloc (Obj.cells ca.toArray 37)).alloc (Obj.cells cb.toArray 37)).alloc (Obj.cells (vQ (List.replicate 4 0)).toArray 37)).alloc (Obj.cells (vQ (List.replicate 4 0)).toArray 37)) (w.heap.size + 1) cb 37 := ((Row.new' (by simp) rfl).alloc _).alloc _
  have r2 : Row ((((w.alloc (Obj.cells ca.toArray 37)).alloc (Obj.cells cb.toArray 37)).alloc (Obj.cells (vQ (List.replicate 4 0)).toArray 37)).alloc (Obj.cells (vQ (List.replicate 4 0)).toArray 37)) (w.heap.size + 1 + 1) (vQ (List.replicate 4 0)) 37 := (Row.new' (by simp) rfl).alloc _
  have r3 : Row ((((w.alloc (Obj.cells ca.toArray 37)).alloc (Obj.cells cb.toArray 37)).alloc (Obj.cells (vQ (List.replicate 4 0)).toArray 37)).alloc (Obj.cells (vQ (List.replicate 4 0)).toArray 37)) (w.heap.size + 1 + 1 + 1) (vQ (List.replicate 4 0)) 37 := Row.new' (by simp) rfl
  have Z4 : (vQ (List.replicate 4 0)).toArray = #[Value.int IntKind.u64 0, Value.int IntKind.u64 0, Value.int IntKind.u64 0, Value.int IntKind.u64 0] := rfl
  rw [Z4] at hb0 r0 r1 r2 r3
  clear Z4
  go_enter Tryz.func72, Tryz.ntmps72
  go_wp2_with (refine wpList_load_mid rfl 37 (.tmp 3) rfl (w.heap.size + 1) 0 rfl cb _ r1.all Tryz.underlying37 rfl ib ?_; simp only [Act.put, List.setIfInBounds_toArray, List.set_cons_zero, List.set_cons_succ])
  generalize ((((w.alloc (Obj.cells ca.toArray 37)).alloc (Obj.cells cb.toArray 37)).alloc (Obj.cells #[Value.int IntKind.u64 0, Value.int IntKind.u64 0, Value.int IntKind.u64 0, Value.int IntKind.u64 0] 37)).alloc (Obj.cells #[Value.int IntKind.u64 0, Value.int IntKind.u64 0, Value.int IntKind.u64 0, Value.int IntKind.u64 0] 37)) = W0 at *
  refine (HZ.out W0).mono ?_
  rintro e W1 ⟨rfl, hB⟩
  have hb1 := hb0.trans (hB.mono hb0.size)
  replace r0 := Row.below r0 hB (Row.lt r0)
  replace r1 := Row.below r1 hB (Row.lt r1)
  replace r2 := Row.below r2 hB (Row.lt r2)
  replace r3 := Row.below r3 hB (Row.lt r3)
  clear hB hb0 HZ
  by_cases hz : b = 0
  · have hd : decide (b = 0) = true := decide_eq_true hz
    rw [hd]
    have HR : Hid (divQ a b = 0 ∧ divR a b = 0 ∧ divE b = 24) := ⟨if_pos hz, if_pos hz, if_pos hz⟩
    clear hd hz
    have T2 := r2.there 0 (vQ (List.replicate 4 0)).toArray.size (Nat.le_refl 4)
    have f2 := r2.over (vs := vQ (List.replicate 4 0)) rfl
    have r3' := Row.setCells_other r3 (w.heap.size + 1 + 1) 0 (vQ (List.replicate 4 0)) (by omega)
    have T3 := r3'.there 0 (vQ (List.replicate 4 0)).toArray.size (Nat.le_refl 4)
    have f3 := r3'.over (vs := vQ (List.replicate 4 0)) rfl
    have f2' := Row.setCells_other f2 (w.heap.size + 1 + 1 + 1) 0 (vQ (List.replicate 4 0)) (by omega)
    have hbf := below_setCells (below_setCells hb1 (b := w.heap.size + 1 + 1) (o := 0) (by omega) (vQ (List.replicate 4 0))) (b := w.heap.size + 1 + 1 + 1) (o := 0) (by omega) (vQ (List.replicate 4 0))
    go_wp2_with (first
      | (refine wpList_store_mid rfl 37 (.tmp 4) (.tmp 13) rfl (w.heap.size + 1 + 1) 0 (vQ (List.replicate 4 0)).toArray rfl rfl T2 info_w4 (all_oneCell_toArray (vQ_one _)) ?_; simp only [Act.put])
      | (refine wpList_store_mid rfl 37 (.tmp 5) (.tmp 14) rfl (w.heap.size + 1 + 1 + 1) 0 (vQ (List.replicate 4 0)).toArray rfl rfl T3 info_w4 (all_oneCell_toArray (vQ_one _)) ?_; simp only [Act.put]))
    exact bodyPost_ret (results_rows_tmp Tryz.results72 _ _ (w.heap.size + 1 + 1) (w.heap.size + 1 + 1 + 1) 37 37 (vQ (List.replicate 4 0)) (vQ (List.replicate 4 0)) (.int .i64 24) rfl rfl rfl f2' f3 Tryz.underlying37 info_w4 rfl Tryz.underlying37 info_w4 rfl) rfl ⟨by rw [HR.out.1, HR.out.2.1, HR.out.2.2, dgs_zero], hbf⟩
  · have hd : decide (b = 0) = false := decide_eq_false hz
    rw [hd]
    have HR : Hid (divQ a b = a / b ∧ divR a b = a % b ∧ divE b = 0) := ⟨if_neg hz, if_neg hz, if_neg hz⟩
    have HD2 := HDV.out (by omega)
    have HDV2 : Hid _ := HD2
    clear hd hz HDV HD2
    go_wp2
    refine wp_region_inv (by kernel_rfl) (fun listed a W => ∃ (b0 b1 b2 b3 b4 b5 b6 b7 b8 b9 b10 : Bool) (N7 N8 : Nat) (x7 x8 x15 x16 x17 x18 x19 x20 x21 : Value), listed = #[b0, b1, b2, b3, b4, b5, b6, b7, b8, b9, b10] ∧ a = { tmps := #[.agg ca.toArray, .agg cb.toArray, .pointer (some ⟨w.heap.size, 0, none⟩), .pointer (some ⟨w.heap.size + 1, 0, none⟩), .pointer (some ⟨w.heap.size + 1 + 1, 0, none⟩), .pointer (some ⟨w.heap.size + 1 + 1 + 1, 0, none⟩), .int .i64 0, x7, x8, undef, undef, .agg cb.toArray, .bool false, undef, undef, x15, x16, x17, x18, x19, x20, x21, undef, undef, undef, undef, undef, undef, undef], defers := [] } ∧ Below w.heap.size w W ∧ Row W w.heap.size ca 37 ∧ Row W (w.heap.size + 1) cb 37 ∧ Row W (w.heap.size + 1 + 1) (vQ (List.replicate 4 0)) 37 ∧ Row W (w.heap.size + 1 + 1 + 1) (vQ (List.replicate 4 0)) 37 ∧ (b0 = true → x16 = .agg ca.toArray) ∧ (b1 = true → x17 = .agg cd.toArray) ∧ (b2 = true → x18 = .agg cb.toArray) ∧ (b3 = true → x19 = .tuple #[.agg cq.toArray, .agg cr.toArray]) ∧ (b4 = true → x15 = .tuple #[.agg cq.toArray, .agg cr.toArray]) ∧ (b5 = true → x20 = .agg cq.toArray) ∧ (b6 = true → x21 = .agg cr.toArray) ∧ (b7 = true → x7 = .pointer (some ⟨N7, 0, none⟩) ∧ w.heap.size + 1 + 1 + 1 < N7 ∧ Row W N7 (if b9 = true then cq else vQ (List.replicate 8 0)) 135) ∧ (b8 = true → x8 = .pointer (some ⟨N8, 0, none⟩) ∧ w.heap.size + 1 + 1 + 1 < N8 ∧ Row W N8 (if b10 = true then cr else vQ (List.replicate 4 0)) 37) ∧ (b7 = true → b8 = true → N7 ≠ N8) ∧ (b9 = true → b7 = true) ∧ (b10 = true → b8 = true)) ?_ ?_ ?_
    · exact ⟨false, false, false, false, false, false, false, false, false, false, false, 0, 0, undef, undef, undef, undef, undef, undef, undef, undef, undef, rfl, rfl, Below.drew hb1, Row.drew r0, Row.drew r1, Row.drew r2, Row.drew r3, (fun h => by cases h), (fun h => by cases h), (fun h => by cases h), (fun h => by cases h), (fun h => by cases h), (fun h => by cases h), (fun h => by cases h), (fun h => by cases h), (fun h => by cases h), (fun h => by cases h), (fun h => by cases h), (fun h => by cases h)⟩
    · clear hb1 r0 r1 r2 r3 
      intro listed a W k hI hk
      obtain ⟨b0, b1, b2, b3, b4, b5, b6, b7, b8, b9, b10, N7, N8, x7, x8, x15, x16, x17, x18, x19, x20, x21, rfl, rfl, hb1, r0, r1, r2, r3, f0, f1, f2, f3, f4, f5, f6, f7, f8, f9, f10, f11⟩ := hI
      have hk2 := (List.mem_filter.1 hk).2
      have hk1 : k < 11 := List.mem_range.1 (List.mem_filter.1 hk).1
      clear hk
      rcases (show k = 0 ∨ k = 1 ∨ k = 2 ∨ k = 3 ∨ k = 4 ∨ k = 5 ∨ k = 6 ∨ k = 7 ∨ k = 8 ∨ k = 9 ∨ k = 10 by omega) with rfl | rfl | rfl | rfl | rfl | rfl | rfl | rfl | rfl | rfl | rfl
      · exact wpOp_plain rfl rfl (wp_load_mid 37 (.tmp 2) rfl w.heap.size 0 rfl ca _ r0.all Tryz.underlying37 rfl ia ⟨true, b1, b2, b3, b4, b5, b6, b7, b8, b9, b10, N7, N8, x7, x8, x15, .agg ca.toArray, x17, x18, x19, x20, x21, rfl, rfl, hb1, r0, r1, r2, r3, fun _ => rfl, f1, f2, f3, f4, f5, f6, f7, f8, f9, f10, f11⟩)
      · simp [Region.binds] at hk2
        obtain rfl := f0 (by simp [hk2])
        refine wpOp_plain rfl rfl (wp_fcall 97 #[.agg ca.toArray] (by go_simp) ((HDB.out W).mono ?_))
        rintro e W2 ⟨rfl, hB2⟩
        exact ⟨_, rfl, b0, true, b2, b3, b4, b5, b6, b7, b8, b9, b10, N7, N8, x7, x8, x15, .agg ca.toArray, .agg cd.toArray, x18, x19, x20, x21, rfl, rfl, hb1.trans (hB2.mono hb1.size), Row.below r0 hB2 (Row.lt r0), Row.below r1 hB2 (Row.lt r1), Row.below r2 hB2 (Row.lt r2), Row.below r3 hB2 (Row.lt r3), fun _ => rfl, fun _ => rfl, f2, f3, f4, f5, f6, fun h => ⟨(f7 h).1, (f7 h).2.1, Row.below (f7 h).2.2 hB2 (Row.lt (f7 h).2.2)⟩, fun h => ⟨(f8 h).1, (f8 h).2.1, Row.below (f8 h).2.2 hB2 (Row.lt (f8 h).2.2)⟩, f9, f10, f11⟩
      · exact wpOp_plain rfl rfl (wp_load_mid 37 (.tmp 3) rfl (w.heap.size + 1) 0 rfl cb _ r1.all Tryz.underlying37 rfl ib ⟨b0, b1, true, b3, b4, b5, b6, b7, b8, b9, b10, N7, N8, x7, x8, x15, x16, x17, .agg cb.toArray, x19, x20, x21, rfl, rfl, hb1, r0, r1, r2, r3, f0, f1, fun _ => rfl, f3, f4, f5, f6, f7, f8, f9, f10, f11⟩)
      · simp [Region.binds] at hk2
        obtain rfl := f1 (by simp [hk2])
        obtain rfl := f2 (by simp [hk2])
        refine wpOp_plain rfl rfl (wp_fcall 96 #[.agg cd.toArray, .agg cb.toArray] (by go_simp) ((HDV2.out W).mono ?_))
        rintro e W2 ⟨rfl, hB2⟩
        exact ⟨_, rfl, b0, b1, b2, true, b4, b5, b6, b7, b8, b9, b10, N7, N8, x7, x8, x15, x16, .agg cd.toArray, .agg cb.toArray, .tuple #[.agg cq.toArray, .agg cr.toArray], x20, x21, rfl, rfl, hb1.trans (hB2.mono hb1.size), Row.below r0 hB2 (Row.lt r0), Row.below r1 hB2 (Row.lt r1), Row.below r2 hB2 (Row.lt r2), Row.below r3 hB2 (Row.lt r3), f0, fun _ => rfl, fun _ => rfl, fun _ => rfl, f4, f5, f6, fun h => ⟨(f7 h).1, (f7 h).2.1, Row.below (f7 h).2.2 hB2 (Row.lt (f7 h).2.2)⟩, fun h => ⟨(f8 h).1, (f8 h).2.1, Row.below (f8 h).2.2 hB2 (Row.lt (f8 h).2.2)⟩, f9, f10, f11⟩
      · simp [Region.binds] at hk2
        obtain rfl := f3 (by simp [hk2])
        exact wpOp_plain rfl rfl (wp_move (.tmp 19) rfl ⟨b0, b1, b2, b3, true, b5, b6, b7, b8, b9, b10, N7, N8, x7, x8, .tuple #[.agg cq.toArray, .agg cr.toArray], x16, x17, x18, .tuple #[.agg cq.toArray, .agg cr.toArray], x20, x21, rfl, rfl, hb1, r0, r1, r2, r3, f0, f1, f2, fun _ => rfl, fun _ => rfl, f5, f6, f7, f8, f9, f10, f11⟩)
      · simp [Region.binds] at hk2
        obtain rfl := f4 (by simp [hk2])
        exact wpOp_plain rfl rfl (wp_extract (.tmp 15) 0 rfl _ rfl _ rfl ⟨b0, b1, b2, b3, b4, true, b6, b7, b8, b9, b10, N7, N8, x7, x8, .tuple #[.agg cq.toArray, .agg cr.toArray], x16, x17, x18, x19, .agg cq.toArray, x21, rfl, rfl, hb1, r0, r1, r2, r3, f0, f1, f2, f3, fun _ => rfl, fun _ => rfl, f6, f7, f8, f9, f10, f11⟩)
      · simp [Region.binds] at hk2
        obtain rfl := f4 (by simp [hk2])
        exact wpOp_plain rfl rfl (wp_extract (.tmp 15) 1 rfl _ rfl _ rfl ⟨b0, b1, b2, b3, b4, b5, true, b7, b8, b9, b10, N7, N8, x7, x8, .tuple #[.agg cq.toArray, .agg cr.toArray], x16, x17, x18, x19, x20, .agg cr.toArray, rfl, rfl, hb1, r0, r1, r2, r3, f0, f1, f2, f3, fun _ => rfl, f5, fun _ => rfl, f7, f8, f9, f10, f11⟩)
      · simp [Region.binds] at hk2
        have hsz : w.heap.size + 1 + 1 + 1 < W.heap.size := Row.lt r3
        have hbz : ¬ b9 = true := fun h => by have := f10 h; rw [hk2] at this; cases this
        exact wpOp_plain rfl rfl (wp_alloc8 rfl ⟨b0, b1, b2, b3, b4, b5, b6, true, b8, b9, b10, W.heap.size, N8, .pointer (some ⟨W.heap.size, 0, none⟩), x8, x15, x16, x17, x18, x19, x20, x21, rfl, rfl, hb1.alloc hb1.size _, Row.alloc r0 _, Row.alloc r1 _, Row.alloc r2 _, Row.alloc r3 _, f0, f1, f2, f3, f4, f5, f6, fun _ => ⟨rfl, hsz, by rw [if_neg hbz]; exact Row.new' rfl rfl⟩, fun h => ⟨(f8 h).1, (f8 h).2.1, Row.alloc (f8 h).2.2 _⟩, fun _ h => Nat.ne_of_gt (Row.lt (f8 h).2.2), fun _ => rfl, f11⟩)
      · simp [Region.binds] at hk2
        have hsz : w.heap.size + 1 + 1 + 1 < W.heap.size := Row.lt r3
        have hbz : ¬ b10 = true := fun h => by have := f11 h; rw [hk2] at this; cases this
        exact wpOp_plain rfl rfl (wp_alloc4 rfl ⟨b0, b1, b2, b3, b4, b5, b6, b7, true, b9, b10, N7, W.heap.size, x7, .pointer (some ⟨W.heap.size, 0, none⟩), x15, x16, x17, x18, x19, x20, x21, rfl, rfl, hb1.alloc hb1.size _, Row.alloc r0 _, Row.alloc r1 _, Row.alloc r2 _, Row.alloc r3 _, f0, f1, f2, f3, f4, f5, f6, fun h => ⟨(f7 h).1, (f7 h).2.1, Row.alloc (f7 h).2.2 _⟩, fun _ => ⟨rfl, hsz, by rw [if_neg hbz]; exact Row.new' rfl rfl⟩, fun h _ => Nat.ne_of_lt (Row.lt (f7 h).2.2), f10, fun _ => rfl⟩)
      · simp [Region.binds] at hk2
        obtain rfl : b7 = true := by simp [hk2]
        obtain rfl : b5 = true := by simp [hk2]
        obtain rfl : b9 = false := by simp [hk2]
        obtain ⟨rfl, y1, y2⟩ := f7 rfl
        obtain rfl := f5 rfl
        rw [if_neg (by decide)] at y2
        have T := y2.there 0 cq.toArray.size (by simp [HLQ.out, vQ_length])
        have fin := y2.over (vs := cq) (by rw [HLQ.out]; rfl)
        exact wpOp_plain rfl rfl (wp_store_mid 135 (.tmp 7) (.tmp 20) rfl N7 0 cq.toArray rfl rfl T iq' oq ⟨b0, b1, b2, b3, b4, true, b6, true, b8, true, b10, N7, N8, .pointer (some ⟨N7, 0, none⟩), x8, x15, x16, x17, x18, x19, .agg cq.toArray, x21, rfl, rfl, below_setCells hb1 (by omega) _, Row.setCells_other r0 _ _ _ (by omega), Row.setCells_other r1 _ _ _ (by omega), Row.setCells_other r2 _ _ _ (by omega), Row.setCells_other r3 _ _ _ (by omega), f0, f1, f2, f3, f4, fun _ => rfl, f6, fun _ => ⟨rfl, y1, by rw [if_pos rfl]; exact fin⟩, fun h => ⟨(f8 h).1, (f8 h).2.1, Row.setCells_other (f8 h).2.2 _ _ _ (Ne.symm (f9 rfl h))⟩, f9, fun _ => rfl, f11⟩)
      · simp [Region.binds] at hk2
        obtain rfl : b8 = true := by simp [hk2]
        obtain rfl : b6 = true := by simp [hk2]
        obtain rfl : b10 = false := by simp [hk2]
        obtain ⟨rfl, y1, y2⟩ := f8 rfl
        obtain rfl := f6 rfl
        rw [if_neg (by decide)] at y2
        have T := y2.there 0 cr.toArray.size (by simp [HLR.out, vQ_length])
        have fin := y2.over (vs := cr) (by rw [HLR.out]; rfl)
        exact wpOp_plain rfl rfl (wp_store_mid 37 (.tmp 8) (.tmp 21) rfl N8 0 cr.toArray rfl rfl T ir' or ⟨b0, b1, b2, b3, b4, b5, true, b7, true, b9, true, N7, N8, x7, .pointer (some ⟨N8, 0, none⟩), x15, x16, x17, x18, x19, x20, .agg cr.toArray, rfl, rfl, below_setCells hb1 (by omega) _, Row.setCells_other r0 _ _ _ (by omega), Row.setCells_other r1 _ _ _ (by omega), Row.setCells_other r2 _ _ _ (by omega), Row.setCells_other r3 _ _ _ (by omega), f0, f1, f2, f3, f4, f5, fun _ => rfl, fun h => ⟨(f7 h).1, (f7 h).2.1, Row.setCells_other (f7 h).2.2 _ _ _ (f9 h rfl)⟩, fun _ => ⟨rfl, y1, by rw [if_pos rfl]; exact fin⟩, f9, f10, fun _ => rfl⟩)
    · clear hb1 r0 r1 r2 r3 
      intro listed a W hI hr
      obtain ⟨b0, b1, b2, b3, b4, b5, b6, b7, b8, b9, b10, N7, N8, x7, x8, x15, x16, x17, x18, x19, x20, x21, rfl, rfl, hb1, r0, r1, r2, r3, f0, f1, f2, f3, f4, f5, f6, f7, f8, f9, f10, f11⟩ := hI
      have hr2 := List.filter_eq_nil_iff.1 hr
      obtain rfl : b0 = true := by have := hr2 0 (List.mem_range.2 (by decide)); simpa [Region.binds] using this
      obtain rfl : b1 = true := by have := hr2 1 (List.mem_range.2 (by decide)); simpa [Region.binds] using this
      obtain rfl : b2 = true := by have := hr2 2 (List.mem_range.2 (by decide)); simpa [Region.binds] using this
      obtain rfl : b3 = true := by have := hr2 3 (List.mem_range.2 (by decide)); simpa [Region.binds] using this
      obtain rfl : b4 = true := by have := hr2 4 (List.mem_range.2 (by decide)); simpa [Region.binds] using this
      obtain rfl : b5 = true := by have := hr2 5 (List.mem_range.2 (by decide)); simpa [Region.binds] using this
      obtain rfl : b6 = true := by have := hr2 6 (List.mem_range.2 (by decide)); simpa [Region.binds] using this
      obtain rfl : b7 = true := by have := hr2 7 (List.mem_range.2 (by decide)); simpa [Region.binds] using this
      obtain rfl : b8 = true := by have := hr2 8 (List.mem_range.2 (by decide)); simpa [Region.binds] using this
      obtain rfl : b9 = true := by have := hr2 9 (List.mem_range.2 (by decide)); simpa [Region.binds] using this
      obtain rfl : b10 = true := by have := hr2 10 (List.mem_range.2 (by decide)); simpa [Region.binds] using this
      obtain ⟨rfl, m7, p7⟩ := f7 rfl
      rw [if_pos rfl] at p7
      obtain ⟨rfl, m8, p8⟩ := f8 rfl
      rw [if_pos rfl] at p8
      have ne78 := f9 rfl rfl
      clear hr hr2 f0 f1 f2 f3 f4 f5 f6 f7 f8 f9 f10 f11
      have q7 := Row.lt p7
      have q8 := Row.lt p8
      go_wp2_with (refine wpList_load_mid rfl 135 (.tmp 7) rfl N7 0 rfl cq _ p7.all Tryz.underlying135 rfl iq ?_; simp only [Act.put, List.setIfInBounds_toArray, List.set_cons_zero, List.set_cons_succ])
      refine (HHV.out W).mono ?_
      rintro e W2 ⟨rfl, hB⟩
      have hb2 := hb1.trans (hB.mono hb1.size)
      replace r2 := Row.below r2 hB (Row.lt r2)
      replace r3 := Row.below r3 hB (Row.lt r3)
      replace p8 := Row.below p8 hB (Row.lt p8)
      have hsz := hB.size
      clear hB hb1 r0 r1 p7 HHV HDB HDV2 ia ib iq iq' oq
      have n9 : Row ((W2.alloc (Obj.cells #[Value.int IntKind.u64 0, Value.int IntKind.u64 0, Value.int IntKind.u64 0, Value.int IntKind.u64 0] 37)).alloc (Obj.cells #[Value.int IntKind.u64 0, Value.int IntKind.u64 0, Value.int IntKind.u64 0, Value.int IntKind.u64 0] 37)) W2.heap.size (vQ (List.replicate 4 0)) 37 := (Row.new' rfl rfl).alloc _
      have n10 : Row ((W2.alloc (Obj.cells #[Value.int IntKind.u64 0, Value.int IntKind.u64 0, Value.int IntKind.u64 0, Value.int IntKind.u64 0] 37)).alloc (Obj.cells #[Value.int IntKind.u64 0, Value.int IntKind.u64 0, Value.int IntKind.u64 0, Value.int IntKind.u64 0] 37)) (W2.heap.size + 1) (vQ (List.replicate 4 0)) 37 := Row.new' (by simp) rfl
      have T9 := n9.there 0 cl.toArray.size (by simp [HLL.out, vQ_length])
      have n10' := Row.setCells_other n10 W2.heap.size 0 cl (by omega)
      have T10 := n10'.there 0 ch.toArray.size (by simp [HLH.out, vQ_length])
      have u9 : Row ((((W2.alloc (Obj.cells #[Value.int IntKind.u64 0, Value.int IntKind.u64 0, Value.int IntKind.u64 0, Value.int IntKind.u64 0] 37)).alloc (Obj.cells #[Value.int IntKind.u64 0, Value.int IntKind.u64 0, Value.int IntKind.u64 0, Value.int IntKind.u64 0] 37)).setCells W2.heap.size 0 cl).setCells (W2.heap.size + 1) 0 ch) W2.heap.size cl 37 := Row.setCells_other (Row.over n9 (by rw [HLL.out]; rfl)) _ _ _ (by omega)
      have hB4 : Below W2.heap.size W2 ((((W2.alloc (Obj.cells #[Value.int IntKind.u64 0, Value.int IntKind.u64 0, Value.int IntKind.u64 0, Value.int IntKind.u64 0] 37)).alloc (Obj.cells #[Value.int IntKind.u64 0, Value.int IntKind.u64 0, Value.int IntKind.u64 0, Value.int IntKind.u64 0] 37)).setCells W2.heap.size 0 cl).setCells (W2.heap.size + 1) 0 ch) := below_setCells (below_setCells (((Below.refl _ _).alloc (Nat.le_refl _) _).alloc (by simp) _) (Nat.le_refl _) _) (by omega) _
      have u2 := Row.below r2 hB4 (Row.lt r2)
      have u3 := Row.below r3 hB4 (Row.lt r3)
      have u8 := Row.below p8 hB4 (Row.lt p8)
      have ub := hb2.trans (hB4.mono hb2.size)
      clear n9 n10 n10' hB4 r2 r3 p8 hb2
      go_wp2_with (first
        | (refine wpList_store_mid rfl 37 (.tmp 9) (.tmp 25) rfl W2.heap.size 0 cl.toArray rfl rfl T9 il' ol ?_; simp only [Act.put])
        | (refine wpList_store_mid rfl 37 (.tmp 10) (.tmp 26) rfl (W2.heap.size + 1) 0 ch.toArray rfl rfl T10 ih' oh ?_; simp only [Act.put]; clear T9 T10; (change wpList _ _ _ _ _ ((((W2.alloc (Obj.cells #[Value.int IntKind.u64 0, Value.int IntKind.u64 0, Value.int IntKind.u64 0, Value.int IntKind.u64 0] 37)).alloc (Obj.cells #[Value.int IntKind.u64 0, Value.int IntKind.u64 0, Value.int IntKind.u64 0, Value.int IntKind.u64 0] 37)).setCells W2.heap.size 0 cl).setCells (W2.heap.size + 1) 0 ch)); (generalize ((((W2.alloc (Obj.cells #[Value.int IntKind.u64 0, Value.int IntKind.u64 0, Value.int IntKind.u64 0, Value.int IntKind.u64 0] 37)).alloc (Obj.cells #[Value.int IntKind.u64 0, Value.int IntKind.u64 0, Value.int IntKind.u64 0, Value.int IntKind.u64 0] 37)).setCells W2.heap.size 0 cl).setCells (W2.heap.size + 1) 0 ch) = W4 at *)))
      refine wp_region_inv (by kernel_rfl) (fun listed a W => ∃ (b0 b1 b2 b3 b4 : Bool) (x6 x27 x28 : Value), listed = #[b0, b1, b2, b3, b4] ∧ a = { tmps := #[.agg ca.toArray, .agg cb.toArray, .pointer (some ⟨w.heap.size, 0, none⟩), .pointer (some ⟨w.heap.size + 1, 0, none⟩), .pointer (some ⟨w.heap.size + 1 + 1, 0, none⟩), .pointer (some ⟨w.heap.size + 1 + 1 + 1, 0, none⟩), x6, .pointer (some ⟨N7, 0, none⟩), .pointer (some ⟨N8, 0, none⟩), .pointer (some ⟨W2.heap.size, 0, none⟩), .pointer (some ⟨W2.heap.size + 1, 0, none⟩), .agg cb.toArray, .bool false, undef, undef, x15, x16, x17, x18, x19, x20, x21, .tuple #[.agg cl.toArray, .agg ch.toArray], .agg cq.toArray, .tuple #[.agg cl.toArray, .agg ch.toArray], .agg cl.toArray, .agg ch.toArray, x27, x28], defers := [] } ∧ Below w.heap.size w W ∧ Row W W2.heap.size cl 37 ∧ Row W N8 cr 37 ∧ Row W (w.heap.size + 1 + 1) (if b2 = true then cl else vQ (List.replicate 4 0)) 37 ∧ Row W (w.heap.size + 1 + 1 + 1) (if b3 = true then cr else vQ (List.replicate 4 0)) 37 ∧ (b0 = true → x27 = .agg cl.toArray) ∧ (b1 = true → x28 = .agg cr.toArray) ∧ (b4 = true → x6 = .int .i64 0)) ?_ ?_ ?_
      · exact ⟨false, false, false, false, false, .int .i64 0, undef, undef, rfl, rfl, Below.drew ub, Row.drew u9, Row.drew u8, (by rw [if_neg (by decide)]; exact Row.drew u2), (by rw [if_neg (by decide)]; exact Row.drew u3), (fun h => by cases h), (fun h => by cases h), (fun h => by cases h)⟩
      · clear ub u9 u8 u2 u3 
        intro listed a W k hI hk
        obtain ⟨b0, b1, b2, b3, b4, x6, x27, x28, rfl, rfl, ub, u9, u8, u2, u3, f0, f1, f2⟩ := hI
        have hk2 := (List.mem_filter.1 hk).2
        have hk1 : k < 5 := List.mem_range.1 (List.mem_filter.1 hk).1
        clear hk
        rcases (show k = 0 ∨ k = 1 ∨ k = 2 ∨ k = 3 ∨ k = 4 by omega) with rfl | rfl | rfl | rfl | rfl
        · exact wpOp_plain rfl rfl (wp_load_mid 37 (.tmp 9) rfl W2.heap.size 0 rfl cl _ u9.all Tryz.underlying37 rfl il ⟨true, b1, b2, b3, b4, x6, .agg cl.toArray, x28, rfl, rfl, ub, u9, u8, u2, u3, fun _ => rfl, f1, f2⟩)
        · exact wpOp_plain rfl rfl (wp_load_mid 37 (.tmp 8) rfl N8 0 rfl cr _ u8.all Tryz.underlying37 rfl ir ⟨b0, true, b2, b3, b4, x6, x27, .agg cr.toArray, rfl, rfl, ub, u9, u8, u2, u3, f0, fun _ => rfl, f2⟩)
        · simp [Region.binds] at hk2
          obtain rfl : b0 = true := by simp [hk2]
          obtain rfl : b2 = false := by simp [hk2]
          obtain rfl := f0 rfl
          rw [if_neg (by decide)] at u2
          have T := u2.there 0 cl.toArray.size (by simp [HLL.out, vQ_length])
          have fin := u2.over (vs := cl) (by rw [HLL.out]; rfl)
          exact wpOp_plain rfl rfl (wp_store_mid 37 (.tmp 4) (.tmp 27) rfl (w.heap.size + 1 + 1) 0 cl.toArray rfl rfl T il' ol ⟨true, b1, true, b3, b4, x6, .agg cl.toArray, x28, rfl, rfl, below_setCells ub (by omega) _, Row.setCells_other u9 _ _ _ (by omega), Row.setCells_other u8 _ _ _ (by omega), (by rw [if_pos rfl]; exact fin), Row.setCells_other u3 _ _ _ (by omega), fun _ => rfl, f1, f2⟩)
        · simp [Region.binds] at hk2
          obtain rfl : b1 = true := by simp [hk2]
          obtain rfl : b3 = false := by simp [hk2]
          obtain rfl := f1 rfl
          rw [if_neg (by decide)] at u3
          have T := u3.there 0 cr.toArray.size (by simp [HLR.out, vQ_length])
          have fin := u3.over (vs := cr) (by rw [HLR.out]; rfl)
          exact wpOp_plain rfl rfl (wp_store_mid 37 (.tmp 5) (.tmp 28) rfl (w.heap.size + 1 + 1 + 1) 0 cr.toArray rfl rfl T ir' or ⟨b0, true, b2, true, b4, x6, x27, .agg cr.toArray, rfl, rfl, below_setCells ub (by omega) _, Row.setCells_other u9 _ _ _ (by omega), Row.setCells_other u8 _ _ _ (by omega), Row.setCells_other u2 _ _ _ (by omega), (by rw [if_pos rfl]; exact fin), f0, fun _ => rfl, f2⟩)
        · exact wpOp_plain rfl rfl (wp_assign (.const (.int .i64 0)) rfl ⟨b0, b1, b2, b3, true, .int .i64 0, x27, x28, rfl, rfl, ub, u9, u8, u2, u3, f0, f1, fun _ => rfl⟩)
      · clear ub u9 u8 u2 u3 
        intro listed a W hI hr
        obtain ⟨b0, b1, b2, b3, b4, x6, x27, x28, rfl, rfl, ub, u9, u8, u2, u3, f0, f1, f2⟩ := hI
        have hr2 := List.filter_eq_nil_iff.1 hr
        obtain rfl : b0 = true := by have := hr2 0 (List.mem_range.2 (by decide)); simpa [Region.binds] using this
        obtain rfl : b1 = true := by have := hr2 1 (List.mem_range.2 (by decide)); simpa [Region.binds] using this
        obtain rfl : b2 = true := by have := hr2 2 (List.mem_range.2 (by decide)); simpa [Region.binds] using this
        obtain rfl : b3 = true := by have := hr2 3 (List.mem_range.2 (by decide)); simpa [Region.binds] using this
        obtain rfl : b4 = true := by have := hr2 4 (List.mem_range.2 (by decide)); simpa [Region.binds] using this
        rw [if_pos rfl] at u2
        rw [if_pos rfl] at u3
        obtain rfl := f2 rfl
        clear hr hr2 f0 f1 f2
        go_wp2
        exact bodyPost_ret (results_rows_tmp Tryz.results72 _ _ (w.heap.size + 1 + 1) (w.heap.size + 1 + 1 + 1) 37 37 cl cr (.int .i64 0) rfl rfl rfl u2 u3 Tryz.underlying37 info_w4 HLL.out Tryz.underlying37 info_w4 HLR.out) rfl ⟨by rw [HR.out.1, HR.out.2.1, HR.out.2.2, HCL.out, HCR.out], ub⟩

end Go.Proofs.YtclbiophgnkggaaGreatDoor

namespace Go.Proofs.YtclbiophgnkggaaGreatDoor
open Go Go.RowKit
open Wd
open Go.Lib (decDigits nDigits)

/-- The cells c are the parts of m. -/
def Wc (c : List Value) (m : Nat) : Prop := c = vQ (dgs m 4)
theorem Wc.len {c : List Value} {m : Nat} (h : Wc c m) : c.length = 4 := by rw [h, vQ_length, dgs_length]
theorem Wc.info {c : List Value} {m : Nat} (h : Wc c m) : (Tryz.prog.info? 37).map (·.size) = some c.length := by rw [info_w4, h.len]
theorem Wc.info' {c : List Value} {m : Nat} (h : Wc c m) : (Tryz.prog.info? 37).map (·.size) = some c.toArray.size := by rw [info_w4]; simp [h.len]
theorem Wc.one {c : List Value} {m : Nat} (h : Wc c m) : c.toArray.all (·.oneCell') = true := all_oneCell_toArray (by rw [h]; exact vQ_one _)
theorem Wc.there {c : List Value} {m : Nat} (h : Wc c m) {W : World} {b : Nat} {ds : List Value} {t : TypeId} (r : Row W b ds t) (hl : ds.length = 4) : W.there b 0 c.toArray.size := r.there 0 _ (by simp [h.len, hl])
theorem Wc.zero : Wc [.int .u64 0, .int .u64 0, .int .u64 0, .int .u64 0] 0 := rfl

section
variable {P : Program} {ops : Array Oper} {rest : List Oper} {op : Oper} {a : Act} {w : World} {Q : Exit → Act → World → Prop}
/-- A load of a whole row, guarded or not. -/
theorem wpList_load_w (hw : Region.wanted op (yielded ops a.tmps) = true) (ty : TypeId) (x : Operand) (ho : op.op = .load ty x)
    (b o : Nat) (hx : a.eval x = .pointer (some ⟨b, o, none⟩)) (cs : List Value) (d : TypeDesc) (hc : w.rangeAt b o cs)
    (hu : P.underlying ty = some d) (hd : d.isRow = true) (hi : (P.info? ty).map (·.size) = some cs.length)
    (h : wpList P ops Q rest (a.put op.dst (.agg cs.toArray)) w) : wpList P ops Q (op :: rest) a w :=
  BigFrame.wpList_want hw fun _ hK => wp_load_mid ty x ho b o hx cs d hc hu hd hi (hK _ _ h)
theorem wpList_eql_c (hw : Region.wanted op (yielded ops a.tmps) = true) (x y : Operand) (yt : TypeId) (ho : op.op = .binOp .eql 37 x y yt) {c d : List Value} {m n : Nat} (Hc : Wc c m) (Hd : Wc d n) (hm : m < 2 ^ 256) (hn : n < 2 ^ 256) (hx : a.eval x = .agg c.toArray) (hy : a.eval y = .agg d.toArray)
    {B : Bool} (hB : decide (m = n) = B) (h : wpList Tryz.prog ops Q rest (a.put op.dst (.bool B)) w) : wpList Tryz.prog ops Q (op :: rest) a w :=
  wpList_eql_wide hw x y yt ho m n hm hn (by rw [hx, Hc]) (by rw [hy, Hd]) (by rw [hB]; exact h)
theorem wpList_neq_c (hw : Region.wanted op (yielded ops a.tmps) = true) (x y : Operand) (yt : TypeId) (ho : op.op = .binOp .neq 37 x y yt) {c d : List Value} {m n : Nat} (Hc : Wc c m) (Hd : Wc d n) (hm : m < 2 ^ 256) (hn : n < 2 ^ 256) (hx : a.eval x = .agg c.toArray) (hy : a.eval y = .agg d.toArray)
    {B : Bool} (hB : (!decide (m = n)) = B) (h : wpList Tryz.prog ops Q rest (a.put op.dst (.bool B)) w) : wpList Tryz.prog ops Q (op :: rest) a w :=
  wpList_neq_wide hw x y yt ho m n hm hn (by rw [hx, Hc]) (by rw [hy, Hd]) (by rw [hB]; exact h)
theorem wp_eql_c {o : Oper} {K : Act → World → Prop} (x y : Operand) (yt : TypeId) (ho : o.op = .binOp .eql 37 x y yt) {c d : List Value} {m n : Nat} (Hc : Wc c m) (Hd : Wc d n) (hm : m < 2 ^ 256) (hn : n < 2 ^ 256) (hx : a.eval x = .agg c.toArray) (hy : a.eval y = .agg d.toArray)
    {B : Bool} (hB : decide (m = n) = B) (h : K (a.put o.dst (.bool B)) w) : Oper.wp Tryz.prog o a w K Q := by
  have hr := run_eql_w w (dgs m 4) (dgs n 4) (dgs_length _ _) (dgs_length _ _)
  rw [show decide (dgs m 4 = dgs n 4) = B by rw [← hB, Bool.eq_iff_iff]; simp only [decide_eq_true_eq]; exact dgs_eq m n hm hn] at hr
  rw [Hc] at hx
  rw [Hd] at hy
  unfold Oper.wp execOp
  simp only [ho, hx, hy, Sem.run_bind, run_eqGuard_agg w .eql _ x y _ _ guard_wide, Result.andThen_ok, hr, Sem.run_pure, Oper.upon_value]
  exact h
end

theorem add_c {ca cb : List Value} {a b : Nat} (Ha : Wc ca a) (Hb : Wc cb b) (ha : a < 2 ^ 256) (hb : b < 2 ^ 256) {r : Nat} {E : Int} (hr : addR a b = r) (hE : addE a b = E) (w : World) : Calls Tryz.prog 68 #[.agg ca.toArray, .agg cb.toArray] w fun e w' => ∃ c, Wc c r ∧ e = .returned (.tuple #[.agg c.toArray, .int .i64 E]) ∧ Below w.heap.size w w' := by
  subst hr hE; rw [Ha, Hb]
  exact (add_any a b ha hb w).mono fun e w' h => ⟨_, rfl, h.1, h.2⟩
theorem sub_c {ca cb : List Value} {a b : Nat} (Ha : Wc ca a) (Hb : Wc cb b) (ha : a < 2 ^ 256) (hb : b < 2 ^ 256) {r : Nat} {E : Int} (hr : subR a b = r) (hE : subE a b = E) (w : World) : Calls Tryz.prog 70 #[.agg ca.toArray, .agg cb.toArray] w fun e w' => ∃ c, Wc c r ∧ e = .returned (.tuple #[.agg c.toArray, .int .i64 E]) ∧ Below w.heap.size w w' := by
  subst hr hE; rw [Ha, Hb]
  exact (sub_any a b ha hb w).mono fun e w' h => ⟨_, rfl, h.1, h.2⟩
theorem mul_c {ca cb : List Value} {a b : Nat} (Ha : Wc ca a) (Hb : Wc cb b) (ha : a < 2 ^ 256) (hb : b < 2 ^ 256) {r : Nat} {E : Int} (hr : mulR a b = r) (hE : mulE a b = E) (w : World) : Calls Tryz.prog 71 #[.agg ca.toArray, .agg cb.toArray] w fun e w' => ∃ c, Wc c r ∧ e = .returned (.tuple #[.agg c.toArray, .int .i64 E]) ∧ Below w.heap.size w w' := by
  subst hr hE; rw [Ha, Hb]
  exact (mul_any a b ha hb w).mono fun e w' h => ⟨_, rfl, h.1, h.2⟩
theorem cmp_c {ca cb : List Value} {a b : Nat} (Ha : Wc ca a) (Hb : Wc cb b) (ha : a < 2 ^ 256) (hb : b < 2 ^ 256) {E : Int} (hE : cmpR a b = E) (w : World) : Calls Tryz.prog 74 #[.agg ca.toArray, .agg cb.toArray] w fun e w' => e = .returned (.int .i64 E) ∧ Below w.heap.size w w' := by
  subst hE; rw [Ha, Hb]
  exact cmp_any a b ha hb w
theorem div_c {ca cb : List Value} {a b : Nat} (Ha : Wc ca a) (Hb : Wc cb b) (ha : a < 2 ^ 256) (hb : b < 2 ^ 256) {q r : Nat} {E : Int} (hq : divQ a b = q) (hr : divR a b = r) (hE : divE b = E) (w : World) : Calls Tryz.prog 72 #[.agg ca.toArray, .agg cb.toArray] w fun e w' => ∃ c d, Wc c q ∧ Wc d r ∧ e = .returned (.tuple #[.agg c.toArray, .agg d.toArray, .int .i64 E]) ∧ Below w.heap.size w w' := by
  subst hq hr hE; rw [Ha, Hb]
  exact (div_any a b ha hb w).mono fun e w' h => ⟨_, _, rfl, rfl, h.1, h.2⟩
theorem text_c {ca : List Value} {a : Nat} (Ha : Wc ca a) (ha : a < 2 ^ 256) {D : List UInt8} (hD : decDigits a = D) (w : World) (hp : P10 w) : Calls Tryz.prog 61 #[.agg ca.toArray] w fun e w' => e = .returned (.string ⟨D.toArray⟩) ∧ Below w.heap.size w w' := by
  subst hD; rw [Ha]
  exact text_any a ha w hp

/-! ### The greatest number -/
def topDigs : List UInt8 := [49, 49, 53, 55, 57, 50, 48, 56, 57, 50, 51, 55, 51, 49, 54, 49, 57, 53, 52, 50, 51, 53, 55, 48, 57, 56, 53, 48, 48, 56, 54, 56, 55, 57, 48, 55, 56, 53, 51, 50, 54, 57, 57, 56, 52, 54, 54, 53, 54, 52, 48, 53, 54, 52, 48, 51, 57, 52, 53, 55, 53, 56, 52, 48, 48, 55, 57, 49, 51, 49, 50, 57, 54, 51, 57, 57, 51, 53]
theorem dec_top : decDigits 115792089237316195423570985008687907853269984665640564039457584007913129639935 = topDigs := by
  rw [Lib.decDigits_eq, Lib.nDigits_unique 77 _ (by decide) (by decide)]
  decide
theorem parse_top : parse (topDigs.map UInt8.toNat) = some 115792089237316195423570985008687907853269984665640564039457584007913129639935 := by
  have h := parse_nums 115792089237316195423570985008687907853269984665640564039457584007913129639935 (by decide)
  unfold nums at h
  rw [dec_top] at h
  exact h
theorem str_of (s : ByteArray) (l : List UInt8) (h : s.data.toList = l) : StrN s (l.map UInt8.toNat) := by
  subst h
  refine ⟨by rw [List.length_map]; rfl, fun x hx => ?_, fun i hi => ?_⟩
  · obtain ⟨y, _, rfl⟩ := List.mem_map.1 hx
    exact y.toNat_lt
  · have : i < s.data.size := hi
    rw [List.getD_eq_getElem?_getD, List.getElem?_map, Array.getElem?_toList, Array.getElem?_eq_getElem this]
    rfl
end Go.Proofs.YtclbiophgnkggaaGreatDoor
