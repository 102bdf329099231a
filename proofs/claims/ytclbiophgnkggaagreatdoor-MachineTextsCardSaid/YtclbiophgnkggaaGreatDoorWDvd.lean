/-
  wide.divide.
-/
import Derived.Test.YtclbiophgnkggaaGreatDoorWTake
import Derived.Test.YtclbiophgnkggaaGreatDoorWDbl
import Derived.Test.YtclbiophgnkggaaGreatDoorWBits
import Derived.Test.YtclbiophgnkggaaGreatDoorWInv
import Derived.Deep.RegionLaw
import Derived.Deep.LoopGhost
import Derived.WalkMore
import Derived.BigQuiet
namespace Go.Proofs.YtclbiophgnkggaaGreatDoor
open Go Go.RowKit
open Wd

theorem wp_alloc9 {o : Oper} {a : Act} {w : World} {K : Act → World → Prop} {Q : Exit → Act → World → Prop} (ho : o.op = .alloc 153) (h : K (a.put o.dst (.pointer (some ⟨w.heap.size, 0, none⟩))) (w.alloc (.cells (vQ (List.replicate 9 0)).toArray 153))) : Oper.wp Tryz.prog o a w K Q := by
  obtain ⟨dst, op, ty, pos, after, guard⟩ := o
  simp only at ho
  subst ho
  unfold Oper.wp
  go_simp
  exact h
theorem drewN_add (w : World) (m k : Nat) : (w.drewN m).drewN k = w.drewN (m + k) := by simp [World.drewN, Nat.add_assoc]
theorem eight (n : Nat) : dgs n 8 = [lim n 0, lim n 1, lim n 2, lim n 3, lim n 4, lim n 5, lim n 6, lim n 7] := rfl

set_option maxRecDepth 100000 in
set_option maxHeartbeats 4000000 in
theorem divide_any (A b : Nat) (hA : A < 18446744073709551616 ^ 8) (hb : b < 2 ^ 256) (h0 : 0 < b) (w : World) :
    Calls Tryz.prog 96 #[.agg (vQ (dgs A 8)).toArray, .agg (vQ (dgs b 4)).toArray] w fun e w' => e = .returned (.tuple #[.agg (vQ (dgs (A / b) 8)).toArray, .agg (vQ (dgs (A % b) 4)).toArray]) ∧ Below w.heap.size w w' := by
  obtain ⟨s1, s2, s3, s4⟩ := shf_spec b hb h0
  have HST : Hid _ := Dv.start A b hb h0 hA
  have hti := topi_le b
  have hnn := topi_bits b hb h0
  have HBITS : Hid (∀ w, _) := bits_any b
  have HLEAD : Hid (∀ w, _) := lead_any (lim b (topi b)) (lim_lt _ _)
  have HUA : Hid (∀ w, _) := shiftUp_any A (shf b) hA s1
  have HDB : Hid (∀ w, _) := doubled_any b hb
  have HUB : Hid (∀ w, _) := shiftUp_any b (shf b) (Nat.lt_of_lt_of_le hb (by decide)) s1
  have HEQ : Hid (A / b = A * 2 ^ shf b / (b * 2 ^ shf b) ∧ A % b = A * 2 ^ shf b % (b * 2 ^ shf b) / 2 ^ shf b) := ⟨(div_down A b (shf b)).1.symm, (div_down A b (shf b)).2.symm⟩
  have hsh : 64 - Lib.bitLen (lim b (topi b)) = shf b := rfl
  rw [hsh] at HLEAD
  clear hsh
  generalize shf b = s at *
  generalize bitsR b = L at *
  obtain ⟨i, hi⟩ : ∃ i, i = topi b := ⟨_, rfl⟩
  rw [← hi] at hti hnn HLEAD s2 s3 s4 HST
  clear hi
  obtain ⟨Y, hY⟩ : ∃ Y, Y = b * 2 ^ s := ⟨_, rfl⟩
  obtain ⟨A', hA'⟩ : ∃ A', A' = A * 2 ^ s := ⟨_, rfl⟩
  rw [← hY] at s2 s3 s4 HST HUB HEQ
  rw [← hA'] at HST HUA HEQ
  obtain ⟨n, hn⟩ : ∃ n, n = i + 1 := ⟨_, rfl⟩
  rw [← hn] at hnn s2 HST
  obtain ⟨ca, hca⟩ : ∃ ca, ca = vQ (dgs A 8) := ⟨_, rfl⟩
  obtain ⟨cb, hcb⟩ : ∃ cb, cb = vQ (dgs b 4) := ⟨_, rfl⟩
  have gB := vQ_get (dgs b 4) i (by rw [dgs_length]; omega)
  rw [dgs_getD _ _ _ (by omega), ← hcb] at gB
  obtain ⟨cu, hcu⟩ : ∃ cu, cu = vQ (dgs A' 9) := ⟨_, rfl⟩
  obtain ⟨cy, hcy⟩ : ∃ cy, cy = vQ (dgs Y 9) := ⟨_, rfl⟩
  obtain ⟨cd, hcd⟩ : ∃ cd, cd = vQ (dgs b 8) := ⟨_, rfl⟩
  rw [← hca, ← hcu] at HUA
  rw [← hcb, ← hcd] at HDB
  rw [← hcd, ← hcy] at HUB
  rw [← hcb] at HBITS
  rw [← hca, ← hcb]
  have la : ca.length = 8 := by rw [hca, vQ_length, dgs_length]
  have lb : cb.length = 4 := by rw [hcb, vQ_length, dgs_length]
  have ia : (Tryz.prog.info? 135).map (·.size) = some ca.length := by rw [info_d8b, la]
  have ib : (Tryz.prog.info? 37).map (·.size) = some cb.length := by rw [info_w4, lb]
  generalize lim b i = bt at *
  have HN : Hid (n = i + 1) := hn
  have HA8 : Hid (A' / Y < 18446744073709551616 ^ 8) := by show _ < _; rw [← HEQ.out.1]; exact Nat.lt_of_le_of_lt (Nat.div_le_self _ _) hA
  have lcu : cu.length = 9 := by rw [hcu, vQ_length, dgs_length]
  have lcy : cy.length = 9 := by rw [hcy, vQ_length, dgs_length]
  have icu : (Tryz.prog.info? 153).map (·.size) = some cu.toArray.size := by rw [info_d9]; simp [lcu]
  have icy : (Tryz.prog.info? 153).map (·.size) = some cy.toArray.size := by rw [info_d9]; simp [lcy]
  have ocu := all_oneCell_toArray (show ∀ v ∈ cu, v.oneCell' = true by rw [hcu]; exact vQ_one _)
  have ocy := all_oneCell_toArray (show ∀ v ∈ cy, v.oneCell' = true by rw [hcy]; exact vQ_one _)
  have HCU : Hid (cu = vQ (dgs A' 9)) := hcu
  have HCY : Hid (cy = vQ (dgs Y 9)) := hcy
  have eN : ((L : Int) + 63) / 64 = (n : Int) := by omega
  have eI : (n : Int) - 1 = (i : Int) := by omega
  have hi4 : i < 4 := by omega
  clear hA hb h0 hcd hca hcb la lb hY hA' s4 hn hnn hcu hcy
  have rA : Row ((w.alloc (Obj.cells ca.toArray 135)).alloc (Obj.cells cb.toArray 37)) w.heap.size ca 135 := (Row.new w ca _).alloc _
  have rB : Row ((w.alloc (Obj.cells ca.toArray 135)).alloc (Obj.cells cb.toArray 37)) (w.heap.size + 1) cb 37 := Row.new' (by simp) rfl
  go_enter Tryz.func96, Tryz.ntmps96
  go_wp2
  go_step3
  have hb0 : Below w.heap.size w ((((w.alloc (Obj.cells ca.toArray 135)).alloc (Obj.cells cb.toArray 37)).alloc (Obj.cells (vQ (List.replicate 8 0)).toArray 135)).alloc (Obj.cells (vQ (List.replicate 4 0)).toArray 37)) := ((((Below.refl _ _).alloc (Nat.le_refl _) _).alloc (by simp) _).alloc (by simp; omega) _).alloc (by simp; omega) _
  have r0 := Row.alloc (Row.alloc rA (Obj.cells (vQ (List.replicate 8 0)).toArray 135)) (Obj.cells (vQ (List.replicate 4 0)).toArray 37)
  have r1 := Row.alloc (Row.alloc rB (Obj.cells (vQ (List.replicate 8 0)).toArray 135)) (Obj.cells (vQ (List.replicate 4 0)).toArray 37)
  have r2 : Row ((((w.alloc (Obj.cells ca.toArray 135)).alloc (Obj.cells cb.toArray 37)).alloc (Obj.cells (vQ (List.replicate 8 0)).toArray 135)).alloc (Obj.cells (vQ (List.replicate 4 0)).toArray 37)) (w.heap.size + 1 + 1) (vQ (List.replicate 8 0)) 135 := (Row.new' (by simp) rfl).alloc _
  have r3 : Row ((((w.alloc (Obj.cells ca.toArray 135)).alloc (Obj.cells cb.toArray 37)).alloc (Obj.cells (vQ (List.replicate 8 0)).toArray 135)).alloc (Obj.cells (vQ (List.replicate 4 0)).toArray 37)) (w.heap.size + 1 + 1 + 1) (vQ (List.replicate 4 0)) 37 := Row.new' (by simp) rfl
  have Z8 : (vQ (List.replicate 8 0)).toArray = #[Value.int IntKind.u64 0, Value.int IntKind.u64 0, Value.int IntKind.u64 0, Value.int IntKind.u64 0, Value.int IntKind.u64 0, Value.int IntKind.u64 0, Value.int IntKind.u64 0, Value.int IntKind.u64 0] := rfl
  have Z4 : (vQ (List.replicate 4 0)).toArray = #[Value.int IntKind.u64 0, Value.int IntKind.u64 0, Value.int IntKind.u64 0, Value.int IntKind.u64 0] := rfl
  rw [← Z8, ← Z4]
  generalize ((((w.alloc (Obj.cells ca.toArray 135)).alloc (Obj.cells cb.toArray 37)).alloc (Obj.cells (vQ (List.replicate 8 0)).toArray 135)).alloc (Obj.cells (vQ (List.replicate 4 0)).toArray 37)) = W0 at *
  clear rA rB Z8 Z4
  go_wp2_with (refine wpList_load_mid rfl 37 (.tmp 3) rfl (w.heap.size + 1) 0 rfl cb _ r1.all Tryz.underlying37 rfl ib ?_; simp only [Act.put, List.setIfInBounds_toArray, List.set_cons_zero, List.set_cons_succ])
  refine (HBITS.out W0).mono ?_
  rintro e W1 ⟨rfl, hB1⟩
  have hb1 := hb0.trans (hB1.mono hb0.size)
  replace r0 := Row.below r0 hB1 (Row.lt r0)
  replace r1 := Row.below r1 hB1 (Row.lt r1)
  replace r2 := Row.below r2 hB1 (Row.lt r2)
  replace r3 := Row.below r3 hB1 (Row.lt r3)
  clear hB1 hb0
  have gb := r1.cell i _ gB
  go_wp2_with (go_at_call 108; refine (HLEAD.out W1).mono ?_; rintro e w2 ⟨rfl, rfl⟩)
  refine wp_region_inv (by kernel_rfl) (fun listed a W => ∃ (b0 b1 b2 b3 b4 b5 b6 b7 b8 b9 b10 : Bool) (N8 N9 : Nat) (x8 x9 x24 x25 x26 x27 x28 x29 x30 : Value), listed = #[b0, b1, b2, b3, b4, b5, b6, b7, b8, b9, b10] ∧ a = { tmps := #[.agg ca.toArray, .agg cb.toArray, .pointer (some ⟨w.heap.size, 0, none⟩), .pointer (some ⟨w.heap.size + 1, 0, none⟩), .pointer (some ⟨w.heap.size + 1 + 1, 0, none⟩), .pointer (some ⟨w.heap.size + 1 + 1 + 1, 0, none⟩), .int .i64 (n : Int), .int .i64 (s : Int), x8, x9, undef, undef, undef, undef, undef, .agg cb.toArray, .int .i64 (L : Int), .int .i64 ((L : Int) + 63), .int .i64 (n : Int), .int .i64 (n : Int), .int .i64 (i : Int), .pointer (some ⟨w.heap.size + 1, i, none⟩), .int .u64 (bt : Int), .int .i64 (s : Int), x24, x25, x26, x27, x28, x29, x30, undef, undef, undef, undef, undef, undef, undef, undef, undef, undef, undef, undef, undef, undef, undef, undef, undef, undef, undef, undef, undef, undef, undef, undef, undef, undef, undef, undef, undef, undef, undef, undef, undef, undef, undef, undef, undef, undef, undef, undef, undef, undef], defers := [] } ∧ Below w.heap.size w W ∧ Row W w.heap.size ca 135 ∧ Row W (w.heap.size + 1) cb 37 ∧ Row W (w.heap.size + 1 + 1) (vQ (List.replicate 8 0)) 135 ∧ Row W (w.heap.size + 1 + 1 + 1) (vQ (List.replicate 4 0)) 37 ∧ (b0 = true → x24 = .agg ca.toArray) ∧ (b1 = true → x25 = .int .i64 (s : Int)) ∧ (b2 = true → x26 = .agg cu.toArray) ∧ (b3 = true → x27 = .agg cb.toArray) ∧ (b4 = true → x28 = .agg cd.toArray) ∧ (b5 = true → x29 = .int .i64 (s : Int)) ∧ (b6 = true → x30 = .agg cy.toArray) ∧ (b7 = true → x8 = .pointer (some ⟨N8, 0, none⟩) ∧ w.heap.size + 1 + 1 + 1 < N8 ∧ Row W N8 (if b9 = true then cu else (vQ (List.replicate 9 0))) 153) ∧ (b8 = true → x9 = .pointer (some ⟨N9, 0, none⟩) ∧ w.heap.size + 1 + 1 + 1 < N9 ∧ Row W N9 (if b10 = true then cy else (vQ (List.replicate 9 0))) 153) ∧ (b7 = true → b8 = true → N8 ≠ N9) ∧ (b9 = true → b7 = true) ∧ (b10 = true → b8 = true)) ?_ ?_ ?_
  · exact ⟨false, false, false, false, false, false, false, false, false, false, false, 0, 0, undef, undef, undef, undef, undef, undef, undef, undef, undef, rfl, rfl, Below.drew hb1, Row.drew r0, Row.drew r1, Row.drew r2, Row.drew r3, (fun h => by cases h), (fun h => by cases h), (fun h => by cases h), (fun h => by cases h), (fun h => by cases h), (fun h => by cases h), (fun h => by cases h), (fun h => by cases h), (fun h => by cases h), (fun h => by cases h), (fun h => by cases h), (fun h => by cases h)⟩
  · clear hb1 r0 r1 r2 r3 gb
    intro listed a W k hI hk
    obtain ⟨b0, b1, b2, b3, b4, b5, b6, b7, b8, b9, b10, N8, N9, x8, x9, x24, x25, x26, x27, x28, x29, x30, rfl, rfl, hb1, r0, r1, r2, r3, f0, f1, f2, f3, f4, f5, f6, f7, f8, f9, f10, f11⟩ := hI
    have hk2 := (List.mem_filter.1 hk).2
    have hk1 : k < 11 := List.mem_range.1 (List.mem_filter.1 hk).1
    clear hk
    rcases (show k = 0 ∨ k = 1 ∨ k = 2 ∨ k = 3 ∨ k = 4 ∨ k = 5 ∨ k = 6 ∨ k = 7 ∨ k = 8 ∨ k = 9 ∨ k = 10 by omega) with rfl | rfl | rfl | rfl | rfl | rfl | rfl | rfl | rfl | rfl | rfl
    · exact wpOp_plain rfl rfl (wp_load_mid 135 (.tmp 2) rfl w.heap.size 0 rfl ca _ r0.all Tryz.underlying135 rfl ia ⟨true, b1, b2, b3, b4, b5, b6, b7, b8, b9, b10, N8, N9, x8, x9, .agg ca.toArray, x25, x26, x27, x28, x29, x30, rfl, rfl, hb1, r0, r1, r2, r3, fun _ => rfl, f1, f2, f3, f4, f5, f6, f7, f8, f9, f10, f11⟩)
    · exact wpOp_plain rfl rfl (wp_move (.tmp 7) rfl ⟨b0, true, b2, b3, b4, b5, b6, b7, b8, b9, b10, N8, N9, x8, x9, x24, .int .i64 (s : Int), x26, x27, x28, x29, x30, rfl, rfl, hb1, r0, r1, r2, r3, f0, fun _ => rfl, f2, f3, f4, f5, f6, f7, f8, f9, f10, f11⟩)
    · simp [Region.binds] at hk2
      obtain rfl := f0 (by simp [hk2])
      obtain rfl := f1 (by simp [hk2])
      refine wpOp_plain rfl rfl (wp_fcall 109 #[.agg ca.toArray, .int .i64 (s : Int)] (by go_simp) ((HUA.out W).mono ?_))
      rintro e W2 ⟨rfl, hB2⟩
      exact ⟨_, rfl, b0, b1, true, b3, b4, b5, b6, b7, b8, b9, b10, N8, N9, x8, x9, .agg ca.toArray, .int .i64 (s : Int), .agg cu.toArray, x27, x28, x29, x30, rfl, rfl, hb1.trans (hB2.mono hb1.size), Row.below r0 hB2 (Row.lt r0), Row.below r1 hB2 (Row.lt r1), Row.below r2 hB2 (Row.lt r2), Row.below r3 hB2 (Row.lt r3), fun _ => rfl, fun _ => rfl, fun _ => rfl, f3, f4, f5, f6, fun h => ⟨(f7 h).1, (f7 h).2.1, Row.below (f7 h).2.2 hB2 (Row.lt (f7 h).2.2)⟩, fun h => ⟨(f8 h).1, (f8 h).2.1, Row.below (f8 h).2.2 hB2 (Row.lt (f8 h).2.2)⟩, f9, f10, f11⟩
    · exact wpOp_plain rfl rfl (wp_load_mid 37 (.tmp 3) rfl (w.heap.size + 1) 0 rfl cb _ r1.all Tryz.underlying37 rfl ib ⟨b0, b1, b2, true, b4, b5, b6, b7, b8, b9, b10, N8, N9, x8, x9, x24, x25, x26, .agg cb.toArray, x28, x29, x30, rfl, rfl, hb1, r0, r1, r2, r3, f0, f1, f2, fun _ => rfl, f4, f5, f6, f7, f8, f9, f10, f11⟩)
    · simp [Region.binds] at hk2
      obtain rfl := f3 (by simp [hk2])
      refine wpOp_plain rfl rfl (wp_fcall 97 #[.agg cb.toArray] (by go_simp) ((HDB.out W).mono ?_))
      rintro e W2 ⟨rfl, hB2⟩
      exact ⟨_, rfl, b0, b1, b2, b3, true, b5, b6, b7, b8, b9, b10, N8, N9, x8, x9, x24, x25, x26, .agg cb.toArray, .agg cd.toArray, x29, x30, rfl, rfl, hb1.trans (hB2.mono hb1.size), Row.below r0 hB2 (Row.lt r0), Row.below r1 hB2 (Row.lt r1), Row.below r2 hB2 (Row.lt r2), Row.below r3 hB2 (Row.lt r3), f0, f1, f2, fun _ => rfl, fun _ => rfl, f5, f6, fun h => ⟨(f7 h).1, (f7 h).2.1, Row.below (f7 h).2.2 hB2 (Row.lt (f7 h).2.2)⟩, fun h => ⟨(f8 h).1, (f8 h).2.1, Row.below (f8 h).2.2 hB2 (Row.lt (f8 h).2.2)⟩, f9, f10, f11⟩
    · exact wpOp_plain rfl rfl (wp_move (.tmp 7) rfl ⟨b0, b1, b2, b3, b4, true, b6, b7, b8, b9, b10, N8, N9, x8, x9, x24, x25, x26, x27, x28, .int .i64 (s : Int), x30, rfl, rfl, hb1, r0, r1, r2, r3, f0, f1, f2, f3, f4, fun _ => rfl, f6, f7, f8, f9, f10, f11⟩)
    · simp [Region.binds] at hk2
      obtain rfl := f4 (by simp [hk2])
      obtain rfl := f5 (by simp [hk2])
      refine wpOp_plain rfl rfl (wp_fcall 109 #[.agg cd.toArray, .int .i64 (s : Int)] (by go_simp) ((HUB.out W).mono ?_))
      rintro e W2 ⟨rfl, hB2⟩
      exact ⟨_, rfl, b0, b1, b2, b3, b4, b5, true, b7, b8, b9, b10, N8, N9, x8, x9, x24, x25, x26, x27, .agg cd.toArray, .int .i64 (s : Int), .agg cy.toArray, rfl, rfl, hb1.trans (hB2.mono hb1.size), Row.below r0 hB2 (Row.lt r0), Row.below r1 hB2 (Row.lt r1), Row.below r2 hB2 (Row.lt r2), Row.below r3 hB2 (Row.lt r3), f0, f1, f2, f3, fun _ => rfl, fun _ => rfl, fun _ => rfl, fun h => ⟨(f7 h).1, (f7 h).2.1, Row.below (f7 h).2.2 hB2 (Row.lt (f7 h).2.2)⟩, fun h => ⟨(f8 h).1, (f8 h).2.1, Row.below (f8 h).2.2 hB2 (Row.lt (f8 h).2.2)⟩, f9, f10, f11⟩
    · simp [Region.binds] at hk2
      have hsz : w.heap.size + 1 + 1 + 1 < W.heap.size := Row.lt r3
      have hbz : ¬ b9 = true := fun h => by have := f10 h; rw [hk2] at this; cases this
      exact wpOp_plain rfl rfl (wp_alloc9 rfl ⟨b0, b1, b2, b3, b4, b5, b6, true, b8, b9, b10, W.heap.size, N9, .pointer (some ⟨W.heap.size, 0, none⟩), x9, x24, x25, x26, x27, x28, x29, x30, rfl, rfl, hb1.alloc hb1.size _, Row.alloc r0 _, Row.alloc r1 _, Row.alloc r2 _, Row.alloc r3 _, f0, f1, f2, f3, f4, f5, f6, fun _ => ⟨rfl, hsz, by rw [if_neg hbz]; exact Row.new' rfl rfl⟩, fun h => ⟨(f8 h).1, (f8 h).2.1, Row.alloc (f8 h).2.2 _⟩, fun _ h => Nat.ne_of_gt (Row.lt (f8 h).2.2), fun _ => rfl, f11⟩)
    · simp [Region.binds] at hk2
      have hsz : w.heap.size + 1 + 1 + 1 < W.heap.size := Row.lt r3
      have hbz : ¬ b10 = true := fun h => by have := f11 h; rw [hk2] at this; cases this
      exact wpOp_plain rfl rfl (wp_alloc9 rfl ⟨b0, b1, b2, b3, b4, b5, b6, b7, true, b9, b10, N8, W.heap.size, x8, .pointer (some ⟨W.heap.size, 0, none⟩), x24, x25, x26, x27, x28, x29, x30, rfl, rfl, hb1.alloc hb1.size _, Row.alloc r0 _, Row.alloc r1 _, Row.alloc r2 _, Row.alloc r3 _, f0, f1, f2, f3, f4, f5, f6, fun h => ⟨(f7 h).1, (f7 h).2.1, Row.alloc (f7 h).2.2 _⟩, fun _ => ⟨rfl, hsz, by rw [if_neg hbz]; exact Row.new' rfl rfl⟩, fun h _ => Nat.ne_of_lt (Row.lt (f7 h).2.2), f10, fun _ => rfl⟩)
    · simp [Region.binds] at hk2
      obtain rfl : b7 = true := by simp [hk2]
      obtain rfl : b2 = true := by simp [hk2]
      obtain rfl : b9 = false := by simp [hk2]
      obtain ⟨rfl, g1, g2⟩ := f7 rfl
      obtain rfl := f2 rfl
      rw [if_neg (by decide)] at g2
      have T := g2.there 0 cu.toArray.size (by simp [lcu, vQ_length])
      have fin := g2.over (vs := cu) (by rw [lcu]; rfl)
      exact wpOp_plain rfl rfl (wp_store_mid 153 (.tmp 8) (.tmp 26) rfl N8 0 cu.toArray rfl rfl T icu ocu ⟨b0, b1, true, b3, b4, b5, b6, true, b8, true, b10, N8, N9, .pointer (some ⟨N8, 0, none⟩), x9, x24, x25, .agg cu.toArray, x27, x28, x29, x30, rfl, rfl, below_setCells hb1 (by omega) _, Row.setCells_other r0 _ _ _ (by omega), Row.setCells_other r1 _ _ _ (by omega), Row.setCells_other r2 _ _ _ (by omega), Row.setCells_other r3 _ _ _ (by omega), f0, f1, f2, f3, f4, f5, f6, fun _ => ⟨rfl, g1, by rw [if_pos rfl]; exact fin⟩, fun h => ⟨(f8 h).1, (f8 h).2.1, Row.setCells_other (f8 h).2.2 _ _ _ (Ne.symm (f9 rfl h))⟩, f9, fun _ => rfl, f11⟩)
    · simp [Region.binds] at hk2
      obtain rfl : b8 = true := by simp [hk2]
      obtain rfl : b6 = true := by simp [hk2]
      obtain rfl : b10 = false := by simp [hk2]
      obtain ⟨rfl, g1, g2⟩ := f8 rfl
      obtain rfl := f6 rfl
      rw [if_neg (by decide)] at g2
      have T := g2.there 0 cy.toArray.size (by simp [lcy, vQ_length])
      have fin := g2.over (vs := cy) (by rw [lcy]; rfl)
      exact wpOp_plain rfl rfl (wp_store_mid 153 (.tmp 9) (.tmp 30) rfl N9 0 cy.toArray rfl rfl T icy ocy ⟨b0, b1, b2, b3, b4, b5, true, b7, true, b9, true, N8, N9, x8, .pointer (some ⟨N9, 0, none⟩), x24, x25, x26, x27, x28, x29, .agg cy.toArray, rfl, rfl, below_setCells hb1 (by omega) _, Row.setCells_other r0 _ _ _ (by omega), Row.setCells_other r1 _ _ _ (by omega), Row.setCells_other r2 _ _ _ (by omega), Row.setCells_other r3 _ _ _ (by omega), f0, f1, f2, f3, f4, f5, f6, fun h => ⟨(f7 h).1, (f7 h).2.1, Row.setCells_other (f7 h).2.2 _ _ _ (f9 h rfl)⟩, fun _ => ⟨rfl, g1, by rw [if_pos rfl]; exact fin⟩, f9, f10, fun _ => rfl⟩)
  · clear hb1 r0 r1 r2 r3 gb
    intro listed a W hI hr
    obtain ⟨b0, b1, b2, b3, b4, b5, b6, b7, b8, b9, b10, N8, N9, x8, x9, x24, x25, x26, x27, x28, x29, x30, rfl, rfl, hb1, r0, r1, r2, r3, f0, f1, f2, f3, f4, f5, f6, f7, f8, f9, f10, f11⟩ := hI
    have hr2 := List.filter_eq_nil_iff.1 hr
    obtain rfl : b0 = true := by have := hr2 0 (List.mem_range.2 (by decide)); simpa [Region.binds] using this
    obtain rfl : b1 = true := by have := hr2 1 (List.mem_range.2 (by decide)); simpa [Region.binds] using this
    obtain rfl : b3 = true := by have := hr2 3 (List.mem_range.2 (by decide)); simpa [Region.binds] using this
    obtain rfl : b5 = true := by have := hr2 5 (List.mem_range.2 (by decide)); simpa [Region.binds] using this
    obtain rfl : b7 = true := by have := hr2 7 (List.mem_range.2 (by decide)); simpa [Region.binds] using this
    obtain rfl : b8 = true := by have := hr2 8 (List.mem_range.2 (by decide)); simpa [Region.binds] using this
    obtain rfl : b2 = true := by have := hr2 2 (List.mem_range.2 (by decide)); simpa [Region.binds] using this
    obtain rfl : b4 = true := by have := hr2 4 (List.mem_range.2 (by decide)); simpa [Region.binds] using this
    obtain rfl : b6 = true := by have := hr2 6 (List.mem_range.2 (by decide)); simpa [Region.binds] using this
    obtain rfl : b9 = true := by have := hr2 9 (List.mem_range.2 (by decide)); simpa [Region.binds] using this
    obtain rfl : b10 = true := by have := hr2 10 (List.mem_range.2 (by decide)); simpa [Region.binds] using this
    obtain ⟨rfl, n8, p8⟩ := f7 rfl
    obtain ⟨rfl, n9, p9⟩ := f8 rfl
    have hne := f9 rfl rfl
    rw [if_pos rfl, HCU.out] at p8
    rw [if_pos rfl, HCY.out] at p9
    clear hr hr2 f0 f1 f2 f3 f4 f5 f6 f7 f8 f9 f10 f11 icu icy ocu ocy lcu lcy HCU HCY HUA HUB HDB HBITS HLEAD ia ib gB eN r0 r1
    go_wp2
    go_step3
    have q2 := Row.alloc r2 (Obj.cells (vQ (List.replicate 8 0)).toArray 135)
    have q3 := Row.alloc r3 (Obj.cells (vQ (List.replicate 8 0)).toArray 135)
    have q8 := Row.alloc p8 (Obj.cells (vQ (List.replicate 8 0)).toArray 135)
    have q9 := Row.alloc p9 (Obj.cells (vQ (List.replicate 8 0)).toArray 135)
    have q10 : Row (W.alloc (Obj.cells (vQ (List.replicate 8 0)).toArray 135)) W.heap.size (vQ (dgs 0 8)) 135 := by rw [dgs_zero]; exact Row.new' rfl rfl
    have hb2 := hb1.alloc hb1.size (Obj.cells (vQ (List.replicate 8 0)).toArray 135)
    have l8 := Row.lt p8
    have l9 := Row.lt p9
    have Z8 : (vQ (List.replicate 8 0)).toArray = #[Value.int IntKind.u64 0, Value.int IntKind.u64 0, Value.int IntKind.u64 0, Value.int IntKind.u64 0, Value.int IntKind.u64 0, Value.int IntKind.u64 0, Value.int IntKind.u64 0, Value.int IntKind.u64 0] := rfl
    rw [← Z8]
    generalize W.alloc (Obj.cells (vQ (List.replicate 8 0)).toArray 135) = W2 at *
    clear r2 r3 p8 p9 hb1 Z8
    generalize W.heap.size = M at *
    have hn8 : n ≤ 8 := by have := HN.out; omega
    go_wp2
    go_loopg [11] (9 - n) (fun g v Wx => ∃ (R Q : Nat), v = .int .i64 ((g : Int) - 1) ∧ Below w.heap.size w Wx ∧ Row Wx (w.heap.size + 1 + 1) (vQ (List.replicate 8 0)) 135 ∧ Row Wx (w.heap.size + 1 + 1 + 1) (vQ (List.replicate 4 0)) 37 ∧ Row Wx N8 (vQ (dgs R 9)) 153 ∧ Row Wx N9 (vQ (dgs Y 9)) 153 ∧ Row Wx M (vQ (dgs Q 8)) 135 ∧ Hid (g ≤ 9 - n ∧ Dv A' Y R Q g))
    case atStart => exact ⟨A', 0, by congr 1; omega, hb2, q2, q3, q8, q9, q10, Nat.le_refl _, HST.out⟩
    case round =>
      clear hb2 q2 q3 q8 q9 q10 HST
      obtain ⟨R, Q, rfl, hb2, q2, q3, q8, q9, q10, hD⟩ := hrel
      cases gk with
      | zero =>
        have hDn := Dv.done hD.out.2
        have e0 : (((0 : Nat) : Int) - 1) = -1 := rfl
        rw [e0]
        have HQ : Hid (Q = A / b ∧ R / 2 ^ s = A % b) := ⟨by rw [HEQ.out.1]; exact hDn.1, by rw [HEQ.out.2, ← hDn.2]⟩
        clear hDn hD e0
        go_wp2
        refine wp_named fun a0 ha0 => ?_
        have e10 : a0.eval (.tmp 10) = .pointer (some ⟨M, 0, none⟩) := by rw [ha0]; rfl
        have e8 : a0.eval (.tmp 8) = .pointer (some ⟨N8, 0, none⟩) := by rw [ha0]; rfl
        have e7 : a0.eval (.tmp 7) = .int .i64 (s : Int) := by rw [ha0]; rfl
        have e4 : a0.eval (.tmp 4) = .pointer (some ⟨w.heap.size + 1 + 1, 0, none⟩) := by rw [ha0]; rfl
        have e5 : a0.eval (.tmp 5) = .pointer (some ⟨w.heap.size + 1 + 1 + 1, 0, none⟩) := by rw [ha0]; rfl
        have hsz : a0.tmps.size = 73 := by rw [ha0]; rfl
        have hdf : a0.defers = [] := by rw [ha0]
        clear ha0
        have HSD : Hid (∀ w, _) := shiftDown_any R s s1
        rw [HQ.out.2] at HSD
        rw [HQ.out.1] at q10
        obtain ⟨cq, hcq⟩ : ∃ cq, cq = vQ (dgs (A / b) 8) := ⟨_, rfl⟩
        obtain ⟨cr, hcr⟩ : ∃ cr, cr = vQ (dgs R 9) := ⟨_, rfl⟩
        obtain ⟨cs, hcs⟩ : ∃ cs, cs = vQ (dgs (A % b) 4) := ⟨_, rfl⟩
        have lq : cq.length = 8 := by rw [hcq, vQ_length, dgs_length]
        have lr : cr.length = 9 := by rw [hcr, vQ_length, dgs_length]
        have ls : cs.length = 4 := by rw [hcs, vQ_length, dgs_length]
        have iq : (Tryz.prog.info? 135).map (·.size) = some cq.length := by rw [info_d8b, lq]
        have iq' : (Tryz.prog.info? 135).map (·.size) = some cq.toArray.size := by rw [info_d8b]; simp [lq]
        have ir : (Tryz.prog.info? 153).map (·.size) = some cr.length := by rw [info_d9, lr]
        have is' : (Tryz.prog.info? 37).map (·.size) = some cs.toArray.size := by rw [info_w4]; simp [ls]
        have oq := all_oneCell_toArray (show ∀ v ∈ cq, v.oneCell' = true by rw [hcq]; exact vQ_one _)
        have os := all_oneCell_toArray (show ∀ v ∈ cs, v.oneCell' = true by rw [hcs]; exact vQ_one _)
        have HCQ : Hid (vQ (dgs (A / b) 8) = cq) := hcq.symm
        have HCS : Hid (vQ (dgs (A % b) 4) = cs) := hcs.symm
        rw [← hcr, ← hcs] at HSD
        rw [← hcr] at q8
        rw [← hcq] at q10
        clear hcq hcr hcs
        refine wp_region_inv (by kernel_rfl) (fun listed a W => ∃ (b0 b1 b2 b3 b4 b5 : Bool), listed = #[b0, b1, b2, b3, b4, b5] ∧ a.tmps.size = 73 ∧ a.defers = [] ∧ a.eval (.tmp 10) = .pointer (some ⟨M, 0, none⟩) ∧ a.eval (.tmp 8) = .pointer (some ⟨N8, 0, none⟩) ∧ a.eval (.tmp 7) = .int .i64 (s : Int) ∧ a.eval (.tmp 4) = .pointer (some ⟨w.heap.size + 1 + 1, 0, none⟩) ∧ a.eval (.tmp 5) = .pointer (some ⟨w.heap.size + 1 + 1 + 1, 0, none⟩) ∧ (b0 = true → a.eval (.tmp 69) = .agg cq.toArray) ∧ (b1 = true → a.eval (.tmp 70) = .agg cr.toArray) ∧ (b2 = true → a.eval (.tmp 71) = .int .i64 (s : Int)) ∧ (b3 = true → a.eval (.tmp 72) = .agg cs.toArray) ∧ Below w.heap.size w W ∧ Row W N8 cr 153 ∧ Row W M cq 135 ∧ Row W (w.heap.size + 1 + 1) (if b4 = true then cq else vQ (List.replicate 8 0)) 135 ∧ Row W (w.heap.size + 1 + 1 + 1) (if b5 = true then cs else vQ (List.replicate 4 0)) 37) ?_ ?_ ?_
        · exact ⟨false, false, false, false, false, false, rfl, hsz, hdf, e10, e8, e7, e4, e5, (fun h => by cases h), (fun h => by cases h), (fun h => by cases h), (fun h => by cases h), Below.drew hb2, Row.drew q8, Row.drew q10, Row.drew q2, Row.drew q3⟩
        · clear hb2 q2 q3 q8 q9 q10 hsz hdf e10 e8 e7 e4 e5
          intro listed a W k hI hk
          obtain ⟨b0, b1, b2, b3, b4, b5, rfl, hsz, hdf, e10, e8, e7, e4, e5, g0, g1, g2, g3, hb2, q8, q10, q2, q3⟩ := hI
          have hk2 := (List.mem_filter.1 hk).2
          have hk1 : k < 6 := List.mem_range.1 (List.mem_filter.1 hk).1
          clear hk
          rcases (show k = 0 ∨ k = 1 ∨ k = 2 ∨ k = 3 ∨ k = 4 ∨ k = 5 by omega) with rfl | rfl | rfl | rfl | rfl | rfl
          · exact wpOp_plain rfl rfl (wp_load_mid 135 (.tmp 10) rfl M 0 e10 cq _ q10.all Tryz.underlying135 rfl iq ⟨true, b1, b2, b3, b4, b5, rfl, ((size_put a (some 69) _).trans hsz), ((defers_put a (some 69) _).trans hdf), ((eval_put_other (d := 69) a _ (by decide)).trans e10), ((eval_put_other (d := 69) a _ (by decide)).trans e8), ((eval_put_other (d := 69) a _ (by decide)).trans e7), ((eval_put_other (d := 69) a _ (by decide)).trans e4), ((eval_put_other (d := 69) a _ (by decide)).trans e5), fun _ => eval_put_same (d := 69) a _ (by rw [hsz]; decide), fun h => ((eval_put_other (d := 69) a _ (by decide)).trans (g1 h)), fun h => ((eval_put_other (d := 69) a _ (by decide)).trans (g2 h)), fun h => ((eval_put_other (d := 69) a _ (by decide)).trans (g3 h)), hb2, q8, q10, q2, q3⟩)
          · exact wpOp_plain rfl rfl (wp_load_mid 153 (.tmp 8) rfl N8 0 e8 cr _ q8.all Tryz.underlying153 rfl ir ⟨b0, true, b2, b3, b4, b5, rfl, ((size_put a (some 70) _).trans hsz), ((defers_put a (some 70) _).trans hdf), ((eval_put_other (d := 70) a _ (by decide)).trans e10), ((eval_put_other (d := 70) a _ (by decide)).trans e8), ((eval_put_other (d := 70) a _ (by decide)).trans e7), ((eval_put_other (d := 70) a _ (by decide)).trans e4), ((eval_put_other (d := 70) a _ (by decide)).trans e5), fun h => ((eval_put_other (d := 70) a _ (by decide)).trans (g0 h)), fun _ => eval_put_same (d := 70) a _ (by rw [hsz]; decide), fun h => ((eval_put_other (d := 70) a _ (by decide)).trans (g2 h)), fun h => ((eval_put_other (d := 70) a _ (by decide)).trans (g3 h)), hb2, q8, q10, q2, q3⟩)
          · refine wpOp_plain rfl rfl (wp_move (.tmp 7) rfl ?_)
            rw [e7]
            exact ⟨b0, b1, true, b3, b4, b5, rfl, ((size_put a (some 71) _).trans hsz), ((defers_put a (some 71) _).trans hdf), ((eval_put_other (d := 71) a _ (by decide)).trans e10), ((eval_put_other (d := 71) a _ (by decide)).trans e8), ((eval_put_other (d := 71) a _ (by decide)).trans e7), ((eval_put_other (d := 71) a _ (by decide)).trans e4), ((eval_put_other (d := 71) a _ (by decide)).trans e5), fun h => ((eval_put_other (d := 71) a _ (by decide)).trans (g0 h)), fun h => ((eval_put_other (d := 71) a _ (by decide)).trans (g1 h)), fun _ => eval_put_same (d := 71) a _ (by rw [hsz]; decide), fun h => ((eval_put_other (d := 71) a _ (by decide)).trans (g3 h)), hb2, q8, q10, q2, q3⟩
          · simp [Region.binds] at hk2
            have h70 := g1 (by simp [hk2])
            have h71 := g2 (by simp [hk2])
            refine wpOp_plain rfl rfl (wp_fcall 112 #[.agg cr.toArray, .int .i64 (s : Int)] (by simp [execOp, go_sem]; exact ⟨by simpa [Act.eval] using h70, by simpa [Act.eval] using h71⟩) ((HSD.out W).mono ?_))
            rintro e W2 ⟨rfl, hB⟩
            exact ⟨_, rfl, b0, b1, b2, true, b4, b5, rfl, ((size_put a (some 72) _).trans hsz), ((defers_put a (some 72) _).trans hdf), ((eval_put_other (d := 72) a _ (by decide)).trans e10), ((eval_put_other (d := 72) a _ (by decide)).trans e8), ((eval_put_other (d := 72) a _ (by decide)).trans e7), ((eval_put_other (d := 72) a _ (by decide)).trans e4), ((eval_put_other (d := 72) a _ (by decide)).trans e5), fun h => ((eval_put_other (d := 72) a _ (by decide)).trans (g0 h)), fun h => ((eval_put_other (d := 72) a _ (by decide)).trans (g1 h)), fun h => ((eval_put_other (d := 72) a _ (by decide)).trans (g2 h)), fun _ => eval_put_same (d := 72) a _ (by rw [hsz]; decide), hb2.trans (hB.mono hb2.size), Row.below q8 hB (Row.lt q8), Row.below q10 hB (Row.lt q10), Row.below q2 hB (Row.lt q2), Row.below q3 hB (Row.lt q3)⟩
          · simp [Region.binds] at hk2
            obtain rfl : b4 = false := by simp [hk2]
            have h69 := g0 (by simp [hk2])
            rw [if_neg (by decide)] at q2
            have T := q2.there 0 cq.toArray.size (by simp [lq, vQ_length])
            have fin := q2.over (vs := cq) (by rw [lq]; rfl)
            exact wpOp_plain rfl rfl (wp_store_mid 135 (.tmp 4) (.tmp 69) rfl (w.heap.size + 1 + 1) 0 cq.toArray e4 h69 T iq' oq ⟨b0, b1, b2, b3, true, b5, rfl, hsz, hdf, e10, e8, e7, e4, e5, g0, g1, g2, g3, below_setCells hb2 (by omega) _, Row.setCells_other q8 _ _ _ (by omega), Row.setCells_other q10 _ _ _ (by omega), (by rw [if_pos rfl]; exact fin), Row.setCells_other q3 _ _ _ (by omega)⟩)
          · simp [Region.binds] at hk2
            obtain rfl : b5 = false := by simp [hk2]
            have h72 := g3 (by simp [hk2])
            rw [if_neg (by decide)] at q3
            have T := q3.there 0 cs.toArray.size (by simp [ls, vQ_length])
            have fin := q3.over (vs := cs) (by rw [ls]; rfl)
            exact wpOp_plain rfl rfl (wp_store_mid 37 (.tmp 5) (.tmp 72) rfl (w.heap.size + 1 + 1 + 1) 0 cs.toArray e5 h72 T is' os ⟨b0, b1, b2, b3, b4, true, rfl, hsz, hdf, e10, e8, e7, e4, e5, g0, g1, g2, g3, below_setCells hb2 (by omega) _, Row.setCells_other q8 _ _ _ (by omega), Row.setCells_other q10 _ _ _ (by omega), Row.setCells_other q2 _ _ _ (by omega), (by rw [if_pos rfl]; exact fin)⟩)
        · clear hb2 q2 q3 q8 q9 q10 hsz hdf e10 e8 e7 e4 e5
          intro listed a W hI hr
          obtain ⟨b0, b1, b2, b3, b4, b5, rfl, hsz, hdf, e10, e8, e7, e4, e5, g0, g1, g2, g3, hb2, q8, q10, q2, q3⟩ := hI
          have hr2 := List.filter_eq_nil_iff.1 hr
          obtain rfl : b0 = true := by have := hr2 0 (List.mem_range.2 (by decide)); simpa [Region.binds] using this
          obtain rfl : b1 = true := by have := hr2 1 (List.mem_range.2 (by decide)); simpa [Region.binds] using this
          obtain rfl : b2 = true := by have := hr2 2 (List.mem_range.2 (by decide)); simpa [Region.binds] using this
          obtain rfl : b3 = true := by have := hr2 3 (List.mem_range.2 (by decide)); simpa [Region.binds] using this
          obtain rfl : b4 = true := by have := hr2 4 (List.mem_range.2 (by decide)); simpa [Region.binds] using this
          obtain rfl : b5 = true := by have := hr2 5 (List.mem_range.2 (by decide)); simpa [Region.binds] using this
          rw [if_pos rfl] at q2 q3
          clear hr hr2 g0 g1 g2 g3
          go_wp2
          rw [Exit.noGoto_ret]
          exact bodyPost_ret (results_rows Tryz.results96 _ _ (w.heap.size + 1 + 1) (w.heap.size + 1 + 1 + 1) 135 37 cq cs (by simpa [Act.eval] using e4) (by simpa [Act.eval] using e5) q2 q3 Tryz.underlying135 info_d8b lq Tryz.underlying37 info_w4 ls) hdf ⟨by rw [HCQ.out, HCS.out], hb2⟩
      | succ g =>
        have hg8 : g + n ≤ 8 := by have := hD.out.1; omega
        have ei : (((g + 1 : Nat) : Int) - 1) = (g : Int) := by omega
        rw [ei]
        have e1 : (g : Int) + (n : Int) - 1 = (g : Int) + (i : Int) := by omega
        have hgi : g + i < 9 := by have := HN.out; omega
        have c1 := q8.cell (g + n) _ (vQ_get _ (g + n) (by rw [dgs_length]; omega))
        have c2 := q8.cell (g + i) _ (vQ_get _ (g + i) (by rw [dgs_length]; omega))
        have c3 := q9.cell i _ (vQ_get _ i (by rw [dgs_length]; omega))
        rw [dgs_getD _ _ _ (by omega)] at c1 c2 c3
        have hgg := guess_ge R Y g n (by have := HN.out; omega) s2 (by rw [show n - 1 = i by have := HN.out; omega]; omega) hD.out.2.lt
        rw [show g + n - 1 = g + i by have := HN.out; omega, show n - 1 = i by have := HN.out; omega] at hgg
        have HGE : Hid _ := hgg.2
        have HG : Hid (∀ w, _) := guess_any (lim R (g + n)) (lim R (g + i)) (lim Y i) hgg.1 (lim_lt _ _) (lim_lt _ _)
        have HGL : Hid _ := gss_lt (lim R (g + n)) (lim R (g + i)) (lim Y i) hgg.1 (lim_lt _ _)
        clear hgg ei
        generalize gss (lim R (g + n)) (lim R (g + i)) (lim Y i) = G at *
        have HS3 : Hid (9223372036854775808 ≤ lim Y i) := s3
        clear s3
        generalize lim R (g + n) = y1 at *
        generalize lim R (g + i) = y2 at *
        generalize lim Y i = y3 at *
        go_wp2
        go_quiet (first | (go_at_call 110; exact (HG.out (wr.drewN _)).mono (fun _ _ h => ⟨h.1, h.2.elim fun k hk => ⟨_, hk.trans (drewN_add _ _ _)⟩⟩)))
        go_wp2
        obtain ⟨qd, hqd⟩ : ∃ qd, qd = R / (Y * 18446744073709551616 ^ g) := ⟨_, rfl⟩
        rw [← hqd] at HGE
        have HQD : Hid (qd = R / (Y * 18446744073709551616 ^ g)) := hqd
        clear hqd c1 c2 c3 HG
        replace hb2 := below_drewN hb2 nq
        replace q2 := Row.drewN q2 nq
        replace q3 := Row.drewN q3 nq
        replace q8 := Row.drewN q8 nq
        replace q9 := Row.drewN q9 nq
        replace q10 := Row.drewN q10 nq
        generalize World.drewN wr nq = V at *
        go_loopg [12] (G - qd) (fun h v Wx => ∃ (d : Nat), v = .int .u64 (d : Int) ∧ Below w.heap.size w Wx ∧ Row Wx (w.heap.size + 1 + 1) (vQ (List.replicate 8 0)) 135 ∧ Row Wx (w.heap.size + 1 + 1 + 1) (vQ (List.replicate 4 0)) 37 ∧ Row Wx N8 (vQ (dgs R 9)) 153 ∧ Row Wx N9 (vQ (dgs Y 9)) 153 ∧ Row Wx M (vQ (dgs Q 8)) 135 ∧ Hid (d = qd + h ∧ d < 18446744073709551616))
        case atStart => exact ⟨G, rfl, hb2, q2, q3, q8, q9, q10, by have := HGE.out.1; omega, HGL.out⟩
        case round =>
          clear hb2 q2 q3 q8 q9 q10 HGL
          obtain ⟨d, rfl, hb2, q2, q3, q8, q9, q10, hd⟩ := hrel
          have HT : Hid (∀ w, _) := takeAway_any R Y d g n hg8 s2 hd.out.2 HGE.out.2
          obtain ⟨cr, hcr⟩ : ∃ cr, cr = vQ (dgs R 9) := ⟨_, rfl⟩
          obtain ⟨cv, hcv⟩ : ∃ cv, cv = vQ (dgs Y 9) := ⟨_, rfl⟩
          have HCR : Hid (cr = vQ (dgs R 9)) := hcr
          have HCV : Hid (cv = vQ (dgs Y 9)) := hcv
          have lr : cr.length = 9 := by rw [hcr, vQ_length, dgs_length]
          have lv : cv.length = 9 := by rw [hcv, vQ_length, dgs_length]
          have ir : (Tryz.prog.info? 153).map (·.size) = some cr.length := by rw [info_d9, lr]
          have iv : (Tryz.prog.info? 153).map (·.size) = some cv.length := by rw [info_d9, lv]
          rw [← hcr] at q8
          rw [← hcv] at q9
          rw [← hcr, ← hcv] at HT
          have LR : Hid (cr.length = 9) := lr
          clear hcr hcv lr lv
          by_cases he : d * Y * 18446744073709551616 ^ g ≤ R
          · have HT2 : Hid (∀ w, Calls Tryz.prog 111 #[.agg cr.toArray, .agg cv.toArray, .int .i64 (n : Int), .int .u64 (d : Int), .int .i64 (g : Int)] w fun e w' => e = .returned (.tuple #[.agg (vQ (dgs (R - d * Y * 18446744073709551616 ^ g) 9)).toArray, .bool true]) ∧ Below w.heap.size w w') := fun w => (HT.out w).mono (by
              rintro e w' ⟨l, he1, _, he3, he4⟩
              rw [he3 he, decide_eq_true he] at he1
              exact ⟨he1, he4⟩)
            have HE : Hid (d * Y * 18446744073709551616 ^ g ≤ R) := he
            clear he HT
            obtain ⟨R2, hR2⟩ : ∃ R2, R2 = R - d * Y * 18446744073709551616 ^ g := ⟨_, rfl⟩
            rw [← hR2] at HT2
            have HR2 : Hid (R2 = R - d * Y * 18446744073709551616 ^ g) := hR2
            obtain ⟨c2, hc2⟩ : ∃ c2, c2 = vQ (dgs R2 9) := ⟨_, rfl⟩
            have l2 : c2.length = 9 := by rw [hc2, vQ_length, dgs_length]
            have i2 : (Tryz.prog.info? 153).map (·.size) = some c2.length := by rw [info_d9, l2]
            have i2' : (Tryz.prog.info? 153).map (·.size) = some c2.toArray.size := by rw [info_d9]; simp [l2]
            have o2 := all_oneCell_toArray (show ∀ v ∈ c2, v.oneCell' = true by rw [hc2]; exact vQ_one _)
            have HC2 : Hid (c2 = vQ (dgs R2 9)) := hc2
            have L2 : Hid (c2.length = 9) := l2
            rw [← hc2] at HT2
            clear hR2 hc2 l2
            go_wp2_with (first
              | (refine wpList_load_mid rfl 153 (.tmp 8) rfl N8 0 rfl cr _ q8.all Tryz.underlying153 rfl ir ?_; simp only [Act.put, List.setIfInBounds_toArray, List.set_cons_zero, List.set_cons_succ])
              | (refine wpList_load_mid rfl 153 (.tmp 9) rfl N9 0 rfl cv _ q9.all Tryz.underlying153 rfl iv ?_; simp only [Act.put, List.setIfInBounds_toArray, List.set_cons_zero, List.set_cons_succ]))
            refine (HT2.out wr).mono ?_
            rintro e V1 ⟨rfl, hB⟩
            have hb3 := hb2.trans (hB.mono hb2.size)
            replace q2 := Row.below q2 hB (Row.lt q2)
            replace q3 := Row.below q3 hB (Row.lt q3)
            replace q8 := Row.below q8 hB (Row.lt q8)
            replace q9 := Row.below q9 hB (Row.lt q9)
            replace q10 := Row.below q10 hB (Row.lt q10)
            clear hB hb2
            have lM := Row.lt q10
            have n13 : Row (V1.alloc (Obj.cells #[Value.int IntKind.u64 0, Value.int IntKind.u64 0, Value.int IntKind.u64 0, Value.int IntKind.u64 0, Value.int IntKind.u64 0, Value.int IntKind.u64 0, Value.int IntKind.u64 0, Value.int IntKind.u64 0, Value.int IntKind.u64 0] 153)) V1.heap.size (vQ (List.replicate 9 0)) 153 := Row.new' rfl rfl
            have T13 := n13.there 0 c2.toArray.size (by simp [L2.out, vQ_length])
            have r13 : Row ((V1.alloc (Obj.cells #[Value.int IntKind.u64 0, Value.int IntKind.u64 0, Value.int IntKind.u64 0, Value.int IntKind.u64 0, Value.int IntKind.u64 0, Value.int IntKind.u64 0, Value.int IntKind.u64 0, Value.int IntKind.u64 0, Value.int IntKind.u64 0] 153)).setCells V1.heap.size 0 c2) V1.heap.size c2 153 := Row.over n13 (by rw [L2.out]; rfl)
            have p8 : Row ((V1.alloc (Obj.cells #[Value.int IntKind.u64 0, Value.int IntKind.u64 0, Value.int IntKind.u64 0, Value.int IntKind.u64 0, Value.int IntKind.u64 0, Value.int IntKind.u64 0, Value.int IntKind.u64 0, Value.int IntKind.u64 0, Value.int IntKind.u64 0] 153)).setCells V1.heap.size 0 c2) N8 cr 153 := Row.setCells_other (Row.alloc q8 _) _ _ _ (by omega)
            have T8 := p8.there 0 c2.toArray.size (by simp [L2.out, LR.out])
            have u8 : Row (((V1.alloc (Obj.cells #[Value.int IntKind.u64 0, Value.int IntKind.u64 0, Value.int IntKind.u64 0, Value.int IntKind.u64 0, Value.int IntKind.u64 0, Value.int IntKind.u64 0, Value.int IntKind.u64 0, Value.int IntKind.u64 0, Value.int IntKind.u64 0] 153)).setCells V1.heap.size 0 c2).setCells N8 0 c2) N8 c2 153 := Row.over p8 (by rw [L2.out, LR.out])
            have u9 : Row (((V1.alloc (Obj.cells #[Value.int IntKind.u64 0, Value.int IntKind.u64 0, Value.int IntKind.u64 0, Value.int IntKind.u64 0, Value.int IntKind.u64 0, Value.int IntKind.u64 0, Value.int IntKind.u64 0, Value.int IntKind.u64 0, Value.int IntKind.u64 0] 153)).setCells V1.heap.size 0 c2).setCells N8 0 c2) N9 cv 153 := Row.setCells_other (Row.setCells_other (Row.alloc q9 _) _ _ _ (by omega)) _ _ _ (Ne.symm hne)
            have u10 : Row (((V1.alloc (Obj.cells #[Value.int IntKind.u64 0, Value.int IntKind.u64 0, Value.int IntKind.u64 0, Value.int IntKind.u64 0, Value.int IntKind.u64 0, Value.int IntKind.u64 0, Value.int IntKind.u64 0, Value.int IntKind.u64 0, Value.int IntKind.u64 0] 153)).setCells V1.heap.size 0 c2).setCells N8 0 c2) M (vQ (dgs Q 8)) 135 := Row.setCells_other (Row.setCells_other (Row.alloc q10 _) _ _ _ (by omega)) _ _ _ (by omega)
            have u2 : Row (((V1.alloc (Obj.cells #[Value.int IntKind.u64 0, Value.int IntKind.u64 0, Value.int IntKind.u64 0, Value.int IntKind.u64 0, Value.int IntKind.u64 0, Value.int IntKind.u64 0, Value.int IntKind.u64 0, Value.int IntKind.u64 0, Value.int IntKind.u64 0] 153)).setCells V1.heap.size 0 c2).setCells N8 0 c2) (w.heap.size + 1 + 1) (vQ (List.replicate 8 0)) 135 := Row.setCells_other (Row.setCells_other (Row.alloc q2 _) _ _ _ (by omega)) _ _ _ (by omega)
            have u3 : Row (((V1.alloc (Obj.cells #[Value.int IntKind.u64 0, Value.int IntKind.u64 0, Value.int IntKind.u64 0, Value.int IntKind.u64 0, Value.int IntKind.u64 0, Value.int IntKind.u64 0, Value.int IntKind.u64 0, Value.int IntKind.u64 0, Value.int IntKind.u64 0] 153)).setCells V1.heap.size 0 c2).setCells N8 0 c2) (w.heap.size + 1 + 1 + 1) (vQ (List.replicate 4 0)) 37 := Row.setCells_other (Row.setCells_other (Row.alloc q3 _) _ _ _ (by omega)) _ _ _ (by omega)
            have ub : Below w.heap.size w (((V1.alloc (Obj.cells #[Value.int IntKind.u64 0, Value.int IntKind.u64 0, Value.int IntKind.u64 0, Value.int IntKind.u64 0, Value.int IntKind.u64 0, Value.int IntKind.u64 0, Value.int IntKind.u64 0, Value.int IntKind.u64 0, Value.int IntKind.u64 0] 153)).setCells V1.heap.size 0 c2).setCells N8 0 c2) := below_setCells (below_setCells (hb3.alloc hb3.size _) hb3.size _) (by omega) _
            have cM := u10.cell g _ (vQ_get _ g (by rw [dgs_length]; omega))
            have cF := u10.thaw g
            have hg9 : g < 8 := by have := HN.out; omega
            clear n13 q2 q3 q8 q9 q10 hb3
            go_wp2_with (first
              | (refine wpList_store_mid rfl 153 (.tmp 13) (.tmp 62) rfl V1.heap.size 0 c2.toArray rfl rfl T13 i2' o2 ?_; simp only [Act.put])
              | (refine wpList_load_mid rfl 153 (.tmp 13) rfl V1.heap.size 0 rfl c2 _ r13.all Tryz.underlying153 rfl i2 ?_; simp only [Act.put, List.setIfInBounds_toArray, List.set_cons_zero, List.set_cons_succ])
              | (refine wpList_store_mid rfl 153 (.tmp 8) (.tmp 66) rfl N8 0 c2.toArray rfl rfl T8 i2' o2 ?_; simp only [Act.put]; clear T13 T8 r13 p8; (change wpList _ _ _ _ _ (((V1.alloc (Obj.cells #[Value.int IntKind.u64 0, Value.int IntKind.u64 0, Value.int IntKind.u64 0, Value.int IntKind.u64 0, Value.int IntKind.u64 0, Value.int IntKind.u64 0, Value.int IntKind.u64 0, Value.int IntKind.u64 0, Value.int IntKind.u64 0] 153)).setCells V1.heap.size 0 c2).setCells N8 0 c2)); (generalize (((V1.alloc (Obj.cells #[Value.int IntKind.u64 0, Value.int IntKind.u64 0, Value.int IntKind.u64 0, Value.int IntKind.u64 0, Value.int IntKind.u64 0, Value.int IntKind.u64 0, Value.int IntKind.u64 0, Value.int IntKind.u64 0, Value.int IntKind.u64 0] 153)).setCells V1.heap.size 0 c2).setCells N8 0 c2) = V2 at *)))
            go_roundg g
            case measure => omega
            case rel =>
              have hN := hD.out.2.next (by omega) (Nat.pos_of_ne_zero (fun e => by have := hD.out.2.lt; rw [e, Nat.zero_mul] at this; omega)) (by rw [← HQD.out, hd.out.1]; omega) HE.out hd.out.2 HA8.out
              refine ⟨R2, Q + d * 18446744073709551616 ^ g, rfl, Below.setCell ub (by simp; omega) _, u2.set_other _ _ _ (by omega), u3.set_other _ _ _ (by omega), ?_, ?_, ?_, by have := hD.out.1; omega, ?_⟩
              · rw [← HC2.out]; exact u8.set_other _ _ _ (by omega)
              · rw [← HCV.out]; exact u9.set_other _ _ _ (by omega)
              · have := u10.set g (.int .u64 (d : Int))
                rw [vQ_set, hN.2] at this
                exact this
              · rw [HR2.out]; exact hN.1
          · have HT3 : Hid (∀ w, Calls Tryz.prog 111 #[.agg cr.toArray, .agg cv.toArray, .int .i64 (n : Int), .int .u64 (d : Int), .int .i64 (g : Int)] w fun e w' => ∃ c2 : List Value, e = .returned (.tuple #[.agg c2.toArray, .bool false]) ∧ c2.length = 9 ∧ (∀ v ∈ c2, v.oneCell' = true) ∧ Below w.heap.size w w') := fun w => (HT.out w).mono (by
              rintro e w' ⟨l, he1, he2, _, he4⟩
              rw [decide_eq_false he] at he1
              exact ⟨vQ l, he1, by rw [vQ_length]; exact he2, vQ_one _, he4⟩)
            have hgt : qd < d := by
              rcases Nat.lt_or_ge qd d with h | h
              · exact h
              · exfalso
                apply he
                have : d = qd := by have := hd.out.1; omega
                rw [this, HQD.out, Nat.mul_assoc]
                exact Nat.div_mul_le_self _ _
            have hd1 : (1 : Int) ≤ (d : Int) := by omega
            have HGT : Hid (qd < d) := hgt
            clear he HT hgt
            go_wp2_with (first
              | (refine wpList_load_mid rfl 153 (.tmp 8) rfl N8 0 rfl cr _ q8.all Tryz.underlying153 rfl ir ?_; simp only [Act.put, List.setIfInBounds_toArray, List.set_cons_zero, List.set_cons_succ])
              | (refine wpList_load_mid rfl 153 (.tmp 9) rfl N9 0 rfl cv _ q9.all Tryz.underlying153 rfl iv ?_; simp only [Act.put, List.setIfInBounds_toArray, List.set_cons_zero, List.set_cons_succ]))
            refine (HT3.out wr).mono ?_
            rintro e V1 ⟨c2, rfl, l2, h2, hB⟩
            have hb3 := hb2.trans (hB.mono hb2.size)
            replace q2 := Row.below q2 hB (Row.lt q2)
            replace q3 := Row.below q3 hB (Row.lt q3)
            replace q8 := Row.below q8 hB (Row.lt q8)
            replace q9 := Row.below q9 hB (Row.lt q9)
            replace q10 := Row.below q10 hB (Row.lt q10)
            have lM := Row.lt q10
            have n13 : Row (V1.alloc (Obj.cells #[Value.int IntKind.u64 0, Value.int IntKind.u64 0, Value.int IntKind.u64 0, Value.int IntKind.u64 0, Value.int IntKind.u64 0, Value.int IntKind.u64 0, Value.int IntKind.u64 0, Value.int IntKind.u64 0, Value.int IntKind.u64 0] 153)) V1.heap.size (vQ (List.replicate 9 0)) 153 := Row.new' rfl rfl
            have i2' : (Tryz.prog.info? 153).map (·.size) = some c2.toArray.size := by rw [info_d9]; simp [l2]
            have o2 := all_oneCell_toArray h2
            have T13 := n13.there 0 c2.toArray.size (by simp [l2, vQ_length])
            have u8 : Row ((V1.alloc (Obj.cells #[Value.int IntKind.u64 0, Value.int IntKind.u64 0, Value.int IntKind.u64 0, Value.int IntKind.u64 0, Value.int IntKind.u64 0, Value.int IntKind.u64 0, Value.int IntKind.u64 0, Value.int IntKind.u64 0, Value.int IntKind.u64 0] 153)).setCells V1.heap.size 0 c2) N8 cr 153 := Row.setCells_other (Row.alloc q8 _) _ _ _ (by omega)
            have u9 : Row ((V1.alloc (Obj.cells #[Value.int IntKind.u64 0, Value.int IntKind.u64 0, Value.int IntKind.u64 0, Value.int IntKind.u64 0, Value.int IntKind.u64 0, Value.int IntKind.u64 0, Value.int IntKind.u64 0, Value.int IntKind.u64 0, Value.int IntKind.u64 0] 153)).setCells V1.heap.size 0 c2) N9 cv 153 := Row.setCells_other (Row.alloc q9 _) _ _ _ (by omega)
            have u10 : Row ((V1.alloc (Obj.cells #[Value.int IntKind.u64 0, Value.int IntKind.u64 0, Value.int IntKind.u64 0, Value.int IntKind.u64 0, Value.int IntKind.u64 0, Value.int IntKind.u64 0, Value.int IntKind.u64 0, Value.int IntKind.u64 0, Value.int IntKind.u64 0] 153)).setCells V1.heap.size 0 c2) M (vQ (dgs Q 8)) 135 := Row.setCells_other (Row.alloc q10 _) _ _ _ (by omega)
            have u2 : Row ((V1.alloc (Obj.cells #[Value.int IntKind.u64 0, Value.int IntKind.u64 0, Value.int IntKind.u64 0, Value.int IntKind.u64 0, Value.int IntKind.u64 0, Value.int IntKind.u64 0, Value.int IntKind.u64 0, Value.int IntKind.u64 0, Value.int IntKind.u64 0] 153)).setCells V1.heap.size 0 c2) (w.heap.size + 1 + 1) (vQ (List.replicate 8 0)) 135 := Row.setCells_other (Row.alloc q2 _) _ _ _ (by omega)
            have u3 : Row ((V1.alloc (Obj.cells #[Value.int IntKind.u64 0, Value.int IntKind.u64 0, Value.int IntKind.u64 0, Value.int IntKind.u64 0, Value.int IntKind.u64 0, Value.int IntKind.u64 0, Value.int IntKind.u64 0, Value.int IntKind.u64 0, Value.int IntKind.u64 0] 153)).setCells V1.heap.size 0 c2) (w.heap.size + 1 + 1 + 1) (vQ (List.replicate 4 0)) 37 := Row.setCells_other (Row.alloc q3 _) _ _ _ (by omega)
            have ub : Below w.heap.size w ((V1.alloc (Obj.cells #[Value.int IntKind.u64 0, Value.int IntKind.u64 0, Value.int IntKind.u64 0, Value.int IntKind.u64 0, Value.int IntKind.u64 0, Value.int IntKind.u64 0, Value.int IntKind.u64 0, Value.int IntKind.u64 0, Value.int IntKind.u64 0] 153)).setCells V1.heap.size 0 c2) := below_setCells (hb3.alloc hb3.size _) hb3.size _
            clear n13 q2 q3 q8 q9 q10 hb3 hB hb2 l2 h2
            go_wp2_with (first
              | (refine wpList_store_mid rfl 153 (.tmp 13) (.tmp 62) rfl V1.heap.size 0 c2.toArray rfl rfl T13 i2' o2 ?_; simp only [Act.put]; clear T13; (change wpList _ _ _ _ _ ((V1.alloc (Obj.cells #[Value.int IntKind.u64 0, Value.int IntKind.u64 0, Value.int IntKind.u64 0, Value.int IntKind.u64 0, Value.int IntKind.u64 0, Value.int IntKind.u64 0, Value.int IntKind.u64 0, Value.int IntKind.u64 0, Value.int IntKind.u64 0] 153)).setCells V1.heap.size 0 c2)); (generalize ((V1.alloc (Obj.cells #[Value.int IntKind.u64 0, Value.int IntKind.u64 0, Value.int IntKind.u64 0, Value.int IntKind.u64 0, Value.int IntKind.u64 0, Value.int IntKind.u64 0, Value.int IntKind.u64 0, Value.int IntKind.u64 0, Value.int IntKind.u64 0] 153)).setCells V1.heap.size 0 c2) = V2 at *)))
            go_roundg (gk - 1)
            case measure => have := hd.out.1; have := HGT.out; omega
            case rel =>
              refine ⟨d - 1, ?_, ub, u2, u3, ?_, ?_, u10, ?_, ?_⟩
              · have h1 := HGT.out
                have h2 := hd.out.2
                rw [IntKind.wrap_u64]
                exact congrArg (Value.int IntKind.u64) (by omega)
              · rw [← HCR.out]; exact u8
              · rw [← HCV.out]; exact u9
              · have := hd.out.1; have := HGT.out; omega
              · have := hd.out.2; omega

end Go.Proofs.YtclbiophgnkggaaGreatDoor
