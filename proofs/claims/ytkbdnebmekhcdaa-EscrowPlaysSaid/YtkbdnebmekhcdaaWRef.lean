/-
  causewayref02.Cmp, Bits, IsZero, Of; wide.Of.
-/
import Derived.Test.YtkbdnebmekhcdaaWDig
import Derived.Test.YtkbdnebmekhcdaaWKn
import Derived.Test.YtkbdnebmekhcdaaWBits
namespace Go.Proofs.Ytkbdnebmekhcdaa
open Go Go.RowKit
open Wd

set_option maxRecDepth 100000 in
set_option maxHeartbeats 2000000 in
theorem refCmp_any (a b : Nat) (ha : a < 2 ^ 256) (hb : b < 2 ^ 256) (w : World) :
    Calls Try.prog 26 #[.agg (vQ (dgs a 4)).toArray, .agg (vQ (dgs b 4)).toArray] w fun e w' => e = .returned (.int .i64 (cmpR a b)) ∧ Below w.heap.size w w' := by
  have HDA : Hid (∀ w, _) := digits_any a ha
  have HDB : Hid (∀ w, _) := digits_any b hb
  have HLA : Hid (blen a ≤ 256) := blen_le a 256 ha
  have HLB : Hid (blen b ≤ 256) := blen_le b 256 hb
  obtain ⟨ca, Ha⟩ : ∃ c, Wc c a := ⟨_, rfl⟩
  obtain ⟨cb, Hb⟩ : ∃ c, Wc c b := ⟨_, rfl⟩
  rw [← show ca = vQ (dgs a 4) from Ha] at HDA ⊢
  rw [← show cb = vQ (dgs b 4) from Hb] at HDB ⊢
  have HCM : Hid (∀ (N M : Nat) (w : World), Row w N (vI (bts a 256)) 3 → Row w M (vI (bts b 256)) 3 → Calls Try.prog 54 #[.slice (some ⟨N, 0, none⟩) (blen a) 256, .slice (some ⟨M, 0, none⟩) (blen b) 256] w fun e w' => e = .returned (.int .i64 (cmpR a b)) ∧ Below w.heap.size w w') := fun N M w r1 r2 =>
    (compare_any a b N M 256 256 256 256 HLA.out HLB.out (by decide) w r1 r2).mono (fun e w' h => ⟨h.1, h.2.elim fun k hk => by rw [hk]; exact below_drewN (Below.refl _ _) k⟩)
  generalize cmpR a b = C at *
  clear ha hb
  have hb1 : Below w.heap.size w ((w.alloc (Obj.cells ca.toArray 33)).alloc (Obj.cells cb.toArray 33)) := ((Below.refl _ _).alloc (Nat.le_refl _) _).alloc (by simp) _
  have r0 : Row ((w.alloc (Obj.cells ca.toArray 33)).alloc (Obj.cells cb.toArray 33)) w.heap.size ca 33 := (Row.new w ca _).alloc _
  have r1 : Row ((w.alloc (Obj.cells ca.toArray 33)).alloc (Obj.cells cb.toArray 33)) (w.heap.size + 1) cb 33 := Row.new' (by simp) rfl
  go_enter Try.func26, Try.ntmps26
  go_wp2
  generalize ((w.alloc (Obj.cells ca.toArray 33)).alloc (Obj.cells cb.toArray 33)) = W0 at *
  refine wp_region_inv (by kernel_rfl) (fun listed act W => ∃ (b0 b1 b2 b3 b4 b5 : Bool) (N6 N8 : Nat) (x4 x5 x6 x7 x8 x9 : Value), listed = #[b0, b1, b2, b3, b4, b5] ∧ act = { tmps := #[.agg ca.toArray, .agg cb.toArray, .pointer (some ⟨w.heap.size, 0, none⟩), .pointer (some ⟨w.heap.size + 1, 0, none⟩), x4, x5, x6, x7, x8, x9], defers := [] } ∧ Below w.heap.size w W ∧ Row W w.heap.size ca 33 ∧ Row W (w.heap.size + 1) cb 33 ∧ (b0 = true → x5 = .agg ca.toArray) ∧ (b2 = true → x7 = .agg cb.toArray) ∧ (b4 = true → x9 = .int .i64 C) ∧ (b5 = true → x4 = .int .i64 C) ∧ (b1 = true → x6 = .slice (some ⟨N6, 0, none⟩) (blen a) 256 ∧ Row W N6 (vI (bts a 256)) 3) ∧ (b3 = true → x8 = .slice (some ⟨N8, 0, none⟩) (blen b) 256 ∧ Row W N8 (vI (bts b 256)) 3)) ?_ ?_ ?_
  · exact ⟨false, false, false, false, false, false, 0, 0, .int .i64 0, undef, undef, undef, undef, undef, rfl, rfl, Below.drew hb1, Row.drew r0, Row.drew r1, (fun h => by cases h), (fun h => by cases h), (fun h => by cases h), (fun h => by cases h), (fun h => by cases h), (fun h => by cases h)⟩
  · clear hb1 r0 r1 
    intro listed act W k hI hk
    obtain ⟨b0, b1, b2, b3, b4, b5, N6, N8, x4, x5, x6, x7, x8, x9, rfl, rfl, hb1, r0, r1, f0, f1, f2, f3, f4, f5⟩ := hI
    have hk2 := (List.mem_filter.1 hk).2
    have hk1 : k < 6 := List.mem_range.1 (List.mem_filter.1 hk).1
    clear hk
    rcases (show k = 0 ∨ k = 1 ∨ k = 2 ∨ k = 3 ∨ k = 4 ∨ k = 5 by omega) with rfl | rfl | rfl | rfl | rfl | rfl
    · exact wpOp_plain rfl rfl (wp_load_mid 33 (.tmp 2) rfl w.heap.size 0 rfl ca _ r0.all Try.underlying33 rfl Ha.info ⟨true, b1, b2, b3, b4, b5, N6, N8, x4, .agg ca.toArray, x6, x7, x8, x9, rfl, rfl, hb1, r0, r1, fun _ => rfl, f1, f2, f3, f4, f5⟩)
    · simp [Region.binds] at hk2
      obtain rfl := f0 (by simp [hk2])
      refine wpOp_plain rfl rfl (wp_fcall 45 #[.agg ca.toArray] (by go_simp) ((HDA.out W).mono ?_))
      rintro e W2 ⟨yN, yL, yR, rfl, hB2⟩
      exact ⟨_, rfl, b0, true, b2, b3, b4, b5, yN, N8, x4, .agg ca.toArray, .slice (some ⟨yN, 0, none⟩) (blen a) 256, x7, x8, x9, rfl, rfl, hb1.trans (hB2.mono hb1.size), Row.below r0 hB2 (Row.lt r0), Row.below r1 hB2 (Row.lt r1), fun _ => rfl, f1, f2, f3, fun _ => ⟨rfl, yR⟩, fun h => ⟨(f5 h).1, Row.below (f5 h).2 hB2 (Row.lt (f5 h).2)⟩⟩
    · exact wpOp_plain rfl rfl (wp_load_mid 33 (.tmp 3) rfl (w.heap.size + 1) 0 rfl cb _ r1.all Try.underlying33 rfl Hb.info ⟨b0, b1, true, b3, b4, b5, N6, N8, x4, x5, x6, .agg cb.toArray, x8, x9, rfl, rfl, hb1, r0, r1, f0, fun _ => rfl, f2, f3, f4, f5⟩)
    · simp [Region.binds] at hk2
      obtain rfl := f1 (by simp [hk2])
      refine wpOp_plain rfl rfl (wp_fcall 45 #[.agg cb.toArray] (by go_simp) ((HDB.out W).mono ?_))
      rintro e W2 ⟨yN, yL, yR, rfl, hB2⟩
      exact ⟨_, rfl, b0, b1, b2, true, b4, b5, N6, yN, x4, x5, x6, .agg cb.toArray, .slice (some ⟨yN, 0, none⟩) (blen b) 256, x9, rfl, rfl, hb1.trans (hB2.mono hb1.size), Row.below r0 hB2 (Row.lt r0), Row.below r1 hB2 (Row.lt r1), f0, fun _ => rfl, f2, f3, fun h => ⟨(f4 h).1, Row.below (f4 h).2 hB2 (Row.lt (f4 h).2)⟩, fun _ => ⟨rfl, yR⟩⟩
    · simp [Region.binds] at hk2
      obtain ⟨rfl, y1⟩ := f4 (by simp [hk2])
      obtain ⟨rfl, y3⟩ := f5 (by simp [hk2])
      refine wpOp_plain rfl rfl (wp_fcall 54 #[.slice (some ⟨N6, 0, none⟩) (blen a) 256, .slice (some ⟨N8, 0, none⟩) (blen b) 256] (by go_simp) ((HCM.out N6 N8 W y1 y3).mono ?_))
      rintro e W2 ⟨rfl, hB2⟩
      exact ⟨_, rfl, b0, b1, b2, b3, true, b5, N6, N8, x4, x5, .slice (some ⟨N6, 0, none⟩) (blen a) 256, x7, .slice (some ⟨N8, 0, none⟩) (blen b) 256, .int .i64 C, rfl, rfl, hb1.trans (hB2.mono hb1.size), Row.below r0 hB2 (Row.lt r0), Row.below r1 hB2 (Row.lt r1), f0, f1, fun _ => rfl, f3, fun _ => ⟨rfl, Row.below y1 hB2 (Row.lt y1)⟩, fun _ => ⟨rfl, Row.below y3 hB2 (Row.lt y3)⟩⟩
    · simp [Region.binds] at hk2
      obtain rfl := f2 (by simp [hk2])
      exact wpOp_plain rfl rfl (wp_assign (.tmp 9) rfl ⟨b0, b1, b2, b3, b4, true, N6, N8, .int .i64 C, x5, x6, x7, x8, .int .i64 C, rfl, rfl, hb1, r0, r1, f0, f1, fun _ => rfl, fun _ => rfl, f4, f5⟩)
  · clear hb1 r0 r1 
    intro listed act W hI hr
    obtain ⟨b0, b1, b2, b3, b4, b5, N6, N8, x4, x5, x6, x7, x8, x9, rfl, rfl, hb1, r0, r1, f0, f1, f2, f3, f4, f5⟩ := hI
    have hr2 := List.filter_eq_nil_iff.1 hr
    obtain rfl : b0 = true := by have := hr2 0 (List.mem_range.2 (by decide)); simpa [Region.binds] using this
    obtain rfl : b1 = true := by have := hr2 1 (List.mem_range.2 (by decide)); simpa [Region.binds] using this
    obtain rfl : b2 = true := by have := hr2 2 (List.mem_range.2 (by decide)); simpa [Region.binds] using this
    obtain rfl : b3 = true := by have := hr2 3 (List.mem_range.2 (by decide)); simpa [Region.binds] using this
    obtain rfl : b4 = true := by have := hr2 4 (List.mem_range.2 (by decide)); simpa [Region.binds] using this
    obtain rfl : b5 = true := by have := hr2 5 (List.mem_range.2 (by decide)); simpa [Region.binds] using this
    obtain rfl := f3 rfl
    clear hr hr2 f0 f1 f2 f3 f4 f5
    go_wp2
    go_ret
    exact ⟨rfl, hb1⟩

set_option maxRecDepth 100000 in
set_option maxHeartbeats 1000000 in
theorem refIsZero_any (n : Nat) (hn : n < 2 ^ 256) (w : World) :
    Calls Try.prog 57 #[.agg (vQ (dgs n 4)).toArray] w fun e w' => e = .returned (.bool (decide (n = 0))) ∧ Below w.heap.size w w' := by
  obtain ⟨ca, Ha⟩ : ∃ c, Wc c n := ⟨_, rfl⟩
  rw [← show ca = vQ (dgs n 4) from Ha]
  have r0 : Row (w.alloc (Obj.cells ca.toArray 33)) w.heap.size ca 33 := Row.new w ca _
  go_enter Try.func57, Try.ntmps57
  go_wp2_with (first
    | (refine wpList_load_w rfl 33 (.tmp 1) rfl w.heap.size 0 rfl ca _ r0.all Try.underlying33 rfl Ha.info ?_; simp only [Act.put, List.setIfInBounds_toArray, List.set_cons_zero, List.set_cons_succ])
    | (refine wpList_eql_c (B := decide (n = 0)) rfl (.tmp 3) (.tmp 4) 33 rfl Ha Wc.zero hn (by decide) rfl rfl rfl ?_; simp only [Act.put, List.setIfInBounds_toArray, List.set_cons_zero, List.set_cons_succ]))
  go_ret
  exact ⟨rfl, (Below.refl _ _).alloc (Nat.le_refl _) _⟩

theorem wc_of (n : Nat) (h : n < 18446744073709551616) : Wc [.int .u64 (n : Int), .int .u64 0, .int .u64 0, .int .u64 0] n := by
  have h1 : n / 18446744073709551616 = 0 := Nat.div_eq_of_lt h
  have h2 : n / 340282366920938463463374607431768211456 = 0 := Nat.div_eq_of_lt (Nat.lt_trans h (by decide))
  have h3 : n / 6277101735386680763835789423207666416102355444464034512896 = 0 := Nat.div_eq_of_lt (Nat.lt_trans h (by decide))
  have e : dgs n 4 = [n, 0, 0, 0] := by
    show [lim n 0, lim n 1, lim n 2, lim n 3] = _
    simp only [lim, Nat.reduceMul, Nat.reducePow, Nat.div_one, h1, h2, h3, Nat.mod_eq_of_lt h, Nat.zero_mod]
  unfold Wc
  rw [e]
  rfl

end Go.Proofs.Ytkbdnebmekhcdaa
