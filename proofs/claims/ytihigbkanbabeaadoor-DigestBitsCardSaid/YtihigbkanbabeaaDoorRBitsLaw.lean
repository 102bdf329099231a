/-
  The law DigestBits.
-/
import Derived.Test.YtihigbkanbabeaaDoorSums
namespace Go.Proofs.YtihigbkanbabeaaDoor
open Go Go.RowKit
open Sha

/-- What both say of the bits: of the bytes, and of as many other ones. -/
theorem bits_both (d o : List (BitVec 8)) (hd : d.length ≤ 140737488351232) (lo : o.length = d.length) (n : Int) (h1 : -9223372036854775808 ≤ n) (h2 : n ≤ 9223372036854775807) : ∃ (x y : List (BitVec 8)) (k : Int), x.length = 32 ∧ y.length = 32 ∧
    (∀ (W : World) (A : Option Addr) (cap : Nat), Given W → SlAt W (.slice A d.length cap) d → Calls Tryd.prog 20 #[.slice A d.length cap, .int .i64 n] W fun e w' => e = .returned (.tuple #[.agg (vB x).toArray, .int .i64 k]) ∧ Below W.heap.size W w') ∧
    (∀ (W : World) (A : Option Addr) (cap : Nat), Given W → SlAt W (.slice A d.length cap) o → Calls Tryd.prog 20 #[.slice A d.length cap, .int .i64 n] W fun e w' => e = .returned (.tuple #[.agg (vB y).toArray, .int .i64 k]) ∧ Below W.heap.size W w') ∧
    (∀ (W : World) (A : Option Addr) (cap : Nat), Given W → SlAt W (.slice A d.length cap) d → Calls Tryd.prog 21 #[.slice A d.length cap, .int .i64 n] W fun e w' => e = .returned (.tuple #[.agg (vB x).toArray, .int .i64 k]) ∧ Below W.heap.size W w') ∧
    (∀ (W : World) (A : Option Addr) (cap : Nat), Given W → SlAt W (.slice A d.length cap) o → Calls Tryd.prog 21 #[.slice A d.length cap, .int .i64 n] W fun e w' => e = .returned (.tuple #[.agg (vB y).toArray, .int .i64 k]) ∧ Below W.heap.size W w') := by
  by_cases hb : n < 0 ∨ 8 * (d.length : Int) < n
  · refine ⟨List.replicate 32 0#8, List.replicate 32 0#8, 11, rfl, rfl, ?_, ?_, ?_, ?_⟩
    · exact fun W A cap _ _ => bits_bad d (by omega) A cap n h1 h2 hb W
    · intro W A cap _ _; rw [← lo] at hb ⊢; exact bits_bad o (by omega) A cap n h1 h2 hb W
    · exact fun W A cap _ _ => rbits_bad d (by omega) A cap n h1 h2 hb W
    · intro W A cap _ _; rw [← lo] at hb ⊢; exact rbits_bad o (by omega) A cap n h1 h2 hb W
  · obtain ⟨m, rfl⟩ : ∃ m : Nat, n = (m : Int) := ⟨n.toNat, by omega⟩
    have hm : m ≤ 8 * d.length := by omega
    refine ⟨dbits d m, dbits o m, 0, dbits_length _ _, dbits_length _ _, ?_, ?_, ?_, ?_⟩
    · exact fun W A cap hG h => bits_ok d _ (by omega) A cap m hm rfl W hG.cub h
    · intro W A cap hG h; rw [← lo] at hm h ⊢; exact bits_ok o _ (by omega) A cap m hm rfl W hG.cub h
    · exact fun W A cap hG h => rbits_ok d _ hd A cap m hm rfl W h hG
    · intro W A cap hG h; rw [← lo] at hm h ⊢; exact rbits_ok o _ (by omega) A cap m hm rfl W h hG

set_option maxRecDepth 100000 in
set_option maxHeartbeats 2000000 in
theorem rbits_walk (d : List (BitVec 8)) (hd : d.length ≤ 140737488351232) (A : Option Addr) (cap : Nat) (n : Int) (h1 : -9223372036854775808 ≤ n) (h2 : n ≤ 9223372036854775807) (w : World) (hv : SlAt w (.slice A d.length cap) d) (hG : Given w) :
    Calls Tryd.prog 5 #[.slice A d.length cap, .int .i64 n] w fun e w' => e = .returned (.bool true) ∧ Below w.heap.size w w' := by
  obtain ⟨o, ho⟩ : ∃ o, o = oth d := ⟨_, rfl⟩
  obtain ⟨dm, hdm⟩ : ∃ dm, dm = d ++ marks := ⟨_, rfl⟩
  obtain ⟨om, hom⟩ : ∃ om, om = o ++ marks := ⟨_, rfl⟩
  obtain ⟨N, hN⟩ : ∃ N, N = d.length + 80 := ⟨_, rfl⟩
  have lo : o.length = d.length := by rw [ho, oth_length]
  obtain ⟨x, y, k, Lx, Ly, hb1, hb2, hb3, hb4⟩ := bits_both d o hd lo n h1 h2
  have C2 : Hid (∀ (W : World) (A : Option Addr) (cap : Nat), Below w.heap.size w W → SlAt W (.slice A d.length cap) d → Calls Tryd.prog 20 #[.slice A d.length cap, .int .i64 n] W fun e w' => e = .returned (.tuple #[.agg (vB x).toArray, .int .i64 k]) ∧ Below W.heap.size W w') := fun W A cap hW h => hb1 W A cap (hG.low hW) h
  have C3 : Hid (∀ (W : World) (A : Option Addr) (cap : Nat), Below w.heap.size w W → SlAt W (.slice A d.length cap) o → Calls Tryd.prog 20 #[.slice A d.length cap, .int .i64 n] W fun e w' => e = .returned (.tuple #[.agg (vB y).toArray, .int .i64 k]) ∧ Below W.heap.size W w') := fun W A cap hW h => hb2 W A cap (hG.low hW) h
  have C6 : Hid (∀ (W : World) (A : Option Addr) (cap : Nat), Below w.heap.size w W → SlAt W (.slice A d.length cap) d → Calls Tryd.prog 21 #[.slice A d.length cap, .int .i64 n] W fun e w' => e = .returned (.tuple #[.agg (vB x).toArray, .int .i64 k]) ∧ Below W.heap.size W w') := fun W A cap hW h => hb3 W A cap (hG.low hW) h
  have C7 : Hid (∀ (W : World) (A : Option Addr) (cap : Nat), Below w.heap.size w W → SlAt W (.slice A d.length cap) o → Calls Tryd.prog 21 #[.slice A d.length cap, .int .i64 n] W fun e w' => e = .returned (.tuple #[.agg (vB y).toArray, .int .i64 k]) ∧ Below W.heap.size W w') := fun W A cap hW h => hb4 W A cap (hG.low hW) h
  have HV : Hid _ := hv
  clear hb1 hb2 hb3 hb4
  have Ix : (Tryd.prog.info? 26).map (·.size) = some (vB x).toArray.size := by rw [info_dig]; simp [vB_length, Lx]
  have Jx : (Tryd.prog.info? 26).map (·.size) = some (vB x).length := by rw [info_dig, vB_length, Lx]
  have Ox := all_oneCell_toArray (vB_one x)
  have Kx : Hid (x.length = 32) := Lx
  clear Lx
  have Iy : (Tryd.prog.info? 26).map (·.size) = some (vB y).toArray.size := by rw [info_dig]; simp [vB_length, Ly]
  have Jy : (Tryd.prog.info? 26).map (·.size) = some (vB y).length := by rw [info_dig, vB_length, Ly]
  have Oy := all_oneCell_toArray (vB_one y)
  have Ky : Hid (y.length = 32) := Ly
  clear Ly
  have C1 : Hid (∀ W, Below w.heap.size w W → Calls Tryd.prog 10 #[.slice A d.length cap] W fun e w' => ∃ g, e = .returned (.slice (some ⟨g, 0, none⟩) N N) ∧ W.heap.size ≤ g ∧ Row w' g (vB dm) 5 ∧ Below W.heap.size W w') := by
    intro W hW
    refine (lent_any d hd A cap W (hv.below hW (Nat.le_refl _))).mono ?_
    rintro e w' ⟨⟨v, rfl, g, rfl, hg, hr⟩, hB⟩
    exact ⟨g, by rw [hN]; simp [marks], hg, by rw [hdm]; exact hr, hB⟩
  have C4 : Hid (∀ W g, Below w.heap.size w W → Row W g (vB dm) 5 → Calls Tryd.prog 12 #[.slice (some ⟨g, 0, none⟩) N N, .slice A d.length cap] W fun e w' => e = .returned (.bool true) ∧ w' = W) := by
    intro W g hW h; rw [hdm] at h; rw [hN]; exact kept_any d hd g A cap W h (hv.below hW (Nat.le_refl _))
  have C5 : Hid (∀ W, Below w.heap.size w W → Calls Tryd.prog 13 #[.slice A d.length cap] W fun e w' => ∃ g, e = .returned (.slice (some ⟨g, 0, none⟩) d.length d.length) ∧ W.heap.size ≤ g ∧ Row w' g (vB o) 5 ∧ Below W.heap.size W w') := by
    intro W hW
    refine (other_any d hd A cap W (hv.below hW (Nat.le_refl _))).mono ?_
    rintro e w' ⟨⟨v, rfl, g, rfl, hg, hr⟩, hB⟩
    exact ⟨g, by rw [oth_length], hg, by rw [ho]; exact hr, hB⟩
  have C0 : Hid (∀ W, Below w.heap.size w W → Calls Tryd.prog 9 #[] W fun e w' => e = .returned (.bool true) ∧ Below W.heap.size W w') := fun W hW => awake_any W (hG.low hW).cub
  have HDT : Hid (dm.take d.length = d) := by show _ = _; rw [hdm, List.take_left]
  have HOT : Hid (om.take d.length = o) := by show _ = _; rw [hom, ← lo, List.take_left]
  have hlm : d.length ≤ dm.length := by rw [hdm]; simp
  have hlom : d.length ≤ om.length := by rw [hom]; simp [lo]
  have HX : Hid (∀ W g, Row W g (vB dm) 5 → Row (W.setCells g 0 (vB o)) g (vB om) 5) := by
    intro W g h; rw [hdm] at h; rw [hom, ho]; exact other_row d W g h
  have HDL : Hid (dm.length = N) := by show _ = _; rw [hdm, hN]; simp [marks]
  have HOL : Hid (om.length = N) := by show _ = _; rw [hom, hN]; simp [marks, lo]
  have HLO : Hid (o.length = d.length) := lo
  have HN : Hid (N = d.length + 80) := hN
  clear hN hdm hom ho lo hv hG
  go_enter Tryd.func5, Tryd.ntmps5
  go_wp2_with fail
  refine (C0.out w (Below.refl _ _)).mono ?_
  rintro e W1 ⟨rfl, hW1⟩
  go_wp2_with fail
  refine (C1.out W1 hW1).mono ?_
  rintro e W2 ⟨g, rfl, hg, Rg, hB2⟩
  have hW2 := hW1.trans (hB2.mono hW1.size)
  have hgw : w.heap.size ≤ g := Nat.le_trans hW1.size hg
  clear hB2 hW1 hg
  have hSL31 : SlAt W2 (.slice (some ⟨g, 0, none⟩) N N) dm := .inr ⟨g, 0, N, by rw [HDL.out], by rw [HDL.out]; exact Nat.le_refl _, Rg.all⟩
  have HSL31 : Hid _ := hSL31
  clear hSL31
  go_wp2_with (refine wpList_slice_h rfl 22 (.tmp 20) (.tmp 22) rfl W2 5 (some ⟨g, 0, none⟩) N N dm HSL31.out d.length _ rfl rfl rfl hlm Tryd.underlying22 info_u8 ?_; intro B31 c31 hS31; rw [HDT.out] at hS31; simp only [Act.put, List.setIfInBounds_toArray, List.set_cons_zero, List.set_cons_succ])
  refine (C2.out W2 _ _ hW2 hS31).mono ?_
  rintro e v3 ⟨rfl, hD3⟩
  obtain ⟨hS3, R7⟩ := digest_laid x Kx.out hD3
  have T3 := digest_there v3 x Kx.out
  have hW3 := hW2.trans (hS3.mono hW2.size)
  replace Rg := Row.below Rg hS3 (Row.lt Rg)
  clear hD3 hS3 hW2
  go_wp2_with (first
    | (refine wpList_store_mid rfl 26 (.tmp 7) (.tmp 26) rfl v3.heap.size 0 (vB x).toArray rfl rfl T3 Ix Ox ?_; simp only [Act.put]; (change wpList _ _ _ _ _ (World.setCells (v3.alloc (Obj.cells (vB (List.replicate 32 0#8)).toArray 26)) v3.heap.size 0 (vB x))); clear T3; (generalize World.setCells (v3.alloc (Obj.cells (vB (List.replicate 32 0#8)).toArray 26)) v3.heap.size 0 (vB x) = W3 at *); (generalize v3.heap.size = p7 at *); clear v3))
  refine (C4.out W3 g hW3 Rg).mono ?_
  rintro e W4 ⟨rfl, hE⟩
  obtain rfl : W4 = W3 := hE
  go_wp2_with fail
  refine (C6.out W4 _ _ hW3 (SlAt.below HV.out hW3 (Nat.le_refl _))).mono ?_
  rintro e v5 ⟨rfl, hD5⟩
  obtain ⟨hS5, R10⟩ := digest_laid x Kx.out hD5
  have T5 := digest_there v5 x Kx.out
  have hW5 := hW3.trans (hS5.mono hW3.size)
  replace Rg := Row.below Rg hS5 (Row.lt Rg)
  replace R7 := Row.below R7 hS5 (Row.lt R7)
  clear hD5 hS5 hW3
  go_wp2_with (first
    | (refine wpList_store_mid rfl 26 (.tmp 10) (.tmp 35) rfl v5.heap.size 0 (vB x).toArray rfl rfl T5 Ix Ox ?_; simp only [Act.put]; (change wpList _ _ _ _ _ (World.setCells (v5.alloc (Obj.cells (vB (List.replicate 32 0#8)).toArray 26)) v5.heap.size 0 (vB x))); clear T5; (generalize World.setCells (v5.alloc (Obj.cells (vB (List.replicate 32 0#8)).toArray 26)) v5.heap.size 0 (vB x) = W5 at *); (generalize v5.heap.size = p10 at *); clear v5))
  refine (C5.out W5 hW5).mono ?_
  rintro e W6 ⟨go, rfl, hgo, Ro, hB6⟩
  have hW6 := hW5.trans (hB6.mono hW5.size)
  replace Rg := Row.below Rg hB6 (Row.lt Rg)
  replace R7 := Row.below R7 hB6 (Row.lt R7)
  replace R10 := Row.below R10 hB6 (Row.lt R10)
  clear hB6 hW5
  have hSo : SlAt W6 (.slice (some ⟨go, 0, none⟩) d.length d.length) o := .inr ⟨go, 0, d.length, by rw [HLO.out], by rw [HLO.out]; exact Nat.le_refl _, Ro.all⟩
  have HSo : Hid _ := hSo
  have hth : W6.there g 0 o.length := Row.there Rg 0 _ (by rw [vB_length, HDL.out, HLO.out, HN.out]; omega)
  have hoN : o.length ≤ N := by rw [HLO.out, HN.out]; omega
  have hW7 := below_setCells hW6 (b := g) (o := 0) hgw (vB o)
  have n7 := Row.ne R7 Rg (by decide)
  have n10 := Row.ne R10 Rg (by decide)
  replace R7 := Row.setCells_other R7 g 0 (vB o) n7
  replace R10 := Row.setCells_other R10 g 0 (vB o) n10
  have Rg' := HX.out W6 g Rg
  clear hSo hW6 n7 n10
  go_wp2_with (first
    | (refine wpList_copy_sl rfl (.tmp 37) (.tmp 39) 22 22 rfl 5 g N N (.slice (some ⟨go, 0, none⟩) d.length d.length) o hoN rfl rfl HSo.out Tryd.underlying22 info_u8 hth ?_; simp only [Act.put, List.setIfInBounds_toArray, List.set_cons_zero, List.set_cons_succ]; clear hth Rg Ro; (generalize World.setCells W6 g 0 (vB o) = W7 at *); (have HSL33 : Hid (SlAt W7 (.slice (some ⟨g, 0, none⟩) N N) om) := .inr ⟨g, 0, N, by rw [HOL.out], by rw [HOL.out]; exact Nat.le_refl _, Rg'.all⟩))
    | (refine wpList_slice_h rfl 22 (.tmp 42) (.tmp 44) rfl W7 5 (some ⟨g, 0, none⟩) N N om HSL33.out d.length _ rfl rfl rfl hlom Tryd.underlying22 info_u8 ?_; intro B33 c33 hS33; rw [HOT.out] at hS33; simp only [Act.put, List.setIfInBounds_toArray, List.set_cons_zero, List.set_cons_succ]))
  refine (C3.out W7 _ _ hW7 hS33).mono ?_
  rintro e v8 ⟨rfl, hD8⟩
  obtain ⟨hS8, R12⟩ := digest_laid y Ky.out hD8
  have T8 := digest_there v8 y Ky.out
  have hW8 := hW7.trans (hS8.mono hW7.size)
  replace R7 := Row.below R7 hS8 (Row.lt R7)
  replace R10 := Row.below R10 hS8 (Row.lt R10)
  clear hD8 hS8 hW7
  go_wp2_with (first
    | (refine wpList_store_mid rfl 26 (.tmp 12) (.tmp 48) rfl v8.heap.size 0 (vB y).toArray rfl rfl T8 Iy Oy ?_; simp only [Act.put]; (change wpList _ _ _ _ _ (World.setCells (v8.alloc (Obj.cells (vB (List.replicate 32 0#8)).toArray 26)) v8.heap.size 0 (vB y))); clear T8; (generalize World.setCells (v8.alloc (Obj.cells (vB (List.replicate 32 0#8)).toArray 26)) v8.heap.size 0 (vB y) = W8 at *); (generalize v8.heap.size = p12 at *); clear v8))
  refine (C5.out W8 hW8).mono ?_
  rintro e W10 ⟨g2, rfl, hg2, Ro2, hB10⟩
  have hW10 := hW8.trans (hB10.mono hW8.size)
  replace R7 := Row.below R7 hB10 (Row.lt R7)
  replace R10 := Row.below R10 hB10 (Row.lt R10)
  replace R12 := Row.below R12 hB10 (Row.lt R12)
  have hS2 : SlAt W10 (.slice (some ⟨g2, 0, none⟩) d.length d.length) o := .inr ⟨g2, 0, d.length, by rw [HLO.out], by rw [HLO.out]; exact Nat.le_refl _, Ro2.all⟩
  have HS2 : Hid _ := hS2
  clear hB10 hW8 hS2 Ro2
  go_wp2_with fail
  refine (C7.out W10 _ _ hW10 HS2.out).mono ?_
  rintro e v11 ⟨rfl, hD11⟩
  obtain ⟨hS11, R14⟩ := digest_laid y Ky.out hD11
  have T11 := digest_there v11 y Ky.out
  have hW11 := hW10.trans (hS11.mono hW10.size)
  replace R7 := Row.below R7 hS11 (Row.lt R7)
  replace R10 := Row.below R10 hS11 (Row.lt R10)
  replace R12 := Row.below R12 hS11 (Row.lt R12)
  clear hD11 hS11 hW10
  go_wp2_with (first
    | (refine wpList_store_mid rfl 26 (.tmp 14) (.tmp 55) rfl v11.heap.size 0 (vB y).toArray rfl rfl T11 Iy Oy ?_; simp only [Act.put]; (change wpList _ _ _ _ _ (World.setCells (v11.alloc (Obj.cells (vB (List.replicate 32 0#8)).toArray 26)) v11.heap.size 0 (vB y))); clear T11; (generalize World.setCells (v11.alloc (Obj.cells (vB (List.replicate 32 0#8)).toArray 26)) v11.heap.size 0 (vB y) = W11 at *); (generalize v11.heap.size = p14 at *); clear v11)
    | (refine wpList_load_w rfl 26 (.tmp 7) rfl p7 0 rfl (vB x) _ R7.all Tryd.underlying26 rfl Jx ?_; simp only [Act.put, List.setIfInBounds_toArray, List.set_cons_zero, List.set_cons_succ])
    | (refine wpList_load_w rfl 26 (.tmp 10) rfl p10 0 rfl (vB x) _ R10.all Tryd.underlying26 rfl Jx ?_; simp only [Act.put, List.setIfInBounds_toArray, List.set_cons_zero, List.set_cons_succ])
    | (refine wpList_load_w rfl 26 (.tmp 12) rfl p12 0 rfl (vB y) _ R12.all Tryd.underlying26 rfl Jy ?_; simp only [Act.put, List.setIfInBounds_toArray, List.set_cons_zero, List.set_cons_succ])
    | (refine wpList_load_w rfl 26 (.tmp 14) rfl p14 0 rfl (vB y) _ R14.all Tryd.underlying26 rfl Jy ?_; simp only [Act.put, List.setIfInBounds_toArray, List.set_cons_zero, List.set_cons_succ])
    | (refine wpList_eql_same rfl 26 (.tmp 62) (.tmp 63) 26 rfl 5 32 x rfl rfl Tryd.underlying26 Tryd.underlying5 info_u8 Kx.out guard_dig ?_; simp only [Act.put, List.setIfInBounds_toArray, List.set_cons_zero, List.set_cons_succ])
    | (refine wpList_eql_same rfl 26 (.tmp 72) (.tmp 73) 26 rfl 5 32 y rfl rfl Tryd.underlying26 Tryd.underlying5 info_u8 Ky.out guard_dig ?_; simp only [Act.put, List.setIfInBounds_toArray, List.set_cons_zero, List.set_cons_succ]))
  go_ret
  exact ⟨rfl, hW11⟩

end Go.Proofs.YtihigbkanbabeaaDoor
