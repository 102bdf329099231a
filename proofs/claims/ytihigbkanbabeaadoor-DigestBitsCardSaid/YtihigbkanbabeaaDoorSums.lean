/-
  The law DigestSums.
-/
import Derived.Test.YtihigbkanbabeaaDoorRSum
namespace Go.Proofs.YtihigbkanbabeaaDoor
open Go Go.RowKit
open Sha

theorem other_row (d : List (BitVec 8)) (w : World) (g : Nat) (hr : Row w g (vB (d ++ marks)) 5) : Row (w.setCells g 0 (vB (oth d))) g (vB (oth d ++ marks)) 5 := by
  have h := Row.setCells 0 (vB (oth d)) hr (by simp [vB_length, oth_length])
  rw [show (vB (d ++ marks)).take 0 ++ vB (oth d) ++ (vB (d ++ marks)).drop (0 + (vB (oth d)).length) = vB (oth d ++ marks) by
    simp only [List.take_zero, List.nil_append, Nat.zero_add, vB_length, oth_length, vB_append]
    rw [List.drop_left' (by rw [vB_length])]] at h
  exact h

set_option maxRecDepth 100000 in
set_option maxHeartbeats 2000000 in
theorem sums_walk (d : List (BitVec 8)) (hd : d.length ≤ 140737488351232) (A : Option Addr) (cap : Nat) (w : World) (hv : SlAt w (.slice A d.length cap) d) (hG : Given w) :
    Calls Tryd.prog 3 #[.slice A d.length cap] w fun e w' => e = .returned (.bool true) ∧ Below w.heap.size w w' := by
  obtain ⟨o, ho⟩ : ∃ o, o = oth d := ⟨_, rfl⟩
  obtain ⟨dm, hdm⟩ : ∃ dm, dm = d ++ marks := ⟨_, rfl⟩
  obtain ⟨om, hom⟩ : ∃ om, om = o ++ marks := ⟨_, rfl⟩
  obtain ⟨N, hN⟩ : ∃ N, N = d.length + 80 := ⟨_, rfl⟩
  have lo : o.length = d.length := by rw [ho, oth_length]
  obtain ⟨x, hx⟩ : ∃ x, x = dig (d) := ⟨_, rfl⟩
  have Hx : Hid (x = dig (d)) := hx
  have Lx : x.length = 32 := by rw [hx]; exact dig_length _
  have Ix : (Tryd.prog.info? 26).map (·.size) = some (vB x).toArray.size := by rw [info_dig]; simp [vB_length, Lx]
  have Jx : (Tryd.prog.info? 26).map (·.size) = some (vB x).length := by rw [info_dig, vB_length, Lx]
  have Ox := all_oneCell_toArray (vB_one x)
  have Kx : Hid (x.length = 32) := Lx
  clear hx Lx
  obtain ⟨y, hy⟩ : ∃ y, y = dig (o) := ⟨_, rfl⟩
  have Hy : Hid (y = dig (o)) := hy
  have Ly : y.length = 32 := by rw [hy]; exact dig_length _
  have Iy : (Tryd.prog.info? 26).map (·.size) = some (vB y).toArray.size := by rw [info_dig]; simp [vB_length, Ly]
  have Jy : (Tryd.prog.info? 26).map (·.size) = some (vB y).length := by rw [info_dig, vB_length, Ly]
  have Oy := all_oneCell_toArray (vB_one y)
  have Ky : Hid (y.length = 32) := Ly
  clear hy Ly
  have C1 : Hid (∀ W, Below w.heap.size w W → Calls Tryd.prog 10 #[.slice A d.length cap] W fun e w' => ∃ g, e = .returned (.slice (some ⟨g, 0, none⟩) N N) ∧ W.heap.size ≤ g ∧ Row w' g (vB dm) 5 ∧ Below W.heap.size W w') := by
    intro W hW
    refine (lent_any d hd A cap W (hv.below hW (Nat.le_refl _))).mono ?_
    rintro e w' ⟨⟨v, rfl, g, rfl, hg, hr⟩, hB⟩
    exact ⟨g, by rw [hN]; simp [marks], hg, by rw [hdm]; exact hr, hB⟩
  have C2 : Hid (∀ W v, Below w.heap.size w W → SlAt W v d → Calls Tryd.prog 11 #[v] W fun e w' => e = .returned (.agg (vB x).toArray) ∧ Below W.heap.size W w') :=
    fun W v hW h => sum_any d x Hx.out (by omega) v W (hG.low hW).cub h
  have C3 : Hid (∀ W v, Below w.heap.size w W → SlAt W v o → Calls Tryd.prog 11 #[v] W fun e w' => e = .returned (.agg (vB y).toArray) ∧ Below W.heap.size W w') :=
    fun W v hW h => sum_any o y Hy.out (by omega) v W (hG.low hW).cub h
  have C4 : Hid (∀ W g, Below w.heap.size w W → Row W g (vB dm) 5 → Calls Tryd.prog 12 #[.slice (some ⟨g, 0, none⟩) N N, .slice A d.length cap] W fun e w' => e = .returned (.bool true) ∧ w' = W) := by
    intro W g hW h; rw [hdm] at h; rw [hN]; exact kept_any d hd g A cap W h (hv.below hW (Nat.le_refl _))
  have C5 : Hid (∀ W, Below w.heap.size w W → Calls Tryd.prog 13 #[.slice A d.length cap] W fun e w' => ∃ g, e = .returned (.slice (some ⟨g, 0, none⟩) d.length d.length) ∧ W.heap.size ≤ g ∧ Row w' g (vB o) 5 ∧ Below W.heap.size W w') := by
    intro W hW
    refine (other_any d hd A cap W (hv.below hW (Nat.le_refl _))).mono ?_
    rintro e w' ⟨⟨v, rfl, g, rfl, hg, hr⟩, hB⟩
    exact ⟨g, by rw [oth_length], hg, by rw [ho]; exact hr, hB⟩
  have C6 : Hid (∀ W, Below w.heap.size w W → Calls Tryd.prog 14 #[.slice A d.length cap] W fun e w' => e = .returned (.agg (vB x).toArray) ∧ Below W.heap.size W w') :=
    fun W hW => rsum_any d x Hx.out hd _ W (hv.below hW (Nat.le_refl _)) (hG.low hW)
  have C7 : Hid (∀ W v, Below w.heap.size w W → SlAt W v o → Calls Tryd.prog 14 #[v] W fun e w' => e = .returned (.agg (vB y).toArray) ∧ Below W.heap.size W w') :=
    fun W v hW h => rsum_any o y Hy.out (by omega) v W h (hG.low hW)
  have C0 : Hid (∀ W, Below w.heap.size w W → Calls Tryd.prog 9 #[] W fun e w' => e = .returned (.bool true) ∧ Below W.heap.size W w') := fun W hW => awake_any W (hG.low hW).cub
  have HDT : Hid (dm.take d.length = d) := by show _ = _; rw [hdm, List.take_left]
  have HOT : Hid (om.take d.length = o) := by show _ = _; rw [hom, ← lo, List.take_left]
  have hlm : d.length ≤ dm.length := by rw [hdm]; simp
  have hlom : d.length ≤ om.length := by rw [hom]; simp [lo]
  have HX : Hid (∀ W g, Row W g (vB dm) 5 → Row (W.setCells g 0 (vB o)) g (vB om) 5) := by
    intro W g h; rw [hdm] at h; rw [hom, ho]; exact other_row d W g h
  have HDL : Hid (dm.length = N) := by show _ = _; rw [hdm, hN]; simp [marks]
  have HOL : Hid (om.length = N) := by show _ = _; rw [hom, hN]; simp [marks, lo]
  have HLO : Hid (o.length = d.length) := lo
  have HN : Hid (N = d.length + 80) := hN
  clear hN hdm hom ho lo hv hG
  go_enter Tryd.func3, Tryd.ntmps3
  go_wp2_with fail
  refine (C0.out w (Below.refl _ _)).mono ?_
  rintro e W1 ⟨rfl, hW1⟩
  go_wp2_with fail
  refine (C1.out W1 hW1).mono ?_
  rintro e W2 ⟨g, rfl, hg, Rg, hB2⟩
  have hW2 := hW1.trans (hB2.mono hW1.size)
  have hgw : w.heap.size ≤ g := Nat.le_trans hW1.size hg
  clear hB2 hW1 hg
  have hSL31 : SlAt W2 (.slice (some ⟨g, 0, none⟩) N N) dm := .inr ⟨g, 0, N, by rw [HDL.out], by rw [HDL.out]; exact Nat.le_refl _, Rg.all⟩
  have HSL31 : Hid _ := hSL31
  clear hSL31
  go_wp2_with (refine wpList_slice_h rfl 22 (.tmp 14) (.tmp 16) rfl W2 5 (some ⟨g, 0, none⟩) N N dm HSL31.out d.length _ rfl rfl rfl hlm Tryd.underlying22 info_u8 ?_; intro B31 c31 hS31; rw [HDT.out] at hS31; simp only [Act.put, List.setIfInBounds_toArray, List.set_cons_zero, List.set_cons_succ])
  refine (C2.out W2 _ hW2 hS31).mono ?_
  rintro e v3 ⟨rfl, hD3⟩
  obtain ⟨hS3, R5⟩ := digest_laid x Kx.out hD3
  have T3 := digest_there v3 x Kx.out
  have hW3 := hW2.trans (hS3.mono hW2.size)
  replace Rg := Row.below Rg hS3 (Row.lt Rg)
  clear hD3 hS3 hW2
  go_wp2_with (refine wpList_store_mid rfl 26 (.tmp 5) (.tmp 18) rfl v3.heap.size 0 (vB x).toArray rfl rfl T3 Ix Ox ?_; simp only [Act.put]; (change wpList _ _ _ _ _ (World.setCells (v3.alloc (Obj.cells (vB (List.replicate 32 0#8)).toArray 26)) v3.heap.size 0 (vB x))); clear T3; (generalize World.setCells (v3.alloc (Obj.cells (vB (List.replicate 32 0#8)).toArray 26)) v3.heap.size 0 (vB x) = W3 at *); (generalize v3.heap.size = p5 at *); clear v3)
  refine (C4.out W3 g hW3 Rg).mono ?_
  rintro e W4 ⟨rfl, hE⟩
  obtain rfl : W4 = W3 := hE
  have hSL32 : SlAt W4 (.slice (some ⟨g, 0, none⟩) N N) dm := .inr ⟨g, 0, N, by rw [HDL.out], by rw [HDL.out]; exact Nat.le_refl _, Rg.all⟩
  have HSL32 : Hid _ := hSL32
  clear hSL32
  go_wp2_with (refine wpList_slice_h rfl 22 (.tmp 22) (.tmp 24) rfl W4 5 (some ⟨g, 0, none⟩) N N dm HSL32.out d.length _ rfl rfl rfl hlm Tryd.underlying22 info_u8 ?_; intro B32 c32 hS32; rw [HDT.out] at hS32; simp only [Act.put, List.setIfInBounds_toArray, List.set_cons_zero, List.set_cons_succ])
  refine (C2.out W4 _ hW3 hS32).mono ?_
  rintro e v5 ⟨rfl, hD5⟩
  obtain ⟨hS5, R7⟩ := digest_laid x Kx.out hD5
  have T5 := digest_there v5 x Kx.out
  have hW5 := hW3.trans (hS5.mono hW3.size)
  replace Rg := Row.below Rg hS5 (Row.lt Rg)
  replace R5 := Row.below R5 hS5 (Row.lt R5)
  clear hD5 hS5 hW3
  go_wp2_with (refine wpList_store_mid rfl 26 (.tmp 7) (.tmp 26) rfl v5.heap.size 0 (vB x).toArray rfl rfl T5 Ix Ox ?_; simp only [Act.put]; (change wpList _ _ _ _ _ (World.setCells (v5.alloc (Obj.cells (vB (List.replicate 32 0#8)).toArray 26)) v5.heap.size 0 (vB x))); clear T5; (generalize World.setCells (v5.alloc (Obj.cells (vB (List.replicate 32 0#8)).toArray 26)) v5.heap.size 0 (vB x) = W5 at *); (generalize v5.heap.size = p7 at *); clear v5)
  refine (C5.out W5 hW5).mono ?_
  rintro e W6 ⟨go, rfl, hgo, Ro, hB6⟩
  have hW6 := hW5.trans (hB6.mono hW5.size)
  replace Rg := Row.below Rg hB6 (Row.lt Rg)
  replace R5 := Row.below R5 hB6 (Row.lt R5)
  replace R7 := Row.below R7 hB6 (Row.lt R7)
  clear hB6 hW5
  have hSo : SlAt W6 (.slice (some ⟨go, 0, none⟩) d.length d.length) o := .inr ⟨go, 0, d.length, by rw [HLO.out], by rw [HLO.out]; exact Nat.le_refl _, Ro.all⟩
  have HSo : Hid _ := hSo
  have hth : W6.there g 0 o.length := Row.there Rg 0 _ (by rw [vB_length, HDL.out, HLO.out, HN.out]; omega)
  have hoN : o.length ≤ N := by rw [HLO.out, HN.out]; omega
  have hW7 := below_setCells hW6 (b := g) (o := 0) hgw (vB o)
  have n5 := Row.ne R5 Rg (by decide)
  have n7 := Row.ne R7 Rg (by decide)
  replace R5 := Row.setCells_other R5 g 0 (vB o) n5
  replace R7 := Row.setCells_other R7 g 0 (vB o) n7
  have Rg' := HX.out W6 g Rg
  clear hSo hW6 n5 n7
  go_wp2_with (first
    | (refine wpList_copy_sl rfl (.tmp 27) (.tmp 29) 22 22 rfl 5 g N N (.slice (some ⟨go, 0, none⟩) d.length d.length) o hoN rfl rfl HSo.out Tryd.underlying22 info_u8 hth ?_; simp only [Act.put, List.setIfInBounds_toArray, List.set_cons_zero, List.set_cons_succ]; clear hth Rg Ro; (generalize World.setCells W6 g 0 (vB o) = W7 at *); (have HSL33 : Hid (SlAt W7 (.slice (some ⟨g, 0, none⟩) N N) om) := .inr ⟨g, 0, N, by rw [HOL.out], by rw [HOL.out]; exact Nat.le_refl _, Rg'.all⟩))
    | (refine wpList_slice_h rfl 22 (.tmp 31) (.tmp 33) rfl W7 5 (some ⟨g, 0, none⟩) N N om HSL33.out d.length _ rfl rfl rfl hlom Tryd.underlying22 info_u8 ?_; intro B33 c33 hS33; rw [HOT.out] at hS33; simp only [Act.put, List.setIfInBounds_toArray, List.set_cons_zero, List.set_cons_succ]))
  refine (C3.out W7 _ hW7 hS33).mono ?_
  rintro e v8 ⟨rfl, hD8⟩
  obtain ⟨hS8, R8⟩ := digest_laid y Ky.out hD8
  have T8 := digest_there v8 y Ky.out
  have hW8 := hW7.trans (hS8.mono hW7.size)
  replace R5 := Row.below R5 hS8 (Row.lt R5)
  replace R7 := Row.below R7 hS8 (Row.lt R7)
  clear hD8 hS8 hW7
  go_wp2_with (refine wpList_store_mid rfl 26 (.tmp 8) (.tmp 35) rfl v8.heap.size 0 (vB y).toArray rfl rfl T8 Iy Oy ?_; simp only [Act.put]; (change wpList _ _ _ _ _ (World.setCells (v8.alloc (Obj.cells (vB (List.replicate 32 0#8)).toArray 26)) v8.heap.size 0 (vB y))); clear T8; (generalize World.setCells (v8.alloc (Obj.cells (vB (List.replicate 32 0#8)).toArray 26)) v8.heap.size 0 (vB y) = W8 at *); (generalize v8.heap.size = p8 at *); clear v8)
  refine (C6.out W8 hW8).mono ?_
  rintro e v9 ⟨rfl, hD9⟩
  obtain ⟨hS9, R9⟩ := digest_laid x Kx.out hD9
  have T9 := digest_there v9 x Kx.out
  have hW9 := hW8.trans (hS9.mono hW8.size)
  replace R5 := Row.below R5 hS9 (Row.lt R5)
  replace R7 := Row.below R7 hS9 (Row.lt R7)
  replace R8 := Row.below R8 hS9 (Row.lt R8)
  clear hD9 hS9 hW8
  go_wp2_with (refine wpList_store_mid rfl 26 (.tmp 9) (.tmp 37) rfl v9.heap.size 0 (vB x).toArray rfl rfl T9 Ix Ox ?_; simp only [Act.put]; (change wpList _ _ _ _ _ (World.setCells (v9.alloc (Obj.cells (vB (List.replicate 32 0#8)).toArray 26)) v9.heap.size 0 (vB x))); clear T9; (generalize World.setCells (v9.alloc (Obj.cells (vB (List.replicate 32 0#8)).toArray 26)) v9.heap.size 0 (vB x) = W9 at *); (generalize v9.heap.size = p9 at *); clear v9)
  refine (C5.out W9 hW9).mono ?_
  rintro e W10 ⟨g2, rfl, hg2, Ro2, hB10⟩
  have hW10 := hW9.trans (hB10.mono hW9.size)
  replace R5 := Row.below R5 hB10 (Row.lt R5)
  replace R7 := Row.below R7 hB10 (Row.lt R7)
  replace R8 := Row.below R8 hB10 (Row.lt R8)
  replace R9 := Row.below R9 hB10 (Row.lt R9)
  have hS2 : SlAt W10 (.slice (some ⟨g2, 0, none⟩) d.length d.length) o := .inr ⟨g2, 0, d.length, by rw [HLO.out], by rw [HLO.out]; exact Nat.le_refl _, Ro2.all⟩
  have HS2 : Hid _ := hS2
  clear hB10 hW9 hS2 Ro2
  go_wp2_with fail
  refine (C7.out W10 _ hW10 HS2.out).mono ?_
  rintro e v11 ⟨rfl, hD11⟩
  obtain ⟨hS11, R10⟩ := digest_laid y Ky.out hD11
  have T11 := digest_there v11 y Ky.out
  have hW11 := hW10.trans (hS11.mono hW10.size)
  replace R5 := Row.below R5 hS11 (Row.lt R5)
  replace R7 := Row.below R7 hS11 (Row.lt R7)
  replace R8 := Row.below R8 hS11 (Row.lt R8)
  replace R9 := Row.below R9 hS11 (Row.lt R9)
  clear hD11 hS11 hW10
  go_wp2_with (first
    | (refine wpList_store_mid rfl 26 (.tmp 10) (.tmp 40) rfl v11.heap.size 0 (vB y).toArray rfl rfl T11 Iy Oy ?_; simp only [Act.put]; (change wpList _ _ _ _ _ (World.setCells (v11.alloc (Obj.cells (vB (List.replicate 32 0#8)).toArray 26)) v11.heap.size 0 (vB y))); clear T11; (generalize World.setCells (v11.alloc (Obj.cells (vB (List.replicate 32 0#8)).toArray 26)) v11.heap.size 0 (vB y) = W11 at *); (generalize v11.heap.size = p10 at *); clear v11)
    | (refine wpList_load_w rfl 26 (.tmp 5) rfl p5 0 rfl (vB x) _ R5.all Tryd.underlying26 rfl Jx ?_; simp only [Act.put, List.setIfInBounds_toArray, List.set_cons_zero, List.set_cons_succ])
    | (refine wpList_load_w rfl 26 (.tmp 9) rfl p9 0 rfl (vB x) _ R9.all Tryd.underlying26 rfl Jx ?_; simp only [Act.put, List.setIfInBounds_toArray, List.set_cons_zero, List.set_cons_succ])
    | (refine wpList_load_w rfl 26 (.tmp 7) rfl p7 0 rfl (vB x) _ R7.all Tryd.underlying26 rfl Jx ?_; simp only [Act.put, List.setIfInBounds_toArray, List.set_cons_zero, List.set_cons_succ])
    | (refine wpList_load_w rfl 26 (.tmp 8) rfl p8 0 rfl (vB y) _ R8.all Tryd.underlying26 rfl Jy ?_; simp only [Act.put, List.setIfInBounds_toArray, List.set_cons_zero, List.set_cons_succ])
    | (refine wpList_load_w rfl 26 (.tmp 10) rfl p10 0 rfl (vB y) _ R10.all Tryd.underlying26 rfl Jy ?_; simp only [Act.put, List.setIfInBounds_toArray, List.set_cons_zero, List.set_cons_succ])
    | (refine wpList_eql_same rfl 26 (.tmp 46) (.tmp 47) 26 rfl 5 32 x rfl rfl Tryd.underlying26 Tryd.underlying5 info_u8 Kx.out guard_dig ?_; simp only [Act.put, List.setIfInBounds_toArray, List.set_cons_zero, List.set_cons_succ])
    | (refine wpList_eql_same rfl 26 (.tmp 51) (.tmp 52) 26 rfl 5 32 x rfl rfl Tryd.underlying26 Tryd.underlying5 info_u8 Kx.out guard_dig ?_; simp only [Act.put, List.setIfInBounds_toArray, List.set_cons_zero, List.set_cons_succ])
    | (refine wpList_eql_same rfl 26 (.tmp 56) (.tmp 57) 26 rfl 5 32 y rfl rfl Tryd.underlying26 Tryd.underlying5 info_u8 Ky.out guard_dig ?_; simp only [Act.put, List.setIfInBounds_toArray, List.set_cons_zero, List.set_cons_succ]))
  go_ret
  exact ⟨rfl, hW11⟩

end Go.Proofs.YtihigbkanbabeaaDoor
