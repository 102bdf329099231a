/-
  The law DigestHexes.
-/
import Derived.Test.YtihigbkanbabeaaDoorHexMath
namespace Go.Proofs.YtihigbkanbabeaaDoor
open Go Go.RowKit
open Sha

set_option maxRecDepth 100000 in
set_option maxHeartbeats 2000000 in
theorem hexes_walk (d : List (BitVec 8)) (hd : d.length = 32) (s : ByteArray) (l : List (BitVec 8)) (hs : Str s l) (w : World) (hK : Tab w 1) :
    Calls Tryd.prog 7 #[.agg (vB d).toArray, .string s] w fun e w' => e = .returned (.bool true) ∧ Below w.heap.size w w' := by
  have c1 : ∀ W, _ := fun W => rhex_any (str (hexs d)) (hexs d) (str_Str _) W
  rw [rdx_hexs d hd] at c1
  have C1 : Hid _ := c1
  have c2 : ∀ W, _ := fun W => rhex_any s l hs W
  have c3 : ∀ W, _ := fun W => rrhex_any s l hs W
  have C4 : Hid (∀ W : World, Calls Tryd.prog 24 #[.agg (vB d).toArray] W fun e w' => e = .returned (.string (str (hexs d))) ∧ Below W.heap.size W w') := hex_any d hd
  have C5 : Hid (∀ W : World, Calls Tryd.prog 27 #[.agg (vB d).toArray] W fun e w' => e = .returned (.string (str (hexs d))) ∧ Below W.heap.size W w') := rhexs_any d hd
  have Ld := hd
  have Id : (Tryd.prog.info? 26).map (·.size) = some (vB d).toArray.size := by rw [info_dig]; simp [vB_length, Ld]
  have Jd : (Tryd.prog.info? 26).map (·.size) = some (vB d).length := by rw [info_dig, vB_length, Ld]
  have Od := all_oneCell_toArray (vB_one d)
  have Kd : Hid (d.length = 32) := Ld
  clear Ld
  rcases rdx_two l with ⟨dd, hrx, Ldd, hex⟩ | hrx
  · rw [hrx] at c2 c3
    have C2 : Hid _ := c2
    have C3 : Hid _ := c3
    have C6 : Hid (∀ W : World, Calls Tryd.prog 24 #[.agg (vB dd).toArray] W fun e w' => e = .returned (.string s) ∧ Below W.heap.size W w') := by
      show ∀ W : World, _
      intro W
      have := hex_any dd Ldd W
      rw [hex, hs.eq] at this
      exact this
    have Idd : (Tryd.prog.info? 26).map (·.size) = some (vB dd).toArray.size := by rw [info_dig]; simp [vB_length, Ldd]
    have Jdd : (Tryd.prog.info? 26).map (·.size) = some (vB dd).length := by rw [info_dig, vB_length, Ldd]
    have Odd := all_oneCell_toArray (vB_one dd)
    have Kdd : Hid (dd.length = 32) := Ldd
    clear Ldd
    clear c2 c3 hex
    clear hrx c1 hd hs
    generalize str (hexs d) = sd at C1 C4 C5
    go_enter Tryd.func7, Tryd.ntmps7
    go_wp2_with fail
    have hb0 : Below w.heap.size w (w.alloc (Obj.cells (vB d).toArray 26)) := (Below.refl _ _).alloc (Nat.le_refl _) _
    have R2 : Row (w.alloc (Obj.cells (vB d).toArray 26)) w.heap.size (vB d) 26 := Row.new _ _ _
    generalize w.alloc (Obj.cells (vB d).toArray 26) = W0 at *
    refine (awake_any W0 (hK.below hb0 hK.lt)).mono ?_
    rintro e W1 ⟨rfl, hB1⟩
    have hW1 := hb0.trans (hB1.mono hb0.size)
    replace R2 := Row.below R2 hB1 (Row.lt R2)
    clear hb0 hB1
    go_wp2_with (refine wpList_load_w rfl 26 (.tmp 2) rfl w.heap.size 0 rfl (vB d) _ R2.all Tryd.underlying26 rfl Jd ?_; simp only [Act.put, List.setIfInBounds_toArray, List.set_cons_zero, List.set_cons_succ])
    refine (C4.out W1).mono ?_
    rintro e W2 ⟨rfl, hB2⟩
    have hW2 := hW1.trans (hB2.mono hW1.size)
    replace R2 := Row.below R2 hB2 (Row.lt R2)
    clear hW1 hB2
    go_wp2_with fail
    refine (C1.out W2).mono ?_
    rintro e v3 ⟨rfl, hD3⟩
    obtain ⟨hS3, R7⟩ := digest_laid d Kd.out hD3
    have T3 := digest_there v3 d Kd.out
    have hW3 := hW2.trans (hS3.mono hW2.size)
    replace R2 := Row.below R2 hS3 (Row.lt R2)
    clear hD3 hS3 hW2
    go_wp2_with (first
      | (refine wpList_store_mid rfl 26 (.tmp 7) (.tmp 20) rfl v3.heap.size 0 (vB d).toArray rfl rfl T3 Id Od ?_; simp only [Act.put]; (change wpList _ _ _ _ _ (World.setCells (v3.alloc (Obj.cells (vB (List.replicate 32 0#8)).toArray 26)) v3.heap.size 0 (vB d))); clear T3; (generalize World.setCells (v3.alloc (Obj.cells (vB (List.replicate 32 0#8)).toArray 26)) v3.heap.size 0 (vB d) = W3 at *); (generalize v3.heap.size = p7 at *); clear v3))
    refine (C2.out W3).mono ?_
    rintro e v4 ⟨rfl, hD4⟩
    obtain ⟨hS4, R9⟩ := digest_laid dd Kdd.out hD4
    have T4 := digest_there v4 dd Kdd.out
    have hW4 := hW3.trans (hS4.mono hW3.size)
    replace R2 := Row.below R2 hS4 (Row.lt R2)
    replace R7 := Row.below R7 hS4 (Row.lt R7)
    clear hD4 hS4 hW3
    go_wp2_with (first
      | (refine wpList_store_mid rfl 26 (.tmp 9) (.tmp 25) rfl v4.heap.size 0 (vB dd).toArray rfl rfl T4 Idd Odd ?_; simp only [Act.put]; (change wpList _ _ _ _ _ (World.setCells (v4.alloc (Obj.cells (vB (List.replicate 32 0#8)).toArray 26)) v4.heap.size 0 (vB dd))); clear T4; (generalize World.setCells (v4.alloc (Obj.cells (vB (List.replicate 32 0#8)).toArray 26)) v4.heap.size 0 (vB dd) = W4 at *); (generalize v4.heap.size = p9 at *); clear v4))
    refine (C3.out W4).mono ?_
    rintro e v5 ⟨rfl, hD5⟩
    obtain ⟨hS5, R11⟩ := digest_laid dd Kdd.out hD5
    have T5 := digest_there v5 dd Kdd.out
    have hW5 := hW4.trans (hS5.mono hW4.size)
    replace R2 := Row.below R2 hS5 (Row.lt R2)
    replace R7 := Row.below R7 hS5 (Row.lt R7)
    replace R9 := Row.below R9 hS5 (Row.lt R9)
    clear hD5 hS5 hW4
    go_wp2_with (first
      | (refine wpList_store_mid rfl 26 (.tmp 11) (.tmp 30) rfl v5.heap.size 0 (vB dd).toArray rfl rfl T5 Idd Odd ?_; simp only [Act.put]; (change wpList _ _ _ _ _ (World.setCells (v5.alloc (Obj.cells (vB (List.replicate 32 0#8)).toArray 26)) v5.heap.size 0 (vB dd))); clear T5; (generalize World.setCells (v5.alloc (Obj.cells (vB (List.replicate 32 0#8)).toArray 26)) v5.heap.size 0 (vB dd) = W5 at *); (generalize v5.heap.size = p11 at *); clear v5)
      | (refine wpList_load_w rfl 26 (.tmp 2) rfl w.heap.size 0 rfl (vB d) _ R2.all Tryd.underlying26 rfl Jd ?_; simp only [Act.put, List.setIfInBounds_toArray, List.set_cons_zero, List.set_cons_succ]))
    refine (C5.out W5).mono ?_
    rintro e W6 ⟨rfl, hB6⟩
    have hW6 := hW5.trans (hB6.mono hW5.size)
    replace R2 := Row.below R2 hB6 (Row.lt R2)
    replace R7 := Row.below R7 hB6 (Row.lt R7)
    replace R9 := Row.below R9 hB6 (Row.lt R9)
    replace R11 := Row.below R11 hB6 (Row.lt R11)
    clear hW5 hB6
    go_wp2_with (first
      | (refine wpList_load_w rfl 26 (.tmp 2) rfl w.heap.size 0 rfl (vB d) _ R2.all Tryd.underlying26 rfl Jd ?_; simp only [Act.put, List.setIfInBounds_toArray, List.set_cons_zero, List.set_cons_succ])
      | (refine wpList_load_w rfl 26 (.tmp 7) rfl p7 0 rfl (vB d) _ R7.all Tryd.underlying26 rfl Jd ?_; simp only [Act.put, List.setIfInBounds_toArray, List.set_cons_zero, List.set_cons_succ])
      | (refine wpList_load_w rfl 26 (.tmp 9) rfl p9 0 rfl (vB dd) _ R9.all Tryd.underlying26 rfl Jdd ?_; simp only [Act.put, List.setIfInBounds_toArray, List.set_cons_zero, List.set_cons_succ])
      | (refine wpList_load_w rfl 26 (.tmp 11) rfl p11 0 rfl (vB dd) _ R11.all Tryd.underlying26 rfl Jdd ?_; simp only [Act.put, List.setIfInBounds_toArray, List.set_cons_zero, List.set_cons_succ])
      | (refine wpList_neq_same rfl 26 (.tmp 41) (.tmp 42) 26 rfl 5 32 d rfl rfl Tryd.underlying26 Tryd.underlying5 info_u8 Kd.out guard_dig ?_; simp only [Act.put, List.setIfInBounds_toArray, List.set_cons_zero, List.set_cons_succ])
      | (refine wpList_neq_same rfl 26 (.tmp 50) (.tmp 51) 26 rfl 5 32 dd rfl rfl Tryd.underlying26 Tryd.underlying5 info_u8 Kdd.out guard_dig ?_; simp only [Act.put, List.setIfInBounds_toArray, List.set_cons_zero, List.set_cons_succ]))
    refine (C6.out W6).mono ?_
    rintro e W7 ⟨rfl, hB7⟩
    have hW7 := hW6.trans (hB7.mono hW6.size)
    go_wp2
    go_ret
    exact ⟨rfl, hW7⟩
  · rw [hrx] at c2 c3
    obtain ⟨z, hz⟩ : ∃ z, z = List.replicate 32 0#8 := ⟨_, rfl⟩
    have Lz : z.length = 32 := by rw [hz]; rfl
    have c2' : ∀ W : World, Calls Tryd.prog 25 #[.string s] W fun e w' => e = .returned (.tuple #[.agg (vB z).toArray, .int .i64 10]) ∧ Below W.heap.size W w' := by rw [hz]; exact c2
    have c3' : ∀ W : World, Calls Tryd.prog 26 #[.string s] W fun e w' => e = .returned (.tuple #[.agg (vB z).toArray, .int .i64 10]) ∧ Below W.heap.size W w' := by rw [hz]; exact c3
    clear c2 c3
    have C2 : Hid _ := c2'
    have C3 : Hid _ := c3'
    clear c2' c3' hz
    have Iz : (Tryd.prog.info? 26).map (·.size) = some (vB z).toArray.size := by rw [info_dig]; simp [vB_length, Lz]
    have Jz : (Tryd.prog.info? 26).map (·.size) = some (vB z).length := by rw [info_dig, vB_length, Lz]
    have Oz := all_oneCell_toArray (vB_one z)
    have Kz : Hid (z.length = 32) := Lz
    clear Lz
    clear hrx c1 hd hs
    generalize str (hexs d) = sd at C1 C4 C5
    go_enter Tryd.func7, Tryd.ntmps7
    go_wp2_with fail
    have hb0 : Below w.heap.size w (w.alloc (Obj.cells (vB d).toArray 26)) := (Below.refl _ _).alloc (Nat.le_refl _) _
    have R2 : Row (w.alloc (Obj.cells (vB d).toArray 26)) w.heap.size (vB d) 26 := Row.new _ _ _
    generalize w.alloc (Obj.cells (vB d).toArray 26) = W0 at *
    refine (awake_any W0 (hK.below hb0 hK.lt)).mono ?_
    rintro e W1 ⟨rfl, hB1⟩
    have hW1 := hb0.trans (hB1.mono hb0.size)
    replace R2 := Row.below R2 hB1 (Row.lt R2)
    clear hb0 hB1
    go_wp2_with (refine wpList_load_w rfl 26 (.tmp 2) rfl w.heap.size 0 rfl (vB d) _ R2.all Tryd.underlying26 rfl Jd ?_; simp only [Act.put, List.setIfInBounds_toArray, List.set_cons_zero, List.set_cons_succ])
    refine (C4.out W1).mono ?_
    rintro e W2 ⟨rfl, hB2⟩
    have hW2 := hW1.trans (hB2.mono hW1.size)
    replace R2 := Row.below R2 hB2 (Row.lt R2)
    clear hW1 hB2
    go_wp2_with fail
    refine (C1.out W2).mono ?_
    rintro e v3 ⟨rfl, hD3⟩
    obtain ⟨hS3, R7⟩ := digest_laid d Kd.out hD3
    have T3 := digest_there v3 d Kd.out
    have hW3 := hW2.trans (hS3.mono hW2.size)
    replace R2 := Row.below R2 hS3 (Row.lt R2)
    clear hD3 hS3 hW2
    go_wp2_with (first
      | (refine wpList_store_mid rfl 26 (.tmp 7) (.tmp 20) rfl v3.heap.size 0 (vB d).toArray rfl rfl T3 Id Od ?_; simp only [Act.put]; (change wpList _ _ _ _ _ (World.setCells (v3.alloc (Obj.cells (vB (List.replicate 32 0#8)).toArray 26)) v3.heap.size 0 (vB d))); clear T3; (generalize World.setCells (v3.alloc (Obj.cells (vB (List.replicate 32 0#8)).toArray 26)) v3.heap.size 0 (vB d) = W3 at *); (generalize v3.heap.size = p7 at *); clear v3))
    refine (C2.out W3).mono ?_
    rintro e v4 ⟨rfl, hD4⟩
    obtain ⟨hS4, R9⟩ := digest_laid z Kz.out hD4
    have T4 := digest_there v4 z Kz.out
    have hW4 := hW3.trans (hS4.mono hW3.size)
    replace R2 := Row.below R2 hS4 (Row.lt R2)
    replace R7 := Row.below R7 hS4 (Row.lt R7)
    clear hD4 hS4 hW3
    go_wp2_with (first
      | (refine wpList_store_mid rfl 26 (.tmp 9) (.tmp 25) rfl v4.heap.size 0 (vB z).toArray rfl rfl T4 Iz Oz ?_; simp only [Act.put]; (change wpList _ _ _ _ _ (World.setCells (v4.alloc (Obj.cells (vB (List.replicate 32 0#8)).toArray 26)) v4.heap.size 0 (vB z))); clear T4; (generalize World.setCells (v4.alloc (Obj.cells (vB (List.replicate 32 0#8)).toArray 26)) v4.heap.size 0 (vB z) = W4 at *); (generalize v4.heap.size = p9 at *); clear v4))
    refine (C3.out W4).mono ?_
    rintro e v5 ⟨rfl, hD5⟩
    obtain ⟨hS5, R11⟩ := digest_laid z Kz.out hD5
    have T5 := digest_there v5 z Kz.out
    have hW5 := hW4.trans (hS5.mono hW4.size)
    replace R2 := Row.below R2 hS5 (Row.lt R2)
    replace R7 := Row.below R7 hS5 (Row.lt R7)
    replace R9 := Row.below R9 hS5 (Row.lt R9)
    clear hD5 hS5 hW4
    go_wp2_with (first
      | (refine wpList_store_mid rfl 26 (.tmp 11) (.tmp 30) rfl v5.heap.size 0 (vB z).toArray rfl rfl T5 Iz Oz ?_; simp only [Act.put]; (change wpList _ _ _ _ _ (World.setCells (v5.alloc (Obj.cells (vB (List.replicate 32 0#8)).toArray 26)) v5.heap.size 0 (vB z))); clear T5; (generalize World.setCells (v5.alloc (Obj.cells (vB (List.replicate 32 0#8)).toArray 26)) v5.heap.size 0 (vB z) = W5 at *); (generalize v5.heap.size = p11 at *); clear v5)
      | (refine wpList_load_w rfl 26 (.tmp 2) rfl w.heap.size 0 rfl (vB d) _ R2.all Tryd.underlying26 rfl Jd ?_; simp only [Act.put, List.setIfInBounds_toArray, List.set_cons_zero, List.set_cons_succ]))
    refine (C5.out W5).mono ?_
    rintro e W6 ⟨rfl, hB6⟩
    have hW6 := hW5.trans (hB6.mono hW5.size)
    replace R2 := Row.below R2 hB6 (Row.lt R2)
    replace R7 := Row.below R7 hB6 (Row.lt R7)
    replace R9 := Row.below R9 hB6 (Row.lt R9)
    replace R11 := Row.below R11 hB6 (Row.lt R11)
    clear hW5 hB6
    go_wp2_with (first
      | (refine wpList_load_w rfl 26 (.tmp 2) rfl w.heap.size 0 rfl (vB d) _ R2.all Tryd.underlying26 rfl Jd ?_; simp only [Act.put, List.setIfInBounds_toArray, List.set_cons_zero, List.set_cons_succ])
      | (refine wpList_load_w rfl 26 (.tmp 7) rfl p7 0 rfl (vB d) _ R7.all Tryd.underlying26 rfl Jd ?_; simp only [Act.put, List.setIfInBounds_toArray, List.set_cons_zero, List.set_cons_succ])
      | (refine wpList_load_w rfl 26 (.tmp 9) rfl p9 0 rfl (vB z) _ R9.all Tryd.underlying26 rfl Jz ?_; simp only [Act.put, List.setIfInBounds_toArray, List.set_cons_zero, List.set_cons_succ])
      | (refine wpList_load_w rfl 26 (.tmp 11) rfl p11 0 rfl (vB z) _ R11.all Tryd.underlying26 rfl Jz ?_; simp only [Act.put, List.setIfInBounds_toArray, List.set_cons_zero, List.set_cons_succ])
      | (refine wpList_neq_same rfl 26 (.tmp 41) (.tmp 42) 26 rfl 5 32 d rfl rfl Tryd.underlying26 Tryd.underlying5 info_u8 Kd.out guard_dig ?_; simp only [Act.put, List.setIfInBounds_toArray, List.set_cons_zero, List.set_cons_succ])
      | (refine wpList_neq_same rfl 26 (.tmp 50) (.tmp 51) 26 rfl 5 32 z rfl rfl Tryd.underlying26 Tryd.underlying5 info_u8 Kz.out guard_dig ?_; simp only [Act.put, List.setIfInBounds_toArray, List.set_cons_zero, List.set_cons_succ]))
    go_ret
    exact ⟨rfl, hW6⟩

end Go.Proofs.YtihigbkanbabeaaDoor
