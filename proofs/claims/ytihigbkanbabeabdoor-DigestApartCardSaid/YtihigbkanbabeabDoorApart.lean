/-
  The law DigestApart.
-/
import Derived.Test.YtihigbkanbabeabDoorSub
namespace Go.Proofs.YtihigbkanbabeabDoor
open Go Go.RowKit
open Sha

set_option maxRecDepth 100000 in
set_option maxHeartbeats 1000000 in
theorem apart_walk (d1 d2 : List (BitVec 8)) (h1 : d1.length < 576460752303423488) (h2 : d2.length < 576460752303423488) (A1 A2 : Option Addr) (c1 c2 : Nat) (st : Int) (hs1 : -9223372036854775808 ≤ st) (hs2 : st ≤ 9223372036854775807) (w : World) (hK : Tab w 0)
    (hv1 : SlAt w (.slice A1 d1.length c1) d1) (hv2 : SlAt w (.slice A2 d2.length c2) d2) :
    Calls Tryd.prog 4 #[.slice A1 d1.length c1, .slice A2 d2.length c2, .int .i64 st] w fun e w' => e = .returned (.bool true) ∧ Below w.heap.size w w' := by
  go_enter Tryd.func4, Tryd.ntmps4
  go_wp2_with fail
  refine (awake_any _ hK).mono ?_
  rintro e w1 ⟨rfl, hB1⟩
  go_wp2_with fail
  refine (new_any _).mono ?_
  rintro e w2 ⟨ba, rfl, hba, hHa, hB2⟩
  go_wp2_with fail
  refine (new_any _).mono ?_
  rintro e w3 ⟨bb, rfl, hbb, hHb, hB3⟩
  have hBa : Below w.heap.size w w2 := hB1.trans (hB2.mono hB1.size)
  have hBb : Below w.heap.size w w3 := hBa.trans (hB3.mono hBa.size)
  have hna : w.heap.size ≤ ba := Nat.le_trans hB1.size hba
  have hab : ba < bb := Nat.lt_of_lt_of_le (Row.lt hHa) hbb
  have hHa3 : HAt w3 ba [] := Row.below hHa hB3 (Row.lt hHa)
  clear hB1 hB2 hB3 hBa hba hbb hHa
  go_wp2_with fail
  refine (pick_any st 70 hs1 hs2 (by decide) (by decide) _).mono ?_
  rintro e w4 ⟨r, hr, rfl, rfl⟩
  go_wp2
  go_loopw [11, 12] (fun i j wr => ∃ i1 j1 : Nat, i1 ≤ d1.length ∧ j1 ≤ d2.length ∧ i = .int .i64 i1 ∧ j = .int .i64 j1 ∧ HAt wr ba (d1.take i1) ∧ HAt wr bb (d2.take j1) ∧ Below w.heap.size w wr)
    (fun i j _ => (d1.length - (intOf i).toNat) + (d2.length - (intOf j).toNat))
  case atStart => exact ⟨0, 0, by omega, by omega, rfl, rfl, hHa3, hHb, hBb⟩
  case round =>
    obtain ⟨i1, j1, hi, hj, rfl, rfl, hA, hB, hW⟩ := hrel
    clear hHa3 hHb hBb
    by_cases hlt : i1 < d1.length
    · obtain ⟨x, hx⟩ : ∃ x : Nat, x = min (i1 + (1 + r)) d1.length := ⟨_, rfl⟩
      obtain ⟨y, hy⟩ : ∃ y : Nat, y = min (j1 + (1 + r) + 1) d2.length := ⟨_, rfl⟩
      have hx1 : i1 ≤ x := by omega
      have hx2 : x ≤ d1.length := by omega
      have hy1 : j1 ≤ y := by omega
      have hy2 : y ≤ d2.length := by omega
      have e1 := take_mid d1 i1 x hx1
      have e2 := take_mid d2 j1 y hy1
      have E1 : Hid _ := e1
      have E2 : Hid _ := e2
      have hl1 : (d1.take i1).length + ((d1.drop i1).take (x - i1)).length < 1152921504606846976 := by rw [← List.length_append, e1, List.length_take]; omega
      have hl2 : (d2.take j1).length + ((d2.drop j1).take (y - j1)).length < 1152921504606846976 := by rw [← List.length_append, e2, List.length_take]; omega
      have L1 : Hid _ := hl1
      have L2 : Hid _ := hl2
      have mx : (if (d1.length : Int) < (i1 : Int) + (1 + r) then (d1.length : Int) else (i1 : Int) + (1 + r)) = (x : Int) := by split <;> omega
      have my : (if (d2.length : Int) < (j1 : Int) + (1 + r) + 1 then (d2.length : Int) else (j1 : Int) + (1 + r) + 1) = (y : Int) := by split <;> omega
      have MX : Hid _ := mx
      have MY : Hid _ := my
      have MM : Hid (d1.length - x + (d2.length - y) < d1.length - i1 + (d2.length - j1)) := by show _ < _; omega
      clear e1 e2 hl1 hl2 mx my hx hy
      go_wp2_with (first
        | (refine wpList_min rfl (.tmp 50) (.tmp 52) _ rfl _ _ x rfl rfl MX.out ?_; simp only [Act.put, List.setIfInBounds_toArray, List.set_cons_zero, List.set_cons_succ])
        | (refine wpList_min rfl (.tmp 57) (.tmp 59) _ rfl _ _ y rfl rfl MY.out ?_; simp only [Act.put, List.setIfInBounds_toArray, List.set_cons_zero, List.set_cons_succ])
        | (refine wpList_slice_lh rfl 22 (.tmp 62) (.tmp 63) (.tmp 64) rfl w 5 A1 d1.length c1 d1 hv1 i1 x rfl rfl rfl hx1 hx2 Tryd.underlying22 info_u8 ?_; intro B1 q1 hS1; simp only [Act.put, List.setIfInBounds_toArray, List.set_cons_zero, List.set_cons_succ])
        | (refine wpList_slice_lh rfl 22 (.tmp 68) (.tmp 69) (.tmp 70) rfl w 5 A2 d2.length c2 d2 hv2 j1 y rfl rfl rfl hy1 hy2 Tryd.underlying22 info_u8 ?_; intro B2 q2 hS2; simp only [Act.put, List.setIfInBounds_toArray, List.set_cons_zero, List.set_cons_succ])
        | (go_at_call_of 8 (Value.pointer (some ⟨ba, 0, none⟩)); refine (write_old (d1.take i1) _ L1.out ba _ w wr (hK.below hW hK.lt) (by have := hK.lt; omega) hA hS1 hW hna).mono ?_; rintro e w5 ⟨rfl, hA5, hBu5⟩; (have hW5 := But.below hW hBu5 hna hW.size); (have hB5 : HAt w5 bb (d2.take j1) := Row.but hB hBu5 (by omega)))
        | (go_at_call_of 8 (Value.pointer (some ⟨bb, 0, none⟩)); refine (write_old (d2.take j1) _ L2.out bb _ w w5 (hK.below hW5 hK.lt) (by have := hK.lt; omega) hB5 hS2 hW5 (by omega)).mono ?_; rintro e w6 ⟨rfl, hB6, hBu6⟩; (have hW6 := But.below hW5 hBu6 (Nat.le_of_lt (Nat.lt_of_le_of_lt hna hab)) hW5.size); (have hA6 : HAt w6 ba _ := Row.but hA5 hBu6 (by omega))))
      refine ⟨⟨x, y, hx2, hy2, rfl, rfl, by rw [← E1.out]; exact hA6, by rw [← E2.out]; exact hB6, hW6⟩, ?_⟩
      exact MM.out
    · by_cases hlt2 : j1 < d2.length
      · obtain ⟨x, hx⟩ : ∃ x : Nat, x = min (i1 + (1 + r)) d1.length := ⟨_, rfl⟩
        obtain ⟨y, hy⟩ : ∃ y : Nat, y = min (j1 + (1 + r) + 1) d2.length := ⟨_, rfl⟩
        have hx1 : i1 ≤ x := by omega
        have hx2 : x ≤ d1.length := by omega
        have hy1 : j1 ≤ y := by omega
        have hy2 : y ≤ d2.length := by omega
        have e1 := take_mid d1 i1 x hx1
        have e2 := take_mid d2 j1 y hy1
        have E1 : Hid _ := e1
        have E2 : Hid _ := e2
        have hl1 : (d1.take i1).length + ((d1.drop i1).take (x - i1)).length < 1152921504606846976 := by rw [← List.length_append, e1, List.length_take]; omega
        have hl2 : (d2.take j1).length + ((d2.drop j1).take (y - j1)).length < 1152921504606846976 := by rw [← List.length_append, e2, List.length_take]; omega
        have L1 : Hid _ := hl1
        have L2 : Hid _ := hl2
        have mx : (if (d1.length : Int) < (i1 : Int) + (1 + r) then (d1.length : Int) else (i1 : Int) + (1 + r)) = (x : Int) := by split <;> omega
        have my : (if (d2.length : Int) < (j1 : Int) + (1 + r) + 1 then (d2.length : Int) else (j1 : Int) + (1 + r) + 1) = (y : Int) := by split <;> omega
        have MX : Hid _ := mx
        have MY : Hid _ := my
        have MM : Hid (d1.length - x + (d2.length - y) < d1.length - i1 + (d2.length - j1)) := by show _ < _; omega
        clear e1 e2 hl1 hl2 mx my hx hy
        go_wp2_with (first
          | (refine wpList_min rfl (.tmp 50) (.tmp 52) _ rfl _ _ x rfl rfl MX.out ?_; simp only [Act.put, List.setIfInBounds_toArray, List.set_cons_zero, List.set_cons_succ])
          | (refine wpList_min rfl (.tmp 57) (.tmp 59) _ rfl _ _ y rfl rfl MY.out ?_; simp only [Act.put, List.setIfInBounds_toArray, List.set_cons_zero, List.set_cons_succ])
          | (refine wpList_slice_lh rfl 22 (.tmp 62) (.tmp 63) (.tmp 64) rfl w 5 A1 d1.length c1 d1 hv1 i1 x rfl rfl rfl hx1 hx2 Tryd.underlying22 info_u8 ?_; intro B1 q1 hS1; simp only [Act.put, List.setIfInBounds_toArray, List.set_cons_zero, List.set_cons_succ])
          | (refine wpList_slice_lh rfl 22 (.tmp 68) (.tmp 69) (.tmp 70) rfl w 5 A2 d2.length c2 d2 hv2 j1 y rfl rfl rfl hy1 hy2 Tryd.underlying22 info_u8 ?_; intro B2 q2 hS2; simp only [Act.put, List.setIfInBounds_toArray, List.set_cons_zero, List.set_cons_succ])
          | (go_at_call_of 8 (Value.pointer (some ⟨ba, 0, none⟩)); refine (write_old (d1.take i1) _ L1.out ba _ w wr (hK.below hW hK.lt) (by have := hK.lt; omega) hA hS1 hW hna).mono ?_; rintro e w5 ⟨rfl, hA5, hBu5⟩; (have hW5 := But.below hW hBu5 hna hW.size); (have hB5 : HAt w5 bb (d2.take j1) := Row.but hB hBu5 (by omega)))
          | (go_at_call_of 8 (Value.pointer (some ⟨bb, 0, none⟩)); refine (write_old (d2.take j1) _ L2.out bb _ w w5 (hK.below hW5 hK.lt) (by have := hK.lt; omega) hB5 hS2 hW5 (by omega)).mono ?_; rintro e w6 ⟨rfl, hB6, hBu6⟩; (have hW6 := But.below hW5 hBu6 (Nat.le_of_lt (Nat.lt_of_le_of_lt hna hab)) hW5.size); (have hA6 : HAt w6 ba _ := Row.but hA5 hBu6 (by omega))))
        refine ⟨⟨x, y, hx2, hy2, rfl, rfl, by rw [← E1.out]; exact hA6, by rw [← E2.out]; exact hB6, hW6⟩, ?_⟩
        exact MM.out
      · obtain rfl : i1 = d1.length := by omega
        obtain rfl : j1 = d2.length := by omega
        rw [List.take_length] at hA hB
        obtain ⟨x1, hx1⟩ : ∃ x1, x1 = dig (d1) := ⟨_, rfl⟩
        have Hx1 : Hid (x1 = dig (d1)) := hx1
        have Lx1 : x1.length = 32 := by rw [hx1]; exact dig_length _
        have Ix1 : (Tryd.prog.info? 32).map (·.size) = some (vB x1).toArray.size := by rw [info_dig]; simp [vB_length, Lx1]
        have Jx1 : (Tryd.prog.info? 32).map (·.size) = some (vB x1).length := by rw [info_dig, vB_length, Lx1]
        have Ox1 := all_oneCell_toArray (vB_one x1)
        have Kx1 : Hid (x1.length = 32) := Lx1
        clear hx1 Lx1
        obtain ⟨x2, hx2⟩ : ∃ x2, x2 = dig (d2) := ⟨_, rfl⟩
        have Hx2 : Hid (x2 = dig (d2)) := hx2
        have Lx2 : x2.length = 32 := by rw [hx2]; exact dig_length _
        have Ix2 : (Tryd.prog.info? 32).map (·.size) = some (vB x2).toArray.size := by rw [info_dig]; simp [vB_length, Lx2]
        have Jx2 : (Tryd.prog.info? 32).map (·.size) = some (vB x2).length := by rw [info_dig, vB_length, Lx2]
        have Ox2 := all_oneCell_toArray (vB_one x2)
        have Kx2 : Hid (x2.length = 32) := Lx2
        clear hx2 Lx2
        obtain ⟨x0, hx0⟩ : ∃ x0, x0 = dig ([]) := ⟨_, rfl⟩
        have Hx0 : Hid (x0 = dig ([])) := hx0
        have Lx0 : x0.length = 32 := by rw [hx0]; exact dig_length _
        have Ix0 : (Tryd.prog.info? 32).map (·.size) = some (vB x0).toArray.size := by rw [info_dig]; simp [vB_length, Lx0]
        have Jx0 : (Tryd.prog.info? 32).map (·.size) = some (vB x0).length := by rw [info_dig, vB_length, Lx0]
        have Ox0 := all_oneCell_toArray (vB_one x0)
        have Kx0 : Hid (x0.length = 32) := Lx0
        clear hx0 Lx0
        obtain ⟨W0, hW00⟩ : ∃ W0, W0 = wr := ⟨_, rfl⟩
        rw [← hW00] at hA hB hW
        have hA0 := hA
        have hB0 := hB
        have hW0 := hW
        clear hA hB hW
        go_wp2_with fail
        rw [← hW00]
        clear hW00
        refine (hsum_d d1 x1 Hx1.out (by omega) ba W0 (hK.below hW0 hK.lt) hA0).mono ?_
        rintro e v0 ⟨rfl, hC0⟩
        obtain ⟨hS0, R15⟩ := digest_laid x1 Kx1.out hC0
        have hp15 : Hid (bb < v0.heap.size) := Nat.lt_of_lt_of_le (Row.lt hB0) hC0.size
        have T0 := digest_there v0 x1 Kx1.out
        have hA1 : HAt _ ba _ := Row.below hA0 hS0 (Row.lt hA0)
        have hB1 : HAt _ bb _ := Row.below hB0 hS0 (Row.lt hB0)
        have hW1 := hW0.trans (hS0.mono hW0.size)
        clear hC0 hS0 hA0 hB0 hW0
        go_wp2_with (refine wpList_store_mid rfl 32 (.tmp 15) (.tmp 76) rfl v0.heap.size 0 (vB x1).toArray rfl rfl T0 Ix1 Ox1 ?_; simp only [Act.put]; (change wpList _ _ _ _ _ (World.setCells (v0.alloc (Obj.cells (vB (List.replicate 32 0#8)).toArray 32)) v0.heap.size 0 (vB x1))); clear T0; (generalize World.setCells (v0.alloc (Obj.cells (vB (List.replicate 32 0#8)).toArray 32)) v0.heap.size 0 (vB x1) = W1 at *); (generalize v0.heap.size = p15 at *); clear v0)
        refine (hsum_d d2 x2 Hx2.out (by omega) bb W1 (hK.below hW1 hK.lt) hB1).mono ?_
        rintro e v1 ⟨rfl, hC1⟩
        obtain ⟨hS1, R16⟩ := digest_laid x2 Kx2.out hC1
        have hp16 : Hid (bb < v1.heap.size) := Nat.lt_of_lt_of_le (Row.lt hB1) hC1.size
        have T1 := digest_there v1 x2 Kx2.out
        have hA2 : HAt _ ba _ := Row.below hA1 hS1 (Row.lt hA1)
        have hB2 : HAt _ bb _ := Row.below hB1 hS1 (Row.lt hB1)
        have hW2 := hW1.trans (hS1.mono hW1.size)
        replace R15 := Row.below R15 hS1 (Row.lt R15)
        clear hC1 hS1 hA1 hB1 hW1
        go_wp2_with (refine wpList_store_mid rfl 32 (.tmp 16) (.tmp 78) rfl v1.heap.size 0 (vB x2).toArray rfl rfl T1 Ix2 Ox2 ?_; simp only [Act.put]; (change wpList _ _ _ _ _ (World.setCells (v1.alloc (Obj.cells (vB (List.replicate 32 0#8)).toArray 32)) v1.heap.size 0 (vB x2))); clear T1; (generalize World.setCells (v1.alloc (Obj.cells (vB (List.replicate 32 0#8)).toArray 32)) v1.heap.size 0 (vB x2) = W2 at *); (generalize v1.heap.size = p16 at *); clear v1)
        refine (reset_any d2 bb W2 hB2).mono ?_
        rintro e W3 ⟨rfl, hB3, hU⟩
        have hA3 : HAt W3 ba d1 := Row.but hA2 hU (by omega)
        have hW3 := But.below hW2 hU (Nat.le_of_lt (Nat.lt_of_le_of_lt hna hab)) hW2.size
        have R15' := Row.but R15 hU (by have := hp15.out; omega)
        have R16' := Row.but R16 hU (by have := hp16.out; omega)
        clear R15 R16
        have R15 := R15'
        have R16 := R16'
        clear R15' R16' hA2 hB2 hW2 hU
        go_wp2_with fail
        refine (hsum_d d1 x1 Hx1.out (by omega) ba W3 (hK.below hW3 hK.lt) hA3).mono ?_
        rintro e v3 ⟨rfl, hC3⟩
        obtain ⟨hS3, R17⟩ := digest_laid x1 Kx1.out hC3
        have T3 := digest_there v3 x1 Kx1.out
        have hA4 : HAt _ ba _ := Row.below hA3 hS3 (Row.lt hA3)
        have hB4 : HAt _ bb _ := Row.below hB3 hS3 (Row.lt hB3)
        have hW4 := hW3.trans (hS3.mono hW3.size)
        replace R15 := Row.below R15 hS3 (Row.lt R15)
        replace R16 := Row.below R16 hS3 (Row.lt R16)
        clear hC3 hS3 hA3 hB3 hW3
        go_wp2_with (refine wpList_store_mid rfl 32 (.tmp 17) (.tmp 82) rfl v3.heap.size 0 (vB x1).toArray rfl rfl T3 Ix1 Ox1 ?_; simp only [Act.put]; (change wpList _ _ _ _ _ (World.setCells (v3.alloc (Obj.cells (vB (List.replicate 32 0#8)).toArray 32)) v3.heap.size 0 (vB x1))); clear T3; (generalize World.setCells (v3.alloc (Obj.cells (vB (List.replicate 32 0#8)).toArray 32)) v3.heap.size 0 (vB x1) = W4 at *); (generalize v3.heap.size = p17 at *); clear v3)
        refine (hsum_d [] x0 Hx0.out (by decide) bb W4 (hK.below hW4 hK.lt) hB4).mono ?_
        rintro e v4 ⟨rfl, hC4⟩
        obtain ⟨hS4, R18⟩ := digest_laid x0 Kx0.out hC4
        have T4 := digest_there v4 x0 Kx0.out
        have hA5 : HAt _ ba _ := Row.below hA4 hS4 (Row.lt hA4)
        have hB5 : HAt _ bb _ := Row.below hB4 hS4 (Row.lt hB4)
        have hW5 := hW4.trans (hS4.mono hW4.size)
        replace R15 := Row.below R15 hS4 (Row.lt R15)
        replace R16 := Row.below R16 hS4 (Row.lt R16)
        replace R17 := Row.below R17 hS4 (Row.lt R17)
        clear hC4 hS4 hA4 hB4 hW4
        go_wp2_with (refine wpList_store_mid rfl 32 (.tmp 18) (.tmp 84) rfl v4.heap.size 0 (vB x0).toArray rfl rfl T4 Ix0 Ox0 ?_; simp only [Act.put]; (change wpList _ _ _ _ _ (World.setCells (v4.alloc (Obj.cells (vB (List.replicate 32 0#8)).toArray 32)) v4.heap.size 0 (vB x0))); clear T4; (generalize World.setCells (v4.alloc (Obj.cells (vB (List.replicate 32 0#8)).toArray 32)) v4.heap.size 0 (vB x0) = W5 at *); (generalize v4.heap.size = p18 at *); clear v4)
        refine (sum_any d1 x1 Hx1.out (by omega) _ W5 (hK.below hW5 hK.lt) (hv1.below hW5 (Nat.le_refl _))).mono ?_
        rintro e v5 ⟨rfl, hC5⟩
        obtain ⟨hS5, R19⟩ := digest_laid x1 Kx1.out hC5
        have T5 := digest_there v5 x1 Kx1.out
        have hA6 : HAt _ ba _ := Row.below hA5 hS5 (Row.lt hA5)
        have hB6 : HAt _ bb _ := Row.below hB5 hS5 (Row.lt hB5)
        have hW6 := hW5.trans (hS5.mono hW5.size)
        replace R15 := Row.below R15 hS5 (Row.lt R15)
        replace R16 := Row.below R16 hS5 (Row.lt R16)
        replace R17 := Row.below R17 hS5 (Row.lt R17)
        replace R18 := Row.below R18 hS5 (Row.lt R18)
        clear hC5 hS5 hA5 hB5 hW5
        go_wp2_with (refine wpList_store_mid rfl 32 (.tmp 19) (.tmp 86) rfl v5.heap.size 0 (vB x1).toArray rfl rfl T5 Ix1 Ox1 ?_; simp only [Act.put]; (change wpList _ _ _ _ _ (World.setCells (v5.alloc (Obj.cells (vB (List.replicate 32 0#8)).toArray 32)) v5.heap.size 0 (vB x1))); clear T5; (generalize World.setCells (v5.alloc (Obj.cells (vB (List.replicate 32 0#8)).toArray 32)) v5.heap.size 0 (vB x1) = W6 at *); (generalize v5.heap.size = p19 at *); clear v5)
        refine (sum_any d2 x2 Hx2.out (by omega) _ W6 (hK.below hW6 hK.lt) (hv2.below hW6 (Nat.le_refl _))).mono ?_
        rintro e v6 ⟨rfl, hC6⟩
        obtain ⟨hS6, R20⟩ := digest_laid x2 Kx2.out hC6
        have T6 := digest_there v6 x2 Kx2.out
        have hA7 : HAt _ ba _ := Row.below hA6 hS6 (Row.lt hA6)
        have hB7 : HAt _ bb _ := Row.below hB6 hS6 (Row.lt hB6)
        have hW7 := hW6.trans (hS6.mono hW6.size)
        replace R15 := Row.below R15 hS6 (Row.lt R15)
        replace R16 := Row.below R16 hS6 (Row.lt R16)
        replace R17 := Row.below R17 hS6 (Row.lt R17)
        replace R18 := Row.below R18 hS6 (Row.lt R18)
        replace R19 := Row.below R19 hS6 (Row.lt R19)
        clear hC6 hS6 hA6 hB6 hW6
        go_wp2_with (refine wpList_store_mid rfl 32 (.tmp 20) (.tmp 88) rfl v6.heap.size 0 (vB x2).toArray rfl rfl T6 Ix2 Ox2 ?_; simp only [Act.put]; (change wpList _ _ _ _ _ (World.setCells (v6.alloc (Obj.cells (vB (List.replicate 32 0#8)).toArray 32)) v6.heap.size 0 (vB x2))); clear T6; (generalize World.setCells (v6.alloc (Obj.cells (vB (List.replicate 32 0#8)).toArray 32)) v6.heap.size 0 (vB x2) = W7 at *); (generalize v6.heap.size = p20 at *); clear v6)
        refine (sum_any [] x0 Hx0.out (by decide) _ W7 (hK.below hW7 hK.lt) (.inl ⟨rfl, _, _, rfl⟩)).mono ?_
        rintro e v7 ⟨rfl, hC7⟩
        obtain ⟨hS7, R21⟩ := digest_laid x0 Kx0.out hC7
        have T7 := digest_there v7 x0 Kx0.out
        have hA8 : HAt _ ba _ := Row.below hA7 hS7 (Row.lt hA7)
        have hB8 : HAt _ bb _ := Row.below hB7 hS7 (Row.lt hB7)
        have hW8 := hW7.trans (hS7.mono hW7.size)
        replace R15 := Row.below R15 hS7 (Row.lt R15)
        replace R16 := Row.below R16 hS7 (Row.lt R16)
        replace R17 := Row.below R17 hS7 (Row.lt R17)
        replace R18 := Row.below R18 hS7 (Row.lt R18)
        replace R19 := Row.below R19 hS7 (Row.lt R19)
        replace R20 := Row.below R20 hS7 (Row.lt R20)
        clear hC7 hS7 hA7 hB7 hW7
        go_wp2_with (first
          | (refine wpList_store_mid rfl 32 (.tmp 21) (.tmp 89) rfl v7.heap.size 0 (vB x0).toArray rfl rfl T7 Ix0 Ox0 ?_; simp only [Act.put]; (change wpList _ _ _ _ _ (World.setCells (v7.alloc (Obj.cells (vB (List.replicate 32 0#8)).toArray 32)) v7.heap.size 0 (vB x0))); clear T7; (generalize World.setCells (v7.alloc (Obj.cells (vB (List.replicate 32 0#8)).toArray 32)) v7.heap.size 0 (vB x0) = W8 at *); (generalize v7.heap.size = p21 at *); clear v7)
          | (refine wpList_load_w rfl 32 (.tmp 15) rfl p15 0 rfl (vB x1) _ R15.all Tryd.underlying32 rfl Jx1 ?_; simp only [Act.put, List.setIfInBounds_toArray, List.set_cons_zero, List.set_cons_succ])
          | (refine wpList_load_w rfl 32 (.tmp 19) rfl p19 0 rfl (vB x1) _ R19.all Tryd.underlying32 rfl Jx1 ?_; simp only [Act.put, List.setIfInBounds_toArray, List.set_cons_zero, List.set_cons_succ])
          | (refine wpList_load_w rfl 32 (.tmp 16) rfl p16 0 rfl (vB x2) _ R16.all Tryd.underlying32 rfl Jx2 ?_; simp only [Act.put, List.setIfInBounds_toArray, List.set_cons_zero, List.set_cons_succ])
          | (refine wpList_load_w rfl 32 (.tmp 20) rfl p20 0 rfl (vB x2) _ R20.all Tryd.underlying32 rfl Jx2 ?_; simp only [Act.put, List.setIfInBounds_toArray, List.set_cons_zero, List.set_cons_succ])
          | (refine wpList_load_w rfl 32 (.tmp 17) rfl p17 0 rfl (vB x1) _ R17.all Tryd.underlying32 rfl Jx1 ?_; simp only [Act.put, List.setIfInBounds_toArray, List.set_cons_zero, List.set_cons_succ])
          | (refine wpList_load_w rfl 32 (.tmp 18) rfl p18 0 rfl (vB x0) _ R18.all Tryd.underlying32 rfl Jx0 ?_; simp only [Act.put, List.setIfInBounds_toArray, List.set_cons_zero, List.set_cons_succ])
          | (refine wpList_load_w rfl 32 (.tmp 21) rfl p21 0 rfl (vB x0) _ R21.all Tryd.underlying32 rfl Jx0 ?_; simp only [Act.put, List.setIfInBounds_toArray, List.set_cons_zero, List.set_cons_succ])
          | (refine wpList_eql_same rfl 32 (.tmp 90) (.tmp 91) 32 rfl 5 32 x1 rfl rfl Tryd.underlying32 Tryd.underlying5 info_u8 Kx1.out guard_dig ?_; simp only [Act.put, List.setIfInBounds_toArray, List.set_cons_zero, List.set_cons_succ])
          | (refine wpList_eql_same rfl 32 (.tmp 94) (.tmp 95) 32 rfl 5 32 x2 rfl rfl Tryd.underlying32 Tryd.underlying5 info_u8 Kx2.out guard_dig ?_; simp only [Act.put, List.setIfInBounds_toArray, List.set_cons_zero, List.set_cons_succ])
          | (refine wpList_eql_same rfl 32 (.tmp 99) (.tmp 100) 32 rfl 5 32 x1 rfl rfl Tryd.underlying32 Tryd.underlying5 info_u8 Kx1.out guard_dig ?_; simp only [Act.put, List.setIfInBounds_toArray, List.set_cons_zero, List.set_cons_succ])
          | (refine wpList_eql_same rfl 32 (.tmp 104) (.tmp 105) 32 rfl 5 32 x0 rfl rfl Tryd.underlying32 Tryd.underlying5 info_u8 Kx0.out guard_dig ?_; simp only [Act.put, List.setIfInBounds_toArray, List.set_cons_zero, List.set_cons_succ]))
        go_ret
        exact ⟨rfl, hW8⟩

end Go.Proofs.YtihigbkanbabeabDoor
