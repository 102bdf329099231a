/-
  greater, less.
-/
import Derived.Test.YtojmhmnpidhfjaaDoorLgI
namespace Go.Proofs.YtojmhmnpidhfjaaDoor
open Go Go.RowKit Go.Maps
open Sha
open Wd

theorem info_line : (Tryd.prog.info? 68).map (·.size) = some 5 := by kernel_rfl

set_option maxRecDepth 100000 in
set_option maxHeartbeats 1000000 in
theorem greater_ok (w0 : World) (S q : Nat) (f : ByteArray → List (BitVec 8)) (s : ByteArray) (a b : Nat) (hab : a + b < 1000000)
    (hA : ∀ W, Lg w0 W S q f → Calls Tryd.prog 35 #[.agg #[.pointer (some ⟨S, 0, none⟩), .int .u8 5], .string s] W fun e w' => e = .returned (.tuple #[.agg (sm (a : Int)), .int .i64 0]) ∧ Lg w0 w' S (q + 1) f ∧ Kp W w') (w : World) (h : Lg w0 w S q f) :
    Calls Tryd.prog 29 #[.agg #[.pointer (some ⟨S, 0, none⟩), .int .u8 5], .string s, .agg #[.int .u64 (b : Int), .int .u64 0, .int .u64 0, .int .u64 0]] w fun e w' => e = .returned (.tuple #[.agg #[.string s, .int .u64 (((a + b : Nat)) : Int), .int .u64 0, .int .u64 0, .int .u64 0], .int .i64 0]) ∧ Lg w0 w' S (q + 1) f ∧ Kp w w' := by
  obtain ⟨LZ, hLZ⟩ : ∃ L : List Value, L = [.string ⟨#[]⟩, .int .u64 0, .int .u64 0, .int .u64 0, .int .u64 0] := ⟨_, rfl⟩
  obtain ⟨LR, hLR⟩ : ∃ L : List Value, L = [.string s, .int .u64 (((a + b : Nat)) : Int), .int .u64 0, .int .u64 0, .int .u64 0] := ⟨_, rfl⟩
  obtain ⟨W1, hW1, rp, rb, rz, b1⟩ : ∃ W, W = ((w.alloc (Obj.cells #[.pointer (some ⟨S, 0, none⟩), .int .u8 5] 61)).alloc (Obj.cells #[.int .u64 (b : Int), .int .u64 0, .int .u64 0, .int .u64 0] 26)).alloc (Obj.cells #[.string ⟨#[]⟩, .int .u64 0, .int .u64 0, .int .u64 0, .int .u64 0] 68) ∧ Row W w.heap.size [.pointer (some ⟨S, 0, none⟩), .int .u8 5] 61 ∧ Row W (w.heap.size + 1) [.int .u64 (b : Int), .int .u64 0, .int .u64 0, .int .u64 0] 26 ∧ Row W (w.heap.size + 2) LZ 68 ∧ Below w.heap.size w W := ⟨_, rfl, ((Row.new' rfl rfl).alloc _).alloc _, (Row.new' (by simp) rfl).alloc _, Row.new' (by simp) (by rw [hLZ]), (((Below.refl _ _).alloc (Nat.le_refl _) _).alloc (by simp) _).alloc (by simp; omega) _⟩
  have HW : Hid (W1 = _) := hW1
  have RB : Hid (Row W1 (w.heap.size + 1) [.int .u64 (b : Int), .int .u64 0, .int .u64 0, .int .u64 0] 26) := rb
  have RZ : Hid (Row W1 (w.heap.size + 2) LZ 68) := rz
  have HG : Hid (Lg w0 W1 S q f) := h.be b1
  have HK : Hid (Kp w W1) := Kp.of_below b1
  have HW0 : Hid (w0.heap.size ≤ w.heap.size) := h.bel.size
  have HA : Hid _ := hA W1 (h.be b1)
  have HZN : Hid (LZ.length = 5) := by rw [hLZ]; rfl
  have HLE : Hid (LR = [.string s, .int .u64 (((a + b : Nat)) : Int), .int .u64 0, .int .u64 0, .int .u64 0]) := hLR
  have HLN : Hid (LR.length = 5) := by rw [hLR]; rfl
  have HLO : Hid (LR.toArray.all (·.oneCell') = true) := by show _ = true; rw [hLR, ← Array.all_toList]; rfl
  have HLI : Hid ((Tryd.prog.info? 68).map (·.size) = some LR.length) := by rw [HLN.out]; exact info_line
  have HLJ : Hid ((Tryd.prog.info? 68).map (·.size) = some LR.toArray.size) := by show _ = _; rw [List.size_toArray, HLN.out]; exact info_line
  have x0 := rp.cell 0 _ rfl
  have x1 := rp.cell 1 _ rfl
  clear hW1 rp rb rz b1 h hA hLZ hLR
  go_enter Tryd.func29, Tryd.ntmps29
  go_upto_region 1 with fail
  rw [← HW.out]
  clear HW
  go_wp2_with fail
  refine Calls.mono HA.out ?_
  rintro e V ⟨rfl, hG, hK⟩
  obtain ⟨p8, hp8⟩ : ∃ p, p = V.heap.size := ⟨_, rfl⟩
  obtain ⟨X, hX, r8, bX⟩ : ∃ X, X = V.alloc (Obj.cells #[.int .u64 (a : Int), .int .u64 0, .int .u64 0, .int .u64 0] 26) ∧ Row X p8 [.int .u64 (a : Int), .int .u64 0, .int .u64 0, .int .u64 0] 26 ∧ Below V.heap.size V X := ⟨_, rfl, Row.new' hp8 rfl, (Below.refl _ _).alloc (Nat.le_refl _) _⟩
  have hKX := hK.trans (Kp.of_below bX)
  have HX : Hid (X = _) := hX
  have HP8 : Hid (p8 = V.heap.size) := hp8
  have rb := hKX.row _ _ _ (by decide) RB.out
  replace RZ : Hid (Row X (w.heap.size + 2) LZ 68) := hKX.row _ _ _ (by decide) RZ.out
  replace HG : Hid (Lg w0 X S (q + 1) f) := hG.be bX
  replace HK : Hid (Kp w X) := HK.out.trans hKX
  have y0 := r8.cell 0 _ rfl
  have y1 := r8.cell 1 _ rfl
  have y2 := r8.cell 2 _ rfl
  have y3 := r8.cell 3 _ rfl
  have z0 := rb.cell 0 _ rfl
  have z1 := rb.cell 1 _ rfl
  have z2 := rb.cell 2 _ rfl
  have z3 := rb.cell 3 _ rfl
  clear hG hK hX r8 bX hKX hp8 HA x0 x1 rb RB
  go_upto_region 4 with fail
  rw [← HX.out, ← HP8.out]
  clear HX HP8
  have HO : Hid _ := addS a b hab X
  go_wp2_with fail
  refine Calls.mono HO.out ?_
  rintro e V3 ⟨rfl, hB⟩
  replace RZ : Hid (Row V3 (w.heap.size + 2) LZ 68) := Row.below RZ.out hB RZ.out.lt
  replace HG : Hid (Lg w0 V3 S (q + 1) f) := HG.out.be hB
  replace HK : Hid (Kp w V3) := HK.out.trans (Kp.of_below hB)
  clear hB HO y0 y1 y2 y3 z0 z1 z2 z3
  obtain ⟨Y, hY, bY⟩ : ∃ Y, Y = V3.alloc (Obj.cells #[.int .u64 (((a + b : Nat)) : Int), .int .u64 0, .int .u64 0, .int .u64 0] 26) ∧ Below V3.heap.size V3 Y := ⟨_, rfl, (Below.refl _ _).alloc (Nat.le_refl _) _⟩
  have rz := Row.below RZ.out bY RZ.out.lt
  have hg := HG.out.be bY
  have hk := HK.out.trans (Kp.of_below bY)
  have HTH : Hid (Y.there (w.heap.size + 2) 0 LR.toArray.size) := Row.there rz 0 _ (by rw [List.size_toArray, HLN.out, HZN.out]; decide)
  have HF : Hid (Row (Y.setCells (w.heap.size + 2) 0 LR) (w.heap.size + 2) LR 68) := Row.over rz (by rw [HLN.out, HZN.out])
  have FG : Hid (Lg w0 (Y.setCells (w.heap.size + 2) 0 LR) S (q + 1) f) := hg.kept rz (by decide) (by decide) (by decide) (by decide) (fun k hk => heap_sets _ _ _ _ _ hk) (below_setCells hg.bel (by have := HW0.out; omega) _)
  have FK : Hid (Kp w (Y.setCells (w.heap.size + 2) 0 LR)) := Kp.kept (w.heap.size + 2) (by omega) hk (fun k hk => heap_sets _ _ _ _ _ hk) (below_setCells (Below.refl 0 Y) (Nat.zero_le _) _).size
  rw [hY] at HTH
  have HY : Hid (Y = _) := hY
  clear hY bY rz hg hk RZ
  go_wp2_with (refine wpList_store_mid rfl 68 (.tmp 6) (.tmp 32) rfl (w.heap.size + 2) 0 LR.toArray rfl (by rw [HLE.out]; rfl) HTH.out HLJ.out HLO.out ?_; simp only [Act.put]; change wpList _ _ _ _ _ (World.setCells (World.alloc V3 (Obj.cells #[.int .u64 (((a + b : Nat)) : Int), .int .u64 0, .int .u64 0, .int .u64 0] 26)) (w.heap.size + 2) 0 LR); rw [← HY.out])
  exact bodyPost_ret (results_rowS_tmp Tryd.results29 _ _ (w.heap.size + 2) 68 LR (.int .i64 0) rfl rfl HF.out Tryd.underlying68 HLI.out) rfl ⟨by rw [HLE.out], FG.out, FK.out⟩

set_option maxRecDepth 100000 in
set_option maxHeartbeats 1000000 in
theorem less_ok (w0 : World) (S q : Nat) (f : ByteArray → List (BitVec 8)) (s : ByteArray) (a b : Nat) (ha : a < 1000000) (hb : b ≤ a)
    (hA : ∀ W, Lg w0 W S q f → Calls Tryd.prog 35 #[.agg #[.pointer (some ⟨S, 0, none⟩), .int .u8 5], .string s] W fun e w' => e = .returned (.tuple #[.agg (sm (a : Int)), .int .i64 0]) ∧ Lg w0 w' S (q + 1) f ∧ Kp W w') (er : Int) (w : World) (h : Lg w0 w S q f) :
    Calls Tryd.prog 37 #[.agg #[.pointer (some ⟨S, 0, none⟩), .int .u8 5], .string s, .agg #[.int .u64 (b : Int), .int .u64 0, .int .u64 0, .int .u64 0], .int .i64 er] w fun e w' => e = .returned (.tuple #[.agg #[.string s, .int .u64 (((a - b : Nat)) : Int), .int .u64 0, .int .u64 0, .int .u64 0], .int .i64 0]) ∧ Lg w0 w' S (q + 1) f ∧ Kp w w' := by
  obtain ⟨LZ, hLZ⟩ : ∃ L : List Value, L = [.string ⟨#[]⟩, .int .u64 0, .int .u64 0, .int .u64 0, .int .u64 0] := ⟨_, rfl⟩
  obtain ⟨LR, hLR⟩ : ∃ L : List Value, L = [.string s, .int .u64 (((a - b : Nat)) : Int), .int .u64 0, .int .u64 0, .int .u64 0] := ⟨_, rfl⟩
  obtain ⟨W1, hW1, rp, rb, rz, b1⟩ : ∃ W, W = ((w.alloc (Obj.cells #[.pointer (some ⟨S, 0, none⟩), .int .u8 5] 61)).alloc (Obj.cells #[.int .u64 (b : Int), .int .u64 0, .int .u64 0, .int .u64 0] 26)).alloc (Obj.cells #[.string ⟨#[]⟩, .int .u64 0, .int .u64 0, .int .u64 0, .int .u64 0] 68) ∧ Row W w.heap.size [.pointer (some ⟨S, 0, none⟩), .int .u8 5] 61 ∧ Row W (w.heap.size + 1) [.int .u64 (b : Int), .int .u64 0, .int .u64 0, .int .u64 0] 26 ∧ Row W (w.heap.size + 2) LZ 68 ∧ Below w.heap.size w W := ⟨_, rfl, ((Row.new' rfl rfl).alloc _).alloc _, (Row.new' (by simp) rfl).alloc _, Row.new' (by simp) (by rw [hLZ]), (((Below.refl _ _).alloc (Nat.le_refl _) _).alloc (by simp) _).alloc (by simp; omega) _⟩
  have HW : Hid (W1 = _) := hW1
  have RB : Hid (Row W1 (w.heap.size + 1) [.int .u64 (b : Int), .int .u64 0, .int .u64 0, .int .u64 0] 26) := rb
  have RZ : Hid (Row W1 (w.heap.size + 2) LZ 68) := rz
  have HG : Hid (Lg w0 W1 S q f) := h.be b1
  have HK : Hid (Kp w W1) := Kp.of_below b1
  have HW0 : Hid (w0.heap.size ≤ w.heap.size) := h.bel.size
  have HA : Hid _ := hA W1 (h.be b1)
  have HZN : Hid (LZ.length = 5) := by rw [hLZ]; rfl
  have HLE : Hid (LR = [.string s, .int .u64 (((a - b : Nat)) : Int), .int .u64 0, .int .u64 0, .int .u64 0]) := hLR
  have HLN : Hid (LR.length = 5) := by rw [hLR]; rfl
  have HLO : Hid (LR.toArray.all (·.oneCell') = true) := by show _ = true; rw [hLR, ← Array.all_toList]; rfl
  have HLI : Hid ((Tryd.prog.info? 68).map (·.size) = some LR.length) := by rw [HLN.out]; exact info_line
  have HLJ : Hid ((Tryd.prog.info? 68).map (·.size) = some LR.toArray.size) := by show _ = _; rw [List.size_toArray, HLN.out]; exact info_line
  have x0 := rp.cell 0 _ rfl
  have x1 := rp.cell 1 _ rfl
  clear hW1 rp rb rz b1 h hA hLZ hLR
  go_enter Tryd.func37, Tryd.ntmps37
  go_upto_region 1 with fail
  rw [← HW.out]
  clear HW
  go_wp2_with fail
  refine Calls.mono HA.out ?_
  rintro e V ⟨rfl, hG, hK⟩
  obtain ⟨p8, hp8⟩ : ∃ p, p = V.heap.size := ⟨_, rfl⟩
  obtain ⟨X, hX, r8, bX⟩ : ∃ X, X = V.alloc (Obj.cells #[.int .u64 (a : Int), .int .u64 0, .int .u64 0, .int .u64 0] 26) ∧ Row X p8 [.int .u64 (a : Int), .int .u64 0, .int .u64 0, .int .u64 0] 26 ∧ Below V.heap.size V X := ⟨_, rfl, Row.new' hp8 rfl, (Below.refl _ _).alloc (Nat.le_refl _) _⟩
  have hKX := hK.trans (Kp.of_below bX)
  have HX : Hid (X = _) := hX
  have HP8 : Hid (p8 = V.heap.size) := hp8
  have rb := hKX.row _ _ _ (by decide) RB.out
  replace RZ : Hid (Row X (w.heap.size + 2) LZ 68) := hKX.row _ _ _ (by decide) RZ.out
  replace HG : Hid (Lg w0 X S (q + 1) f) := hG.be bX
  replace HK : Hid (Kp w X) := HK.out.trans hKX
  have y0 := r8.cell 0 _ rfl
  have y1 := r8.cell 1 _ rfl
  have y2 := r8.cell 2 _ rfl
  have y3 := r8.cell 3 _ rfl
  have z0 := rb.cell 0 _ rfl
  have z1 := rb.cell 1 _ rfl
  have z2 := rb.cell 2 _ rfl
  have z3 := rb.cell 3 _ rfl
  clear hG hK hX r8 bX hKX hp8 HA x0 x1 rb RB
  go_upto_region 4 with fail
  rw [← HX.out, ← HP8.out]
  clear HX HP8
  have HO : Hid _ := subS a b ha hb X
  go_wp2_with fail
  refine Calls.mono HO.out ?_
  rintro e V3 ⟨rfl, hB⟩
  replace RZ : Hid (Row V3 (w.heap.size + 2) LZ 68) := Row.below RZ.out hB RZ.out.lt
  replace HG : Hid (Lg w0 V3 S (q + 1) f) := HG.out.be hB
  replace HK : Hid (Kp w V3) := HK.out.trans (Kp.of_below hB)
  clear hB HO y0 y1 y2 y3 z0 z1 z2 z3
  obtain ⟨Y, hY, bY⟩ : ∃ Y, Y = V3.alloc (Obj.cells #[.int .u64 (((a - b : Nat)) : Int), .int .u64 0, .int .u64 0, .int .u64 0] 26) ∧ Below V3.heap.size V3 Y := ⟨_, rfl, (Below.refl _ _).alloc (Nat.le_refl _) _⟩
  have rz := Row.below RZ.out bY RZ.out.lt
  have hg := HG.out.be bY
  have hk := HK.out.trans (Kp.of_below bY)
  have HTH : Hid (Y.there (w.heap.size + 2) 0 LR.toArray.size) := Row.there rz 0 _ (by rw [List.size_toArray, HLN.out, HZN.out]; decide)
  have HF : Hid (Row (Y.setCells (w.heap.size + 2) 0 LR) (w.heap.size + 2) LR 68) := Row.over rz (by rw [HLN.out, HZN.out])
  have FG : Hid (Lg w0 (Y.setCells (w.heap.size + 2) 0 LR) S (q + 1) f) := hg.kept rz (by decide) (by decide) (by decide) (by decide) (fun k hk => heap_sets _ _ _ _ _ hk) (below_setCells hg.bel (by have := HW0.out; omega) _)
  have FK : Hid (Kp w (Y.setCells (w.heap.size + 2) 0 LR)) := Kp.kept (w.heap.size + 2) (by omega) hk (fun k hk => heap_sets _ _ _ _ _ hk) (below_setCells (Below.refl 0 Y) (Nat.zero_le _) _).size
  rw [hY] at HTH
  have HY : Hid (Y = _) := hY
  clear hY bY rz hg hk RZ
  go_wp2_with (refine wpList_store_mid rfl 68 (.tmp 8) (.tmp 35) rfl (w.heap.size + 2) 0 LR.toArray rfl (by rw [HLE.out]; rfl) HTH.out HLJ.out HLO.out ?_; simp only [Act.put]; change wpList _ _ _ _ _ (World.setCells (World.alloc V3 (Obj.cells #[.int .u64 (((a - b : Nat)) : Int), .int .u64 0, .int .u64 0, .int .u64 0] 26)) (w.heap.size + 2) 0 LR); rw [← HY.out])
  exact bodyPost_ret (results_rowS_tmp Tryd.results37 _ _ (w.heap.size + 2) 68 LR (.int .i64 0) rfl rfl HF.out Tryd.underlying68 HLI.out) rfl ⟨by rw [HLE.out], FG.out, FK.out⟩

set_option maxRecDepth 100000 in
set_option maxHeartbeats 1000000 in
theorem less_no (w0 : World) (S q : Nat) (f : ByteArray → List (BitVec 8)) (s : ByteArray) (a b : Nat) (ha : a < b) (hb : b < 1000000)
    (hA : ∀ W, Lg w0 W S q f → Calls Tryd.prog 35 #[.agg #[.pointer (some ⟨S, 0, none⟩), .int .u8 5], .string s] W fun e w' => e = .returned (.tuple #[.agg (sm (a : Int)), .int .i64 0]) ∧ Lg w0 w' S (q + 1) f ∧ Kp W w') (er : Int) (w : World) (h : Lg w0 w S q f) :
    Calls Tryd.prog 37 #[.agg #[.pointer (some ⟨S, 0, none⟩), .int .u8 5], .string s, .agg #[.int .u64 (b : Int), .int .u64 0, .int .u64 0, .int .u64 0], .int .i64 er] w fun e w' => e = .returned (.tuple #[.agg #[.string ⟨#[]⟩, .int .u64 0, .int .u64 0, .int .u64 0, .int .u64 0], .int .i64 er]) ∧ Lg w0 w' S (q + 1) f ∧ Kp w w' := by
  obtain ⟨LZ, hLZ⟩ : ∃ L : List Value, L = [.string ⟨#[]⟩, .int .u64 0, .int .u64 0, .int .u64 0, .int .u64 0] := ⟨_, rfl⟩
  obtain ⟨LR, hLR⟩ : ∃ L : List Value, L = [.string ⟨#[]⟩, .int .u64 0, .int .u64 0, .int .u64 0, .int .u64 0] := ⟨_, rfl⟩
  obtain ⟨W1, hW1, rp, rb, rz, b1⟩ : ∃ W, W = ((w.alloc (Obj.cells #[.pointer (some ⟨S, 0, none⟩), .int .u8 5] 61)).alloc (Obj.cells #[.int .u64 (b : Int), .int .u64 0, .int .u64 0, .int .u64 0] 26)).alloc (Obj.cells #[.string ⟨#[]⟩, .int .u64 0, .int .u64 0, .int .u64 0, .int .u64 0] 68) ∧ Row W w.heap.size [.pointer (some ⟨S, 0, none⟩), .int .u8 5] 61 ∧ Row W (w.heap.size + 1) [.int .u64 (b : Int), .int .u64 0, .int .u64 0, .int .u64 0] 26 ∧ Row W (w.heap.size + 2) LZ 68 ∧ Below w.heap.size w W := ⟨_, rfl, ((Row.new' rfl rfl).alloc _).alloc _, (Row.new' (by simp) rfl).alloc _, Row.new' (by simp) (by rw [hLZ]), (((Below.refl _ _).alloc (Nat.le_refl _) _).alloc (by simp) _).alloc (by simp; omega) _⟩
  have HW : Hid (W1 = _) := hW1
  have RB : Hid (Row W1 (w.heap.size + 1) [.int .u64 (b : Int), .int .u64 0, .int .u64 0, .int .u64 0] 26) := rb
  have RZ : Hid (Row W1 (w.heap.size + 2) LZ 68) := rz
  have HG : Hid (Lg w0 W1 S q f) := h.be b1
  have HK : Hid (Kp w W1) := Kp.of_below b1
  have HW0 : Hid (w0.heap.size ≤ w.heap.size) := h.bel.size
  have HA : Hid _ := hA W1 (h.be b1)
  have HZN : Hid (LZ.length = 5) := by rw [hLZ]; rfl
  have HLE : Hid (LR = [.string ⟨#[]⟩, .int .u64 0, .int .u64 0, .int .u64 0, .int .u64 0]) := hLR
  have HLN : Hid (LR.length = 5) := by rw [hLR]; rfl
  have HLO : Hid (LR.toArray.all (·.oneCell') = true) := by show _ = true; rw [hLR, ← Array.all_toList]; rfl
  have HLI : Hid ((Tryd.prog.info? 68).map (·.size) = some LR.length) := by rw [HLN.out]; exact info_line
  have HLJ : Hid ((Tryd.prog.info? 68).map (·.size) = some LR.toArray.size) := by show _ = _; rw [List.size_toArray, HLN.out]; exact info_line
  have x0 := rp.cell 0 _ rfl
  have x1 := rp.cell 1 _ rfl
  clear hW1 rp rb rz b1 h hA hLZ hLR
  go_enter Tryd.func37, Tryd.ntmps37
  go_upto_region 1 with fail
  rw [← HW.out]
  clear HW
  go_wp2_with fail
  refine Calls.mono HA.out ?_
  rintro e V ⟨rfl, hG, hK⟩
  obtain ⟨p8, hp8⟩ : ∃ p, p = V.heap.size := ⟨_, rfl⟩
  obtain ⟨X, hX, r8, bX⟩ : ∃ X, X = V.alloc (Obj.cells #[.int .u64 (a : Int), .int .u64 0, .int .u64 0, .int .u64 0] 26) ∧ Row X p8 [.int .u64 (a : Int), .int .u64 0, .int .u64 0, .int .u64 0] 26 ∧ Below V.heap.size V X := ⟨_, rfl, Row.new' hp8 rfl, (Below.refl _ _).alloc (Nat.le_refl _) _⟩
  have hKX := hK.trans (Kp.of_below bX)
  have HX : Hid (X = _) := hX
  have HP8 : Hid (p8 = V.heap.size) := hp8
  have rb := hKX.row _ _ _ (by decide) RB.out
  replace RZ : Hid (Row X (w.heap.size + 2) LZ 68) := hKX.row _ _ _ (by decide) RZ.out
  replace HG : Hid (Lg w0 X S (q + 1) f) := hG.be bX
  replace HK : Hid (Kp w X) := HK.out.trans hKX
  have y0 := r8.cell 0 _ rfl
  have y1 := r8.cell 1 _ rfl
  have y2 := r8.cell 2 _ rfl
  have y3 := r8.cell 3 _ rfl
  have z0 := rb.cell 0 _ rfl
  have z1 := rb.cell 1 _ rfl
  have z2 := rb.cell 2 _ rfl
  have z3 := rb.cell 3 _ rfl
  clear hG hK hX r8 bX hKX hp8 HA x0 x1 rb RB
  go_upto_region 4 with fail
  rw [← HX.out, ← HP8.out]
  clear HX HP8
  have HO : Hid _ := subN a b ha hb X
  go_wp2_with fail
  refine Calls.mono HO.out ?_
  rintro e V3 ⟨rfl, hB⟩
  replace RZ : Hid (Row V3 (w.heap.size + 2) LZ 68) := Row.below RZ.out hB RZ.out.lt
  replace HG : Hid (Lg w0 V3 S (q + 1) f) := HG.out.be hB
  replace HK : Hid (Kp w V3) := HK.out.trans (Kp.of_below hB)
  clear hB HO y0 y1 y2 y3 z0 z1 z2 z3
  obtain ⟨Y, hY, bY⟩ : ∃ Y, Y = V3.alloc (Obj.cells #[.int .u64 0, .int .u64 0, .int .u64 0, .int .u64 0] 26) ∧ Below V3.heap.size V3 Y := ⟨_, rfl, (Below.refl _ _).alloc (Nat.le_refl _) _⟩
  have rz := Row.below RZ.out bY RZ.out.lt
  have hg := HG.out.be bY
  have hk := HK.out.trans (Kp.of_below bY)
  have HTH : Hid (Y.there (w.heap.size + 2) 0 LR.toArray.size) := Row.there rz 0 _ (by rw [List.size_toArray, HLN.out, HZN.out]; decide)
  have HF : Hid (Row (Y.setCells (w.heap.size + 2) 0 LR) (w.heap.size + 2) LR 68) := Row.over rz (by rw [HLN.out, HZN.out])
  have FG : Hid (Lg w0 (Y.setCells (w.heap.size + 2) 0 LR) S (q + 1) f) := hg.kept rz (by decide) (by decide) (by decide) (by decide) (fun k hk => heap_sets _ _ _ _ _ hk) (below_setCells hg.bel (by have := HW0.out; omega) _)
  have FK : Hid (Kp w (Y.setCells (w.heap.size + 2) 0 LR)) := Kp.kept (w.heap.size + 2) (by omega) hk (fun k hk => heap_sets _ _ _ _ _ hk) (below_setCells (Below.refl 0 Y) (Nat.zero_le _) _).size
  rw [hY] at HTH
  have HY : Hid (Y = _) := hY
  clear hY bY rz hg hk RZ
  go_wp2_with (refine wpList_store_mid rfl 68 (.tmp 8) (.tmp 31) rfl (w.heap.size + 2) 0 LR.toArray rfl (by rw [HLE.out]; rfl) HTH.out HLJ.out HLO.out ?_; simp only [Act.put]; change wpList _ _ _ _ _ (World.setCells (World.alloc V3 (Obj.cells #[.int .u64 0, .int .u64 0, .int .u64 0, .int .u64 0] 26)) (w.heap.size + 2) 0 LR); rw [← HY.out])
  exact bodyPost_ret (results_rowS_tmp Tryd.results37 _ _ (w.heap.size + 2) 68 LR (.int .i64 er) rfl rfl HF.out Tryd.underlying68 HLI.out) rfl ⟨by rw [HLE.out], FG.out, FK.out⟩

end Go.Proofs.YtojmhmnpidhfjaaDoor
