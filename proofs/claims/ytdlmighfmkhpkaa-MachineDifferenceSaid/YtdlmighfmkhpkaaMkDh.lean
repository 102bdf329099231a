/-
  the law MachineDifference.
-/
import Derived.Test.YtdlmighfmkhpkaaMkDg
namespace Go.Proofs.Ytdlmighfmkhpkaa
open Go Go.RowKit
open Sha
open Wd
theorem info_zW : (Try.prog.info? 29).map (·.size) = some zW.length := by kernel_rfl
theorem zW_one1 : zW.toArray.all (·.oneCell') = true := by rw [← Array.all_toList]; rfl
set_option maxRecDepth 100000 in
set_option maxHeartbeats 4000000 in
theorem diff_11 (x y : Nat) (hx : x < 2 ^ 256) (hy : y < 2 ^ 256) (hs : x + y < 2 ^ 256) (h0 : y = 0) (LX LY : List Value) (hLX : LX = wq x) (hLY : LY = wq y) (w : World) : Calls Try.prog 5 #[.agg LX.toArray, .agg LY.toArray] w fun e w' => e = .returned (.bool true) ∧ Below w.heap.size w w' := by
  have HX : Hid (x < 2 ^ 256 ∧ y < 2 ^ 256) := ⟨hx, hy⟩
  have HLX : Hid (LX = wq x) := hLX
  have HLY : Hid (LY = wq y) := hLY
  have HS : Hid (x + y < 2 ^ 256) := hs
  have H0 : Hid (y = 0) := h0
  have HIX : Hid ((Try.prog.info? 29).map (·.size) = some LX.length ∧ LX.length = zW.length ∧ LX.toArray.all (·.oneCell') = true) := by rw [hLX]; exact ⟨info_Wq _, wq_len _, wq_one _⟩
  have HIY : Hid ((Try.prog.info? 29).map (·.size) = some LY.length) := by rw [hLY]; exact info_Wq _
  obtain ⟨LO, hLO⟩ : ∃ L, L = wq 1 := ⟨_, rfl⟩
  have HLO : Hid (LO = wq 1) := hLO
  have HIO : Hid ((Try.prog.info? 29).map (·.size) = some LO.length ∧ LO.length = zW.length ∧ LO.toArray.all (·.oneCell') = true) := by rw [hLO]; exact ⟨info_Wq _, wq_len _, wq_one _⟩
  obtain ⟨LZ, hLZ⟩ : ∃ L, L = wq 0 := ⟨_, rfl⟩
  have HLZ : Hid (LZ = wq 0) := hLZ
  have HP1 : Hid (0 < 2 ^ 256 ∧ 1 < 2 ^ 256) := ⟨Nat.lt_of_lt_of_le (by decide : 0 < 2 ^ 8) (Nat.pow_le_pow_right (by decide) (by decide)), Nat.lt_of_lt_of_le (by decide : 1 < 2 ^ 8) (Nat.pow_le_pow_right (by decide) (by decide))⟩
  clear hx hy hLX hLY hs h0 hLO hLZ
  go_enter Try.func5, Try.ntmps5
  go_upto_region 1 with (first
    | (refine wpList_boxG 29 rfl (.tmp 0) rfl LX rfl ?_; intro X1 q1 q2 q3; have R1 : Hid (Row X1 w.heap.size LX 29) := q1; have B1 : Hid (Below w.heap.size w X1) := q2; clear q1 q2 q3; simp only [Act.put, List.setIfInBounds_toArray, List.set_cons_zero, List.set_cons_succ])
    | (refine wpList_boxG 29 rfl (.tmp 1) rfl LY rfl ?_; intro X2 q1 q2 q3; have RYX2 : Hid (Row X2 X1.heap.size LY 29) := q1; have RXX2 : Hid (Row X2 w.heap.size LX 29) := Row.below R1.out q2 R1.out.lt; have BX2 : Hid (Below w.heap.size w X2) := B1.out.trans (q2.mono B1.out.size); clear q1 q2 q3; simp only [Act.put, List.setIfInBounds_toArray, List.set_cons_zero, List.set_cons_succ]))
  obtain ⟨bx, hbx⟩ : ∃ b, b = w.heap.size := ⟨_, rfl⟩
  obtain ⟨by_, hby⟩ : ∃ b, b = X1.heap.size := ⟨_, rfl⟩
  rw [← hbx] at RXX2
  rw [← hby] at RYX2
  rw [← hbx, ← hby]
  clear hbx hby R1 B1
  have HC1 : Hid (∀ W, Row W bx LX 29 → Row W by_ LY 29 → Calls Try.prog 9 #[.slice (some ⟨W.heap.size, 0, none⟩) 5 5, .pointer (some ⟨bx, 0, none⟩), .pointer (some ⟨by_, 0, none⟩)] (W.alloc (Obj.cells #[.int .u8 6, .int .u8 16, .int .u8 1, .int .u8 7, .int .u8 1] 5)) fun e w' => e = .returned (.tuple #[.agg LX.toArray, .int .i64 0]) ∧ Below W.heap.size W w') := fun W c2 c3 => by
    have hB : Below W.heap.size W (W.alloc (Obj.cells #[.int .u8 6, .int .u8 16, .int .u8 1, .int .u8 7, .int .u8 1] 5)) := (Below.refl _ _).alloc (Nat.le_refl _) _
    have c1 : Row (W.alloc (Obj.cells #[.int .u8 6, .int .u8 16, .int .u8 1, .int .u8 7, .int .u8 1] 5)) W.heap.size (vB q1) 5 := Row.new' rfl rfl
    have q := two_ev q1 (h4 ++ q1) 5 9 6 i1 rfl rfl (by decide) (by decide) rfl ck1 rfl (by decide) x y ⟨HX.out.1, HX.out.2⟩ 0 x _ (ev1_ok x y HS.out) W.heap.size bx by_ _ c1 (by rw [← HLX.out]; exact Row.below c2 hB c2.lt) (by rw [← HLY.out]; exact Row.below c3 hB c3.lt)
    rw [show ans 0 x = LX by rw [HLX.out]; rfl] at q
    exact q.mono (fun e w' hh => ⟨hh.1, hB.trans (hh.2.mono hB.size)⟩)
  have HC2 : Hid (∀ W, Row W bx LX 29 → Row W by_ LY 29 → Calls Try.prog 9 #[.slice (some ⟨W.heap.size, 0, none⟩) 2 2, .pointer (some ⟨bx, 0, none⟩), .pointer (some ⟨by_, 0, none⟩)] (W.alloc (Obj.cells #[.int .u8 9, .int .u8 1] 5)) fun e w' => e = .returned (.tuple #[.agg zW.toArray, .int .i64 104]) ∧ Below W.heap.size W w') := fun W c2 c3 => by
    have hB : Below W.heap.size W (W.alloc (Obj.cells #[.int .u8 9, .int .u8 1] 5)) := (Below.refl _ _).alloc (Nat.le_refl _) _
    have c1 : Row (W.alloc (Obj.cells #[.int .u8 9, .int .u8 1] 5)) W.heap.size (vB q2) 5 := Row.new' rfl rfl
    have q := two_ev q2 (h4 ++ q2) 2 6 4 i2 rfl rfl (by decide) (by decide) rfl ck2 rfl (by decide) x y ⟨HX.out.1, HX.out.2⟩ 104 0 _ (by rw [H0.out]; exact ev2_no x) W.heap.size bx by_ _ c1 (by rw [← HLX.out]; exact Row.below c2 hB c2.lt) (by rw [← HLY.out]; exact Row.below c3 hB c3.lt)
    rw [show ans 104 0 = zW by rfl] at q
    exact q.mono (fun e w' hh => ⟨hh.1, hB.trans (hh.2.mono hB.size)⟩)
  have HC3 : Hid (∀ W, Row W bx LX 29 → Row W by_ LY 29 → Calls Try.prog 9 #[.slice (some ⟨W.heap.size, 0, none⟩) 2 2, .pointer (some ⟨bx, 0, none⟩), .pointer (some ⟨by_, 0, none⟩)] (W.alloc (Obj.cells #[.int .u8 10, .int .u8 1] 5)) fun e w' => e = .returned (.tuple #[.agg zW.toArray, .int .i64 104]) ∧ Below W.heap.size W w') := fun W c2 c3 => by
    have hB : Below W.heap.size W (W.alloc (Obj.cells #[.int .u8 10, .int .u8 1] 5)) := (Below.refl _ _).alloc (Nat.le_refl _) _
    have c1 : Row (W.alloc (Obj.cells #[.int .u8 10, .int .u8 1] 5)) W.heap.size (vB q3) 5 := Row.new' rfl rfl
    have q := two_ev q3 (h4 ++ q3) 2 6 4 i3 rfl rfl (by decide) (by decide) rfl ck3 rfl (by decide) x y ⟨HX.out.1, HX.out.2⟩ 104 0 _ (by rw [H0.out]; exact ev3_no x) W.heap.size bx by_ _ c1 (by rw [← HLX.out]; exact Row.below c2 hB c2.lt) (by rw [← HLY.out]; exact Row.below c3 hB c3.lt)
    rw [show ans 104 0 = zW by rfl] at q
    exact q.mono (fun e w' hh => ⟨hh.1, hB.trans (hh.2.mono hB.size)⟩)
  go_upto_region 3 with (first
    | (go_at_call 9; refine Calls.mono (HC1.out X2 RXX2.out RYX2.out) ?_; rintro e C1 ⟨rfl, q⟩; have RXC1 : Hid (Row C1 bx LX 29) := Row.below RXX2.out q RXX2.out.lt; have RYC1 : Hid (Row C1 by_ LY 29) := Row.below RYX2.out q RYX2.out.lt; have BC1 : Hid (Below w.heap.size w C1) := BX2.out.trans (q.mono BX2.out.size); clear q)
    | (refine wpList_allocW rfl rfl ?_; intro D1 q1 q2 q3; have RD1 : Hid (Row D1 C1.heap.size zW 29) := q1; have BD1 : Hid (Below C1.heap.size C1 D1) := q2; clear q1 q2 q3; simp only [Act.put, List.setIfInBounds_toArray, List.set_cons_zero, List.set_cons_succ])
    | (refine wpList_storeL rfl 29 (.tmp 6) (.tmp 21) rfl C1.heap.size LX zW 29 rfl rfl RD1.out HIX.out.2.1 HIX.out.1 HIX.out.2.2 ?_; intro S1 q1 q2; have E1 : Hid (S1 = _) := q1; have RS1 : Hid (Row S1 C1.heap.size LX 29) := q2; clear q1 q2; simp only [Act.put]))
  have DS1 : Below C1.heap.size C1 S1 := by rw [E1.out]; exact below_setCells BD1.out (Nat.le_refl _) _
  have RXS1 : Hid (Row S1 bx LX 29) := Row.below RXC1.out DS1 RXC1.out.lt
  have RYS1 : Hid (Row S1 by_ LY 29) := Row.below RYC1.out DS1 RYC1.out.lt
  have BS1 : Hid (Below w.heap.size w S1) := BC1.out.trans (DS1.mono BC1.out.size)
  obtain ⟨o1, ho1⟩ : ∃ b, b = C1.heap.size := ⟨_, rfl⟩
  rw [← ho1] at RS1
  rw [← ho1]
  clear ho1
  go_upto_region 5 with (first
    | (refine wpList_load_w rfl 29 (.tmp 6) rfl o1 0 rfl LX _ RS1.out.all Try.underlying29 rfl HIX.out.1 ?_; simp only [Act.put, List.setIfInBounds_toArray, List.set_cons_zero, List.set_cons_succ])
    | (refine wpList_load_w rfl 29 (.tmp 2) rfl bx 0 rfl LX _ RXS1.out.all Try.underlying29 rfl HIX.out.1 ?_; simp only [Act.put, List.setIfInBounds_toArray, List.set_cons_zero, List.set_cons_succ])
    | (refine wpList_neqW rfl (.tmp 26) (.tmp 27) _ rfl x HX.out.1 LX LX HLX.out HLX.out rfl rfl ?_; simp only [Act.put, List.setIfInBounds_toArray, List.set_cons_zero, List.set_cons_succ]))
  go_upto_region 6 with (first
    | (refine wpList_load_w rfl 29 (.tmp 3) rfl by_ 0 rfl LY _ RYS1.out.all Try.underlying29 rfl HIY.out ?_; simp only [Act.put, List.setIfInBounds_toArray, List.set_cons_zero, List.set_cons_succ])
    | (refine wpList_bw0 rfl rfl LZ HLZ.out ?_; simp only [Act.put, List.setIfInBounds_toArray, List.set_cons_zero, List.set_cons_succ])
    | (refine wpList_eqlW rfl (.tmp 38) (.tmp 39) _ rfl y 0 HX.out.2 HP1.out.1 LY LZ HLY.out HLZ.out rfl rfl true (decide_eq_true H0.out) ?_; simp only [Act.put, List.setIfInBounds_toArray, List.set_cons_zero, List.set_cons_succ]))
  go_upto_region 7 with (first
    | (go_at_call 9; refine Calls.mono (HC2.out S1 RXS1.out RYS1.out) ?_; rintro e C2 ⟨rfl, q⟩; have RXC2 : Hid (Row C2 bx LX 29) := Row.below RXS1.out q RXS1.out.lt; have RYC2 : Hid (Row C2 by_ LY 29) := Row.below RYS1.out q RYS1.out.lt; have BC2 : Hid (Below w.heap.size w C2) := BS1.out.trans (q.mono BS1.out.size); clear q)
    | (refine wpList_allocW rfl rfl ?_; intro D2 q1 q2 q3; have RD2 : Hid (Row D2 C2.heap.size zW 29) := q1; have BD2 : Hid (Below C2.heap.size C2 D2) := q2; clear q1 q2 q3; simp only [Act.put, List.setIfInBounds_toArray, List.set_cons_zero, List.set_cons_succ])
    | (refine wpList_storeL rfl 29 (.tmp 8) (.tmp 45) rfl C2.heap.size zW zW 29 rfl rfl RD2.out rfl (info_zW) zW_one1 ?_; intro S2 q1 q2; have E2 : Hid (S2 = _) := q1; have RS2 : Hid (Row S2 C2.heap.size zW 29) := q2; clear q1 q2; simp only [Act.put]))
  have DS2 : Below C2.heap.size C2 S2 := by rw [E2.out]; exact below_setCells BD2.out (Nat.le_refl _) _
  have RXS2 : Hid (Row S2 bx LX 29) := Row.below RXC2.out DS2 RXC2.out.lt
  have RYS2 : Hid (Row S2 by_ LY 29) := Row.below RYC2.out DS2 RYC2.out.lt
  have BS2 : Hid (Below w.heap.size w S2) := BC2.out.trans (DS2.mono BC2.out.size)
  obtain ⟨o2, ho2⟩ : ∃ b, b = C2.heap.size := ⟨_, rfl⟩
  rw [← ho2] at RS2
  rw [← ho2]
  clear ho2
  go_upto_region 8 with (first
    | (go_at_call 9; refine Calls.mono (HC3.out S2 RXS2.out RYS2.out) ?_; rintro e C3 ⟨rfl, q⟩; have RXC3 : Hid (Row C3 bx LX 29) := Row.below RXS2.out q RXS2.out.lt; have RYC3 : Hid (Row C3 by_ LY 29) := Row.below RYS2.out q RYS2.out.lt; have BC3 : Hid (Below w.heap.size w C3) := BS2.out.trans (q.mono BS2.out.size); clear q)
    | (refine wpList_allocW rfl rfl ?_; intro D3 q1 q2 q3; have RD3 : Hid (Row D3 C3.heap.size zW 29) := q1; have BD3 : Hid (Below C3.heap.size C3 D3) := q2; clear q1 q2 q3; simp only [Act.put, List.setIfInBounds_toArray, List.set_cons_zero, List.set_cons_succ])
    | (refine wpList_storeL rfl 29 (.tmp 10) (.tmp 51) rfl C3.heap.size zW zW 29 rfl rfl RD3.out rfl (info_zW) zW_one1 ?_; intro S3 q1 q2; have E3 : Hid (S3 = _) := q1; have RS3 : Hid (Row S3 C3.heap.size zW 29) := q2; clear q1 q2; simp only [Act.put]))
  have DS3 : Below C3.heap.size C3 S3 := by rw [E3.out]; exact below_setCells BD3.out (Nat.le_refl _) _
  have RXS3 : Hid (Row S3 bx LX 29) := Row.below RXC3.out DS3 RXC3.out.lt
  have RYS3 : Hid (Row S3 by_ LY 29) := Row.below RYC3.out DS3 RYC3.out.lt
  have BS3 : Hid (Below w.heap.size w S3) := BC3.out.trans (DS3.mono BC3.out.size)
  obtain ⟨o3, ho3⟩ : ∃ b, b = C3.heap.size := ⟨_, rfl⟩
  rw [← ho3] at RS3
  rw [← ho3]
  clear ho3
  go_wp2_with (go_at_call 6; refine Calls.mono (alive_any S3) ?_; rintro e Z ⟨rfl, q⟩; have BZ : Hid (Below w.heap.size w Z) := BS3.out.trans (q.mono BS3.out.size); clear q)
  go_ret
  exact ⟨rfl, BZ.out⟩
set_option maxRecDepth 100000 in
set_option maxHeartbeats 4000000 in
theorem diff_10 (x y : Nat) (hx : x < 2 ^ 256) (hy : y < 2 ^ 256) (hs : x + y < 2 ^ 256) (h0 : y ≠ 0) (LX LY : List Value) (hLX : LX = wq x) (hLY : LY = wq y) (w : World) : Calls Try.prog 5 #[.agg LX.toArray, .agg LY.toArray] w fun e w' => e = .returned (.bool true) ∧ Below w.heap.size w w' := by
  have HX : Hid (x < 2 ^ 256 ∧ y < 2 ^ 256) := ⟨hx, hy⟩
  have HLX : Hid (LX = wq x) := hLX
  have HLY : Hid (LY = wq y) := hLY
  have HS : Hid (x + y < 2 ^ 256) := hs
  have H0 : Hid (y ≠ 0) := h0
  have HIX : Hid ((Try.prog.info? 29).map (·.size) = some LX.length ∧ LX.length = zW.length ∧ LX.toArray.all (·.oneCell') = true) := by rw [hLX]; exact ⟨info_Wq _, wq_len _, wq_one _⟩
  have HIY : Hid ((Try.prog.info? 29).map (·.size) = some LY.length) := by rw [hLY]; exact info_Wq _
  obtain ⟨LO, hLO⟩ : ∃ L, L = wq 1 := ⟨_, rfl⟩
  have HLO : Hid (LO = wq 1) := hLO
  have HIO : Hid ((Try.prog.info? 29).map (·.size) = some LO.length ∧ LO.length = zW.length ∧ LO.toArray.all (·.oneCell') = true) := by rw [hLO]; exact ⟨info_Wq _, wq_len _, wq_one _⟩
  obtain ⟨LZ, hLZ⟩ : ∃ L, L = wq 0 := ⟨_, rfl⟩
  have HLZ : Hid (LZ = wq 0) := hLZ
  have HP1 : Hid (0 < 2 ^ 256 ∧ 1 < 2 ^ 256) := ⟨Nat.lt_of_lt_of_le (by decide : 0 < 2 ^ 8) (Nat.pow_le_pow_right (by decide) (by decide)), Nat.lt_of_lt_of_le (by decide : 1 < 2 ^ 8) (Nat.pow_le_pow_right (by decide) (by decide))⟩
  clear hx hy hLX hLY hs h0 hLO hLZ
  go_enter Try.func5, Try.ntmps5
  go_upto_region 1 with (first
    | (refine wpList_boxG 29 rfl (.tmp 0) rfl LX rfl ?_; intro X1 q1 q2 q3; have R1 : Hid (Row X1 w.heap.size LX 29) := q1; have B1 : Hid (Below w.heap.size w X1) := q2; clear q1 q2 q3; simp only [Act.put, List.setIfInBounds_toArray, List.set_cons_zero, List.set_cons_succ])
    | (refine wpList_boxG 29 rfl (.tmp 1) rfl LY rfl ?_; intro X2 q1 q2 q3; have RYX2 : Hid (Row X2 X1.heap.size LY 29) := q1; have RXX2 : Hid (Row X2 w.heap.size LX 29) := Row.below R1.out q2 R1.out.lt; have BX2 : Hid (Below w.heap.size w X2) := B1.out.trans (q2.mono B1.out.size); clear q1 q2 q3; simp only [Act.put, List.setIfInBounds_toArray, List.set_cons_zero, List.set_cons_succ]))
  obtain ⟨bx, hbx⟩ : ∃ b, b = w.heap.size := ⟨_, rfl⟩
  obtain ⟨by_, hby⟩ : ∃ b, b = X1.heap.size := ⟨_, rfl⟩
  rw [← hbx] at RXX2
  rw [← hby] at RYX2
  rw [← hbx, ← hby]
  clear hbx hby R1 B1
  have HC1 : Hid (∀ W, Row W bx LX 29 → Row W by_ LY 29 → Calls Try.prog 9 #[.slice (some ⟨W.heap.size, 0, none⟩) 5 5, .pointer (some ⟨bx, 0, none⟩), .pointer (some ⟨by_, 0, none⟩)] (W.alloc (Obj.cells #[.int .u8 6, .int .u8 16, .int .u8 1, .int .u8 7, .int .u8 1] 5)) fun e w' => e = .returned (.tuple #[.agg LX.toArray, .int .i64 0]) ∧ Below W.heap.size W w') := fun W c2 c3 => by
    have hB : Below W.heap.size W (W.alloc (Obj.cells #[.int .u8 6, .int .u8 16, .int .u8 1, .int .u8 7, .int .u8 1] 5)) := (Below.refl _ _).alloc (Nat.le_refl _) _
    have c1 : Row (W.alloc (Obj.cells #[.int .u8 6, .int .u8 16, .int .u8 1, .int .u8 7, .int .u8 1] 5)) W.heap.size (vB q1) 5 := Row.new' rfl rfl
    have q := two_ev q1 (h4 ++ q1) 5 9 6 i1 rfl rfl (by decide) (by decide) rfl ck1 rfl (by decide) x y ⟨HX.out.1, HX.out.2⟩ 0 x _ (ev1_ok x y HS.out) W.heap.size bx by_ _ c1 (by rw [← HLX.out]; exact Row.below c2 hB c2.lt) (by rw [← HLY.out]; exact Row.below c3 hB c3.lt)
    rw [show ans 0 x = LX by rw [HLX.out]; rfl] at q
    exact q.mono (fun e w' hh => ⟨hh.1, hB.trans (hh.2.mono hB.size)⟩)
  have HC4 : Hid (∀ W, Row W bx LX 29 → Row W by_ LY 29 → Calls Try.prog 9 #[.slice (some ⟨W.heap.size, 0, none⟩) 11 11, .pointer (some ⟨bx, 0, none⟩), .pointer (some ⟨by_, 0, none⟩)] (W.alloc (Obj.cells #[.int .u8 9, .int .u8 16, .int .u8 1, .int .u8 8, .int .u8 16, .int .u8 0, .int .u8 16, .int .u8 1, .int .u8 10, .int .u8 6, .int .u8 1] 5)) fun e w' => e = .returned (.tuple #[.agg LX.toArray, .int .i64 0]) ∧ Below W.heap.size W w') := fun W c2 c3 => by
    have hB : Below W.heap.size W (W.alloc (Obj.cells #[.int .u8 9, .int .u8 16, .int .u8 1, .int .u8 8, .int .u8 16, .int .u8 0, .int .u8 16, .int .u8 1, .int .u8 10, .int .u8 6, .int .u8 1] 5)) := (Below.refl _ _).alloc (Nat.le_refl _) _
    have c1 : Row (W.alloc (Obj.cells #[.int .u8 9, .int .u8 16, .int .u8 1, .int .u8 8, .int .u8 16, .int .u8 0, .int .u8 16, .int .u8 1, .int .u8 10, .int .u8 6, .int .u8 1] 5)) W.heap.size (vB q4) 5 := Row.new' rfl rfl
    have q := two_ev q4 (h4 ++ q4) 11 15 10 i4 rfl rfl (by decide) (by decide) rfl ck4 rfl (by decide) x y ⟨HX.out.1, HX.out.2⟩ 0 x _ (ev4_ok x y HX.out.1 H0.out) W.heap.size bx by_ _ c1 (by rw [← HLX.out]; exact Row.below c2 hB c2.lt) (by rw [← HLY.out]; exact Row.below c3 hB c3.lt)
    rw [show ans 0 x = LX by rw [HLX.out]; rfl] at q
    exact q.mono (fun e w' hh => ⟨hh.1, hB.trans (hh.2.mono hB.size)⟩)
  have HC5 : Hid (∀ W, Row W bx LX 29 → Row W by_ LY 29 → Calls Try.prog 9 #[.slice (some ⟨W.heap.size, 0, none⟩) 5 5, .pointer (some ⟨bx, 0, none⟩), .pointer (some ⟨by_, 0, none⟩)] (W.alloc (Obj.cells #[.int .u8 10, .int .u8 16, .int .u8 1, .int .u8 11, .int .u8 1] 5)) fun e w' => e = .returned (.tuple #[.agg LO.toArray, .int .i64 0]) ∧ Below W.heap.size W w') := fun W c2 c3 => by
    have hB : Below W.heap.size W (W.alloc (Obj.cells #[.int .u8 10, .int .u8 16, .int .u8 1, .int .u8 11, .int .u8 1] 5)) := (Below.refl _ _).alloc (Nat.le_refl _) _
    have c1 : Row (W.alloc (Obj.cells #[.int .u8 10, .int .u8 16, .int .u8 1, .int .u8 11, .int .u8 1] 5)) W.heap.size (vB q5) 5 := Row.new' rfl rfl
    have q := two_ev q5 (h4 ++ q5) 5 9 6 i5 rfl rfl (by decide) (by decide) rfl ck5 rfl (by decide) x y ⟨HX.out.1, HX.out.2⟩ 0 1 _ (ev5_ok x y H0.out) W.heap.size bx by_ _ c1 (by rw [← HLX.out]; exact Row.below c2 hB c2.lt) (by rw [← HLY.out]; exact Row.below c3 hB c3.lt)
    rw [show ans 0 1 = LO by rw [HLO.out]; rfl] at q
    exact q.mono (fun e w' hh => ⟨hh.1, hB.trans (hh.2.mono hB.size)⟩)
  go_upto_region 3 with (first
    | (go_at_call 9; refine Calls.mono (HC1.out X2 RXX2.out RYX2.out) ?_; rintro e C1 ⟨rfl, q⟩; have RXC1 : Hid (Row C1 bx LX 29) := Row.below RXX2.out q RXX2.out.lt; have RYC1 : Hid (Row C1 by_ LY 29) := Row.below RYX2.out q RYX2.out.lt; have BC1 : Hid (Below w.heap.size w C1) := BX2.out.trans (q.mono BX2.out.size); clear q)
    | (refine wpList_allocW rfl rfl ?_; intro D1 q1 q2 q3; have RD1 : Hid (Row D1 C1.heap.size zW 29) := q1; have BD1 : Hid (Below C1.heap.size C1 D1) := q2; clear q1 q2 q3; simp only [Act.put, List.setIfInBounds_toArray, List.set_cons_zero, List.set_cons_succ])
    | (refine wpList_storeL rfl 29 (.tmp 6) (.tmp 21) rfl C1.heap.size LX zW 29 rfl rfl RD1.out HIX.out.2.1 HIX.out.1 HIX.out.2.2 ?_; intro S1 q1 q2; have E1 : Hid (S1 = _) := q1; have RS1 : Hid (Row S1 C1.heap.size LX 29) := q2; clear q1 q2; simp only [Act.put]))
  have DS1 : Below C1.heap.size C1 S1 := by rw [E1.out]; exact below_setCells BD1.out (Nat.le_refl _) _
  have RXS1 : Hid (Row S1 bx LX 29) := Row.below RXC1.out DS1 RXC1.out.lt
  have RYS1 : Hid (Row S1 by_ LY 29) := Row.below RYC1.out DS1 RYC1.out.lt
  have BS1 : Hid (Below w.heap.size w S1) := BC1.out.trans (DS1.mono BC1.out.size)
  obtain ⟨o1, ho1⟩ : ∃ b, b = C1.heap.size := ⟨_, rfl⟩
  rw [← ho1] at RS1
  rw [← ho1]
  clear ho1
  go_upto_region 5 with (first
    | (refine wpList_load_w rfl 29 (.tmp 6) rfl o1 0 rfl LX _ RS1.out.all Try.underlying29 rfl HIX.out.1 ?_; simp only [Act.put, List.setIfInBounds_toArray, List.set_cons_zero, List.set_cons_succ])
    | (refine wpList_load_w rfl 29 (.tmp 2) rfl bx 0 rfl LX _ RXS1.out.all Try.underlying29 rfl HIX.out.1 ?_; simp only [Act.put, List.setIfInBounds_toArray, List.set_cons_zero, List.set_cons_succ])
    | (refine wpList_neqW rfl (.tmp 26) (.tmp 27) _ rfl x HX.out.1 LX LX HLX.out HLX.out rfl rfl ?_; simp only [Act.put, List.setIfInBounds_toArray, List.set_cons_zero, List.set_cons_succ]))
  go_upto_region 9 with (first
    | (refine wpList_load_w rfl 29 (.tmp 3) rfl by_ 0 rfl LY _ RYS1.out.all Try.underlying29 rfl HIY.out ?_; simp only [Act.put, List.setIfInBounds_toArray, List.set_cons_zero, List.set_cons_succ])
    | (refine wpList_bw0 rfl rfl LZ HLZ.out ?_; simp only [Act.put, List.setIfInBounds_toArray, List.set_cons_zero, List.set_cons_succ])
    | (refine wpList_eqlW rfl (.tmp 38) (.tmp 39) _ rfl y 0 HX.out.2 HP1.out.1 LY LZ HLY.out HLZ.out rfl rfl false (decide_eq_false H0.out) ?_; simp only [Act.put, List.setIfInBounds_toArray, List.set_cons_zero, List.set_cons_succ]))
  go_upto_region 10 with (first
    | (go_at_call 9; refine Calls.mono (HC4.out S1 RXS1.out RYS1.out) ?_; rintro e C4 ⟨rfl, q⟩; have RXC4 : Hid (Row C4 bx LX 29) := Row.below RXS1.out q RXS1.out.lt; have RYC4 : Hid (Row C4 by_ LY 29) := Row.below RYS1.out q RYS1.out.lt; have BC4 : Hid (Below w.heap.size w C4) := BS1.out.trans (q.mono BS1.out.size); clear q)
    | (refine wpList_allocW rfl rfl ?_; intro D4 q1 q2 q3; have RD4 : Hid (Row D4 C4.heap.size zW 29) := q1; have BD4 : Hid (Below C4.heap.size C4 D4) := q2; clear q1 q2 q3; simp only [Act.put, List.setIfInBounds_toArray, List.set_cons_zero, List.set_cons_succ])
    | (refine wpList_storeL rfl 29 (.tmp 12) (.tmp 66) rfl C4.heap.size LX zW 29 rfl rfl RD4.out HIX.out.2.1 HIX.out.1 HIX.out.2.2 ?_; intro S4 q1 q2; have E4 : Hid (S4 = _) := q1; have RS4 : Hid (Row S4 C4.heap.size LX 29) := q2; clear q1 q2; simp only [Act.put]))
  have DS4 : Below C4.heap.size C4 S4 := by rw [E4.out]; exact below_setCells BD4.out (Nat.le_refl _) _
  have RXS4 : Hid (Row S4 bx LX 29) := Row.below RXC4.out DS4 RXC4.out.lt
  have RYS4 : Hid (Row S4 by_ LY 29) := Row.below RYC4.out DS4 RYC4.out.lt
  have BS4 : Hid (Below w.heap.size w S4) := BC4.out.trans (DS4.mono BC4.out.size)
  obtain ⟨o4, ho4⟩ : ∃ b, b = C4.heap.size := ⟨_, rfl⟩
  rw [← ho4] at RS4
  rw [← ho4]
  clear ho4
  go_upto_region 11 with (first
    | (go_at_call 9; refine Calls.mono (HC5.out S4 RXS4.out RYS4.out) ?_; rintro e C5 ⟨rfl, q⟩; have RXC5 : Hid (Row C5 bx LX 29) := Row.below RXS4.out q RXS4.out.lt; have RYC5 : Hid (Row C5 by_ LY 29) := Row.below RYS4.out q RYS4.out.lt; have BC5 : Hid (Below w.heap.size w C5) := BS4.out.trans (q.mono BS4.out.size); have BQ5 : Hid (Below S4.heap.size S4 C5) := q; clear q)
    | (refine wpList_allocW rfl rfl ?_; intro D5 q1 q2 q3; have RD5 : Hid (Row D5 C5.heap.size zW 29) := q1; have BD5 : Hid (Below C5.heap.size C5 D5) := q2; clear q1 q2 q3; simp only [Act.put, List.setIfInBounds_toArray, List.set_cons_zero, List.set_cons_succ])
    | (refine wpList_storeL rfl 29 (.tmp 14) (.tmp 72) rfl C5.heap.size LO zW 29 rfl rfl RD5.out HIO.out.2.1 HIO.out.1 HIO.out.2.2 ?_; intro S5 q1 q2; have E5 : Hid (S5 = _) := q1; have RS5 : Hid (Row S5 C5.heap.size LO 29) := q2; clear q1 q2; simp only [Act.put]))
  have DS5 : Below C5.heap.size C5 S5 := by rw [E5.out]; exact below_setCells BD5.out (Nat.le_refl _) _
  have RXS5 : Hid (Row S5 bx LX 29) := Row.below RXC5.out DS5 RXC5.out.lt
  have RYS5 : Hid (Row S5 by_ LY 29) := Row.below RYC5.out DS5 RYC5.out.lt
  have BS5 : Hid (Below w.heap.size w S5) := BC5.out.trans (DS5.mono BC5.out.size)
  obtain ⟨o5, ho5⟩ : ∃ b, b = C5.heap.size := ⟨_, rfl⟩
  rw [← ho5] at RS5
  rw [← ho5]
  clear ho5
  have RS45 : Hid (Row S5 o4 LX 29) := by
    have r2 := Row.below RS4.out BQ5.out RS4.out.lt
    exact Row.below r2 DS5 r2.lt
  go_wp2_with (first
    | (refine wpList_load_w rfl 29 (.tmp 12) rfl o4 0 rfl LX _ RS45.out.all Try.underlying29 rfl HIX.out.1 ?_; simp only [Act.put, List.setIfInBounds_toArray, List.set_cons_zero, List.set_cons_succ])
    | (refine wpList_load_w rfl 29 (.tmp 2) rfl bx 0 rfl LX _ RXS5.out.all Try.underlying29 rfl HIX.out.1 ?_; simp only [Act.put, List.setIfInBounds_toArray, List.set_cons_zero, List.set_cons_succ])
    | (refine wpList_eqlW rfl (.tmp 77) (.tmp 78) _ rfl x x HX.out.1 HX.out.1 LX LX HLX.out HLX.out rfl rfl true (decide_eq_true rfl) ?_; simp only [Act.put, List.setIfInBounds_toArray, List.set_cons_zero, List.set_cons_succ])
    | (refine wpList_load_w rfl 29 (.tmp 14) rfl o5 0 rfl LO _ RS5.out.all Try.underlying29 rfl HIO.out.1 ?_; simp only [Act.put, List.setIfInBounds_toArray, List.set_cons_zero, List.set_cons_succ])
    | (refine wpList_bw1 rfl rfl LO HLO.out ?_; simp only [Act.put, List.setIfInBounds_toArray, List.set_cons_zero, List.set_cons_succ])
    | (refine wpList_eqlW rfl (.tmp 86) (.tmp 87) _ rfl 1 1 HP1.out.2 HP1.out.2 LO LO HLO.out HLO.out rfl rfl true (decide_eq_true rfl) ?_; simp only [Act.put, List.setIfInBounds_toArray, List.set_cons_zero, List.set_cons_succ])
    | (go_at_call 6; refine Calls.mono (alive_any S5) ?_; rintro e Z ⟨rfl, q⟩; have BZ : Hid (Below w.heap.size w Z) := BS5.out.trans (q.mono BS5.out.size); clear q))
  go_ret
  exact ⟨rfl, BZ.out⟩
set_option maxRecDepth 100000 in
set_option maxHeartbeats 4000000 in
theorem diff_01 (x y : Nat) (hx : x < 2 ^ 256) (hy : y < 2 ^ 256) (hs : ¬ x + y < 2 ^ 256) (h0 : y = 0) (LX LY : List Value) (hLX : LX = wq x) (hLY : LY = wq y) (w : World) : Calls Try.prog 5 #[.agg LX.toArray, .agg LY.toArray] w fun e w' => e = .returned (.bool true) ∧ Below w.heap.size w w' := by
  have HX : Hid (x < 2 ^ 256 ∧ y < 2 ^ 256) := ⟨hx, hy⟩
  have HLX : Hid (LX = wq x) := hLX
  have HLY : Hid (LY = wq y) := hLY
  have HS : Hid (¬ x + y < 2 ^ 256) := hs
  have H0 : Hid (y = 0) := h0
  have HIX : Hid ((Try.prog.info? 29).map (·.size) = some LX.length ∧ LX.length = zW.length ∧ LX.toArray.all (·.oneCell') = true) := by rw [hLX]; exact ⟨info_Wq _, wq_len _, wq_one _⟩
  have HIY : Hid ((Try.prog.info? 29).map (·.size) = some LY.length) := by rw [hLY]; exact info_Wq _
  obtain ⟨LO, hLO⟩ : ∃ L, L = wq 1 := ⟨_, rfl⟩
  have HLO : Hid (LO = wq 1) := hLO
  have HIO : Hid ((Try.prog.info? 29).map (·.size) = some LO.length ∧ LO.length = zW.length ∧ LO.toArray.all (·.oneCell') = true) := by rw [hLO]; exact ⟨info_Wq _, wq_len _, wq_one _⟩
  obtain ⟨LZ, hLZ⟩ : ∃ L, L = wq 0 := ⟨_, rfl⟩
  have HLZ : Hid (LZ = wq 0) := hLZ
  have HP1 : Hid (0 < 2 ^ 256 ∧ 1 < 2 ^ 256) := ⟨Nat.lt_of_lt_of_le (by decide : 0 < 2 ^ 8) (Nat.pow_le_pow_right (by decide) (by decide)), Nat.lt_of_lt_of_le (by decide : 1 < 2 ^ 8) (Nat.pow_le_pow_right (by decide) (by decide))⟩
  clear hx hy hLX hLY hs h0 hLO hLZ
  go_enter Try.func5, Try.ntmps5
  go_upto_region 1 with (first
    | (refine wpList_boxG 29 rfl (.tmp 0) rfl LX rfl ?_; intro X1 q1 q2 q3; have R1 : Hid (Row X1 w.heap.size LX 29) := q1; have B1 : Hid (Below w.heap.size w X1) := q2; clear q1 q2 q3; simp only [Act.put, List.setIfInBounds_toArray, List.set_cons_zero, List.set_cons_succ])
    | (refine wpList_boxG 29 rfl (.tmp 1) rfl LY rfl ?_; intro X2 q1 q2 q3; have RYX2 : Hid (Row X2 X1.heap.size LY 29) := q1; have RXX2 : Hid (Row X2 w.heap.size LX 29) := Row.below R1.out q2 R1.out.lt; have BX2 : Hid (Below w.heap.size w X2) := B1.out.trans (q2.mono B1.out.size); clear q1 q2 q3; simp only [Act.put, List.setIfInBounds_toArray, List.set_cons_zero, List.set_cons_succ]))
  obtain ⟨bx, hbx⟩ : ∃ b, b = w.heap.size := ⟨_, rfl⟩
  obtain ⟨by_, hby⟩ : ∃ b, b = X1.heap.size := ⟨_, rfl⟩
  rw [← hbx] at RXX2
  rw [← hby] at RYX2
  rw [← hbx, ← hby]
  clear hbx hby R1 B1
  have HC1 : Hid (∀ W, Row W bx LX 29 → Row W by_ LY 29 → Calls Try.prog 9 #[.slice (some ⟨W.heap.size, 0, none⟩) 5 5, .pointer (some ⟨bx, 0, none⟩), .pointer (some ⟨by_, 0, none⟩)] (W.alloc (Obj.cells #[.int .u8 6, .int .u8 16, .int .u8 1, .int .u8 7, .int .u8 1] 5)) fun e w' => e = .returned (.tuple #[.agg zW.toArray, .int .i64 104]) ∧ Below W.heap.size W w') := fun W c2 c3 => by
    have hB : Below W.heap.size W (W.alloc (Obj.cells #[.int .u8 6, .int .u8 16, .int .u8 1, .int .u8 7, .int .u8 1] 5)) := (Below.refl _ _).alloc (Nat.le_refl _) _
    have c1 : Row (W.alloc (Obj.cells #[.int .u8 6, .int .u8 16, .int .u8 1, .int .u8 7, .int .u8 1] 5)) W.heap.size (vB q1) 5 := Row.new' rfl rfl
    have q := two_ev q1 (h4 ++ q1) 5 9 6 i1 rfl rfl (by decide) (by decide) rfl ck1 rfl (by decide) x y ⟨HX.out.1, HX.out.2⟩ 104 0 _ (ev1_no x y HS.out) W.heap.size bx by_ _ c1 (by rw [← HLX.out]; exact Row.below c2 hB c2.lt) (by rw [← HLY.out]; exact Row.below c3 hB c3.lt)
    rw [show ans 104 0 = zW by rfl] at q
    exact q.mono (fun e w' hh => ⟨hh.1, hB.trans (hh.2.mono hB.size)⟩)
  have HC2 : Hid (∀ W, Row W bx LX 29 → Row W by_ LY 29 → Calls Try.prog 9 #[.slice (some ⟨W.heap.size, 0, none⟩) 2 2, .pointer (some ⟨bx, 0, none⟩), .pointer (some ⟨by_, 0, none⟩)] (W.alloc (Obj.cells #[.int .u8 9, .int .u8 1] 5)) fun e w' => e = .returned (.tuple #[.agg zW.toArray, .int .i64 104]) ∧ Below W.heap.size W w') := fun W c2 c3 => by
    have hB : Below W.heap.size W (W.alloc (Obj.cells #[.int .u8 9, .int .u8 1] 5)) := (Below.refl _ _).alloc (Nat.le_refl _) _
    have c1 : Row (W.alloc (Obj.cells #[.int .u8 9, .int .u8 1] 5)) W.heap.size (vB q2) 5 := Row.new' rfl rfl
    have q := two_ev q2 (h4 ++ q2) 2 6 4 i2 rfl rfl (by decide) (by decide) rfl ck2 rfl (by decide) x y ⟨HX.out.1, HX.out.2⟩ 104 0 _ (by rw [H0.out]; exact ev2_no x) W.heap.size bx by_ _ c1 (by rw [← HLX.out]; exact Row.below c2 hB c2.lt) (by rw [← HLY.out]; exact Row.below c3 hB c3.lt)
    rw [show ans 104 0 = zW by rfl] at q
    exact q.mono (fun e w' hh => ⟨hh.1, hB.trans (hh.2.mono hB.size)⟩)
  have HC3 : Hid (∀ W, Row W bx LX 29 → Row W by_ LY 29 → Calls Try.prog 9 #[.slice (some ⟨W.heap.size, 0, none⟩) 2 2, .pointer (some ⟨bx, 0, none⟩), .pointer (some ⟨by_, 0, none⟩)] (W.alloc (Obj.cells #[.int .u8 10, .int .u8 1] 5)) fun e w' => e = .returned (.tuple #[.agg zW.toArray, .int .i64 104]) ∧ Below W.heap.size W w') := fun W c2 c3 => by
    have hB : Below W.heap.size W (W.alloc (Obj.cells #[.int .u8 10, .int .u8 1] 5)) := (Below.refl _ _).alloc (Nat.le_refl _) _
    have c1 : Row (W.alloc (Obj.cells #[.int .u8 10, .int .u8 1] 5)) W.heap.size (vB q3) 5 := Row.new' rfl rfl
    have q := two_ev q3 (h4 ++ q3) 2 6 4 i3 rfl rfl (by decide) (by decide) rfl ck3 rfl (by decide) x y ⟨HX.out.1, HX.out.2⟩ 104 0 _ (by rw [H0.out]; exact ev3_no x) W.heap.size bx by_ _ c1 (by rw [← HLX.out]; exact Row.below c2 hB c2.lt) (by rw [← HLY.out]; exact Row.below c3 hB c3.lt)
    rw [show ans 104 0 = zW by rfl] at q
    exact q.mono (fun e w' hh => ⟨hh.1, hB.trans (hh.2.mono hB.size)⟩)
  go_upto_region 3 with (first
    | (go_at_call 9; refine Calls.mono (HC1.out X2 RXX2.out RYX2.out) ?_; rintro e C1 ⟨rfl, q⟩; have RXC1 : Hid (Row C1 bx LX 29) := Row.below RXX2.out q RXX2.out.lt; have RYC1 : Hid (Row C1 by_ LY 29) := Row.below RYX2.out q RYX2.out.lt; have BC1 : Hid (Below w.heap.size w C1) := BX2.out.trans (q.mono BX2.out.size); clear q)
    | (refine wpList_allocW rfl rfl ?_; intro D1 q1 q2 q3; have RD1 : Hid (Row D1 C1.heap.size zW 29) := q1; have BD1 : Hid (Below C1.heap.size C1 D1) := q2; clear q1 q2 q3; simp only [Act.put, List.setIfInBounds_toArray, List.set_cons_zero, List.set_cons_succ])
    | (refine wpList_storeL rfl 29 (.tmp 6) (.tmp 21) rfl C1.heap.size zW zW 29 rfl rfl RD1.out rfl (info_zW) zW_one1 ?_; intro S1 q1 q2; have E1 : Hid (S1 = _) := q1; have RS1 : Hid (Row S1 C1.heap.size zW 29) := q2; clear q1 q2; simp only [Act.put]))
  have DS1 : Below C1.heap.size C1 S1 := by rw [E1.out]; exact below_setCells BD1.out (Nat.le_refl _) _
  have RXS1 : Hid (Row S1 bx LX 29) := Row.below RXC1.out DS1 RXC1.out.lt
  have RYS1 : Hid (Row S1 by_ LY 29) := Row.below RYC1.out DS1 RYC1.out.lt
  have BS1 : Hid (Below w.heap.size w S1) := BC1.out.trans (DS1.mono BC1.out.size)
  obtain ⟨o1, ho1⟩ : ∃ b, b = C1.heap.size := ⟨_, rfl⟩
  rw [← ho1] at RS1
  rw [← ho1]
  clear ho1
  go_upto_region 5 with fail
  go_upto_region 6 with (first
    | (refine wpList_load_w rfl 29 (.tmp 3) rfl by_ 0 rfl LY _ RYS1.out.all Try.underlying29 rfl HIY.out ?_; simp only [Act.put, List.setIfInBounds_toArray, List.set_cons_zero, List.set_cons_succ])
    | (refine wpList_bw0 rfl rfl LZ HLZ.out ?_; simp only [Act.put, List.setIfInBounds_toArray, List.set_cons_zero, List.set_cons_succ])
    | (refine wpList_eqlW rfl (.tmp 38) (.tmp 39) _ rfl y 0 HX.out.2 HP1.out.1 LY LZ HLY.out HLZ.out rfl rfl true (decide_eq_true H0.out) ?_; simp only [Act.put, List.setIfInBounds_toArray, List.set_cons_zero, List.set_cons_succ]))
  go_upto_region 7 with (first
    | (go_at_call 9; refine Calls.mono (HC2.out S1 RXS1.out RYS1.out) ?_; rintro e C2 ⟨rfl, q⟩; have RXC2 : Hid (Row C2 bx LX 29) := Row.below RXS1.out q RXS1.out.lt; have RYC2 : Hid (Row C2 by_ LY 29) := Row.below RYS1.out q RYS1.out.lt; have BC2 : Hid (Below w.heap.size w C2) := BS1.out.trans (q.mono BS1.out.size); clear q)
    | (refine wpList_allocW rfl rfl ?_; intro D2 q1 q2 q3; have RD2 : Hid (Row D2 C2.heap.size zW 29) := q1; have BD2 : Hid (Below C2.heap.size C2 D2) := q2; clear q1 q2 q3; simp only [Act.put, List.setIfInBounds_toArray, List.set_cons_zero, List.set_cons_succ])
    | (refine wpList_storeL rfl 29 (.tmp 8) (.tmp 45) rfl C2.heap.size zW zW 29 rfl rfl RD2.out rfl (info_zW) zW_one1 ?_; intro S2 q1 q2; have E2 : Hid (S2 = _) := q1; have RS2 : Hid (Row S2 C2.heap.size zW 29) := q2; clear q1 q2; simp only [Act.put]))
  have DS2 : Below C2.heap.size C2 S2 := by rw [E2.out]; exact below_setCells BD2.out (Nat.le_refl _) _
  have RXS2 : Hid (Row S2 bx LX 29) := Row.below RXC2.out DS2 RXC2.out.lt
  have RYS2 : Hid (Row S2 by_ LY 29) := Row.below RYC2.out DS2 RYC2.out.lt
  have BS2 : Hid (Below w.heap.size w S2) := BC2.out.trans (DS2.mono BC2.out.size)
  obtain ⟨o2, ho2⟩ : ∃ b, b = C2.heap.size := ⟨_, rfl⟩
  rw [← ho2] at RS2
  rw [← ho2]
  clear ho2
  go_upto_region 8 with (first
    | (go_at_call 9; refine Calls.mono (HC3.out S2 RXS2.out RYS2.out) ?_; rintro e C3 ⟨rfl, q⟩; have RXC3 : Hid (Row C3 bx LX 29) := Row.below RXS2.out q RXS2.out.lt; have RYC3 : Hid (Row C3 by_ LY 29) := Row.below RYS2.out q RYS2.out.lt; have BC3 : Hid (Below w.heap.size w C3) := BS2.out.trans (q.mono BS2.out.size); clear q)
    | (refine wpList_allocW rfl rfl ?_; intro D3 q1 q2 q3; have RD3 : Hid (Row D3 C3.heap.size zW 29) := q1; have BD3 : Hid (Below C3.heap.size C3 D3) := q2; clear q1 q2 q3; simp only [Act.put, List.setIfInBounds_toArray, List.set_cons_zero, List.set_cons_succ])
    | (refine wpList_storeL rfl 29 (.tmp 10) (.tmp 51) rfl C3.heap.size zW zW 29 rfl rfl RD3.out rfl (info_zW) zW_one1 ?_; intro S3 q1 q2; have E3 : Hid (S3 = _) := q1; have RS3 : Hid (Row S3 C3.heap.size zW 29) := q2; clear q1 q2; simp only [Act.put]))
  have DS3 : Below C3.heap.size C3 S3 := by rw [E3.out]; exact below_setCells BD3.out (Nat.le_refl _) _
  have RXS3 : Hid (Row S3 bx LX 29) := Row.below RXC3.out DS3 RXC3.out.lt
  have RYS3 : Hid (Row S3 by_ LY 29) := Row.below RYC3.out DS3 RYC3.out.lt
  have BS3 : Hid (Below w.heap.size w S3) := BC3.out.trans (DS3.mono BC3.out.size)
  obtain ⟨o3, ho3⟩ : ∃ b, b = C3.heap.size := ⟨_, rfl⟩
  rw [← ho3] at RS3
  rw [← ho3]
  clear ho3
  go_wp2_with (go_at_call 6; refine Calls.mono (alive_any S3) ?_; rintro e Z ⟨rfl, q⟩; have BZ : Hid (Below w.heap.size w Z) := BS3.out.trans (q.mono BS3.out.size); clear q)
  go_ret
  exact ⟨rfl, BZ.out⟩
set_option maxRecDepth 100000 in
set_option maxHeartbeats 4000000 in
theorem diff_00 (x y : Nat) (hx : x < 2 ^ 256) (hy : y < 2 ^ 256) (hs : ¬ x + y < 2 ^ 256) (h0 : y ≠ 0) (LX LY : List Value) (hLX : LX = wq x) (hLY : LY = wq y) (w : World) : Calls Try.prog 5 #[.agg LX.toArray, .agg LY.toArray] w fun e w' => e = .returned (.bool true) ∧ Below w.heap.size w w' := by
  have HX : Hid (x < 2 ^ 256 ∧ y < 2 ^ 256) := ⟨hx, hy⟩
  have HLX : Hid (LX = wq x) := hLX
  have HLY : Hid (LY = wq y) := hLY
  have HS : Hid (¬ x + y < 2 ^ 256) := hs
  have H0 : Hid (y ≠ 0) := h0
  have HIX : Hid ((Try.prog.info? 29).map (·.size) = some LX.length ∧ LX.length = zW.length ∧ LX.toArray.all (·.oneCell') = true) := by rw [hLX]; exact ⟨info_Wq _, wq_len _, wq_one _⟩
  have HIY : Hid ((Try.prog.info? 29).map (·.size) = some LY.length) := by rw [hLY]; exact info_Wq _
  obtain ⟨LO, hLO⟩ : ∃ L, L = wq 1 := ⟨_, rfl⟩
  have HLO : Hid (LO = wq 1) := hLO
  have HIO : Hid ((Try.prog.info? 29).map (·.size) = some LO.length ∧ LO.length = zW.length ∧ LO.toArray.all (·.oneCell') = true) := by rw [hLO]; exact ⟨info_Wq _, wq_len _, wq_one _⟩
  obtain ⟨LZ, hLZ⟩ : ∃ L, L = wq 0 := ⟨_, rfl⟩
  have HLZ : Hid (LZ = wq 0) := hLZ
  have HP1 : Hid (0 < 2 ^ 256 ∧ 1 < 2 ^ 256) := ⟨Nat.lt_of_lt_of_le (by decide : 0 < 2 ^ 8) (Nat.pow_le_pow_right (by decide) (by decide)), Nat.lt_of_lt_of_le (by decide : 1 < 2 ^ 8) (Nat.pow_le_pow_right (by decide) (by decide))⟩
  clear hx hy hLX hLY hs h0 hLO hLZ
  go_enter Try.func5, Try.ntmps5
  go_upto_region 1 with (first
    | (refine wpList_boxG 29 rfl (.tmp 0) rfl LX rfl ?_; intro X1 q1 q2 q3; have R1 : Hid (Row X1 w.heap.size LX 29) := q1; have B1 : Hid (Below w.heap.size w X1) := q2; clear q1 q2 q3; simp only [Act.put, List.setIfInBounds_toArray, List.set_cons_zero, List.set_cons_succ])
    | (refine wpList_boxG 29 rfl (.tmp 1) rfl LY rfl ?_; intro X2 q1 q2 q3; have RYX2 : Hid (Row X2 X1.heap.size LY 29) := q1; have RXX2 : Hid (Row X2 w.heap.size LX 29) := Row.below R1.out q2 R1.out.lt; have BX2 : Hid (Below w.heap.size w X2) := B1.out.trans (q2.mono B1.out.size); clear q1 q2 q3; simp only [Act.put, List.setIfInBounds_toArray, List.set_cons_zero, List.set_cons_succ]))
  obtain ⟨bx, hbx⟩ : ∃ b, b = w.heap.size := ⟨_, rfl⟩
  obtain ⟨by_, hby⟩ : ∃ b, b = X1.heap.size := ⟨_, rfl⟩
  rw [← hbx] at RXX2
  rw [← hby] at RYX2
  rw [← hbx, ← hby]
  clear hbx hby R1 B1
  have HC1 : Hid (∀ W, Row W bx LX 29 → Row W by_ LY 29 → Calls Try.prog 9 #[.slice (some ⟨W.heap.size, 0, none⟩) 5 5, .pointer (some ⟨bx, 0, none⟩), .pointer (some ⟨by_, 0, none⟩)] (W.alloc (Obj.cells #[.int .u8 6, .int .u8 16, .int .u8 1, .int .u8 7, .int .u8 1] 5)) fun e w' => e = .returned (.tuple #[.agg zW.toArray, .int .i64 104]) ∧ Below W.heap.size W w') := fun W c2 c3 => by
    have hB : Below W.heap.size W (W.alloc (Obj.cells #[.int .u8 6, .int .u8 16, .int .u8 1, .int .u8 7, .int .u8 1] 5)) := (Below.refl _ _).alloc (Nat.le_refl _) _
    have c1 : Row (W.alloc (Obj.cells #[.int .u8 6, .int .u8 16, .int .u8 1, .int .u8 7, .int .u8 1] 5)) W.heap.size (vB q1) 5 := Row.new' rfl rfl
    have q := two_ev q1 (h4 ++ q1) 5 9 6 i1 rfl rfl (by decide) (by decide) rfl ck1 rfl (by decide) x y ⟨HX.out.1, HX.out.2⟩ 104 0 _ (ev1_no x y HS.out) W.heap.size bx by_ _ c1 (by rw [← HLX.out]; exact Row.below c2 hB c2.lt) (by rw [← HLY.out]; exact Row.below c3 hB c3.lt)
    rw [show ans 104 0 = zW by rfl] at q
    exact q.mono (fun e w' hh => ⟨hh.1, hB.trans (hh.2.mono hB.size)⟩)
  have HC4 : Hid (∀ W, Row W bx LX 29 → Row W by_ LY 29 → Calls Try.prog 9 #[.slice (some ⟨W.heap.size, 0, none⟩) 11 11, .pointer (some ⟨bx, 0, none⟩), .pointer (some ⟨by_, 0, none⟩)] (W.alloc (Obj.cells #[.int .u8 9, .int .u8 16, .int .u8 1, .int .u8 8, .int .u8 16, .int .u8 0, .int .u8 16, .int .u8 1, .int .u8 10, .int .u8 6, .int .u8 1] 5)) fun e w' => e = .returned (.tuple #[.agg LX.toArray, .int .i64 0]) ∧ Below W.heap.size W w') := fun W c2 c3 => by
    have hB : Below W.heap.size W (W.alloc (Obj.cells #[.int .u8 9, .int .u8 16, .int .u8 1, .int .u8 8, .int .u8 16, .int .u8 0, .int .u8 16, .int .u8 1, .int .u8 10, .int .u8 6, .int .u8 1] 5)) := (Below.refl _ _).alloc (Nat.le_refl _) _
    have c1 : Row (W.alloc (Obj.cells #[.int .u8 9, .int .u8 16, .int .u8 1, .int .u8 8, .int .u8 16, .int .u8 0, .int .u8 16, .int .u8 1, .int .u8 10, .int .u8 6, .int .u8 1] 5)) W.heap.size (vB q4) 5 := Row.new' rfl rfl
    have q := two_ev q4 (h4 ++ q4) 11 15 10 i4 rfl rfl (by decide) (by decide) rfl ck4 rfl (by decide) x y ⟨HX.out.1, HX.out.2⟩ 0 x _ (ev4_ok x y HX.out.1 H0.out) W.heap.size bx by_ _ c1 (by rw [← HLX.out]; exact Row.below c2 hB c2.lt) (by rw [← HLY.out]; exact Row.below c3 hB c3.lt)
    rw [show ans 0 x = LX by rw [HLX.out]; rfl] at q
    exact q.mono (fun e w' hh => ⟨hh.1, hB.trans (hh.2.mono hB.size)⟩)
  have HC5 : Hid (∀ W, Row W bx LX 29 → Row W by_ LY 29 → Calls Try.prog 9 #[.slice (some ⟨W.heap.size, 0, none⟩) 5 5, .pointer (some ⟨bx, 0, none⟩), .pointer (some ⟨by_, 0, none⟩)] (W.alloc (Obj.cells #[.int .u8 10, .int .u8 16, .int .u8 1, .int .u8 11, .int .u8 1] 5)) fun e w' => e = .returned (.tuple #[.agg LO.toArray, .int .i64 0]) ∧ Below W.heap.size W w') := fun W c2 c3 => by
    have hB : Below W.heap.size W (W.alloc (Obj.cells #[.int .u8 10, .int .u8 16, .int .u8 1, .int .u8 11, .int .u8 1] 5)) := (Below.refl _ _).alloc (Nat.le_refl _) _
    have c1 : Row (W.alloc (Obj.cells #[.int .u8 10, .int .u8 16, .int .u8 1, .int .u8 11, .int .u8 1] 5)) W.heap.size (vB q5) 5 := Row.new' rfl rfl
    have q := two_ev q5 (h4 ++ q5) 5 9 6 i5 rfl rfl (by decide) (by decide) rfl ck5 rfl (by decide) x y ⟨HX.out.1, HX.out.2⟩ 0 1 _ (ev5_ok x y H0.out) W.heap.size bx by_ _ c1 (by rw [← HLX.out]; exact Row.below c2 hB c2.lt) (by rw [← HLY.out]; exact Row.below c3 hB c3.lt)
    rw [show ans 0 1 = LO by rw [HLO.out]; rfl] at q
    exact q.mono (fun e w' hh => ⟨hh.1, hB.trans (hh.2.mono hB.size)⟩)
  go_upto_region 3 with (first
    | (go_at_call 9; refine Calls.mono (HC1.out X2 RXX2.out RYX2.out) ?_; rintro e C1 ⟨rfl, q⟩; have RXC1 : Hid (Row C1 bx LX 29) := Row.below RXX2.out q RXX2.out.lt; have RYC1 : Hid (Row C1 by_ LY 29) := Row.below RYX2.out q RYX2.out.lt; have BC1 : Hid (Below w.heap.size w C1) := BX2.out.trans (q.mono BX2.out.size); clear q)
    | (refine wpList_allocW rfl rfl ?_; intro D1 q1 q2 q3; have RD1 : Hid (Row D1 C1.heap.size zW 29) := q1; have BD1 : Hid (Below C1.heap.size C1 D1) := q2; clear q1 q2 q3; simp only [Act.put, List.setIfInBounds_toArray, List.set_cons_zero, List.set_cons_succ])
    | (refine wpList_storeL rfl 29 (.tmp 6) (.tmp 21) rfl C1.heap.size zW zW 29 rfl rfl RD1.out rfl (info_zW) zW_one1 ?_; intro S1 q1 q2; have E1 : Hid (S1 = _) := q1; have RS1 : Hid (Row S1 C1.heap.size zW 29) := q2; clear q1 q2; simp only [Act.put]))
  have DS1 : Below C1.heap.size C1 S1 := by rw [E1.out]; exact below_setCells BD1.out (Nat.le_refl _) _
  have RXS1 : Hid (Row S1 bx LX 29) := Row.below RXC1.out DS1 RXC1.out.lt
  have RYS1 : Hid (Row S1 by_ LY 29) := Row.below RYC1.out DS1 RYC1.out.lt
  have BS1 : Hid (Below w.heap.size w S1) := BC1.out.trans (DS1.mono BC1.out.size)
  obtain ⟨o1, ho1⟩ : ∃ b, b = C1.heap.size := ⟨_, rfl⟩
  rw [← ho1] at RS1
  rw [← ho1]
  clear ho1
  go_upto_region 5 with fail
  go_upto_region 9 with (first
    | (refine wpList_load_w rfl 29 (.tmp 3) rfl by_ 0 rfl LY _ RYS1.out.all Try.underlying29 rfl HIY.out ?_; simp only [Act.put, List.setIfInBounds_toArray, List.set_cons_zero, List.set_cons_succ])
    | (refine wpList_bw0 rfl rfl LZ HLZ.out ?_; simp only [Act.put, List.setIfInBounds_toArray, List.set_cons_zero, List.set_cons_succ])
    | (refine wpList_eqlW rfl (.tmp 38) (.tmp 39) _ rfl y 0 HX.out.2 HP1.out.1 LY LZ HLY.out HLZ.out rfl rfl false (decide_eq_false H0.out) ?_; simp only [Act.put, List.setIfInBounds_toArray, List.set_cons_zero, List.set_cons_succ]))
  go_upto_region 10 with (first
    | (go_at_call 9; refine Calls.mono (HC4.out S1 RXS1.out RYS1.out) ?_; rintro e C4 ⟨rfl, q⟩; have RXC4 : Hid (Row C4 bx LX 29) := Row.below RXS1.out q RXS1.out.lt; have RYC4 : Hid (Row C4 by_ LY 29) := Row.below RYS1.out q RYS1.out.lt; have BC4 : Hid (Below w.heap.size w C4) := BS1.out.trans (q.mono BS1.out.size); clear q)
    | (refine wpList_allocW rfl rfl ?_; intro D4 q1 q2 q3; have RD4 : Hid (Row D4 C4.heap.size zW 29) := q1; have BD4 : Hid (Below C4.heap.size C4 D4) := q2; clear q1 q2 q3; simp only [Act.put, List.setIfInBounds_toArray, List.set_cons_zero, List.set_cons_succ])
    | (refine wpList_storeL rfl 29 (.tmp 12) (.tmp 66) rfl C4.heap.size LX zW 29 rfl rfl RD4.out HIX.out.2.1 HIX.out.1 HIX.out.2.2 ?_; intro S4 q1 q2; have E4 : Hid (S4 = _) := q1; have RS4 : Hid (Row S4 C4.heap.size LX 29) := q2; clear q1 q2; simp only [Act.put]))
  have DS4 : Below C4.heap.size C4 S4 := by rw [E4.out]; exact below_setCells BD4.out (Nat.le_refl _) _
  have RXS4 : Hid (Row S4 bx LX 29) := Row.below RXC4.out DS4 RXC4.out.lt
  have RYS4 : Hid (Row S4 by_ LY 29) := Row.below RYC4.out DS4 RYC4.out.lt
  have BS4 : Hid (Below w.heap.size w S4) := BC4.out.trans (DS4.mono BC4.out.size)
  obtain ⟨o4, ho4⟩ : ∃ b, b = C4.heap.size := ⟨_, rfl⟩
  rw [← ho4] at RS4
  rw [← ho4]
  clear ho4
  go_upto_region 11 with (first
    | (go_at_call 9; refine Calls.mono (HC5.out S4 RXS4.out RYS4.out) ?_; rintro e C5 ⟨rfl, q⟩; have RXC5 : Hid (Row C5 bx LX 29) := Row.below RXS4.out q RXS4.out.lt; have RYC5 : Hid (Row C5 by_ LY 29) := Row.below RYS4.out q RYS4.out.lt; have BC5 : Hid (Below w.heap.size w C5) := BS4.out.trans (q.mono BS4.out.size); have BQ5 : Hid (Below S4.heap.size S4 C5) := q; clear q)
    | (refine wpList_allocW rfl rfl ?_; intro D5 q1 q2 q3; have RD5 : Hid (Row D5 C5.heap.size zW 29) := q1; have BD5 : Hid (Below C5.heap.size C5 D5) := q2; clear q1 q2 q3; simp only [Act.put, List.setIfInBounds_toArray, List.set_cons_zero, List.set_cons_succ])
    | (refine wpList_storeL rfl 29 (.tmp 14) (.tmp 72) rfl C5.heap.size LO zW 29 rfl rfl RD5.out HIO.out.2.1 HIO.out.1 HIO.out.2.2 ?_; intro S5 q1 q2; have E5 : Hid (S5 = _) := q1; have RS5 : Hid (Row S5 C5.heap.size LO 29) := q2; clear q1 q2; simp only [Act.put]))
  have DS5 : Below C5.heap.size C5 S5 := by rw [E5.out]; exact below_setCells BD5.out (Nat.le_refl _) _
  have RXS5 : Hid (Row S5 bx LX 29) := Row.below RXC5.out DS5 RXC5.out.lt
  have RYS5 : Hid (Row S5 by_ LY 29) := Row.below RYC5.out DS5 RYC5.out.lt
  have BS5 : Hid (Below w.heap.size w S5) := BC5.out.trans (DS5.mono BC5.out.size)
  obtain ⟨o5, ho5⟩ : ∃ b, b = C5.heap.size := ⟨_, rfl⟩
  rw [← ho5] at RS5
  rw [← ho5]
  clear ho5
  have RS45 : Hid (Row S5 o4 LX 29) := by
    have r2 := Row.below RS4.out BQ5.out RS4.out.lt
    exact Row.below r2 DS5 r2.lt
  go_wp2_with (first
    | (refine wpList_load_w rfl 29 (.tmp 12) rfl o4 0 rfl LX _ RS45.out.all Try.underlying29 rfl HIX.out.1 ?_; simp only [Act.put, List.setIfInBounds_toArray, List.set_cons_zero, List.set_cons_succ])
    | (refine wpList_load_w rfl 29 (.tmp 2) rfl bx 0 rfl LX _ RXS5.out.all Try.underlying29 rfl HIX.out.1 ?_; simp only [Act.put, List.setIfInBounds_toArray, List.set_cons_zero, List.set_cons_succ])
    | (refine wpList_eqlW rfl (.tmp 77) (.tmp 78) _ rfl x x HX.out.1 HX.out.1 LX LX HLX.out HLX.out rfl rfl true (decide_eq_true rfl) ?_; simp only [Act.put, List.setIfInBounds_toArray, List.set_cons_zero, List.set_cons_succ])
    | (refine wpList_load_w rfl 29 (.tmp 14) rfl o5 0 rfl LO _ RS5.out.all Try.underlying29 rfl HIO.out.1 ?_; simp only [Act.put, List.setIfInBounds_toArray, List.set_cons_zero, List.set_cons_succ])
    | (refine wpList_bw1 rfl rfl LO HLO.out ?_; simp only [Act.put, List.setIfInBounds_toArray, List.set_cons_zero, List.set_cons_succ])
    | (refine wpList_eqlW rfl (.tmp 86) (.tmp 87) _ rfl 1 1 HP1.out.2 HP1.out.2 LO LO HLO.out HLO.out rfl rfl true (decide_eq_true rfl) ?_; simp only [Act.put, List.setIfInBounds_toArray, List.set_cons_zero, List.set_cons_succ])
    | (go_at_call 6; refine Calls.mono (alive_any S5) ?_; rintro e Z ⟨rfl, q⟩; have BZ : Hid (Below w.heap.size w Z) := BS5.out.trans (q.mono BS5.out.size); clear q))
  go_ret
  exact ⟨rfl, BZ.out⟩
theorem diff_walk (x y : Nat) (hx : x < 2 ^ 256) (hy : y < 2 ^ 256) (w : World) : Calls Try.prog 5 #[.agg (wq x).toArray, .agg (wq y).toArray] w fun e w' => e = .returned (.bool true) ∧ Below w.heap.size w w' := by
  by_cases hs : x + y < 2 ^ 256
  · by_cases h0 : y = 0
    · exact diff_11 x y hx hy hs h0 _ _ rfl rfl w
    · exact diff_10 x y hx hy hs h0 _ _ rfl rfl w
  · by_cases h0 : y = 0
    · exact diff_01 x y hx hy hs h0 _ _ rfl rfl w
    · exact diff_00 x y hx hy hs h0 _ _ rfl rfl w

end Go.Proofs.Ytdlmighfmkhpkaa
