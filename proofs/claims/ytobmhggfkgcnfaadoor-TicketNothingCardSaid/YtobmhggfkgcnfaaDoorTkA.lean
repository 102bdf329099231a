/-
  tickets: numbers in eight bytes, keys.
-/
import Derived.Test.YtobmhggfkgcnfaaDoorLgD
import Derived.Test.YtobmhggfkgcnfaaDoorTFp
import Derived.LoopN
namespace Go.Proofs.YtobmhggfkgcnfaaDoor
open Go Go.RowKit Go.Maps
open Sha
open Wd

set_option maxRecDepth 100000 in
set_option maxHeartbeats 1000000 in
theorem eight_1 (w : World) : Calls Tryd.prog 16 #[.int .i64 1] w fun e w' => ∃ N, w.heap.size ≤ N ∧ Row w' N (vB [0#8, 0#8, 0#8, 0#8, 0#8, 0#8, 0#8, 1#8]) 5 ∧ e = .returned (.slice (some ⟨N, 0, none⟩) 8 8) ∧ Below w.heap.size w w' := by
  obtain ⟨X0, hX, r0, b0⟩ : ∃ X, X = w.alloc (Obj.cells (vB [0#8, 0#8, 0#8, 0#8, 0#8, 0#8, 0#8, 0#8]).toArray 5) ∧ Row X w.heap.size (vB [0#8, 0#8, 0#8, 0#8, 0#8, 0#8, 0#8, 0#8]) 5 ∧ Below w.heap.size w X := ⟨_, rfl, Row.new' rfl rfl, (Below.refl _ _).alloc (Nat.le_refl _) _⟩
  have HX : Hid (X0 = _) := hX
  have R0 : Hid (Row X0 w.heap.size (vB [0#8, 0#8, 0#8, 0#8, 0#8, 0#8, 0#8, 0#8]) 5) := r0
  have B0 : Hid (Below w.heap.size w X0) := b0
  clear hX r0 b0
  go_enter Tryd.func16, Tryd.ntmps16
  go_wp2_with (refine wpList_make_u rfl 46 (.const (.int .i64 8)) (.const (.int .i64 8)) rfl 5 8 _ _ rfl rfl rfl rfl (by decide) Tryd.underlying46 info_all_u8 ?_; simp only [Act.put, List.setIfInBounds_toArray, List.set_cons_zero, List.set_cons_succ])
  refine wp_loop_rounds 9 ?_
  change Code.rounds _ _ _ _ _ (World.alloc w (Obj.cells (vB [0#8, 0#8, 0#8, 0#8, 0#8, 0#8, 0#8, 0#8]).toArray 5))
  rw [← HX.out]
  clear HX
  rw [rounds_succ]
  have c0 := R0.out.cell 7 _ rfl
  have z0 := R0.out.thaw 7
  obtain ⟨X1, hX, r1, b1⟩ : ∃ X, X = X0.setCell ⟨w.heap.size, 7, none⟩ (.int .u8 1) ∧ Row X w.heap.size (vB [0#8, 0#8, 0#8, 0#8, 0#8, 0#8, 0#8, 1#8]) 5 ∧ Below w.heap.size w X := ⟨_, rfl, R0.out.set 7 (.int .u8 1), B0.out.setCell (Nat.le_refl _) _⟩
  have HX : Hid (X1 = _) := hX
  have R1 : Hid (Row X1 w.heap.size (vB [0#8, 0#8, 0#8, 0#8, 0#8, 0#8, 0#8, 1#8]) 5) := r1
  have B1 : Hid (Below w.heap.size w X1) := b1
  clear hX r1 b1
  go_wp2_with fail
  rw [← HX.out]
  clear HX c0 z0 R0 B0
  rw [rounds_succ]
  have c1 := R1.out.cell 6 _ rfl
  have z1 := R1.out.thaw 6
  obtain ⟨X2, hX, r2, b2⟩ : ∃ X, X = X1.setCell ⟨w.heap.size, 6, none⟩ (.int .u8 0) ∧ Row X w.heap.size (vB [0#8, 0#8, 0#8, 0#8, 0#8, 0#8, 0#8, 1#8]) 5 ∧ Below w.heap.size w X := ⟨_, rfl, R1.out.set 6 (.int .u8 0), B1.out.setCell (Nat.le_refl _) _⟩
  have HX : Hid (X2 = _) := hX
  have R2 : Hid (Row X2 w.heap.size (vB [0#8, 0#8, 0#8, 0#8, 0#8, 0#8, 0#8, 1#8]) 5) := r2
  have B2 : Hid (Below w.heap.size w X2) := b2
  clear hX r2 b2
  go_wp2_with fail
  rw [← HX.out]
  clear HX c1 z1 R1 B1
  rw [rounds_succ]
  have c2 := R2.out.cell 5 _ rfl
  have z2 := R2.out.thaw 5
  obtain ⟨X3, hX, r3, b3⟩ : ∃ X, X = X2.setCell ⟨w.heap.size, 5, none⟩ (.int .u8 0) ∧ Row X w.heap.size (vB [0#8, 0#8, 0#8, 0#8, 0#8, 0#8, 0#8, 1#8]) 5 ∧ Below w.heap.size w X := ⟨_, rfl, R2.out.set 5 (.int .u8 0), B2.out.setCell (Nat.le_refl _) _⟩
  have HX : Hid (X3 = _) := hX
  have R3 : Hid (Row X3 w.heap.size (vB [0#8, 0#8, 0#8, 0#8, 0#8, 0#8, 0#8, 1#8]) 5) := r3
  have B3 : Hid (Below w.heap.size w X3) := b3
  clear hX r3 b3
  go_wp2_with fail
  rw [← HX.out]
  clear HX c2 z2 R2 B2
  rw [rounds_succ]
  have c3 := R3.out.cell 4 _ rfl
  have z3 := R3.out.thaw 4
  obtain ⟨X4, hX, r4, b4⟩ : ∃ X, X = X3.setCell ⟨w.heap.size, 4, none⟩ (.int .u8 0) ∧ Row X w.heap.size (vB [0#8, 0#8, 0#8, 0#8, 0#8, 0#8, 0#8, 1#8]) 5 ∧ Below w.heap.size w X := ⟨_, rfl, R3.out.set 4 (.int .u8 0), B3.out.setCell (Nat.le_refl _) _⟩
  have HX : Hid (X4 = _) := hX
  have R4 : Hid (Row X4 w.heap.size (vB [0#8, 0#8, 0#8, 0#8, 0#8, 0#8, 0#8, 1#8]) 5) := r4
  have B4 : Hid (Below w.heap.size w X4) := b4
  clear hX r4 b4
  go_wp2_with fail
  rw [← HX.out]
  clear HX c3 z3 R3 B3
  rw [rounds_succ]
  have c4 := R4.out.cell 3 _ rfl
  have z4 := R4.out.thaw 3
  obtain ⟨X5, hX, r5, b5⟩ : ∃ X, X = X4.setCell ⟨w.heap.size, 3, none⟩ (.int .u8 0) ∧ Row X w.heap.size (vB [0#8, 0#8, 0#8, 0#8, 0#8, 0#8, 0#8, 1#8]) 5 ∧ Below w.heap.size w X := ⟨_, rfl, R4.out.set 3 (.int .u8 0), B4.out.setCell (Nat.le_refl _) _⟩
  have HX : Hid (X5 = _) := hX
  have R5 : Hid (Row X5 w.heap.size (vB [0#8, 0#8, 0#8, 0#8, 0#8, 0#8, 0#8, 1#8]) 5) := r5
  have B5 : Hid (Below w.heap.size w X5) := b5
  clear hX r5 b5
  go_wp2_with fail
  rw [← HX.out]
  clear HX c4 z4 R4 B4
  rw [rounds_succ]
  have c5 := R5.out.cell 2 _ rfl
  have z5 := R5.out.thaw 2
  obtain ⟨X6, hX, r6, b6⟩ : ∃ X, X = X5.setCell ⟨w.heap.size, 2, none⟩ (.int .u8 0) ∧ Row X w.heap.size (vB [0#8, 0#8, 0#8, 0#8, 0#8, 0#8, 0#8, 1#8]) 5 ∧ Below w.heap.size w X := ⟨_, rfl, R5.out.set 2 (.int .u8 0), B5.out.setCell (Nat.le_refl _) _⟩
  have HX : Hid (X6 = _) := hX
  have R6 : Hid (Row X6 w.heap.size (vB [0#8, 0#8, 0#8, 0#8, 0#8, 0#8, 0#8, 1#8]) 5) := r6
  have B6 : Hid (Below w.heap.size w X6) := b6
  clear hX r6 b6
  go_wp2_with fail
  rw [← HX.out]
  clear HX c5 z5 R5 B5
  rw [rounds_succ]
  have c6 := R6.out.cell 1 _ rfl
  have z6 := R6.out.thaw 1
  obtain ⟨X7, hX, r7, b7⟩ : ∃ X, X = X6.setCell ⟨w.heap.size, 1, none⟩ (.int .u8 0) ∧ Row X w.heap.size (vB [0#8, 0#8, 0#8, 0#8, 0#8, 0#8, 0#8, 1#8]) 5 ∧ Below w.heap.size w X := ⟨_, rfl, R6.out.set 1 (.int .u8 0), B6.out.setCell (Nat.le_refl _) _⟩
  have HX : Hid (X7 = _) := hX
  have R7 : Hid (Row X7 w.heap.size (vB [0#8, 0#8, 0#8, 0#8, 0#8, 0#8, 0#8, 1#8]) 5) := r7
  have B7 : Hid (Below w.heap.size w X7) := b7
  clear hX r7 b7
  go_wp2_with fail
  rw [← HX.out]
  clear HX c6 z6 R6 B6
  rw [rounds_succ]
  have c7 := R7.out.cell 0 _ rfl
  have z7 := R7.out.thaw 0
  obtain ⟨X8, hX, r8, b8⟩ : ∃ X, X = X7.setCell ⟨w.heap.size, 0, none⟩ (.int .u8 0) ∧ Row X w.heap.size (vB [0#8, 0#8, 0#8, 0#8, 0#8, 0#8, 0#8, 1#8]) 5 ∧ Below w.heap.size w X := ⟨_, rfl, R7.out.set 0 (.int .u8 0), B7.out.setCell (Nat.le_refl _) _⟩
  have HX : Hid (X8 = _) := hX
  have R8 : Hid (Row X8 w.heap.size (vB [0#8, 0#8, 0#8, 0#8, 0#8, 0#8, 0#8, 1#8]) 5) := r8
  have B8 : Hid (Below w.heap.size w X8) := b8
  clear hX r8 b8
  go_wp2_with fail
  rw [← HX.out]
  clear HX c7 z7 R7 B7
  rw [rounds_succ]
  go_wp2_with fail
  go_ret
  exact ⟨w.heap.size, Nat.le_refl _, R8.out, rfl, B8.out⟩
set_option maxRecDepth 100000 in
set_option maxHeartbeats 1000000 in
theorem eight_7 (w : World) : Calls Tryd.prog 16 #[.int .i64 7] w fun e w' => ∃ N, w.heap.size ≤ N ∧ Row w' N (vB [0#8, 0#8, 0#8, 0#8, 0#8, 0#8, 0#8, 7#8]) 5 ∧ e = .returned (.slice (some ⟨N, 0, none⟩) 8 8) ∧ Below w.heap.size w w' := by
  obtain ⟨X0, hX, r0, b0⟩ : ∃ X, X = w.alloc (Obj.cells (vB [0#8, 0#8, 0#8, 0#8, 0#8, 0#8, 0#8, 0#8]).toArray 5) ∧ Row X w.heap.size (vB [0#8, 0#8, 0#8, 0#8, 0#8, 0#8, 0#8, 0#8]) 5 ∧ Below w.heap.size w X := ⟨_, rfl, Row.new' rfl rfl, (Below.refl _ _).alloc (Nat.le_refl _) _⟩
  have HX : Hid (X0 = _) := hX
  have R0 : Hid (Row X0 w.heap.size (vB [0#8, 0#8, 0#8, 0#8, 0#8, 0#8, 0#8, 0#8]) 5) := r0
  have B0 : Hid (Below w.heap.size w X0) := b0
  clear hX r0 b0
  go_enter Tryd.func16, Tryd.ntmps16
  go_wp2_with (refine wpList_make_u rfl 46 (.const (.int .i64 8)) (.const (.int .i64 8)) rfl 5 8 _ _ rfl rfl rfl rfl (by decide) Tryd.underlying46 info_all_u8 ?_; simp only [Act.put, List.setIfInBounds_toArray, List.set_cons_zero, List.set_cons_succ])
  refine wp_loop_rounds 9 ?_
  change Code.rounds _ _ _ _ _ (World.alloc w (Obj.cells (vB [0#8, 0#8, 0#8, 0#8, 0#8, 0#8, 0#8, 0#8]).toArray 5))
  rw [← HX.out]
  clear HX
  rw [rounds_succ]
  have c0 := R0.out.cell 7 _ rfl
  have z0 := R0.out.thaw 7
  obtain ⟨X1, hX, r1, b1⟩ : ∃ X, X = X0.setCell ⟨w.heap.size, 7, none⟩ (.int .u8 7) ∧ Row X w.heap.size (vB [0#8, 0#8, 0#8, 0#8, 0#8, 0#8, 0#8, 7#8]) 5 ∧ Below w.heap.size w X := ⟨_, rfl, R0.out.set 7 (.int .u8 7), B0.out.setCell (Nat.le_refl _) _⟩
  have HX : Hid (X1 = _) := hX
  have R1 : Hid (Row X1 w.heap.size (vB [0#8, 0#8, 0#8, 0#8, 0#8, 0#8, 0#8, 7#8]) 5) := r1
  have B1 : Hid (Below w.heap.size w X1) := b1
  clear hX r1 b1
  go_wp2_with fail
  rw [← HX.out]
  clear HX c0 z0 R0 B0
  rw [rounds_succ]
  have c1 := R1.out.cell 6 _ rfl
  have z1 := R1.out.thaw 6
  obtain ⟨X2, hX, r2, b2⟩ : ∃ X, X = X1.setCell ⟨w.heap.size, 6, none⟩ (.int .u8 0) ∧ Row X w.heap.size (vB [0#8, 0#8, 0#8, 0#8, 0#8, 0#8, 0#8, 7#8]) 5 ∧ Below w.heap.size w X := ⟨_, rfl, R1.out.set 6 (.int .u8 0), B1.out.setCell (Nat.le_refl _) _⟩
  have HX : Hid (X2 = _) := hX
  have R2 : Hid (Row X2 w.heap.size (vB [0#8, 0#8, 0#8, 0#8, 0#8, 0#8, 0#8, 7#8]) 5) := r2
  have B2 : Hid (Below w.heap.size w X2) := b2
  clear hX r2 b2
  go_wp2_with fail
  rw [← HX.out]
  clear HX c1 z1 R1 B1
  rw [rounds_succ]
  have c2 := R2.out.cell 5 _ rfl
  have z2 := R2.out.thaw 5
  obtain ⟨X3, hX, r3, b3⟩ : ∃ X, X = X2.setCell ⟨w.heap.size, 5, none⟩ (.int .u8 0) ∧ Row X w.heap.size (vB [0#8, 0#8, 0#8, 0#8, 0#8, 0#8, 0#8, 7#8]) 5 ∧ Below w.heap.size w X := ⟨_, rfl, R2.out.set 5 (.int .u8 0), B2.out.setCell (Nat.le_refl _) _⟩
  have HX : Hid (X3 = _) := hX
  have R3 : Hid (Row X3 w.heap.size (vB [0#8, 0#8, 0#8, 0#8, 0#8, 0#8, 0#8, 7#8]) 5) := r3
  have B3 : Hid (Below w.heap.size w X3) := b3
  clear hX r3 b3
  go_wp2_with fail
  rw [← HX.out]
  clear HX c2 z2 R2 B2
  rw [rounds_succ]
  have c3 := R3.out.cell 4 _ rfl
  have z3 := R3.out.thaw 4
  obtain ⟨X4, hX, r4, b4⟩ : ∃ X, X = X3.setCell ⟨w.heap.size, 4, none⟩ (.int .u8 0) ∧ Row X w.heap.size (vB [0#8, 0#8, 0#8, 0#8, 0#8, 0#8, 0#8, 7#8]) 5 ∧ Below w.heap.size w X := ⟨_, rfl, R3.out.set 4 (.int .u8 0), B3.out.setCell (Nat.le_refl _) _⟩
  have HX : Hid (X4 = _) := hX
  have R4 : Hid (Row X4 w.heap.size (vB [0#8, 0#8, 0#8, 0#8, 0#8, 0#8, 0#8, 7#8]) 5) := r4
  have B4 : Hid (Below w.heap.size w X4) := b4
  clear hX r4 b4
  go_wp2_with fail
  rw [← HX.out]
  clear HX c3 z3 R3 B3
  rw [rounds_succ]
  have c4 := R4.out.cell 3 _ rfl
  have z4 := R4.out.thaw 3
  obtain ⟨X5, hX, r5, b5⟩ : ∃ X, X = X4.setCell ⟨w.heap.size, 3, none⟩ (.int .u8 0) ∧ Row X w.heap.size (vB [0#8, 0#8, 0#8, 0#8, 0#8, 0#8, 0#8, 7#8]) 5 ∧ Below w.heap.size w X := ⟨_, rfl, R4.out.set 3 (.int .u8 0), B4.out.setCell (Nat.le_refl _) _⟩
  have HX : Hid (X5 = _) := hX
  have R5 : Hid (Row X5 w.heap.size (vB [0#8, 0#8, 0#8, 0#8, 0#8, 0#8, 0#8, 7#8]) 5) := r5
  have B5 : Hid (Below w.heap.size w X5) := b5
  clear hX r5 b5
  go_wp2_with fail
  rw [← HX.out]
  clear HX c4 z4 R4 B4
  rw [rounds_succ]
  have c5 := R5.out.cell 2 _ rfl
  have z5 := R5.out.thaw 2
  obtain ⟨X6, hX, r6, b6⟩ : ∃ X, X = X5.setCell ⟨w.heap.size, 2, none⟩ (.int .u8 0) ∧ Row X w.heap.size (vB [0#8, 0#8, 0#8, 0#8, 0#8, 0#8, 0#8, 7#8]) 5 ∧ Below w.heap.size w X := ⟨_, rfl, R5.out.set 2 (.int .u8 0), B5.out.setCell (Nat.le_refl _) _⟩
  have HX : Hid (X6 = _) := hX
  have R6 : Hid (Row X6 w.heap.size (vB [0#8, 0#8, 0#8, 0#8, 0#8, 0#8, 0#8, 7#8]) 5) := r6
  have B6 : Hid (Below w.heap.size w X6) := b6
  clear hX r6 b6
  go_wp2_with fail
  rw [← HX.out]
  clear HX c5 z5 R5 B5
  rw [rounds_succ]
  have c6 := R6.out.cell 1 _ rfl
  have z6 := R6.out.thaw 1
  obtain ⟨X7, hX, r7, b7⟩ : ∃ X, X = X6.setCell ⟨w.heap.size, 1, none⟩ (.int .u8 0) ∧ Row X w.heap.size (vB [0#8, 0#8, 0#8, 0#8, 0#8, 0#8, 0#8, 7#8]) 5 ∧ Below w.heap.size w X := ⟨_, rfl, R6.out.set 1 (.int .u8 0), B6.out.setCell (Nat.le_refl _) _⟩
  have HX : Hid (X7 = _) := hX
  have R7 : Hid (Row X7 w.heap.size (vB [0#8, 0#8, 0#8, 0#8, 0#8, 0#8, 0#8, 7#8]) 5) := r7
  have B7 : Hid (Below w.heap.size w X7) := b7
  clear hX r7 b7
  go_wp2_with fail
  rw [← HX.out]
  clear HX c6 z6 R6 B6
  rw [rounds_succ]
  have c7 := R7.out.cell 0 _ rfl
  have z7 := R7.out.thaw 0
  obtain ⟨X8, hX, r8, b8⟩ : ∃ X, X = X7.setCell ⟨w.heap.size, 0, none⟩ (.int .u8 0) ∧ Row X w.heap.size (vB [0#8, 0#8, 0#8, 0#8, 0#8, 0#8, 0#8, 7#8]) 5 ∧ Below w.heap.size w X := ⟨_, rfl, R7.out.set 0 (.int .u8 0), B7.out.setCell (Nat.le_refl _) _⟩
  have HX : Hid (X8 = _) := hX
  have R8 : Hid (Row X8 w.heap.size (vB [0#8, 0#8, 0#8, 0#8, 0#8, 0#8, 0#8, 7#8]) 5) := r8
  have B8 : Hid (Below w.heap.size w X8) := b8
  clear hX r8 b8
  go_wp2_with fail
  rw [← HX.out]
  clear HX c7 z7 R7 B7
  rw [rounds_succ]
  go_wp2_with fail
  go_ret
  exact ⟨w.heap.size, Nat.le_refl _, R8.out, rfl, B8.out⟩

end Go.Proofs.YtobmhggfkgcnfaaDoor
