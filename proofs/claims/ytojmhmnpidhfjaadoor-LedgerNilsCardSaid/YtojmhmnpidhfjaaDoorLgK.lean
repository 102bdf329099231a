/-
  laid.
-/
import Derived.Test.YtojmhmnpidhfjaaDoorLgJ
namespace Go.Proofs.YtojmhmnpidhfjaaDoor
open Go Go.RowKit Go.Maps
open Sha
open Wd


set_option maxRecDepth 100000 in
theorem laid_some (n : Nat) (hn : n < 1000000) (hn0 : n ≠ 0) (w : World) : Calls Tryd.prog 50 #[.agg #[.int .u64 (n : Int), .int .u64 0, .int .u64 0, .int .u64 0]] w fun e w' => ∃ N, w.heap.size ≤ N ∧ Row w' N (vB (wB n)) 5 ∧ e = .returned (.slice (some ⟨N, 0, none⟩) 32 32) ∧ Below w.heap.size w w' := by
  obtain ⟨W1, hW1, r1, b1⟩ : ∃ W, W = w.alloc (Obj.cells #[.int .u64 (n : Int), .int .u64 0, .int .u64 0, .int .u64 0] 26) ∧ Row W w.heap.size [.int .u64 (n : Int), .int .u64 0, .int .u64 0, .int .u64 0] 26 ∧ Below w.heap.size w W := ⟨_, rfl, Row.new' rfl rfl, (Below.refl _ _).alloc (Nat.le_refl _) _⟩
  have HZ : Hid _ := zeroS n hn false (decide_eq_false hn0) W1
  have HW : Hid (W1 = _) := hW1
  have R1 : Hid (Row W1 w.heap.size [.int .u64 (n : Int), .int .u64 0, .int .u64 0, .int .u64 0] 26) := r1
  have HB : Hid (Below w.heap.size w W1) := b1
  have x0 := r1.cell 0 _ rfl
  have x1 := r1.cell 1 _ rfl
  have x2 := r1.cell 2 _ rfl
  have x3 := r1.cell 3 _ rfl
  clear hW1 r1 b1 hn0
  go_enter Tryd.func50, Tryd.ntmps50
  go_upto_region 1 with fail
  rw [← HW.out]
  clear HW
  go_wp2_with fail
  refine Calls.mono HZ.out ?_
  rintro e V ⟨rfl, hB⟩
  have r1 := Row.below R1.out hB R1.out.lt
  have y0 := r1.cell 0 _ rfl
  have y1 := r1.cell 1 _ rfl
  have y2 := r1.cell 2 _ rfl
  have y3 := r1.cell 3 _ rfl
  replace HB : Hid (Below w.heap.size w V) := HB.out.trans (hB.mono HB.out.size)
  clear hB HZ x0 x1 x2 x3 r1 R1
  go_wp2_with fail
  refine Calls.mono (bytesS n hn V) ?_
  rintro e V2 ⟨N, hN, rN, rfl, hB⟩
  have HQ : Hid (w.heap.size ≤ N ∧ Row V2 N (vB (wB n)) 5 ∧ Below w.heap.size w V2) := ⟨Nat.le_trans HB.out.size hN, rN, HB.out.trans (hB.mono HB.out.size)⟩
  clear hN rN hB
  go_wp2_with fail
  go_ret
  exact ⟨N, HQ.out.1, HQ.out.2.1, rfl, HQ.out.2.2⟩

end Go.Proofs.YtojmhmnpidhfjaaDoor
