/-
  wide.Cmp.
-/
import Derived.Test.YtclbiophgnkggaaGreatDoorWMul
namespace Go.Proofs.YtclbiophgnkggaaGreatDoor
open Go Go.RowKit
open Wd

set_option maxRecDepth 100000 in
set_option maxHeartbeats 2000000 in
theorem cmp_any (a b : Nat) (ha : a < 2 ^ 256) (hb : b < 2 ^ 256) (w : World) :
    Calls Tryz.prog 74 #[.agg (vQ (dgs a 4)).toArray, .agg (vQ (dgs b 4)).toArray] w fun e w' => e = .returned (.int .i64 (cmpR a b)) ∧ Below w.heap.size w w' := by
  have HS : Hid (∀ w, _) := sub_any a b ha hb
  obtain ⟨ca, hca⟩ : ∃ ca, ca = vQ (dgs a 4) := ⟨_, rfl⟩
  obtain ⟨cb, hcb⟩ : ∃ cb, cb = vQ (dgs b 4) := ⟨_, rfl⟩
  obtain ⟨cs, hcs⟩ : ∃ cs, cs = vQ (dgs (subR a b) 4) := ⟨_, rfl⟩
  have HCA : Hid (ca = vQ (dgs a 4)) := hca
  have HCB : Hid (cb = vQ (dgs b 4)) := hcb
  rw [← hca, ← hcb, ← hcs] at HS
  rw [← hca, ← hcb]
  have la : ca.length = 4 := by rw [hca, vQ_length, dgs_length]
  have lb : cb.length = 4 := by rw [hcb, vQ_length, dgs_length]
  have lc : cs.length = 4 := by rw [hcs, vQ_length, dgs_length]
  have ia : (Tryz.prog.info? 37).map (·.size) = some ca.length := by rw [info_w4, la]
  have ib : (Tryz.prog.info? 37).map (·.size) = some cb.length := by rw [info_w4, lb]
  have ic' : (Tryz.prog.info? 37).map (·.size) = some cs.toArray.size := by rw [info_w4]; simp [lc]
  have o1 := all_oneCell_toArray (show ∀ v ∈ cs, v.oneCell' = true by rw [hcs]; exact vQ_one _)
  have HLC : Hid (cs.length = 4) := lc
  clear hca hcb hcs la lb lc
  have rA : Row ((w.alloc (Obj.cells ca.toArray 37)).alloc (Obj.cells cb.toArray 37)) w.heap.size ca 37 := (Row.new w ca _).alloc _
  have rB : Row ((w.alloc (Obj.cells ca.toArray 37)).alloc (Obj.cells cb.toArray 37)) (w.heap.size + 1) cb 37 := Row.new' (by simp) rfl
  have hb0 : Below w.heap.size w ((w.alloc (Obj.cells ca.toArray 37)).alloc (Obj.cells cb.toArray 37)) := ((Below.refl _ _).alloc (Nat.le_refl _) _).alloc (by simp) _
  by_cases he : a = b
  · have HE : Hid (cmpR a b = 0) := if_pos he
    have hd : decide (a = b) = true := decide_eq_true he
    go_enter Tryz.func74, Tryz.ntmps74
    go_wp2_with (first
      | (refine wpList_load_mid rfl 37 (.tmp 2) rfl w.heap.size 0 rfl ca _ rA.all Tryz.underlying37 rfl ia ?_; simp only [Act.put, List.setIfInBounds_toArray, List.set_cons_zero, List.set_cons_succ])
      | (refine wpList_load_mid rfl 37 (.tmp 3) rfl (w.heap.size + 1) 0 rfl cb _ rB.all Tryz.underlying37 rfl ib ?_; simp only [Act.put, List.setIfInBounds_toArray, List.set_cons_zero, List.set_cons_succ])
      | (refine wpList_eql_wide rfl (.tmp 7) (.tmp 8) 37 rfl a b ha hb (by rw [← HCA.out]; rfl) (by rw [← HCB.out]; rfl) ?_; rw [hd]; simp only [Act.put, List.setIfInBounds_toArray, List.set_cons_zero, List.set_cons_succ]))
    go_ret
    exact ⟨by rw [HE.out]; rfl, hb0⟩
  · have hd : decide (a = b) = false := decide_eq_false he
    have HE : Hid (cmpR a b = if a < b then -1 else 1) := if_neg he
    clear he
    go_enter Tryz.func74, Tryz.ntmps74
    go_wp2_with (first
      | (refine wpList_load_mid rfl 37 (.tmp 2) rfl w.heap.size 0 rfl ca _ rA.all Tryz.underlying37 rfl ia ?_; simp only [Act.put, List.setIfInBounds_toArray, List.set_cons_zero, List.set_cons_succ])
      | (refine wpList_load_mid rfl 37 (.tmp 3) rfl (w.heap.size + 1) 0 rfl cb _ rB.all Tryz.underlying37 rfl ib ?_; simp only [Act.put, List.setIfInBounds_toArray, List.set_cons_zero, List.set_cons_succ])
      | (refine wpList_eql_wide rfl (.tmp 7) (.tmp 8) 37 rfl a b ha hb (by rw [← HCA.out]; rfl) (by rw [← HCB.out]; rfl) ?_; rw [hd]; simp only [Act.put, List.setIfInBounds_toArray, List.set_cons_zero, List.set_cons_succ]))
    refine (HS.out _).mono ?_
    rintro e W1 ⟨rfl, hB1⟩
    have hb1 := hb0.trans (hB1.mono hb0.size)
    have n5 : Row (W1.alloc (Obj.cells #[Value.int IntKind.u64 0, Value.int IntKind.u64 0, Value.int IntKind.u64 0, Value.int IntKind.u64 0] 37)) W1.heap.size (vQ (List.replicate 4 0)) 37 := Row.new' rfl rfl
    have T5 := n5.there 0 cs.toArray.size (by simp [HLC.out, vQ_length])
    have hb2 : Below w.heap.size w ((W1.alloc (Obj.cells #[Value.int IntKind.u64 0, Value.int IntKind.u64 0, Value.int IntKind.u64 0, Value.int IntKind.u64 0] 37)).setCells W1.heap.size 0 cs) := below_setCells (hb1.alloc hb1.size _) hb1.size _
    clear n5 hB1 rA rB hb0
    by_cases hl : a < b
    · have hs : subE a b = 23 := if_pos hl
      rw [hs]
      have HR : Hid (cmpR a b = -1) := by show _ = _; rw [HE.out, if_pos hl]
      clear hl hs hd
      go_wp2_with (refine wpList_store_mid rfl 37 (.tmp 5) (.tmp 14) rfl W1.heap.size 0 cs.toArray rfl rfl T5 ic' o1 ?_; simp only [Act.put])
      go_ret
      exact ⟨by rw [HR.out]; rfl, hb2⟩
    · have hs : subE a b = 0 := if_neg hl
      rw [hs]
      have HR : Hid (cmpR a b = 1) := by show _ = _; rw [HE.out, if_neg hl]
      clear hl hs hd
      go_wp2_with (refine wpList_store_mid rfl 37 (.tmp 5) (.tmp 14) rfl W1.heap.size 0 cs.toArray rfl rfl T5 ic' o1 ?_; simp only [Act.put])
      go_ret
      exact ⟨by rw [HR.out]; rfl, hb2⟩

end Go.Proofs.YtclbiophgnkggaaGreatDoor
