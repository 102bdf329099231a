/-
  wide.doubled.
-/
import Derived.Test.YtclbiophgnkggaaGreatDoorWHalf
import Derived.Test.YtclbiophgnkggaaGreatDoorWDvM
namespace Go.Proofs.YtclbiophgnkggaaGreatDoor
open Go Go.RowKit
open Wd

theorem info_d8b : (Tryz.prog.info? 135).map (·.size) = some 8 := by kernel_rfl
theorem dbl_list (n : Nat) (hn : n < 2 ^ 256) : vQ (dgs n 4) ++ vQ (List.replicate 4 0) = vQ (dgs n 8) := by
  rw [← vQ_append]
  congr 1
  have h := dgs_num (dgs n 4 ++ List.replicate 4 0) (by
    intro x hx
    rcases List.mem_append.1 hx with h | h
    · exact all_dgs _ _ x h
    · rw [List.eq_of_mem_replicate h]; decide)
  have e : num (dgs n 4 ++ List.replicate 4 0) = n := by
    have h4 : n < 18446744073709551616 ^ 4 := by simpa using hn
    have := num_dgs' n 4 h4
    rw [show dgs n 4 = [lim n 0, lim n 1, lim n 2, lim n 3] from rfl] at this ⊢
    simp [num, List.replicate] at this ⊢
    exact this
  rw [e] at h
  exact h.symm

set_option maxRecDepth 100000 in
set_option maxHeartbeats 1000000 in
theorem doubled_any (n : Nat) (hn : n < 2 ^ 256) (w : World) :
    Calls Tryz.prog 97 #[.agg (vQ (dgs n 4)).toArray] w fun e w' => e = .returned (.agg (vQ (dgs n 8)).toArray) ∧ Below w.heap.size w w' := by
  obtain ⟨lo, hlo⟩ : ∃ lo, lo = vQ (dgs n 4) := ⟨_, rfl⟩
  obtain ⟨cs, hcs⟩ : ∃ cs, cs = vQ (dgs n 8) := ⟨_, rfl⟩
  have HE : Hid (lo ++ vQ (List.replicate 4 0) = cs) := by rw [hlo, hcs]; exact dbl_list n hn
  have HLL : Hid (lo.length = 4) := by show _ = _; rw [hlo, vQ_length, dgs_length]
  have HCL : Hid (cs.length = 8) := by show _ = _; rw [hcs, vQ_length, dgs_length]
  have HO1 : Hid (∀ v ∈ lo, v.oneCell' = true) := by rw [hlo]; exact vQ_one _
  have HO2 : Hid (∀ v ∈ cs, v.oneCell' = true) := by rw [hcs]; exact vQ_one _
  rw [← hlo, ← hcs]
  clear hlo hcs
  go_enter Tryz.func97, Tryz.ntmps97
  go_wp2
  have Z : (vQ (List.replicate 8 0)).toArray = #[Value.int IntKind.u64 0, Value.int IntKind.u64 0, Value.int IntKind.u64 0, Value.int IntKind.u64 0, Value.int IntKind.u64 0, Value.int IntKind.u64 0, Value.int IntKind.u64 0, Value.int IntKind.u64 0] := rfl
  rw [← Z]
  have hb0 : Below w.heap.size w (((w.alloc (Obj.cells lo.toArray 37)).alloc (Obj.cells (vQ (List.replicate 8 0)).toArray 135)).alloc (Obj.cells (vQ (List.replicate 8 0)).toArray 135)) := (((Below.refl _ _).alloc (Nat.le_refl _) _).alloc (by simp) _).alloc (by simp; omega) _
  have r0 : Row (((w.alloc (Obj.cells lo.toArray 37)).alloc (Obj.cells (vQ (List.replicate 8 0)).toArray 135)).alloc (Obj.cells (vQ (List.replicate 8 0)).toArray 135)) w.heap.size lo 37 := ((Row.new w lo _).alloc _).alloc _
  have r2 : Row (((w.alloc (Obj.cells lo.toArray 37)).alloc (Obj.cells (vQ (List.replicate 8 0)).toArray 135)).alloc (Obj.cells (vQ (List.replicate 8 0)).toArray 135)) (w.heap.size + 1) (vQ (List.replicate 8 0)) 135 := (Row.new' (by simp) rfl).alloc _
  have r3 : Row (((w.alloc (Obj.cells lo.toArray 37)).alloc (Obj.cells (vQ (List.replicate 8 0)).toArray 135)).alloc (Obj.cells (vQ (List.replicate 8 0)).toArray 135)) (w.heap.size + 1 + 1) (vQ (List.replicate 8 0)) 135 := Row.new' (by simp) rfl
  generalize (((w.alloc (Obj.cells lo.toArray 37)).alloc (Obj.cells (vQ (List.replicate 8 0)).toArray 135)).alloc (Obj.cells (vQ (List.replicate 8 0)).toArray 135)) = W0 at *
  have HS1 : Hid (∀ j v, lo[j]? = some v → (World.drew W0).cell? ((⟨w.heap.size, 0, none⟩ : Addr).add j) = some v) := by
    intro j v hv
    rw [Addr.add_mid]
    exact r0.all j v hv
  have HT1 : Hid ((World.drew W0).there (w.heap.size + 1 + 1) 0 lo.length) := Row.there (Row.drew r3) 0 _ (by rw [HLL.out]; decide)
  go_region_law (refine step_copy rfl (.tmp 4) (.tmp 5) 149 149 rfl 35 (w.heap.size + 1 + 1) 0 8 8 ⟨w.heap.size, 0, none⟩ 4 4 lo rfl rfl Tryz.underlying149 (by kernel_rfl) (by rw [HLL.out]; rfl) HS1.out HT1.out HO1.out ?_)
  have hb1 : Below w.heap.size w ((World.drew W0).setCells (w.heap.size + 1 + 1) 0 lo) := below_setCells (Below.drew hb0) (by omega) _
  have q2 : Row ((World.drew W0).setCells (w.heap.size + 1 + 1) 0 lo) (w.heap.size + 1) (vQ (List.replicate 8 0)) 135 := Row.setCells_other (Row.drew r2) _ _ _ (by omega)
  have q3 : Row ((World.drew W0).setCells (w.heap.size + 1 + 1) 0 lo) (w.heap.size + 1 + 1) cs 135 := by
    have := Row.setCells 0 lo (Row.drew r3) (by rw [HLL.out]; decide)
    rw [HLL.out, List.take_zero, List.nil_append, Nat.zero_add, show (vQ (List.replicate 8 0)).drop 4 = vQ (List.replicate 4 0) from rfl, HE.out] at this
    exact this
  generalize (World.drew W0).setCells (w.heap.size + 1 + 1) 0 lo = W1 at *
  have i8 : (Tryz.prog.info? 135).map (·.size) = some cs.length := by rw [info_d8b, HCL.out]
  have i8' : (Tryz.prog.info? 135).map (·.size) = some cs.toArray.size := by rw [info_d8b]; simp [HCL.out]
  have hone := all_oneCell_toArray HO2.out
  have T := q2.there 0 cs.toArray.size (by simp [HCL.out, vQ_length])
  have fin := q2.over (vs := cs) (by rw [HCL.out]; rfl)
  have hbf := below_setCells hb1 (b := w.heap.size + 1) (o := 0) (by omega) cs
  clear r0 r2 r3 hb0 hb1 HS1 HT1
  go_wp2_with (first
    | (refine wpList_load_mid rfl 135 (.tmp 3) rfl (w.heap.size + 1 + 1) 0 rfl cs _ q3.all Tryz.underlying135 rfl i8 ?_; simp only [Act.put, List.setIfInBounds_toArray, List.set_cons_zero, List.set_cons_succ])
    | (refine wpList_store_mid rfl 135 (.tmp 2) (.tmp 7) rfl (w.heap.size + 1) 0 cs.toArray rfl rfl T i8' hone ?_; simp only [Act.put]))
  exact bodyPost_ret (results_row Tryz.results97 _ _ (w.heap.size + 1) 135 cs rfl fin Tryz.underlying135 info_d8b HCL.out) rfl ⟨rfl, hbf⟩

end Go.Proofs.YtclbiophgnkggaaGreatDoor
