/-
  wire: seeNumber, take, Number, End at the bytes of 256.
-/
import Derived.Test.YthjiekfjgfhchaaGreatXRd2
namespace Go.Proofs.YthjiekfjgfhchaaGreat
open Go Go.RowKit
open Sha

set_option maxRecDepth 100000 in
set_option maxHeartbeats 2000000 in
theorem seeNumber_256 (P g cap : Nat) (w : World) (h : Rd w P g cap three 0 0) :
    Calls Tryz.prog 97 #[.pointer (some ⟨P, 0, none⟩)] w fun e w' => e = .returned (.int .i64 256) ∧ Rd w' P g cap three 3 0 ∧ Gro (fun k => k = P) w w' := by
  have HD : Hid _ := seeDigits_256 P g cap w h
  clear h
  go_enter Tryz.func97, Tryz.ntmps97
  go_wp2_with fail
  refine Calls.mono HD.out ?_
  rintro e V ⟨rfl, hr, hg⟩
  have n0 : Row (V.alloc (Obj.cells q4z.toArray 31)) V.heap.size q4z 31 := Row.new' rfl rfl
  have T0 := n0.there 0 (q4 256 0 0 0).toArray.size (by decide)
  replace n0 := n0.over (vs := q4 256 0 0 0) rfl
  have hB : Below V.heap.size V ((V.alloc (Obj.cells q4z.toArray 31)).setCells V.heap.size 0 (q4 256 0 0 0)) := below_setCells ((Below.refl _ _).alloc (Nat.le_refl _) (Obj.cells q4z.toArray 31)) (b := V.heap.size) (o := 0) (Nat.le_refl _) (q4 256 0 0 0)
  replace hr := hr.be hB
  replace hg := hg.below hB
  clear hB
  have gc := n0.cell 0 _ rfl
  have HI : Hid ((Tryz.prog.info? 31).map (·.size) = some (q4 256 0 0 0).toArray.size) := info_q
  have HO : Hid ((q4 256 0 0 0).toArray.all (·.oneCell') = true) := all_oneCell_toArray (q4_one 256 0 0 0)
  have HR : Hid (Rd _ _ _ _ _ _ _) := hr
  have HG : Hid (Gro _ _ _) := hg
  clear n0 hr hg
  go_wp2_with (refine wpList_store_mid rfl 31 (.tmp 3) (.tmp 5) rfl V.heap.size 0 (q4 256 0 0 0).toArray rfl rfl T0 HI.out HO.out ?_; simp only [Act.put]; clear T0; (change wpList _ _ _ _ _ ((V.alloc (Obj.cells q4z.toArray 31)).setCells V.heap.size 0 (q4 256 0 0 0))); (generalize ((V.alloc (Obj.cells q4z.toArray 31)).setCells V.heap.size 0 (q4 256 0 0 0)) = X at *); (generalize hN : V.heap.size = N4 at *; clear hN))
  go_ret
  exact ⟨rfl, HR.out, HG.out⟩

set_option maxRecDepth 100000 in
theorem catch_idle (p q : Addr) (w : World) :
    CallsD Tryz.prog 129 #[.pointer (some p), .pointer (some q)] .returning w fun e u' w' => e = .returned (.tuple #[]) ∧ u' = .returning ∧ w' = w := by
  refine callsD_of_wpS Tryz.func129 rfl fun c₀ cs hu => ?_
  apply wpS_seq
  apply wpS_region
  simp [wpOpsS, go_sem, recoverD, hu, Tryz.ntmps129, Exit.thenS]
  apply wpS_seq
  apply wpS_region
  simp [wpOpsS, go_sem, Exit.thenS]
  refine wpS_cond (t := false) (by simp [Act.eval, Array.replicate]) ?_
  simp only [Bool.false_eq_true, if_false]
  refine wpS_of_wp (wp_skip ?_)
  cases c₀
  simp_all [bodyPostS, results, Tryz.results129]

end Go.Proofs.YthjiekfjgfhchaaGreat
