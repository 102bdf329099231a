/-
  wire: take, Number, End at the bytes of 256; the law's known.
-/
import Derived.Test.YtekgojokhjihfaaDoorXRd2

namespace Go.Proofs.YtekgojokhjihfaaDoor
open Go Go.RowKit
open Sha

set_option maxRecDepth 100000 in
set_option maxHeartbeats 2000000 in
theorem seeNumber_256 (P g cap : Nat) (w : World) (h : Rd w P g cap three 0 0) :
    Calls Tryd.prog 88 #[.pointer (some ⟨P, 0, none⟩)] w fun e w' => e = .returned (.int .i64 256) ∧ Rd w' P g cap three 3 0 ∧ Gro (fun k => k = P) w w' := by
  have HD : Hid _ := seeDigits_256 P g cap w h
  clear h
  go_enter Tryd.func88, Tryd.ntmps88
  go_wp2_with fail
  refine Calls.mono HD.out ?_
  rintro e V ⟨rfl, hr, hg⟩
  have n0 : Row (V.alloc (Obj.cells q4z.toArray 30)) V.heap.size q4z 30 := Row.new' rfl rfl
  have T0 := n0.there 0 (q4 256 0 0 0).toArray.size (by decide)
  replace n0 := n0.over (vs := q4 256 0 0 0) rfl
  have hB : Below V.heap.size V ((V.alloc (Obj.cells q4z.toArray 30)).setCells V.heap.size 0 (q4 256 0 0 0)) := below_setCells ((Below.refl _ _).alloc (Nat.le_refl _) (Obj.cells q4z.toArray 30)) (b := V.heap.size) (o := 0) (Nat.le_refl _) (q4 256 0 0 0)
  replace hr := hr.be hB
  replace hg := hg.below hB
  clear hB
  have gc := n0.cell 0 _ rfl
  have HI : Hid ((Tryd.prog.info? 30).map (·.size) = some (q4 256 0 0 0).toArray.size) := info_q
  have HO : Hid ((q4 256 0 0 0).toArray.all (·.oneCell') = true) := all_oneCell_toArray (q4_one 256 0 0 0)
  have HR : Hid (Rd _ _ _ _ _ _ _) := hr
  have HG : Hid (Gro _ _ _) := hg
  clear n0 hr hg
  go_wp2_with (refine wpList_store_mid rfl 30 (.tmp 3) (.tmp 5) rfl V.heap.size 0 (q4 256 0 0 0).toArray rfl rfl T0 HI.out HO.out ?_; simp only [Act.put]; clear T0; (change wpList _ _ _ _ _ ((V.alloc (Obj.cells q4z.toArray 30)).setCells V.heap.size 0 (q4 256 0 0 0))); (generalize ((V.alloc (Obj.cells q4z.toArray 30)).setCells V.heap.size 0 (q4 256 0 0 0)) = X at *); (generalize hN : V.heap.size = N4 at *; clear hN))
  go_ret
  exact ⟨rfl, HR.out, HG.out⟩

set_option maxRecDepth 100000 in
theorem catch_idle (p q : Addr) (w : World) :
    CallsD Tryd.prog 109 #[.pointer (some p), .pointer (some q)] .returning w fun e u' w' => e = .returned (.tuple #[]) ∧ u' = .returning ∧ w' = w := by
  refine callsD_of_wpS Tryd.func109 rfl fun c₀ cs hu => ?_
  apply wpS_seq
  apply wpS_region
  simp [wpOpsS, go_sem, recoverD, hu, Tryd.ntmps109, Exit.thenS]
  apply wpS_seq
  apply wpS_region
  simp [wpOpsS, go_sem, Exit.thenS]
  refine wpS_cond (t := false) (by simp [Act.eval, Array.replicate]) ?_
  simp only [Bool.false_eq_true, if_false]
  refine wpS_of_wp (wp_skip ?_)
  cases c₀
  simp_all [bodyPostS, results, Tryd.results109]

end Go.Proofs.YtekgojokhjihfaaDoor

namespace Go.Proofs.YtekgojokhjihfaaDoor
open Go Go.RowKit
open Sha

set_option maxRecDepth 100000 in
set_option maxHeartbeats 2000000 in
theorem take_256 (P g cap : Nat) (w : World) (h : Rd w P g cap three 0 0) :
    Calls Tryd.prog 87 #[.pointer (some ⟨P, 0, none⟩), .func (.func 88) #[] #[]] w fun e w' => e = .returned (.int .i64 256) ∧ Rd w' P g cap three 3 0 ∧ Gro (fun k => k = P) w w' := by
  have hmf : ∀ (fn : Fn) (first cap : Array Value) (w : World), (Instr.makeFunc fn first cap).run Tryd.prog w = .ok (.func fn first cap) w := fun _ _ _ _ => rfl
  have b0 : Below w.heap.size w (w.alloc (Obj.cells #[.pointer (some ⟨P, 0, none⟩)] 106)) := (Below.refl _ _).alloc (Nat.le_refl _) _
  have b1 := b0.alloc b0.size (Obj.cells #[.int .i64 0] 3)
  have HR0 : Hid (Rd (w.alloc (Obj.cells #[.pointer (some ⟨P, 0, none⟩)] 106)) P g cap three 0 0) := h.be b0
  have HE : Hid _ := err_ok P _ 0 0 _ HR0.out.1
  have g1 := HR0.out.1.cell 1 _ rfl
  have HR1 : Hid (Rd ((w.alloc (Obj.cells #[.pointer (some ⟨P, 0, none⟩)] 106)).alloc (Obj.cells #[.int .i64 0] 3)) P g cap three 0 0) := HR0.out.be ((Below.refl _ _).alloc (Nat.le_refl _) _)
  have HB1 : Hid _ := b1
  clear h b0 b1
  go_enter_defers Tryd.func87, Tryd.ntmps87
  go_wp2_with (go_at_call 93; refine Calls.mono HE.out ?_; rintro e w2 ⟨rfl, rfl⟩)
  refine (seeNumber_256 P g cap _ HR1.out).mono ?_
  rintro e V ⟨rfl, hr, hg⟩
  have HR : Hid (Rd _ _ _ _ _ _ _) := hr
  have HG : Hid (Gro (fun k => k = P) w V) := (Gro.of_below HB1.out).trans hg
  clear hr hg
  go_wp2
  refine leaves_cons (f := 109) (args := #[.pointer (some ⟨w.heap.size + 1, 0, none⟩), .pointer (some ⟨w.heap.size, 0, none⟩)]) (by simp) (by simp [go_sem]) ?_
  refine (catch_idle ⟨w.heap.size + 1, 0, none⟩ ⟨w.heap.size, 0, none⟩ _).mono ?_
  rintro e u' w'' ⟨rfl, rfl, rfl⟩
  exact ⟨_, results_tmp rfl _ _ _, rfl, HR.out, HG.out⟩

set_option maxRecDepth 100000 in
theorem number_256 (P g cap : Nat) (w : World) (h : Rd w P g cap three 0 0) :
    Calls Tryd.prog 57 #[.pointer (some ⟨P, 0, none⟩)] w fun e w' => e = .returned (.int .i64 256) ∧ Rd w' P g cap three 3 0 ∧ Gro (fun k => k = P) w w' := by
  have HT : Hid _ := take_256 P g cap w h
  clear h
  go_enter Tryd.func57, Tryd.ntmps57
  go_wp2_with fail
  refine Calls.mono HT.out ?_
  rintro e V ⟨rfl, hr, hg⟩
  have HR : Hid (Rd _ _ _ _ _ _ _) := hr
  have HG : Hid (Gro _ _ _) := hg
  clear hr hg
  go_wp2_with fail
  go_ret
  exact ⟨rfl, HR.out, HG.out⟩

set_option maxRecDepth 100000 in
theorem end_256 (P g cap : Nat) (w : World) (h : Rd w P g cap three 3 0) :
    Calls Tryd.prog 60 #[.pointer (some ⟨P, 0, none⟩)] w fun e w' => e = .returned (.int .i64 0) ∧ Below w.heap.size w w' := by
  have HE : Hid _ := err_ok P _ 3 0 w h.1
  have HL : Hid _ := left_ok P (some ⟨g, 0, none⟩) 3 cap 3 (by decide) (by decide) 0 w h.1
  clear h
  go_enter Tryd.func60, Tryd.ntmps60
  go_wp2_with fail
  refine Calls.mono HE.out ?_
  rintro e w2 ⟨rfl, rfl⟩
  go_wp2_with fail
  refine Calls.mono HL.out ?_
  rintro e w3 ⟨rfl, m, hm⟩
  have HM : Hid _ := hm
  clear hm
  go_wp2_with fail
  go_ret
  refine ⟨rfl, ?_⟩
  rw [HM.out]
  exact ⟨rfl, rfl, rfl, Nat.le_refl _, fun _ _ => rfl⟩

end Go.Proofs.YtekgojokhjihfaaDoor
