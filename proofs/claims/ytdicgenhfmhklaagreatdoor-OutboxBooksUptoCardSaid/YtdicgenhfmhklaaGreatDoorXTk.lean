/-
  wire.take: a look that gave up is caught.
-/
import Derived.Test.YtdicgenhfmhklaaGreatDoorXSee
namespace Go.Proofs.YtdicgenhfmhklaaGreatDoor
open Go Go.RowKit
open Sha

theorem gu_kind : (Tryz.prog.underlying GU).map (fun d => match d with | .interface _ => true | _ => false) = some false := by kernel_rfl
theorem run_assert (x : Value) (t : TypeId) (w : World) : (Instr.typeAssert (.iface GU x) t GU false).run Tryz.prog w = .ok x w := by
  have hk := gu_kind
  cases h : Tryz.prog.underlying GU with
  | none => rw [h] at hk; cases hk
  | some d =>
    rw [h] at hk
    unfold Instr.typeAssert
    simp only [Sem.run_bind, run_underlying h, Result.andThen_ok]
    cases d <;> first | (simp at hk; done) | simp

set_option maxRecDepth 100000 in
set_option maxHeartbeats 2000000 in
theorem catch_int (qa qr P : Nat) (a0 : Nat) (e : Int) (v : Value) (b : Int) (w : World) (ha : Row w qa [.int .i64 (a0 : Int)] 3) (hr : Row w qr [.pointer (some ⟨P, 0, none⟩)] 102) (h : Row w P [v, .int .i64 b, .int .i64 0] 120) :
    CallsD Tryz.prog 96 #[.pointer (some ⟨qa, 0, none⟩), .pointer (some ⟨qr, 0, none⟩)] (.panicking (gu e)) w fun r u' w' => r = .returned (.tuple #[]) ∧ u' = .panicking [{ v := .iface GU (.int .i64 e), recovered := true }] ∧ Rf w' P a0 e ∧ Gp P w w' := by
  have ca := ha.cell 0 _ rfl
  have cr := hr.cell 0 _ rfl
  have g0 := h.cell 0 _ rfl
  have g1 := h.cell 1 _ rfl
  have g2 := h.cell 2 _ rfl
  have f0 := h.thaw 0
  have f1 := h.thaw 1
  have f2 := h.thaw 2
  have RF : Hid (Rf (((w.setCell ⟨P, 0, none⟩ (.slice none 0 0)).setCell ⟨P, 1, none⟩ (.int .i64 (a0 : Int))).setCell ⟨P, 2, none⟩ (.int .i64 e)) P a0 e) := ((h.set 0 (.slice none 0 0)).set 1 (.int .i64 (a0 : Int))).set 2 (.int .i64 e)
  have GF : Hid (Gp P w (((w.setCell ⟨P, 0, none⟩ (.slice none 0 0)).setCell ⟨P, 1, none⟩ (.int .i64 (a0 : Int))).setCell ⟨P, 2, none⟩ (.int .i64 e))) := Gp.set (Gp.set (Gp.set (Gro.refl _ w) 0 _) 1 _) 2 _
  refine callsD_of_wpS Tryz.func96 rfl fun c₀ cs hu => ?_
  apply wpS_seq
  apply wpS_region
  simp [wpOpsS, go_sem, recoverD, hu, Tryz.ntmps96, Exit.thenS]
  apply wpS_seq
  apply wpS_region
  simp [wpOpsS, go_sem, Exit.thenS]
  refine wpS_cond (t := true) (by simp [Act.eval, Array.replicate]) ?_
  simp only [if_true]
  refine wpS_of_wp ?_
  clear ha hr h
  have ht : ∀ w, (Instr.typeAssert (.iface GU (.int .i64 e)) 20 141 false).run Tryz.prog w = .ok (.int .i64 e) w := fun w => run_assert _ _ w
  generalize hq : (fun e_1 a' w' => bodyPostS Tryz.prog Tryz.f96 c₀ cs _ e_1 a' _ w') = Q
  change Code.wp Tryz.prog _ Q { tmps := #[.pointer (some ⟨qa, 0, none⟩), .pointer (some ⟨qr, 0, none⟩), .iface GU (.int .i64 e), .iface GU (.int .i64 e), .iface GU (.int .i64 e), .bool true, undef, undef, undef, undef, undef, undef, undef, undef, undef, undef, undef, undef], defers := [] } w
  go_region
  rw [← hq]
  clear hq ht
  have RF' := RF.out
  have GF' := GF.out
  simp [bodyPostS, results, Tryz.results96]
  exact ⟨RF', Gro.drewN GF' 1⟩

set_option maxRecDepth 100000 in
theorem idle_int (p q : Addr) (w : World) :
    CallsD Tryz.prog 96 #[.pointer (some p), .pointer (some q)] .returning w fun e u' w' => e = .returned (.tuple #[]) ∧ u' = .returning ∧ w' = w := by
  refine callsD_of_wpS Tryz.func96 rfl fun c₀ cs hu => ?_
  apply wpS_seq
  apply wpS_region
  simp [wpOpsS, go_sem, recoverD, hu, Tryz.ntmps96, Exit.thenS]
  apply wpS_seq
  apply wpS_region
  simp [wpOpsS, go_sem, Exit.thenS]
  refine wpS_cond (t := false) (by simp [Act.eval, Array.replicate]) ?_
  simp only [Bool.false_eq_true, if_false]
  refine wpS_of_wp (wp_skip ?_)
  cases c₀
  simp_all [bodyPostS, results, Tryz.results96]

end Go.Proofs.YtdicgenhfmhklaaGreatDoor
