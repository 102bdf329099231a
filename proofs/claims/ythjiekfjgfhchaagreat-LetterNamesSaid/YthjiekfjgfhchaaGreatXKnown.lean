/-
  wire: take, Number, End at the bytes of 256; the law's known.
-/
import Derived.Test.YthjiekfjgfhchaaGreatXTake
namespace Go.Proofs.YthjiekfjgfhchaaGreat
open Go Go.RowKit
open Sha

set_option maxRecDepth 100000 in
set_option maxHeartbeats 2000000 in
theorem take_256 (P g cap : Nat) (w : World) (h : Rd w P g cap three 0 0) :
    Calls Tryz.prog 96 #[.pointer (some ⟨P, 0, none⟩), .func (.func 97) #[] #[]] w fun e w' => e = .returned (.int .i64 256) ∧ Rd w' P g cap three 3 0 ∧ Gro (fun k => k = P) w w' := by
  have hmf : ∀ (fn : Fn) (first cap : Array Value) (w : World), (Instr.makeFunc fn first cap).run Tryz.prog w = .ok (.func fn first cap) w := fun _ _ _ _ => rfl
  have b0 : Below w.heap.size w (w.alloc (Obj.cells #[.pointer (some ⟨P, 0, none⟩)] 44)) := (Below.refl _ _).alloc (Nat.le_refl _) _
  have b1 := b0.alloc b0.size (Obj.cells #[.int .i64 0] 3)
  have HR0 : Hid (Rd (w.alloc (Obj.cells #[.pointer (some ⟨P, 0, none⟩)] 44)) P g cap three 0 0) := h.be b0
  have HE : Hid _ := err_ok P _ 0 0 _ HR0.out.1
  have g1 := HR0.out.1.cell 1 _ rfl
  have HR1 : Hid (Rd ((w.alloc (Obj.cells #[.pointer (some ⟨P, 0, none⟩)] 44)).alloc (Obj.cells #[.int .i64 0] 3)) P g cap three 0 0) := HR0.out.be ((Below.refl _ _).alloc (Nat.le_refl _) _)
  have HB1 : Hid _ := b1
  clear h b0 b1
  go_enter_defers Tryz.func96, Tryz.ntmps96
  go_wp2_with (go_at_call 92; refine Calls.mono HE.out ?_; rintro e w2 ⟨rfl, rfl⟩)
  refine (seeNumber_256 P g cap _ HR1.out).mono ?_
  rintro e V ⟨rfl, hr, hg⟩
  have HR : Hid (Rd _ _ _ _ _ _ _) := hr
  have HG : Hid (Gro (fun k => k = P) w V) := (Gro.of_below HB1.out).trans hg
  clear hr hg
  go_wp2
  refine leaves_cons (f := 129) (args := #[.pointer (some ⟨w.heap.size + 1, 0, none⟩), .pointer (some ⟨w.heap.size, 0, none⟩)]) (by simp) (by simp [go_sem]) ?_
  refine (catch_idle ⟨w.heap.size + 1, 0, none⟩ ⟨w.heap.size, 0, none⟩ _).mono ?_
  rintro e u' w'' ⟨rfl, rfl, rfl⟩
  exact ⟨_, results_tmp rfl _ _ _, rfl, HR.out, HG.out⟩

set_option maxRecDepth 100000 in
theorem number_256 (P g cap : Nat) (w : World) (h : Rd w P g cap three 0 0) :
    Calls Tryz.prog 30 #[.pointer (some ⟨P, 0, none⟩)] w fun e w' => e = .returned (.int .i64 256) ∧ Rd w' P g cap three 3 0 ∧ Gro (fun k => k = P) w w' := by
  have HT : Hid _ := take_256 P g cap w h
  clear h
  go_enter Tryz.func30, Tryz.ntmps30
  go_wp2_with fail
  refine Calls.mono HT.out ?_
  rintro e V ⟨rfl, hr, hg⟩
  have HR : Hid (Rd _ _ _ _ _ _ _) := hr
  have HG : Hid (Gro _ _ _) := hg
  clear hr hg
  go_wp2_with fail
  go_ret
  exact ⟨rfl, HR.out, HG.out⟩

set_option maxRecDepth 100000 in
theorem end_256 (P g cap : Nat) (w : World) (h : Rd w P g cap three 3 0) :
    Calls Tryz.prog 57 #[.pointer (some ⟨P, 0, none⟩)] w fun e w' => e = .returned (.int .i64 0) ∧ Below w.heap.size w w' := by
  have HE : Hid _ := err_ok P _ 3 0 w h.1
  have HL : Hid _ := left_ok P (some ⟨g, 0, none⟩) 3 cap 3 (by decide) (by decide) 0 w h.1
  clear h
  go_enter Tryz.func57, Tryz.ntmps57
  go_wp2_with fail
  refine Calls.mono HE.out ?_
  rintro e w2 ⟨rfl, rfl⟩
  go_wp2_with fail
  refine Calls.mono HL.out ?_
  rintro e w3 ⟨rfl, m, hm⟩
  have HM : Hid _ := hm
  clear hm
  go_wp2_with fail
  go_ret
  refine ⟨rfl, ?_⟩
  rw [HM.out]
  exact ⟨rfl, rfl, rfl, Nat.le_refl _, fun _ _ => rfl⟩

end Go.Proofs.YthjiekfjgfhchaaGreat
