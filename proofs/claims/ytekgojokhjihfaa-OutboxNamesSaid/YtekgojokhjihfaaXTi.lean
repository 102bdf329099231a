/-
  wire.take: a look that gave up is caught.
-/
import Derived.Test.YtekgojokhjihfaaXTk
namespace Go.Proofs.Ytekgojokhjihfaa
open Go Go.RowKit
open Sha

set_option maxRecDepth 100000 in
set_option maxHeartbeats 2000000 in
theorem take_number (P : Nat) (A : Option Addr) (cap : Nat) (bs : List (BitVec 8)) (a : Nat) (f : Int) (v : Value) (a' : Nat) (w : World) (h : Rg w P A cap bs a)
    (hok : f = 0 → ∀ W, Rg W P A cap bs a → Calls Try.prog 53 #[.pointer (some ⟨P, 0, none⟩)] W fun e w' => e = .returned v ∧ Rg w' P A cap bs a' ∧ Gp P W w')
    (hno : ¬ f = 0 → ∀ W, Rg W P A cap bs a → Calls Try.prog 53 #[.pointer (some ⟨P, 0, none⟩)] W fun e w' => e = .panicked (gu f) ∧ Gave W w' P A cap bs) :
    Calls Try.prog 52 #[.pointer (some ⟨P, 0, none⟩), .func (.func 53) #[] #[]] w fun e w' => (f = 0 → e = .returned v ∧ Rg w' P A cap bs a') ∧ (¬ f = 0 → e = .returned (.int .i64 0) ∧ Rf w' P a f) ∧ Gp P w w' := by
  have hmf : ∀ (fn : Fn) (first cap : Array Value) (w : World), (Instr.makeFunc fn first cap).run Try.prog w = .ok (.func fn first cap) w := fun _ _ _ _ => rfl
  have b0 : Below w.heap.size w (w.alloc (Obj.cells #[.pointer (some ⟨P, 0, none⟩)] 65)) := (Below.refl _ _).alloc (Nat.le_refl _) _
  have b1 := b0.alloc b0.size (Obj.cells #[.int .i64 (a : Int)] 3)
  have HR0 : Hid (Rg (w.alloc (Obj.cells #[.pointer (some ⟨P, 0, none⟩)] 65)) P A cap bs a) := h.be b0
  have HE : Hid _ := err_ok P _ a 0 _ HR0.out.row
  have g1 := HR0.out.row.cell 1 _ rfl
  have HR1 : Hid (Rg ((w.alloc (Obj.cells #[.pointer (some ⟨P, 0, none⟩)] 65)).alloc (Obj.cells #[.int .i64 (a : Int)] 3)) P A cap bs a) := HR0.out.be ((Below.refl _ _).alloc (Nat.le_refl _) _)
  have RA : Hid (Row ((w.alloc (Obj.cells #[.pointer (some ⟨P, 0, none⟩)] 65)).alloc (Obj.cells #[.int .i64 (a : Int)] 3)) (w.heap.size + 1) [.int .i64 (a : Int)] 3) := Row.new' (by simp) rfl
  have RR : Hid (Row ((w.alloc (Obj.cells #[.pointer (some ⟨P, 0, none⟩)] 65)).alloc (Obj.cells #[.int .i64 (a : Int)] 3)) w.heap.size [.pointer (some ⟨P, 0, none⟩)] 65) := (Row.new' rfl rfl).alloc _
  have HB1 : Hid _ := b1
  have HP : Hid (P < w.heap.size) := h.row.lt
  clear h b0 b1
  by_cases hf : f = 0
  · have HK : Hid _ := hok hf _ HR1.out
    clear hok hno
    go_enter_defers Try.func52, Try.ntmps52
    go_wp2_with (go_at_call 58; refine Calls.mono HE.out ?_; rintro e w2 ⟨rfl, rfl⟩)
    refine Calls.mono HK.out ?_
    rintro e V ⟨rfl, hr, hg⟩
    have HR : Hid (Rg _ _ _ _ _ _) := hr
    have HG : Hid (Gro (fun k => k = P) w V) := (Gro.of_below HB1.out).trans hg
    clear hr hg HK
    go_wp2
    refine leaves_cons (f := 71) (args := #[.pointer (some ⟨w.heap.size + 1, 0, none⟩), .pointer (some ⟨w.heap.size, 0, none⟩)]) (by simp) (by simp [go_sem]) ?_
    refine (idle_int ⟨w.heap.size + 1, 0, none⟩ ⟨w.heap.size, 0, none⟩ _).mono ?_
    rintro e u' w'' ⟨rfl, rfl, rfl⟩
    exact ⟨_, results_tmp rfl _ _ _, fun _ => ⟨rfl, HR.out⟩, fun q => absurd hf q, HG.out⟩
  · have HK : Hid _ := hno hf _ HR1.out
    clear hok hno
    go_enter_defers Try.func52, Try.ntmps52
    go_wp2_with (go_at_call 58; refine Calls.mono HE.out ?_; rintro e w2 ⟨rfl, rfl⟩)
    refine Calls.mono HK.out ?_
    rintro e V ⟨rfl, ⟨b, hr⟩, hg⟩
    have ra : Row V (w.heap.size + 1) [.int .i64 (a : Int)] 3 := hg.row RA.out (by have := HP.out; omega)
    have rr : Row V w.heap.size [.pointer (some ⟨P, 0, none⟩)] 65 := hg.row RR.out (by have := HP.out; omega)
    have HC : Hid _ := catch_int (w.heap.size + 1) w.heap.size P a f _ (b : Int) V ra rr hr.row
    have HG : Hid (Gro (fun k => k = P) w V) := (Gro.of_below HB1.out).trans hg
    clear hr hg HK ra rr
    go_wp2
    refine leaves_cons (f := 71) (args := #[.pointer (some ⟨w.heap.size + 1, 0, none⟩), .pointer (some ⟨w.heap.size, 0, none⟩)]) (by simp) (by simp [go_sem]) ?_
    refine CallsD.mono HC.out ?_
    rintro e u' w'' ⟨rfl, rfl, hrf, hgf⟩
    have HRF : Hid (Rf _ _ _ _) := hrf
    have HGF : Hid (Gro (fun k => k = P) w w'') := HG.out.trans hgf
    clear hrf hgf
    simp [Leaves, settle, results, Try.results52, go_sem]
    exact ⟨fun q => absurd q hf, fun _ => HRF.out, HGF.out⟩

end Go.Proofs.Ytekgojokhjihfaa
