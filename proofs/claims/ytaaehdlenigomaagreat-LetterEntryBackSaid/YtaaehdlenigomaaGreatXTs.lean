/-
  wire.take: a look that gave up is caught.
-/
import Derived.Test.YtaaehdlenigomaaGreatXTk

namespace Go.Proofs.YtaaehdlenigomaaGreat
open Go Go.RowKit
open Sha

set_option maxRecDepth 100000 in
set_option maxHeartbeats 2000000 in
theorem catch_bs (qa qr P : Nat) (a0 : Nat) (e : Int) (v : Value) (b : Int) (w : World) (ha : Row w qa [.int .i64 (a0 : Int)] 3) (hr : Row w qr [.pointer (some ⟨P, 0, none⟩)] 61) (h : Row w P [v, .int .i64 b, .int .i64 0] 93) :
    CallsD Tryz.prog 139 #[.pointer (some ⟨qa, 0, none⟩), .pointer (some ⟨qr, 0, none⟩)] (.panicking (gu e)) w fun r u' w' => r = .returned (.tuple #[]) ∧ u' = .panicking [{ v := .iface GU (.int .i64 e), recovered := true }] ∧ Rf w' P a0 e ∧ Gp P w w' := by
  have ca := ha.cell 0 _ rfl
  have cr := hr.cell 0 _ rfl
  have g0 := h.cell 0 _ rfl
  have g1 := h.cell 1 _ rfl
  have g2 := h.cell 2 _ rfl
  have f0 := h.thaw 0
  have f1 := h.thaw 1
  have f2 := h.thaw 2
  have RF : Hid (Rf (((w.setCell ⟨P, 0, none⟩ (.slice none 0 0)).setCell ⟨P, 1, none⟩ (.int .i64 (a0 : Int))).setCell ⟨P, 2, none⟩ (.int .i64 e)) P a0 e) := ((h.set 0 (.slice none 0 0)).set 1 (.int .i64 (a0 : Int))).set 2 (.int .i64 e)
  have GF : Hid (Gp P w (((w.setCell ⟨P, 0, none⟩ (.slice none 0 0)).setCell ⟨P, 1, none⟩ (.int .i64 (a0 : Int))).setCell ⟨P, 2, none⟩ (.int .i64 e))) := Gp.set (Gp.set (Gp.set (Gro.refl _ w) 0 _) 1 _) 2 _
  refine callsD_of_wpS Tryz.func139 rfl fun c₀ cs hu => ?_
  apply wpS_seq
  apply wpS_region
  simp [wpOpsS, go_sem, recoverD, hu, Tryz.ntmps139, Exit.thenS]
  apply wpS_seq
  apply wpS_region
  simp [wpOpsS, go_sem, Exit.thenS]
  refine wpS_cond (t := true) (by simp [Act.eval, Array.replicate]) ?_
  simp only [if_true]
  refine wpS_of_wp ?_
  clear ha hr h
  have ht : ∀ w, (Instr.typeAssert (.iface GU (.int .i64 e)) 20 122 false).run Tryz.prog w = .ok (.int .i64 e) w := fun w => run_assert _ _ w
  generalize hq : (fun e_1 a' w' => bodyPostS Tryz.prog Tryz.f139 c₀ cs _ e_1 a' _ w') = Q
  change Code.wp Tryz.prog _ Q { tmps := #[.pointer (some ⟨qa, 0, none⟩), .pointer (some ⟨qr, 0, none⟩), .iface GU (.int .i64 e), .iface GU (.int .i64 e), .iface GU (.int .i64 e), .bool true, undef, undef, undef, undef, undef, undef, undef, undef, undef, undef, undef, undef], defers := [] } w
  go_region
  rw [← hq]
  clear hq ht
  have RF' := RF.out
  have GF' := GF.out
  simp [bodyPostS, results, Tryz.results139]
  exact ⟨RF', Gro.drewN GF' 1⟩

set_option maxRecDepth 100000 in
theorem idle_bs (p q : Addr) (w : World) :
    CallsD Tryz.prog 139 #[.pointer (some p), .pointer (some q)] .returning w fun e u' w' => e = .returned (.tuple #[]) ∧ u' = .returning ∧ w' = w := by
  refine callsD_of_wpS Tryz.func139 rfl fun c₀ cs hu => ?_
  apply wpS_seq
  apply wpS_region
  simp [wpOpsS, go_sem, recoverD, hu, Tryz.ntmps139, Exit.thenS]
  apply wpS_seq
  apply wpS_region
  simp [wpOpsS, go_sem, Exit.thenS]
  refine wpS_cond (t := false) (by simp [Act.eval, Array.replicate]) ?_
  simp only [Bool.false_eq_true, if_false]
  refine wpS_of_wp (wp_skip ?_)
  cases c₀
  simp_all [bodyPostS, results, Tryz.results139]

end Go.Proofs.YtaaehdlenigomaaGreat

namespace Go.Proofs.YtaaehdlenigomaaGreat
open Go Go.RowKit
open Sha

set_option maxRecDepth 100000 in
set_option maxHeartbeats 2000000 in
theorem take_bytes (P : Nat) (A : Option Addr) (cap : Nat) (bs : List (BitVec 8)) (a : Nat) (most : Int) (qm : Nat) (f : Int) (Qv : World → Value → Prop) (a' : Nat) (w : World) (h : Rg w P A cap bs a) (hm : Row w qm [.int .i64 most] 3)
    (hok : f = 0 → ∀ W, Below w.heap.size w W → Rg W P A cap bs a → Row W qm [.int .i64 most] 3 → Calls Tryz.prog 107 #[.pointer (some ⟨P, 0, none⟩), .pointer (some ⟨qm, 0, none⟩)] W fun e w' => ∃ v, e = .returned v ∧ Qv w' v ∧ Rg w' P A cap bs a' ∧ Gp P W w')
    (hno : ¬ f = 0 → ∀ W, Rg W P A cap bs a → Row W qm [.int .i64 most] 3 → Calls Tryz.prog 107 #[.pointer (some ⟨P, 0, none⟩), .pointer (some ⟨qm, 0, none⟩)] W fun e w' => e = .panicked (gu f) ∧ Gave W w' P A cap bs) :
    Calls Tryz.prog 106 #[.pointer (some ⟨P, 0, none⟩), .func (.func 107) #[] #[.pointer (some ⟨qm, 0, none⟩)]] w fun e w' => (f = 0 → ∃ v, e = .returned v ∧ Qv w' v ∧ Rg w' P A cap bs a') ∧ (¬ f = 0 → e = .returned (.slice none 0 0) ∧ Rf w' P a f) ∧ Gp P w w' := by
  have hmf : ∀ (fn : Fn) (first cap : Array Value) (w : World), (Instr.makeFunc fn first cap).run Tryz.prog w = .ok (.func fn first cap) w := fun _ _ _ _ => rfl
  have b0 : Below w.heap.size w (w.alloc (Obj.cells #[.pointer (some ⟨P, 0, none⟩)] 61)) := (Below.refl _ _).alloc (Nat.le_refl _) _
  have b1 := b0.alloc b0.size (Obj.cells #[.int .i64 (a : Int)] 3)
  have HR0 : Hid (Rg (w.alloc (Obj.cells #[.pointer (some ⟨P, 0, none⟩)] 61)) P A cap bs a) := h.be b0
  have HE : Hid _ := err_ok P _ a 0 _ HR0.out.row
  have g1 := HR0.out.row.cell 1 _ rfl
  have HR1 : Hid (Rg ((w.alloc (Obj.cells #[.pointer (some ⟨P, 0, none⟩)] 61)).alloc (Obj.cells #[.int .i64 (a : Int)] 3)) P A cap bs a) := HR0.out.be ((Below.refl _ _).alloc (Nat.le_refl _) _)
  have RA : Hid (Row ((w.alloc (Obj.cells #[.pointer (some ⟨P, 0, none⟩)] 61)).alloc (Obj.cells #[.int .i64 (a : Int)] 3)) (w.heap.size + 1) [.int .i64 (a : Int)] 3) := Row.new' (by simp) rfl
  have RR : Hid (Row ((w.alloc (Obj.cells #[.pointer (some ⟨P, 0, none⟩)] 61)).alloc (Obj.cells #[.int .i64 (a : Int)] 3)) w.heap.size [.pointer (some ⟨P, 0, none⟩)] 61) := (Row.new' rfl rfl).alloc _
  have HB1 : Hid _ := b1
  have HP : Hid (P < w.heap.size) := h.row.lt
  have hm1 := Row.below hm b1 hm.lt
  clear hm
  clear h b0 b1
  by_cases hf : f = 0
  · have HK : Hid _ := hok hf _ HB1.out HR1.out hm1
    clear hok hno
    go_enter_defers Tryz.func106, Tryz.ntmps106
    go_wp2_with (go_at_call 110; refine Calls.mono HE.out ?_; rintro e w2 ⟨rfl, rfl⟩)
    refine Calls.mono HK.out ?_
    rintro e V ⟨v, rfl, hq, hr, hg⟩
    have HQ : Hid (Qv V v) := hq
    have HR : Hid (Rg _ _ _ _ _ _) := hr
    have HG : Hid (Gro (fun k => k = P) w V) := (Gro.of_below HB1.out).trans hg
    clear hr hg HK hq
    go_wp2
    refine leaves_cons (f := 139) (args := #[.pointer (some ⟨w.heap.size + 1, 0, none⟩), .pointer (some ⟨w.heap.size, 0, none⟩)]) (by simp) (by simp [go_sem]) ?_
    refine (idle_bs ⟨w.heap.size + 1, 0, none⟩ ⟨w.heap.size, 0, none⟩ _).mono ?_
    rintro e u' w'' ⟨rfl, rfl, rfl⟩
    exact ⟨_, results_tmp rfl _ _ _, fun _ => ⟨v, rfl, HQ.out, HR.out⟩, fun q => absurd hf q, HG.out⟩
  · have HK : Hid _ := hno hf _ HR1.out hm1
    clear hok hno
    go_enter_defers Tryz.func106, Tryz.ntmps106
    go_wp2_with (go_at_call 110; refine Calls.mono HE.out ?_; rintro e w2 ⟨rfl, rfl⟩)
    refine Calls.mono HK.out ?_
    rintro e V ⟨rfl, ⟨b, hr⟩, hg⟩
    have ra : Row V (w.heap.size + 1) [.int .i64 (a : Int)] 3 := hg.row RA.out (by have := HP.out; omega)
    have rr : Row V w.heap.size [.pointer (some ⟨P, 0, none⟩)] 61 := hg.row RR.out (by have := HP.out; omega)
    have HC : Hid _ := catch_bs (w.heap.size + 1) w.heap.size P a f _ (b : Int) V ra rr hr.row
    have HG : Hid (Gro (fun k => k = P) w V) := (Gro.of_below HB1.out).trans hg
    clear hr hg HK ra rr
    go_wp2
    refine leaves_cons (f := 139) (args := #[.pointer (some ⟨w.heap.size + 1, 0, none⟩), .pointer (some ⟨w.heap.size, 0, none⟩)]) (by simp) (by simp [go_sem]) ?_
    refine CallsD.mono HC.out ?_
    rintro e u' w'' ⟨rfl, rfl, hrf, hgf⟩
    have HRF : Hid (Rf _ _ _ _) := hrf
    have HGF : Hid (Gro (fun k => k = P) w w'') := HG.out.trans hgf
    clear hrf hgf
    simp [Leaves, settle, results, Tryz.results106, go_sem]
    exact ⟨fun q => absurd q hf, fun _ => HRF.out, HGF.out⟩

end Go.Proofs.YtaaehdlenigomaaGreat
