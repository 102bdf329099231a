/-
  wire.Reader: the faces, where there is no fault yet.
-/
import Derived.Test.YtdicgenhfmhklaaGreatDoorXTk
import Derived.Test.YtdicgenhfmhklaaGreatDoorXLaw2
import Derived.Test.YtdicgenhfmhklaaGreatDoorXSeeB
import Derived.Test.YtdicgenhfmhklaaGreatDoorXAx

namespace Go.Proofs.YtdicgenhfmhklaaGreatDoor
open Go Go.RowKit
open Sha

set_option maxRecDepth 100000 in
set_option maxHeartbeats 2000000 in
theorem catch_wide (qa qr P : Nat) (a0 : Nat) (e : Int) (v : Value) (b : Int) (w : World) (ha : Row w qa [.int .i64 (a0 : Int)] 3) (hr : Row w qr [.pointer (some ⟨P, 0, none⟩)] 102) (h : Row w P [v, .int .i64 b, .int .i64 0] 120) :
    CallsD Tryz.prog 99 #[.pointer (some ⟨qa, 0, none⟩), .pointer (some ⟨qr, 0, none⟩)] (.panicking (gu e)) w fun r u' w' => r = .returned (.tuple #[]) ∧ u' = .panicking [{ v := .iface GU (.int .i64 e), recovered := true }] ∧ Rf w' P a0 e ∧ Gp P w w' := by
  have ca := ha.cell 0 _ rfl
  have cr := hr.cell 0 _ rfl
  have g0 := h.cell 0 _ rfl
  have g1 := h.cell 1 _ rfl
  have g2 := h.cell 2 _ rfl
  have f0 := h.thaw 0
  have f1 := h.thaw 1
  have f2 := h.thaw 2
  have RF : Hid (Rf (((w.setCell ⟨P, 0, none⟩ (.slice none 0 0)).setCell ⟨P, 1, none⟩ (.int .i64 (a0 : Int))).setCell ⟨P, 2, none⟩ (.int .i64 e)) P a0 e) := ((h.set 0 (.slice none 0 0)).set 1 (.int .i64 (a0 : Int))).set 2 (.int .i64 e)
  have GF : Hid (Gp P w (((w.setCell ⟨P, 0, none⟩ (.slice none 0 0)).setCell ⟨P, 1, none⟩ (.int .i64 (a0 : Int))).setCell ⟨P, 2, none⟩ (.int .i64 e))) := Gp.set (Gp.set (Gp.set (Gro.refl _ w) 0 _) 1 _) 2 _
  refine callsD_of_wpS Tryz.func99 rfl fun c₀ cs hu => ?_
  apply wpS_seq
  apply wpS_region
  simp [wpOpsS, go_sem, recoverD, hu, Tryz.ntmps99, Exit.thenS]
  apply wpS_seq
  apply wpS_region
  simp [wpOpsS, go_sem, Exit.thenS]
  refine wpS_cond (t := true) (by simp [Act.eval, Array.replicate]) ?_
  simp only [if_true]
  refine wpS_of_wp ?_
  clear ha hr h
  have ht : ∀ w, (Instr.typeAssert (.iface GU (.int .i64 e)) 20 141 false).run Tryz.prog w = .ok (.int .i64 e) w := fun w => run_assert _ _ w
  generalize hq : (fun e_1 a' w' => bodyPostS Tryz.prog Tryz.f99 c₀ cs _ e_1 a' _ w') = Q
  change Code.wp Tryz.prog _ Q { tmps := #[.pointer (some ⟨qa, 0, none⟩), .pointer (some ⟨qr, 0, none⟩), .iface GU (.int .i64 e), .iface GU (.int .i64 e), .iface GU (.int .i64 e), .bool true, undef, undef, undef, undef, undef, undef, undef, undef, undef, undef, undef, undef], defers := [] } w
  go_region
  rw [← hq]
  clear hq ht
  have RF' := RF.out
  have GF' := GF.out
  simp [bodyPostS, results, Tryz.results99]
  exact ⟨RF', Gro.drewN GF' 1⟩

set_option maxRecDepth 100000 in
theorem idle_wide (p q : Addr) (w : World) :
    CallsD Tryz.prog 99 #[.pointer (some p), .pointer (some q)] .returning w fun e u' w' => e = .returned (.tuple #[]) ∧ u' = .returning ∧ w' = w := by
  refine callsD_of_wpS Tryz.func99 rfl fun c₀ cs hu => ?_
  apply wpS_seq
  apply wpS_region
  simp [wpOpsS, go_sem, recoverD, hu, Tryz.ntmps99, Exit.thenS]
  apply wpS_seq
  apply wpS_region
  simp [wpOpsS, go_sem, Exit.thenS]
  refine wpS_cond (t := false) (by simp [Act.eval, Array.replicate]) ?_
  simp only [Bool.false_eq_true, if_false]
  refine wpS_of_wp (wp_skip ?_)
  cases c₀
  simp_all [bodyPostS, results, Tryz.results99]

end Go.Proofs.YtdicgenhfmhklaaGreatDoor

namespace Go.Proofs.YtdicgenhfmhklaaGreatDoor
open Go Go.RowKit
open Sha

set_option maxRecDepth 100000 in
set_option maxHeartbeats 2000000 in
theorem catch_addr (qa qr P : Nat) (a0 : Nat) (e : Int) (v : Value) (b : Int) (w : World) (ha : Row w qa [.int .i64 (a0 : Int)] 3) (hr : Row w qr [.pointer (some ⟨P, 0, none⟩)] 102) (h : Row w P [v, .int .i64 b, .int .i64 0] 120) :
    CallsD Tryz.prog 98 #[.pointer (some ⟨qa, 0, none⟩), .pointer (some ⟨qr, 0, none⟩)] (.panicking (gu e)) w fun r u' w' => r = .returned (.tuple #[]) ∧ u' = .panicking [{ v := .iface GU (.int .i64 e), recovered := true }] ∧ Rf w' P a0 e ∧ Gp P w w' := by
  have ca := ha.cell 0 _ rfl
  have cr := hr.cell 0 _ rfl
  have g0 := h.cell 0 _ rfl
  have g1 := h.cell 1 _ rfl
  have g2 := h.cell 2 _ rfl
  have f0 := h.thaw 0
  have f1 := h.thaw 1
  have f2 := h.thaw 2
  have RF : Hid (Rf (((w.setCell ⟨P, 0, none⟩ (.slice none 0 0)).setCell ⟨P, 1, none⟩ (.int .i64 (a0 : Int))).setCell ⟨P, 2, none⟩ (.int .i64 e)) P a0 e) := ((h.set 0 (.slice none 0 0)).set 1 (.int .i64 (a0 : Int))).set 2 (.int .i64 e)
  have GF : Hid (Gp P w (((w.setCell ⟨P, 0, none⟩ (.slice none 0 0)).setCell ⟨P, 1, none⟩ (.int .i64 (a0 : Int))).setCell ⟨P, 2, none⟩ (.int .i64 e))) := Gp.set (Gp.set (Gp.set (Gro.refl _ w) 0 _) 1 _) 2 _
  refine callsD_of_wpS Tryz.func98 rfl fun c₀ cs hu => ?_
  apply wpS_seq
  apply wpS_region
  simp [wpOpsS, go_sem, recoverD, hu, Tryz.ntmps98, Exit.thenS]
  apply wpS_seq
  apply wpS_region
  simp [wpOpsS, go_sem, Exit.thenS]
  refine wpS_cond (t := true) (by simp [Act.eval, Array.replicate]) ?_
  simp only [if_true]
  refine wpS_of_wp ?_
  clear ha hr h
  have ht : ∀ w, (Instr.typeAssert (.iface GU (.int .i64 e)) 20 141 false).run Tryz.prog w = .ok (.int .i64 e) w := fun w => run_assert _ _ w
  generalize hq : (fun e_1 a' w' => bodyPostS Tryz.prog Tryz.f98 c₀ cs _ e_1 a' _ w') = Q
  change Code.wp Tryz.prog _ Q { tmps := #[.pointer (some ⟨qa, 0, none⟩), .pointer (some ⟨qr, 0, none⟩), .iface GU (.int .i64 e), .iface GU (.int .i64 e), .iface GU (.int .i64 e), .bool true, undef, undef, undef, undef, undef, undef, undef, undef, undef, undef, undef, undef], defers := [] } w
  go_region
  rw [← hq]
  clear hq ht
  have RF' := RF.out
  have GF' := GF.out
  simp [bodyPostS, results, Tryz.results98]
  exact ⟨RF', Gro.drewN GF' 1⟩

set_option maxRecDepth 100000 in
theorem idle_addr (p q : Addr) (w : World) :
    CallsD Tryz.prog 98 #[.pointer (some p), .pointer (some q)] .returning w fun e u' w' => e = .returned (.tuple #[]) ∧ u' = .returning ∧ w' = w := by
  refine callsD_of_wpS Tryz.func98 rfl fun c₀ cs hu => ?_
  apply wpS_seq
  apply wpS_region
  simp [wpOpsS, go_sem, recoverD, hu, Tryz.ntmps98, Exit.thenS]
  apply wpS_seq
  apply wpS_region
  simp [wpOpsS, go_sem, Exit.thenS]
  refine wpS_cond (t := false) (by simp [Act.eval, Array.replicate]) ?_
  simp only [Bool.false_eq_true, if_false]
  refine wpS_of_wp (wp_skip ?_)
  cases c₀
  simp_all [bodyPostS, results, Tryz.results98]

end Go.Proofs.YtdicgenhfmhklaaGreatDoor

namespace Go.Proofs.YtdicgenhfmhklaaGreatDoor
open Go Go.RowKit
open Sha

end Go.Proofs.YtdicgenhfmhklaaGreatDoor

namespace Go.Proofs.YtdicgenhfmhklaaGreatDoor
open Go Go.RowKit
open Sha

set_option maxRecDepth 100000 in
set_option maxHeartbeats 2000000 in
theorem take_wide (P : Nat) (A : Option Addr) (cap : Nat) (bs : List (BitVec 8)) (a : Nat) (f : Int) (cs : List Value) (hcl : cs.length = 4) (hone : ∀ v ∈ cs, v.oneCell' = true) (a' : Nat) (w : World) (h : Rg w P A cap bs a)
    (hok : f = 0 → ∀ W, Rg W P A cap bs a → Calls Tryz.prog 81 #[.pointer (some ⟨P, 0, none⟩)] W fun e w' => e = .returned (.agg cs.toArray) ∧ Rg w' P A cap bs a' ∧ Gp P W w')
    (hno : ¬ f = 0 → ∀ W, Rg W P A cap bs a → Calls Tryz.prog 81 #[.pointer (some ⟨P, 0, none⟩)] W fun e w' => e = .panicked (gu f) ∧ Gave W w' P A cap bs) :
    Calls Tryz.prog 80 #[.pointer (some ⟨P, 0, none⟩), .func (.func 81) #[] #[]] w fun e w' => (f = 0 → e = .returned (.agg cs.toArray) ∧ Rg w' P A cap bs a') ∧ (¬ f = 0 → e = .returned (.agg q4z.toArray) ∧ Rf w' P a f) ∧ Gp P w w' := by
  have hmf : ∀ (fn : Fn) (first cap : Array Value) (w : World), (Instr.makeFunc fn first cap).run Tryz.prog w = .ok (.func fn first cap) w := fun _ _ _ _ => rfl
  have b0 : Below w.heap.size w (w.alloc (Obj.cells #[.pointer (some ⟨P, 0, none⟩)] 102)) := (Below.refl _ _).alloc (Nat.le_refl _) _
  have b1 : Below w.heap.size w ((w.alloc (Obj.cells #[.pointer (some ⟨P, 0, none⟩)] 102)).alloc (Obj.cells q4z.toArray 38)) := b0.alloc b0.size _
  have b2 : Below w.heap.size w (((w.alloc (Obj.cells #[.pointer (some ⟨P, 0, none⟩)] 102)).alloc (Obj.cells q4z.toArray 38)).alloc (Obj.cells #[.int .i64 (a : Int)] 3)) := b1.alloc b1.size _
  have HR1 : Hid (Rg ((w.alloc (Obj.cells #[.pointer (some ⟨P, 0, none⟩)] 102)).alloc (Obj.cells q4z.toArray 38)) P A cap bs a) := h.be b1
  have HE : Hid _ := err_ok P _ a 0 ((w.alloc (Obj.cells #[.pointer (some ⟨P, 0, none⟩)] 102)).alloc (Obj.cells q4z.toArray 38)) HR1.out.row
  have g1 := HR1.out.row.cell 1 _ rfl
  have HR2 : Hid (Rg (((w.alloc (Obj.cells #[.pointer (some ⟨P, 0, none⟩)] 102)).alloc (Obj.cells q4z.toArray 38)).alloc (Obj.cells #[.int .i64 (a : Int)] 3)) P A cap bs a) := h.be b2
  have RA : Hid (Row (((w.alloc (Obj.cells #[.pointer (some ⟨P, 0, none⟩)] 102)).alloc (Obj.cells q4z.toArray 38)).alloc (Obj.cells #[.int .i64 (a : Int)] 3)) (w.heap.size + 2) [.int .i64 (a : Int)] 3) := Row.new' (by simp) rfl
  have RZ : Hid (Row (((w.alloc (Obj.cells #[.pointer (some ⟨P, 0, none⟩)] 102)).alloc (Obj.cells q4z.toArray 38)).alloc (Obj.cells #[.int .i64 (a : Int)] 3)) (w.heap.size + 1) q4z 38) := (Row.new' (by simp) rfl).alloc _
  have RR : Hid (Row (((w.alloc (Obj.cells #[.pointer (some ⟨P, 0, none⟩)] 102)).alloc (Obj.cells q4z.toArray 38)).alloc (Obj.cells #[.int .i64 (a : Int)] 3)) w.heap.size [.pointer (some ⟨P, 0, none⟩)] 102) := ((Row.new' rfl rfl).alloc _).alloc _
  have rr1 : Row ((w.alloc (Obj.cells #[.pointer (some ⟨P, 0, none⟩)] 102)).alloc (Obj.cells q4z.toArray 38)) w.heap.size [.pointer (some ⟨P, 0, none⟩)] 102 := (Row.new' rfl rfl).alloc _
  have HB2 : Hid _ := b2
  have HP : Hid (P < w.heap.size) := h.row.lt
  have HCL : Hid (cs.length = 4) := hcl
  have HO : Hid (cs.toArray.all (·.oneCell') = true) := all_oneCell_toArray hone
  have HI' : Hid ((Tryz.prog.info? 38).map (·.size) = some cs.toArray.size) := by show _ = _; rw [List.size_toArray, hcl]; exact info_q
  have Hq4z : Hid (q4z.length = 4) := rfl
  have c0 := rr1.cell 0 _ rfl
  clear h b0 b1 b2 hcl hone rr1
  by_cases hf : f = 0
  · have HK : Hid _ := hok hf _ HR2.out
    clear hok hno
    go_enter_defers Tryz.func80, Tryz.ntmps80
    go_wp2_with fail
    refine Calls.mono HE.out ?_
    rintro e w2 ⟨rfl, rfl⟩
    go_wp2_with fail
    refine Calls.mono HK.out ?_
    rintro e V ⟨rfl, hr, hg⟩
    have rz : Row V (w.heap.size + 1) q4z 38 := hg.row RZ.out (by have := HP.out; omega)
    have T0 := rz.there 0 cs.toArray.size (by rw [List.size_toArray, HCL.out]; decide)
    have NF : Hid _ := rz.over (vs := cs) (by rw [HCL.out]; rfl)
    have HR : Hid (Rg (V.setCells (w.heap.size + 1) 0 cs) P A cap bs a') := hr.setsNew (w.heap.size + 1) 0 cs rz (by decide) (by decide)
    have HG : Hid (Gro (fun k => k = P) w (V.setCells (w.heap.size + 1) 0 cs)) := by
      have k0 := below_setCells (Below.refl 0 V) (b := w.heap.size + 1) (o := 0) (Nat.zero_le _) cs
      have hg1 := (Gro.of_below (R := fun k => k = P) HB2.out).trans hg
      exact ⟨k0.os.trans hg1.os, k0.tape.trans hg1.tape, k0.output.trans hg1.output, Nat.le_trans hg1.size k0.size, fun i hi hn => (heap_sets V (w.heap.size + 1) 0 _ i (by omega)).trans (hg1.block i hi hn)⟩
    clear hr hg HK rz HE
    go_wp2_with (refine wpList_store_mid rfl 38 (.tmp 4) (.tmp 17) rfl (w.heap.size + 1) 0 cs.toArray rfl rfl T0 HI'.out HO.out ?_; simp only [Act.put]; clear T0; (change wpList _ _ _ _ _ (World.setCells V (w.heap.size + 1) 0 cs)); (generalize World.setCells V (w.heap.size + 1) 0 cs = Y at *))
    refine leaves_cons (f := 99) (args := #[.pointer (some ⟨w.heap.size + 2, 0, none⟩), .pointer (some ⟨w.heap.size, 0, none⟩)]) (by simp) (by simp [go_sem]) ?_
    refine (idle_wide ⟨w.heap.size + 2, 0, none⟩ ⟨w.heap.size, 0, none⟩ _).mono ?_
    rintro e u' w'' ⟨rfl, rfl, rfl⟩
    exact ⟨_, results_row Tryz.results80 _ _ (w.heap.size + 1) 38 cs rfl NF.out Tryz.underlying38 info_q HCL.out, fun _ => ⟨rfl, HR.out⟩, fun q => absurd hf q, HG.out⟩
  · have HK : Hid _ := hno hf _ HR2.out
    clear hok hno
    go_enter_defers Tryz.func80, Tryz.ntmps80
    go_wp2_with fail
    refine Calls.mono HE.out ?_
    rintro e w2 ⟨rfl, rfl⟩
    go_wp2_with fail
    refine Calls.mono HK.out ?_
    rintro e V ⟨rfl, ⟨b, hr⟩, hg⟩
    have ra : Row V (w.heap.size + 2) [.int .i64 (a : Int)] 3 := hg.row RA.out (by have := HP.out; omega)
    have rr : Row V w.heap.size [.pointer (some ⟨P, 0, none⟩)] 102 := hg.row RR.out (by have := HP.out; omega)
    have RZV : Hid (Row V (w.heap.size + 1) q4z 38) := hg.row RZ.out (by have := HP.out; omega)
    have HC : Hid _ := catch_wide (w.heap.size + 2) w.heap.size P a f _ (b : Int) V ra rr hr.row
    have HG : Hid (Gro (fun k => k = P) w V) := (Gro.of_below HB2.out).trans hg
    clear hr hg HK ra rr HE
    go_wp2
    refine leaves_cons (f := 99) (args := #[.pointer (some ⟨w.heap.size + 2, 0, none⟩), .pointer (some ⟨w.heap.size, 0, none⟩)]) (by simp) (by simp [go_sem]) ?_
    refine CallsD.mono HC.out ?_
    rintro e u' w'' ⟨rfl, rfl, hrf, hgf⟩
    have HRF : Hid (Rf _ _ _ _) := hrf
    have HGF : Hid (Gro (fun k => k = P) w w'') := HG.out.trans hgf
    have NF : Hid (Row w'' (w.heap.size + 1) q4z 38) := hgf.row RZV.out (by have := HP.out; omega)
    clear hrf hgf
    exact ⟨_, results_row Tryz.results80 _ _ (w.heap.size + 1) 38 q4z rfl NF.out Tryz.underlying38 info_q Hq4z.out, fun q => absurd q hf, fun _ => ⟨rfl, HRF.out⟩, HGF.out⟩

set_option maxRecDepth 100000 in
set_option maxHeartbeats 2000000 in
theorem take_address (P : Nat) (A : Option Addr) (cap : Nat) (bs : List (BitVec 8)) (a : Nat) (f : Int) (cs : List Value) (hcl : cs.length = 20) (hone : ∀ v ∈ cs, v.oneCell' = true) (a' : Nat) (w : World) (h : Rg w P A cap bs a)
    (hok : f = 0 → ∀ W, Rg W P A cap bs a → Calls Tryz.prog 79 #[.pointer (some ⟨P, 0, none⟩)] W fun e w' => e = .returned (.agg cs.toArray) ∧ Rg w' P A cap bs a' ∧ Gp P W w')
    (hno : ¬ f = 0 → ∀ W, Rg W P A cap bs a → Calls Tryz.prog 79 #[.pointer (some ⟨P, 0, none⟩)] W fun e w' => e = .panicked (gu f) ∧ Gave W w' P A cap bs) :
    Calls Tryz.prog 78 #[.pointer (some ⟨P, 0, none⟩), .func (.func 79) #[] #[]] w fun e w' => (f = 0 → e = .returned (.agg cs.toArray) ∧ Rg w' P A cap bs a') ∧ (¬ f = 0 → e = .returned (.agg z20.toArray) ∧ Rf w' P a f) ∧ Gp P w w' := by
  have hmf : ∀ (fn : Fn) (first cap : Array Value) (w : World), (Instr.makeFunc fn first cap).run Tryz.prog w = .ok (.func fn first cap) w := fun _ _ _ _ => rfl
  have b0 : Below w.heap.size w (w.alloc (Obj.cells #[.pointer (some ⟨P, 0, none⟩)] 102)) := (Below.refl _ _).alloc (Nat.le_refl _) _
  have b1 : Below w.heap.size w ((w.alloc (Obj.cells #[.pointer (some ⟨P, 0, none⟩)] 102)).alloc (Obj.cells z20.toArray 35)) := b0.alloc b0.size _
  have b2 : Below w.heap.size w (((w.alloc (Obj.cells #[.pointer (some ⟨P, 0, none⟩)] 102)).alloc (Obj.cells z20.toArray 35)).alloc (Obj.cells #[.int .i64 (a : Int)] 3)) := b1.alloc b1.size _
  have HR1 : Hid (Rg ((w.alloc (Obj.cells #[.pointer (some ⟨P, 0, none⟩)] 102)).alloc (Obj.cells z20.toArray 35)) P A cap bs a) := h.be b1
  have HE : Hid _ := err_ok P _ a 0 ((w.alloc (Obj.cells #[.pointer (some ⟨P, 0, none⟩)] 102)).alloc (Obj.cells z20.toArray 35)) HR1.out.row
  have g1 := HR1.out.row.cell 1 _ rfl
  have HR2 : Hid (Rg (((w.alloc (Obj.cells #[.pointer (some ⟨P, 0, none⟩)] 102)).alloc (Obj.cells z20.toArray 35)).alloc (Obj.cells #[.int .i64 (a : Int)] 3)) P A cap bs a) := h.be b2
  have RA : Hid (Row (((w.alloc (Obj.cells #[.pointer (some ⟨P, 0, none⟩)] 102)).alloc (Obj.cells z20.toArray 35)).alloc (Obj.cells #[.int .i64 (a : Int)] 3)) (w.heap.size + 2) [.int .i64 (a : Int)] 3) := Row.new' (by simp) rfl
  have RZ : Hid (Row (((w.alloc (Obj.cells #[.pointer (some ⟨P, 0, none⟩)] 102)).alloc (Obj.cells z20.toArray 35)).alloc (Obj.cells #[.int .i64 (a : Int)] 3)) (w.heap.size + 1) z20 35) := (Row.new' (by simp) rfl).alloc _
  have RR : Hid (Row (((w.alloc (Obj.cells #[.pointer (some ⟨P, 0, none⟩)] 102)).alloc (Obj.cells z20.toArray 35)).alloc (Obj.cells #[.int .i64 (a : Int)] 3)) w.heap.size [.pointer (some ⟨P, 0, none⟩)] 102) := ((Row.new' rfl rfl).alloc _).alloc _
  have rr1 : Row ((w.alloc (Obj.cells #[.pointer (some ⟨P, 0, none⟩)] 102)).alloc (Obj.cells z20.toArray 35)) w.heap.size [.pointer (some ⟨P, 0, none⟩)] 102 := (Row.new' rfl rfl).alloc _
  have HB2 : Hid _ := b2
  have HP : Hid (P < w.heap.size) := h.row.lt
  have HCL : Hid (cs.length = 20) := hcl
  have HO : Hid (cs.toArray.all (·.oneCell') = true) := all_oneCell_toArray hone
  have HI' : Hid ((Tryz.prog.info? 35).map (·.size) = some cs.toArray.size) := by show _ = _; rw [List.size_toArray, hcl]; exact info_a20
  have Hz20 : Hid (z20.length = 20) := rfl
  have c0 := rr1.cell 0 _ rfl
  clear h b0 b1 b2 hcl hone rr1
  by_cases hf : f = 0
  · have HK : Hid _ := hok hf _ HR2.out
    clear hok hno
    go_enter_defers Tryz.func78, Tryz.ntmps78
    go_wp2_with fail
    refine Calls.mono HE.out ?_
    rintro e w2 ⟨rfl, rfl⟩
    go_wp2_with fail
    refine Calls.mono HK.out ?_
    rintro e V ⟨rfl, hr, hg⟩
    have rz : Row V (w.heap.size + 1) z20 35 := hg.row RZ.out (by have := HP.out; omega)
    have T0 := rz.there 0 cs.toArray.size (by rw [List.size_toArray, HCL.out]; decide)
    have NF : Hid _ := rz.over (vs := cs) (by rw [HCL.out]; rfl)
    have HR : Hid (Rg (V.setCells (w.heap.size + 1) 0 cs) P A cap bs a') := hr.setsNew (w.heap.size + 1) 0 cs rz (by decide) (by decide)
    have HG : Hid (Gro (fun k => k = P) w (V.setCells (w.heap.size + 1) 0 cs)) := by
      have k0 := below_setCells (Below.refl 0 V) (b := w.heap.size + 1) (o := 0) (Nat.zero_le _) cs
      have hg1 := (Gro.of_below (R := fun k => k = P) HB2.out).trans hg
      exact ⟨k0.os.trans hg1.os, k0.tape.trans hg1.tape, k0.output.trans hg1.output, Nat.le_trans hg1.size k0.size, fun i hi hn => (heap_sets V (w.heap.size + 1) 0 _ i (by omega)).trans (hg1.block i hi hn)⟩
    clear hr hg HK rz HE
    go_wp2_with (refine wpList_store_mid rfl 35 (.tmp 4) (.tmp 17) rfl (w.heap.size + 1) 0 cs.toArray rfl rfl T0 HI'.out HO.out ?_; simp only [Act.put]; clear T0; (change wpList _ _ _ _ _ (World.setCells V (w.heap.size + 1) 0 cs)); (generalize World.setCells V (w.heap.size + 1) 0 cs = Y at *))
    refine leaves_cons (f := 98) (args := #[.pointer (some ⟨w.heap.size + 2, 0, none⟩), .pointer (some ⟨w.heap.size, 0, none⟩)]) (by simp) (by simp [go_sem]) ?_
    refine (idle_addr ⟨w.heap.size + 2, 0, none⟩ ⟨w.heap.size, 0, none⟩ _).mono ?_
    rintro e u' w'' ⟨rfl, rfl, rfl⟩
    exact ⟨_, results_row Tryz.results78 _ _ (w.heap.size + 1) 35 cs rfl NF.out Tryz.underlying35 info_a20 HCL.out, fun _ => ⟨rfl, HR.out⟩, fun q => absurd hf q, HG.out⟩
  · have HK : Hid _ := hno hf _ HR2.out
    clear hok hno
    go_enter_defers Tryz.func78, Tryz.ntmps78
    go_wp2_with fail
    refine Calls.mono HE.out ?_
    rintro e w2 ⟨rfl, rfl⟩
    go_wp2_with fail
    refine Calls.mono HK.out ?_
    rintro e V ⟨rfl, ⟨b, hr⟩, hg⟩
    have ra : Row V (w.heap.size + 2) [.int .i64 (a : Int)] 3 := hg.row RA.out (by have := HP.out; omega)
    have rr : Row V w.heap.size [.pointer (some ⟨P, 0, none⟩)] 102 := hg.row RR.out (by have := HP.out; omega)
    have RZV : Hid (Row V (w.heap.size + 1) z20 35) := hg.row RZ.out (by have := HP.out; omega)
    have HC : Hid _ := catch_addr (w.heap.size + 2) w.heap.size P a f _ (b : Int) V ra rr hr.row
    have HG : Hid (Gro (fun k => k = P) w V) := (Gro.of_below HB2.out).trans hg
    clear hr hg HK ra rr HE
    go_wp2
    refine leaves_cons (f := 98) (args := #[.pointer (some ⟨w.heap.size + 2, 0, none⟩), .pointer (some ⟨w.heap.size, 0, none⟩)]) (by simp) (by simp [go_sem]) ?_
    refine CallsD.mono HC.out ?_
    rintro e u' w'' ⟨rfl, rfl, hrf, hgf⟩
    have HRF : Hid (Rf _ _ _ _) := hrf
    have HGF : Hid (Gro (fun k => k = P) w w'') := HG.out.trans hgf
    have NF : Hid (Row w'' (w.heap.size + 1) z20 35) := hgf.row RZV.out (by have := HP.out; omega)
    clear hrf hgf
    exact ⟨_, results_row Tryz.results78 _ _ (w.heap.size + 1) 35 z20 rfl NF.out Tryz.underlying35 info_a20 Hz20.out, fun q => absurd q hf, fun _ => ⟨rfl, HRF.out⟩, HGF.out⟩

end Go.Proofs.YtdicgenhfmhklaaGreatDoor

namespace Go.Proofs.YtdicgenhfmhklaaGreatDoor
open Go Go.RowKit
open Sha

set_option maxRecDepth 100000 in
set_option maxHeartbeats 2000000 in
theorem catch_byte (qa qr P : Nat) (a0 : Nat) (e : Int) (v : Value) (b : Int) (w : World) (ha : Row w qa [.int .i64 (a0 : Int)] 3) (hr : Row w qr [.pointer (some ⟨P, 0, none⟩)] 102) (h : Row w P [v, .int .i64 b, .int .i64 0] 120) :
    CallsD Tryz.prog 94 #[.pointer (some ⟨qa, 0, none⟩), .pointer (some ⟨qr, 0, none⟩)] (.panicking (gu e)) w fun r u' w' => r = .returned (.tuple #[]) ∧ u' = .panicking [{ v := .iface GU (.int .i64 e), recovered := true }] ∧ Rf w' P a0 e ∧ Gp P w w' := by
  have ca := ha.cell 0 _ rfl
  have cr := hr.cell 0 _ rfl
  have g0 := h.cell 0 _ rfl
  have g1 := h.cell 1 _ rfl
  have g2 := h.cell 2 _ rfl
  have f0 := h.thaw 0
  have f1 := h.thaw 1
  have f2 := h.thaw 2
  have RF : Hid (Rf (((w.setCell ⟨P, 0, none⟩ (.slice none 0 0)).setCell ⟨P, 1, none⟩ (.int .i64 (a0 : Int))).setCell ⟨P, 2, none⟩ (.int .i64 e)) P a0 e) := ((h.set 0 (.slice none 0 0)).set 1 (.int .i64 (a0 : Int))).set 2 (.int .i64 e)
  have GF : Hid (Gp P w (((w.setCell ⟨P, 0, none⟩ (.slice none 0 0)).setCell ⟨P, 1, none⟩ (.int .i64 (a0 : Int))).setCell ⟨P, 2, none⟩ (.int .i64 e))) := Gp.set (Gp.set (Gp.set (Gro.refl _ w) 0 _) 1 _) 2 _
  refine callsD_of_wpS Tryz.func94 rfl fun c₀ cs hu => ?_
  apply wpS_seq
  apply wpS_region
  simp [wpOpsS, go_sem, recoverD, hu, Tryz.ntmps94, Exit.thenS]
  apply wpS_seq
  apply wpS_region
  simp [wpOpsS, go_sem, Exit.thenS]
  refine wpS_cond (t := true) (by simp [Act.eval, Array.replicate]) ?_
  simp only [if_true]
  refine wpS_of_wp ?_
  clear ha hr h
  have ht : ∀ w, (Instr.typeAssert (.iface GU (.int .i64 e)) 20 141 false).run Tryz.prog w = .ok (.int .i64 e) w := fun w => run_assert _ _ w
  generalize hq : (fun e_1 a' w' => bodyPostS Tryz.prog Tryz.f94 c₀ cs _ e_1 a' _ w') = Q
  change Code.wp Tryz.prog _ Q { tmps := #[.pointer (some ⟨qa, 0, none⟩), .pointer (some ⟨qr, 0, none⟩), .iface GU (.int .i64 e), .iface GU (.int .i64 e), .iface GU (.int .i64 e), .bool true, undef, undef, undef, undef, undef, undef, undef, undef, undef, undef, undef, undef], defers := [] } w
  go_region
  rw [← hq]
  clear hq ht
  have RF' := RF.out
  have GF' := GF.out
  simp [bodyPostS, results, Tryz.results94]
  exact ⟨RF', Gro.drewN GF' 1⟩

set_option maxRecDepth 100000 in
theorem idle_byte (p q : Addr) (w : World) :
    CallsD Tryz.prog 94 #[.pointer (some p), .pointer (some q)] .returning w fun e u' w' => e = .returned (.tuple #[]) ∧ u' = .returning ∧ w' = w := by
  refine callsD_of_wpS Tryz.func94 rfl fun c₀ cs hu => ?_
  apply wpS_seq
  apply wpS_region
  simp [wpOpsS, go_sem, recoverD, hu, Tryz.ntmps94, Exit.thenS]
  apply wpS_seq
  apply wpS_region
  simp [wpOpsS, go_sem, Exit.thenS]
  refine wpS_cond (t := false) (by simp [Act.eval, Array.replicate]) ?_
  simp only [Bool.false_eq_true, if_false]
  refine wpS_of_wp (wp_skip ?_)
  cases c₀
  simp_all [bodyPostS, results, Tryz.results94]

end Go.Proofs.YtdicgenhfmhklaaGreatDoor

namespace Go.Proofs.YtdicgenhfmhklaaGreatDoor
open Go Go.RowKit
open Sha

end Go.Proofs.YtdicgenhfmhklaaGreatDoor

namespace Go.Proofs.YtdicgenhfmhklaaGreatDoor
open Go Go.RowKit
open Sha

set_option maxRecDepth 100000 in
set_option maxHeartbeats 2000000 in
theorem take_byte (P : Nat) (A : Option Addr) (cap : Nat) (bs : List (BitVec 8)) (a : Nat) (f : Int) (v : Value) (a' : Nat) (w : World) (h : Rg w P A cap bs a)
    (hok : f = 0 → ∀ W, Rg W P A cap bs a → Calls Tryz.prog 75 #[.pointer (some ⟨P, 0, none⟩)] W fun e w' => e = .returned v ∧ Rg w' P A cap bs a' ∧ Gp P W w')
    (hno : ¬ f = 0 → ∀ W, Rg W P A cap bs a → Calls Tryz.prog 75 #[.pointer (some ⟨P, 0, none⟩)] W fun e w' => e = .panicked (gu f) ∧ Gave W w' P A cap bs) :
    Calls Tryz.prog 74 #[.pointer (some ⟨P, 0, none⟩), .func (.func 75) #[] #[]] w fun e w' => (f = 0 → e = .returned v ∧ Rg w' P A cap bs a') ∧ (¬ f = 0 → e = .returned (.int .u8 0) ∧ Rf w' P a f) ∧ Gp P w w' := by
  have hmf : ∀ (fn : Fn) (first cap : Array Value) (w : World), (Instr.makeFunc fn first cap).run Tryz.prog w = .ok (.func fn first cap) w := fun _ _ _ _ => rfl
  have b0 : Below w.heap.size w (w.alloc (Obj.cells #[.pointer (some ⟨P, 0, none⟩)] 102)) := (Below.refl _ _).alloc (Nat.le_refl _) _
  have b1 := b0.alloc b0.size (Obj.cells #[.int .i64 (a : Int)] 3)
  have HR0 : Hid (Rg (w.alloc (Obj.cells #[.pointer (some ⟨P, 0, none⟩)] 102)) P A cap bs a) := h.be b0
  have HE : Hid _ := err_ok P _ a 0 _ HR0.out.row
  have g1 := HR0.out.row.cell 1 _ rfl
  have HR1 : Hid (Rg ((w.alloc (Obj.cells #[.pointer (some ⟨P, 0, none⟩)] 102)).alloc (Obj.cells #[.int .i64 (a : Int)] 3)) P A cap bs a) := HR0.out.be ((Below.refl _ _).alloc (Nat.le_refl _) _)
  have RA : Hid (Row ((w.alloc (Obj.cells #[.pointer (some ⟨P, 0, none⟩)] 102)).alloc (Obj.cells #[.int .i64 (a : Int)] 3)) (w.heap.size + 1) [.int .i64 (a : Int)] 3) := Row.new' (by simp) rfl
  have RR : Hid (Row ((w.alloc (Obj.cells #[.pointer (some ⟨P, 0, none⟩)] 102)).alloc (Obj.cells #[.int .i64 (a : Int)] 3)) w.heap.size [.pointer (some ⟨P, 0, none⟩)] 102) := (Row.new' rfl rfl).alloc _
  have HB1 : Hid _ := b1
  have HP : Hid (P < w.heap.size) := h.row.lt
  clear h b0 b1
  by_cases hf : f = 0
  · have HK : Hid _ := hok hf _ HR1.out
    clear hok hno
    go_enter_defers Tryz.func74, Tryz.ntmps74
    go_wp2_with (go_at_call 82; refine Calls.mono HE.out ?_; rintro e w2 ⟨rfl, rfl⟩)
    refine Calls.mono HK.out ?_
    rintro e V ⟨rfl, hr, hg⟩
    have HR : Hid (Rg _ _ _ _ _ _) := hr
    have HG : Hid (Gro (fun k => k = P) w V) := (Gro.of_below HB1.out).trans hg
    clear hr hg HK
    go_wp2
    refine leaves_cons (f := 94) (args := #[.pointer (some ⟨w.heap.size + 1, 0, none⟩), .pointer (some ⟨w.heap.size, 0, none⟩)]) (by simp) (by simp [go_sem]) ?_
    refine (idle_byte ⟨w.heap.size + 1, 0, none⟩ ⟨w.heap.size, 0, none⟩ _).mono ?_
    rintro e u' w'' ⟨rfl, rfl, rfl⟩
    exact ⟨_, results_tmp rfl _ _ _, fun _ => ⟨rfl, HR.out⟩, fun q => absurd hf q, HG.out⟩
  · have HK : Hid _ := hno hf _ HR1.out
    clear hok hno
    go_enter_defers Tryz.func74, Tryz.ntmps74
    go_wp2_with (go_at_call 82; refine Calls.mono HE.out ?_; rintro e w2 ⟨rfl, rfl⟩)
    refine Calls.mono HK.out ?_
    rintro e V ⟨rfl, ⟨b, hr⟩, hg⟩
    have ra : Row V (w.heap.size + 1) [.int .i64 (a : Int)] 3 := hg.row RA.out (by have := HP.out; omega)
    have rr : Row V w.heap.size [.pointer (some ⟨P, 0, none⟩)] 102 := hg.row RR.out (by have := HP.out; omega)
    have HC : Hid _ := catch_byte (w.heap.size + 1) w.heap.size P a f _ (b : Int) V ra rr hr.row
    have HG : Hid (Gro (fun k => k = P) w V) := (Gro.of_below HB1.out).trans hg
    clear hr hg HK ra rr
    go_wp2
    refine leaves_cons (f := 94) (args := #[.pointer (some ⟨w.heap.size + 1, 0, none⟩), .pointer (some ⟨w.heap.size, 0, none⟩)]) (by simp) (by simp [go_sem]) ?_
    refine CallsD.mono HC.out ?_
    rintro e u' w'' ⟨rfl, rfl, hrf, hgf⟩
    have HRF : Hid (Rf _ _ _ _) := hrf
    have HGF : Hid (Gro (fun k => k = P) w w'') := HG.out.trans hgf
    clear hrf hgf
    simp [Leaves, settle, results, Tryz.results74, go_sem]
    exact ⟨fun q => absurd q hf, fun _ => HRF.out, HGF.out⟩

end Go.Proofs.YtdicgenhfmhklaaGreatDoor

namespace Go.Proofs.YtdicgenhfmhklaaGreatDoor
open Go Go.RowKit
open Sha

end Go.Proofs.YtdicgenhfmhklaaGreatDoor

namespace Go.Proofs.YtdicgenhfmhklaaGreatDoor
open Go Go.RowKit
open Sha

end Go.Proofs.YtdicgenhfmhklaaGreatDoor

namespace Go.Proofs.YtdicgenhfmhklaaGreatDoor
open Go Go.RowKit
open Sha

theorem sub_sl {w : World} {P : Nat} {A : Option Addr} {cap : Nat} {bs : List (BitVec 8)} {a n b c' : Nat} {A' : Option Addr} (h : Rg w P A cap bs b) (hl : a + n ≤ bs.length) (hc : n ≤ c') (hA : 0 < n → ∃ g, A = some ⟨g, 0, none⟩ ∧ A' = some ⟨g, a, none⟩) : SlAt w (.slice A' n c') (sub bs a n) := by
  by_cases h0 : n = 0
  · subst h0
    exact .inl ⟨by unfold sub; simp, A', c', rfl⟩
  · obtain ⟨g, eA, eA'⟩ := hA (by omega)
    have e := sub_len bs a n hl
    refine .inr ⟨g, a, c', by rw [e, eA'], by rw [e]; exact hc, fun j v hj => ?_⟩
    have hjl : j < n := by have := (List.getElem?_eq_some_iff.1 hj).1; rw [vB_length, e] at this; exact this
    obtain ⟨g', e1, gb⟩ := h.byte (a + j) (by omega)
    rw [eA] at e1
    simp only [Option.some.injEq, Addr.mk.injEq] at e1
    obtain ⟨rfl, _⟩ := e1
    rw [gb, ← hj]
    unfold vB
    rw [List.getElem?_map, sub_get bs a n j hjl, List.getElem?_eq_getElem (show a + j < bs.length by omega)]
    simp [List.getElem?_eq_getElem (show a + j < bs.length by omega)]

/-- Bytes that came out. -/
def Bo (N : Nat) (d : List (BitVec 8)) (n : Nat) (W : World) (v : Value) : Prop := ∃ A c, v = .slice A n c ∧ Bw W (.slice A n c) d ∧ Fresh N (.slice A n c) ∧ (A = none → c = 0)

theorem seeByte_x0 (P : Nat) (A : Option Addr) (cap : Nat) (bs : List (BitVec 8)) (a : Nat) (hf : byE bs a = 0) (w : World) (h : Rg w P A cap bs a) :
    Calls Tryz.prog 75 #[.pointer (some ⟨P, 0, none⟩)] w fun e w' => e = .returned (.int .u8 ((at8 bs a : Nat) : Int)) ∧ Rg w' P A cap bs (a + 1) ∧ Gp P w w' := by
  unfold byE at hf
  have h1 : ¬ bs.length ≤ a := fun h1 => by rw [if_pos h1] at hf; cases hf
  refine (seeByte_any P A cap bs a (by omega) w h).mono ?_
  rintro e w' ⟨rfl, m, rfl⟩
  exact ⟨rfl, (h.move (a + 1) (by omega)).drewN m, Gro.drewN (Gp.set (Gro.refl _ _) 1 _) m⟩
theorem seeByte_x1 (P : Nat) (A : Option Addr) (cap : Nat) (bs : List (BitVec 8)) (a : Nat) (hf : ¬ byE bs a = 0) (w : World) (h : Rg w P A cap bs a) :
    Calls Tryz.prog 75 #[.pointer (some ⟨P, 0, none⟩)] w fun e w' => e = .panicked (gu (byE bs a)) ∧ Gave w w' P A cap bs := by
  unfold byE at hf ⊢
  by_cases h1 : bs.length ≤ a
  · rw [if_pos h1]
    refine (seeByte_no P A cap bs a h1 w h).mono ?_
    rintro e w' ⟨rfl, m, rfl⟩
    exact ⟨rfl, Gave.of (h.drewN m) (Gro.drewN (Gro.refl _ _) m)⟩
  · rw [if_neg h1] at hf
    exact absurd rfl hf

end Go.Proofs.YtdicgenhfmhklaaGreatDoor

namespace Go.Proofs.YtdicgenhfmhklaaGreatDoor
open Go Go.RowKit
open Sha

theorem dgE_ok {n : Nat} {bs : List (BitVec 8)} {a : Nat} (h : dgE n bs a = 0) : a + n ≤ bs.length := by
  unfold dgE at h
  by_cases q : bs.length < a + n
  · rw [if_pos q] at h; cases h
  · omega

set_option maxRecDepth 100000 in
theorem face_byte (P : Nat) (A : Option Addr) (cap : Nat) (bs : List (BitVec 8)) (a : Nat) (w : World) (h : Rg w P A cap bs a) :
    Calls Tryz.prog 56 #[.pointer (some ⟨P, 0, none⟩)] w fun e w' => (byE bs a = 0 → e = .returned (.int .u8 ((at8 bs a : Nat) : Int)) ∧ Rg w' P A cap bs (a + 1)) ∧ (¬ byE bs a = 0 → e = .returned (.int .u8 0) ∧ Rf w' P a (byE bs a)) ∧ Gp P w w' := by
  have HT : Hid _ := take_byte P A cap bs a (byE bs a) (.int .u8 ((at8 bs a : Nat) : Int)) (a + 1) w h (fun h0 W hr => seeByte_x0 P A cap bs a h0 W hr) (fun h0 W hr => seeByte_x1 P A cap bs a h0 W hr)
  clear h
  generalize byE bs a = f at *
  generalize a + 1 = a' at *
  go_enter Tryz.func56, Tryz.ntmps56
  go_wp2_with fail
  refine Calls.mono HT.out ?_
  rintro e V ⟨h1, h2, hg⟩
  have HG : Hid (Gro _ _ _) := hg
  by_cases hz : f = 0
  · obtain ⟨rfl, hr⟩ := h1 hz
    have HR : Hid (Rg _ _ _ _ _ _) := hr
    clear h1 h2 hg HT hr
    go_wp2_with fail
    go_ret
    exact ⟨fun _ => ⟨rfl, HR.out⟩, fun q => absurd hz q, HG.out⟩
  · obtain ⟨rfl, hr⟩ := h2 hz
    have HR : Hid (Rf _ _ _ _) := hr
    clear h1 h2 hg HT hr
    go_wp2_with fail
    go_ret
    exact ⟨fun q => absurd q hz, fun _ => ⟨rfl, HR.out⟩, HG.out⟩

set_option maxRecDepth 100000 in
theorem face_number (P : Nat) (A : Option Addr) (cap : Nat) (bs : List (BitVec 8)) (a : Nat) (w : World) (h : Rg w P A cap bs a) :
    Calls Tryz.prog 57 #[.pointer (some ⟨P, 0, none⟩)] w fun e w' => (nuE bs a = 0 → e = .returned (.int .i64 ((nuW bs a : Nat) : Int)) ∧ Rg w' P A cap bs (a + 1 + at8 bs a)) ∧ (¬ nuE bs a = 0 → e = .returned (.int .i64 0) ∧ Rf w' P a (nuE bs a)) ∧ Gp P w w' := by
  have HT : Hid _ := take_number P A cap bs a (nuE bs a) (.int .i64 ((nuW bs a : Nat) : Int)) (a + 1 + at8 bs a) w h (fun h0 W hr => seeNumber_any P A cap bs a h0 W hr) (fun h0 W hr => seeNumber_no P A cap bs a _ rfl h0 W hr)
  clear h
  generalize nuE bs a = f at *
  generalize a + 1 + at8 bs a = a' at *
  go_enter Tryz.func57, Tryz.ntmps57
  go_wp2_with fail
  refine Calls.mono HT.out ?_
  rintro e V ⟨h1, h2, hg⟩
  have HG : Hid (Gro _ _ _) := hg
  by_cases hz : f = 0
  · obtain ⟨rfl, hr⟩ := h1 hz
    have HR : Hid (Rg _ _ _ _ _ _) := hr
    clear h1 h2 hg HT hr
    go_wp2_with fail
    go_ret
    exact ⟨fun _ => ⟨rfl, HR.out⟩, fun q => absurd hz q, HG.out⟩
  · obtain ⟨rfl, hr⟩ := h2 hz
    have HR : Hid (Rf _ _ _ _) := hr
    clear h1 h2 hg HT hr
    go_wp2_with fail
    go_ret
    exact ⟨fun q => absurd q hz, fun _ => ⟨rfl, HR.out⟩, HG.out⟩

set_option maxRecDepth 100000 in
set_option maxHeartbeats 1000000 in
theorem face_wide (P : Nat) (A : Option Addr) (cap : Nat) (bs : List (BitVec 8)) (a : Nat) (w : World) (h : Rg w P A cap bs a) :
    Calls Tryz.prog 59 #[.pointer (some ⟨P, 0, none⟩)] w fun e w' => (hiF 32 bs a = 0 → e = .returned (.agg (qd bs (a + 1 + at8 bs a) (at8 bs a)).toArray) ∧ Rg w' P A cap bs (a + 1 + at8 bs a)) ∧ (¬ hiF 32 bs a = 0 → e = .returned (.agg q4z.toArray) ∧ Rf w' P a (hiF 32 bs a)) ∧ Gp P w w' := by
  have b0 : Below w.heap.size w (w.alloc (Obj.cells q4z.toArray 38)) := (Below.refl _ _).alloc (Nat.le_refl _) _
  have R0 : Hid (Row (w.alloc (Obj.cells q4z.toArray 38)) w.heap.size q4z 38) := Row.new' rfl rfl
  have HP : Hid (P < w.heap.size) := h.row.lt
  by_cases hz : hiF 32 bs a = 0
  · have HCL : Hid ((qd bs (a + 1 + at8 bs a) (at8 bs a)).length = 4) := rfl
    have HO : Hid ((qd bs (a + 1 + at8 bs a) (at8 bs a)).toArray.all (·.oneCell') = true) := all_oneCell_toArray (qd_one _ _ _)
    have HT : Hid _ := take_wide P A cap bs a (hiF 32 bs a) (qd bs (a + 1 + at8 bs a) (at8 bs a)) HCL.out (qd_one _ _ _) (a + 1 + at8 bs a) _ (h.be b0) (fun h0 W hr => seeWide_any P A cap bs a h0 W hr) (fun h0 W hr => seeWide_no P A cap bs a _ rfl h0 W hr)
    have B0 : Hid _ := b0
    clear h b0
    generalize hcs : qd bs (a + 1 + at8 bs a) (at8 bs a) = cs at *
    generalize hiF 32 bs a = f at *
    generalize a + 1 + at8 bs a = a' at *
    clear hcs
    have HI' : Hid ((Tryz.prog.info? 38).map (·.size) = some cs.toArray.size) := by show _ = _; rw [List.size_toArray, HCL.out]; exact info_q
    go_enter Tryz.func59, Tryz.ntmps59
    go_wp2_with fail
    refine Calls.mono HT.out ?_
    rintro e V ⟨h1, h2, hg⟩
    obtain ⟨rfl, hr⟩ := h1 hz
    have rz : Row V w.heap.size q4z 38 := hg.row R0.out (by have := HP.out; omega)
    have T0 := rz.there 0 cs.toArray.size (by rw [List.size_toArray, HCL.out]; decide)
    have NF : Hid _ := rz.over (vs := cs) (by rw [HCL.out]; rfl)
    have HR : Hid (Rg (V.setCells w.heap.size 0 cs) P A cap bs a') := hr.setsNew w.heap.size 0 cs rz (by decide) (by decide)
    have HG : Hid (Gp P w (V.setCells w.heap.size 0 cs)) := by
      have k0 := below_setCells (Below.refl 0 V) (b := w.heap.size) (o := 0) (Nat.zero_le _) cs
      have hg1 := (Gro.of_below (R := fun k => k = P) B0.out).trans hg
      exact ⟨k0.os.trans hg1.os, k0.tape.trans hg1.tape, k0.output.trans hg1.output, Nat.le_trans hg1.size k0.size, fun i hi hn => (heap_sets V w.heap.size 0 _ i (by omega)).trans (hg1.block i hi hn)⟩
    clear h1 h2 hg HT hr rz R0
    go_wp2_with (refine wpList_store_mid rfl 38 (.tmp 2) (.tmp 4) rfl w.heap.size 0 cs.toArray rfl rfl T0 HI'.out HO.out ?_; simp only [Act.put]; clear T0; (change wpList _ _ _ _ _ (World.setCells V w.heap.size 0 cs)); (generalize World.setCells V w.heap.size 0 cs = Y at *))
    exact bodyPost_ret (results_row Tryz.results59 _ _ w.heap.size 38 cs rfl NF.out Tryz.underlying38 info_q HCL.out) rfl ⟨fun _ => ⟨rfl, HR.out⟩, fun q => absurd hz q, HG.out⟩
  · have HT : Hid _ := take_wide P A cap bs a (hiF 32 bs a) q4z rfl (q4_one 0 0 0 0) (a + 1 + at8 bs a) _ (h.be b0) (fun h0 W hr => absurd h0 hz) (fun h0 W hr => seeWide_no P A cap bs a _ rfl h0 W hr)
    have HCL : Hid (q4z.length = 4) := rfl
    have HO : Hid (q4z.toArray.all (·.oneCell') = true) := all_oneCell_toArray (q4_one 0 0 0 0)
    have B0 : Hid _ := b0
    clear h b0
    generalize hiF 32 bs a = f at *
    generalize a + 1 + at8 bs a = a' at *
    have HI' : Hid ((Tryz.prog.info? 38).map (·.size) = some q4z.toArray.size) := by show _ = _; rw [List.size_toArray, HCL.out]; exact info_q
    go_enter Tryz.func59, Tryz.ntmps59
    go_wp2_with fail
    refine Calls.mono HT.out ?_
    rintro e V ⟨h1, h2, hg⟩
    obtain ⟨rfl, hr⟩ := h2 hz
    have rz : Row V w.heap.size q4z 38 := hg.row R0.out (by have := HP.out; omega)
    have T0 := rz.there 0 q4z.toArray.size (by rw [List.size_toArray, HCL.out]; decide)
    have NF : Hid _ := rz.over (vs := q4z) rfl
    have HR : Hid (Rf (V.setCells w.heap.size 0 q4z) P a f) := Row.setCells_other hr _ _ _ (by have := HP.out; omega)
    have HG : Hid (Gp P w (V.setCells w.heap.size 0 q4z)) := by
      have k0 := below_setCells (Below.refl 0 V) (b := w.heap.size) (o := 0) (Nat.zero_le _) q4z
      have hg1 := (Gro.of_below (R := fun k => k = P) B0.out).trans hg
      exact ⟨k0.os.trans hg1.os, k0.tape.trans hg1.tape, k0.output.trans hg1.output, Nat.le_trans hg1.size k0.size, fun i hi hn => (heap_sets V w.heap.size 0 _ i (by omega)).trans (hg1.block i hi hn)⟩
    clear h1 h2 hg HT hr rz R0
    go_wp2_with (refine wpList_store_mid rfl 38 (.tmp 2) (.tmp 4) rfl w.heap.size 0 q4z.toArray rfl rfl T0 HI'.out HO.out ?_; simp only [Act.put]; clear T0; (change wpList _ _ _ _ _ (World.setCells V w.heap.size 0 q4z)); (generalize World.setCells V w.heap.size 0 q4z = Y at *))
    exact bodyPost_ret (results_row Tryz.results59 _ _ w.heap.size 38 q4z rfl NF.out Tryz.underlying38 info_q HCL.out) rfl ⟨fun q => absurd q hz, fun _ => ⟨rfl, HR.out⟩, HG.out⟩

set_option maxRecDepth 100000 in
set_option maxHeartbeats 1000000 in
theorem face_address (P : Nat) (A : Option Addr) (cap : Nat) (bs : List (BitVec 8)) (a : Nat) (w : World) (h : Rg w P A cap bs a) :
    Calls Tryz.prog 58 #[.pointer (some ⟨P, 0, none⟩)] w fun e w' => (dgE 20 bs a = 0 → e = .returned (.agg (vB (sub bs a 20)).toArray) ∧ Rg w' P A cap bs (a + 20)) ∧ (¬ dgE 20 bs a = 0 → e = .returned (.agg z20.toArray) ∧ Rf w' P a (dgE 20 bs a)) ∧ Gp P w w' := by
  have b0 : Below w.heap.size w (w.alloc (Obj.cells z20.toArray 35)) := (Below.refl _ _).alloc (Nat.le_refl _) _
  have R0 : Hid (Row (w.alloc (Obj.cells z20.toArray 35)) w.heap.size z20 35) := Row.new' rfl rfl
  have HP : Hid (P < w.heap.size) := h.row.lt
  by_cases hz : dgE 20 bs a = 0
  · have HCL : Hid ((vB (sub bs a 20)).length = 20) := (by show _ = _; rw [vB_length]; exact sub_len bs a 20 (dgE_ok hz))
    have HO : Hid ((vB (sub bs a 20)).toArray.all (·.oneCell') = true) := all_oneCell_toArray (vB_one _)
    have HT : Hid _ := take_address P A cap bs a (dgE 20 bs a) (vB (sub bs a 20)) HCL.out (vB_one _) (a + 20) _ (h.be b0) (fun h0 W hr => seeAddress_any P A cap bs a h0 W hr) (fun h0 W hr => seeAddress_no P A cap bs a _ rfl h0 W hr)
    have B0 : Hid _ := b0
    clear h b0
    generalize hcs : vB (sub bs a 20) = cs at *
    generalize dgE 20 bs a = f at *
    generalize a + 20 = a' at *
    clear hcs
    have HI' : Hid ((Tryz.prog.info? 35).map (·.size) = some cs.toArray.size) := by show _ = _; rw [List.size_toArray, HCL.out]; exact info_a20
    go_enter Tryz.func58, Tryz.ntmps58
    go_wp2_with fail
    refine Calls.mono HT.out ?_
    rintro e V ⟨h1, h2, hg⟩
    obtain ⟨rfl, hr⟩ := h1 hz
    have rz : Row V w.heap.size z20 35 := hg.row R0.out (by have := HP.out; omega)
    have T0 := rz.there 0 cs.toArray.size (by rw [List.size_toArray, HCL.out]; decide)
    have NF : Hid _ := rz.over (vs := cs) (by rw [HCL.out]; rfl)
    have HR : Hid (Rg (V.setCells w.heap.size 0 cs) P A cap bs a') := hr.setsNew w.heap.size 0 cs rz (by decide) (by decide)
    have HG : Hid (Gp P w (V.setCells w.heap.size 0 cs)) := by
      have k0 := below_setCells (Below.refl 0 V) (b := w.heap.size) (o := 0) (Nat.zero_le _) cs
      have hg1 := (Gro.of_below (R := fun k => k = P) B0.out).trans hg
      exact ⟨k0.os.trans hg1.os, k0.tape.trans hg1.tape, k0.output.trans hg1.output, Nat.le_trans hg1.size k0.size, fun i hi hn => (heap_sets V w.heap.size 0 _ i (by omega)).trans (hg1.block i hi hn)⟩
    clear h1 h2 hg HT hr rz R0
    go_wp2_with (refine wpList_store_mid rfl 35 (.tmp 2) (.tmp 4) rfl w.heap.size 0 cs.toArray rfl rfl T0 HI'.out HO.out ?_; simp only [Act.put]; clear T0; (change wpList _ _ _ _ _ (World.setCells V w.heap.size 0 cs)); (generalize World.setCells V w.heap.size 0 cs = Y at *))
    exact bodyPost_ret (results_row Tryz.results58 _ _ w.heap.size 35 cs rfl NF.out Tryz.underlying35 info_a20 HCL.out) rfl ⟨fun _ => ⟨rfl, HR.out⟩, fun q => absurd hz q, HG.out⟩
  · have HT : Hid _ := take_address P A cap bs a (dgE 20 bs a) z20 rfl (vB_one _) (a + 20) _ (h.be b0) (fun h0 W hr => absurd h0 hz) (fun h0 W hr => seeAddress_no P A cap bs a _ rfl h0 W hr)
    have HCL : Hid (z20.length = 20) := rfl
    have HO : Hid (z20.toArray.all (·.oneCell') = true) := all_oneCell_toArray (vB_one _)
    have B0 : Hid _ := b0
    clear h b0
    generalize dgE 20 bs a = f at *
    generalize a + 20 = a' at *
    have HI' : Hid ((Tryz.prog.info? 35).map (·.size) = some z20.toArray.size) := by show _ = _; rw [List.size_toArray, HCL.out]; exact info_a20
    go_enter Tryz.func58, Tryz.ntmps58
    go_wp2_with fail
    refine Calls.mono HT.out ?_
    rintro e V ⟨h1, h2, hg⟩
    obtain ⟨rfl, hr⟩ := h2 hz
    have rz : Row V w.heap.size z20 35 := hg.row R0.out (by have := HP.out; omega)
    have T0 := rz.there 0 z20.toArray.size (by rw [List.size_toArray, HCL.out]; decide)
    have NF : Hid _ := rz.over (vs := z20) rfl
    have HR : Hid (Rf (V.setCells w.heap.size 0 z20) P a f) := Row.setCells_other hr _ _ _ (by have := HP.out; omega)
    have HG : Hid (Gp P w (V.setCells w.heap.size 0 z20)) := by
      have k0 := below_setCells (Below.refl 0 V) (b := w.heap.size) (o := 0) (Nat.zero_le _) z20
      have hg1 := (Gro.of_below (R := fun k => k = P) B0.out).trans hg
      exact ⟨k0.os.trans hg1.os, k0.tape.trans hg1.tape, k0.output.trans hg1.output, Nat.le_trans hg1.size k0.size, fun i hi hn => (heap_sets V w.heap.size 0 _ i (by omega)).trans (hg1.block i hi hn)⟩
    clear h1 h2 hg HT hr rz R0
    go_wp2_with (refine wpList_store_mid rfl 35 (.tmp 2) (.tmp 4) rfl w.heap.size 0 z20.toArray rfl rfl T0 HI'.out HO.out ?_; simp only [Act.put]; clear T0; (change wpList _ _ _ _ _ (World.setCells V w.heap.size 0 z20)); (generalize World.setCells V w.heap.size 0 z20 = Y at *))
    exact bodyPost_ret (results_row Tryz.results58 _ _ w.heap.size 35 z20 rfl NF.out Tryz.underlying35 info_a20 HCL.out) rfl ⟨fun q => absurd q hz, fun _ => ⟨rfl, HR.out⟩, HG.out⟩

end Go.Proofs.YtdicgenhfmhklaaGreatDoor
