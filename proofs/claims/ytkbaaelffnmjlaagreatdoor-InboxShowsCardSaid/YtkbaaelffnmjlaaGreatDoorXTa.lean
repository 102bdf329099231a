/-
  wire.take: a look that gave up is caught.
-/
import Derived.Test.YtkbaaelffnmjlaaGreatDoorXTk
import Derived.Test.YtkbaaelffnmjlaaGreatDoorXLaw2

namespace Go.Proofs.YtkbaaelffnmjlaaGreatDoor
open Go Go.RowKit
open Sha

set_option maxRecDepth 100000 in
set_option maxHeartbeats 2000000 in
theorem catch_wide (qa qr P : Nat) (a0 : Nat) (e : Int) (v : Value) (b : Int) (w : World) (ha : Row w qa [.int .i64 (a0 : Int)] 3) (hr : Row w qr [.pointer (some ⟨P, 0, none⟩)] 130) (h : Row w P [v, .int .i64 b, .int .i64 0] 187) :
    CallsD Tryz.prog 148 #[.pointer (some ⟨qa, 0, none⟩), .pointer (some ⟨qr, 0, none⟩)] (.panicking (gu e)) w fun r u' w' => r = .returned (.tuple #[]) ∧ u' = .panicking [{ v := .iface GU (.int .i64 e), recovered := true }] ∧ Rf w' P a0 e ∧ Gp P w w' := by
  have ca := ha.cell 0 _ rfl
  have cr := hr.cell 0 _ rfl
  have g0 := h.cell 0 _ rfl
  have g1 := h.cell 1 _ rfl
  have g2 := h.cell 2 _ rfl
  have f0 := h.thaw 0
  have f1 := h.thaw 1
  have f2 := h.thaw 2
  have RF : Hid (Rf (((w.setCell ⟨P, 0, none⟩ (.slice none 0 0)).setCell ⟨P, 1, none⟩ (.int .i64 (a0 : Int))).setCell ⟨P, 2, none⟩ (.int .i64 e)) P a0 e) := ((h.set 0 (.slice none 0 0)).set 1 (.int .i64 (a0 : Int))).set 2 (.int .i64 e)
  have GF : Hid (Gp P w (((w.setCell ⟨P, 0, none⟩ (.slice none 0 0)).setCell ⟨P, 1, none⟩ (.int .i64 (a0 : Int))).setCell ⟨P, 2, none⟩ (.int .i64 e))) := Gp.set (Gp.set (Gp.set (Gro.refl _ w) 0 _) 1 _) 2 _
  refine callsD_of_wpS Tryz.func148 rfl fun c₀ cs hu => ?_
  apply wpS_seq
  apply wpS_region
  simp [wpOpsS, go_sem, recoverD, hu, Tryz.ntmps148, Exit.thenS]
  apply wpS_seq
  apply wpS_region
  simp [wpOpsS, go_sem, Exit.thenS]
  refine wpS_cond (t := true) (by simp [Act.eval, Array.replicate]) ?_
  simp only [if_true]
  refine wpS_of_wp ?_
  clear ha hr h
  have ht : ∀ w, (Instr.typeAssert (.iface GU (.int .i64 e)) 20 188 false).run Tryz.prog w = .ok (.int .i64 e) w := fun w => run_assert _ _ w
  generalize hq : (fun e_1 a' w' => bodyPostS Tryz.prog Tryz.f148 c₀ cs _ e_1 a' _ w') = Q
  change Code.wp Tryz.prog _ Q { tmps := #[.pointer (some ⟨qa, 0, none⟩), .pointer (some ⟨qr, 0, none⟩), .iface GU (.int .i64 e), .iface GU (.int .i64 e), .iface GU (.int .i64 e), .bool true, undef, undef, undef, undef, undef, undef, undef, undef, undef, undef, undef, undef], defers := [] } w
  go_region
  rw [← hq]
  clear hq ht
  have RF' := RF.out
  have GF' := GF.out
  simp [bodyPostS, results, Tryz.results148]
  exact ⟨RF', Gro.drewN GF' 1⟩

set_option maxRecDepth 100000 in
theorem idle_wide (p q : Addr) (w : World) :
    CallsD Tryz.prog 148 #[.pointer (some p), .pointer (some q)] .returning w fun e u' w' => e = .returned (.tuple #[]) ∧ u' = .returning ∧ w' = w := by
  refine callsD_of_wpS Tryz.func148 rfl fun c₀ cs hu => ?_
  apply wpS_seq
  apply wpS_region
  simp [wpOpsS, go_sem, recoverD, hu, Tryz.ntmps148, Exit.thenS]
  apply wpS_seq
  apply wpS_region
  simp [wpOpsS, go_sem, Exit.thenS]
  refine wpS_cond (t := false) (by simp [Act.eval, Array.replicate]) ?_
  simp only [Bool.false_eq_true, if_false]
  refine wpS_of_wp (wp_skip ?_)
  cases c₀
  simp_all [bodyPostS, results, Tryz.results148]

end Go.Proofs.YtkbaaelffnmjlaaGreatDoor

namespace Go.Proofs.YtkbaaelffnmjlaaGreatDoor
open Go Go.RowKit
open Sha

set_option maxRecDepth 100000 in
set_option maxHeartbeats 2000000 in
theorem catch_addr (qa qr P : Nat) (a0 : Nat) (e : Int) (v : Value) (b : Int) (w : World) (ha : Row w qa [.int .i64 (a0 : Int)] 3) (hr : Row w qr [.pointer (some ⟨P, 0, none⟩)] 130) (h : Row w P [v, .int .i64 b, .int .i64 0] 187) :
    CallsD Tryz.prog 144 #[.pointer (some ⟨qa, 0, none⟩), .pointer (some ⟨qr, 0, none⟩)] (.panicking (gu e)) w fun r u' w' => r = .returned (.tuple #[]) ∧ u' = .panicking [{ v := .iface GU (.int .i64 e), recovered := true }] ∧ Rf w' P a0 e ∧ Gp P w w' := by
  have ca := ha.cell 0 _ rfl
  have cr := hr.cell 0 _ rfl
  have g0 := h.cell 0 _ rfl
  have g1 := h.cell 1 _ rfl
  have g2 := h.cell 2 _ rfl
  have f0 := h.thaw 0
  have f1 := h.thaw 1
  have f2 := h.thaw 2
  have RF : Hid (Rf (((w.setCell ⟨P, 0, none⟩ (.slice none 0 0)).setCell ⟨P, 1, none⟩ (.int .i64 (a0 : Int))).setCell ⟨P, 2, none⟩ (.int .i64 e)) P a0 e) := ((h.set 0 (.slice none 0 0)).set 1 (.int .i64 (a0 : Int))).set 2 (.int .i64 e)
  have GF : Hid (Gp P w (((w.setCell ⟨P, 0, none⟩ (.slice none 0 0)).setCell ⟨P, 1, none⟩ (.int .i64 (a0 : Int))).setCell ⟨P, 2, none⟩ (.int .i64 e))) := Gp.set (Gp.set (Gp.set (Gro.refl _ w) 0 _) 1 _) 2 _
  refine callsD_of_wpS Tryz.func144 rfl fun c₀ cs hu => ?_
  apply wpS_seq
  apply wpS_region
  simp [wpOpsS, go_sem, recoverD, hu, Tryz.ntmps144, Exit.thenS]
  apply wpS_seq
  apply wpS_region
  simp [wpOpsS, go_sem, Exit.thenS]
  refine wpS_cond (t := true) (by simp [Act.eval, Array.replicate]) ?_
  simp only [if_true]
  refine wpS_of_wp ?_
  clear ha hr h
  have ht : ∀ w, (Instr.typeAssert (.iface GU (.int .i64 e)) 20 188 false).run Tryz.prog w = .ok (.int .i64 e) w := fun w => run_assert _ _ w
  generalize hq : (fun e_1 a' w' => bodyPostS Tryz.prog Tryz.f144 c₀ cs _ e_1 a' _ w') = Q
  change Code.wp Tryz.prog _ Q { tmps := #[.pointer (some ⟨qa, 0, none⟩), .pointer (some ⟨qr, 0, none⟩), .iface GU (.int .i64 e), .iface GU (.int .i64 e), .iface GU (.int .i64 e), .bool true, undef, undef, undef, undef, undef, undef, undef, undef, undef, undef, undef, undef], defers := [] } w
  go_region
  rw [← hq]
  clear hq ht
  have RF' := RF.out
  have GF' := GF.out
  simp [bodyPostS, results, Tryz.results144]
  exact ⟨RF', Gro.drewN GF' 1⟩

set_option maxRecDepth 100000 in
theorem idle_addr (p q : Addr) (w : World) :
    CallsD Tryz.prog 144 #[.pointer (some p), .pointer (some q)] .returning w fun e u' w' => e = .returned (.tuple #[]) ∧ u' = .returning ∧ w' = w := by
  refine callsD_of_wpS Tryz.func144 rfl fun c₀ cs hu => ?_
  apply wpS_seq
  apply wpS_region
  simp [wpOpsS, go_sem, recoverD, hu, Tryz.ntmps144, Exit.thenS]
  apply wpS_seq
  apply wpS_region
  simp [wpOpsS, go_sem, Exit.thenS]
  refine wpS_cond (t := false) (by simp [Act.eval, Array.replicate]) ?_
  simp only [Bool.false_eq_true, if_false]
  refine wpS_of_wp (wp_skip ?_)
  cases c₀
  simp_all [bodyPostS, results, Tryz.results144]

end Go.Proofs.YtkbaaelffnmjlaaGreatDoor

namespace Go.Proofs.YtkbaaelffnmjlaaGreatDoor
open Go Go.RowKit
open Sha

end Go.Proofs.YtkbaaelffnmjlaaGreatDoor

namespace Go.Proofs.YtkbaaelffnmjlaaGreatDoor
open Go Go.RowKit
open Sha

set_option maxRecDepth 100000 in
set_option maxHeartbeats 2000000 in
theorem take_wide (P : Nat) (A : Option Addr) (cap : Nat) (bs : List (BitVec 8)) (a : Nat) (f : Int) (cs : List Value) (hcl : cs.length = 4) (hone : ∀ v ∈ cs, v.oneCell' = true) (a' : Nat) (w : World) (h : Rg w P A cap bs a)
    (hok : f = 0 → ∀ W, Rg W P A cap bs a → Calls Tryz.prog 128 #[.pointer (some ⟨P, 0, none⟩)] W fun e w' => e = .returned (.agg cs.toArray) ∧ Rg w' P A cap bs a' ∧ Gp P W w')
    (hno : ¬ f = 0 → ∀ W, Rg W P A cap bs a → Calls Tryz.prog 128 #[.pointer (some ⟨P, 0, none⟩)] W fun e w' => e = .panicked (gu f) ∧ Gave W w' P A cap bs) :
    Calls Tryz.prog 127 #[.pointer (some ⟨P, 0, none⟩), .func (.func 128) #[] #[]] w fun e w' => (f = 0 → e = .returned (.agg cs.toArray) ∧ Rg w' P A cap bs a') ∧ (¬ f = 0 → e = .returned (.agg q4z.toArray) ∧ Rf w' P a f) ∧ Gp P w w' := by
  have hmf : ∀ (fn : Fn) (first cap : Array Value) (w : World), (Instr.makeFunc fn first cap).run Tryz.prog w = .ok (.func fn first cap) w := fun _ _ _ _ => rfl
  have b0 : Below w.heap.size w (w.alloc (Obj.cells #[.pointer (some ⟨P, 0, none⟩)] 130)) := (Below.refl _ _).alloc (Nat.le_refl _) _
  have b1 : Below w.heap.size w ((w.alloc (Obj.cells #[.pointer (some ⟨P, 0, none⟩)] 130)).alloc (Obj.cells q4z.toArray 43)) := b0.alloc b0.size _
  have b2 : Below w.heap.size w (((w.alloc (Obj.cells #[.pointer (some ⟨P, 0, none⟩)] 130)).alloc (Obj.cells q4z.toArray 43)).alloc (Obj.cells #[.int .i64 (a : Int)] 3)) := b1.alloc b1.size _
  have HR1 : Hid (Rg ((w.alloc (Obj.cells #[.pointer (some ⟨P, 0, none⟩)] 130)).alloc (Obj.cells q4z.toArray 43)) P A cap bs a) := h.be b1
  have HE : Hid _ := err_ok P _ a 0 ((w.alloc (Obj.cells #[.pointer (some ⟨P, 0, none⟩)] 130)).alloc (Obj.cells q4z.toArray 43)) HR1.out.row
  have g1 := HR1.out.row.cell 1 _ rfl
  have HR2 : Hid (Rg (((w.alloc (Obj.cells #[.pointer (some ⟨P, 0, none⟩)] 130)).alloc (Obj.cells q4z.toArray 43)).alloc (Obj.cells #[.int .i64 (a : Int)] 3)) P A cap bs a) := h.be b2
  have RA : Hid (Row (((w.alloc (Obj.cells #[.pointer (some ⟨P, 0, none⟩)] 130)).alloc (Obj.cells q4z.toArray 43)).alloc (Obj.cells #[.int .i64 (a : Int)] 3)) (w.heap.size + 2) [.int .i64 (a : Int)] 3) := Row.new' (by simp) rfl
  have RZ : Hid (Row (((w.alloc (Obj.cells #[.pointer (some ⟨P, 0, none⟩)] 130)).alloc (Obj.cells q4z.toArray 43)).alloc (Obj.cells #[.int .i64 (a : Int)] 3)) (w.heap.size + 1) q4z 43) := (Row.new' (by simp) rfl).alloc _
  have RR : Hid (Row (((w.alloc (Obj.cells #[.pointer (some ⟨P, 0, none⟩)] 130)).alloc (Obj.cells q4z.toArray 43)).alloc (Obj.cells #[.int .i64 (a : Int)] 3)) w.heap.size [.pointer (some ⟨P, 0, none⟩)] 130) := ((Row.new' rfl rfl).alloc _).alloc _
  have rr1 : Row ((w.alloc (Obj.cells #[.pointer (some ⟨P, 0, none⟩)] 130)).alloc (Obj.cells q4z.toArray 43)) w.heap.size [.pointer (some ⟨P, 0, none⟩)] 130 := (Row.new' rfl rfl).alloc _
  have HB2 : Hid _ := b2
  have HP : Hid (P < w.heap.size) := h.row.lt
  have HCL : Hid (cs.length = 4) := hcl
  have HO : Hid (cs.toArray.all (·.oneCell') = true) := all_oneCell_toArray hone
  have HI' : Hid ((Tryz.prog.info? 43).map (·.size) = some cs.toArray.size) := by show _ = _; rw [List.size_toArray, hcl]; exact info_q
  have Hq4z : Hid (q4z.length = 4) := rfl
  have c0 := rr1.cell 0 _ rfl
  clear h b0 b1 b2 hcl hone rr1
  by_cases hf : f = 0
  · have HK : Hid _ := hok hf _ HR2.out
    clear hok hno
    go_enter_defers Tryz.func127, Tryz.ntmps127
    go_wp2_with fail
    refine Calls.mono HE.out ?_
    rintro e w2 ⟨rfl, rfl⟩
    go_wp2_with fail
    refine Calls.mono HK.out ?_
    rintro e V ⟨rfl, hr, hg⟩
    have rz : Row V (w.heap.size + 1) q4z 43 := hg.row RZ.out (by have := HP.out; omega)
    have T0 := rz.there 0 cs.toArray.size (by rw [List.size_toArray, HCL.out]; decide)
    have NF : Hid _ := rz.over (vs := cs) (by rw [HCL.out]; rfl)
    have HR : Hid (Rg (V.setCells (w.heap.size + 1) 0 cs) P A cap bs a') := hr.setsNew (w.heap.size + 1) 0 cs rz (by decide) (by decide)
    have HG : Hid (Gro (fun k => k = P) w (V.setCells (w.heap.size + 1) 0 cs)) := by
      have k0 := below_setCells (Below.refl 0 V) (b := w.heap.size + 1) (o := 0) (Nat.zero_le _) cs
      have hg1 := (Gro.of_below (R := fun k => k = P) HB2.out).trans hg
      exact ⟨k0.os.trans hg1.os, k0.tape.trans hg1.tape, k0.output.trans hg1.output, Nat.le_trans hg1.size k0.size, fun i hi hn => (heap_sets V (w.heap.size + 1) 0 _ i (by omega)).trans (hg1.block i hi hn)⟩
    clear hr hg HK rz HE
    go_wp2_with (refine wpList_store_mid rfl 43 (.tmp 4) (.tmp 17) rfl (w.heap.size + 1) 0 cs.toArray rfl rfl T0 HI'.out HO.out ?_; simp only [Act.put]; clear T0; (change wpList _ _ _ _ _ (World.setCells V (w.heap.size + 1) 0 cs)); (generalize World.setCells V (w.heap.size + 1) 0 cs = Y at *))
    refine leaves_cons (f := 148) (args := #[.pointer (some ⟨w.heap.size + 2, 0, none⟩), .pointer (some ⟨w.heap.size, 0, none⟩)]) (by simp) (by simp [go_sem]) ?_
    refine (idle_wide ⟨w.heap.size + 2, 0, none⟩ ⟨w.heap.size, 0, none⟩ _).mono ?_
    rintro e u' w'' ⟨rfl, rfl, rfl⟩
    exact ⟨_, results_row Tryz.results127 _ _ (w.heap.size + 1) 43 cs rfl NF.out Tryz.underlying43 info_q HCL.out, fun _ => ⟨rfl, HR.out⟩, fun q => absurd hf q, HG.out⟩
  · have HK : Hid _ := hno hf _ HR2.out
    clear hok hno
    go_enter_defers Tryz.func127, Tryz.ntmps127
    go_wp2_with fail
    refine Calls.mono HE.out ?_
    rintro e w2 ⟨rfl, rfl⟩
    go_wp2_with fail
    refine Calls.mono HK.out ?_
    rintro e V ⟨rfl, ⟨b, hr⟩, hg⟩
    have ra : Row V (w.heap.size + 2) [.int .i64 (a : Int)] 3 := hg.row RA.out (by have := HP.out; omega)
    have rr : Row V w.heap.size [.pointer (some ⟨P, 0, none⟩)] 130 := hg.row RR.out (by have := HP.out; omega)
    have RZV : Hid (Row V (w.heap.size + 1) q4z 43) := hg.row RZ.out (by have := HP.out; omega)
    have HC : Hid _ := catch_wide (w.heap.size + 2) w.heap.size P a f _ (b : Int) V ra rr hr.row
    have HG : Hid (Gro (fun k => k = P) w V) := (Gro.of_below HB2.out).trans hg
    clear hr hg HK ra rr HE
    go_wp2
    refine leaves_cons (f := 148) (args := #[.pointer (some ⟨w.heap.size + 2, 0, none⟩), .pointer (some ⟨w.heap.size, 0, none⟩)]) (by simp) (by simp [go_sem]) ?_
    refine CallsD.mono HC.out ?_
    rintro e u' w'' ⟨rfl, rfl, hrf, hgf⟩
    have HRF : Hid (Rf _ _ _ _) := hrf
    have HGF : Hid (Gro (fun k => k = P) w w'') := HG.out.trans hgf
    have NF : Hid (Row w'' (w.heap.size + 1) q4z 43) := hgf.row RZV.out (by have := HP.out; omega)
    clear hrf hgf
    exact ⟨_, results_row Tryz.results127 _ _ (w.heap.size + 1) 43 q4z rfl NF.out Tryz.underlying43 info_q Hq4z.out, fun q => absurd q hf, fun _ => ⟨rfl, HRF.out⟩, HGF.out⟩

set_option maxRecDepth 100000 in
set_option maxHeartbeats 2000000 in
theorem take_address (P : Nat) (A : Option Addr) (cap : Nat) (bs : List (BitVec 8)) (a : Nat) (f : Int) (cs : List Value) (hcl : cs.length = 20) (hone : ∀ v ∈ cs, v.oneCell' = true) (a' : Nat) (w : World) (h : Rg w P A cap bs a)
    (hok : f = 0 → ∀ W, Rg W P A cap bs a → Calls Tryz.prog 122 #[.pointer (some ⟨P, 0, none⟩)] W fun e w' => e = .returned (.agg cs.toArray) ∧ Rg w' P A cap bs a' ∧ Gp P W w')
    (hno : ¬ f = 0 → ∀ W, Rg W P A cap bs a → Calls Tryz.prog 122 #[.pointer (some ⟨P, 0, none⟩)] W fun e w' => e = .panicked (gu f) ∧ Gave W w' P A cap bs) :
    Calls Tryz.prog 121 #[.pointer (some ⟨P, 0, none⟩), .func (.func 122) #[] #[]] w fun e w' => (f = 0 → e = .returned (.agg cs.toArray) ∧ Rg w' P A cap bs a') ∧ (¬ f = 0 → e = .returned (.agg z20.toArray) ∧ Rf w' P a f) ∧ Gp P w w' := by
  have hmf : ∀ (fn : Fn) (first cap : Array Value) (w : World), (Instr.makeFunc fn first cap).run Tryz.prog w = .ok (.func fn first cap) w := fun _ _ _ _ => rfl
  have b0 : Below w.heap.size w (w.alloc (Obj.cells #[.pointer (some ⟨P, 0, none⟩)] 130)) := (Below.refl _ _).alloc (Nat.le_refl _) _
  have b1 : Below w.heap.size w ((w.alloc (Obj.cells #[.pointer (some ⟨P, 0, none⟩)] 130)).alloc (Obj.cells z20.toArray 40)) := b0.alloc b0.size _
  have b2 : Below w.heap.size w (((w.alloc (Obj.cells #[.pointer (some ⟨P, 0, none⟩)] 130)).alloc (Obj.cells z20.toArray 40)).alloc (Obj.cells #[.int .i64 (a : Int)] 3)) := b1.alloc b1.size _
  have HR1 : Hid (Rg ((w.alloc (Obj.cells #[.pointer (some ⟨P, 0, none⟩)] 130)).alloc (Obj.cells z20.toArray 40)) P A cap bs a) := h.be b1
  have HE : Hid _ := err_ok P _ a 0 ((w.alloc (Obj.cells #[.pointer (some ⟨P, 0, none⟩)] 130)).alloc (Obj.cells z20.toArray 40)) HR1.out.row
  have g1 := HR1.out.row.cell 1 _ rfl
  have HR2 : Hid (Rg (((w.alloc (Obj.cells #[.pointer (some ⟨P, 0, none⟩)] 130)).alloc (Obj.cells z20.toArray 40)).alloc (Obj.cells #[.int .i64 (a : Int)] 3)) P A cap bs a) := h.be b2
  have RA : Hid (Row (((w.alloc (Obj.cells #[.pointer (some ⟨P, 0, none⟩)] 130)).alloc (Obj.cells z20.toArray 40)).alloc (Obj.cells #[.int .i64 (a : Int)] 3)) (w.heap.size + 2) [.int .i64 (a : Int)] 3) := Row.new' (by simp) rfl
  have RZ : Hid (Row (((w.alloc (Obj.cells #[.pointer (some ⟨P, 0, none⟩)] 130)).alloc (Obj.cells z20.toArray 40)).alloc (Obj.cells #[.int .i64 (a : Int)] 3)) (w.heap.size + 1) z20 40) := (Row.new' (by simp) rfl).alloc _
  have RR : Hid (Row (((w.alloc (Obj.cells #[.pointer (some ⟨P, 0, none⟩)] 130)).alloc (Obj.cells z20.toArray 40)).alloc (Obj.cells #[.int .i64 (a : Int)] 3)) w.heap.size [.pointer (some ⟨P, 0, none⟩)] 130) := ((Row.new' rfl rfl).alloc _).alloc _
  have rr1 : Row ((w.alloc (Obj.cells #[.pointer (some ⟨P, 0, none⟩)] 130)).alloc (Obj.cells z20.toArray 40)) w.heap.size [.pointer (some ⟨P, 0, none⟩)] 130 := (Row.new' rfl rfl).alloc _
  have HB2 : Hid _ := b2
  have HP : Hid (P < w.heap.size) := h.row.lt
  have HCL : Hid (cs.length = 20) := hcl
  have HO : Hid (cs.toArray.all (·.oneCell') = true) := all_oneCell_toArray hone
  have HI' : Hid ((Tryz.prog.info? 40).map (·.size) = some cs.toArray.size) := by show _ = _; rw [List.size_toArray, hcl]; exact info_a20
  have Hz20 : Hid (z20.length = 20) := rfl
  have c0 := rr1.cell 0 _ rfl
  clear h b0 b1 b2 hcl hone rr1
  by_cases hf : f = 0
  · have HK : Hid _ := hok hf _ HR2.out
    clear hok hno
    go_enter_defers Tryz.func121, Tryz.ntmps121
    go_wp2_with fail
    refine Calls.mono HE.out ?_
    rintro e w2 ⟨rfl, rfl⟩
    go_wp2_with fail
    refine Calls.mono HK.out ?_
    rintro e V ⟨rfl, hr, hg⟩
    have rz : Row V (w.heap.size + 1) z20 40 := hg.row RZ.out (by have := HP.out; omega)
    have T0 := rz.there 0 cs.toArray.size (by rw [List.size_toArray, HCL.out]; decide)
    have NF : Hid _ := rz.over (vs := cs) (by rw [HCL.out]; rfl)
    have HR : Hid (Rg (V.setCells (w.heap.size + 1) 0 cs) P A cap bs a') := hr.setsNew (w.heap.size + 1) 0 cs rz (by decide) (by decide)
    have HG : Hid (Gro (fun k => k = P) w (V.setCells (w.heap.size + 1) 0 cs)) := by
      have k0 := below_setCells (Below.refl 0 V) (b := w.heap.size + 1) (o := 0) (Nat.zero_le _) cs
      have hg1 := (Gro.of_below (R := fun k => k = P) HB2.out).trans hg
      exact ⟨k0.os.trans hg1.os, k0.tape.trans hg1.tape, k0.output.trans hg1.output, Nat.le_trans hg1.size k0.size, fun i hi hn => (heap_sets V (w.heap.size + 1) 0 _ i (by omega)).trans (hg1.block i hi hn)⟩
    clear hr hg HK rz HE
    go_wp2_with (refine wpList_store_mid rfl 40 (.tmp 4) (.tmp 17) rfl (w.heap.size + 1) 0 cs.toArray rfl rfl T0 HI'.out HO.out ?_; simp only [Act.put]; clear T0; (change wpList _ _ _ _ _ (World.setCells V (w.heap.size + 1) 0 cs)); (generalize World.setCells V (w.heap.size + 1) 0 cs = Y at *))
    refine leaves_cons (f := 144) (args := #[.pointer (some ⟨w.heap.size + 2, 0, none⟩), .pointer (some ⟨w.heap.size, 0, none⟩)]) (by simp) (by simp [go_sem]) ?_
    refine (idle_addr ⟨w.heap.size + 2, 0, none⟩ ⟨w.heap.size, 0, none⟩ _).mono ?_
    rintro e u' w'' ⟨rfl, rfl, rfl⟩
    exact ⟨_, results_row Tryz.results121 _ _ (w.heap.size + 1) 40 cs rfl NF.out Tryz.underlying40 info_a20 HCL.out, fun _ => ⟨rfl, HR.out⟩, fun q => absurd hf q, HG.out⟩
  · have HK : Hid _ := hno hf _ HR2.out
    clear hok hno
    go_enter_defers Tryz.func121, Tryz.ntmps121
    go_wp2_with fail
    refine Calls.mono HE.out ?_
    rintro e w2 ⟨rfl, rfl⟩
    go_wp2_with fail
    refine Calls.mono HK.out ?_
    rintro e V ⟨rfl, ⟨b, hr⟩, hg⟩
    have ra : Row V (w.heap.size + 2) [.int .i64 (a : Int)] 3 := hg.row RA.out (by have := HP.out; omega)
    have rr : Row V w.heap.size [.pointer (some ⟨P, 0, none⟩)] 130 := hg.row RR.out (by have := HP.out; omega)
    have RZV : Hid (Row V (w.heap.size + 1) z20 40) := hg.row RZ.out (by have := HP.out; omega)
    have HC : Hid _ := catch_addr (w.heap.size + 2) w.heap.size P a f _ (b : Int) V ra rr hr.row
    have HG : Hid (Gro (fun k => k = P) w V) := (Gro.of_below HB2.out).trans hg
    clear hr hg HK ra rr HE
    go_wp2
    refine leaves_cons (f := 144) (args := #[.pointer (some ⟨w.heap.size + 2, 0, none⟩), .pointer (some ⟨w.heap.size, 0, none⟩)]) (by simp) (by simp [go_sem]) ?_
    refine CallsD.mono HC.out ?_
    rintro e u' w'' ⟨rfl, rfl, hrf, hgf⟩
    have HRF : Hid (Rf _ _ _ _) := hrf
    have HGF : Hid (Gro (fun k => k = P) w w'') := HG.out.trans hgf
    have NF : Hid (Row w'' (w.heap.size + 1) z20 40) := hgf.row RZV.out (by have := HP.out; omega)
    clear hrf hgf
    exact ⟨_, results_row Tryz.results121 _ _ (w.heap.size + 1) 40 z20 rfl NF.out Tryz.underlying40 info_a20 Hz20.out, fun q => absurd q hf, fun _ => ⟨rfl, HRF.out⟩, HGF.out⟩

end Go.Proofs.YtkbaaelffnmjlaaGreatDoor
