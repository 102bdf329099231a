/-
  wire.take: a look that gave up is caught.
-/
import Derived.Test.YtekgojokhjihfaaDoorXTkW
import Derived.Test.YtekgojokhjihfaaDoorXTkD
import Derived.Test.YtekgojokhjihfaaDoorXTkA
import Derived.Test.YtekgojokhjihfaaDoorXLaw2
namespace Go.Proofs.YtekgojokhjihfaaDoor
open Go Go.RowKit
open Sha

set_option maxRecDepth 100000 in
set_option maxHeartbeats 2000000 in
theorem take_wide (P : Nat) (A : Option Addr) (cap : Nat) (bs : List (BitVec 8)) (a : Nat) (f : Int) (cs : List Value) (hcl : cs.length = 4) (hone : ∀ v ∈ cs, v.oneCell' = true) (a' : Nat) (w : World) (h : Rg w P A cap bs a)
    (hok : f = 0 → ∀ W, Rg W P A cap bs a → Calls Tryd.prog 92 #[.pointer (some ⟨P, 0, none⟩)] W fun e w' => e = .returned (.agg cs.toArray) ∧ Rg w' P A cap bs a' ∧ Gp P W w')
    (hno : ¬ f = 0 → ∀ W, Rg W P A cap bs a → Calls Tryd.prog 92 #[.pointer (some ⟨P, 0, none⟩)] W fun e w' => e = .panicked (gu f) ∧ Gave W w' P A cap bs) :
    Calls Tryd.prog 91 #[.pointer (some ⟨P, 0, none⟩), .func (.func 92) #[] #[]] w fun e w' => (f = 0 → e = .returned (.agg cs.toArray) ∧ Rg w' P A cap bs a') ∧ (¬ f = 0 → e = .returned (.agg q4z.toArray) ∧ Rf w' P a f) ∧ Gp P w w' := by
  have hmf : ∀ (fn : Fn) (first cap : Array Value) (w : World), (Instr.makeFunc fn first cap).run Tryd.prog w = .ok (.func fn first cap) w := fun _ _ _ _ => rfl
  have b0 : Below w.heap.size w (w.alloc (Obj.cells #[.pointer (some ⟨P, 0, none⟩)] 106)) := (Below.refl _ _).alloc (Nat.le_refl _) _
  have b1 : Below w.heap.size w ((w.alloc (Obj.cells #[.pointer (some ⟨P, 0, none⟩)] 106)).alloc (Obj.cells q4z.toArray 30)) := b0.alloc b0.size _
  have b2 : Below w.heap.size w (((w.alloc (Obj.cells #[.pointer (some ⟨P, 0, none⟩)] 106)).alloc (Obj.cells q4z.toArray 30)).alloc (Obj.cells #[.int .i64 (a : Int)] 3)) := b1.alloc b1.size _
  have HR1 : Hid (Rg ((w.alloc (Obj.cells #[.pointer (some ⟨P, 0, none⟩)] 106)).alloc (Obj.cells q4z.toArray 30)) P A cap bs a) := h.be b1
  have HE : Hid _ := err_ok P _ a 0 ((w.alloc (Obj.cells #[.pointer (some ⟨P, 0, none⟩)] 106)).alloc (Obj.cells q4z.toArray 30)) HR1.out.row
  have g1 := HR1.out.row.cell 1 _ rfl
  have HR2 : Hid (Rg (((w.alloc (Obj.cells #[.pointer (some ⟨P, 0, none⟩)] 106)).alloc (Obj.cells q4z.toArray 30)).alloc (Obj.cells #[.int .i64 (a : Int)] 3)) P A cap bs a) := h.be b2
  have RA : Hid (Row (((w.alloc (Obj.cells #[.pointer (some ⟨P, 0, none⟩)] 106)).alloc (Obj.cells q4z.toArray 30)).alloc (Obj.cells #[.int .i64 (a : Int)] 3)) (w.heap.size + 2) [.int .i64 (a : Int)] 3) := Row.new' (by simp) rfl
  have RZ : Hid (Row (((w.alloc (Obj.cells #[.pointer (some ⟨P, 0, none⟩)] 106)).alloc (Obj.cells q4z.toArray 30)).alloc (Obj.cells #[.int .i64 (a : Int)] 3)) (w.heap.size + 1) q4z 30) := (Row.new' (by simp) rfl).alloc _
  have RR : Hid (Row (((w.alloc (Obj.cells #[.pointer (some ⟨P, 0, none⟩)] 106)).alloc (Obj.cells q4z.toArray 30)).alloc (Obj.cells #[.int .i64 (a : Int)] 3)) w.heap.size [.pointer (some ⟨P, 0, none⟩)] 106) := ((Row.new' rfl rfl).alloc _).alloc _
  have rr1 : Row ((w.alloc (Obj.cells #[.pointer (some ⟨P, 0, none⟩)] 106)).alloc (Obj.cells q4z.toArray 30)) w.heap.size [.pointer (some ⟨P, 0, none⟩)] 106 := (Row.new' rfl rfl).alloc _
  have HB2 : Hid _ := b2
  have HP : Hid (P < w.heap.size) := h.row.lt
  have HCL : Hid (cs.length = 4) := hcl
  have HO : Hid (cs.toArray.all (·.oneCell') = true) := all_oneCell_toArray hone
  have HI' : Hid ((Tryd.prog.info? 30).map (·.size) = some cs.toArray.size) := by show _ = _; rw [List.size_toArray, hcl]; exact info_q
  have Hq4z : Hid (q4z.length = 4) := rfl
  have c0 := rr1.cell 0 _ rfl
  clear h b0 b1 b2 hcl hone rr1
  by_cases hf : f = 0
  · have HK : Hid _ := hok hf _ HR2.out
    clear hok hno
    go_enter_defers Tryd.func91, Tryd.ntmps91
    go_wp2_with fail
    refine Calls.mono HE.out ?_
    rintro e w2 ⟨rfl, rfl⟩
    go_wp2_with fail
    refine Calls.mono HK.out ?_
    rintro e V ⟨rfl, hr, hg⟩
    have rz : Row V (w.heap.size + 1) q4z 30 := hg.row RZ.out (by have := HP.out; omega)
    have T0 := rz.there 0 cs.toArray.size (by rw [List.size_toArray, HCL.out]; decide)
    have NF : Hid _ := rz.over (vs := cs) (by rw [HCL.out]; rfl)
    have HR : Hid (Rg (V.setCells (w.heap.size + 1) 0 cs) P A cap bs a') := hr.setsNew (w.heap.size + 1) 0 cs rz (by decide) (by decide)
    have HG : Hid (Gro (fun k => k = P) w (V.setCells (w.heap.size + 1) 0 cs)) := by
      have k0 := below_setCells (Below.refl 0 V) (b := w.heap.size + 1) (o := 0) (Nat.zero_le _) cs
      have hg1 := (Gro.of_below (R := fun k => k = P) HB2.out).trans hg
      exact ⟨k0.os.trans hg1.os, k0.tape.trans hg1.tape, k0.output.trans hg1.output, Nat.le_trans hg1.size k0.size, fun i hi hn => (heap_sets V (w.heap.size + 1) 0 _ i (by omega)).trans (hg1.block i hi hn)⟩
    clear hr hg HK rz HE
    go_wp2_with (refine wpList_store_mid rfl 30 (.tmp 4) (.tmp 17) rfl (w.heap.size + 1) 0 cs.toArray rfl rfl T0 HI'.out HO.out ?_; simp only [Act.put]; clear T0; (change wpList _ _ _ _ _ (World.setCells V (w.heap.size + 1) 0 cs)); (generalize World.setCells V (w.heap.size + 1) 0 cs = Y at *))
    refine leaves_cons (f := 112) (args := #[.pointer (some ⟨w.heap.size + 2, 0, none⟩), .pointer (some ⟨w.heap.size, 0, none⟩)]) (by simp) (by simp [go_sem]) ?_
    refine (idle_wide ⟨w.heap.size + 2, 0, none⟩ ⟨w.heap.size, 0, none⟩ _).mono ?_
    rintro e u' w'' ⟨rfl, rfl, rfl⟩
    exact ⟨_, results_row Tryd.results91 _ _ (w.heap.size + 1) 30 cs rfl NF.out Tryd.underlying30 info_q HCL.out, fun _ => ⟨rfl, HR.out⟩, fun q => absurd hf q, HG.out⟩
  · have HK : Hid _ := hno hf _ HR2.out
    clear hok hno
    go_enter_defers Tryd.func91, Tryd.ntmps91
    go_wp2_with fail
    refine Calls.mono HE.out ?_
    rintro e w2 ⟨rfl, rfl⟩
    go_wp2_with fail
    refine Calls.mono HK.out ?_
    rintro e V ⟨rfl, ⟨b, hr⟩, hg⟩
    have ra : Row V (w.heap.size + 2) [.int .i64 (a : Int)] 3 := hg.row RA.out (by have := HP.out; omega)
    have rr : Row V w.heap.size [.pointer (some ⟨P, 0, none⟩)] 106 := hg.row RR.out (by have := HP.out; omega)
    have RZV : Hid (Row V (w.heap.size + 1) q4z 30) := hg.row RZ.out (by have := HP.out; omega)
    have HC : Hid _ := catch_wide (w.heap.size + 2) w.heap.size P a f _ (b : Int) V ra rr hr.row
    have HG : Hid (Gro (fun k => k = P) w V) := (Gro.of_below HB2.out).trans hg
    clear hr hg HK ra rr HE
    go_wp2
    refine leaves_cons (f := 112) (args := #[.pointer (some ⟨w.heap.size + 2, 0, none⟩), .pointer (some ⟨w.heap.size, 0, none⟩)]) (by simp) (by simp [go_sem]) ?_
    refine CallsD.mono HC.out ?_
    rintro e u' w'' ⟨rfl, rfl, hrf, hgf⟩
    have HRF : Hid (Rf _ _ _ _) := hrf
    have HGF : Hid (Gro (fun k => k = P) w w'') := HG.out.trans hgf
    have NF : Hid (Row w'' (w.heap.size + 1) q4z 30) := hgf.row RZV.out (by have := HP.out; omega)
    clear hrf hgf
    exact ⟨_, results_row Tryd.results91 _ _ (w.heap.size + 1) 30 q4z rfl NF.out Tryd.underlying30 info_q Hq4z.out, fun q => absurd q hf, fun _ => ⟨rfl, HRF.out⟩, HGF.out⟩

set_option maxRecDepth 100000 in
set_option maxHeartbeats 2000000 in
theorem take_address (P : Nat) (A : Option Addr) (cap : Nat) (bs : List (BitVec 8)) (a : Nat) (f : Int) (cs : List Value) (hcl : cs.length = 20) (hone : ∀ v ∈ cs, v.oneCell' = true) (a' : Nat) (w : World) (h : Rg w P A cap bs a)
    (hok : f = 0 → ∀ W, Rg W P A cap bs a → Calls Tryd.prog 90 #[.pointer (some ⟨P, 0, none⟩)] W fun e w' => e = .returned (.agg cs.toArray) ∧ Rg w' P A cap bs a' ∧ Gp P W w')
    (hno : ¬ f = 0 → ∀ W, Rg W P A cap bs a → Calls Tryd.prog 90 #[.pointer (some ⟨P, 0, none⟩)] W fun e w' => e = .panicked (gu f) ∧ Gave W w' P A cap bs) :
    Calls Tryd.prog 89 #[.pointer (some ⟨P, 0, none⟩), .func (.func 90) #[] #[]] w fun e w' => (f = 0 → e = .returned (.agg cs.toArray) ∧ Rg w' P A cap bs a') ∧ (¬ f = 0 → e = .returned (.agg z20.toArray) ∧ Rf w' P a f) ∧ Gp P w w' := by
  have hmf : ∀ (fn : Fn) (first cap : Array Value) (w : World), (Instr.makeFunc fn first cap).run Tryd.prog w = .ok (.func fn first cap) w := fun _ _ _ _ => rfl
  have b0 : Below w.heap.size w (w.alloc (Obj.cells #[.pointer (some ⟨P, 0, none⟩)] 106)) := (Below.refl _ _).alloc (Nat.le_refl _) _
  have b1 : Below w.heap.size w ((w.alloc (Obj.cells #[.pointer (some ⟨P, 0, none⟩)] 106)).alloc (Obj.cells z20.toArray 27)) := b0.alloc b0.size _
  have b2 : Below w.heap.size w (((w.alloc (Obj.cells #[.pointer (some ⟨P, 0, none⟩)] 106)).alloc (Obj.cells z20.toArray 27)).alloc (Obj.cells #[.int .i64 (a : Int)] 3)) := b1.alloc b1.size _
  have HR1 : Hid (Rg ((w.alloc (Obj.cells #[.pointer (some ⟨P, 0, none⟩)] 106)).alloc (Obj.cells z20.toArray 27)) P A cap bs a) := h.be b1
  have HE : Hid _ := err_ok P _ a 0 ((w.alloc (Obj.cells #[.pointer (some ⟨P, 0, none⟩)] 106)).alloc (Obj.cells z20.toArray 27)) HR1.out.row
  have g1 := HR1.out.row.cell 1 _ rfl
  have HR2 : Hid (Rg (((w.alloc (Obj.cells #[.pointer (some ⟨P, 0, none⟩)] 106)).alloc (Obj.cells z20.toArray 27)).alloc (Obj.cells #[.int .i64 (a : Int)] 3)) P A cap bs a) := h.be b2
  have RA : Hid (Row (((w.alloc (Obj.cells #[.pointer (some ⟨P, 0, none⟩)] 106)).alloc (Obj.cells z20.toArray 27)).alloc (Obj.cells #[.int .i64 (a : Int)] 3)) (w.heap.size + 2) [.int .i64 (a : Int)] 3) := Row.new' (by simp) rfl
  have RZ : Hid (Row (((w.alloc (Obj.cells #[.pointer (some ⟨P, 0, none⟩)] 106)).alloc (Obj.cells z20.toArray 27)).alloc (Obj.cells #[.int .i64 (a : Int)] 3)) (w.heap.size + 1) z20 27) := (Row.new' (by simp) rfl).alloc _
  have RR : Hid (Row (((w.alloc (Obj.cells #[.pointer (some ⟨P, 0, none⟩)] 106)).alloc (Obj.cells z20.toArray 27)).alloc (Obj.cells #[.int .i64 (a : Int)] 3)) w.heap.size [.pointer (some ⟨P, 0, none⟩)] 106) := ((Row.new' rfl rfl).alloc _).alloc _
  have rr1 : Row ((w.alloc (Obj.cells #[.pointer (some ⟨P, 0, none⟩)] 106)).alloc (Obj.cells z20.toArray 27)) w.heap.size [.pointer (some ⟨P, 0, none⟩)] 106 := (Row.new' rfl rfl).alloc _
  have HB2 : Hid _ := b2
  have HP : Hid (P < w.heap.size) := h.row.lt
  have HCL : Hid (cs.length = 20) := hcl
  have HO : Hid (cs.toArray.all (·.oneCell') = true) := all_oneCell_toArray hone
  have HI' : Hid ((Tryd.prog.info? 27).map (·.size) = some cs.toArray.size) := by show _ = _; rw [List.size_toArray, hcl]; exact info_a20
  have Hz20 : Hid (z20.length = 20) := rfl
  have c0 := rr1.cell 0 _ rfl
  clear h b0 b1 b2 hcl hone rr1
  by_cases hf : f = 0
  · have HK : Hid _ := hok hf _ HR2.out
    clear hok hno
    go_enter_defers Tryd.func89, Tryd.ntmps89
    go_wp2_with fail
    refine Calls.mono HE.out ?_
    rintro e w2 ⟨rfl, rfl⟩
    go_wp2_with fail
    refine Calls.mono HK.out ?_
    rintro e V ⟨rfl, hr, hg⟩
    have rz : Row V (w.heap.size + 1) z20 27 := hg.row RZ.out (by have := HP.out; omega)
    have T0 := rz.there 0 cs.toArray.size (by rw [List.size_toArray, HCL.out]; decide)
    have NF : Hid _ := rz.over (vs := cs) (by rw [HCL.out]; rfl)
    have HR : Hid (Rg (V.setCells (w.heap.size + 1) 0 cs) P A cap bs a') := hr.setsNew (w.heap.size + 1) 0 cs rz (by decide) (by decide)
    have HG : Hid (Gro (fun k => k = P) w (V.setCells (w.heap.size + 1) 0 cs)) := by
      have k0 := below_setCells (Below.refl 0 V) (b := w.heap.size + 1) (o := 0) (Nat.zero_le _) cs
      have hg1 := (Gro.of_below (R := fun k => k = P) HB2.out).trans hg
      exact ⟨k0.os.trans hg1.os, k0.tape.trans hg1.tape, k0.output.trans hg1.output, Nat.le_trans hg1.size k0.size, fun i hi hn => (heap_sets V (w.heap.size + 1) 0 _ i (by omega)).trans (hg1.block i hi hn)⟩
    clear hr hg HK rz HE
    go_wp2_with (refine wpList_store_mid rfl 27 (.tmp 4) (.tmp 17) rfl (w.heap.size + 1) 0 cs.toArray rfl rfl T0 HI'.out HO.out ?_; simp only [Act.put]; clear T0; (change wpList _ _ _ _ _ (World.setCells V (w.heap.size + 1) 0 cs)); (generalize World.setCells V (w.heap.size + 1) 0 cs = Y at *))
    refine leaves_cons (f := 111) (args := #[.pointer (some ⟨w.heap.size + 2, 0, none⟩), .pointer (some ⟨w.heap.size, 0, none⟩)]) (by simp) (by simp [go_sem]) ?_
    refine (idle_addr ⟨w.heap.size + 2, 0, none⟩ ⟨w.heap.size, 0, none⟩ _).mono ?_
    rintro e u' w'' ⟨rfl, rfl, rfl⟩
    exact ⟨_, results_row Tryd.results89 _ _ (w.heap.size + 1) 27 cs rfl NF.out Tryd.underlying27 info_a20 HCL.out, fun _ => ⟨rfl, HR.out⟩, fun q => absurd hf q, HG.out⟩
  · have HK : Hid _ := hno hf _ HR2.out
    clear hok hno
    go_enter_defers Tryd.func89, Tryd.ntmps89
    go_wp2_with fail
    refine Calls.mono HE.out ?_
    rintro e w2 ⟨rfl, rfl⟩
    go_wp2_with fail
    refine Calls.mono HK.out ?_
    rintro e V ⟨rfl, ⟨b, hr⟩, hg⟩
    have ra : Row V (w.heap.size + 2) [.int .i64 (a : Int)] 3 := hg.row RA.out (by have := HP.out; omega)
    have rr : Row V w.heap.size [.pointer (some ⟨P, 0, none⟩)] 106 := hg.row RR.out (by have := HP.out; omega)
    have RZV : Hid (Row V (w.heap.size + 1) z20 27) := hg.row RZ.out (by have := HP.out; omega)
    have HC : Hid _ := catch_addr (w.heap.size + 2) w.heap.size P a f _ (b : Int) V ra rr hr.row
    have HG : Hid (Gro (fun k => k = P) w V) := (Gro.of_below HB2.out).trans hg
    clear hr hg HK ra rr HE
    go_wp2
    refine leaves_cons (f := 111) (args := #[.pointer (some ⟨w.heap.size + 2, 0, none⟩), .pointer (some ⟨w.heap.size, 0, none⟩)]) (by simp) (by simp [go_sem]) ?_
    refine CallsD.mono HC.out ?_
    rintro e u' w'' ⟨rfl, rfl, hrf, hgf⟩
    have HRF : Hid (Rf _ _ _ _) := hrf
    have HGF : Hid (Gro (fun k => k = P) w w'') := HG.out.trans hgf
    have NF : Hid (Row w'' (w.heap.size + 1) z20 27) := hgf.row RZV.out (by have := HP.out; omega)
    clear hrf hgf
    exact ⟨_, results_row Tryd.results89 _ _ (w.heap.size + 1) 27 z20 rfl NF.out Tryd.underlying27 info_a20 Hz20.out, fun q => absurd q hf, fun _ => ⟨rfl, HRF.out⟩, HGF.out⟩

end Go.Proofs.YtekgojokhjihfaaDoor
