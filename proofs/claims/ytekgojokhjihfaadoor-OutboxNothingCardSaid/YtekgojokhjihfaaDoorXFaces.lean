/-
  wire.Reader: the faces, where there is no fault yet.
-/
import Derived.Test.YtekgojokhjihfaaDoorXByx
namespace Go.Proofs.YtekgojokhjihfaaDoor
open Go Go.RowKit
open Sha

theorem dgE_ok {n : Nat} {bs : List (BitVec 8)} {a : Nat} (h : dgE n bs a = 0) : a + n ≤ bs.length := by
  unfold dgE at h
  by_cases q : bs.length < a + n
  · rw [if_pos q] at h; cases h
  · omega

set_option maxRecDepth 100000 in
theorem face_byte (P : Nat) (A : Option Addr) (cap : Nat) (bs : List (BitVec 8)) (a : Nat) (w : World) (h : Rg w P A cap bs a) :
    Calls Tryd.prog 56 #[.pointer (some ⟨P, 0, none⟩)] w fun e w' => (byE bs a = 0 → e = .returned (.int .u8 ((at8 bs a : Nat) : Int)) ∧ Rg w' P A cap bs (a + 1)) ∧ (¬ byE bs a = 0 → e = .returned (.int .u8 0) ∧ Rf w' P a (byE bs a)) ∧ Gp P w w' := by
  have HT : Hid _ := take_byte P A cap bs a (byE bs a) (.int .u8 ((at8 bs a : Nat) : Int)) (a + 1) w h (fun h0 W hr => seeByte_x0 P A cap bs a h0 W hr) (fun h0 W hr => seeByte_x1 P A cap bs a h0 W hr)
  clear h
  generalize byE bs a = f at *
  generalize a + 1 = a' at *
  go_enter Tryd.func56, Tryd.ntmps56
  go_wp2_with fail
  refine Calls.mono HT.out ?_
  rintro e V ⟨h1, h2, hg⟩
  have HG : Hid (Gro _ _ _) := hg
  by_cases hz : f = 0
  · obtain ⟨rfl, hr⟩ := h1 hz
    have HR : Hid (Rg _ _ _ _ _ _) := hr
    clear h1 h2 hg HT hr
    go_wp2_with fail
    go_ret
    exact ⟨fun _ => ⟨rfl, HR.out⟩, fun q => absurd hz q, HG.out⟩
  · obtain ⟨rfl, hr⟩ := h2 hz
    have HR : Hid (Rf _ _ _ _) := hr
    clear h1 h2 hg HT hr
    go_wp2_with fail
    go_ret
    exact ⟨fun q => absurd q hz, fun _ => ⟨rfl, HR.out⟩, HG.out⟩

set_option maxRecDepth 100000 in
theorem face_number (P : Nat) (A : Option Addr) (cap : Nat) (bs : List (BitVec 8)) (a : Nat) (w : World) (h : Rg w P A cap bs a) :
    Calls Tryd.prog 57 #[.pointer (some ⟨P, 0, none⟩)] w fun e w' => (nuE bs a = 0 → e = .returned (.int .i64 ((nuW bs a : Nat) : Int)) ∧ Rg w' P A cap bs (a + 1 + at8 bs a)) ∧ (¬ nuE bs a = 0 → e = .returned (.int .i64 0) ∧ Rf w' P a (nuE bs a)) ∧ Gp P w w' := by
  have HT : Hid _ := take_number P A cap bs a (nuE bs a) (.int .i64 ((nuW bs a : Nat) : Int)) (a + 1 + at8 bs a) w h (fun h0 W hr => seeNumber_any P A cap bs a h0 W hr) (fun h0 W hr => seeNumber_no P A cap bs a _ rfl h0 W hr)
  clear h
  generalize nuE bs a = f at *
  generalize a + 1 + at8 bs a = a' at *
  go_enter Tryd.func57, Tryd.ntmps57
  go_wp2_with fail
  refine Calls.mono HT.out ?_
  rintro e V ⟨h1, h2, hg⟩
  have HG : Hid (Gro _ _ _) := hg
  by_cases hz : f = 0
  · obtain ⟨rfl, hr⟩ := h1 hz
    have HR : Hid (Rg _ _ _ _ _ _) := hr
    clear h1 h2 hg HT hr
    go_wp2_with fail
    go_ret
    exact ⟨fun _ => ⟨rfl, HR.out⟩, fun q => absurd hz q, HG.out⟩
  · obtain ⟨rfl, hr⟩ := h2 hz
    have HR : Hid (Rf _ _ _ _) := hr
    clear h1 h2 hg HT hr
    go_wp2_with fail
    go_ret
    exact ⟨fun q => absurd q hz, fun _ => ⟨rfl, HR.out⟩, HG.out⟩

set_option maxRecDepth 100000 in
set_option maxHeartbeats 1000000 in
theorem face_wide (P : Nat) (A : Option Addr) (cap : Nat) (bs : List (BitVec 8)) (a : Nat) (w : World) (h : Rg w P A cap bs a) :
    Calls Tryd.prog 59 #[.pointer (some ⟨P, 0, none⟩)] w fun e w' => (hiF 32 bs a = 0 → e = .returned (.agg (qd bs (a + 1 + at8 bs a) (at8 bs a)).toArray) ∧ Rg w' P A cap bs (a + 1 + at8 bs a)) ∧ (¬ hiF 32 bs a = 0 → e = .returned (.agg q4z.toArray) ∧ Rf w' P a (hiF 32 bs a)) ∧ Gp P w w' := by
  have b0 : Below w.heap.size w (w.alloc (Obj.cells q4z.toArray 30)) := (Below.refl _ _).alloc (Nat.le_refl _) _
  have R0 : Hid (Row (w.alloc (Obj.cells q4z.toArray 30)) w.heap.size q4z 30) := Row.new' rfl rfl
  have HP : Hid (P < w.heap.size) := h.row.lt
  by_cases hz : hiF 32 bs a = 0
  · have HCL : Hid ((qd bs (a + 1 + at8 bs a) (at8 bs a)).length = 4) := rfl
    have HO : Hid ((qd bs (a + 1 + at8 bs a) (at8 bs a)).toArray.all (·.oneCell') = true) := all_oneCell_toArray (qd_one _ _ _)
    have HT : Hid _ := take_wide P A cap bs a (hiF 32 bs a) (qd bs (a + 1 + at8 bs a) (at8 bs a)) HCL.out (qd_one _ _ _) (a + 1 + at8 bs a) _ (h.be b0) (fun h0 W hr => seeWide_any P A cap bs a h0 W hr) (fun h0 W hr => seeWide_no P A cap bs a _ rfl h0 W hr)
    have B0 : Hid _ := b0
    clear h b0
    generalize hcs : qd bs (a + 1 + at8 bs a) (at8 bs a) = cs at *
    generalize hiF 32 bs a = f at *
    generalize a + 1 + at8 bs a = a' at *
    clear hcs
    have HI' : Hid ((Tryd.prog.info? 30).map (·.size) = some cs.toArray.size) := by show _ = _; rw [List.size_toArray, HCL.out]; exact info_q
    go_enter Tryd.func59, Tryd.ntmps59
    go_wp2_with fail
    refine Calls.mono HT.out ?_
    rintro e V ⟨h1, h2, hg⟩
    obtain ⟨rfl, hr⟩ := h1 hz
    have rz : Row V w.heap.size q4z 30 := hg.row R0.out (by have := HP.out; omega)
    have T0 := rz.there 0 cs.toArray.size (by rw [List.size_toArray, HCL.out]; decide)
    have NF : Hid _ := rz.over (vs := cs) (by rw [HCL.out]; rfl)
    have HR : Hid (Rg (V.setCells w.heap.size 0 cs) P A cap bs a') := hr.setsNew w.heap.size 0 cs rz (by decide) (by decide)
    have HG : Hid (Gp P w (V.setCells w.heap.size 0 cs)) := by
      have k0 := below_setCells (Below.refl 0 V) (b := w.heap.size) (o := 0) (Nat.zero_le _) cs
      have hg1 := (Gro.of_below (R := fun k => k = P) B0.out).trans hg
      exact ⟨k0.os.trans hg1.os, k0.tape.trans hg1.tape, k0.output.trans hg1.output, Nat.le_trans hg1.size k0.size, fun i hi hn => (heap_sets V w.heap.size 0 _ i (by omega)).trans (hg1.block i hi hn)⟩
    clear h1 h2 hg HT hr rz R0
    go_wp2_with (refine wpList_store_mid rfl 30 (.tmp 2) (.tmp 4) rfl w.heap.size 0 cs.toArray rfl rfl T0 HI'.out HO.out ?_; simp only [Act.put]; clear T0; (change wpList _ _ _ _ _ (World.setCells V w.heap.size 0 cs)); (generalize World.setCells V w.heap.size 0 cs = Y at *))
    exact bodyPost_ret (results_row Tryd.results59 _ _ w.heap.size 30 cs rfl NF.out Tryd.underlying30 info_q HCL.out) rfl ⟨fun _ => ⟨rfl, HR.out⟩, fun q => absurd hz q, HG.out⟩
  · have HT : Hid _ := take_wide P A cap bs a (hiF 32 bs a) q4z rfl (q4_one 0 0 0 0) (a + 1 + at8 bs a) _ (h.be b0) (fun h0 W hr => absurd h0 hz) (fun h0 W hr => seeWide_no P A cap bs a _ rfl h0 W hr)
    have HCL : Hid (q4z.length = 4) := rfl
    have HO : Hid (q4z.toArray.all (·.oneCell') = true) := all_oneCell_toArray (q4_one 0 0 0 0)
    have B0 : Hid _ := b0
    clear h b0
    generalize hiF 32 bs a = f at *
    generalize a + 1 + at8 bs a = a' at *
    have HI' : Hid ((Tryd.prog.info? 30).map (·.size) = some q4z.toArray.size) := by show _ = _; rw [List.size_toArray, HCL.out]; exact info_q
    go_enter Tryd.func59, Tryd.ntmps59
    go_wp2_with fail
    refine Calls.mono HT.out ?_
    rintro e V ⟨h1, h2, hg⟩
    obtain ⟨rfl, hr⟩ := h2 hz
    have rz : Row V w.heap.size q4z 30 := hg.row R0.out (by have := HP.out; omega)
    have T0 := rz.there 0 q4z.toArray.size (by rw [List.size_toArray, HCL.out]; decide)
    have NF : Hid _ := rz.over (vs := q4z) rfl
    have HR : Hid (Rf (V.setCells w.heap.size 0 q4z) P a f) := Row.setCells_other hr _ _ _ (by have := HP.out; omega)
    have HG : Hid (Gp P w (V.setCells w.heap.size 0 q4z)) := by
      have k0 := below_setCells (Below.refl 0 V) (b := w.heap.size) (o := 0) (Nat.zero_le _) q4z
      have hg1 := (Gro.of_below (R := fun k => k = P) B0.out).trans hg
      exact ⟨k0.os.trans hg1.os, k0.tape.trans hg1.tape, k0.output.trans hg1.output, Nat.le_trans hg1.size k0.size, fun i hi hn => (heap_sets V w.heap.size 0 _ i (by omega)).trans (hg1.block i hi hn)⟩
    clear h1 h2 hg HT hr rz R0
    go_wp2_with (refine wpList_store_mid rfl 30 (.tmp 2) (.tmp 4) rfl w.heap.size 0 q4z.toArray rfl rfl T0 HI'.out HO.out ?_; simp only [Act.put]; clear T0; (change wpList _ _ _ _ _ (World.setCells V w.heap.size 0 q4z)); (generalize World.setCells V w.heap.size 0 q4z = Y at *))
    exact bodyPost_ret (results_row Tryd.results59 _ _ w.heap.size 30 q4z rfl NF.out Tryd.underlying30 info_q HCL.out) rfl ⟨fun q => absurd q hz, fun _ => ⟨rfl, HR.out⟩, HG.out⟩

set_option maxRecDepth 100000 in
set_option maxHeartbeats 1000000 in
theorem face_address (P : Nat) (A : Option Addr) (cap : Nat) (bs : List (BitVec 8)) (a : Nat) (w : World) (h : Rg w P A cap bs a) :
    Calls Tryd.prog 58 #[.pointer (some ⟨P, 0, none⟩)] w fun e w' => (dgE 20 bs a = 0 → e = .returned (.agg (vB (sub bs a 20)).toArray) ∧ Rg w' P A cap bs (a + 20)) ∧ (¬ dgE 20 bs a = 0 → e = .returned (.agg z20.toArray) ∧ Rf w' P a (dgE 20 bs a)) ∧ Gp P w w' := by
  have b0 : Below w.heap.size w (w.alloc (Obj.cells z20.toArray 27)) := (Below.refl _ _).alloc (Nat.le_refl _) _
  have R0 : Hid (Row (w.alloc (Obj.cells z20.toArray 27)) w.heap.size z20 27) := Row.new' rfl rfl
  have HP : Hid (P < w.heap.size) := h.row.lt
  by_cases hz : dgE 20 bs a = 0
  · have HCL : Hid ((vB (sub bs a 20)).length = 20) := (by show _ = _; rw [vB_length]; exact sub_len bs a 20 (dgE_ok hz))
    have HO : Hid ((vB (sub bs a 20)).toArray.all (·.oneCell') = true) := all_oneCell_toArray (vB_one _)
    have HT : Hid _ := take_address P A cap bs a (dgE 20 bs a) (vB (sub bs a 20)) HCL.out (vB_one _) (a + 20) _ (h.be b0) (fun h0 W hr => seeAddress_any P A cap bs a h0 W hr) (fun h0 W hr => seeAddress_no P A cap bs a _ rfl h0 W hr)
    have B0 : Hid _ := b0
    clear h b0
    generalize hcs : vB (sub bs a 20) = cs at *
    generalize dgE 20 bs a = f at *
    generalize a + 20 = a' at *
    clear hcs
    have HI' : Hid ((Tryd.prog.info? 27).map (·.size) = some cs.toArray.size) := by show _ = _; rw [List.size_toArray, HCL.out]; exact info_a20
    go_enter Tryd.func58, Tryd.ntmps58
    go_wp2_with fail
    refine Calls.mono HT.out ?_
    rintro e V ⟨h1, h2, hg⟩
    obtain ⟨rfl, hr⟩ := h1 hz
    have rz : Row V w.heap.size z20 27 := hg.row R0.out (by have := HP.out; omega)
    have T0 := rz.there 0 cs.toArray.size (by rw [List.size_toArray, HCL.out]; decide)
    have NF : Hid _ := rz.over (vs := cs) (by rw [HCL.out]; rfl)
    have HR : Hid (Rg (V.setCells w.heap.size 0 cs) P A cap bs a') := hr.setsNew w.heap.size 0 cs rz (by decide) (by decide)
    have HG : Hid (Gp P w (V.setCells w.heap.size 0 cs)) := by
      have k0 := below_setCells (Below.refl 0 V) (b := w.heap.size) (o := 0) (Nat.zero_le _) cs
      have hg1 := (Gro.of_below (R := fun k => k = P) B0.out).trans hg
      exact ⟨k0.os.trans hg1.os, k0.tape.trans hg1.tape, k0.output.trans hg1.output, Nat.le_trans hg1.size k0.size, fun i hi hn => (heap_sets V w.heap.size 0 _ i (by omega)).trans (hg1.block i hi hn)⟩
    clear h1 h2 hg HT hr rz R0
    go_wp2_with (refine wpList_store_mid rfl 27 (.tmp 2) (.tmp 4) rfl w.heap.size 0 cs.toArray rfl rfl T0 HI'.out HO.out ?_; simp only [Act.put]; clear T0; (change wpList _ _ _ _ _ (World.setCells V w.heap.size 0 cs)); (generalize World.setCells V w.heap.size 0 cs = Y at *))
    exact bodyPost_ret (results_row Tryd.results58 _ _ w.heap.size 27 cs rfl NF.out Tryd.underlying27 info_a20 HCL.out) rfl ⟨fun _ => ⟨rfl, HR.out⟩, fun q => absurd hz q, HG.out⟩
  · have HT : Hid _ := take_address P A cap bs a (dgE 20 bs a) z20 rfl (vB_one _) (a + 20) _ (h.be b0) (fun h0 W hr => absurd h0 hz) (fun h0 W hr => seeAddress_no P A cap bs a _ rfl h0 W hr)
    have HCL : Hid (z20.length = 20) := rfl
    have HO : Hid (z20.toArray.all (·.oneCell') = true) := all_oneCell_toArray (vB_one _)
    have B0 : Hid _ := b0
    clear h b0
    generalize dgE 20 bs a = f at *
    generalize a + 20 = a' at *
    have HI' : Hid ((Tryd.prog.info? 27).map (·.size) = some z20.toArray.size) := by show _ = _; rw [List.size_toArray, HCL.out]; exact info_a20
    go_enter Tryd.func58, Tryd.ntmps58
    go_wp2_with fail
    refine Calls.mono HT.out ?_
    rintro e V ⟨h1, h2, hg⟩
    obtain ⟨rfl, hr⟩ := h2 hz
    have rz : Row V w.heap.size z20 27 := hg.row R0.out (by have := HP.out; omega)
    have T0 := rz.there 0 z20.toArray.size (by rw [List.size_toArray, HCL.out]; decide)
    have NF : Hid _ := rz.over (vs := z20) rfl
    have HR : Hid (Rf (V.setCells w.heap.size 0 z20) P a f) := Row.setCells_other hr _ _ _ (by have := HP.out; omega)
    have HG : Hid (Gp P w (V.setCells w.heap.size 0 z20)) := by
      have k0 := below_setCells (Below.refl 0 V) (b := w.heap.size) (o := 0) (Nat.zero_le _) z20
      have hg1 := (Gro.of_below (R := fun k => k = P) B0.out).trans hg
      exact ⟨k0.os.trans hg1.os, k0.tape.trans hg1.tape, k0.output.trans hg1.output, Nat.le_trans hg1.size k0.size, fun i hi hn => (heap_sets V w.heap.size 0 _ i (by omega)).trans (hg1.block i hi hn)⟩
    clear h1 h2 hg HT hr rz R0
    go_wp2_with (refine wpList_store_mid rfl 27 (.tmp 2) (.tmp 4) rfl w.heap.size 0 z20.toArray rfl rfl T0 HI'.out HO.out ?_; simp only [Act.put]; clear T0; (change wpList _ _ _ _ _ (World.setCells V w.heap.size 0 z20)); (generalize World.setCells V w.heap.size 0 z20 = Y at *))
    exact bodyPost_ret (results_row Tryd.results58 _ _ w.heap.size 27 z20 rfl NF.out Tryd.underlying27 info_a20 HCL.out) rfl ⟨fun q => absurd q hz, fun _ => ⟨rfl, HR.out⟩, HG.out⟩

end Go.Proofs.YtekgojokhjihfaaDoor
