/-
  reading a letter of three bytes.
-/
import Derived.Test.YtaaehdlenigomaaGreatXByx
import Derived.Test.YtaaehdlenigomaaGreatLtG

namespace Go.Proofs.YtaaehdlenigomaaGreat
open Go Go.RowKit
open Sha

theorem dgE_ok {n : Nat} {bs : List (BitVec 8)} {a : Nat} (h : dgE n bs a = 0) : a + n ≤ bs.length := by
  unfold dgE at h
  by_cases q : bs.length < a + n
  · rw [if_pos q] at h; cases h
  · omega

set_option maxRecDepth 100000 in
theorem face_byte (P : Nat) (A : Option Addr) (cap : Nat) (bs : List (BitVec 8)) (a : Nat) (w : World) (h : Rg w P A cap bs a) :
    Calls Tryz.prog 19 #[.pointer (some ⟨P, 0, none⟩)] w fun e w' => (byE bs a = 0 → e = .returned (.int .u8 ((at8 bs a : Nat) : Int)) ∧ Rg w' P A cap bs (a + 1)) ∧ (¬ byE bs a = 0 → e = .returned (.int .u8 0) ∧ Rf w' P a (byE bs a)) ∧ Gp P w w' := by
  have HT : Hid _ := take_byte P A cap bs a (byE bs a) (.int .u8 ((at8 bs a : Nat) : Int)) (a + 1) w h (fun h0 W hr => seeByte_x0 P A cap bs a h0 W hr) (fun h0 W hr => seeByte_x1 P A cap bs a h0 W hr)
  clear h
  generalize byE bs a = f at *
  generalize a + 1 = a' at *
  go_enter Tryz.func19, Tryz.ntmps19
  go_wp2_with fail
  refine Calls.mono HT.out ?_
  rintro e V ⟨h1, h2, hg⟩
  have HG : Hid (Gro _ _ _) := hg
  by_cases hz : f = 0
  · obtain ⟨rfl, hr⟩ := h1 hz
    have HR : Hid (Rg _ _ _ _ _ _) := hr
    clear h1 h2 hg HT hr
    go_wp2_with fail
    go_ret
    exact ⟨fun _ => ⟨rfl, HR.out⟩, fun q => absurd hz q, HG.out⟩
  · obtain ⟨rfl, hr⟩ := h2 hz
    have HR : Hid (Rf _ _ _ _) := hr
    clear h1 h2 hg HT hr
    go_wp2_with fail
    go_ret
    exact ⟨fun q => absurd q hz, fun _ => ⟨rfl, HR.out⟩, HG.out⟩

set_option maxRecDepth 100000 in
theorem face_number (P : Nat) (A : Option Addr) (cap : Nat) (bs : List (BitVec 8)) (a : Nat) (w : World) (h : Rg w P A cap bs a) :
    Calls Tryz.prog 39 #[.pointer (some ⟨P, 0, none⟩)] w fun e w' => (nuE bs a = 0 → e = .returned (.int .i64 ((nuW bs a : Nat) : Int)) ∧ Rg w' P A cap bs (a + 1 + at8 bs a)) ∧ (¬ nuE bs a = 0 → e = .returned (.int .i64 0) ∧ Rf w' P a (nuE bs a)) ∧ Gp P w w' := by
  have HT : Hid _ := take_number P A cap bs a (nuE bs a) (.int .i64 ((nuW bs a : Nat) : Int)) (a + 1 + at8 bs a) w h (fun h0 W hr => seeNumber_any P A cap bs a h0 W hr) (fun h0 W hr => seeNumber_no P A cap bs a _ rfl h0 W hr)
  clear h
  generalize nuE bs a = f at *
  generalize a + 1 + at8 bs a = a' at *
  go_enter Tryz.func39, Tryz.ntmps39
  go_wp2_with fail
  refine Calls.mono HT.out ?_
  rintro e V ⟨h1, h2, hg⟩
  have HG : Hid (Gro _ _ _) := hg
  by_cases hz : f = 0
  · obtain ⟨rfl, hr⟩ := h1 hz
    have HR : Hid (Rg _ _ _ _ _ _) := hr
    clear h1 h2 hg HT hr
    go_wp2_with fail
    go_ret
    exact ⟨fun _ => ⟨rfl, HR.out⟩, fun q => absurd hz q, HG.out⟩
  · obtain ⟨rfl, hr⟩ := h2 hz
    have HR : Hid (Rf _ _ _ _) := hr
    clear h1 h2 hg HT hr
    go_wp2_with fail
    go_ret
    exact ⟨fun q => absurd q hz, fun _ => ⟨rfl, HR.out⟩, HG.out⟩

set_option maxRecDepth 100000 in
theorem face_bytes (P : Nat) (A : Option Addr) (cap : Nat) (bs : List (BitVec 8)) (a : Nat) (most : Int) (w : World) (h : Rg w P A cap bs a) :
    Calls Tryz.prog 63 #[.pointer (some ⟨P, 0, none⟩), .int .i64 most] w fun e w' => (cnE bs a most = 0 → ∃ v, e = .returned v ∧ Bo w.heap.size (sub bs (a + 1 + at8 bs a) (nuW bs a)) (nuW bs a) w' v ∧ Rg w' P A cap bs (a + 1 + at8 bs a + nuW bs a)) ∧ (¬ cnE bs a most = 0 → e = .returned (.slice none 0 0) ∧ Rf w' P a (cnE bs a most)) ∧ Gp P w w' := by
  have hmf : ∀ (fn : Fn) (first cap : Array Value) (w : World), (Instr.makeFunc fn first cap).run Tryz.prog w = .ok (.func fn first cap) w := fun _ _ _ _ => rfl
  have b0 : Below w.heap.size w (w.alloc (Obj.cells #[.int .i64 most] 3)) := (Below.refl _ _).alloc (Nat.le_refl _) _
  have rm : Row (w.alloc (Obj.cells #[.int .i64 most] 3)) w.heap.size [.int .i64 most] 3 := Row.new' rfl rfl
  have HT : Hid _ := take_bytes P A cap bs a most w.heap.size (cnE bs a most) (Bo w.heap.size (sub bs (a + 1 + at8 bs a) (nuW bs a)) (nuW bs a)) (a + 1 + at8 bs a + nuW bs a) _ (h.be b0) rm (fun h0 W hB hr hm => seeBytes_any P A cap bs a most w.heap.size h0 w.heap.size W (Nat.le_trans b0.size hB.size) hr hm) (fun h0 W hr hm => seeBytes_no P A cap bs a most w.heap.size h0 W hr hm)
  have B0 : Hid _ := b0
  clear h b0 rm
  generalize cnE bs a most = f at *
  generalize Bo w.heap.size (sub bs (a + 1 + at8 bs a) (nuW bs a)) (nuW bs a) = Qv at *
  generalize a + 1 + at8 bs a + nuW bs a = a' at *
  go_enter Tryz.func63, Tryz.ntmps63
  go_wp2_with fail
  refine Calls.mono HT.out ?_
  rintro e V ⟨h1, h2, hg⟩
  have HG : Hid (Gp P w V) := (Gro.of_below B0.out).trans hg
  by_cases hz : f = 0
  · obtain ⟨v, rfl, hq, hr⟩ := h1 hz
    have HQ : Hid (Qv V v) := hq
    have HR : Hid (Rg _ _ _ _ _ _) := hr
    clear h1 h2 hg HT hr hq
    go_wp2_with fail
    go_ret
    exact ⟨fun _ => ⟨v, rfl, HQ.out, HR.out⟩, fun q => absurd hz q, HG.out⟩
  · obtain ⟨rfl, hr⟩ := h2 hz
    have HR : Hid (Rf _ _ _ _) := hr
    clear h1 h2 hg HT hr
    go_wp2_with fail
    go_ret
    exact ⟨fun q => absurd q hz, fun _ => ⟨rfl, HR.out⟩, HG.out⟩

set_option maxRecDepth 100000 in
set_option maxHeartbeats 1000000 in
theorem face_wide (P : Nat) (A : Option Addr) (cap : Nat) (bs : List (BitVec 8)) (a : Nat) (w : World) (h : Rg w P A cap bs a) :
    Calls Tryz.prog 53 #[.pointer (some ⟨P, 0, none⟩)] w fun e w' => (hiF 32 bs a = 0 → e = .returned (.agg (qd bs (a + 1 + at8 bs a) (at8 bs a)).toArray) ∧ Rg w' P A cap bs (a + 1 + at8 bs a)) ∧ (¬ hiF 32 bs a = 0 → e = .returned (.agg q4z.toArray) ∧ Rf w' P a (hiF 32 bs a)) ∧ Gp P w w' := by
  have b0 : Below w.heap.size w (w.alloc (Obj.cells q4z.toArray 26)) := (Below.refl _ _).alloc (Nat.le_refl _) _
  have R0 : Hid (Row (w.alloc (Obj.cells q4z.toArray 26)) w.heap.size q4z 26) := Row.new' rfl rfl
  have HP : Hid (P < w.heap.size) := h.row.lt
  by_cases hz : hiF 32 bs a = 0
  · have HCL : Hid ((qd bs (a + 1 + at8 bs a) (at8 bs a)).length = 4) := rfl
    have HO : Hid ((qd bs (a + 1 + at8 bs a) (at8 bs a)).toArray.all (·.oneCell') = true) := all_oneCell_toArray (qd_one _ _ _)
    have HT : Hid _ := take_wide P A cap bs a (hiF 32 bs a) (qd bs (a + 1 + at8 bs a) (at8 bs a)) HCL.out (qd_one _ _ _) (a + 1 + at8 bs a) _ (h.be b0) (fun h0 W hr => seeWide_any P A cap bs a h0 W hr) (fun h0 W hr => seeWide_no P A cap bs a _ rfl h0 W hr)
    have B0 : Hid _ := b0
    clear h b0
    generalize hcs : qd bs (a + 1 + at8 bs a) (at8 bs a) = cs at *
    generalize hiF 32 bs a = f at *
    generalize a + 1 + at8 bs a = a' at *
    clear hcs
    have HI' : Hid ((Tryz.prog.info? 26).map (·.size) = some cs.toArray.size) := by show _ = _; rw [List.size_toArray, HCL.out]; exact info_q
    go_enter Tryz.func53, Tryz.ntmps53
    go_wp2_with fail
    refine Calls.mono HT.out ?_
    rintro e V ⟨h1, h2, hg⟩
    obtain ⟨rfl, hr⟩ := h1 hz
    have rz : Row V w.heap.size q4z 26 := hg.row R0.out (by have := HP.out; omega)
    have T0 := rz.there 0 cs.toArray.size (by rw [List.size_toArray, HCL.out]; decide)
    have NF : Hid _ := rz.over (vs := cs) (by rw [HCL.out]; rfl)
    have HR : Hid (Rg (V.setCells w.heap.size 0 cs) P A cap bs a') := hr.setsNew w.heap.size 0 cs rz (by decide) (by decide)
    have HG : Hid (Gp P w (V.setCells w.heap.size 0 cs)) := by
      have k0 := below_setCells (Below.refl 0 V) (b := w.heap.size) (o := 0) (Nat.zero_le _) cs
      have hg1 := (Gro.of_below (R := fun k => k = P) B0.out).trans hg
      exact ⟨k0.os.trans hg1.os, k0.tape.trans hg1.tape, k0.output.trans hg1.output, Nat.le_trans hg1.size k0.size, fun i hi hn => (heap_sets V w.heap.size 0 _ i (by omega)).trans (hg1.block i hi hn)⟩
    clear h1 h2 hg HT hr rz R0
    go_wp2_with (refine wpList_store_mid rfl 26 (.tmp 2) (.tmp 4) rfl w.heap.size 0 cs.toArray rfl rfl T0 HI'.out HO.out ?_; simp only [Act.put]; clear T0; (change wpList _ _ _ _ _ (World.setCells V w.heap.size 0 cs)); (generalize World.setCells V w.heap.size 0 cs = Y at *))
    exact bodyPost_ret (results_row Tryz.results53 _ _ w.heap.size 26 cs rfl NF.out Tryz.underlying26 info_q HCL.out) rfl ⟨fun _ => ⟨rfl, HR.out⟩, fun q => absurd hz q, HG.out⟩
  · have HT : Hid _ := take_wide P A cap bs a (hiF 32 bs a) q4z rfl (q4_one 0 0 0 0) (a + 1 + at8 bs a) _ (h.be b0) (fun h0 W hr => absurd h0 hz) (fun h0 W hr => seeWide_no P A cap bs a _ rfl h0 W hr)
    have HCL : Hid (q4z.length = 4) := rfl
    have HO : Hid (q4z.toArray.all (·.oneCell') = true) := all_oneCell_toArray (q4_one 0 0 0 0)
    have B0 : Hid _ := b0
    clear h b0
    generalize hiF 32 bs a = f at *
    generalize a + 1 + at8 bs a = a' at *
    have HI' : Hid ((Tryz.prog.info? 26).map (·.size) = some q4z.toArray.size) := by show _ = _; rw [List.size_toArray, HCL.out]; exact info_q
    go_enter Tryz.func53, Tryz.ntmps53
    go_wp2_with fail
    refine Calls.mono HT.out ?_
    rintro e V ⟨h1, h2, hg⟩
    obtain ⟨rfl, hr⟩ := h2 hz
    have rz : Row V w.heap.size q4z 26 := hg.row R0.out (by have := HP.out; omega)
    have T0 := rz.there 0 q4z.toArray.size (by rw [List.size_toArray, HCL.out]; decide)
    have NF : Hid _ := rz.over (vs := q4z) rfl
    have HR : Hid (Rf (V.setCells w.heap.size 0 q4z) P a f) := Row.setCells_other hr _ _ _ (by have := HP.out; omega)
    have HG : Hid (Gp P w (V.setCells w.heap.size 0 q4z)) := by
      have k0 := below_setCells (Below.refl 0 V) (b := w.heap.size) (o := 0) (Nat.zero_le _) q4z
      have hg1 := (Gro.of_below (R := fun k => k = P) B0.out).trans hg
      exact ⟨k0.os.trans hg1.os, k0.tape.trans hg1.tape, k0.output.trans hg1.output, Nat.le_trans hg1.size k0.size, fun i hi hn => (heap_sets V w.heap.size 0 _ i (by omega)).trans (hg1.block i hi hn)⟩
    clear h1 h2 hg HT hr rz R0
    go_wp2_with (refine wpList_store_mid rfl 26 (.tmp 2) (.tmp 4) rfl w.heap.size 0 q4z.toArray rfl rfl T0 HI'.out HO.out ?_; simp only [Act.put]; clear T0; (change wpList _ _ _ _ _ (World.setCells V w.heap.size 0 q4z)); (generalize World.setCells V w.heap.size 0 q4z = Y at *))
    exact bodyPost_ret (results_row Tryz.results53 _ _ w.heap.size 26 q4z rfl NF.out Tryz.underlying26 info_q HCL.out) rfl ⟨fun q => absurd q hz, fun _ => ⟨rfl, HR.out⟩, HG.out⟩

set_option maxRecDepth 100000 in
set_option maxHeartbeats 1000000 in
theorem face_address (P : Nat) (A : Option Addr) (cap : Nat) (bs : List (BitVec 8)) (a : Nat) (w : World) (h : Rg w P A cap bs a) :
    Calls Tryz.prog 32 #[.pointer (some ⟨P, 0, none⟩)] w fun e w' => (dgE 20 bs a = 0 → e = .returned (.agg (vB (sub bs a 20)).toArray) ∧ Rg w' P A cap bs (a + 20)) ∧ (¬ dgE 20 bs a = 0 → e = .returned (.agg z20.toArray) ∧ Rf w' P a (dgE 20 bs a)) ∧ Gp P w w' := by
  have b0 : Below w.heap.size w (w.alloc (Obj.cells z20.toArray 23)) := (Below.refl _ _).alloc (Nat.le_refl _) _
  have R0 : Hid (Row (w.alloc (Obj.cells z20.toArray 23)) w.heap.size z20 23) := Row.new' rfl rfl
  have HP : Hid (P < w.heap.size) := h.row.lt
  by_cases hz : dgE 20 bs a = 0
  · have HCL : Hid ((vB (sub bs a 20)).length = 20) := (by show _ = _; rw [vB_length]; exact sub_len bs a 20 (dgE_ok hz))
    have HO : Hid ((vB (sub bs a 20)).toArray.all (·.oneCell') = true) := all_oneCell_toArray (vB_one _)
    have HT : Hid _ := take_address P A cap bs a (dgE 20 bs a) (vB (sub bs a 20)) HCL.out (vB_one _) (a + 20) _ (h.be b0) (fun h0 W hr => seeAddress_any P A cap bs a h0 W hr) (fun h0 W hr => seeAddress_no P A cap bs a _ rfl h0 W hr)
    have B0 : Hid _ := b0
    clear h b0
    generalize hcs : vB (sub bs a 20) = cs at *
    generalize dgE 20 bs a = f at *
    generalize a + 20 = a' at *
    clear hcs
    have HI' : Hid ((Tryz.prog.info? 23).map (·.size) = some cs.toArray.size) := by show _ = _; rw [List.size_toArray, HCL.out]; exact info_a20
    go_enter Tryz.func32, Tryz.ntmps32
    go_wp2_with fail
    refine Calls.mono HT.out ?_
    rintro e V ⟨h1, h2, hg⟩
    obtain ⟨rfl, hr⟩ := h1 hz
    have rz : Row V w.heap.size z20 23 := hg.row R0.out (by have := HP.out; omega)
    have T0 := rz.there 0 cs.toArray.size (by rw [List.size_toArray, HCL.out]; decide)
    have NF : Hid _ := rz.over (vs := cs) (by rw [HCL.out]; rfl)
    have HR : Hid (Rg (V.setCells w.heap.size 0 cs) P A cap bs a') := hr.setsNew w.heap.size 0 cs rz (by decide) (by decide)
    have HG : Hid (Gp P w (V.setCells w.heap.size 0 cs)) := by
      have k0 := below_setCells (Below.refl 0 V) (b := w.heap.size) (o := 0) (Nat.zero_le _) cs
      have hg1 := (Gro.of_below (R := fun k => k = P) B0.out).trans hg
      exact ⟨k0.os.trans hg1.os, k0.tape.trans hg1.tape, k0.output.trans hg1.output, Nat.le_trans hg1.size k0.size, fun i hi hn => (heap_sets V w.heap.size 0 _ i (by omega)).trans (hg1.block i hi hn)⟩
    clear h1 h2 hg HT hr rz R0
    go_wp2_with (refine wpList_store_mid rfl 23 (.tmp 2) (.tmp 4) rfl w.heap.size 0 cs.toArray rfl rfl T0 HI'.out HO.out ?_; simp only [Act.put]; clear T0; (change wpList _ _ _ _ _ (World.setCells V w.heap.size 0 cs)); (generalize World.setCells V w.heap.size 0 cs = Y at *))
    exact bodyPost_ret (results_row Tryz.results32 _ _ w.heap.size 23 cs rfl NF.out Tryz.underlying23 info_a20 HCL.out) rfl ⟨fun _ => ⟨rfl, HR.out⟩, fun q => absurd hz q, HG.out⟩
  · have HT : Hid _ := take_address P A cap bs a (dgE 20 bs a) z20 rfl (vB_one _) (a + 20) _ (h.be b0) (fun h0 W hr => absurd h0 hz) (fun h0 W hr => seeAddress_no P A cap bs a _ rfl h0 W hr)
    have HCL : Hid (z20.length = 20) := rfl
    have HO : Hid (z20.toArray.all (·.oneCell') = true) := all_oneCell_toArray (vB_one _)
    have B0 : Hid _ := b0
    clear h b0
    generalize dgE 20 bs a = f at *
    generalize a + 20 = a' at *
    have HI' : Hid ((Tryz.prog.info? 23).map (·.size) = some z20.toArray.size) := by show _ = _; rw [List.size_toArray, HCL.out]; exact info_a20
    go_enter Tryz.func32, Tryz.ntmps32
    go_wp2_with fail
    refine Calls.mono HT.out ?_
    rintro e V ⟨h1, h2, hg⟩
    obtain ⟨rfl, hr⟩ := h2 hz
    have rz : Row V w.heap.size z20 23 := hg.row R0.out (by have := HP.out; omega)
    have T0 := rz.there 0 z20.toArray.size (by rw [List.size_toArray, HCL.out]; decide)
    have NF : Hid _ := rz.over (vs := z20) rfl
    have HR : Hid (Rf (V.setCells w.heap.size 0 z20) P a f) := Row.setCells_other hr _ _ _ (by have := HP.out; omega)
    have HG : Hid (Gp P w (V.setCells w.heap.size 0 z20)) := by
      have k0 := below_setCells (Below.refl 0 V) (b := w.heap.size) (o := 0) (Nat.zero_le _) z20
      have hg1 := (Gro.of_below (R := fun k => k = P) B0.out).trans hg
      exact ⟨k0.os.trans hg1.os, k0.tape.trans hg1.tape, k0.output.trans hg1.output, Nat.le_trans hg1.size k0.size, fun i hi hn => (heap_sets V w.heap.size 0 _ i (by omega)).trans (hg1.block i hi hn)⟩
    clear h1 h2 hg HT hr rz R0
    go_wp2_with (refine wpList_store_mid rfl 23 (.tmp 2) (.tmp 4) rfl w.heap.size 0 z20.toArray rfl rfl T0 HI'.out HO.out ?_; simp only [Act.put]; clear T0; (change wpList _ _ _ _ _ (World.setCells V w.heap.size 0 z20)); (generalize World.setCells V w.heap.size 0 z20 = Y at *))
    exact bodyPost_ret (results_row Tryz.results32 _ _ w.heap.size 23 z20 rfl NF.out Tryz.underlying23 info_a20 HCL.out) rfl ⟨fun q => absurd q hz, fun _ => ⟨rfl, HR.out⟩, HG.out⟩

end Go.Proofs.YtaaehdlenigomaaGreat

namespace Go.Proofs.YtaaehdlenigomaaGreat
open Go Go.RowKit
open Sha

theorem stp_gn {P : Program} {ops : Array Oper} {o : Oper} {a : Act} {w : World} {K : Act → World → Prop} {Q : Exit → Act → World → Prop} {E : Prop} (hw : Region.wanted o (yielded ops a.tmps) = true) (f : FuncId) {xs : Array Operand} {ts : Array TypeId} (_ho : o.op = .call { callee := .value (.func f), args := xs, argTypes := ts }) (args : Array Value) (h : (execOp a.eval o).run P w = .ok (.enter f args) w)
    (hc : Calls P f args w fun e w' => ∃ v, e = .returned v ∧ K (a.put o.dst v) w') : if Region.wanted o (yielded ops a.tmps) = true then Oper.wp P o a w K Q else E := by
  rw [if_pos hw]
  unfold Oper.wp
  rw [h]
  exact hc.mono (fun e w' hk => by obtain ⟨v, he, hk⟩ := hk; subst he; exact hk)
theorem stp_load {P : Program} {ops : Array Oper} {o : Oper} {a : Act} {w : World} {K : Act → World → Prop} {Q : Exit → Act → World → Prop} {E : Prop} (hw : Region.wanted o (yielded ops a.tmps) = true) (ty : TypeId) (x : Operand) (ho : o.op = .load ty x)
    (b f : Nat) (hx : a.eval x = .pointer (some ⟨b, f, none⟩)) (cs : List Value) (d : TypeDesc) (hc : w.rangeAt b f cs) (hu : P.underlying ty = some d) (hd : d.isRow = true) (hi : (P.info? ty).map (·.size) = some cs.length)
    (h : K (a.put o.dst (.agg cs.toArray)) w) : if Region.wanted o (yielded ops a.tmps) = true then Oper.wp P o a w K Q else E := by
  rw [if_pos hw]
  exact wp_load_mid ty x ho b f hx cs d hc hu hd hi h
theorem results_rowS_tmp {P : Program} {fn : Func} {p q : Tmp} {ty : TypeId} {fs : Array Field} (h : fn.results = #[.cell p ty, .tmp q]) (tmps : Array Value) (w : World) (g : Nat) (t : TypeId) (cs : List Value) (v : Value)
    (hp : tmps.getD p undef = .pointer (some ⟨g, 0, none⟩)) (hv : tmps.getD q undef = v) (hg : Row w g cs t) (hu : P.underlying ty = some (.struct fs)) (hi : (P.info? ty).map (·.size) = some cs.length) :
    (results fn tmps).run P w = .ok (.tuple #[.agg cs.toArray, v]) w := by
  have hp' : tmps[p]?.getD undef = .pointer (some ⟨g, 0, none⟩) := by simpa using hp
  have hv' : tmps[q]?.getD undef = v := by simpa using hv
  have hr := run_loadVar_row (P := P) w g t ty cs.toArray (0, 0) (.struct fs) hg hu rfl (by simp [hi])
  simp [results, h, hp', hv', asAddr, hr]
/-- All but a reader's and a letter's blocks stay. -/
abbrev Gq (P b : Nat) : World → World → Prop := Gro (fun g => g = P ∨ g = b)
set_option maxRecDepth 100000 in
theorem take_8 (P : Nat) (A : Option Addr) (cap b : Nat) (w : World) (h : Rg w P A cap [8#8, 1#8, 3#8] 1) (hb : Row w b (lt 8 0 0) tLet) : Calls Tryz.prog 75 #[.pointer (some ⟨P, 0, none⟩), .pointer (some ⟨b, 0, none⟩)] w fun e w' => e = .returned (.tuple #[]) ∧ Rg w' P A cap [8#8, 1#8, 3#8] 3 ∧ Row w' b (lt 8 3 0) tLet ∧ Gq P b w w' := by
  have hne : b ≠ P := row_ne hb h.row (by decide)
  have HN : Hid _ := face_number P A cap [8#8, 1#8, 3#8] 1 w h
  have HL : Hid (Row w b (lt 8 0 0) tLet) := hb
  have HE : Hid (b ≠ P) := hne
  clear h hb hne
  go_enter Tryz.func75, Tryz.ntmps75
  go_wp2_with fail
  refine Calls.mono HN.out ?_
  rintro e W ⟨hok, hno, hG⟩
  clear hno
  obtain ⟨rfl, hr⟩ := hok (by decide +kernel)
  have e3 : ((nuW [8#8, 1#8, 3#8] 1 : Nat) : Int) = 3 := by decide +kernel
  rw [e3]
  have hL := hG.row HL.out HE.out
  have g1 := hL.cell 1 _ rfl
  have k1 := hL.thaw 1
  have HRG : Hid (Rg W P A cap [8#8, 1#8, 3#8] 3) := hr
  have HL2 : Hid (Row W b (lt 8 0 0) tLet) := hL
  have HG : Hid (Gro (fun g => g = P) w W) := hG
  clear hok hG hr hL e3 HN HL
  go_wp2_with fail
  go_end0
  refine ⟨rfl, HRG.out.setNew b 1 _ HL2.out (by decide) (by decide), ?_, ?_⟩
  · exact HL2.out.set 1 (.int .i64 3)
  · exact Gro.set (Gro.mono HG.out (fun g e => .inl e)) b 1 _ (.inr rfl)
set_option maxRecDepth 100000 in
set_option maxHeartbeats 1000000 in
theorem tread_8 (P : Nat) (A : Option Addr) (cap T U b : Nat) (w : World) (h : Rg w P A cap [8#8, 1#8, 3#8] 1) (hT : Row w T ltab 103) (hU : Row w U [.int .i64 0] 3) (hb : Row w b (lt 8 0 0) tLet) :
    Calls Tryz.prog 24 #[.slice (some ⟨T, 0, none⟩) 9 9, .pointer (some ⟨P, 0, none⟩), .pointer (some ⟨b, 0, none⟩), .slice (some ⟨U, 0, none⟩) 1 1] w fun e w' => e = .returned (.bool true) ∧ Row w' b (lt 8 3 0) tLet ∧ Gq P b w w' := by
  have HK : Hid _ := take_8 P A cap b w h hb
  have gu := hU.cell 0 _ rfl
  have gt := hT.cell 3 _ rfl
  clear h hT hU hb
  go_enter Tryz.func24, Tryz.ntmps24
  go_wp2_with fail
  refine wp_loop_rounds 2 ?_
  rw [rounds_succ]
  go_wp2_with fail
  refine Calls.mono HK.out ?_
  rintro e W ⟨rfl, hr, hb, hG⟩
  have HE : Hid _ := end_rest P A cap [8#8, 1#8, 3#8] 3 W hr
  have HQ : Hid (Row W b (lt 8 3 0) tLet ∧ Gq P b w W) := ⟨hb, hG⟩
  clear hr hb hG HK gu gt
  go_wp2_with fail
  rw [rounds_succ]
  go_wp2_with fail
  refine Calls.mono HE.out ?_
  rintro e W2 ⟨rfl, m, rfl⟩
  rw [if_neg (by decide)]
  go_wp2_with fail
  go_ret
  exact ⟨rfl, HQ.out.1, HQ.out.2.drewN m⟩

end Go.Proofs.YtaaehdlenigomaaGreat
