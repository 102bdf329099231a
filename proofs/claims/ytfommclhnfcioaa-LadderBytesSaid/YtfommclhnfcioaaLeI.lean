/-
  entries of any values: the closures that take an amount, a body.
-/
import Derived.Test.YtfommclhnfcioaaXByx
import Derived.Test.YtfommclhnfcioaaLtF
import Derived.Test.YtfommclhnfcioaaLeA

namespace Go.Proofs.Ytfommclhnfcioaa
open Go Go.RowKit
open Sha

theorem dgE_ok {n : Nat} {bs : List (BitVec 8)} {a : Nat} (h : dgE n bs a = 0) : a + n ≤ bs.length := by
  unfold dgE at h
  by_cases q : bs.length < a + n
  · rw [if_pos q] at h; cases h
  · omega

set_option maxRecDepth 100000 in
theorem face_byte (P : Nat) (A : Option Addr) (cap : Nat) (bs : List (BitVec 8)) (a : Nat) (w : World) (h : Rg w P A cap bs a) :
    Calls Try.prog 46 #[.pointer (some ⟨P, 0, none⟩)] w fun e w' => (byE bs a = 0 → e = .returned (.int .u8 ((at8 bs a : Nat) : Int)) ∧ Rg w' P A cap bs (a + 1)) ∧ (¬ byE bs a = 0 → e = .returned (.int .u8 0) ∧ Rf w' P a (byE bs a)) ∧ Gp P w w' := by
  have HT : Hid _ := take_byte P A cap bs a (byE bs a) (.int .u8 ((at8 bs a : Nat) : Int)) (a + 1) w h (fun h0 W hr => seeByte_x0 P A cap bs a h0 W hr) (fun h0 W hr => seeByte_x1 P A cap bs a h0 W hr)
  clear h
  generalize byE bs a = f at *
  generalize a + 1 = a' at *
  go_enter Try.func46, Try.ntmps46
  go_wp2_with fail
  refine Calls.mono HT.out ?_
  rintro e V ⟨h1, h2, hg⟩
  have HG : Hid (Gro _ _ _) := hg
  by_cases hz : f = 0
  · obtain ⟨rfl, hr⟩ := h1 hz
    have HR : Hid (Rg _ _ _ _ _ _) := hr
    clear h1 h2 hg HT hr
    go_wp2_with fail
    go_ret
    exact ⟨fun _ => ⟨rfl, HR.out⟩, fun q => absurd hz q, HG.out⟩
  · obtain ⟨rfl, hr⟩ := h2 hz
    have HR : Hid (Rf _ _ _ _) := hr
    clear h1 h2 hg HT hr
    go_wp2_with fail
    go_ret
    exact ⟨fun q => absurd q hz, fun _ => ⟨rfl, HR.out⟩, HG.out⟩

set_option maxRecDepth 100000 in
theorem face_number (P : Nat) (A : Option Addr) (cap : Nat) (bs : List (BitVec 8)) (a : Nat) (w : World) (h : Rg w P A cap bs a) :
    Calls Try.prog 47 #[.pointer (some ⟨P, 0, none⟩)] w fun e w' => (nuE bs a = 0 → e = .returned (.int .i64 ((nuW bs a : Nat) : Int)) ∧ Rg w' P A cap bs (a + 1 + at8 bs a)) ∧ (¬ nuE bs a = 0 → e = .returned (.int .i64 0) ∧ Rf w' P a (nuE bs a)) ∧ Gp P w w' := by
  have HT : Hid _ := take_number P A cap bs a (nuE bs a) (.int .i64 ((nuW bs a : Nat) : Int)) (a + 1 + at8 bs a) w h (fun h0 W hr => seeNumber_any P A cap bs a h0 W hr) (fun h0 W hr => seeNumber_no P A cap bs a _ rfl h0 W hr)
  clear h
  generalize nuE bs a = f at *
  generalize a + 1 + at8 bs a = a' at *
  go_enter Try.func47, Try.ntmps47
  go_wp2_with fail
  refine Calls.mono HT.out ?_
  rintro e V ⟨h1, h2, hg⟩
  have HG : Hid (Gro _ _ _) := hg
  by_cases hz : f = 0
  · obtain ⟨rfl, hr⟩ := h1 hz
    have HR : Hid (Rg _ _ _ _ _ _) := hr
    clear h1 h2 hg HT hr
    go_wp2_with fail
    go_ret
    exact ⟨fun _ => ⟨rfl, HR.out⟩, fun q => absurd hz q, HG.out⟩
  · obtain ⟨rfl, hr⟩ := h2 hz
    have HR : Hid (Rf _ _ _ _) := hr
    clear h1 h2 hg HT hr
    go_wp2_with fail
    go_ret
    exact ⟨fun q => absurd q hz, fun _ => ⟨rfl, HR.out⟩, HG.out⟩

set_option maxRecDepth 100000 in
set_option maxHeartbeats 1000000 in
theorem face_digest (P : Nat) (A : Option Addr) (cap : Nat) (bs : List (BitVec 8)) (a : Nat) (w : World) (h : Rg w P A cap bs a) :
    Calls Try.prog 48 #[.pointer (some ⟨P, 0, none⟩)] w fun e w' => (dgE 32 bs a = 0 → e = .returned (.agg (vB (sub bs a 32)).toArray) ∧ Rg w' P A cap bs (a + 32)) ∧ (¬ dgE 32 bs a = 0 → e = .returned (.agg z32.toArray) ∧ Rf w' P a (dgE 32 bs a)) ∧ Gp P w w' := by
  have b0 : Below w.heap.size w (w.alloc (Obj.cells z32.toArray 23)) := (Below.refl _ _).alloc (Nat.le_refl _) _
  have R0 : Hid (Row (w.alloc (Obj.cells z32.toArray 23)) w.heap.size z32 23) := Row.new' rfl rfl
  have HP : Hid (P < w.heap.size) := h.row.lt
  by_cases hz : dgE 32 bs a = 0
  · have HCL : Hid ((vB (sub bs a 32)).length = 32) := (by show _ = _; rw [vB_length]; exact sub_len bs a 32 (dgE_ok hz))
    have HO : Hid ((vB (sub bs a 32)).toArray.all (·.oneCell') = true) := all_oneCell_toArray (vB_one _)
    have HT : Hid _ := take_digest P A cap bs a (dgE 32 bs a) (vB (sub bs a 32)) HCL.out (vB_one _) (a + 32) _ (h.be b0) (fun h0 W hr => seeDigest_any P A cap bs a h0 W hr) (fun h0 W hr => seeDigest_no P A cap bs a _ rfl h0 W hr)
    have B0 : Hid _ := b0
    clear h b0
    generalize hcs : vB (sub bs a 32) = cs at *
    generalize dgE 32 bs a = f at *
    generalize a + 32 = a' at *
    clear hcs
    have HI' : Hid ((Try.prog.info? 23).map (·.size) = some cs.toArray.size) := by show _ = _; rw [List.size_toArray, HCL.out]; exact info_a32
    go_enter Try.func48, Try.ntmps48
    go_wp2_with fail
    refine Calls.mono HT.out ?_
    rintro e V ⟨h1, h2, hg⟩
    obtain ⟨rfl, hr⟩ := h1 hz
    have rz : Row V w.heap.size z32 23 := hg.row R0.out (by have := HP.out; omega)
    have T0 := rz.there 0 cs.toArray.size (by rw [List.size_toArray, HCL.out]; decide)
    have NF : Hid _ := rz.over (vs := cs) (by rw [HCL.out]; rfl)
    have HR : Hid (Rg (V.setCells w.heap.size 0 cs) P A cap bs a') := hr.setsNew w.heap.size 0 cs rz (by decide) (by decide)
    have HG : Hid (Gp P w (V.setCells w.heap.size 0 cs)) := by
      have k0 := below_setCells (Below.refl 0 V) (b := w.heap.size) (o := 0) (Nat.zero_le _) cs
      have hg1 := (Gro.of_below (R := fun k => k = P) B0.out).trans hg
      exact ⟨k0.os.trans hg1.os, k0.tape.trans hg1.tape, k0.output.trans hg1.output, Nat.le_trans hg1.size k0.size, fun i hi hn => (heap_sets V w.heap.size 0 _ i (by omega)).trans (hg1.block i hi hn)⟩
    clear h1 h2 hg HT hr rz R0
    go_wp2_with (refine wpList_store_mid rfl 23 (.tmp 2) (.tmp 4) rfl w.heap.size 0 cs.toArray rfl rfl T0 HI'.out HO.out ?_; simp only [Act.put]; clear T0; (change wpList _ _ _ _ _ (World.setCells V w.heap.size 0 cs)); (generalize World.setCells V w.heap.size 0 cs = Y at *))
    exact bodyPost_ret (results_row Try.results48 _ _ w.heap.size 23 cs rfl NF.out Try.underlying23 info_a32 HCL.out) rfl ⟨fun _ => ⟨rfl, HR.out⟩, fun q => absurd hz q, HG.out⟩
  · have HT : Hid _ := take_digest P A cap bs a (dgE 32 bs a) z32 rfl (vB_one _) (a + 32) _ (h.be b0) (fun h0 W hr => absurd h0 hz) (fun h0 W hr => seeDigest_no P A cap bs a _ rfl h0 W hr)
    have HCL : Hid (z32.length = 32) := rfl
    have HO : Hid (z32.toArray.all (·.oneCell') = true) := all_oneCell_toArray (vB_one _)
    have B0 : Hid _ := b0
    clear h b0
    generalize dgE 32 bs a = f at *
    generalize a + 32 = a' at *
    have HI' : Hid ((Try.prog.info? 23).map (·.size) = some z32.toArray.size) := by show _ = _; rw [List.size_toArray, HCL.out]; exact info_a32
    go_enter Try.func48, Try.ntmps48
    go_wp2_with fail
    refine Calls.mono HT.out ?_
    rintro e V ⟨h1, h2, hg⟩
    obtain ⟨rfl, hr⟩ := h2 hz
    have rz : Row V w.heap.size z32 23 := hg.row R0.out (by have := HP.out; omega)
    have T0 := rz.there 0 z32.toArray.size (by rw [List.size_toArray, HCL.out]; decide)
    have NF : Hid _ := rz.over (vs := z32) rfl
    have HR : Hid (Rf (V.setCells w.heap.size 0 z32) P a f) := Row.setCells_other hr _ _ _ (by have := HP.out; omega)
    have HG : Hid (Gp P w (V.setCells w.heap.size 0 z32)) := by
      have k0 := below_setCells (Below.refl 0 V) (b := w.heap.size) (o := 0) (Nat.zero_le _) z32
      have hg1 := (Gro.of_below (R := fun k => k = P) B0.out).trans hg
      exact ⟨k0.os.trans hg1.os, k0.tape.trans hg1.tape, k0.output.trans hg1.output, Nat.le_trans hg1.size k0.size, fun i hi hn => (heap_sets V w.heap.size 0 _ i (by omega)).trans (hg1.block i hi hn)⟩
    clear h1 h2 hg HT hr rz R0
    go_wp2_with (refine wpList_store_mid rfl 23 (.tmp 2) (.tmp 4) rfl w.heap.size 0 z32.toArray rfl rfl T0 HI'.out HO.out ?_; simp only [Act.put]; clear T0; (change wpList _ _ _ _ _ (World.setCells V w.heap.size 0 z32)); (generalize World.setCells V w.heap.size 0 z32 = Y at *))
    exact bodyPost_ret (results_row Try.results48 _ _ w.heap.size 23 z32 rfl NF.out Try.underlying23 info_a32 HCL.out) rfl ⟨fun q => absurd q hz, fun _ => ⟨rfl, HR.out⟩, HG.out⟩

end Go.Proofs.Ytfommclhnfcioaa

namespace Go.Proofs.Ytfommclhnfcioaa
open Go Go.RowKit
open Sha


end Go.Proofs.Ytfommclhnfcioaa

namespace Go.Proofs.Ytfommclhnfcioaa
open Go Go.RowKit
open Sha

theorem stp_gn {P : Program} {ops : Array Oper} {o : Oper} {a : Act} {w : World} {K : Act → World → Prop} {Q : Exit → Act → World → Prop} {E : Prop} (hw : Region.wanted o (yielded ops a.tmps) = true) (f : FuncId) {xs : Array Operand} {ts : Array TypeId} (_ho : o.op = .call { callee := .value (.func f), args := xs, argTypes := ts }) (args : Array Value) (h : (execOp a.eval o).run P w = .ok (.enter f args) w)
    (hc : Calls P f args w fun e w' => ∃ v, e = .returned v ∧ K (a.put o.dst v) w') : if Region.wanted o (yielded ops a.tmps) = true then Oper.wp P o a w K Q else E := by
  rw [if_pos hw]
  unfold Oper.wp
  rw [h]
  exact hc.mono (fun e w' hk => by obtain ⟨v, he, hk⟩ := hk; subst he; exact hk)
theorem stp_load {P : Program} {ops : Array Oper} {o : Oper} {a : Act} {w : World} {K : Act → World → Prop} {Q : Exit → Act → World → Prop} {E : Prop} (hw : Region.wanted o (yielded ops a.tmps) = true) (ty : TypeId) (x : Operand) (ho : o.op = .load ty x)
    (b f : Nat) (hx : a.eval x = .pointer (some ⟨b, f, none⟩)) (cs : List Value) (d : TypeDesc) (hc : w.rangeAt b f cs) (hu : P.underlying ty = some d) (hd : d.isRow = true) (hi : (P.info? ty).map (·.size) = some cs.length)
    (h : K (a.put o.dst (.agg cs.toArray)) w) : if Region.wanted o (yielded ops a.tmps) = true then Oper.wp P o a w K Q else E := by
  rw [if_pos hw]
  exact wp_load_mid ty x ho b f hx cs d hc hu hd hi h
theorem results_rowS_tmp {P : Program} {fn : Func} {p q : Tmp} {ty : TypeId} {fs : Array Field} (h : fn.results = #[.cell p ty, .tmp q]) (tmps : Array Value) (w : World) (g : Nat) (t : TypeId) (cs : List Value) (v : Value)
    (hp : tmps.getD p undef = .pointer (some ⟨g, 0, none⟩)) (hv : tmps.getD q undef = v) (hg : Row w g cs t) (hu : P.underlying ty = some (.struct fs)) (hi : (P.info? ty).map (·.size) = some cs.length) :
    (results fn tmps).run P w = .ok (.tuple #[.agg cs.toArray, v]) w := by
  have hp' : tmps[p]?.getD undef = .pointer (some ⟨g, 0, none⟩) := by simpa using hp
  have hv' : tmps[q]?.getD undef = v := by simpa using hv
  have hr := run_loadVar_row (P := P) w g t ty cs.toArray (0, 0) (.struct fs) hg hu rfl (by simp [hi])
  simp [results, h, hp', hv', asAddr, hr]
/-- All but a reader's and a letter's blocks stay. -/
abbrev Gq (P b : Nat) : World → World → Prop := Gro (fun g => g = P ∨ g = b)
end Go.Proofs.Ytfommclhnfcioaa

namespace Go.Proofs.Ytfommclhnfcioaa
open Go Go.RowKit
open Sha

section
variable {k tm tk gs : Int} {sd rc : List (BitVec 8)} {am : List Nat} {v : Value} {b : Nat} {w : World}
theorem set_past (xs ys : List Value) (n i : Nat) (u : Value) (h : xs.length = n) : (xs ++ ys).set (n + i) u = xs ++ ys.set i u := by
  rw [List.set_append_right _ _ (by omega), h, Nat.add_sub_cancel_left]
theorem ent_time (h1 : sd.length = 20) (x : Int) : (ent k sd tm tk rc am gs v).set 21 (.int .i64 x) = ent k sd x tk rc am gs v :=
  congrArg (List.cons _) (set_past (vB sd) _ 20 0 _ (by rw [vB_length, h1]))
theorem ent_token (h1 : sd.length = 20) (x : Int) : (ent k sd tm tk rc am gs v).set 22 (.int .i64 x) = ent k sd tm x rc am gs v :=
  congrArg (List.cons _) (set_past (vB sd) _ 20 1 _ (by rw [vB_length, h1]))
theorem ent_gas (h1 : sd.length = 20) (h2 : rc.length = 20) (h3 : am.length = 4) (x : Int) : (ent k sd tm tk rc am gs v).set 47 (.int .i64 x) = ent k sd tm tk rc am x v := by
  refine congrArg (List.cons _) ((set_past (vB sd) _ 20 26 _ (by rw [vB_length, h1])).trans (congrArg (vB sd ++ ·) ?_))
  refine congrArg (List.cons _) (congrArg (List.cons _) ((set_past (vB rc) _ 20 4 _ (by rw [vB_length, h2])).trans (congrArg (vB rc ++ ·) ?_)))
  exact set_past (vQ am) _ 4 0 _ (by rw [vQ_len, h3])
end

end Go.Proofs.Ytfommclhnfcioaa

namespace Go.Proofs.Ytfommclhnfcioaa
open Go Go.RowKit
open Sha

theorem patch (p old vs q xs : List Value) (o : Nat) (hx : xs = p ++ old ++ q) (hp : p.length = o) (hl : old.length = vs.length) : xs.take o ++ vs ++ xs.drop (o + vs.length) = p ++ vs ++ q := by
  subst hx hp
  rw [List.append_assoc p old q, List.take_left' rfl, ← List.append_assoc p old q, List.drop_left' (by rw [List.length_append, hl])]
section
variable {k tm tk gs : Int} {sd rc : List (BitVec 8)} {am : List Nat} {v : Value} {b : Nat} {w : World}
theorem ent_lenH (h1 : sd.length = 20) (h2 : rc.length = 20) (h3 : am.length = 4) : (ent k sd tm tk rc am gs v).length = 49 := by
  simp only [ent, List.length_cons, List.length_append, List.length_nil, vB_length, vQ_len, h1, h2, h3]
theorem Gq.sets {P o : Nat} {vs : List Value} {W : World} (h : Gro (fun g => g = P) w W) : Gq P b w (W.setCells b o vs) := by
  have q := below_setCells (Below.refl 0 W) (b := b) (o := o) (Nat.zero_le _) vs
  exact ⟨q.os.trans h.os, q.tape.trans h.tape, q.output.trans h.output, Nat.le_trans h.size q.size, fun k hk hn => (heap_sets W b o vs k (fun e => hn (.inr e))).trans (h.block k hk (fun e => hn (.inl e)))⟩
end

end Go.Proofs.Ytfommclhnfcioaa

namespace Go.Proofs.Ytfommclhnfcioaa
open Go Go.RowKit
open Sha


section
variable {k tm tk gs : Int} {sd rc : List (BitVec 8)} {am : List Nat} {v : Value} {b : Nat} {w : World}
theorem ent_body (h1 : sd.length = 20) (h2 : rc.length = 20) (h3 : am.length = 4) (u : Value) : (ent k sd tm tk rc am gs v).set 48 u = ent k sd tm tk rc am gs u := by
  refine congrArg (List.cons _) ((set_past (vB sd) _ 20 27 _ (by rw [vB_length, h1])).trans (congrArg (vB sd ++ ·) ?_))
  refine congrArg (List.cons _) (congrArg (List.cons _) ((set_past (vB rc) _ 20 5 _ (by rw [vB_length, h2])).trans (congrArg (vB rc ++ ·) ?_)))
  exact set_past (vQ am) _ 4 1 _ (by rw [vQ_len, h3])
end
end Go.Proofs.Ytfommclhnfcioaa
