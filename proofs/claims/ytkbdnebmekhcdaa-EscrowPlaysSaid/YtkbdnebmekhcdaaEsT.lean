/-
  Several vaults side by side, all made since w0.
-/
import Derived.Test.YtkbdnebmekhcdaaEsJ
import Derived.Laws.Externs
import Derived.Test.YtkbdnebmekhcdaaEsO

namespace Go.Proofs.Ytkbdnebmekhcdaa
open Go Go.RowKit Go.Maps
open Wd

theorem run_tam (w : World) (t xT k e : TypeId) (v : Value) (h : Try.prog.underlying t = some (.map k e)) : (Instr.typeAssert (.iface t v) xT t false).run Try.prog w = .ok v w := by
  simp [Instr.typeAssert, run_underlying h, go_sem, Result.andThen]
theorem run_mcl (w : World) {r : Nat} {es : Array MapEntry} {clock : Nat} (t : TypeId) (hb : w.heap[r]? = some (.map es clock)) :
    (Extern.MapsClone.clone #[.iface t (.map (some r))]).run Try.prog w = .ok (.iface t (.map (some w.heap.size))) (w.alloc (.map es clock)) := by
  have e : Extern.MapsClone.clone #[.iface t (.map (some r))] = (getObj r >>= fun o => match o with
      | .map entries clock => (newObj (.map entries clock) >>= fun n => pure (.iface t (.map (some n))))
      | _ => stuck "maps.clone: a map expected") := rfl
  rw [e]
  simp [MapKept.run_getObj_map hb, Result.andThen, go_sem]
set_option maxRecDepth 100000 in
set_option maxHeartbeats 2000000 in
theorem clone1_some (b : Nat) (es : Array MapEntry) (clock : Nat) (w : World) (hb : w.heap[b]? = some (.map es clock)) : Calls Try.prog 37 #[.map (some b)] w fun e w' => e = .returned (.map (some w.heap.size)) ∧ w' = w.alloc (.map es clock) := by
  have hq := eqMs und_M1 b
  go_enter Try.func37, Try.ntmps37
  go_wp2
  rw [run_callFunc_extern Try.func58 (by kernel_rfl) (by kernel_rfl) (by kernel_rfl) (e := Extern.MapsClone.clone) (by kernel_rfl), run_mcl w tM1 hb]
  simp only [Result.andThen]
  rw [Oper.upon_value]
  go_wp2
  rw [run_tam _ tM1 _ _ _ _ und_M1]
  simp only [Result.andThen]
  rw [Oper.upon_value]
  go_wp2
  go_ret
  exact ⟨rfl, rfl⟩
set_option maxHeartbeats 2000000 in
theorem clone1_none (w : World) : Calls Try.prog 37 #[.map none] w fun e w' => e = .returned (.map none) ∧ w' = w := by
  have hq := eqMn und_M1
  go_enter Try.func37, Try.ntmps37
  go_wp2
  go_ret
  exact ⟨rfl, rfl⟩
theorem clone1 {w : World} {m : Value} {n : Nat} {f : Int → Option Value} (h : Mv w m n f) : Calls Try.prog 37 #[m] w fun e w' => ∃ x, e = .returned (.map x) ∧ Mv w' (.map x) n f ∧ (∀ g, Own1 (.map x) g → w.heap.size ≤ g) ∧ Below w.heap.size w w' := by
  rcases h with ⟨rfl, h⟩ | ⟨b, rfl, D, ⟨es, clock, h1, h2⟩, h3⟩
  · exact (clone1_none w).mono fun e w' hq => ⟨_, hq.1, .inl ⟨rfl, h⟩, fun g hg => (nomatch hg), by rw [hq.2]; exact Below.refl _ _⟩
  · refine (clone1_some b es clock w h1).mono fun e w' hq => ⟨_, hq.1, ?_⟩
    obtain ⟨_, rfl⟩ := hq
    refine ⟨.inr ⟨w.heap.size, rfl, D, ⟨es, clock, (MapKept.heap_alloc w _).1, h2⟩, h3⟩, fun g hg => by cases hg; exact Nat.le_refl _, (Below.refl _ _).alloc (Nat.le_refl _) _⟩
set_option maxRecDepth 100000 in
set_option maxHeartbeats 2000000 in
theorem clone2_some (b : Nat) (es : Array MapEntry) (clock : Nat) (w : World) (hb : w.heap[b]? = some (.map es clock)) : Calls Try.prog 59 #[.map (some b)] w fun e w' => e = .returned (.map (some w.heap.size)) ∧ w' = w.alloc (.map es clock) := by
  have hq := eqMs und_M2 b
  go_enter Try.func59, Try.ntmps59
  go_wp2
  rw [run_callFunc_extern Try.func58 (by kernel_rfl) (by kernel_rfl) (by kernel_rfl) (e := Extern.MapsClone.clone) (by kernel_rfl), run_mcl w tM2 hb]
  simp only [Result.andThen]
  rw [Oper.upon_value]
  go_wp2
  rw [run_tam _ tM2 _ _ _ _ und_M2]
  simp only [Result.andThen]
  rw [Oper.upon_value]
  go_wp2
  go_ret
  exact ⟨rfl, rfl⟩
set_option maxHeartbeats 2000000 in
theorem clone2_none (w : World) : Calls Try.prog 59 #[.map none] w fun e w' => e = .returned (.map none) ∧ w' = w := by
  have hq := eqMn und_M2
  go_enter Try.func59, Try.ntmps59
  go_wp2
  go_ret
  exact ⟨rfl, rfl⟩
theorem clone2 {w : World} {m : Value} {n : Nat} {f : Int → Option Value} (h : Mv w m n f) : Calls Try.prog 59 #[m] w fun e w' => ∃ x, e = .returned (.map x) ∧ Mv w' (.map x) n f ∧ (∀ g, Own1 (.map x) g → w.heap.size ≤ g) ∧ Below w.heap.size w w' := by
  rcases h with ⟨rfl, h⟩ | ⟨b, rfl, D, ⟨es, clock, h1, h2⟩, h3⟩
  · exact (clone2_none w).mono fun e w' hq => ⟨_, hq.1, .inl ⟨rfl, h⟩, fun g hg => (nomatch hg), by rw [hq.2]; exact Below.refl _ _⟩
  · refine (clone2_some b es clock w h1).mono fun e w' hq => ⟨_, hq.1, ?_⟩
    obtain ⟨_, rfl⟩ := hq
    refine ⟨.inr ⟨w.heap.size, rfl, D, ⟨es, clock, (MapKept.heap_alloc w _).1, h2⟩, h3⟩, fun g hg => by cases hg; exact Nat.le_refl _, (Below.refl _ _).alloc (Nat.le_refl _) _⟩
theorem wpList_allocS {ops : Array Oper} {rest : List Oper} {op : Oper} {a : Act} {w : World} {Q : Exit → Act → World → Prop} (hgd : op.guard = none) (ho : op.op = .alloc tSt) (h : ∀ X, Row X w.heap.size [.map none] tSt → Below w.heap.size w X → wpList Try.prog ops Q rest (a.put op.dst (.pointer (some ⟨w.heap.size, 0, none⟩))) X) : wpList Try.prog ops Q (op :: rest) a w :=
  wpList_plain hgd fun _ hK => by
    unfold Oper.wp execOp
    simp only [ho]
    go_simp
    exact hK _ _ (h _ (Row.new' (cs := [.map none]) rfl rfl) ((Below.refl _ _).alloc (Nat.le_refl _) _))
theorem results_rowS1 {P : Program} {fn : Func} {p : Tmp} {ty : TypeId} {fs : Array Field} (h : fn.results = #[.cell p ty]) (tmps : Array Value) (w : World) (g : Nat) (t : TypeId) (cs : List Value)
    (hp : tmps.getD p undef = .pointer (some ⟨g, 0, none⟩)) (hg : Row w g cs t) (hu : P.underlying ty = some (.struct fs)) (hi : (P.info? ty).map (·.size) = some cs.length) :
    (results fn tmps).run P w = .ok (.agg cs.toArray) w :=
  results_cell_row h tmps w g t cs.toArray (0, 0) _ hp hg hu rfl (by simp [hi])
set_option maxRecDepth 100000 in
set_option maxHeartbeats 4000000 in
theorem copied_any {w : World} {m : Value} {n : Nat} {f : Int → Option Value} (h : Mv w m n f) : Calls Try.prog 38 #[.agg #[m]] w fun e w' => ∃ x, e = .returned (.agg #[.map x]) ∧ Mv w' (.map x) n f ∧ (∀ g, Own1 (.map x) g → w.heap.size ≤ g) ∧ Below w.heap.size w w' := by
  have HM : Hid (Mv w m n f) := h
  clear h
  go_enter Try.func38, Try.ntmps38
  go_upto_region 1 with (first
    | (refine wpList_boxG tSt rfl (.tmp 0) rfl [m] rfl ?_; intro X1 q1 q2; have R1 : Hid (Row X1 w.heap.size [m] tSt) := q1; have B1 : Hid (Below w.heap.size w X1) := q2; clear q1 q2)
    | (refine wpList_allocS rfl rfl ?_; intro X2 q1 q2; have R2 : Hid (Row X2 X1.heap.size [.map none] tSt) := q1; have R12 : Hid (Row X2 w.heap.size [m] tSt) := Row.below R1.out q2 R1.out.lt; have B2 : Hid (Below w.heap.size w X2) := B1.out.trans (q2.mono B1.out.size); clear q1 q2))
  obtain ⟨b2, hb2⟩ : ∃ b, b = X1.heap.size := ⟨_, rfl⟩
  rw [← hb2] at R2 ⊢
  have HB2 : Hid (w.heap.size ≤ b2) := by show _ ≤ _; rw [hb2]; exact B1.out.size
  clear hb2
  obtain ⟨b1, hb1⟩ : ∃ b, b = w.heap.size := ⟨_, rfl⟩
  rw [← hb1] at R12 ⊢
  clear hb1 R1
  have c0 := R12.out.cell 0 _ rfl
  have M2 : Hid (Mv X2 m n f) := HM.out.keep fun b hb hl => B2.out.block b hl
  go_wp2_with (first
    | (go_at_call 59; refine Calls.mono (clone2 M2.out) ?_; rintro e X3 ⟨x, rfl, q1, q2, q3⟩; have M3 : Hid (Mv X3 (.map x) n f) := q1; have F3 : Hid (∀ g, Own1 (.map x) g → w.heap.size ≤ g) := (fun g hg => Nat.le_trans B2.out.size (q2 g hg)); have R3 : Hid (Row X3 b2 [.map none] tSt) := Row.below R2.out q3 R2.out.lt; have B3 : Hid (Below w.heap.size w X3) := B2.out.trans (q3.mono B2.out.size); clear q1 q2 q3)
    | (refine wpList_storeL rfl tSt (.tmp 2) (.tmp 6) rfl b2 [.map x] [.map none] tSt rfl rfl R3.out rfl info_St (by simp [Value.oneCell']) ?_; intro X4 q1 q2; have R4 : Hid (Row X4 b2 [.map x] tSt) := q1; have B4 : Hid (Below w.heap.size w X4) := gro_new B3.out HB2.out q2; have G4 : Hid (Gro (· = b2) X3 X4) := q2; clear q1 q2))
  have M4 : Hid (Mv X4 (.map x) n f) := M3.out.keep (fun b hb hl => G4.out.block b hl (fun e => M3.out.notrow R3.out (e ▸ hb)))
  exact bodyPost_ret (results_rowS1 Try.results38 _ _ b2 tSt [.map x] rfl R4.out Try.underlying70 info_St) rfl ⟨x, rfl, M4.out, F3.out, B4.out⟩

theorem copy_fin {w V : World} {c : Nat} {x1 x2 : Option Nat} {s : St} {f1 f2 : Int → Option Value} {o : Array Value} (hB : Below w.heap.size w V) (hf : f1 = encT s.T) (h1 : Mv V (.map x1) c f1) (h2 : Mv V (.map x2) c f2) (hp : ∀ x, I64 x → (f2 x).getD (.int .u64 0) = vw (s.U x)) (hok : s.Ok) (ho : o = (vcs (.map x1) (.map x2) s.L).toArray) (ap : ∀ g, Own1 (.map x1) g → ¬ Own1 (.map x2) g) :
    Vt (V.alloc (.cells o tV)) V.heap.size c (.map x1) (.map x2) s ∧ Below w.heap.size w (V.alloc (.cells o tV)) := by
  have hA : Below V.heap.size V (V.alloc (.cells o tV)) := (Below.refl _ _).alloc (Nat.le_refl _) _
  refine ⟨⟨Row.new' rfl ho, ?_, ⟨f2, h2.keep fun b _ hl => hA.block b hl, hp⟩, ap, hok⟩, hB.trans (hA.mono hB.size)⟩
  rw [← hf]
  exact h1.keep fun b _ hl => hA.block b hl

set_option maxRecDepth 100000 in
set_option maxHeartbeats 8000000 in
theorem copy_any {w : World} {p c : Nat} {m1 m2 : Value} {s : St} (hV : Vt w p c m1 m2 s) : Calls Try.prog 14 #[.pointer (some ⟨p, 0, none⟩)] w fun e w' => ∃ q n1 n2, e = .returned (.pointer (some ⟨q, 0, none⟩)) ∧ w.heap.size ≤ q ∧ Vt w' q c n1 n2 s ∧ (∀ g, Own1 n1 g → w.heap.size ≤ g) ∧ (∀ g, Own1 n2 g → w.heap.size ≤ g) ∧ Below w.heap.size w w' := by
  obtain ⟨f2, p1, p2⟩ := hV.pd
  obtain ⟨f1, hf1⟩ : ∃ f, f = encT s.T := ⟨_, rfl⟩
  have HF1 : Hid (f1 = encT s.T) := hf1
  have HP2 : Hid (∀ x, I64 x → (f2 x).getD (.int .u64 0) = vw (s.U x)) := p2
  have HOK : Hid s.Ok := hV.ok
  have HC1 : Hid (∀ X, Below w.heap.size w X → Calls Try.prog 37 #[m1] X fun e w' => ∃ x, e = .returned (.map x) ∧ Mv w' (.map x) c f1 ∧ (∀ g, Own1 (.map x) g → X.heap.size ≤ g) ∧ Below X.heap.size X w') := fun X h => clone1 (by rw [hf1]; exact hV.tk.keep fun b hb hl => h.block b hl)
  have HC2 : Hid (∀ X, Below w.heap.size w X → Calls Try.prog 38 #[.agg #[m2]] X fun e w' => ∃ x, e = .returned (.agg #[.map x]) ∧ Mv w' (.map x) c f2 ∧ (∀ g, Own1 (.map x) g → X.heap.size ≤ g) ∧ Below X.heap.size X w') := fun X h => copied_any (p1.keep fun b hb hl => h.block b hl)
  obtain ⟨l0, l1, l2, l3, hl⟩ : ∃ a0 a1 a2 a3 : Int, vQ (dgs s.L 4) = [.int .u64 a0, .int .u64 a1, .int .u64 a2, .int .u64 a3] := ⟨_, _, _, _, rfl⟩
  have HL : Hid (vQ (dgs s.L 4) = [.int .u64 l0, .int .u64 l1, .int .u64 l2, .int .u64 l3]) := hl
  have HRW : Hid (Row w p [m1, m2, .int .u64 l0, .int .u64 l1, .int .u64 l2, .int .u64 l3] tV) := by
    have := hV.row
    unfold vcs at this
    rw [hl] at this
    exact this
  clear hV p1 p2 hf1 hl
  go_enter Try.func14, Try.ntmps14
  go_upto_region 3 with fail
  have a00 := HRW.out.cell 0 _ rfl
  have a01 := HRW.out.cell 1 _ rfl
  have a02 := HRW.out.cell 2 _ rfl
  have a03 := HRW.out.cell 3 _ rfl
  have a04 := HRW.out.cell 4 _ rfl
  have a05 := HRW.out.cell 5 _ rfl
  go_region_law (first
    | (refine stp_fn rfl 37 rfl #[m1] (by go_simp) (Calls.mono (HC1.out _ (by first | exact BV2.out | exact (Below.refl _ _).drew)) ?_); rintro e V1 ⟨x1, rfl, q1, q2, q3⟩; refine ⟨_, rfl, ?_⟩; (first
      | (have BV1 : Hid (Below w.heap.size w V1) := BV2.out.trans (q3.mono BV2.out.size); have MX1 : Hid (Mv V1 (.map x1) c f1) := q1; have MY2 : Hid (Mv V1 (.map x2) c f2) := MX2.out.keep (fun b hb hl => q3.block b hl); have APX : Hid (∀ g, Own1 (.map x1) g → ¬ Own1 (.map x2) g) := (fun g h1 h2 => by have := q2 g h1; have := MX2.out.lt h2; omega); have FX1 : Hid (∀ g, Own1 (.map x1) g → w.heap.size ≤ g) := (fun g hg => Nat.le_trans BV2.out.size (q2 g hg)))
      | (have BV1 : Hid (Below w.heap.size w V1) := (Below.refl w.heap.size w).drew.trans q3; have MX1 : Hid (Mv V1 (.map x1) c f1) := q1; have FX1 : Hid (∀ g, Own1 (.map x1) g → w.heap.size ≤ g) := q2)); have RV1 : Row V1 p [m1, m2, .int .u64 l0, .int .u64 l1, .int .u64 l2, .int .u64 l3] tV := Row.below HRW.out BV1.out HRW.out.lt; have a10 := RV1.cell 0 _ rfl; have a11 := RV1.cell 1 _ rfl; have a12 := RV1.cell 2 _ rfl; have a13 := RV1.cell 3 _ rfl; have a14 := RV1.cell 4 _ rfl; have a15 := RV1.cell 5 _ rfl; clear q1 q2 q3 RV1)
    | (refine stp_fn rfl 38 rfl #[.agg #[m2]] (by go_simp) (Calls.mono (HC2.out _ (by first | exact BV1.out | exact (Below.refl _ _).drew)) ?_); rintro e V2 ⟨x2, rfl, q1, q2, q3⟩; refine ⟨_, rfl, ?_⟩; (first
      | (have BV2 : Hid (Below w.heap.size w V2) := BV1.out.trans (q3.mono BV1.out.size); have MX2 : Hid (Mv V2 (.map x2) c f2) := q1; have MY1 : Hid (Mv V2 (.map x1) c f1) := MX1.out.keep (fun b hb hl => q3.block b hl); have APX : Hid (∀ g, Own1 (.map x2) g → ¬ Own1 (.map x1) g) := (fun g h1 h2 => by have := q2 g h1; have := MX1.out.lt h2; omega); have FX2 : Hid (∀ g, Own1 (.map x2) g → w.heap.size ≤ g) := (fun g hg => Nat.le_trans BV1.out.size (q2 g hg)))
      | (have BV2 : Hid (Below w.heap.size w V2) := (Below.refl w.heap.size w).drew.trans q3; have MX2 : Hid (Mv V2 (.map x2) c f2) := q1; have FX2 : Hid (∀ g, Own1 (.map x2) g → w.heap.size ≤ g) := q2)); have RV2 : Row V2 p [m1, m2, .int .u64 l0, .int .u64 l1, .int .u64 l2, .int .u64 l3] tV := Row.below HRW.out BV2.out HRW.out.lt; have a20 := RV2.cell 0 _ rfl; have a21 := RV2.cell 1 _ rfl; have a22 := RV2.cell 2 _ rfl; have a23 := RV2.cell 3 _ rfl; have a24 := RV2.cell 4 _ rfl; have a25 := RV2.cell 5 _ rfl; clear q1 q2 q3 RV2))
  all_goals
    simp only [Act.put, List.setIfInBounds_toArray, List.set_cons_zero, List.set_cons_succ, List.getElem_toArray, List.getElem_cons_succ, List.getElem_cons_zero]
    go_wp2_with fail
    go_ret
    (first
      | exact ⟨V2.heap.size, .map x1, .map x2, rfl, BV2.out.size, (copy_fin BV2.out HF1.out MY1.out MX2.out HP2.out HOK.out (by unfold vcs; rw [HL.out]) (fun g h1 h2 => APX.out g h2 h1)).1, FX1.out, FX2.out, (copy_fin BV2.out HF1.out MY1.out MX2.out HP2.out HOK.out (by unfold vcs; rw [HL.out]) (fun g h1 h2 => APX.out g h2 h1)).2⟩
      | exact ⟨V1.heap.size, .map x1, .map x2, rfl, BV1.out.size, (copy_fin BV1.out HF1.out MX1.out MY2.out HP2.out HOK.out (by unfold vcs; rw [HL.out]) APX.out).1, FX1.out, FX2.out, (copy_fin BV1.out HF1.out MX1.out MY2.out HP2.out HOK.out (by unfold vcs; rw [HL.out]) APX.out).2⟩)


end Go.Proofs.Ytkbdnebmekhcdaa

namespace Go.Proofs.Ytkbdnebmekhcdaa
open Go Go.RowKit Go.Maps
open Wd

/-- A vault: where it lies, its maps, its state. -/
structure Ve where
  p : Nat
  m1 : Value
  m2 : Value
  s : St
def Ve.has (v : Ve) (g : Nat) : Prop := Vb v.p v.m1 v.m2 g
structure Vs (w0 w : World) (c : Nat) (L : List Ve) : Prop where
  v : ∀ (i : Nat) (v : Ve), L[i]? = some v → Vt w v.p c v.m1 v.m2 v.s
  ap : ∀ (i j : Nat) (u v : Ve), i ≠ j → L[i]? = some u → L[j]? = some v → ∀ g, u.has g → ¬ v.has g
  n : ∀ (i : Nat) (v : Ve), L[i]? = some v → ∀ g, v.has g → w0.heap.size ≤ g
  be : Below w0.heap.size w0 w
/-- Every row that is no vault's stays. -/
structure Kv (L : List Ve) (w w' : World) : Prop where
  size : w.heap.size ≤ w'.heap.size
  row : ∀ {b : Nat} {cs : List Value} {t : TypeId}, Row w b cs t → t ≠ tV → Row w' b cs t

theorem Vt.has_lt {w : World} {p c : Nat} {m1 m2 : Value} {s : St} (h : Vt w p c m1 m2 s) {g : Nat} (hg : Vb p m1 m2 g) : g < w.heap.size := by
  obtain ⟨f, p1, p2⟩ := h.pd
  rcases hg with rfl | hg | hg
  · exact h.row.lt
  · exact h.tk.lt hg
  · exact p1.lt hg
theorem Vt.has_row {w : World} {p c b : Nat} {m1 m2 : Value} {s : St} {cs : List Value} {t : TypeId} (h : Vt w p c m1 m2 s) (r : Row w b cs t) (ht : t ≠ tV) : ¬ Vb p m1 m2 b := by
  obtain ⟨f, p1, p2⟩ := h.pd
  rintro (rfl | hg | hg)
  · exact ht (row_ty r h.row)
  · exact h.tk.notrow r hg
  · exact p1.notrow r hg
theorem Kv.be {L : List Ve} {w w' : World} (h : Below w.heap.size w w') : Kv L w w' := ⟨h.size, fun r _ => Row.below r h r.lt⟩
theorem Vs.keep {w0 w w' : World} {c : Nat} {L : List Ve} (h : Vs w0 w c L) (hB : Below w.heap.size w w') : Vs w0 w' c L :=
  ⟨fun i v hv => (h.v i v hv).be hB, h.ap, h.n, h.be.trans (hB.mono h.be.size)⟩
theorem Vs.mono {w0 w : World} {c d : Nat} {L : List Ve} (h : Vs w0 w c L) (hd : c ≤ d) : Vs w0 w d L := ⟨fun i v hv => (h.v i v hv).mono hd, h.ap, h.n, h.be⟩
/-- One of them turns. -/
theorem Vs.turn {w0 w w' : World} {c i : Nat} {L : List Ve} {u : Ve} {s' : St} (h : Vs w0 w c L) (hu : L[i]? = some u) (hC : VtB w u.p c u.m1 u.m2 s' w') :
    ∃ n1 n2, Vs w0 w' (c + 2) (L.set i ⟨u.p, n1, n2, s'⟩) ∧ Kv L w w' := by
  obtain ⟨n1, n2, hV', k1, k2, hG⟩ := hC
  have hil : i < L.length := (List.getElem?_eq_some_iff.1 hu).1
  have hs := h.be.size
  -- what the turned vault has: what it had, or new blocks
  have new : ∀ g, Ve.has ⟨u.p, n1, n2, s'⟩ g → u.has g ∨ w.heap.size ≤ g := by
    rintro g (hg | hg | hg)
    · exact .inl (.inl hg)
    · rcases k1 with k | k
      · exact .inl (.inr (.inl (by rw [← k]; exact hg)))
      · exact .inr (k g hg)
    · rcases k2 with k | k
      · exact .inl (.inr (.inr (by rw [← k]; exact hg)))
      · exact .inr (k g hg)
  have lt : ∀ (j : Nat) (v : Ve), L[j]? = some v → ∀ g, v.has g → g < w.heap.size := fun j v hv g hg => (h.v j v hv).has_lt hg
  refine ⟨n1, n2, ⟨fun j v hv => ?_, fun j k v x hjk hv hx g hg hg2 => ?_, fun j v hv g hg => ?_, h.be.trans (hG.to_below hs fun k hk => h.n i u hu k hk)⟩, hG.size, fun {b cs t} r ht => hG.row r ((h.v i u hu).has_row r ht)⟩
  · by_cases e : j = i
    · subst e
      rw [List.getElem?_set_self hil] at hv
      cases hv
      exact hV'
    · rw [List.getElem?_set_ne (fun q => e q.symm)] at hv
      exact ((h.v j v hv).gro hG fun k hk hk2 => h.ap j i v u e hv hu k hk hk2).mono (by omega)
  · by_cases e : j = i
    · subst e
      rw [List.getElem?_set_self hil] at hv
      rw [List.getElem?_set_ne hjk] at hx
      cases hv
      rcases new g hg with q | q
      · exact h.ap j k u x hjk hu hx g q hg2
      · have := lt k x hx g hg2
        omega
    · rw [List.getElem?_set_ne (fun q => e q.symm)] at hv
      by_cases e2 : k = i
      · subst e2
        rw [List.getElem?_set_self hil] at hx
        cases hx
        rcases new g hg2 with q | q
        · exact h.ap j k v u hjk hv hu g hg q
        · have := lt j v hv g hg
          omega
      · rw [List.getElem?_set_ne (fun q => e2 q.symm)] at hx
        exact h.ap j k v x hjk hv hx g hg hg2
  · by_cases e : j = i
    · subst e
      rw [List.getElem?_set_self hil] at hv
      cases hv
      rcases new g hg with q | q
      · exact h.n j u hu g q
      · omega
    · rw [List.getElem?_set_ne (fun q => e q.symm)] at hv
      exact h.n j v hv g hg
/-- One more. -/
theorem Vs.more {w0 w w' : World} {c q : Nat} {L : List Ve} {n1 n2 : Value} {s : St} (h : Vs w0 w c L) (hq : w.heap.size ≤ q) (hV : Vt w' q c n1 n2 s) (h1 : ∀ g, Own1 n1 g → w.heap.size ≤ g) (h2 : ∀ g, Own1 n2 g → w.heap.size ≤ g) (hB : Below w.heap.size w w') : Vs w0 w' c (L ++ [⟨q, n1, n2, s⟩]) := by
  have hs := h.be.size
  have new : ∀ g, Ve.has ⟨q, n1, n2, s⟩ g → w.heap.size ≤ g := by
    rintro g (hg | hg | hg)
    · exact hg ▸ hq
    · exact h1 g hg
    · exact h2 g hg
  have lt : ∀ (j : Nat) (v : Ve), L[j]? = some v → ∀ g, v.has g → g < w.heap.size := fun j v hv g hg => (h.v j v hv).has_lt hg
  have cs : ∀ j v, (L ++ [(⟨q, n1, n2, s⟩ : Ve)])[j]? = some v → (j < L.length ∧ L[j]? = some v) ∨ (j = L.length ∧ v = ⟨q, n1, n2, s⟩) := fun j v hv => by
    by_cases hj : j < L.length
    · rw [List.getElem?_append_left hj] at hv
      exact .inl ⟨hj, hv⟩
    · rw [List.getElem?_append_right (by omega)] at hv
      have hj0 : j - L.length = 0 := by
        have := (List.getElem?_eq_some_iff.1 hv).1
        simpa using this
      rw [hj0] at hv
      exact .inr ⟨by omega, (Option.some.inj hv).symm⟩
  refine ⟨fun j v hv => ?_, fun j k v x hjk hv hx g hg hg2 => ?_, fun j v hv g hg => ?_, h.be.trans (hB.mono hs)⟩
  · rcases cs j v hv with ⟨_, hv⟩ | ⟨_, rfl⟩
    · exact (h.v j v hv).be hB
    · exact hV
  · rcases cs j v hv with ⟨_, hv⟩ | ⟨e1, rfl⟩ <;> rcases cs k x hx with ⟨_, hx⟩ | ⟨e2, rfl⟩
    · exact h.ap j k v x hjk hv hx g hg hg2
    · have := lt j v hv g hg; have := new g hg2; omega
    · have := lt k x hx g hg2; have := new g hg; omega
    · omega
  · rcases cs j v hv with ⟨_, hv⟩ | ⟨_, rfl⟩
    · exact h.n j v hv g hg
    · exact Nat.le_trans hs (new g hg)

end Go.Proofs.Ytkbdnebmekhcdaa
