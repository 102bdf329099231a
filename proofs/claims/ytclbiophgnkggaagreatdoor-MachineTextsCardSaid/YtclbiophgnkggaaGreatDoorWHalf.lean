/-
  wide.halves, wide.Mul, wide.Cmp.
-/
import Derived.Test.YtclbiophgnkggaaGreatDoorWEq
import Derived.Deep.RegionLaw
namespace Go.Proofs.YtclbiophgnkggaaGreatDoor
open Go Go.RowKit
open Wd

/-- A call of a Go function, as one step of a region that draws. -/
theorem step_fcall {P : Program} {ops : Array Oper} {o : Oper} {a : Act} {w : World} {K : Act → World → Prop} {Q : Exit → Act → World → Prop} {E : Prop} (hg : o.guard = none) (f : FuncId) (args : Array Value) (h : (execOp a.eval o).run P w = .ok (.enter f args) w)
    (hc : Calls P f args w fun e w' => ∃ v, e = .returned v ∧ K (a.put o.dst v) w') : if Region.wanted o (yielded ops a.tmps) = true then Oper.wp P o a w K Q else E := by
  have hw : Region.wanted o (yielded ops a.tmps) = true := by simp [Region.wanted, hg]
  rw [if_pos hw]
  unfold Oper.wp
  rw [h]
  exact hc.mono (fun e w' hk => by obtain ⟨v, he, hk⟩ := hk; subst he; exact hk)
/-- copy, as one step of a region that draws. -/
theorem step_copy {P : Program} {ops : Array Oper} {op : Oper} {a : Act} {w : World} {K : Act → World → Prop} {Q : Exit → Act → World → Prop} {E : Prop} (hgd : op.guard = none) (x y : Operand) (dT sT : TypeId) (ho : op.op = .call { callee := .builtin .copy, args := #[x, y], argTypes := #[dT, sT] })
    (elem : TypeId) (b o dLen dCap : Nat) (adr : Addr) (sLen sCap : Nat) (cs : List Value)
    (hx : a.eval x = .slice (some ⟨b, o, none⟩) dLen dCap) (hy : a.eval y = .slice (some adr) sLen sCap)
    (hu : P.underlying dT = some (.slice elem)) (hs : (P.info? elem).map (·.size) = some 1) (hn : cs.length = Nat.min sLen dLen)
    (hsrc : ∀ j v, cs[j]? = some v → w.cell? (adr.add j) = some v) (ht : w.there b o cs.length) (h1 : ∀ v ∈ cs, v.oneCell' = true)
    (h : K (a.put op.dst (goInt cs.length)) (w.setCells b o cs)) : if Region.wanted op (yielded ops a.tmps) = true then Oper.wp P op a w K Q else E := by
  have hw : Region.wanted op (yielded ops a.tmps) = true := by simp [Region.wanted, hgd]
  rw [if_pos hw]
  obtain ⟨dst, op', ty, pos, after, guard⟩ := op
  simp only at hgd ho
  subst hgd; subst ho
  have hr := run_copy_cells (P := P) w dT sT ty elem b o dLen dCap adr sLen sCap cs hu hs hn hsrc (fun j hj => (ht j hj).1) (fun j hj => (ht j hj).2) h1
  unfold Oper.wp
  rw [BigFrame.execOp_builtin, BigFrame.builtin_copy]
  simp only [List.map_toArray, List.map_cons, List.map_nil, hx, hy, Sem.run_bind, hr, Result.andThen_ok, Sem.run_pure, Oper.upon_value]
  exact h

theorem results_rows {P : Program} {fn : Func} {p q : Tmp} {ty tz : TypeId} {n m : Nat} {e e' : TypeId} (h : fn.results = #[.cell p ty, .cell q tz]) (tmps : Array Value) (w : World) (g g' : Nat) (t t' : TypeId) (cs ds : List Value)
    (hp : tmps.getD p undef = .pointer (some ⟨g, 0, none⟩)) (hq : tmps.getD q undef = .pointer (some ⟨g', 0, none⟩)) (hg : Row w g cs t) (hg' : Row w g' ds t') (hu : P.underlying ty = some (.array n e)) (hi : (P.info? ty).map (·.size) = some n) (hl : cs.length = n) (hu' : P.underlying tz = some (.array m e')) (hi' : (P.info? tz).map (·.size) = some m) (hl' : ds.length = m) :
    (results fn tmps).run P w = .ok (.tuple #[.agg cs.toArray, .agg ds.toArray]) w := by
  have hp' : tmps[p]?.getD undef = .pointer (some ⟨g, 0, none⟩) := by simpa using hp
  have hq' : tmps[q]?.getD undef = .pointer (some ⟨g', 0, none⟩) := by simpa using hq
  have hr := run_loadVar_row (P := P) w g t ty cs.toArray (0, 0) (.array n e) hg hu rfl (by simp [hi, hl])
  have hr' := run_loadVar_row (P := P) w g' t' tz ds.toArray (0, 0) (.array m e') hg' hu' rfl (by simp [hi', hl'])
  simp [results, h, hp', hq', asAddr, hr, hr']

theorem dgs_take (n : Nat) : (dgs n 8).take 4 = dgs n 4 := by
  unfold dgs; rw [← List.map_take, List.take_range]; rfl
theorem dgs_drop (n : Nat) : (dgs n 8).drop 4 = dgs (n / 2 ^ 256) 4 := by
  have e : ∀ i, lim n (4 + i) = lim (n / 2 ^ 256) i := fun i => by
    unfold lim
    rw [show 64 * (4 + i) = 256 + 64 * i by omega, Nat.pow_add, Nat.div_div_eq_div_mul]
  show [lim n 4, lim n 5, lim n 6, lim n 7] = [lim (n / 2 ^ 256) 0, lim (n / 2 ^ 256) 1, lim (n / 2 ^ 256) 2, lim (n / 2 ^ 256) 3]
  rw [← e 0, ← e 1, ← e 2, ← e 3]

set_option maxRecDepth 100000 in
set_option maxHeartbeats 2000000 in
theorem halves_any (n : Nat) (w : World) :
    Calls Tryz.prog 94 #[.agg (vQ (dgs n 8)).toArray] w fun e w' => e = .returned (.tuple #[.agg (vQ (dgs n 4)).toArray, .agg (vQ (dgs (n / 2 ^ 256) 4)).toArray]) ∧ Below w.heap.size w w' := by
  obtain ⟨ds, hds⟩ : ∃ ds, ds = vQ (dgs n 8) := ⟨_, rfl⟩
  obtain ⟨lo, hlo⟩ : ∃ lo, lo = vQ (dgs n 4) := ⟨_, rfl⟩
  obtain ⟨hi, hhi⟩ : ∃ hi, hi = vQ (dgs (n / 2 ^ 256) 4) := ⟨_, rfl⟩
  have HLO : Hid (lo = ds.take 4) := by show _ = _; rw [hlo, hds, ← dgs_take]; simp [vQ]
  have HHI : Hid (hi = ds.drop 4) := by show _ = _; rw [hhi, hds, ← dgs_drop]; simp [vQ]
  have HDL : Hid (ds.length = 8) := by show _ = _; rw [hds, vQ_length, dgs_length]
  have HLL : Hid (lo.length = 4) := by show _ = _; rw [hlo, vQ_length, dgs_length]
  have HHL : Hid (hi.length = 4) := by show _ = _; rw [hhi, vQ_length, dgs_length]
  have HO1 : Hid (∀ v ∈ lo, v.oneCell' = true) := by rw [hlo]; exact vQ_one _
  have HO2 : Hid (∀ v ∈ hi, v.oneCell' = true) := by rw [hhi]; exact vQ_one _
  have HL4 : Hid (lo = vQ [lim n 0, lim n 1, lim n 2, lim n 3]) := hlo
  have HH4 : Hid (hi = vQ [lim (n / 2 ^ 256) 0, lim (n / 2 ^ 256) 1, lim (n / 2 ^ 256) 2, lim (n / 2 ^ 256) 3]) := hhi
  rw [← hds, ← hlo, ← hhi]
  clear hds hlo hhi
  go_enter Tryz.func94, Tryz.ntmps94
  go_wp2
  have hb0 : Below w.heap.size w (((((w.alloc (Obj.cells ds.toArray 135)).alloc (Obj.cells #[Value.int IntKind.u64 0, Value.int IntKind.u64 0, Value.int IntKind.u64 0, Value.int IntKind.u64 0] 37)).alloc (Obj.cells #[Value.int IntKind.u64 0, Value.int IntKind.u64 0, Value.int IntKind.u64 0, Value.int IntKind.u64 0] 37)).alloc (Obj.cells #[Value.int IntKind.u64 0, Value.int IntKind.u64 0, Value.int IntKind.u64 0, Value.int IntKind.u64 0] 37)).alloc (Obj.cells #[Value.int IntKind.u64 0, Value.int IntKind.u64 0, Value.int IntKind.u64 0, Value.int IntKind.u64 0] 37)) := (((((Below.refl _ _).alloc (Nat.le_refl _) _).alloc (by simp) _).alloc (by simp; omega) _).alloc (by simp; omega) _).alloc (by simp; omega) _
  have r0 : Row (((((w.alloc (Obj.cells ds.toArray 135)).alloc (Obj.cells #[Value.int IntKind.u64 0, Value.int IntKind.u64 0, Value.int IntKind.u64 0, Value.int IntKind.u64 0] 37)).alloc (Obj.cells #[Value.int IntKind.u64 0, Value.int IntKind.u64 0, Value.int IntKind.u64 0, Value.int IntKind.u64 0] 37)).alloc (Obj.cells #[Value.int IntKind.u64 0, Value.int IntKind.u64 0, Value.int IntKind.u64 0, Value.int IntKind.u64 0] 37)).alloc (Obj.cells #[Value.int IntKind.u64 0, Value.int IntKind.u64 0, Value.int IntKind.u64 0, Value.int IntKind.u64 0] 37)) w.heap.size ds 135 := ((((Row.new w ds _).alloc _).alloc _).alloc _).alloc _
  have r1 : Row (((((w.alloc (Obj.cells ds.toArray 135)).alloc (Obj.cells #[Value.int IntKind.u64 0, Value.int IntKind.u64 0, Value.int IntKind.u64 0, Value.int IntKind.u64 0] 37)).alloc (Obj.cells #[Value.int IntKind.u64 0, Value.int IntKind.u64 0, Value.int IntKind.u64 0, Value.int IntKind.u64 0] 37)).alloc (Obj.cells #[Value.int IntKind.u64 0, Value.int IntKind.u64 0, Value.int IntKind.u64 0, Value.int IntKind.u64 0] 37)).alloc (Obj.cells #[Value.int IntKind.u64 0, Value.int IntKind.u64 0, Value.int IntKind.u64 0, Value.int IntKind.u64 0] 37)) (w.heap.size + 1) (vQ (List.replicate 4 0)) 37 := (((Row.new' (by simp) rfl).alloc _).alloc _).alloc _
  have r2 : Row (((((w.alloc (Obj.cells ds.toArray 135)).alloc (Obj.cells #[Value.int IntKind.u64 0, Value.int IntKind.u64 0, Value.int IntKind.u64 0, Value.int IntKind.u64 0] 37)).alloc (Obj.cells #[Value.int IntKind.u64 0, Value.int IntKind.u64 0, Value.int IntKind.u64 0, Value.int IntKind.u64 0] 37)).alloc (Obj.cells #[Value.int IntKind.u64 0, Value.int IntKind.u64 0, Value.int IntKind.u64 0, Value.int IntKind.u64 0] 37)).alloc (Obj.cells #[Value.int IntKind.u64 0, Value.int IntKind.u64 0, Value.int IntKind.u64 0, Value.int IntKind.u64 0] 37)) (w.heap.size + 1 + 1) (vQ (List.replicate 4 0)) 37 := ((Row.new' (by simp) rfl).alloc _).alloc _
  have r3 : Row (((((w.alloc (Obj.cells ds.toArray 135)).alloc (Obj.cells #[Value.int IntKind.u64 0, Value.int IntKind.u64 0, Value.int IntKind.u64 0, Value.int IntKind.u64 0] 37)).alloc (Obj.cells #[Value.int IntKind.u64 0, Value.int IntKind.u64 0, Value.int IntKind.u64 0, Value.int IntKind.u64 0] 37)).alloc (Obj.cells #[Value.int IntKind.u64 0, Value.int IntKind.u64 0, Value.int IntKind.u64 0, Value.int IntKind.u64 0] 37)).alloc (Obj.cells #[Value.int IntKind.u64 0, Value.int IntKind.u64 0, Value.int IntKind.u64 0, Value.int IntKind.u64 0] 37)) (w.heap.size + 1 + 1 + 1) (vQ (List.replicate 4 0)) 37 := (Row.new' (by simp) rfl).alloc _
  have r4 : Row (((((w.alloc (Obj.cells ds.toArray 135)).alloc (Obj.cells #[Value.int IntKind.u64 0, Value.int IntKind.u64 0, Value.int IntKind.u64 0, Value.int IntKind.u64 0] 37)).alloc (Obj.cells #[Value.int IntKind.u64 0, Value.int IntKind.u64 0, Value.int IntKind.u64 0, Value.int IntKind.u64 0] 37)).alloc (Obj.cells #[Value.int IntKind.u64 0, Value.int IntKind.u64 0, Value.int IntKind.u64 0, Value.int IntKind.u64 0] 37)).alloc (Obj.cells #[Value.int IntKind.u64 0, Value.int IntKind.u64 0, Value.int IntKind.u64 0, Value.int IntKind.u64 0] 37)) (w.heap.size + 1 + 1 + 1 + 1) (vQ (List.replicate 4 0)) 37 := Row.new' (by simp) rfl
  generalize (((((w.alloc (Obj.cells ds.toArray 135)).alloc (Obj.cells #[Value.int IntKind.u64 0, Value.int IntKind.u64 0, Value.int IntKind.u64 0, Value.int IntKind.u64 0] 37)).alloc (Obj.cells #[Value.int IntKind.u64 0, Value.int IntKind.u64 0, Value.int IntKind.u64 0, Value.int IntKind.u64 0] 37)).alloc (Obj.cells #[Value.int IntKind.u64 0, Value.int IntKind.u64 0, Value.int IntKind.u64 0, Value.int IntKind.u64 0] 37)).alloc (Obj.cells #[Value.int IntKind.u64 0, Value.int IntKind.u64 0, Value.int IntKind.u64 0, Value.int IntKind.u64 0] 37)) = W0 at *
  have HS1 : Hid (∀ j v, lo[j]? = some v → (World.drew W0).cell? ((⟨w.heap.size, 0, none⟩ : Addr).add j) = some v) := by
    intro j v hv
    rw [Addr.add_mid]
    refine r0.all j v ?_
    rw [HLO.out] at hv
    have hj : j < 4 := by have := (List.getElem?_eq_some_iff.1 hv).1; rw [List.length_take] at this; omega
    rwa [List.getElem?_take_of_lt hj] at hv
  have HT1 : Hid ((World.drew W0).there (w.heap.size + 1 + 1 + 1) 0 lo.length) := Row.there (Row.drew r3) 0 _ (by rw [HLL.out]; exact Nat.le_refl 4)
  go_region_law (refine step_copy rfl (.tmp 6) (.tmp 7) 149 149 rfl 35 (w.heap.size + 1 + 1 + 1) 0 4 4 ⟨w.heap.size, 0, none⟩ 4 8 lo rfl rfl Tryz.underlying149 (by kernel_rfl) (by rw [HLL.out]; rfl) HS1.out HT1.out HO1.out ?_)
  have hb1 : Below w.heap.size w ((World.drew W0).setCells (w.heap.size + 1 + 1 + 1) 0 lo) := below_setCells (Below.drew hb0) (by omega) _
  have q0 : Row ((World.drew W0).setCells (w.heap.size + 1 + 1 + 1) 0 lo) w.heap.size ds 135 := Row.setCells_other (Row.drew r0) _ _ _ (by omega)
  have q1 : Row ((World.drew W0).setCells (w.heap.size + 1 + 1 + 1) 0 lo) (w.heap.size + 1) (vQ (List.replicate 4 0)) 37 := Row.setCells_other (Row.drew r1) _ _ _ (by omega)
  have q2 : Row ((World.drew W0).setCells (w.heap.size + 1 + 1 + 1) 0 lo) (w.heap.size + 1 + 1) (vQ (List.replicate 4 0)) 37 := Row.setCells_other (Row.drew r2) _ _ _ (by omega)
  have q3 : Row ((World.drew W0).setCells (w.heap.size + 1 + 1 + 1) 0 lo) (w.heap.size + 1 + 1 + 1) lo 37 := Row.over (Row.drew r3) (by rw [HLL.out]; rfl)
  have q4 : Row ((World.drew W0).setCells (w.heap.size + 1 + 1 + 1) 0 lo) (w.heap.size + 1 + 1 + 1 + 1) (vQ (List.replicate 4 0)) 37 := Row.setCells_other (Row.drew r4) _ _ _ (by omega)
  generalize (World.drew W0).setCells (w.heap.size + 1 + 1 + 1) 0 lo = W1 at *
  clear hb0 r0 r1 r2 r3 r4 HS1 HT1 W0
  have HS2 : Hid (∀ j v, hi[j]? = some v → (World.drew W1).cell? ((⟨w.heap.size, 4, none⟩ : Addr).add j) = some v) := by
    intro j v hv
    rw [Addr.add_mid]
    rw [HHI.out, List.getElem?_drop] at hv
    have := (Row.drew q0).cell (4 + j) v hv
    exact this
  have HT2 : Hid ((World.drew W1).there (w.heap.size + 1 + 1 + 1 + 1) 0 hi.length) := Row.there (Row.drew q4) 0 _ (by rw [HHL.out]; exact Nat.le_refl 4)
  go_wp2
  go_region_law (refine step_copy rfl (.tmp 9) (.tmp 10) 149 149 rfl 35 (w.heap.size + 1 + 1 + 1 + 1) 0 4 4 ⟨w.heap.size, 4, none⟩ 4 4 hi rfl rfl Tryz.underlying149 (by kernel_rfl) (by rw [HHL.out]; rfl) HS2.out HT2.out HO2.out ?_)
  have hb2 : Below w.heap.size w ((World.drew W1).setCells (w.heap.size + 1 + 1 + 1 + 1) 0 hi) := below_setCells (Below.drew hb1) (by omega) _
  have s1 : Row ((World.drew W1).setCells (w.heap.size + 1 + 1 + 1 + 1) 0 hi) (w.heap.size + 1) (vQ (List.replicate 4 0)) 37 := Row.setCells_other (Row.drew q1) _ _ _ (by omega)
  have s2 : Row ((World.drew W1).setCells (w.heap.size + 1 + 1 + 1 + 1) 0 hi) (w.heap.size + 1 + 1) (vQ (List.replicate 4 0)) 37 := Row.setCells_other (Row.drew q2) _ _ _ (by omega)
  have s3 : Row ((World.drew W1).setCells (w.heap.size + 1 + 1 + 1 + 1) 0 hi) (w.heap.size + 1 + 1 + 1) lo 37 := Row.setCells_other (Row.drew q3) _ _ _ (by omega)
  have s4 : Row ((World.drew W1).setCells (w.heap.size + 1 + 1 + 1 + 1) 0 hi) (w.heap.size + 1 + 1 + 1 + 1) hi 37 := Row.over (Row.drew q4) (by rw [HHL.out]; rfl)
  generalize (World.drew W1).setCells (w.heap.size + 1 + 1 + 1 + 1) 0 hi = W2 at *
  clear hb1 q0 q1 q2 q3 q4 HS2 HT2 W1
  go_wp2
  obtain ⟨x0, x1, x2, x3, hlo⟩ : ∃ x0 x1 x2 x3, lo = vQ [x0, x1, x2, x3] := ⟨_, _, _, _, HL4.out⟩
  obtain ⟨y0, y1, y2, y3, hhi⟩ : ∃ y0 y1 y2 y3, hi = vQ [y0, y1, y2, y3] := ⟨_, _, _, _, HH4.out⟩
  rw [hlo] at s3
  rw [hhi] at s4
  have c0 := s3.cell 0 _ rfl
  have c1 := s3.cell 1 _ rfl
  have c2 := s3.cell 2 _ rfl
  have c3 := s3.cell 3 _ rfl
  have d0 := s4.cell 0 _ rfl
  have d1 := s4.cell 1 _ rfl
  have d2 := s4.cell 2 _ rfl
  have d3 := s4.cell 3 _ rfl
  have e0 := s1.cell 0 _ rfl
  have e1 := s1.cell 1 _ rfl
  have e2 := s1.cell 2 _ rfl
  have e3 := s1.cell 3 _ rfl
  have f0 := s2.cell 0 _ rfl
  have f1 := s2.cell 1 _ rfl
  have f2 := s2.cell 2 _ rfl
  have f3 := s2.cell 3 _ rfl
  have k0 := s1.thaw 0
  have k1 := s1.thaw 1
  have k2 := s1.thaw 2
  have k3 := s1.thaw 3
  have l0 := s2.thaw 0
  have l1 := s2.thaw 1
  have l2 := s2.thaw 2
  have l3 := s2.thaw 3
  go_region
  have v1 := Row.drew (((((((((s1.set 0 (Value.int IntKind.u64 ((x0 : Nat) : Int))).set 1 (Value.int IntKind.u64 ((x1 : Nat) : Int))).set 2 (Value.int IntKind.u64 ((x2 : Nat) : Int))).set 3 (Value.int IntKind.u64 ((x3 : Nat) : Int))).set_other (w.heap.size + 1 + 1) 0 (Value.int IntKind.u64 ((y0 : Nat) : Int)) (by omega)).set_other (w.heap.size + 1 + 1) 1 (Value.int IntKind.u64 ((y1 : Nat) : Int)) (by omega)).set_other (w.heap.size + 1 + 1) 2 (Value.int IntKind.u64 ((y2 : Nat) : Int)) (by omega)).set_other (w.heap.size + 1 + 1) 3 (Value.int IntKind.u64 ((y3 : Nat) : Int)) (by omega)))
  have v2 := Row.drew (((((((((s2.set_other (w.heap.size + 1) 0 (Value.int IntKind.u64 ((x0 : Nat) : Int)) (by omega)).set_other (w.heap.size + 1) 1 (Value.int IntKind.u64 ((x1 : Nat) : Int)) (by omega)).set_other (w.heap.size + 1) 2 (Value.int IntKind.u64 ((x2 : Nat) : Int)) (by omega)).set_other (w.heap.size + 1) 3 (Value.int IntKind.u64 ((x3 : Nat) : Int)) (by omega)).set 0 (Value.int IntKind.u64 ((y0 : Nat) : Int))).set 1 (Value.int IntKind.u64 ((y1 : Nat) : Int))).set 2 (Value.int IntKind.u64 ((y2 : Nat) : Int))).set 3 (Value.int IntKind.u64 ((y3 : Nat) : Int))))
  have hb4 : Below w.heap.size w _ := Below.drew (((((((((hb2.setCell (p := ⟨w.heap.size + 1, 0, none⟩) (by simp) (Value.int IntKind.u64 ((x0 : Nat) : Int))).setCell (p := ⟨w.heap.size + 1, 1, none⟩) (by simp) (Value.int IntKind.u64 ((x1 : Nat) : Int))).setCell (p := ⟨w.heap.size + 1, 2, none⟩) (by simp) (Value.int IntKind.u64 ((x2 : Nat) : Int))).setCell (p := ⟨w.heap.size + 1, 3, none⟩) (by simp) (Value.int IntKind.u64 ((x3 : Nat) : Int))).setCell (p := ⟨w.heap.size + 1 + 1, 0, none⟩) (by simp; omega) (Value.int IntKind.u64 ((y0 : Nat) : Int))).setCell (p := ⟨w.heap.size + 1 + 1, 1, none⟩) (by simp; omega) (Value.int IntKind.u64 ((y1 : Nat) : Int))).setCell (p := ⟨w.heap.size + 1 + 1, 2, none⟩) (by simp; omega) (Value.int IntKind.u64 ((y2 : Nat) : Int))).setCell (p := ⟨w.heap.size + 1 + 1, 3, none⟩) (by simp; omega) (Value.int IntKind.u64 ((y3 : Nat) : Int))))
  clear c0 c1 c2 c3 d0 d1 d2 d3 e0 e1 e2 e3 f0 f1 f2 f3 k0 k1 k2 k3 l0 l1 l2 l3 s1 s2 s3 s4 hb2
  go_wp2
  exact bodyPost_ret (results_rows Tryz.results94 _ _ (w.heap.size + 1) (w.heap.size + 1 + 1) 37 37 lo hi rfl rfl (by rw [hlo]; exact v1) (by rw [hhi]; exact v2) Tryz.underlying37 info_w4 HLL.out Tryz.underlying37 info_w4 HHL.out) rfl ⟨rfl, hb4⟩

end Go.Proofs.YtclbiophgnkggaaGreatDoor
