/-
  wide.halves, wide.Mul, wide.Cmp.
-/
import Derived.Test.YtkbdnebmekhcdaaWEq
import Derived.Deep.RegionLaw
namespace Go.Proofs.Ytkbdnebmekhcdaa
open Go Go.RowKit
open Wd

/-- A call of a Go function, as one step of a region that draws. -/
theorem step_fcall {P : Program} {ops : Array Oper} {o : Oper} {a : Act} {w : World} {K : Act → World → Prop} {Q : Exit → Act → World → Prop} {E : Prop} (hg : o.guard = none) (f : FuncId) (args : Array Value) (h : (execOp a.eval o).run P w = .ok (.enter f args) w)
    (hc : Calls P f args w fun e w' => ∃ v, e = .returned v ∧ K (a.put o.dst v) w') : if Region.wanted o (yielded ops a.tmps) = true then Oper.wp P o a w K Q else E := by
  have hw : Region.wanted o (yielded ops a.tmps) = true := by simp [Region.wanted, hg]
  rw [if_pos hw]
  unfold Oper.wp
  rw [h]
  exact hc.mono (fun e w' hk => by obtain ⟨v, he, hk⟩ := hk; subst he; exact hk)
/-- copy, as one step of a region that draws. -/
theorem step_copy {P : Program} {ops : Array Oper} {op : Oper} {a : Act} {w : World} {K : Act → World → Prop} {Q : Exit → Act → World → Prop} {E : Prop} (hgd : op.guard = none) (x y : Operand) (dT sT : TypeId) (ho : op.op = .call { callee := .builtin .copy, args := #[x, y], argTypes := #[dT, sT] })
    (elem : TypeId) (b o dLen dCap : Nat) (adr : Addr) (sLen sCap : Nat) (cs : List Value)
    (hx : a.eval x = .slice (some ⟨b, o, none⟩) dLen dCap) (hy : a.eval y = .slice (some adr) sLen sCap)
    (hu : P.underlying dT = some (.slice elem)) (hs : (P.info? elem).map (·.size) = some 1) (hn : cs.length = Nat.min sLen dLen)
    (hsrc : ∀ j v, cs[j]? = some v → w.cell? (adr.add j) = some v) (ht : w.there b o cs.length) (h1 : ∀ v ∈ cs, v.oneCell' = true)
    (h : K (a.put op.dst (goInt cs.length)) (w.setCells b o cs)) : if Region.wanted op (yielded ops a.tmps) = true then Oper.wp P op a w K Q else E := by
  have hw : Region.wanted op (yielded ops a.tmps) = true := by simp [Region.wanted, hgd]
  rw [if_pos hw]
  obtain ⟨dst, op', ty, pos, after, guard⟩ := op
  simp only at hgd ho
  subst hgd; subst ho
  have hr := run_copy_cells (P := P) w dT sT ty elem b o dLen dCap adr sLen sCap cs hu hs hn hsrc (fun j hj => (ht j hj).1) (fun j hj => (ht j hj).2) h1
  unfold Oper.wp
  rw [BigFrame.execOp_builtin, BigFrame.builtin_copy]
  simp only [List.map_toArray, List.map_cons, List.map_nil, hx, hy, Sem.run_bind, hr, Result.andThen_ok, Sem.run_pure, Oper.upon_value]
  exact h

theorem results_rows {P : Program} {fn : Func} {p q : Tmp} {ty tz : TypeId} {n m : Nat} {e e' : TypeId} (h : fn.results = #[.cell p ty, .cell q tz]) (tmps : Array Value) (w : World) (g g' : Nat) (t t' : TypeId) (cs ds : List Value)
    (hp : tmps.getD p undef = .pointer (some ⟨g, 0, none⟩)) (hq : tmps.getD q undef = .pointer (some ⟨g', 0, none⟩)) (hg : Row w g cs t) (hg' : Row w g' ds t') (hu : P.underlying ty = some (.array n e)) (hi : (P.info? ty).map (·.size) = some n) (hl : cs.length = n) (hu' : P.underlying tz = some (.array m e')) (hi' : (P.info? tz).map (·.size) = some m) (hl' : ds.length = m) :
    (results fn tmps).run P w = .ok (.tuple #[.agg cs.toArray, .agg ds.toArray]) w := by
  have hp' : tmps[p]?.getD undef = .pointer (some ⟨g, 0, none⟩) := by simpa using hp
  have hq' : tmps[q]?.getD undef = .pointer (some ⟨g', 0, none⟩) := by simpa using hq
  have hr := run_loadVar_row (P := P) w g t ty cs.toArray (0, 0) (.array n e) hg hu rfl (by simp [hi, hl])
  have hr' := run_loadVar_row (P := P) w g' t' tz ds.toArray (0, 0) (.array m e') hg' hu' rfl (by simp [hi', hl'])
  simp [results, h, hp', hq', asAddr, hr, hr']

theorem dgs_take (n : Nat) : (dgs n 8).take 4 = dgs n 4 := by
  unfold dgs; rw [← List.map_take, List.take_range]; rfl
theorem dgs_drop (n : Nat) : (dgs n 8).drop 4 = dgs (n / 2 ^ 256) 4 := by
  have e : ∀ i, lim n (4 + i) = lim (n / 2 ^ 256) i := fun i => by
    unfold lim
    rw [show 64 * (4 + i) = 256 + 64 * i by omega, Nat.pow_add, Nat.div_div_eq_div_mul]
  show [lim n 4, lim n 5, lim n 6, lim n 7] = [lim (n / 2 ^ 256) 0, lim (n / 2 ^ 256) 1, lim (n / 2 ^ 256) 2, lim (n / 2 ^ 256) 3]
  rw [← e 0, ← e 1, ← e 2, ← e 3]

end Go.Proofs.Ytkbdnebmekhcdaa
