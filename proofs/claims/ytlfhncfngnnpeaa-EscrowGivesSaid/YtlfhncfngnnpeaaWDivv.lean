/-
  wide.Div, wide.MulDiv.
-/
import Derived.Test.YtlfhncfngnnpeaaWDvd
import Derived.Test.YtlfhncfngnnpeaaWMul
namespace Go.Proofs.Ytlfhncfngnnpeaa
open Go Go.RowKit
open Wd
namespace Wd
def divQ (a b : Nat) : Nat := if b = 0 then 0 else a / b
def divR (a b : Nat) : Nat := if b = 0 then 0 else a % b
def divE (b : Nat) : Int := if b = 0 then 24 else 0
def mdR (a b c : Nat) : Nat := if c = 0 then 0 else if a * b / c < 2 ^ 256 then a * b / c else 0
def mdE (a b c : Nat) : Int := if c = 0 then 24 else if a * b / c < 2 ^ 256 then 0 else 22
end Wd
theorem wp_alloc4 {o : Oper} {a : Act} {w : World} {K : Act → World → Prop} {Q : Exit → Act → World → Prop} (ho : o.op = .alloc 33) (h : K (a.put o.dst (.pointer (some ⟨w.heap.size, 0, none⟩))) (w.alloc (.cells (vQ (List.replicate 4 0)).toArray 33))) : Oper.wp Try.prog o a w K Q := by
  obtain ⟨dst, op, ty, pos, after, guard⟩ := o
  simp only at ho
  subst ho
  unfold Oper.wp
  go_simp
  exact h
theorem results_rows_tmp {P : Program} {fn : Func} {p q r : Tmp} {ty tz : TypeId} {n m : Nat} {e e' : TypeId} (h : fn.results = #[.cell p ty, .cell q tz, .tmp r]) (tmps : Array Value) (w : World) (g g' : Nat) (t t' : TypeId) (cs ds : List Value) (v : Value)
    (hp : tmps.getD p undef = .pointer (some ⟨g, 0, none⟩)) (hq : tmps.getD q undef = .pointer (some ⟨g', 0, none⟩)) (hv : tmps.getD r undef = v) (hg : Row w g cs t) (hg' : Row w g' ds t') (hu : P.underlying ty = some (.array n e)) (hi : (P.info? ty).map (·.size) = some n) (hl : cs.length = n) (hu' : P.underlying tz = some (.array m e')) (hi' : (P.info? tz).map (·.size) = some m) (hl' : ds.length = m) :
    (results fn tmps).run P w = .ok (.tuple #[.agg cs.toArray, .agg ds.toArray, v]) w := by
  have hp' : tmps[p]?.getD undef = .pointer (some ⟨g, 0, none⟩) := by simpa using hp
  have hq' : tmps[q]?.getD undef = .pointer (some ⟨g', 0, none⟩) := by simpa using hq
  have hv' : tmps[r]?.getD undef = v := by simpa using hv
  have hr := run_loadVar_row (P := P) w g t ty cs.toArray (0, 0) (.array n e) hg hu rfl (by simp [hi, hl])
  have hr' := run_loadVar_row (P := P) w g' t' tz ds.toArray (0, 0) (.array m e') hg' hu' rfl (by simp [hi', hl'])
  simp [results, h, hp', hq', hv', asAddr, hr, hr']

end Go.Proofs.Ytlfhncfngnnpeaa
