/-
  Loads and fields, as a region that draws its order meets them.
-/
import Derived.Test.YtnogjhbohljjnaaDoorTLp2
import Derived.Test.YtnogjhbohljjnaaDoorTRck
namespace Go.Proofs.YtnogjhbohljjnaaDoor
open Go Go.RowKit
open Sha

theorem run_load_b (w : World) (b f : Nat) (v : Value) (h : w.cell? ⟨b, f, none⟩ = some v) : (loadVar 22 ⟨b, f, none⟩).run Tryd.prog w = .ok v w := by
  simp [loadVar, isAgg, run_underlying Tryd.underlying22, h]
theorem run_load_i (w : World) (b f : Nat) (v : Value) (h : w.cell? ⟨b, f, none⟩ = some v) : (loadVar 3 ⟨b, f, none⟩).run Tryd.prog w = .ok v w := by
  simp [loadVar, isAgg, run_underlying Tryd.underlying3, h]
theorem run_load_ds (w : World) (b f : Nat) (v : Value) (h : w.cell? ⟨b, f, none⟩ = some v) : (loadVar 42 ⟨b, f, none⟩).run Tryd.prog w = .ok v w := by
  simp [loadVar, isAgg, run_underlying Tryd.underlying42, h]
section
variable {Q : Exit → Act → World → Prop} {o : Oper} {a : Act} {w : World} {K : Act → World → Prop}
theorem wp_len_b {x : Operand} (A : Option Addr) (n cap : Nat) (ho : o.op = .call { callee := .builtin .len, args := #[x], argTypes := #[22] }) (hx : a.eval x = .slice A n cap) (h : K (a.put o.dst (.int .i64 (n : Int))) w) : Oper.wp Tryd.prog o a w K Q :=
  wp_len_s 22 5 A n cap ho Tryd.underlying22 hx h
theorem wp_len_ds {x : Operand} (A : Option Addr) (n cap : Nat) (ho : o.op = .call { callee := .builtin .len, args := #[x], argTypes := #[42] }) (hx : a.eval x = .slice A n cap) (h : K (a.put o.dst (.int .i64 (n : Int))) w) : Oper.wp Tryd.prog o a w K Q :=
  wp_len_s 42 24 A n cap ho Tryd.underlying42 hx h
end
theorem Given.be {w w' : World} (h : Given w) (k : Below w.heap.size w w') : Given w' := h.low k
theorem PAt.be {w w' : World} {v : Value} {ds : List (List (BitVec 8))} (h : PAt w v ds) (k : Below w.heap.size w w') : PAt w' v ds := h.below k

end Go.Proofs.YtnogjhbohljjnaaDoor
