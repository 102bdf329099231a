/-
  Check's refusals of a size and of an index.
-/
import Derived.Test.YtkgfaioinajkjaaDoorTEq

namespace Go.Proofs.YtkgfaioinajkjaaDoor
open Go Go.RowKit
open Sha

theorem und_u8 : Tryd.prog.underlying 5 = some (.int .u8) := Tryd.underlying5

end Go.Proofs.YtkgfaioinajkjaaDoor

namespace Go.Proofs.YtkgfaioinajkjaaDoor
open Go Go.RowKit
open Sha

set_option maxRecDepth 100000 in
set_option maxHeartbeats 1000000 in
theorem check_small (n i : Int) (hn : n < 1) (root : List (BitVec 8)) (lv v : Value) (w : World) :
    Calls Tryd.prog 24 #[.agg (vB root).toArray, .int .i64 n, .int .i64 i, lv, v] w fun e w' => e = .returned (.int .i64 40) ∧ Below w.heap.size w w' := by
  have hb1 : Below w.heap.size w (w.alloc (Obj.cells (vB root).toArray 42)) := (Below.refl _ _).alloc (Nat.le_refl _) _
  go_enter Tryd.func24, Tryd.ntmps24
  go_wp2_with fail
  go_ret
  exact ⟨rfl, hb1⟩
set_option maxRecDepth 100000 in
set_option maxHeartbeats 1000000 in
theorem check_great (n i : Int) (hn : 1099511627776 < n) (root : List (BitVec 8)) (lv v : Value) (w : World) :
    Calls Tryd.prog 24 #[.agg (vB root).toArray, .int .i64 n, .int .i64 i, lv, v] w fun e w' => e = .returned (.int .i64 40) ∧ Below w.heap.size w w' := by
  have hb1 : Below w.heap.size w (w.alloc (Obj.cells (vB root).toArray 42)) := (Below.refl _ _).alloc (Nat.le_refl _) _
  have c1 : ¬ n < 1 := by omega
  have c2 : ¬ n ≤ 1099511627776 := by omega
  have c3 : decide (1099511627776 < n) = true := decide_eq_true hn
  go_enter Tryd.func24, Tryd.ntmps24
  go_wp2_with fail
  go_ret
  exact ⟨rfl, hb1⟩
set_option maxRecDepth 100000 in
set_option maxHeartbeats 1000000 in
theorem check_below (n i : Int) (h1 : 1 ≤ n) (hn : n ≤ 1099511627776) (hi : i < 0) (root : List (BitVec 8)) (lv v : Value) (w : World) :
    Calls Tryd.prog 24 #[.agg (vB root).toArray, .int .i64 n, .int .i64 i, lv, v] w fun e w' => e = .returned (.int .i64 41) ∧ Below w.heap.size w w' := by
  have hb1 : Below w.heap.size w (w.alloc (Obj.cells (vB root).toArray 42)) := (Below.refl _ _).alloc (Nat.le_refl _) _
  have c1 : ¬ n < 1 := by omega
  have c2 : ¬ 1099511627776 < n := by omega
  have c3 : decide (1099511627776 < n) = false := decide_eq_false c2
  clear h1
  go_enter Tryd.func24, Tryd.ntmps24
  go_wp2_with fail
  go_ret
  exact ⟨rfl, hb1⟩
set_option maxRecDepth 100000 in
set_option maxHeartbeats 1000000 in
theorem check_above (n i : Int) (h1 : 1 ≤ n) (hn : n ≤ 1099511627776) (hi : n ≤ i) (root : List (BitVec 8)) (lv v : Value) (w : World) :
    Calls Tryd.prog 24 #[.agg (vB root).toArray, .int .i64 n, .int .i64 i, lv, v] w fun e w' => e = .returned (.int .i64 41) ∧ Below w.heap.size w w' := by
  have hb1 : Below w.heap.size w (w.alloc (Obj.cells (vB root).toArray 42)) := (Below.refl _ _).alloc (Nat.le_refl _) _
  have c1 : ¬ n < 1 := by omega
  have c2 : ¬ 1099511627776 < n := by omega
  have c3 : decide (1099511627776 < n) = false := decide_eq_false c2
  have c4 : ¬ i < 0 := by omega
  clear h1
  go_enter Tryd.func24, Tryd.ntmps24
  go_wp2_with fail
  go_ret
  exact ⟨rfl, hb1⟩

end Go.Proofs.YtkgfaioinajkjaaDoor
