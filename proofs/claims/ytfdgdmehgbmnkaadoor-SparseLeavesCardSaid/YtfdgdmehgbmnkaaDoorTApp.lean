/-
  A list of one digest built; lists of digests grown: as a region that draws its order meets them.
-/
import Derived.Test.YtfdgdmehgbmnkaaDoorTEq
import Derived.Maps.AppendAt

namespace Go.Proofs.YtfdgdmehgbmnkaaDoor
open Go Go.RowKit
open Sha

theorem und_u8 : Tryd.prog.underlying 5 = some (.int .u8) := Tryd.underlying5

end Go.Proofs.YtfdgdmehgbmnkaaDoor

namespace Go.Proofs.YtfdgdmehgbmnkaaDoor
open Go Go.RowKit
open Sha

end Go.Proofs.YtfdgdmehgbmnkaaDoor

namespace Go.Proofs.YtfdgdmehgbmnkaaDoor
open Go Go.RowKit
open Sha

theorem info_all_d : (Tryd.prog.info? 29).map (fun i => (i.size, i.bytes)) = some (32, 32) := by kernel_rfl
theorem info_zero_d : ((Tryd.prog.info? 29).bind (·.zero)).map (·.cells.size) = some 32 := by kernel_rfl
theorem info_d_open : ∃ ie z, Tryd.prog.info? 29 = some ie ∧ ie.zero = some z ∧ ie.size = 32 ∧ ie.bytes = 32 ∧ z.cells.size = 32 := by
  have i1 := info_all_d
  have i2 := info_zero_d
  cases hi : Tryd.prog.info? 29 with
  | none => rw [hi] at i1; cases i1
  | some ie =>
    rw [hi] at i1 i2
    cases hz : ie.zero with
    | none => simp [hz] at i2
    | some z =>
      have i3 : ie.size = 32 ∧ ie.bytes = 32 := by simpa using i1
      exact ⟨ie, z, rfl, hz, i3.1, i3.2, by simpa [hz] using i2⟩

/-- One part of s cells, laid into s cells. -/
theorem fill_one (s : Nat) (hs : 0 < s) (c cells : Array Value) (hc : c.size = s) (hn : cells.size = s) : Instr.fill (fun i => some (i * s, s)) cells [(0, .agg c)] = some c := by
  obtain ⟨r, hr, hsz, hk⟩ := Great.fill_dense (s := s) hs [.agg c] 0 cells (fun v hv => by obtain rfl := List.mem_singleton.1 hv; exact hc) (by simp; omega)
  have hr' : Instr.fill (fun i => some (i * s, s)) cells [(0, .agg c)] = some r := hr
  rw [hr']
  congr 1
  apply Array.ext_getElem?
  intro k
  rw [hk k]
  by_cases hlt : k < s
  · rw [if_pos (by simp; omega), Nat.div_eq_of_lt hlt, Nat.mod_eq_of_lt hlt]
    rfl
  · rw [if_neg (by simp; omega), Array.getElem?_eq_none (by omega), Array.getElem?_eq_none (by omega)]

section
variable {Q : Exit → Act → World → Prop} {o : Oper} {a : Act} {w : World} {K : Act → World → Prop}
theorem wp_build_d (x : Operand) (ho : o.op = .buildSlice 30 1 #[(0, x)]) (r : List (BitVec 8)) (hr : r.length = 32) (hx : a.eval x = .agg (vB r).toArray)
    (h : K (a.put o.dst (.slice (some ⟨w.heap.size, 0, none⟩) 1 1)) (w.alloc (.cells (vB r).toArray 29))) : Oper.wp Tryd.prog o a w K Q := by
  obtain ⟨ie, z, h1, h2, h3, _, h4⟩ := info_d_open
  refine wp_buildSlice 30 29 1 _ ho _ ie z Tryd.underlying30 h1 h2 (by rw [h3]; decide) (by rw [h3]; decide) ?_ h
  rw [show (Array.map (fun (p : Nat × Operand) => match p with | (i, x) => (i, a.eval x)) #[(0, x)]).toList = [(0, a.eval x)] by simp, hx, h3]
  exact fill_one 32 (by decide) _ _ (by simp [vB_length, hr]) (by simp)
theorem wp_append_d (s x : Operand) (ho : o.op = .call { callee := .builtin .append, args := #[s, x], argTypes := #[30, 30] }) (M N n : Nat) (v : Value) (l : List Value) (r : List (BitVec 8)) (hr0 : r.length = 32)
    (hown : w.ownsRow M 29 32 v n l) (hs : a.eval s = v) (hx : a.eval x = .slice (some ⟨N, 0, none⟩) 1 1) (hN : Row w N (vB r) 29) (hk : (n + 1) * 32 ≤ 140737488355328) (hM : M ≤ w.heap.size)
    (h : ∀ v' w', w'.ownsRow M 29 32 v' (n + 1) (l ++ vB r) → w.grownBy w' v.ownBlock → K (a.put o.dst v') w') : Oper.wp Tryd.prog o a w K Q := by
  obtain ⟨ie, z, h1, h2, h3, h5, h4⟩ := info_d_open
  have hcell := hN.all
  obtain ⟨v', w', hr, q2, q3, _, _⟩ := run_append_own_at (P := Tryd.prog) w M 30 o.type 29 ie z 32 32 Tryd.underlying30 h1 h2 h3 h5 h4 (by decide) v n l hown ⟨N, 0, none⟩ 1 1 (vB r) (by rw [vB_length, hr0])
    (fun j u hj => by rw [Addr.add_mid]; exact hcell j u hj) (vB_one r) (by unfold maxLen; omega) hk hM
  unfold Oper.wp execOp
  simp only [ho, resolve, invoke, builtin, Sem.run_bind, Sem.run_pure, Result.andThen_ok, List.map_toArray, List.map_cons, List.map_nil, hs, hx, hr]
  exact h v' w' q2 q3
end

end Go.Proofs.YtfdgdmehgbmnkaaDoor
