/-
  the ladder: Post.
-/
import Derived.Test.YtddkmpbcjieolaaLaH
import Derived.Deep.CutRange
import Derived.BigQuiet
namespace Go.Proofs.Ytddkmpbcjieolaa
open Go Go.RowKit
open Sha

def La.newP (st : La) (c : Cm) (ad : List (BitVec 8)) (now : Int) : Pn := ⟨st.given + 1, c, ad, now, now + st.win, 0⟩
def La.post (st : La) (c : Cm) (ad : List (BitVec 8)) (inbox now : Int) : La × Int × Int :=
  if (tmB now && decide (st.last ≤ now)) = false then (st, 0, 168)
  else if 4611686018427387904 - st.win < now then (st, 0, 168)
  else if folB c st.top = false then (st, 0, 161)
  else if inbox < c.n then (st, 0, 162)
  else if 32 ≤ st.pend.length then (st, 0, 163)
  else ({ st with last := now, given := st.given + 1, pend := st.pend ++ [st.newP c ad now] }, st.given + 1, 0)
theorem La.post_ok {B : Int} {st : La} (h : st.Ok B) {c : Cm} {ad : List (BitVec 8)} {now : Int} (h0 : 0 ≤ now) (h1 : now ≤ 4611686018427387904) (hc : c.Wf) (hm : c.May) (ha : ad.length = 20) (hl : st.pend.length < 32) (hB : 0 ≤ B) : La.Ok (B + 1) { st with last := now, given := st.given + 1, pend := st.pend ++ [st.newP c ad now] } := by
  have hg := h.g0
  have hg1 := h.g1
  refine ⟨h.w1, h.w2, h0, h1, by show 0 ≤ st.given + 1; omega, by show st.given + 1 ≤ B + 1; omega, h.cf, h.cm, fun p hp => ?_, fun p hp => ?_, fun p hp => ?_, by show (st.pend ++ [st.newP c ad now]).length ≤ 32; rw [List.length_append, List.length_singleton]; omega⟩
  · rcases List.mem_append.1 hp with q | q
    · exact h.pw p q
    · obtain rfl := List.mem_singleton.1 q; exact ⟨hc, ha⟩
  · rcases List.mem_append.1 hp with q | q
    · exact h.pm p q
    · obtain rfl := List.mem_singleton.1 q; exact hm
  · rcases List.mem_append.1 hp with q | q
    · have := h.pd p q; exact ⟨this.1, by omega⟩
    · obtain rfl := List.mem_singleton.1 q; exact ⟨Int.le_refl _, by show (0 : Int) ≤ B + 1; omega⟩
theorem fill_oneL (s : Nat) (hs : 0 < s) (c cells : Array Value) (hc : c.size = s) (hn : cells.size = s) : Instr.fill (fun i => some (i * s, s)) cells [(0, .agg c)] = some c := by
  obtain ⟨r, hr, hsz, hk⟩ := Great.fill_dense (s := s) hs [.agg c] 0 cells (fun v hv => by obtain rfl := List.mem_singleton.1 hv; exact hc) (by simp; omega)
  have hr' : Instr.fill (fun i => some (i * s, s)) cells [(0, .agg c)] = some r := hr
  rw [hr']
  congr 1
  apply Array.ext_getElem?
  intro k
  rw [hk k]
  by_cases hlt : k < s
  · rw [if_pos (by simp; omega), Nat.div_eq_of_lt hlt, Nat.mod_eq_of_lt hlt]
    rfl
  · rw [if_neg (by simp; omega), Array.getElem?_eq_none (by omega), Array.getElem?_eq_none (by omega)]
section
variable {Q : Exit → Act → World → Prop} {o : Oper} {a : Act} {w : World} {K : Act → World → Prop}
theorem wp_nilL {x : Operand} (ho : o.op = .nilCheck x) (B : Nat) (hx : a.eval x = .pointer (some ⟨B, 0, none⟩)) (h : K (a.put o.dst (.pointer (some ⟨B, 0, none⟩))) w) : Oper.wp Try.prog o a w K Q := by
  unfold Oper.wp execOp
  simp only [ho, hx]
  go_simp
  exact h
theorem ld_int (w : World) (b f : Nat) (v : Value) (h : w.cell? ⟨b, f, none⟩ = some v) : (loadVar 3 ⟨b, f, none⟩).run Try.prog w = .ok v w := by
  simp [loadVar, isAgg, run_underlying Try.underlying3, h]
theorem wp_ld1 {ty : TypeId} {x : Operand} (b f : Nat) (v : Value) (ho : o.op = .load ty x) (hx : a.eval x = .pointer (some ⟨b, f, none⟩)) (hr : (loadVar ty ⟨b, f, none⟩).run Try.prog w = .ok v w) (h : K (a.put o.dst v) w) : Oper.wp Try.prog o a w K Q := by
  unfold Oper.wp execOp
  simp only [ho, hx, Instr.loadAt, Instr.sureAddr, Sem.run_bind, Sem.run_pure, Result.andThen_ok, hr, Oper.upon_value]
  exact h
theorem wp_addI {x y : Operand} {t yt : TypeId} (ho : o.op = .binOp .add t x y yt) (ht : t = 3) (u z r : Int) (hx : a.eval x = .int .i64 u) (hy : a.eval y = .int .i64 z) (hr : IntKind.i64.wrap (u + z) = r) (h : K (a.put o.dst (.int .i64 r)) w) : Oper.wp Try.prog o a w K Q := by
  subst ht
  unfold Oper.wp execOp
  simp only [ho, hx, hy]
  simp [go_sem, hr]
  exact h
theorem wp_notL {x : Operand} {t : TypeId} (ho : o.op = .unOp .not t x) (b : Bool) (hx : a.eval x = .bool b) (h : K (a.put o.dst (.bool (!b))) w) : Oper.wp Try.prog o a w K Q := by
  unfold Oper.wp execOp
  simp only [ho, hx]
  simp [go_sem]
  exact h
theorem wp_blt (ty : TypeId) (parts : Array (Nat × Operand)) (ho : o.op = .build ty parts) (vals : List (Nat × Value)) (hv : (parts.toList.map fun (p : Nat × Operand) => match p with | (i, x) => (i, a.eval x)) = vals) (L : List Value) (hr : Try.prog.built ty vals = some L.toArray) (h : K (a.put o.dst (.agg L.toArray)) w) : Oper.wp Try.prog o a w K Q := by
  have hr := run_build (P := Try.prog) w ty vals.toArray _ hr
  have hv2 : (parts.map fun (p : Nat × Operand) => match p with | (i, x) => (i, a.eval x)) = vals.toArray := by
    apply Array.toList_inj.1
    rw [Array.toList_map]
    exact hv
  unfold Oper.wp execOp
  simp only [ho, hv2, Sem.run_bind, hr, Result.andThen_ok, Sem.run_pure, Oper.upon_value]
  exact h
theorem wp_set1L (ty : TypeId) (x y : Operand) (ho : o.op = .store ty x y)
    (b i : Nat) (v : Value) (cs : List Value) (t : TypeId) (hx : a.eval x = .pointer (some ⟨b, i, none⟩)) (hy : a.eval y = v) (hcs : v.cells = #[v]) (r : Row w b cs t) (hl : i < cs.length) (hi : (Try.prog.info? ty).map (·.size) = some 1) (h1 : v.oneCell' = true)
    (h : ∀ X, Row X b (cs.set i v) t → Gro (· = b) w X → K (a.put o.dst undef) X) : Oper.wp Try.prog o a w K Q := by
  have ht := r.there i 1 (by omega)
  have hr : (storeVar ty ⟨b, i, none⟩ v).run Try.prog w = .ok () (w.setCell ⟨b, i, none⟩ v) := by
    have := run_storeCells_cells (P := Try.prog) b i [v] 0 w (fun j hj => by simpa using (ht j (by simpa using hj)).1) (fun j hj => by simpa using (ht j (by simpa using hj)).2) (fun u hu => by simp at hu; rw [hu]; exact h1)
    cases hq : Try.prog.info? ty with
    | none => simp [hq] at hi
    | some ie =>
      have hs : ie.size = 1 := by simpa [hq] using hi
      simp only [Nat.add_zero, World.setCells] at this
      simp [storeVar, sizeOf, typeInfo, hq, hcs, hs, this]
  unfold Oper.wp execOp
  simp only [ho, hx, hy, Instr.storeAt, Instr.sureAddr, Sem.run_bind, Sem.run_pure, Result.andThen_ok, hr]
  exact h _ (r.set i v) ((Gro.refl _ _).set b i v rfl)
end
theorem Lo.gb {w w' : World} {v u : Value} {e : TypeId} {s n : Nat} {xs : List Value} (h : Lo w e s v n xs) (k : w.grownBy w' u.ownBlock) (hR : ∀ g, v.ownBlock = some g → some g ≠ u.ownBlock) : Lo w' e s v n xs := Lo.block h fun g e => k.block g (Lo.lt h g e) (hR g e)
end Go.Proofs.Ytddkmpbcjieolaa
