/-
  Small laws on rows of cells in memory, in the forms that the walks meet.
-/
import Derived.WalkKit
import Derived.Deep.Draws
import Derived.Deep.MidRow
import Derived.Test.YtfdgdmehgbmnkaaDoorSha
namespace Go.Proofs.YtfdgdmehgbmnkaaDoor
open Go Go.RowKit
open Sha

/-- The cells of block b. -/
def Row (w : World) (b : Nat) (cs : List Value) (t : TypeId) : Prop := w.heap[b]? = some (.cells cs.toArray t)

theorem Row.cell {w : World} {b : Nat} {cs : List Value} {t : TypeId} (h : Row w b cs t) (i : Nat) (v : Value) (hv : cs[i]? = some v) : w.cell? ⟨b, i, none⟩ = some v := by
  rw [cell_of_row w b i cs.toArray t (0, 0) h]; simpa using hv
theorem Row.thaw {w : World} {b : Nat} {cs : List Value} {t : TypeId} (h : Row w b cs t) (i : Nat) : w.frozen? ⟨b, i, none⟩ = false := frozen_of_row w b i cs.toArray t h
theorem Row.lt {w : World} {b : Nat} {cs : List Value} {t : TypeId} (h : Row w b cs t) : b < w.heap.size := (Array.getElem?_eq_some_iff.1 h).1
theorem Row.drewN {w : World} {b : Nat} {cs : List Value} {t : TypeId} (h : Row w b cs t) (n : Nat) : Row (w.drewN n) b cs t := h
theorem Row.drew {w : World} {b : Nat} {cs : List Value} {t : TypeId} (h : Row w b cs t) : Row w.drew b cs t := h
theorem below_drewN {B : Nat} {a w : World} (h : Below B a w) (n : Nat) : Below B a (w.drewN n) := ⟨h.os, h.tape, h.output, h.size, h.block⟩
theorem Row.alloc {w : World} {b : Nat} {cs : List Value} {t : TypeId} (h : Row w b cs t) (o : Obj) : Row (w.alloc o) b cs t := by
  unfold Row; rw [Below.heap_alloc _ _ _ h.lt]; exact h
theorem Row.new (w : World) (cs : List Value) (t : TypeId) : Row (w.alloc (.cells cs.toArray t)) w.heap.size cs t := by
  show (w.heap.push _)[w.heap.size]? = _; simp
theorem Row.new' {w : World} {o : Array Value} {t : TypeId} {b : Nat} {cs : List Value} (hb : b = w.heap.size) (ho : o = cs.toArray) : Row (w.alloc (.cells o t)) b cs t := by
  subst hb; subst ho; exact Row.new w cs t
theorem Row.below {B : Nat} {w w' : World} {b : Nat} {cs : List Value} {t : TypeId} (h : Row w b cs t) (k : Below B w w') (hb : b < B) : Row w' b cs t := (k.block b hb).trans h
theorem Row.set {w : World} {b : Nat} {cs : List Value} {t : TypeId} (h : Row w b cs t) (i : Nat) (v : Value) : Row (w.setCell ⟨b, i, none⟩ v) b (cs.set i v) t := by
  unfold Row; rw [heap_setCell_same w b i cs.toArray t v h]; simp
theorem Row.set_other {w : World} {b : Nat} {cs : List Value} {t : TypeId} (h : Row w b cs t) (b' i : Nat) (v : Value) (hb : b ≠ b') : Row (w.setCell ⟨b', i, none⟩ v) b cs t := by
  unfold Row; rw [Below.heap_setCell _ _ _ _ hb]; exact h
theorem Row.range {w : World} {b : Nat} {cs : List Value} {t : TypeId} (h : Row w b cs t) (o : Nat) (l : List Value) (hl : ∀ j v, l[j]? = some v → cs[o + j]? = some v) : w.rangeAt b o l :=
  fun j v hv => h.cell _ _ (hl j v hv)
theorem Row.all {w : World} {b : Nat} {cs : List Value} {t : TypeId} (h : Row w b cs t) : w.rangeAt b 0 cs := h.range 0 cs (fun j v hv => by simpa using hv)
theorem Row.there {w : World} {b : Nat} {cs : List Value} {t : TypeId} (h : Row w b cs t) (o n : Nat) (hn : o + n ≤ cs.length) : w.there b o n := fun j hj =>
  ⟨by rw [h.cell (o + j) _ (List.getElem?_eq_getElem (by omega))]; rfl, h.thaw _⟩
theorem below_setCells {B : Nat} {a w : World} (h : Below B a w) {b o : Nat} (hb : B ≤ b) (vs : List Value) : Below B a (w.setCells b o vs) := by
  induction vs generalizing w o with
  | nil => exact h
  | cons v r ih => exact ih (h.setCell (p := ⟨b, o, none⟩) hb v)
theorem size_setCells (w : World) (b o : Nat) (vs : List Value) : (w.setCells b o vs).heap.size = w.heap.size := by
  induction vs generalizing w o with
  | nil => rfl
  | cons v r ih => rw [World.setCells, ih]; simp [World.setCell]
theorem Row.setCells_other {w : World} {b : Nat} {cs : List Value} {t : TypeId} (h : Row w b cs t) (b' o : Nat) (vs : List Value) (hb : b ≠ b') : Row (w.setCells b' o vs) b cs t := by
  induction vs generalizing w o with
  | nil => exact h
  | cons v r ih => exact ih (h.set_other b' o v hb) (o + 1)
theorem set_splice (cs : List Value) (o : Nat) (v : Value) (r : List Value) (h : o < cs.length) : (cs.set o v).take (o + 1) ++ r ++ (cs.set o v).drop (o + 1 + r.length) = cs.take o ++ (v :: r) ++ cs.drop (o + (r.length + 1)) := by
  rw [List.take_succ_eq_append_getElem (by simpa using h), List.take_set_of_le (Nat.le_refl _), List.drop_set_of_lt (by omega)]
  simp [Nat.add_assoc, Nat.add_comm 1]
theorem Row.setCells {w : World} {b : Nat} {t : TypeId} (o : Nat) (vs : List Value) : ∀ {cs : List Value}, Row w b cs t → o + vs.length ≤ cs.length → Row (w.setCells b o vs) b (cs.take o ++ vs ++ cs.drop (o + vs.length)) t := by
  induction vs generalizing w o with
  | nil => intro cs h _; simpa [World.setCells] using h
  | cons v r ih =>
    intro cs h hl
    simp only [List.length_cons] at hl
    have := ih (w := w.setCell ⟨b, o, none⟩ v) (o + 1) (h.set o v) (by simp; omega)
    rw [set_splice cs o v r (by omega)] at this
    exact this
/-- A whole row stored over. -/
theorem Row.over {w : World} {b : Nat} {cs vs : List Value} {t : TypeId} (h : Row w b cs t) (hl : vs.length = cs.length) : Row (w.setCells b 0 vs) b vs t := by
  have := Row.setCells 0 vs h (by omega)
  simpa [hl] using this

/-- A whole array, read back as a function's result. -/
theorem results_row {P : Program} {fn : Func} {p : Tmp} {ty : TypeId} {n : Nat} {e : TypeId} (h : fn.results = #[.cell p ty]) (tmps : Array Value) (w : World) (g : Nat) (t : TypeId) (cs : List Value)
    (hp : tmps.getD p undef = .pointer (some ⟨g, 0, none⟩)) (hg : Row w g cs t) (hu : P.underlying ty = some (.array n e)) (hi : (P.info? ty).map (·.size) = some n) (hl : cs.length = n) :
    (results fn tmps).run P w = .ok (.agg cs.toArray) w :=
  results_cell_row h tmps w g t cs.toArray (0, 0) _ hp hg hu rfl (by simp [hi, hl])

/-- A store of one cell, as the walk meets it. -/
theorem wpList_store1 {P : Program} {ops : Array Oper} {rest : List Oper} {op : Oper} {a : Act} {w : World} {Q : Exit → Act → World → Prop} (hgd : op.guard = none) (ty : TypeId) (x y : Operand) (ho : op.op = .store ty x y)
    (b o : Nat) (v : Value) (hx : a.eval x = .pointer (some ⟨b, o, none⟩)) (hy : a.eval y = v) (hcs : v.cells = #[v]) (ht : w.there b o 1) (hi : (P.info? ty).map (·.size) = some 1) (h1 : v.oneCell' = true)
    (h : wpList P ops Q rest (a.put op.dst undef) (w.setCell ⟨b, o, none⟩ v)) : wpList P ops Q (op :: rest) a w :=
  wpList_plain hgd fun _ hK => by
    have hr : (storeVar ty ⟨b, o, none⟩ v).run P w = .ok () (w.setCell ⟨b, o, none⟩ v) := by
      have := run_storeCells_cells (P := P) b o [v] 0 w (fun j hj => by simpa using (ht j (by simpa using hj)).1) (fun j hj => by simpa using (ht j (by simpa using hj)).2) (fun u hu => by simp at hu; rw [hu]; exact h1)
      cases hq : P.info? ty with
      | none => simp [hq] at hi
      | some i =>
        have hs : i.size = 1 := by simpa [hq] using hi
        simp only [Nat.add_zero, World.setCells] at this
        simp [storeVar, sizeOf, typeInfo, hq, hcs, hs, this]
    unfold Oper.wp execOp
    simp only [ho, hx, hy, Instr.storeAt, Instr.sureAddr, Sem.run_bind, Sem.run_pure, Result.andThen_ok, hr]
    exact hK _ _ h

/-- copy, as the walk meets it. -/
theorem wpList_copy {P : Program} {ops : Array Oper} {rest : List Oper} {Q : Exit → Act → World → Prop} {a : Act} {w : World} {dst : Option Tmp} {x y : Operand} {dT sT ty : TypeId} {pos : String} {after : Array Edge}
    (elem : TypeId) (b o dLen dCap : Nat) (adr : Addr) (sLen sCap : Nat) (cs : List Value)
    (hx : a.eval x = .slice (some ⟨b, o, none⟩) dLen dCap) (hy : a.eval y = .slice (some adr) sLen sCap)
    (hu : P.underlying dT = some (.slice elem)) (hs : (P.info? elem).map (·.size) = some 1) (hn : cs.length = Nat.min sLen dLen)
    (hsrc : ∀ j v, cs[j]? = some v → w.cell? (adr.add j) = some v) (ht : w.there b o cs.length) (h1 : ∀ v ∈ cs, v.oneCell' = true)
    (h : wpList P ops Q rest (a.put dst (goInt cs.length)) (w.setCells b o cs)) :
    wpList P ops Q ({ dst, op := .call { callee := .builtin .copy, args := #[x, y], argTypes := #[dT, sT] }, type := ty, pos, after, guard := none } :: rest) a w :=
  wpList_plain rfl fun _ hK => by
    have hr := run_copy_cells (P := P) w dT sT ty elem b o dLen dCap adr sLen sCap cs hu hs hn hsrc (fun j hj => (ht j hj).1) (fun j hj => (ht j hj).2) h1
    unfold Oper.wp
    rw [BigFrame.execOp_builtin, BigFrame.builtin_copy]
    simp only [List.map_toArray, List.map_cons, List.map_nil, hx, hy, Sem.run_bind, hr, Result.andThen_ok, Sem.run_pure, Oper.upon_value]
    exact hK _ _ h

theorem vW_set (l : List (BitVec 32)) (i : Nat) (x : BitVec 32) : (vW l).set i (.int .u32 (u x)) = vW (l.set i x) := by simp [vW, List.map_set]
theorem vB_set (l : List (BitVec 8)) (i : Nat) (x : BitVec 8) : (vB l).set i (.int .u8 (c x)) = vB (l.set i x) := by simp [vB, List.map_set]

end Go.Proofs.YtfdgdmehgbmnkaaDoor
