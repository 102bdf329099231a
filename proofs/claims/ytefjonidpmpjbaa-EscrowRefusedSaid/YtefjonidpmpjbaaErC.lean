/-
  EscrowRefused: what is kept; laws.
-/
import Derived.Test.YtefjonidpmpjbaaErB
namespace Go.Proofs.Ytefjonidpmpjbaa
open Go Go.RowKit Go.Maps
open Wd

abbrev tLB : TypeId := 55
theorem und_LB : Try.prog.underlying tLB = some (.slice tBo) := by kernel_rfl
theorem all_Bo : (Try.prog.info? tBo).map (fun i => (i.size, i.bytes, i.zero.map (·.cells.size))) = some (1, 1, some 1) := by kernel_rfl
section
variable {P : Program} {ops : Array Oper} {Q : Exit → Act → World → Prop} {o : Oper} {a : Act} {w : World} {K : Act → World → Prop} {i : Nat}
theorem wpOp_off (ho : ops[i]? = some o) (hw : Region.wanted o (yielded ops a.tmps) = false) (h : K (a.put o.dst undef) w) : wpOp P ops Q i K a w := by
  unfold wpOp
  rw [ho]
  simp only [hw]
  exact h
theorem unwanted_g {g : Nat} {b : Bool} {t : Tmp} (ho : o.guard = some (g, b)) (hg : ((ops[g]?).bind fun o => o.dst) = some t) (h : a.eval (.tmp t) = .bool (!b)) (hs : t < a.tmps.size) : Region.wanted o (yielded ops a.tmps) = false := by
  have h2 : a.tmps[t]? = some (.bool (!b)) := by
    rw [Array.getElem?_eq_getElem hs]
    have : a.tmps[t]?.getD undef = .bool (!b) := by simpa [Act.eval] using h
    rw [Array.getElem?_eq_getElem hs] at this
    simpa using this
  cases b <;> simp [Region.wanted, ho, yielded, hg, h2]
end

section
variable {Q : Exit → Act → World → Prop} {o : Oper} {a : Act} {w : World} {K : Act → World → Prop}
theorem wpR_sf3 {x : Operand} (b f : Nat) (ho : o.op = .fieldAddr 35 x 3) (hx : a.eval x = .pointer (some ⟨b, f, none⟩)) (h : K (a.put o.dst (.pointer (some ⟨b, f + 3, none⟩))) w) : Oper.wp Try.prog o a w K Q := by
  obtain ⟨dst, op, ty, pos, after, guard⟩ := o
  simp only at ho
  subst ho
  unfold Oper.wp execOp
  simp only [hx]
  go_simp
  exact h
theorem wpR_eqIb {x y : Operand} {t yt : TypeId} (ho : o.op = .binOp .eql t x y yt) (m n : Int) (B : Bool) (hB : (m == n) = B) (hx : a.eval x = .int .i64 m) (hy : a.eval y = .int .i64 n) (h : K (a.put o.dst (.bool B)) w) : Oper.wp Try.prog o a w K Q := wpR_eqI ho m n hx hy (by rw [hB]; exact h)
theorem wpR_eqBb {x y : Operand} {yt : TypeId} (ho : o.op = .binOp .eql tBo x y yt) (m n B : Bool) (hB : (m == n) = B) (hx : a.eval x = .bool m) (hy : a.eval y = .bool n) (h : K (a.put o.dst (.bool B)) w) : Oper.wp Try.prog o a w K Q := wpR_eqB ho m n hx hy (by rw [hB]; exact h)
theorem wpR_neBb {x y : Operand} {yt : TypeId} (ho : o.op = .binOp .neq tBo x y yt) (m n B : Bool) (hB : (m != n) = B) (hx : a.eval x = .bool m) (hy : a.eval y = .bool n) (h : K (a.put o.dst (.bool B)) w) : Oper.wp Try.prog o a w K Q := wpR_neB ho m n hx hy (by rw [hB]; exact h)
end
theorem Vl.gb {w0 w X : World} {p c : Nat} {s : St} {e : TypeId} {sz n : Nat} {v : Value} {xs : List Value} (h : Vl w0 w p c s) (l : Lw w e sz v n xs) (he : e ≠ tV) (k : w.grownBy X v.ownBlock) (hn : ∀ g, v.ownBlock = some g → w0.heap.size ≤ g) : Vl w0 X p c s := by
  obtain ⟨m1, m2, hV, hl⟩ := h
  have G := grown_gro k
  have hV' : Vt X p c m1 m2 s := hV.gro G (fun g hg e2 => by
    obtain ⟨cur, r⟩ := l.row e2
    exact hV.has_row r he hg)
  exact ⟨m1, m2, hV', hl.p, hl.a, hl.b, hl.be.trans (G.to_below hl.be.size hn)⟩
theorem Vl.row_ne {w0 w : World} {p c b : Nat} {s : St} {cs : List Value} {t : TypeId} (h : Vl w0 w p c s) (r : Row w b cs t) (ht : t ≠ tV) : b ≠ p := by
  obtain ⟨m1, m2, hV, hl⟩ := h
  rintro rfl
  exact ht (row_ty r hV.row)
theorem Lw.kq {w X : World} {p : Nat} {e : TypeId} {sz n : Nat} {v : Value} {xs : List Value} (h : Lw w e sz v n xs) (k : Kq p w X) (hp : ∀ cur g, v.ownBlock = some g → Row w g cur e → g ≠ p) : Lw X e sz v n xs := by
  refine Lw.block h (fun g hg => ?_)
  obtain ⟨cur, r⟩ := h.row hg
  exact (k.row r (hp cur g hg r)).trans r.symm
/-- A vault, what it told ahead, and the list of what was paid. -/
structure Rb (w0 w : World) (p c : Nat) (s : St) (b6 : Nat) (L6 : List Value) (v7 : Value) (J : Nat) (bl : List Value) : Prop where
  v : Vl w0 w p c s
  r : Row w b6 L6 tSn
  l : Lw w tBo 1 v7 J bl
  n : ∀ g, v7.ownBlock = some g → w0.heap.size ≤ g
section
variable {w0 w X : World} {p c J b6 : Nat} {s : St} {L6 bl : List Value} {v7 : Value}
theorem Rb.be (h : Rb w0 w p c s b6 L6 v7 J bl) (k : Below w.heap.size w X) : Rb w0 X p c s b6 L6 v7 J bl := ⟨h.v.be k, Row.below h.r k h.r.lt, Lw.be h.l k, h.n⟩
theorem Rb.grow (h : Rb w0 w p c s b6 L6 v7 J bl) {v' b : Value} (q1 : Lw X tBo 1 v' (J + 1) (bl ++ [b])) (q2 : w.grownBy X v7.ownBlock) (q3 : v'.ownBlock = v7.ownBlock ∨ v'.ownBlock = some w.heap.size) : Rb w0 X p c s b6 L6 v' (J + 1) (bl ++ [b]) := by
  refine ⟨h.v.gb h.l (by decide) q2 h.n, (grown_gro q2).row h.r (fun e => ?_), q1, fun g e => ?_⟩
  · obtain ⟨cur, r⟩ := h.l.row e
    exact absurd (row_ty h.r r) (by decide)
  · rcases q3 with q | q
    · exact h.n g (q ▸ e)
    · rw [q] at e
      simp only [Option.some.injEq] at e
      have := h.v.below.size
      omega
theorem Rb.turn (h : Rb w0 w p c s b6 L6 v7 J bl) {s' : St} (hv : Vl w0 X p (c + 2) s') (k : Kq p w X) : Rb w0 X p (c + 2) s' b6 L6 v7 J bl :=
  ⟨hv, k.row h.r (h.v.row_ne h.r (by decide)), Lw.kq h.l k (fun _ _ _ r => h.v.row_ne r (by decide)), h.n⟩
end
theorem bl_at {w : World} {v7 : Value} {J : Nat} {bl : List Value} (h : Lw w tBo 1 v7 J bl) (hJ : 0 < J) : ∃ g cap, v7 = .slice (some ⟨g, 0, none⟩) J cap ∧ w.rangeAt g 0 bl := by
  obtain ⟨g, cap, cur, hv, _, _, r, _⟩ := Lw.openR h hJ
  exact ⟨g, cap, hv, r⟩
def pbs (s : St) (l : List Stv) : List Value := l.map fun r => .bool (paid s.U r.ix)

end Go.Proofs.Ytefjonidpmpjbaa
