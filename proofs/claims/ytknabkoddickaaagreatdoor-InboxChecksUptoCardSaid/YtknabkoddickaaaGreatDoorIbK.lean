/-
  the law's row: entries that may be, out of what came in.
-/
import Derived.Test.YtknabkoddickaaaGreatDoorIbI

namespace Go.Proofs.YtknabkoddickaaaGreatDoor
open Go Go.RowKit
open Sha

/-! ### an entry's cells, one of them put -/
section
variable {k tm tk gs : Int} {sd rc : List (BitVec 8)} {am : List Nat} {v : Value}
theorem cut_mid (x y z u : List Value) (h : u.length = y.length) : (x ++ (y ++ z)).take x.length ++ u ++ (x ++ (y ++ z)).drop (x.length + u.length) = x ++ (u ++ z) := by
  rw [List.take_left, h, ← List.append_assoc x y z, ← List.length_append, List.drop_left, List.append_assoc]
end
/-- What an entry that may be is made of. -/
structure Rwi where
  dp : Bool
  sd : List (BitVec 8)
  la : Int
  tk : Int
  rc : List (BitVec 8)
  am : List Nat
  gs : Int
  d : List (BitVec 8)
def Rwi.cells (r : Rwi) (v : Value) : List Value := .bool r.dp :: (vB r.sd ++ (.int .i64 r.la :: .int .i64 r.tk :: (vB r.rc ++ (vQ r.am ++ [.int .i64 r.gs, v]))))
structure Rwi.Ok (r : Rwi) : Prop where
  ls : r.sd.length = 20
  lt : r.rc.length = 20
  la : r.am.length = 4
  q : ∀ x ∈ r.am, x < 18446744073709551616
  l0 : -9223372036854775808 ≤ r.la ∧ r.la ≤ 9223372036854775807
  t0 : -9223372036854775808 ≤ r.tk ∧ r.tk ≤ 9223372036854775807
  g0 : -9223372036854775808 ≤ r.gs ∧ r.gs ≤ 9223372036854775807
/-- Its amount: not nought. -/
def am7 (am : List Nat) : List Nat := if am = List.replicate 4 0 then am.set 1 7 else am
/-- The entry at a time. -/
def Rwi.ev (r : Rwi) (t : Int) : Ev := if r.dp then ⟨1, r.sd, t, pk r.tk 64, r.rc, am7 r.am, pk r.gs 1099511627777, []⟩ else ⟨2, r.sd, t, 0, List.replicate 20 0#8, List.replicate 4 0, 0, r.d.take 4096⟩
def tmf (rs : List Rwi) : Int := rs.foldl (fun t r => t + pk r.la 1000000) 0
/-- The row of entries. -/
def rowv (rs : List Rwi) : Nat → List Ev
  | 0 => []
  | i + 1 => rowv rs i ++ (match rs[i]? with | none => [] | some r => [r.ev (tmf (rs.take (i + 1)))])
/-! ### lists of entries -/
/-- Entries that lie one behind the other. -/
def EsAt (w : World) (A : Option Addr) (es : List Ev) : Prop := ∀ (i : Nat) (e : Ev), es[i]? = some e → ∃ b o A' c', A = some ⟨b, o, none⟩ ∧ w.rangeAt b (o + i * 49) (e.cells (.slice A' e.d.length c')) ∧ SlAt w (.slice A' e.d.length c') e.d ∧ (A' = none → c' = 0)
theorem EsAt.be {w w' : World} {A : Option Addr} {es : List Ev} (h : EsAt w A es) (k : Below w.heap.size w w') : EsAt w' A es := fun i e he => by
  obtain ⟨b, o, A', c', q1, q2, q3, q4⟩ := h i e he
  exact ⟨b, o, A', c', q1, range_be q2 k, q3.be k, q4⟩
/-- A list of entries that grows. -/
structure Eo (w0 w : World) (v : Value) (es : List Ev) : Prop where
  own : ∃ cs, Lw w 46 49 v es.length cs ∧ ∀ (i : Nat) (e : Ev), es[i]? = some e → ∃ A c, (∀ j u, (e.cells (.slice A e.d.length c))[j]? = some u → cs[i * 49 + j]? = some u) ∧ Bw w (.slice A e.d.length c) e.d ∧ (A = none → c = 0)
  v0 : ∀ g, v.ownBlock = some g → w0.heap.size ≤ g
  be : Below w0.heap.size w0 w
theorem info_entAll : (Tryz.prog.info? 46).map (fun i => (i.size, i.bytes)) = some (49, 136) := by kernel_rfl
theorem info_entZ : ((Tryz.prog.info? 46).bind (·.zero)).map (·.cells.size) = some 49 := by kernel_rfl
theorem info_entO : ∃ ie z, Tryz.prog.info? 46 = some ie ∧ ie.zero = some z ∧ ie.size = 49 ∧ ie.bytes = 136 ∧ z.cells.size = 49 := by
  have i1 := info_entAll
  have i2 := info_entZ
  cases hi : Tryz.prog.info? 46 with
  | none => rw [hi] at i1; cases i1
  | some ie =>
    rw [hi] at i1 i2
    simp only [Option.map_some, Option.some.injEq, Prod.mk.injEq, Option.bind_some] at i1 i2
    cases hz : ie.zero with
    | none => rw [hz] at i2; cases i2
    | some z => rw [hz] at i2; exact ⟨ie, z, rfl, hz, i1.1, i1.2, by simpa using i2⟩
section
variable {ops : Array Oper} {rest : List Oper} {op : Oper} {a : Act} {w : World} {Q : Exit → Act → World → Prop}
end

end Go.Proofs.YtknabkoddickaaaGreatDoor

namespace Go.Proofs.YtknabkoddickaaaGreatDoor
open Go Go.RowKit
open Sha

/-- What came in. -/
def RsAt (w : World) (A : Option Addr) (rs : List Rwi) : Prop := ∀ (i : Nat) (r : Rwi), rs[i]? = some r → r.Ok ∧ r.d.length ≤ 140737488355328 ∧ ∃ b o A' c', A = some ⟨b, o, none⟩ ∧ w.rangeAt b (o + i * 49) (r.cells (.slice A' r.d.length c')) ∧ SlAt w (.slice A' r.d.length c') r.d
theorem wpList_ixO {P : Program} {ops : Array Oper} {rest : List Oper} {op : Oper} {a : Act} {w : World} {Q : Exit → Act → World → Prop} (T e : TypeId) (x y : Operand) (ho : op.op = .indexAddr T x y) (b f n c t s q : Nat) (hq : f + t * s = q) (hx : a.eval x = .slice (some ⟨b, f, none⟩) n c) (hy : a.eval y = .int .i64 (t : Int)) (ht : t < n)
    (hu : P.underlying T = some (.slice e)) (hs : (P.info? e).map (·.size) = some s) (hw : Region.wanted op (yielded ops a.tmps) = true) (h : wpList P ops Q rest (a.put op.dst (.pointer (some ⟨b, q, none⟩))) w) : wpList P ops Q (op :: rest) a w := by
  subst hq
  exact wpList_ixI T e x y ho b f n c t s hx hy ht hu hs hw h
theorem wp_ixO {P : Program} {Q : Exit → Act → World → Prop} {op : Oper} {a : Act} {w : World} {K : Act → World → Prop} (T e : TypeId) {x y : Operand} (ho : op.op = .indexAddr T x y) (b f n c t s q : Nat) (hq : f + t * s = q) (hx : a.eval x = .slice (some ⟨b, f, none⟩) n c) (hy : a.eval y = .int .i64 (t : Int)) (ht : t < n)
    (hu : P.underlying T = some (.slice e)) (hs : (P.info? e).map (·.size) = some s) (h : K (a.put op.dst (.pointer (some ⟨b, q, none⟩))) w) : Oper.wp P op a w K Q := by
  subst hq
  exact wp_ixI T e ho b f n c t s hx hy ht hu hs h
/-- An entry that begins. -/
def L2 (sd : List (BitVec 8)) (t : Int) : List Value := ent 2 sd t 0 (List.replicate 20 0#8) (List.replicate 4 0) 0 (.slice none 0 0)
theorem fill_step (place : Nat → Option (Nat × Nat)) (i off : Nat) (v : Value) (vs z : List Value) (rest : List (Nat × Value)) (hp : place i = some (off, vs.length)) (hv : v.cells = vs.toArray) (hz : off + vs.length ≤ z.length) : Instr.fill place z.toArray ((i, v) :: rest) = Instr.fill place (z.take off ++ vs ++ z.drop (off + vs.length)).toArray rest := by
  obtain ⟨s1, g1⟩ := Great.foldl_set off vs 0 z.toArray
  have e1 : vs.toArray.zipIdx.foldl (fun (cs : Array Value) (p : Value × Nat) => match p with | (c, j) => cs.setIfInBounds (off + j) c) z.toArray = (vs.zipIdx 0).foldl (fun cs (x : Value × Nat) => cs.setIfInBounds (off + x.2) x.1) z.toArray := by
    rw [← Array.foldl_toList, Array.toList_zipIdx]
  have e2 : (vs.zipIdx 0).foldl (fun cs (x : Value × Nat) => cs.setIfInBounds (off + x.2) x.1) z.toArray = (z.take off ++ vs ++ z.drop (off + vs.length)).toArray := by
    apply Array.ext_getElem?
    intro k
    rw [g1 k]
    simp only [Nat.add_zero, List.size_toArray, List.getElem?_toArray]
    have lt : (z.take off).length = off := by rw [List.length_take]; omega
    by_cases h1 : k < off
    · rw [if_neg (by omega), List.append_assoc, List.getElem?_append_left (by omega), List.getElem?_take_of_lt h1]
    · by_cases h2 : k < off + vs.length
      · rw [if_pos (by omega), List.append_assoc, List.getElem?_append_right (by omega), lt, List.getElem?_append_left (by omega)]
      · rw [if_neg (by omega), List.append_assoc, List.getElem?_append_right (by omega), lt, List.getElem?_append_right (by omega), List.getElem?_drop]
        congr 1
        omega
  conv => lhs; unfold Instr.fill
  simp only [hp, hv, List.size_toArray]
  rw [if_neg (by simp; omega), e1, e2]
section
variable {Q : Exit → Act → World → Prop} {o : Oper} {a : Act} {w : World} {K : Act → World → Prop}
theorem ld_slI (w : World) (b f : Nat) (v : Value) (h : w.cell? ⟨b, f, none⟩ = some v) : (loadVar 44 ⟨b, f, none⟩).run Tryz.prog w = .ok v w := by
  simp [loadVar, isAgg, run_underlying Tryz.underlying44, h]
end
/-- The entry under way in the inner loop: its Body so far. -/
structure Wb (w0 w : World) (be : Nat) (sd : List (BitVec 8)) (t : Int) (A : Option Addr) (k c : Nat) (d : List (BitVec 8)) : Prop where
  row : Row w be (ent 2 sd t 0 (List.replicate 20 0#8) (List.replicate 4 0) 0 (.slice A k c)) 46
  bw : Bw w (.slice A k c) d
  nil : A = none → c = 0
  fr : Fresh w0.heap.size (.slice A k c)
  b0 : w0.heap.size ≤ be
  be : Below w0.heap.size w0 w

end Go.Proofs.YtknabkoddickaaaGreatDoor
