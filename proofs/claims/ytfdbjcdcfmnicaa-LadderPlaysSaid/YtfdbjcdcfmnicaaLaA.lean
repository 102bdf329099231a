/-
  the ladder: commits, pending ones, in cells; laws of the walk.
-/
import Derived.Test.YtfdbjcdcfmnicaaLws
import Derived.Test.YtfdbjcdcfmnicaaTRl
import Derived.Great.FillDense
import Derived.ArgAppend
import Derived.Stop.BytesEq
namespace Go.Proofs.Ytfdbjcdcfmnicaa
open Go Go.RowKit
open Sha

abbrev tC : TypeId := 25
abbrev tP : TypeId := 66
abbrev tPs : TypeId := 42
abbrev tL : TypeId := 114
abbrev tAd : TypeId := 51
abbrev tDg : TypeId := 23

/-! ### commits and pending ones -/
structure Cm where
  n : Int
  s : List (BitVec 8)
  o : List (BitVec 8)
  k : Int
def Cm.cells (c : Cm) : List Value := .int .i64 c.n :: (vB c.s ++ (vB c.o ++ [.int .i64 c.k]))
structure Cm.Wf (c : Cm) : Prop where
  ls : c.s.length = 32
  lo : c.o.length = 32
theorem Cm.ext {a b : Cm} (h1 : a.n = b.n) (h2 : a.s = b.s) (h3 : a.o = b.o) (h4 : a.k = b.k) : a = b := by
  cases a; cases b; simp only at h1 h2 h3 h4; subst h1 h2 h3 h4; rfl
theorem Cm.ext_iff {a b : Cm} : a = b ↔ a.n = b.n ∧ a.s = b.s ∧ a.o = b.o ∧ a.k = b.k := ⟨fun h => by subst h; exact ⟨rfl, rfl, rfl, rfl⟩, fun ⟨h1, h2, h3, h4⟩ => Cm.ext h1 h2 h3 h4⟩
instance Cm.deq : DecidableEq Cm := fun a b => decidable_of_iff (a.n = b.n ∧ a.s = b.s ∧ a.o = b.o ∧ a.k = b.k) Cm.ext_iff.symm
theorem Cm.len {c : Cm} (h : c.Wf) : c.cells.length = 66 := by
  unfold Cm.cells; simp only [List.length_cons, List.length_append, vB_length, h.ls, h.lo, List.length_nil]
theorem Cm.one (c : Cm) : ∀ v ∈ c.cells, v.oneCell' = true := by
  intro v hv
  simp only [Cm.cells, List.mem_cons, List.mem_append, List.not_mem_nil, or_false] at hv
  rcases hv with rfl | h | h | rfl
  · rfl
  · exact vB_one _ v h
  · exact vB_one _ v h
  · rfl
structure Pn where
  nr : Int
  c : Cm
  ad : List (BitVec 8)
  po : Int
  dl : Int
  du : Int
def Pn.cells (p : Pn) : List Value := .int .i64 p.nr :: (p.c.cells ++ (vB p.ad ++ [.int .i64 p.po, .int .i64 p.dl, .int .i64 p.du]))
structure Pn.Wf (p : Pn) : Prop where
  c : p.c.Wf
  a : p.ad.length = 20
theorem Pn.ext_iff {a b : Pn} : a = b ↔ a.nr = b.nr ∧ a.c = b.c ∧ a.ad = b.ad ∧ a.po = b.po ∧ a.dl = b.dl ∧ a.du = b.du :=
  ⟨fun h => by subst h; exact ⟨rfl, rfl, rfl, rfl, rfl, rfl⟩, fun ⟨h1, h2, h3, h4, h5, h6⟩ => by cases a; cases b; simp only at h1 h2 h3 h4 h5 h6; subst h1 h2 h3 h4 h5 h6; rfl⟩
instance Pn.deq : DecidableEq Pn := fun a b => decidable_of_iff (a.nr = b.nr ∧ a.c = b.c ∧ a.ad = b.ad ∧ a.po = b.po ∧ a.dl = b.dl ∧ a.du = b.du) Pn.ext_iff.symm
theorem Pn.len {p : Pn} (h : p.Wf) : p.cells.length = 90 := by
  unfold Pn.cells; simp only [List.length_cons, List.length_append, vB_length, Cm.len h.c, h.a, List.length_nil]
theorem Pn.one (p : Pn) : ∀ v ∈ p.cells, v.oneCell' = true := by
  intro v hv
  simp only [Pn.cells, List.mem_cons, List.mem_append, List.not_mem_nil, or_false] at hv
  rcases hv with rfl | h | h | rfl | rfl | rfl
  · rfl
  · exact Cm.one _ v h
  · exact vB_one _ v h
  · rfl
  · rfl
  · rfl
theorem all_one {L : List Value} (h : ∀ v ∈ L, v.oneCell' = true) : L.toArray.all (·.oneCell') = true := by
  rw [← Array.all_toList]; exact List.all_eq_true.2 h
theorem info_C : (Try.prog.info? tC).map (·.size) = some 66 := by kernel_rfl
theorem info_P : (Try.prog.info? tP).map (·.size) = some 90 := by kernel_rfl
theorem info_L : (Try.prog.info? tL).map (·.size) = some 70 := by kernel_rfl
theorem info_A : (Try.prog.info? tAd).map (·.size) = some 20 := by kernel_rfl
theorem info_int : (Try.prog.info? 3).map (·.size) = some 1 := by kernel_rfl
theorem info_Ps : (Try.prog.info? tPs).map (·.size) = some 1 := by kernel_rfl
theorem Cm.info {c : Cm} (h : c.Wf) : (Try.prog.info? tC).map (·.size) = some c.cells.length := by rw [Cm.len h]; exact info_C
theorem Pn.info {p : Pn} (h : p.Wf) : (Try.prog.info? tP).map (·.size) = some p.cells.length := by rw [Pn.len h]; exact info_P
def zD : List (BitVec 8) := List.replicate 32 0#8
def zA : List (BitVec 8) := List.replicate 20 0#8
def zC : Cm := ⟨0, zD, zD, 0⟩
def zP : Pn := ⟨0, zC, zA, 0, 0, 0⟩
theorem zC_wf : zC.Wf := ⟨by decide, by decide⟩
theorem zP_wf : zP.Wf := ⟨zC_wf, by decide⟩

/-! ### places within -/
theorem Cm.at_n (c : Cm) : c.cells[0]? = some (.int .i64 c.n) := rfl
theorem Cm.at_k {c : Cm} (h : c.Wf) : c.cells[65]? = some (.int .i64 c.k) := by
  unfold Cm.cells
  rw [List.getElem?_cons_succ, List.getElem?_append_right (by rw [vB_length, h.ls]; decide), vB_length, h.ls, List.getElem?_append_right (by rw [vB_length, h.lo]; decide), vB_length, h.lo]
  rfl
theorem Pn.at_nr (p : Pn) : p.cells[0]? = some (.int .i64 p.nr) := rfl
theorem Pn.tail {p : Pn} (h : p.Wf) (i : Nat) : p.cells[87 + i]? = [Value.int .i64 p.po, .int .i64 p.dl, .int .i64 p.du][i]? := by
  unfold Pn.cells
  rw [show 87 + i = (86 + i) + 1 by omega, List.getElem?_cons_succ, List.getElem?_append_right (by rw [Cm.len h.c]; omega), Cm.len h.c, List.getElem?_append_right (by rw [vB_length, h.a]; omega), vB_length, h.a, show 86 + i - 66 - 20 = i by omega]
theorem Pn.at_po {p : Pn} (h : p.Wf) : p.cells[87]? = some (.int .i64 p.po) := Pn.tail h 0
theorem Pn.at_dl {p : Pn} (h : p.Wf) : p.cells[88]? = some (.int .i64 p.dl) := Pn.tail h 1
theorem Pn.at_du {p : Pn} (h : p.Wf) : p.cells[89]? = some (.int .i64 p.du) := Pn.tail h 2
theorem Pn.at_c (p : Pn) (j : Nat) (u : Value) (hj : p.c.cells[j]? = some u) : p.cells[1 + j]? = some u := by
  unfold Pn.cells
  rw [Nat.add_comm, List.getElem?_cons_succ, List.getElem?_append_left ((List.getElem?_eq_some_iff.1 hj).1)]
  exact hj
theorem Pn.set_du {p : Pn} (h : p.Wf) (x : Int) : p.cells.set 89 (.int .i64 x) = Pn.cells { p with du := x } := by
  unfold Pn.cells
  rw [List.set_cons_succ, List.set_append_right _ _ (by rw [Cm.len h.c]; decide), Cm.len h.c, List.set_append_right _ _ (by rw [vB_length, h.a]; decide), vB_length, h.a]
  rfl

/-! ### laws of the walk -/
theorem heap_setsL (w : World) (g o : Nat) (vs : List Value) (k : Nat) (h : k ≠ g) : (w.setCells g o vs).heap[k]? = w.heap[k]? := by
  induction vs generalizing w o with
  | nil => rfl
  | cons v r ih => exact (ih (w.setCell ⟨g, o, none⟩ v) (o + 1)).trans (Below.heap_setCell _ _ _ _ h)
theorem gro_setsL (w : World) (b o : Nat) (vs : List Value) : Gro (· = b) w (w.setCells b o vs) := by
  have q := below_setCells (Below.refl 0 w) (b := b) (o := o) (Nat.zero_le _) vs
  exact ⟨q.os, q.tape, q.output, q.size, fun k _ hn => heap_setsL w b o vs k hn⟩
theorem size_setsL (w : World) (g o : Nat) (vs : List Value) : (w.setCells g o vs).heap.size = w.heap.size := by
  induction vs generalizing w o with
  | nil => rfl
  | cons v r ih => rw [World.setCells, ih]; simp [World.setCell]
theorem gro_newL {b : Nat} {w X Y : World} (h1 : Below w.heap.size w X) (hb : w.heap.size ≤ b) (h2 : Gro (· = b) X Y) : Below w.heap.size w Y :=
  ⟨h2.os.trans h1.os, h2.tape.trans h1.tape, h2.output.trans h1.output, Nat.le_trans h1.size h2.size, fun k hk => (h2.block k (Nat.lt_of_lt_of_le hk h1.size) (by omega)).trans (h1.block k hk)⟩
section
variable {P : Program} {ops : Array Oper} {rest : List Oper} {op : Oper} {a : Act} {w : World} {Q : Exit → Act → World → Prop}
theorem wpList_ldS (hw : Region.wanted op (yielded ops a.tmps) = true) (ty : TypeId) (x : Operand) (ho : op.op = .load ty x)
    (b o : Nat) (hx : a.eval x = .pointer (some ⟨b, o, none⟩)) (cs : List Value) (d : TypeDesc) (hc : w.rangeAt b o cs)
    (hu : P.underlying ty = some d) (hd : d.isRow = true) (hi : (P.info? ty).map (·.size) = some cs.length)
    (h : wpList P ops Q rest (a.put op.dst (.agg cs.toArray)) w) : wpList P ops Q (op :: rest) a w :=
  BigFrame.wpList_want hw fun _ hK => wp_load_mid ty x ho b o hx cs d hc hu hd hi (hK _ _ h)
theorem wpList_stL (hgd : op.guard = none) (ty : TypeId) (x y : Operand) (ho : op.op = .store ty x y) (b : Nat) (L M : List Value) (t : TypeId) (hx : a.eval x = .pointer (some ⟨b, 0, none⟩)) (hy : a.eval y = .agg L.toArray) (r : Row w b M t) (hl : L.length = M.length) (hi : (P.info? ty).map (·.size) = some L.length) (h1 : L.toArray.all (·.oneCell') = true)
    (h : ∀ X, Row X b L t → Gro (· = b) w X → wpList P ops Q rest (a.put op.dst undef) X) : wpList P ops Q (op :: rest) a w :=
  wpList_store_mid hgd ty x y ho b 0 L.toArray hx hy (r.there 0 _ (by rw [List.size_toArray, hl, Nat.zero_add]; exact Nat.le_refl _)) (by rw [hi, List.size_toArray]) h1 (h _ (r.over hl) (gro_setsL w b 0 L))
theorem wpList_stM (hgd : op.guard = none) (ty : TypeId) (x y : Operand) (ho : op.op = .store ty x y) (b o : Nat) (vs cs : List Value) (t : TypeId) (hx : a.eval x = .pointer (some ⟨b, o, none⟩)) (hy : a.eval y = .agg vs.toArray) (r : Row w b cs t) (hl : o + vs.length ≤ cs.length) (hi : (P.info? ty).map (·.size) = some vs.length) (h1 : vs.toArray.all (·.oneCell') = true)
    (h : ∀ X, Row X b (cs.take o ++ vs ++ cs.drop (o + vs.length)) t → Gro (· = b) w X → wpList P ops Q rest (a.put op.dst undef) X) : wpList P ops Q (op :: rest) a w :=
  wpList_store_mid hgd ty x y ho b o vs.toArray hx hy (r.there o _ (by rw [List.size_toArray]; exact hl)) (by rw [hi, List.size_toArray]) h1 (h _ (Row.setCells o vs r hl) (gro_setsL w b o vs))
theorem wpList_st1 (hgd : op.guard = none) (ty : TypeId) (x y : Operand) (ho : op.op = .store ty x y)
    (b i : Nat) (v : Value) (cs : List Value) (t : TypeId) (hx : a.eval x = .pointer (some ⟨b, i, none⟩)) (hy : a.eval y = v) (hcs : v.cells = #[v]) (r : Row w b cs t) (hl : i < cs.length) (hi : (P.info? ty).map (·.size) = some 1) (h1 : v.oneCell' = true)
    (h : ∀ X, Row X b (cs.set i v) t → Gro (· = b) w X → wpList P ops Q rest (a.put op.dst undef) X) : wpList P ops Q (op :: rest) a w :=
  wpList_store1 hgd ty x y ho b i v hx hy hcs (r.there i 1 (by omega)) hi h1 (h _ (r.set i v) ((Gro.refl _ _).set b i v rfl))
end
section
variable {ops : Array Oper} {rest : List Oper} {op : Oper} {a : Act} {w : World} {Q : Exit → Act → World → Prop}
theorem wpList_bxG (ty : TypeId) (hgd : op.guard = none) (x : Operand) (ho : op.op = .box ty x) (L : List Value) (hx : a.eval x = .agg L.toArray) (h : ∀ X, Row X w.heap.size L ty → Below w.heap.size w X → X.heap.size = w.heap.size + 1 → wpList Try.prog ops Q rest (a.put op.dst (.pointer (some ⟨w.heap.size, 0, none⟩))) X) : wpList Try.prog ops Q (op :: rest) a w :=
  wpList_plain hgd fun _ hK => by
    unfold Oper.wp execOp
    simp only [ho, hx]
    go_simp
    exact hK _ _ (h _ (Row.new' rfl rfl) ((Below.refl _ _).alloc (Nat.le_refl _) _) (by simp))
theorem wpList_bx1 (ty : TypeId) (hgd : op.guard = none) (x : Operand) (ho : op.op = .box ty x) (v : Value) (hv : v.cells = #[v]) (hx : a.eval x = v) (h : ∀ X, Row X w.heap.size [v] ty → Below w.heap.size w X → X.heap.size = w.heap.size + 1 → wpList Try.prog ops Q rest (a.put op.dst (.pointer (some ⟨w.heap.size, 0, none⟩))) X) : wpList Try.prog ops Q (op :: rest) a w :=
  wpList_plain hgd fun _ hK => by
    unfold Oper.wp execOp
    simp only [ho, hx]
    go_simp
    simp only [Value.cells] at hv
    rw [hv]
    exact hK _ _ (h _ (Row.new' rfl rfl) ((Below.refl _ _).alloc (Nat.le_refl _) _) (by simp))
set_option maxRecDepth 100000 in
theorem wpList_alC (hgd : op.guard = none) (ho : op.op = .alloc tC) (h : ∀ X, Row X w.heap.size zC.cells tC → Below w.heap.size w X → X.heap.size = w.heap.size + 1 → wpList Try.prog ops Q rest (a.put op.dst (.pointer (some ⟨w.heap.size, 0, none⟩))) X) : wpList Try.prog ops Q (op :: rest) a w :=
  wpList_plain hgd fun _ hK => by
    unfold Oper.wp execOp
    simp only [ho]
    go_simp
    exact hK _ _ (h _ (Row.new' (cs := zC.cells) rfl rfl) ((Below.refl _ _).alloc (Nat.le_refl _) _) (by simp))
set_option maxRecDepth 100000 in
theorem wpList_alP (hgd : op.guard = none) (ho : op.op = .alloc tP) (h : ∀ X, Row X w.heap.size zP.cells tP → Below w.heap.size w X → X.heap.size = w.heap.size + 1 → wpList Try.prog ops Q rest (a.put op.dst (.pointer (some ⟨w.heap.size, 0, none⟩))) X) : wpList Try.prog ops Q (op :: rest) a w :=
  wpList_plain hgd fun _ hK => by
    unfold Oper.wp execOp
    simp only [ho]
    go_simp
    exact hK _ _ (h _ (Row.new' (cs := zP.cells) rfl rfl) ((Below.refl _ _).alloc (Nat.le_refl _) _) (by simp))
/-- A struct that is built, its cells known. -/
theorem wpList_blt (hw : Region.wanted op (yielded ops a.tmps) = true) (ty : TypeId) (parts : Array (Nat × Operand)) (ho : op.op = .build ty parts) (vals : List (Nat × Value)) (hv : (parts.toList.map fun (p : Nat × Operand) => match p with | (i, x) => (i, a.eval x)) = vals) (L : List Value) (hr : Try.prog.built ty vals = some L.toArray) (h : wpList Try.prog ops Q rest (a.put op.dst (.agg L.toArray)) w) : wpList Try.prog ops Q (op :: rest) a w :=
  BigFrame.wpList_want hw fun _ hK => by
    have hr := run_build (P := Try.prog) w ty vals.toArray _ hr
    have hv2 : (parts.map fun (p : Nat × Operand) => match p with | (i, x) => (i, a.eval x)) = vals.toArray := by
      apply Array.toList_inj.1
      rw [Array.toList_map]
      exact hv
    unfold Oper.wp execOp
    simp only [ho, hv2, Sem.run_bind, hr, Result.andThen_ok, Sem.run_pure, Oper.upon_value]
    exact hK _ _ h
end
section
variable {P : Program} {Q : Exit → Act → World → Prop} {o : Oper} {a : Act} {w : World} {K : Act → World → Prop}
theorem wp_ixL (T e : TypeId) {x y : Operand} (ho : o.op = .indexAddr T x y) (b f n c t s : Nat) (hx : a.eval x = .slice (some ⟨b, f, none⟩) n c) (hy : a.eval y = .int .i64 (t : Int)) (ht : t < n)
    (hu : P.underlying T = some (.slice e)) (hs : (P.info? e).map (·.size) = some s) (h : K (a.put o.dst (.pointer (some ⟨b, f + t * s, none⟩))) w) : Oper.wp P o a w K Q := by
  cases hi : P.info? e with
  | none => simp [hi] at hs
  | some i =>
    have h4 : i.size = s := by simpa [hi] using hs
    have hr : (Instr.indexAt T (.slice (some ⟨b, f, none⟩) n c) (.int .i64 (t : Int))).run P w = .ok (.pointer (some ⟨b, f + t * s, none⟩)) w := by
      simp [Instr.indexAt, run_underlying hu, asIntOf, ht, sizeOf, typeInfo, hi, h4, Addr.add_mid]
    unfold Oper.wp execOp
    simp only [ho, hx, hy, Sem.run_bind, hr, Result.andThen_ok, Sem.run_pure, Oper.upon_value]
    exact h
end
theorem wpList_ixL {P : Program} {ops : Array Oper} {rest : List Oper} {op : Oper} {a : Act} {w : World} {Q : Exit → Act → World → Prop} (T e : TypeId) (x y : Operand) (ho : op.op = .indexAddr T x y) (b f n c t s : Nat) (hx : a.eval x = .slice (some ⟨b, f, none⟩) n c) (hy : a.eval y = .int .i64 (t : Int)) (ht : t < n)
    (hu : P.underlying T = some (.slice e)) (hs : (P.info? e).map (·.size) = some s) (hw : Region.wanted op (yielded ops a.tmps) = true) (h : wpList P ops Q rest (a.put op.dst (.pointer (some ⟨b, f + t * s, none⟩))) w) : wpList P ops Q (op :: rest) a w :=
  BigFrame.wpList_want hw fun _ hK => wp_ixL T e ho b f n c t s hx hy ht hu hs (hK _ _ h)
/-- A field's address. -/
theorem wpList_fld {P : Program} {ops : Array Oper} {rest : List Oper} {op : Oper} {a : Act} {w : World} {Q : Exit → Act → World → Prop} (T : TypeId) (x : Operand) (i : Nat) (ho : op.op = .fieldAddr T x i) (b f d : Nat) (hx : a.eval x = .pointer (some ⟨b, f, none⟩)) (hr : ∀ w, (Instr.fieldAt T (.pointer (some ⟨b, f, none⟩)) i).run P w = .ok (.pointer (some ⟨b, f + d, none⟩)) w)
    (hw : Region.wanted op (yielded ops a.tmps) = true) (h : wpList P ops Q rest (a.put op.dst (.pointer (some ⟨b, f + d, none⟩))) w) : wpList P ops Q (op :: rest) a w :=
  BigFrame.wpList_want hw fun _ hK => by
    unfold Oper.wp execOp
    simp only [ho, hx, Sem.run_bind, hr, Result.andThen_ok, Sem.run_pure, Oper.upon_value]
    exact hK _ _ h

/-! ### structs that are built -/
theorem fill_next (place : Nat → Option (Nat × Nat)) (i o s o' : Nat) (pre z x : List Value) (v : Value) (ps : List (Nat × Value)) (hp : place i = some (o, s)) (hv : v.cells = x.toArray) (hx : x.length = s) (hpre : pre.length = o) (hz : o + s ≤ z.length) (ho' : o + s = o') :
    Instr.fill place (pre ++ z.drop o).toArray ((i, v) :: ps) = Instr.fill place (pre ++ x ++ z.drop o').toArray ps := by
  subst ho'
  obtain ⟨s1, g1⟩ := Great.foldl_set o x 0 (pre ++ z.drop o).toArray
  have e1 : x.toArray.zipIdx.foldl (fun (cs : Array Value) (p : Value × Nat) => match p with | (c, j) => cs.setIfInBounds (o + j) c) (pre ++ z.drop o).toArray = (x.zipIdx 0).foldl (fun cs (x : Value × Nat) => cs.setIfInBounds (o + x.2) x.1) (pre ++ z.drop o).toArray := by
    rw [← Array.foldl_toList, Array.toList_zipIdx]
  simp only [Instr.fill, hp, hv, List.size_toArray]
  rw [if_neg (by simp; omega), e1]
  congr 1
  apply Array.ext_getElem?
  intro k
  rw [g1 k]
  simp only [Nat.add_zero, List.size_toArray, List.getElem?_toArray, List.length_append, List.length_drop]
  by_cases hk : k < o
  · rw [if_neg (by omega), List.append_assoc, List.getElem?_append_left (by omega), List.getElem?_append_left (by omega)]
  · by_cases hk2 : k < o + s
    · rw [if_pos (by omega), List.getElem?_append_left (by rw [List.length_append]; omega), List.getElem?_append_right (by omega), hpre]
    · rw [if_neg (by omega), List.getElem?_append_right (by omega), List.getElem?_append_right (by rw [List.length_append]; omega), List.length_append, List.getElem?_drop, List.getElem?_drop]
      congr 1
      omega
theorem skip_next (pre z : List Value) (o s : Nat) (y : List Value) (hy : (z.drop o).take s = y) : pre ++ z.drop o = pre ++ y ++ z.drop (o + s) := by
  rw [List.append_assoc, ← hy, ← List.drop_drop, List.take_append_drop]
theorem built_P : ∃ places : List (Nat × Nat), (∀ parts, Try.prog.built tP parts = Instr.fill (places.toArray[·]?) zP.cells.toArray parts) ∧ places = [(0, 1), (1, 66), (67, 20), (87, 1), (88, 1), (89, 1)] :=
  ⟨[(0, 1), (1, 66), (67, 20), (87, 1), (88, 1), (89, 1)], fun _ => by kernel_rfl, rfl⟩
theorem built_pn (p : Pn) (h : p.Wf) (h0 : p.du = 0) : Try.prog.built tP [(0, .int .i64 p.nr), (1, .agg p.c.cells.toArray), (2, .agg (vB p.ad).toArray), (3, .int .i64 p.po), (4, .int .i64 p.dl)] = some p.cells.toArray := by
  obtain ⟨pl, h1, h2⟩ := built_P
  subst h2
  rw [h1]
  have zl : zP.cells.length = 90 := Pn.len zP_wf
  rw [show zP.cells.toArray = ([] ++ zP.cells.drop 0).toArray by rw [List.drop_zero, List.nil_append]]
  refine Eq.trans (fill_next _ 0 0 1 1 [] zP.cells [Value.int .i64 p.nr] _ _ rfl rfl rfl rfl (by rw [zl]; decide) rfl) ?_
  refine Eq.trans (fill_next _ 1 1 66 67 _ zP.cells p.c.cells _ _ rfl rfl (Cm.len h.c) rfl (by rw [zl]; decide) rfl) ?_
  refine Eq.trans (fill_next _ 2 67 20 87 _ zP.cells (vB p.ad) _ _ rfl rfl (by rw [vB_length, h.a]) (by simp only [List.length_append, List.length_cons, List.length_nil, Cm.len h.c]) (by rw [zl]; decide) rfl) ?_
  refine Eq.trans (fill_next _ 3 87 1 88 _ zP.cells [Value.int .i64 p.po] _ _ rfl rfl rfl (by simp only [List.length_append, List.length_cons, List.length_nil, Cm.len h.c, vB_length, h.a]) (by rw [zl]; decide) rfl) ?_
  refine Eq.trans (fill_next _ 4 88 1 89 _ zP.cells [Value.int .i64 p.dl] _ _ rfl rfl rfl (by simp only [List.length_append, List.length_cons, List.length_nil, Cm.len h.c, vB_length, h.a]) (by rw [zl]; decide) rfl) ?_
  rw [Instr.fill, show zP.cells.drop 89 = [Value.int .i64 0] by kernel_rfl]
  congr 2
  unfold Pn.cells
  rw [h0]
  simp only [List.nil_append, List.append_assoc, List.cons_append]
theorem built_p0 : Try.prog.built tP [] = some zP.cells.toArray := by kernel_rfl
theorem built_c0 : Try.prog.built tC [] = some zC.cells.toArray := by kernel_rfl

end Go.Proofs.Ytfdbjcdcfmnicaa
