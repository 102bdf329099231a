/-
  laws.
-/
import Derived.Test.YtelioddogdcdoaaDoorLhA
import Derived.Test.YtelioddogdcdoaaDoorTRl
import Derived.ArgAppend
import Derived.Stop.BytesEq
namespace Go.Proofs.YtelioddogdcdoaaDoor
open Go Go.RowKit Go.Maps
open Sha
open Wd

theorem heap_sets (w : World) (g o : Nat) (vs : List Value) (k : Nat) (h : k ≠ g) : (w.setCells g o vs).heap[k]? = w.heap[k]? := by
  induction vs generalizing w o with
  | nil => rfl
  | cons v r ih => exact (ih (w.setCell ⟨g, o, none⟩ v) (o + 1)).trans (Below.heap_setCell _ _ _ _ h)
theorem row_ne2 {w : World} {b c : Nat} {cs ds : List Value} {t u : TypeId} (h : Row w b cs t) (k : Row w c ds u) (ht : t ≠ u) : b ≠ c := fun e => by
  subst e
  have := h.symm.trans k
  simp only [Option.some.injEq, Obj.cells.injEq] at this
  exact ht this.2.1
/-- A row that is none of the state's is written over. -/
theorem Lg.kept {w0 w w' : World} {S q : Nat} {f : ByteArray → List (BitVec 8)} (h : Lg w0 w S q f) {b : Nat} {cs : List Value} {t : TypeId} (r : Row w b cs t) (h1 : t ≠ tC) (h2 : t ≠ tS) (h3 : t ≠ tT) (h4 : t ≠ 5) (hk : ∀ k, k ≠ b → w'.heap[k]? = w.heap[k]?) (hB : Below w0.heap.size w0 w') : Lg w0 w' S q f := by
  obtain ⟨T, m, k, E, hkq, h⟩ := h
  have hr : ∀ {g cs u}, Row w g cs u → u ≠ t → Row w' g cs u := fun {g cs u} r' hu => (hk g (row_ne2 r' r hu)).trans r'
  refine ⟨T, m, k, E, hkq, hr h.tab (fun e => h3 e.symm), ⟨hr h.sv.row (fun e => h2 e.symm), Mp.block h.sv.map (hk m (Mp.ne h.sv.map r))⟩, h.isM, h.lo, hB, fun s hs => ?_, h.inj, h.len⟩
  rcases h.at_ s hs with e | ⟨C, v, A, c, e, r', b', l⟩
  · exact .inl e
  · exact .inr ⟨C, v, A, c, e, hr r' (fun e => h1 e.symm), Bw.block b' (fun g hg => hk g (Bw.ne b' r h4 g hg)), l⟩
theorem Kp.kept {w w' : World} (b : Nat) (hb : b ≥ w.heap.size) {w1 : World} (h : Kp w w1) (hk : ∀ k, k ≠ b → w'.heap[k]? = w1.heap[k]?) (hs : w1.heap.size ≤ w'.heap.size) : Kp w w' := ⟨fun g cs t ht r => (hk g (by have := r.lt; omega)).trans (h.row g cs t ht r), Nat.le_trans h.size hs⟩
theorem results_rowS {P : Program} {fn : Func} {p : Tmp} {ty : TypeId} {fs : Array Field} (h : fn.results = #[.cell p ty]) (tmps : Array Value) (w : World) (g : Nat) (t : TypeId) (cs : List Value)
    (hp : tmps.getD p undef = .pointer (some ⟨g, 0, none⟩)) (hg : Row w g cs t) (hu : P.underlying ty = some (.struct fs)) (hi : (P.info? ty).map (·.size) = some cs.length) :
    (results fn tmps).run P w = .ok (.agg cs.toArray) w :=
  results_cell_row h tmps w g t cs.toArray (0, 0) _ hp hg hu rfl (by simp [hi])
theorem results_rowS_tmp {P : Program} {fn : Func} {p q : Tmp} {ty : TypeId} {fs : Array Field} (h : fn.results = #[.cell p ty, .tmp q]) (tmps : Array Value) (w : World) (g : Nat) (t : TypeId) (cs : List Value) (v : Value)
    (hp : tmps.getD p undef = .pointer (some ⟨g, 0, none⟩)) (hv : tmps.getD q undef = v) (hg : Row w g cs t) (hu : P.underlying ty = some (.struct fs)) (hi : (P.info? ty).map (·.size) = some cs.length) :
    (results fn tmps).run P w = .ok (.tuple #[.agg cs.toArray, v]) w := by
  have hp' : tmps[p]?.getD undef = .pointer (some ⟨g, 0, none⟩) := by simpa using hp
  have hv' : tmps[q]?.getD undef = v := by simpa using hv
  have hr := run_loadVar_row (P := P) w g t ty cs.toArray (0, 0) (.struct fs) hg hu rfl (by simp [hi])
  simp [results, h, hp', hv', asAddr, hr]
theorem info_all_A : (Tryd.prog.info? 33).map (fun i => (i.size, i.bytes)) = some (20, 20) := by kernel_rfl
theorem info_zero_A : ((Tryd.prog.info? 33).bind (·.zero)).map (·.cells.size) = some 20 := by kernel_rfl
theorem info_A_open : ∃ ie z, Tryd.prog.info? 33 = some ie ∧ ie.zero = some z ∧ ie.size = 20 ∧ ie.bytes = 20 ∧ z.cells.size = 20 := by
  have i1 := info_all_A
  have i2 := info_zero_A
  cases hi : Tryd.prog.info? 33 with
  | none => rw [hi] at i1; cases i1
  | some ie =>
    rw [hi] at i1 i2
    cases hz : ie.zero with
    | none => simp [hz] at i2
    | some z =>
      have i3 : ie.size = 20 ∧ ie.bytes = 20 := by simpa using i1
      exact ⟨ie, z, rfl, hz, i3.1, i3.2, by simpa [hz] using i2⟩

/-- One part of s cells, laid into s cells. -/
theorem fill_one (s : Nat) (hs : 0 < s) (c cells : Array Value) (hc : c.size = s) (hn : cells.size = s) : Instr.fill (fun i => some (i * s, s)) cells [(0, .agg c)] = some c := by
  obtain ⟨r, hr, hsz, hk⟩ := Great.fill_dense (s := s) hs [.agg c] 0 cells (fun v hv => by obtain rfl := List.mem_singleton.1 hv; exact hc) (by simp; omega)
  have hr' : Instr.fill (fun i => some (i * s, s)) cells [(0, .agg c)] = some r := hr
  rw [hr']
  congr 1
  apply Array.ext_getElem?
  intro k
  rw [hk k]
  by_cases hlt : k < s
  · rw [if_pos (by simp; omega), Nat.div_eq_of_lt hlt, Nat.mod_eq_of_lt hlt]
    rfl
  · rw [if_neg (by simp; omega), Array.getElem?_eq_none (by omega), Array.getElem?_eq_none (by omega)]

section
variable {Q : Exit → Act → World → Prop} {o : Oper} {a : Act} {w : World} {K : Act → World → Prop}
theorem wp_build_A (x : Operand) (ho : o.op = .buildSlice 22 1 #[(0, x)]) (r : List (BitVec 8)) (hr : r.length = 20) (hx : a.eval x = .agg (vB r).toArray)
    (h : K (a.put o.dst (.slice (some ⟨w.heap.size, 0, none⟩) 1 1)) (w.alloc (.cells (vB r).toArray 33))) : Oper.wp Tryd.prog o a w K Q := by
  obtain ⟨ie, z, h1, h2, h3, _, h4⟩ := info_A_open
  refine wp_buildSlice 22 33 1 _ ho _ ie z Tryd.underlying22 h1 h2 (by rw [h3]; decide) (by rw [h3]; decide) ?_ h
  rw [show (Array.map (fun (p : Nat × Operand) => match p with | (i, x) => (i, a.eval x)) #[(0, x)]).toList = [(0, a.eval x)] by simp, hx, h3]
  exact fill_one 20 (by decide) _ _ (by simp [vB_length, hr]) (by simp)
end
section
variable {ops : Array Oper} {rest : List Oper} {o : Oper} {a : Act} {w : World} {Q : Exit → Act → World → Prop}
theorem wpList_build_A (hgd : o.guard = none) (x : Operand) (ho : o.op = .buildSlice 22 1 #[(0, x)]) (r : List (BitVec 8)) (hr : r.length = 20) (hx : a.eval x = .agg (vB r).toArray)
    (h : wpList Tryd.prog ops Q rest (a.put o.dst (.slice (some ⟨w.heap.size, 0, none⟩) 1 1)) (w.alloc (.cells (vB r).toArray 33))) : wpList Tryd.prog ops Q (o :: rest) a w :=
  wpList_plain hgd fun _ hK => wp_build_A x ho r hr hx (hK _ _ h)
end
theorem results_rowSS_tmp {P : Program} {fn : Func} {p p2 q : Tmp} {ty ty2 : TypeId} {fs fs2 : Array Field} (h : fn.results = #[.cell p ty, .cell p2 ty2, .tmp q]) (tmps : Array Value) (w : World) (g g2 : Nat) (t t2 : TypeId) (cs cs2 : List Value) (v : Value)
    (hp : tmps.getD p undef = .pointer (some ⟨g, 0, none⟩)) (hp2 : tmps.getD p2 undef = .pointer (some ⟨g2, 0, none⟩)) (hv : tmps.getD q undef = v) (hg : Row w g cs t) (hg2 : Row w g2 cs2 t2) (hu : P.underlying ty = some (.struct fs)) (hu2 : P.underlying ty2 = some (.struct fs2)) (hi : (P.info? ty).map (·.size) = some cs.length) (hi2 : (P.info? ty2).map (·.size) = some cs2.length) :
    (results fn tmps).run P w = .ok (.tuple #[.agg cs.toArray, .agg cs2.toArray, v]) w := by
  have hp' : tmps[p]?.getD undef = .pointer (some ⟨g, 0, none⟩) := by simpa using hp
  have hq' : tmps[p2]?.getD undef = .pointer (some ⟨g2, 0, none⟩) := by simpa using hp2
  have hv' : tmps[q]?.getD undef = v := by simpa using hv
  have hr := run_loadVar_row (P := P) w g t ty cs.toArray (0, 0) (.struct fs) hg hu rfl (by simp [hi])
  have hr2 := run_loadVar_row (P := P) w g2 t2 ty2 cs2.toArray (0, 0) (.struct fs2) hg2 hu2 rfl (by simp [hi2])
  simp [results, h, hp', hq', hv', asAddr, hr, hr2]
theorem results_rowA_tmp {P : Program} {fn : Func} {p q : Tmp} {ty e : TypeId} {k : Nat} (h : fn.results = #[.cell p ty, .tmp q]) (tmps : Array Value) (w : World) (g : Nat) (t : TypeId) (cs : List Value) (v : Value)
    (hp : tmps.getD p undef = .pointer (some ⟨g, 0, none⟩)) (hv : tmps.getD q undef = v) (hg : Row w g cs t) (hu : P.underlying ty = some (.array k e)) (hi : (P.info? ty).map (·.size) = some cs.length) :
    (results fn tmps).run P w = .ok (.tuple #[.agg cs.toArray, v]) w := by
  have hp' : tmps[p]?.getD undef = .pointer (some ⟨g, 0, none⟩) := by simpa using hp
  have hv' : tmps[q]?.getD undef = v := by simpa using hv
  have hr := run_loadVar_row (P := P) w g t ty cs.toArray (0, 0) (.array k e) hg hu rfl (by simp [hi])
  simp [results, h, hp', hv', asAddr, hr]

abbrev zP : List Value := [.pointer none, .int .u8 0]
abbrev zK : List Value := [.bool false, .bool false, .int .u64 0, .int .u64 0, .int .u64 0, .int .u64 0]
abbrev zL : List Value := [.string ⟨#[]⟩, .int .u64 0, .int .u64 0, .int .u64 0, .int .u64 0]
abbrev zW : List Value := [.int .u64 0, .int .u64 0, .int .u64 0, .int .u64 0]
section
variable {P : Program} {ops : Array Oper} {rest : List Oper} {op : Oper} {a : Act} {w : World} {Q : Exit → Act → World → Prop}
/-- A whole struct, stored. -/
theorem wpList_storeL (hgd : op.guard = none) (ty : TypeId) (x y : Operand) (ho : op.op = .store ty x y) (b : Nat) (L M : List Value) (t : TypeId) (hx : a.eval x = .pointer (some ⟨b, 0, none⟩)) (hy : a.eval y = .agg L.toArray) (r : Row w b M t) (hl : L.length = M.length) (hi : (P.info? ty).map (·.size) = some L.length) (h1 : L.toArray.all (·.oneCell') = true)
    (h : ∀ X, X = w.setCells b 0 L → Row X b L t → wpList P ops Q rest (a.put op.dst undef) X) : wpList P ops Q (op :: rest) a w :=
  wpList_store_mid hgd ty x y ho b 0 L.toArray hx hy (r.there 0 _ (by rw [List.size_toArray, hl, Nat.zero_add]; exact Nat.le_refl _)) (by rw [hi, List.size_toArray]) h1 (h _ rfl (r.over hl))
theorem wpList_boxG (ty : TypeId) (hgd : op.guard = none) (x : Operand) (ho : op.op = .box ty x) (L : List Value) (hx : a.eval x = .agg L.toArray) (h : ∀ X, Row X w.heap.size L ty → Below w.heap.size w X → X.heap.size = w.heap.size + 1 → wpList P ops Q rest (a.put op.dst (.pointer (some ⟨w.heap.size, 0, none⟩))) X) : wpList P ops Q (op :: rest) a w :=
  wpList_plain hgd fun _ hK => by
    unfold Oper.wp execOp
    simp only [ho, hx]
    go_simp
    exact hK _ _ (h _ (Row.new' rfl rfl) ((Below.refl _ _).alloc (Nat.le_refl _) _) (by simp))
theorem wpList_allocP (hgd : op.guard = none) (ho : op.op = .alloc 58) (h : ∀ X, Row X w.heap.size zP 58 → Below w.heap.size w X → X.heap.size = w.heap.size + 1 → wpList Tryd.prog ops Q rest (a.put op.dst (.pointer (some ⟨w.heap.size, 0, none⟩))) X) : wpList Tryd.prog ops Q (op :: rest) a w :=
  wpList_plain hgd fun _ hK => by
    unfold Oper.wp execOp
    simp only [ho]
    go_simp
    exact hK _ _ (h _ (Row.new' (cs := zP) rfl rfl) ((Below.refl _ _).alloc (Nat.le_refl _) _) (by simp))
theorem wpList_allocK (hgd : op.guard = none) (ho : op.op = .alloc 44) (h : ∀ X, Row X w.heap.size zK 44 → Below w.heap.size w X → X.heap.size = w.heap.size + 1 → wpList Tryd.prog ops Q rest (a.put op.dst (.pointer (some ⟨w.heap.size, 0, none⟩))) X) : wpList Tryd.prog ops Q (op :: rest) a w :=
  wpList_plain hgd fun _ hK => by
    unfold Oper.wp execOp
    simp only [ho]
    go_simp
    exact hK _ _ (h _ (Row.new' (cs := zK) rfl rfl) ((Below.refl _ _).alloc (Nat.le_refl _) _) (by simp))
theorem wpList_allocL (hgd : op.guard = none) (ho : op.op = .alloc 65) (h : ∀ X, Row X w.heap.size zL 65 → Below w.heap.size w X → X.heap.size = w.heap.size + 1 → wpList Tryd.prog ops Q rest (a.put op.dst (.pointer (some ⟨w.heap.size, 0, none⟩))) X) : wpList Tryd.prog ops Q (op :: rest) a w :=
  wpList_plain hgd fun _ hK => by
    unfold Oper.wp execOp
    simp only [ho]
    go_simp
    exact hK _ _ (h _ (Row.new' (cs := zL) rfl rfl) ((Below.refl _ _).alloc (Nat.le_refl _) _) (by simp))
theorem wpList_allocW (hgd : op.guard = none) (ho : op.op = .alloc 25) (h : ∀ X, Row X w.heap.size zW 25 → Below w.heap.size w X → X.heap.size = w.heap.size + 1 → wpList Tryd.prog ops Q rest (a.put op.dst (.pointer (some ⟨w.heap.size, 0, none⟩))) X) : wpList Tryd.prog ops Q (op :: rest) a w :=
  wpList_plain hgd fun _ hK => by
    unfold Oper.wp execOp
    simp only [ho]
    go_simp
    exact hK _ _ (h _ (Row.new' (cs := zW) rfl rfl) ((Below.refl _ _).alloc (Nat.le_refl _) _) (by simp))
end
section
variable {o : Oper} {a : Act} {w : World} {K : Act → World → Prop} {Q : Exit → Act → World → Prop}
theorem wp_appb (s x : Operand) (ho : o.op = .call { callee := .builtin .append, args := #[s, x], argTypes := #[52, 52] }) (g g2 k m t : Nat) (d news : List (BitVec 8)) (hd : d.length = k) (hm : news.length = m) (ht : k + m = t) (h0 : 0 < m) (hk : t ≤ 1000) (hs : a.eval s = .slice (some ⟨g, 0, none⟩) k k) (hr : Row w g (vB d) 5) (hx : a.eval x = .slice (some ⟨g2, 0, none⟩) m m) (hr2 : Row w g2 (vB news) 5)
    (h : ∀ A c w', Bw w' (.slice A t c) (d ++ news) → (A = none → False) → Below w.heap.size w w' → K (a.put o.dst (.slice A t c)) w') : Oper.wp Tryd.prog o a w K Q := by
  obtain ⟨ie, z, h1, h2, h3, h5, h4⟩ := info_u8open
  obtain ⟨v', w', hrun, r1, r2⟩ := run_append_arg_grows (P := Tryd.prog) w 52 o.type 5 ie z 1 1 Tryd.underlying52 h1 h2 h3 h5 h4 (by decide) ⟨g, 0, none⟩ k k (vB d) (by rw [vB_length, hd, Nat.mul_one]) (fun j u hj => by rw [Addr.add_mid]; exact hr.all j u hj) ⟨g2, 0, none⟩ m m (vB news) (by rw [vB_length, hm, Nat.mul_one]) (fun j u hj => by rw [Addr.add_mid]; exact hr2.all j u hj) (by omega) (by unfold maxLen; omega) (by omega)
  have hbw : Bw w' v' (d ++ news) := by
    obtain ⟨q1, q2⟩ := r1
    refine ⟨by rw [List.length_append, hd, hm]; simp [vB_length, hd, hm], ?_⟩
    rcases q2 with ⟨_, q3⟩ | ⟨g', cap', cur, q3, _, q4, q5, q6, q7, q8⟩
    · omega
    · refine .inr ⟨g', cap', cur, by rw [List.length_append, hd, hm]; exact q3, Nat.zero_le _, q4, by rw [List.length_append, hd, hm]; exact q5, q6, q7, ?_⟩
      rw [List.length_append, hd, hm, vB_app]
      exact q8
  obtain ⟨A, c, hv, _, _⟩ := Bw.form hbw
  rw [List.length_append, hd, hm, ht] at hv
  subst hv
  have hB : Below w.heap.size w w' := (Below.refl _ _).grown r2 (Nat.le_refl _) (fun k e => by cases e)
  unfold Oper.wp
  simp [execOp, ho, resolve, invoke, builtin, hs, hx, hrun, Result.andThen]
  exact h A c w' hbw (fun e => by have := sl_nil hbw e; omega) hB
theorem wp_f_p0 {x : Operand} (b : Nat) (ho : o.op = .fieldAddr 58 x 0) (hx : a.eval x = .pointer (some ⟨b, 0, none⟩)) (h : K (a.put o.dst (.pointer (some ⟨b, 0, none⟩))) w) : Oper.wp Tryd.prog o a w K Q := by
  unfold Oper.wp execOp
  simp only [ho, hx]
  go_simp
  exact h
theorem wp_f_t2 {x : Operand} (b : Nat) (ho : o.op = .fieldAddr 44 x 2) (hx : a.eval x = .pointer (some ⟨b, 0, none⟩)) (h : K (a.put o.dst (.pointer (some ⟨b, 2, none⟩))) w) : Oper.wp Tryd.prog o a w K Q := by
  unfold Oper.wp execOp
  simp only [ho, hx]
  go_simp
  exact h
theorem wp_f_l {x : Operand} (b k : Nat) (hk : k = 0 ∨ k = 1) (ho : o.op = .fieldAddr 65 x k) (hx : a.eval x = .pointer (some ⟨b, 0, none⟩)) (h : K (a.put o.dst (.pointer (some ⟨b, k, none⟩))) w) : Oper.wp Tryd.prog o a w K Q := by
  unfold Oper.wp execOp
  rcases hk with rfl | rfl <;> simp only [ho, hx] <;> go_simp <;> exact h
theorem wp_loadp {x : Operand} (ho : o.op = .load 29 x) (b f : Nat) (hx : a.eval x = .pointer (some ⟨b, f, none⟩)) (p : Option Addr) (hc : w.cell? ⟨b, f, none⟩ = some (.pointer p)) (h : K (a.put o.dst (.pointer p)) w) : Oper.wp Tryd.prog o a w K Q := by
  unfold Oper.wp execOp
  simp only [ho, hx]
  go_simp
  exact h
theorem wp_loads {x : Operand} (ho : o.op = .load 9 x) (b f : Nat) (hx : a.eval x = .pointer (some ⟨b, f, none⟩)) (p : ByteArray) (hc : w.cell? ⟨b, f, none⟩ = some (.string p)) (h : K (a.put o.dst (.string p)) w) : Oper.wp Tryd.prog o a w K Q := by
  unfold Oper.wp execOp
  simp only [ho, hx]
  go_simp
  exact h
end
theorem zero_u8 : ((Tryd.prog.info? 5).bind (·.zero)).isSome = true := by kernel_rfl
/-- Bytes that are new. -/
def SP.by (n : Nat) (d : List (BitVec 8)) : SP := ⟨fun W v => ∃ N, v = .slice (some ⟨N, 0, none⟩) n n ∧ Row W N (vB d) 5, fun _ _ _ hB ⟨N, e, r⟩ => ⟨N, e, Row.below r hB (Row.lt r)⟩⟩
/-- Bytes that are somebody's. -/
def SP.own (n : Nat) (d : List (BitVec 8)) : SP := ⟨fun W v => ∃ A c, v = .slice A n c ∧ Bw W (.slice A n c) d ∧ (A = none → False), fun _ _ _ hB ⟨A, c, e, r, h⟩ => ⟨A, c, e, Bw.be r hB, h⟩⟩
theorem Lg.below {w0 w w' : World} {S q : Nat} {f : ByteArray → List (BitVec 8)} (h : Lg w0 w S q f) (b : Below w.heap.size w w') : Lg w0 w' S q f := h.be b
theorem Kp.below {w w1 w' : World} (h : Kp w w1) (b : Below w1.heap.size w1 w') : Kp w w' := h.trans (Kp.of_below b)
def toU (l : List (BitVec 8)) : List UInt8 := l.map UInt8.ofBitVec
theorem vB_cell (l : List (BitVec 8)) : vB l = (toU l).map Extern.Stop.cell := by
  unfold vB toU; rw [List.map_map]; rfl
theorem toU_length (l : List (BitVec 8)) : (toU l).length = l.length := by simp [toU]
theorem toU_inj {l r : List (BitVec 8)} (h : toU l = toU r) : l = r := by
  unfold toU at h
  exact (List.map_inj_right (fun x y h => congrArg UInt8.toBitVec h)).1 h
theorem toU_beq (l r : List (BitVec 8)) : (toU l == toU r) = decide (l = r) := by
  rw [Bool.eq_iff_iff]; simp only [beq_iff_eq, decide_eq_true_eq]
  exact ⟨toU_inj, fun h => by rw [h]⟩

section
variable {P : Program}
theorem run_eql_vB (w : World) (t e : TypeId) (n : Nat) (ht : P.underlying t = some (.array n e)) (he : P.underlying e = some (.int .u8)) (hs : (P.info? e).map (·.size) = some 1) (l r : List (BitVec 8)) (hl : l.length = n) (hr : r.length = n) :
    (binOp .eql t (.agg (vB l).toArray) (.agg (vB r).toArray)).run P w = .ok (.bool (decide (l = r))) w := by
  have hsz : ∀ w, (sizeOf e).run P w = .ok 1 w := by
    intro w
    cases hq : P.info? e with
    | none => simp [hq] at hs
    | some i => have h1 : i.size = 1 := by simpa [hq] using hs
                simp [sizeOf, typeInfo, hq, h1]
  rw [vB_cell, vB_cell, run_eql_bytes w t e n ht he hsz (toU l) (toU r) (by rw [toU_length, hl]) (by rw [toU_length, hr]), toU_beq]

end
theorem guardA : Tryd.prog.eqGuardType Tryd.prog.depth 33 = false := by kernel_rfl
section
variable {ops : Array Oper} {rest : List Oper} {op : Oper} {a : Act} {w : World} {Q : Exit → Act → World → Prop}
theorem wpList_eqlA (hw : Region.wanted op (yielded ops a.tmps) = true) (x y : Operand) (yt : TypeId) (ho : op.op = .binOp .eql 33 x y yt) (l r : List (BitVec 8)) (hl : l.length = 20) (hr : r.length = 20) (hx : a.eval x = .agg (vB l).toArray) (hy : a.eval y = .agg (vB r).toArray)
    (B : Bool) (hB : decide (l = r) = B) (h : wpList Tryd.prog ops Q rest (a.put op.dst (.bool B)) w) : wpList Tryd.prog ops Q (op :: rest) a w :=
  BigFrame.wpList_want hw fun _ hK => by
    have hr := run_eql_vB (P := Tryd.prog) w 33 5 20 Tryd.underlying33 Tryd.underlying5 info_u8 l r hl hr
    rw [hB] at hr
    unfold Oper.wp execOp
    simp only [ho, hx, hy, Sem.run_bind, run_eqGuard_agg w .eql 33 x y _ _ guardA, Result.andThen_ok, hr, Sem.run_pure, Oper.upon_value]
    exact hK _ _ h
end
theorem info_all_L : (Tryd.prog.info? 65).map (fun i => (i.size, i.bytes)) = some (5, 48) := by kernel_rfl
theorem info_zero_L : ((Tryd.prog.info? 65).bind (·.zero)).map (·.cells.size) = some 5 := by kernel_rfl
theorem info_L_open : ∃ ie z, Tryd.prog.info? 65 = some ie ∧ ie.zero = some z ∧ ie.size = 5 ∧ z.cells.size = 5 := by
  have i1 := info_all_L
  have i2 := info_zero_L
  cases hi : Tryd.prog.info? 65 with
  | none => rw [hi] at i1; cases i1
  | some ie =>
    rw [hi] at i1 i2
    cases hz : ie.zero with
    | none => simp [hz] at i2
    | some z =>
      have i3 : ie.size = 5 ∧ ie.bytes = 48 := by simpa using i1
      exact ⟨ie, z, rfl, hz, i3.1, by simpa [hz] using i2⟩
/-- Two parts of s cells. -/
theorem fill_two (s : Nat) (hs : 0 < s) (c d cells : Array Value) (hc : c.size = s) (hd : d.size = s) (hn : cells.size = 2 * s) : Instr.fill (fun i => some (i * s, s)) cells [(0, .agg c), (1, .agg d)] = some (c ++ d) := by
  obtain ⟨r, hr, hsz, hk⟩ := Great.fill_dense (s := s) hs [.agg c, .agg d] 0 cells (fun v hv => by
    simp only [List.mem_cons, List.not_mem_nil, or_false] at hv
    rcases hv with rfl | rfl
    · exact hc
    · exact hd) (by simp; omega)
  have hr' : Instr.fill (fun i => some (i * s, s)) cells [(0, .agg c), (1, .agg d)] = some r := hr
  rw [hr']
  congr 1
  apply Array.ext_getElem?
  intro k
  rw [hk k]
  by_cases h1 : k < s
  · rw [if_pos (by simp; omega), Nat.div_eq_of_lt h1, Nat.mod_eq_of_lt h1, Array.getElem?_append_left (by omega)]
    rfl
  · by_cases h2 : k < 2 * s
    · have e1 : k / s = 1 := by
        rw [Nat.div_eq_iff hs]
        omega
      have e2 : k % s = k - s := by
        have := Nat.div_add_mod k s
        rw [e1] at this
        omega
      rw [if_pos (by simp; omega), e1, e2, Array.getElem?_append_right (by omega), hc]
      rfl
    · rw [if_neg (by simp; omega), Array.getElem?_eq_none (by omega), Array.getElem?_eq_none (by simp; omega)]
section
variable {ops : Array Oper} {rest : List Oper} {o : Oper} {a : Act} {w : World} {Q : Exit → Act → World → Prop}
theorem wpList_buildL1 (hgd : o.guard = none) (x : Operand) (ho : o.op = .buildSlice 70 1 #[(0, x)]) (L : List Value) (hl : L.length = zL.length) (hx : a.eval x = .agg L.toArray)
    (h : ∀ X, Row X w.heap.size L 65 → Below w.heap.size w X → wpList Tryd.prog ops Q rest (a.put o.dst (.slice (some ⟨w.heap.size, 0, none⟩) 1 1)) X) : wpList Tryd.prog ops Q (o :: rest) a w :=
  wpList_plain hgd fun _ hK => by
    obtain ⟨ie, z, h1, h2, h3, h4⟩ := info_L_open
    refine wp_buildSlice 70 65 1 _ ho L.toArray ie z Tryd.underlying70 h1 h2 (by rw [h3]; decide) (by rw [h3]; decide) ?_ (hK _ _ (h _ (Row.new' rfl rfl) ((Below.refl _ _).alloc (Nat.le_refl _) _)))
    rw [show (Array.map (fun (p : Nat × Operand) => match p with | (i, x) => (i, a.eval x)) #[(0, x)]).toList = [(0, a.eval x)] by simp, hx, h3]
    exact fill_one 5 (by decide) _ _ (by simpa using hl) (by simp)
theorem wpList_buildL2 (hgd : o.guard = none) (x y : Operand) (ho : o.op = .buildSlice 70 2 #[(0, x), (1, y)]) (L M : List Value) (hl : L.length = zL.length) (hm : M.length = zL.length) (hx : a.eval x = .agg L.toArray) (hy : a.eval y = .agg M.toArray)
    (h : ∀ X, Row X w.heap.size (L ++ M) 65 → Below w.heap.size w X → wpList Tryd.prog ops Q rest (a.put o.dst (.slice (some ⟨w.heap.size, 0, none⟩) 2 2)) X) : wpList Tryd.prog ops Q (o :: rest) a w :=
  wpList_plain hgd fun _ hK => by
    obtain ⟨ie, z, h1, h2, h3, h4⟩ := info_L_open
    refine wp_buildSlice 70 65 2 _ ho (L.toArray ++ M.toArray) ie z Tryd.underlying70 h1 h2 (by rw [h3]; decide) (by rw [h3]; decide) ?_ (hK _ _ (h _ (Row.new' rfl (by simp)) ((Below.refl _ _).alloc (Nat.le_refl _) _)))
    rw [show (Array.map (fun (p : Nat × Operand) => match p with | (i, x) => (i, a.eval x)) #[(0, x), (1, y)]).toList = [(0, a.eval x), (1, a.eval y)] by simp, hx, hy, h3]
    exact fill_two 5 (by decide) _ _ _ (by simpa using hl) (by simpa using hm) (by simp)
end
section
variable {o : Oper} {a : Act} {w : World} {K : Act → World → Prop} {Q : Exit → Act → World → Prop}
theorem wp_allocLn (ho : o.op = .alloc 65) (h : K (a.put o.dst (.pointer (some ⟨w.heap.size, 0, none⟩))) (w.alloc (Obj.cells zL.toArray 65))) : Oper.wp Tryd.prog o a w K Q := by
  unfold Oper.wp execOp
  simp only [ho]
  go_simp
  exact h
end
theorem info_adr {l : List (BitVec 8)} (h : l.length = 20) : (Tryd.prog.info? 33).map (·.size) = some (vB l).length := by
  rw [vB_length, h]
  kernel_rfl
theorem bw_open {w : World} {A : Option Addr} {n c : Nat} {d : List (BitVec 8)} (h : Bw w (.slice A n c) d) (h0 : 0 < n) : ∃ g, A = some ⟨g, 0, none⟩ ∧ n ≤ c ∧ w.rangeAt g 0 (vB d) := by
  obtain ⟨h1, h2⟩ := h
  rcases h2 with ⟨hv, hn⟩ | ⟨g, cap, cur, hv, hg, hh, hc, hm, hs, hx⟩
  · simp only [Value.slice.injEq] at hv
    omega
  · simp only [Value.slice.injEq] at hv
    obtain ⟨rfl, rfl, rfl⟩ := hv
    refine ⟨g, rfl, hc, fun j u hj => ?_⟩
    rw [← hx] at hj
    have hlt : j < d.length * 1 := by have := (List.getElem?_eq_some_iff.1 hj).1; rw [List.length_take] at this; omega
    rw [List.getElem?_take_of_lt hlt] at hj
    rw [Nat.zero_add, cell_of_row w g j cur _ (0, 0) hh]
    simpa using hj

theorem wq_zW : wq 0 = zW := wq_zero
theorem tkl_zK : tkl false false 0 = zK := by unfold tkl; rw [wq_zero]
theorem guardTk : Tryd.prog.eqGuardType Tryd.prog.depth 44 = false := by kernel_rfl
theorem guardW : Tryd.prog.eqGuardType Tryd.prog.depth 25 = false := by kernel_rfl
theorem sz_u64 (w : World) : (sizeOf 23).run Tryd.prog w = .ok 1 w := by
  go_simp
theorem eqWg (d a b : Nat) (ha : a < 2 ^ 256) (hb : b < 2 ^ 256) (w : World) : (Op.equalIn (d + 2) 25 (.agg (wq a).toArray) (.agg (wq b).toArray)).run Tryd.prog w = .ok (decide (a = b)) w := by
  have q := run_equalIn_vQ (P := Tryd.prog) (w := w) d 25 23 4 Tryd.underlying25 Tryd.underlying23 sz_u64 (dgs a 4) (dgs b 4) (dgs_length _ _) (dgs_length _ _)
  rw [show decide (dgs a 4 = dgs b 4) = decide (a = b) from by rw [Bool.eq_iff_iff, decide_eq_true_eq, decide_eq_true_eq]; exact dgs_eq a b ha hb] at q
  exact q
theorem tok_zz (w : World) : (binOp .neq 44 (.agg zK.toArray) (.agg zK.toArray)).run Tryd.prog w = .ok (.bool false) w := by
  have hW : ∀ w, (Op.equalIn 9999 25 (.agg #[.int .u64 0, .int .u64 0, .int .u64 0, .int .u64 0]) (.agg #[.int .u64 0, .int .u64 0, .int .u64 0, .int .u64 0])).run Tryd.prog w = .ok true w := fun w => by
    have := eqWg 9997 0 0 (by decide) (by decide) w
    rw [wq_zero] at this
    exact this
  go_simp
theorem tok_rz (a : Nat) (w : World) : (binOp .eql 44 (.agg (tkl true false a).toArray) (.agg zK.toArray)).run Tryd.prog w = .ok (.bool false) w := by
  unfold tkl
  rw [wq_cells]
  go_simp
theorem tok_rp (a : Nat) (w : World) : (binOp .eql 44 (.agg (tkl true false a).toArray) (.agg (tkl true true a).toArray)).run Tryd.prog w = .ok (.bool false) w := by
  unfold tkl
  rw [wq_cells]
  go_simp
theorem build_tok0 (w : World) : (Instr.build 44 #[]).run Tryd.prog w = .ok (.agg zK.toArray) w := by
  go_simp
theorem build_sup (a : Nat) (w : World) : (Instr.build 44 #[(2, .agg (wq a).toArray)]).run Tryd.prog w = .ok (.agg (tkl false false a).toArray) w := by
  unfold tkl
  rw [wq_cells]
  go_simp
theorem build_run (a : Nat) (w : World) : (Instr.build 44 #[(0, .bool true), (2, .agg (wq a).toArray)]).run Tryd.prog w = .ok (.agg (tkl true false a).toArray) w := by
  unfold tkl
  rw [wq_cells]
  go_simp
theorem build_pau (a : Nat) (w : World) : (Instr.build 44 #[(0, .bool true), (1, .bool true), (2, .agg (wq a).toArray)]).run Tryd.prog w = .ok (.agg (tkl true true a).toArray) w := by
  unfold tkl
  rw [wq_cells]
  go_simp
theorem build_lin (s : ByteArray) (a : Nat) (w : World) : (Instr.build 65 #[(0, .string s), (1, .agg (wq a).toArray)]).run Tryd.prog w = .ok (.agg (lnl s a).toArray) w := by
  unfold lnl
  rw [wq_cells]
  go_simp
theorem build_lin0 (w : World) : (Instr.build 65 #[]).run Tryd.prog w = .ok (.agg zL.toArray) w := by
  go_simp
theorem build_wd0 (w : World) : (Instr.build 25 #[]).run Tryd.prog w = .ok (.agg zW.toArray) w := by
  go_simp
section
variable {ops : Array Oper} {rest : List Oper} {op : Oper} {a : Act} {w : World} {Q : Exit → Act → World → Prop}
/-- A struct that is built, its value known. -/
theorem wpList_bld (hw : Region.wanted op (yielded ops a.tmps) = true) (ty : TypeId) (parts : Array (Nat × Operand)) (ho : op.op = .build ty parts) (vals : Array (Nat × Value)) (hv : (parts.toList.map fun (p : Nat × Operand) => match p with | (i, x) => (i, a.eval x)) = vals.toList) (L : List Value) (hr : ∀ w, (Instr.build ty vals).run Tryd.prog w = .ok (.agg L.toArray) w) (h : wpList Tryd.prog ops Q rest (a.put op.dst (.agg L.toArray)) w) : wpList Tryd.prog ops Q (op :: rest) a w :=
  BigFrame.wpList_want hw fun _ hK => by
    have hr := hr w
    have hv2 : (parts.map fun (p : Nat × Operand) => match p with | (i, x) => (i, a.eval x)) = vals := by
      apply Array.toList_inj.1
      rw [Array.toList_map]
      exact hv
    unfold Oper.wp execOp
    simp only [ho, hv2, Sem.run_bind, hr, Result.andThen_ok, Sem.run_pure, Oper.upon_value]
    exact hK _ _ h
theorem wpList_cmpK (hgd : op.guard = none) (bo : BinOp) (x y : Operand) (yt : TypeId) (ho : op.op = .binOp bo 44 x y yt) (L M : List Value) (hx : a.eval x = .agg L.toArray) (hy : a.eval y = .agg M.toArray) (B : Bool)
    (hr : ∀ w, (binOp bo 44 (.agg L.toArray) (.agg M.toArray)).run Tryd.prog w = .ok (.bool B) w) (h : wpList Tryd.prog ops Q rest (a.put op.dst (.bool B)) w) : wpList Tryd.prog ops Q (op :: rest) a w :=
  wpList_plain hgd fun _ hK => by
    unfold Oper.wp execOp
    simp only [ho, hx, hy, Sem.run_bind, run_eqGuard_agg w bo 44 x y _ _ guardTk, Result.andThen_ok, hr, Sem.run_pure, Oper.upon_value]
    exact hK _ _ h
theorem wpList_eqlWg (hw : Region.wanted op (yielded ops a.tmps) = true) (x y : Operand) (yt : TypeId) (ho : op.op = .binOp .eql 25 x y yt) (m n : Nat) (hm : m < 2 ^ 256) (hn : n < 2 ^ 256) (hx : a.eval x = .agg (wq m).toArray) (hy : a.eval y = .agg (wq n).toArray)
    (B : Bool) (hB : decide (m = n) = B) (h : wpList Tryd.prog ops Q rest (a.put op.dst (.bool B)) w) : wpList Tryd.prog ops Q (op :: rest) a w :=
  BigFrame.wpList_want hw fun _ hK => by
    have hr := eqWg 9998 m n hm hn
    unfold Oper.wp execOp
    simp only [ho, hx, hy, Sem.run_bind, run_eqGuard_agg w .eql 25 x y _ _ guardW, run_eql_struct, Result.andThen_ok, hr, hB, Sem.run_pure, Oper.upon_value]
    exact hK _ _ h
end
section
variable {o : Oper} {a : Act} {w : World} {K : Act → World → Prop} {Q : Exit → Act → World → Prop}
theorem wp_cmpK (bo : BinOp) (x y : Operand) (yt : TypeId) (ho : o.op = .binOp bo 44 x y yt) (L M : List Value) (hx : a.eval x = .agg L.toArray) (hy : a.eval y = .agg M.toArray) (B : Bool)
    (hr : ∀ w, (binOp bo 44 (.agg L.toArray) (.agg M.toArray)).run Tryd.prog w = .ok (.bool B) w) (h : K (a.put o.dst (.bool B)) w) : Oper.wp Tryd.prog o a w K Q := by
  unfold Oper.wp execOp
  simp only [ho, hx, hy, Sem.run_bind, run_eqGuard_agg w bo 44 x y _ _ guardTk, Result.andThen_ok, hr, Sem.run_pure, Oper.upon_value]
  exact h
end

end Go.Proofs.YtelioddogdcdoaaDoor
