/-
  tickets and addresses compared; rows beside a state.
-/
import Derived.Test.YtobmhggfkgcnfaaDoorTkG
import Derived.Stop.BytesEq
namespace Go.Proofs.YtobmhggfkgcnfaaDoor
open Go Go.RowKit Go.Maps
open Sha
open Wd

def toU (l : List (BitVec 8)) : List UInt8 := l.map UInt8.ofBitVec
theorem vB_cell (l : List (BitVec 8)) : vB l = (toU l).map Extern.Stop.cell := by
  unfold vB toU; rw [List.map_map]; rfl
theorem toU_length (l : List (BitVec 8)) : (toU l).length = l.length := by simp [toU]
theorem toU_inj {l r : List (BitVec 8)} (h : toU l = toU r) : l = r := by
  unfold toU at h
  exact (List.map_inj_right (fun x y h => congrArg UInt8.toBitVec h)).1 h
theorem toU_beq (l r : List (BitVec 8)) : (toU l == toU r) = decide (l = r) := by
  rw [Bool.eq_iff_iff]; simp only [beq_iff_eq, decide_eq_true_eq]
  exact ⟨toU_inj, fun h => by rw [h]⟩

section
variable {P : Program}
theorem run_neq_vB (w : World) (t e : TypeId) (n : Nat) (ht : P.underlying t = some (.array n e)) (he : P.underlying e = some (.int .u8)) (hs : (P.info? e).map (·.size) = some 1) (l r : List (BitVec 8)) (hl : l.length = n) (hr : r.length = n) :
    (binOp .neq t (.agg (vB l).toArray) (.agg (vB r).toArray)).run P w = .ok (.bool (!decide (l = r))) w := by
  have hsz : ∀ w, (sizeOf e).run P w = .ok 1 w := by
    intro w
    cases hq : P.info? e with
    | none => simp [hq] at hs
    | some i => have h1 : i.size = 1 := by simpa [hq] using hs
                simp [sizeOf, typeInfo, hq, h1]
  rw [vB_cell, vB_cell, run_neq_struct, run_equalIn_bytes w 9998 t e n ht he hsz (toU l) (toU r) (by rw [toU_length, hl]) (by rw [toU_length, hr])]
  simp [← toU_beq]
end
theorem heap_sets (w : World) (g o : Nat) (vs : List Value) (k : Nat) (h : k ≠ g) : (w.setCells g o vs).heap[k]? = w.heap[k]? := by
  induction vs generalizing w o with
  | nil => rfl
  | cons v r ih => exact (ih (w.setCell ⟨g, o, none⟩ v) (o + 1)).trans (Below.heap_setCell _ _ _ _ h)
/-- A row that is none of the state's is written over. -/
theorem Lg.kept {w0 w w' : World} {S q : Nat} {f : ByteArray → List (BitVec 8)} (h : Lg w0 w S q f) {b : Nat} {cs : List Value} {t : TypeId} (r : Row w b cs t) (h1 : t ≠ tC) (h2 : t ≠ tS) (h3 : t ≠ tT) (h4 : t ≠ 5) (hk : ∀ k, k ≠ b → w'.heap[k]? = w.heap[k]?) (hB : Below w0.heap.size w0 w') : Lg w0 w' S q f := by
  obtain ⟨T, m, k, E, hkq, h⟩ := h
  have hr : ∀ {g cs u}, Row w g cs u → u ≠ t → Row w' g cs u := fun {g cs u} r' hu => (hk g (row_neT r' r hu)).trans r'
  refine ⟨T, m, k, E, hkq, hr h.tab (fun e => h3 e.symm), ⟨hr h.sv.row (fun e => h2 e.symm), Mp.block h.sv.map (hk m (Mp.ne h.sv.map r))⟩, h.isM, h.lo, hB, fun s hs => ?_, h.inj, h.len⟩
  rcases h.at_ s hs with e | ⟨C, v, A, c, e, r', b', l⟩
  · exact .inl e
  · exact .inr ⟨C, v, A, c, e, hr r' (fun e => h1 e.symm), Bw.block b' (fun g hg => hk g (Bw.ne b' r h4 g hg)), l⟩
theorem Kp.kept {w w' : World} (b : Nat) (hb : b ≥ w.heap.size) {w1 : World} (h : Kp w w1) (hk : ∀ k, k ≠ b → w'.heap[k]? = w1.heap[k]?) (hs : w1.heap.size ≤ w'.heap.size) : Kp w w' := ⟨fun g cs t ht r => (hk g (by have := r.lt; omega)).trans (h.row g cs t ht r), Nat.le_trans h.size hs⟩
theorem guardA : Tryd.prog.eqGuardType Tryd.prog.depth 24 = false := by kernel_rfl
theorem guardT : Tryd.prog.eqGuardType Tryd.prog.depth 29 = false := by kernel_rfl
theorem sz_u8 (w : World) : (sizeOf 5).run Tryd.prog w = .ok 1 w := by
  obtain ⟨ie, z, h1, _, h3, _, _⟩ := info_u8open
  simp [sizeOf, typeInfo, h1, h3]
theorem sz_u64 (w : World) : (sizeOf 25).run Tryd.prog w = .ok 1 w := by
  go_simp
theorem eqA (w : World) : (Op.equalIn 9999 24 (.agg #[.int .u8 0, .int .u8 0, .int .u8 0, .int .u8 0, .int .u8 0, .int .u8 0, .int .u8 0, .int .u8 0, .int .u8 0, .int .u8 0, .int .u8 0, .int .u8 0, .int .u8 0, .int .u8 0, .int .u8 0, .int .u8 0, .int .u8 0, .int .u8 0, .int .u8 0, .int .u8 0]) (.agg #[.int .u8 0, .int .u8 0, .int .u8 0, .int .u8 0, .int .u8 0, .int .u8 0, .int .u8 0, .int .u8 0, .int .u8 0, .int .u8 0, .int .u8 0, .int .u8 0, .int .u8 0, .int .u8 0, .int .u8 0, .int .u8 0, .int .u8 0, .int .u8 0, .int .u8 0, .int .u8 0])).run Tryd.prog w = .ok true w := by
  have q := run_equalIn_bytes (P := Tryd.prog) w 9997 24 5 20 Tryd.underlying24 Tryd.underlying5 sz_u8 (toU (List.replicate 20 0#8)) (toU (List.replicate 20 0#8)) rfl rfl
  rw [toU_beq, decide_eq_true rfl, ← vB_cell] at q
  exact q
theorem eqW (a : Nat) (w : World) : (Op.equalIn 9999 27 (.agg #[.int .u64 (a : Int), .int .u64 0, .int .u64 0, .int .u64 0]) (.agg #[.int .u64 (a : Int), .int .u64 0, .int .u64 0, .int .u64 0])).run Tryd.prog w = .ok true w := by
  have q := run_equalIn_vQ (P := Tryd.prog) (w := w) 9997 27 25 4 Tryd.underlying27 Tryd.underlying25 sz_u64 [a, 0, 0, 0] [a, 0, 0, 0] rfl rfl
  rw [decide_eq_true rfl] at q
  exact q
set_option maxRecDepth 100000 in
set_option maxHeartbeats 4000000 in
theorem eqT1 (L : List Value) (hL : L = tkc 1 (List.replicate 20 0#8) (List.replicate 20 0#8)) (w : World) : (binOp .eql 29 (.agg L.toArray) (.agg L.toArray)).run Tryd.prog w = .ok (.bool true) w := by
  have hA := fun w => eqA w
  have hW : ∀ w, (Op.equalIn 9999 27 (.agg #[.int .u64 256, .int .u64 0, .int .u64 0, .int .u64 0]) (.agg #[.int .u64 256, .int .u64 0, .int .u64 0, .int .u64 0])).run Tryd.prog w = .ok true w := fun w => eqW 256 w
  have e : tkc 1 (List.replicate 20 0#8) (List.replicate 20 0#8) = [.int .i64 1, .int .i64 7, .int .u8 0, .int .u8 0, .int .u8 0, .int .u8 0, .int .u8 0, .int .u8 0, .int .u8 0, .int .u8 0, .int .u8 0, .int .u8 0, .int .u8 0, .int .u8 0, .int .u8 0, .int .u8 0, .int .u8 0, .int .u8 0, .int .u8 0, .int .u8 0, .int .u8 0, .int .u8 0, .int .i64 3, .int .u8 0, .int .u8 0, .int .u8 0, .int .u8 0, .int .u8 0, .int .u8 0, .int .u8 0, .int .u8 0, .int .u8 0, .int .u8 0, .int .u8 0, .int .u8 0, .int .u8 0, .int .u8 0, .int .u8 0, .int .u8 0, .int .u8 0, .int .u8 0, .int .u8 0, .int .u8 0, .int .u64 256, .int .u64 0, .int .u64 0, .int .u64 0] := rfl
  rw [hL, e]
  clear hL e
  go_simp
set_option maxRecDepth 100000 in
set_option maxHeartbeats 4000000 in
theorem eqT0 (L : List Value) (hL : L = tz 0) (w : World) : (binOp .eql 29 (.agg L.toArray) (.agg L.toArray)).run Tryd.prog w = .ok (.bool true) w := by
  have hA := fun w => eqA w
  have hW : ∀ w, (Op.equalIn 9999 27 (.agg #[.int .u64 0, .int .u64 0, .int .u64 0, .int .u64 0]) (.agg #[.int .u64 0, .int .u64 0, .int .u64 0, .int .u64 0])).run Tryd.prog w = .ok true w := fun w => eqW 0 w
  rw [hL]
  clear hL
  go_simp
section
variable {ops : Array Oper} {rest : List Oper} {op : Oper} {a : Act} {w : World} {Q : Exit → Act → World → Prop}
theorem wpList_eqlT (hw : Region.wanted op (yielded ops a.tmps) = true) (x y : Operand) (yt : TypeId) (ho : op.op = .binOp .eql 29 x y yt) (L : List Value) (hx : a.eval x = .agg L.toArray) (hy : a.eval y = .agg L.toArray)
    (hr : ∀ w, (binOp .eql 29 (.agg L.toArray) (.agg L.toArray)).run Tryd.prog w = .ok (.bool true) w) (h : wpList Tryd.prog ops Q rest (a.put op.dst (.bool true)) w) : wpList Tryd.prog ops Q (op :: rest) a w :=
  BigFrame.wpList_want hw fun _ hK => by
    unfold Oper.wp execOp
    simp only [ho, hx, hy, Sem.run_bind, run_eqGuard_agg w .eql 29 x y _ _ guardT, Result.andThen_ok, hr, Sem.run_pure, Oper.upon_value]
    exact hK _ _ h
theorem wpList_neqA (hgd : op.guard = none) (x y : Operand) (yt : TypeId) (ho : op.op = .binOp .neq 24 x y yt) (l : List (BitVec 8)) (hl : l.length = 20) (hx : a.eval x = .agg (vB l).toArray) (hy : a.eval y = .agg (vB l).toArray)
    (h : wpList Tryd.prog ops Q rest (a.put op.dst (.bool false)) w) : wpList Tryd.prog ops Q (op :: rest) a w :=
  wpList_plain hgd fun _ hK => by
    have hr := run_neq_vB (P := Tryd.prog) w 24 5 20 Tryd.underlying24 Tryd.underlying5 info_u8 l l hl hl
    rw [decide_eq_true rfl] at hr
    unfold Oper.wp execOp
    simp only [ho, hx, hy, Sem.run_bind, run_eqGuard_agg w .neq 24 x y _ _ guardA, Result.andThen_ok, hr, Sem.run_pure, Oper.upon_value]
    exact hK _ _ h
end
theorem bw_open {w : World} {A : Option Addr} {n c : Nat} {d : List (BitVec 8)} (h : Bw w (.slice A n c) d) (h0 : 0 < n) : ∃ g, A = some ⟨g, 0, none⟩ ∧ n ≤ c ∧ w.rangeAt g 0 (vB d) := by
  obtain ⟨h1, h2⟩ := h
  rcases h2 with ⟨hv, hn⟩ | ⟨g, cap, cur, hv, hg, hh, hc, hm, hs, hx⟩
  · simp only [Value.slice.injEq] at hv
    omega
  · simp only [Value.slice.injEq] at hv
    obtain ⟨rfl, rfl, rfl⟩ := hv
    refine ⟨g, rfl, hc, fun j u hj => ?_⟩
    rw [← hx] at hj
    have hlt : j < d.length * 1 := by have := (List.getElem?_eq_some_iff.1 hj).1; rw [List.length_take] at this; omega
    rw [List.getElem?_take_of_lt hlt] at hj
    rw [Nat.zero_add, cell_of_row w g j cur _ (0, 0) hh]
    simpa using hj

end Go.Proofs.YtobmhggfkgcnfaaDoor
