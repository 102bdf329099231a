/-
  the inbox: a box in memory; New, last, Len, Link.
-/
import Derived.Test.YtkbaaelffnmjlaaGreatDoorIbC
import Derived.Test.YtkbaaelffnmjlaaGreatDoorLws
namespace Go.Proofs.YtkbaaelffnmjlaaGreatDoor
open Go Go.RowKit
open Sha

/-- The link behind an entry. -/
def nx (k : List (BitVec 8)) (e : Ev) : List (BitVec 8) := dig (k ++ e.bytes)
def lkf (k : List (BitVec 8)) (es : List Ev) : List (BitVec 8) := es.foldl nx k
def lk (es : List Ev) (n : Nat) : List (BitVec 8) := lkf zK (es.take n)
def ltm (es : List Ev) : Nat → Int
  | 0 => 0
  | i + 1 => ((es[i]?).map (·.tm)).getD 0
theorem lkf_len (k : List (BitVec 8)) (hk : k.length = 32) : ∀ es : List Ev, (lkf k es).length = 32 := fun es => by
  unfold lkf
  induction es generalizing k with
  | nil => exact hk
  | cons e es ih => exact ih _ (dig_length _)
theorem lkf_app (k : List (BitVec 8)) (es fs : List Ev) : lkf k (es ++ fs) = lkf (lkf k es) fs := List.foldl_append
theorem lk_len (es : List Ev) (n : Nat) : (lk es n).length = 32 := lkf_len _ rfl _
theorem lk_zero (es : List Ev) : lk es 0 = zK := rfl
theorem lk_succ (es : List Ev) (i : Nat) (e : Ev) (h : es[i]? = some e) : lk es (i + 1) = nx (lk es i) e := by
  unfold lk
  rw [List.take_add_one, h, lkf_app]
  rfl
theorem lk_app (es fs : List Ev) (n : Nat) (h : n ≤ es.length) : lk (es ++ fs) n = lk es n := by
  unfold lk
  rw [List.take_append_of_le_length h]
/-- A box that was made behind w0: its entries. -/
structure Bx (w0 w : World) (p : Nat) (v : Value) (es : List Ev) : Prop where
  row : Row w p [v] 87
  own : ∃ cs, Lw w 97 81 v es.length cs ∧ ∀ (i : Nat) (e : Ev), es[i]? = some e → ∃ A c, (∀ j u, (e.cells (.slice A e.d.length c) ++ vB (lk es (i + 1)))[j]? = some u → cs[i * 81 + j]? = some u) ∧ Bw w (.slice A e.d.length c) e.d ∧ (A = none → c = 0) ∧ Fresh w0.heap.size (.slice A e.d.length c)
  b0 : w0.heap.size ≤ p
  v0 : ∀ g, v.ownBlock = some g → w0.heap.size ≤ g
  be : Below w0.heap.size w0 w
  ok : ∀ e ∈ es, e.Wf ∧ e.May
theorem Bx.keep {w0 w w' : World} {p : Nat} {v : Value} {es : List Ev} (h : Bx w0 w p v es) (k : Below w.heap.size w w') : Bx w0 w' p v es := by
  obtain ⟨cs, h1, h2⟩ := h.own
  exact ⟨Row.below h.row k h.row.lt, ⟨cs, Lw.be h1 k, fun i e he => by obtain ⟨A, c, q1, q2, q3, q4⟩ := h2 i e he; exact ⟨A, c, q1, Bw.be q2 k, q3, q4⟩⟩, h.b0, h.v0, h.be.trans (k.mono h.be.size), h.ok⟩
theorem Bx.form {w0 w : World} {p : Nat} {v : Value} {es : List Ev} (h : Bx w0 w p v es) : ∃ A cap, v = .slice A es.length cap := by
  obtain ⟨cs, h1, _⟩ := h.own
  obtain ⟨A, cap, e, _⟩ := Lw.form h1
  exact ⟨A, cap, e⟩
theorem Bx.wf {w0 w : World} {p : Nat} {v : Value} {es : List Ev} (h : Bx w0 w p v es) {i : Nat} {e : Ev} (he : es[i]? = some e) : e.Wf ∧ e.May := h.ok e (List.mem_of_getElem? he)
/-- Row i of a box. -/
theorem Bx.at {w0 w : World} {p : Nat} {v : Value} {es : List Ev} (h : Bx w0 w p v es) {i : Nat} {e : Ev} (he : es[i]? = some e) : ∃ g cap A c, v = .slice (some ⟨g, 0, none⟩) es.length cap ∧ w.rangeAt g (i * 81) (e.cells (.slice A e.d.length c) ++ vB (lk es (i + 1))) ∧ Bw w (.slice A e.d.length c) e.d ∧ (A = none → c = 0) := by
  obtain ⟨cs, h1, h2⟩ := h.own
  obtain ⟨A, c, q1, q2, q3, _⟩ := h2 i e he
  obtain ⟨g, cap, hv, _⟩ := Lw.open h1 (by have := (List.getElem?_eq_some_iff.1 he).1; omega)
  subst hv
  exact ⟨g, cap, A, c, rfl, fun j u hj => by have := Lw.range h1 (i * 81 + j) u (q1 j u hj); rwa [Nat.zero_add] at this, q2, q3⟩
section
variable {P : Program} {Q : Exit → Act → World → Prop} {o : Oper} {a : Act} {w : World} {K : Act → World → Prop}
theorem wp_ixI (T e : TypeId) {x y : Operand} (ho : o.op = .indexAddr T x y) (b f n c t s : Nat) (hx : a.eval x = .slice (some ⟨b, f, none⟩) n c) (hy : a.eval y = .int .i64 (t : Int)) (ht : t < n)
    (hu : P.underlying T = some (.slice e)) (hs : (P.info? e).map (·.size) = some s) (h : K (a.put o.dst (.pointer (some ⟨b, f + t * s, none⟩))) w) : Oper.wp P o a w K Q := by
  cases hi : P.info? e with
  | none => simp [hi] at hs
  | some i =>
    have h4 : i.size = s := by simpa [hi] using hs
    have hr : (Instr.indexAt T (.slice (some ⟨b, f, none⟩) n c) (.int .i64 (t : Int))).run P w = .ok (.pointer (some ⟨b, f + t * s, none⟩)) w := by
      simp [Instr.indexAt, run_underlying hu, asIntOf, ht, sizeOf, typeInfo, hi, h4, Addr.add_mid]
    unfold Oper.wp execOp
    simp only [ho, hx, hy, Sem.run_bind, hr, Result.andThen_ok, Sem.run_pure, Oper.upon_value]
    exact h
end
theorem wpList_ixI {P : Program} {ops : Array Oper} {rest : List Oper} {op : Oper} {a : Act} {w : World} {Q : Exit → Act → World → Prop} (T e : TypeId) (x y : Operand) (ho : op.op = .indexAddr T x y) (b f n c t s : Nat) (hx : a.eval x = .slice (some ⟨b, f, none⟩) n c) (hy : a.eval y = .int .i64 (t : Int)) (ht : t < n)
    (hu : P.underlying T = some (.slice e)) (hs : (P.info? e).map (·.size) = some s) (hw : Region.wanted op (yielded ops a.tmps) = true) (h : wpList P ops Q rest (a.put op.dst (.pointer (some ⟨b, f + t * s, none⟩))) w) : wpList P ops Q (op :: rest) a w :=
  BigFrame.wpList_want hw fun _ hK => wp_ixI T e ho b f n c t s hx hy ht hu hs (hK _ _ h)
set_option maxRecDepth 100000 in
set_option maxHeartbeats 4000000 in
theorem bnew_any (w : World) : Calls Tryz.prog 10 #[] w fun e w' => ∃ p, e = .returned (.pointer (some ⟨p, 0, none⟩)) ∧ Bx w w' p (.slice none 0 0) [] := by
  go_enter Tryz.func10, Tryz.ntmps10
  go_wp2_with (refine wpList_boxG 87 rfl (.tmp 1) rfl [.slice none 0 0] rfl ?_; intro X q1 q2 q3; have R1 : Hid (Row X w.heap.size [.slice none 0 0] 87) := q1; have B1 : Hid (Below w.heap.size w X) := q2; clear q1 q2 q3; simp only [Act.put, List.setIfInBounds_toArray, List.set_cons_zero, List.set_cons_succ])
  go_ret
  exact ⟨_, rfl, R1.out, ⟨[], Lw.nil _ _ _, fun i d h => by simp at h⟩, Nat.le_refl _, (fun g e => by cases e), B1.out, (fun e h => by cases h)⟩
set_option maxRecDepth 100000 in
set_option maxHeartbeats 4000000 in
theorem last_zero (p : Value) (w : World) : Calls Tryz.prog 49 #[p, .int .i64 0] w fun r w' => r = .returned (.agg zR.toArray) ∧ Below w.heap.size w w' := by
  obtain ⟨R, hR⟩ : ∃ R, R = zR := ⟨_, rfl⟩
  have HR : Hid (R = zR) := hR
  have HI : Hid ((Tryz.prog.info? 97).map (·.size) = some R.length) := by rw [hR]; exact info_row
  have HL : Hid (R.length = R.length) := rfl
  have HO : Hid (R.toArray.all (·.oneCell') = true) := by rw [hR]; exact zR_one
  rw [← hR]
  clear hR
  go_enter Tryz.func49, Tryz.ntmps49
  go_wp2_with (first
    | (refine wpList_allocR rfl rfl ?_; intro X3 q1 q2; have Z3 : Hid (Row X3 w.heap.size R 97) := (by rw [HR.out]; exact q1); have B3 : Hid (Below w.heap.size w X3) := q2; clear q1 q2; simp only [Act.put, List.setIfInBounds_toArray, List.set_cons_zero, List.set_cons_succ])
    | (refine wpList_buildR0 rfl rfl R HR.out ?_; simp only [Act.put, List.setIfInBounds_toArray, List.set_cons_zero, List.set_cons_succ])
    | (refine wpList_storeL rfl 97 (.tmp 4) (.tmp 7) rfl w.heap.size R R 97 rfl rfl Z3.out HL.out HI.out HO.out ?_; intro X9 q1 q2; have B9 : Hid (Below w.heap.size w X9) := (by rw [q1]; exact below_setCells B3.out (Nat.le_refl _) _); have R9 : Hid (Row X9 w.heap.size R 97) := q2; clear q1 q2; simp only [Act.put]))
  exact bodyPost_ret (results_cell_row Tryz.results49 _ _ w.heap.size 97 R.toArray (0, 0) _ rfl R9.out Tryz.underlying97 rfl (by simp [HI.out])) rfl ⟨rfl, B9.out⟩
set_option maxRecDepth 100000 in
set_option maxHeartbeats 4000000 in
theorem last_some (p g N cap i : Nat) (hi : i < N) (hN : N ≤ 1000000) (R : List Value) (hR : R.length = 81) (ho : ∀ v ∈ R, v.oneCell' = true) (w : World) (hp : w.cell? ⟨p, 0, none⟩ = some (.slice (some ⟨g, 0, none⟩) N cap)) (hr : w.rangeAt g (i * 81) R) :
    Calls Tryz.prog 49 #[.pointer (some ⟨p, 0, none⟩), .int .i64 ((i + 1 : Nat) : Int)] w fun r w' => r = .returned (.agg R.toArray) ∧ Below w.heap.size w w' := by
  have HI : Hid ((Tryz.prog.info? 97).map (·.size) = some R.length) := by rw [hR]; exact info_row
  have HL : Hid (R.length = zR.length) := by rw [hR]; exact rfl
  have HO : Hid (R.toArray.all (·.oneCell') = true) := all_oneCell_toArray ho
  have HC : Hid (∀ X, Below w.heap.size w X → X.cell? ⟨p, 0, none⟩ = some (.slice (some ⟨g, 0, none⟩) N cap)) := fun X k => cell_be hp k
  have HR : Hid (∀ X, Below w.heap.size w X → X.rangeAt g (0 + i * 81) R) := fun X k => by rw [Nat.zero_add]; exact range_be hr k
  have HIN : Hid (i < N) := hi
  obtain ⟨I, hI⟩ : ∃ I : Int, I = ((i + 1 : Nat) : Int) := ⟨_, rfl⟩
  have h0 : ¬ I = 0 := by omega
  have h1 : I - 1 = (i : Int) := by omega
  have h2 : I ≤ 1000001 := by omega
  have h3 : 0 ≤ I := by omega
  rw [← hI]
  clear hI hR ho hp hr hi hN
  go_enter Tryz.func49, Tryz.ntmps49
  go_upto_region 1 with (refine wpList_allocR rfl rfl ?_; intro X3 q1 q2; have Z3 : Hid (Row X3 w.heap.size zR 97) := q1; have B3 : Hid (Below w.heap.size w X3) := q2; clear q1 q2; simp only [Act.put, List.setIfInBounds_toArray, List.set_cons_zero, List.set_cons_succ])
  have c0 := HC.out X3 B3.out
  obtain ⟨b, hb⟩ : ∃ b, b = w.heap.size := ⟨_, rfl⟩
  have NB : Hid (w.heap.size ≤ b) := by rw [hb]; exact Nat.le_refl _
  rw [← hb] at Z3 ⊢
  clear hb
  go_wp2_with (first
    | (refine wpList_ixI 85 97 (.tmp 11) (.tmp 13) rfl g 0 N cap i 81 rfl rfl HIN.out Tryz.underlying85 info_row rfl ?_; simp only [Act.put, List.setIfInBounds_toArray, List.set_cons_zero, List.set_cons_succ])
    | (refine wpList_load_w rfl 97 (.tmp 14) rfl g (0 + i * 81) rfl R _ (HR.out X3 B3.out) Tryz.underlying97 rfl HI.out ?_; simp only [Act.put, List.setIfInBounds_toArray, List.set_cons_zero, List.set_cons_succ])
    | (refine wpList_storeL rfl 97 (.tmp 4) (.tmp 15) rfl b R zR 97 rfl rfl Z3.out HL.out HI.out HO.out ?_; intro X9 q1 q2; have B9 : Hid (Below w.heap.size w X9) := (by rw [q1]; exact below_setCells B3.out NB.out _); have R9 : Hid (Row X9 b R 97) := q2; clear q1 q2; simp only [Act.put]))
  exact bodyPost_ret (results_cell_row Tryz.results49 _ _ b 97 R.toArray (0, 0) _ rfl R9.out Tryz.underlying97 rfl (by simp [HI.out])) rfl ⟨rfl, B9.out⟩
/-- The row of the last one among the first i. -/
theorem last_any {w0 w : World} {p : Nat} {v : Value} {es : List Ev} (h : Bx w0 w p v es) (i : Nat) (hi : i ≤ es.length) (hn : es.length ≤ 1000000) :
    ∃ R, Irw R (ltm es i) (lk es i) ∧ (∀ u ∈ R, u.oneCell' = true) ∧ ∀ X, Below w.heap.size w X → Calls Tryz.prog 49 #[.pointer (some ⟨p, 0, none⟩), .int .i64 (i : Int)] X fun r w' => r = .returned (.agg R.toArray) ∧ Below X.heap.size X w' := by
  cases i with
  | zero => exact ⟨zR, Irw.zero, (fun u hu => by
      rcases List.mem_append.1 hu with q | q
      · exact ent_one1 _ _ _ _ _ _ _ _ _ _ u q
      · exact vB_one _ u q), fun X _ => last_zero _ X⟩
  | succ i =>
    obtain ⟨e, he⟩ : ∃ e, es[i]? = some e := ⟨_, List.getElem?_eq_getElem (by omega)⟩
    obtain ⟨g, cap, A, c, hv, hr, hb, hnil⟩ := h.at he
    have hw := (h.wf he).1
    have hone : ∀ u ∈ e.cells (.slice A e.d.length c) ++ vB (lk es (i + 1)), u.oneCell' = true := fun u hu => by
      rcases List.mem_append.1 hu with q | q
      · exact Ev.one e _ _ _ u q
      · exact vB_one _ u q
    refine ⟨e.cells (.slice A e.d.length c) ++ vB (lk es (i + 1)), ?_, hone, fun X k => ?_⟩
    · have := Irw.of hw (.slice A e.d.length c) (lk es (i + 1)) (lk_len _ _)
      have et : ltm es (i + 1) = e.tm := by simp [ltm, he]
      rw [et]; exact this
    · exact last_some p g es.length cap i (by omega) hn _ (rw_len _ _ (Ev.len hw _) (lk_len _ _)) hone X (by rw [← hv]; exact cell_be (h.row.cell 0 _ rfl) k) (range_be hr k)
set_option maxRecDepth 100000 in
set_option maxHeartbeats 4000000 in
theorem blen_any {w0 w : World} {p : Nat} {v : Value} {es : List Ev} (h : Bx w0 w p v es) : Calls Tryz.prog 25 #[.pointer (some ⟨p, 0, none⟩)] w fun r w' => r = .returned (.int .i64 (es.length : Int)) ∧ w' = w := by
  obtain ⟨A, cap, hv⟩ := h.form
  have c0 := h.row.cell 0 _ rfl
  obtain ⟨N, hN⟩ : ∃ N, N = es.length := ⟨_, rfl⟩
  rw [hv, ← hN] at c0
  rw [← hN]
  clear h hv hN
  go_enter Tryz.func25, Tryz.ntmps25
  go_wp2
  go_ret
  exact ⟨rfl, rfl⟩

end Go.Proofs.YtkbaaelffnmjlaaGreatDoor
