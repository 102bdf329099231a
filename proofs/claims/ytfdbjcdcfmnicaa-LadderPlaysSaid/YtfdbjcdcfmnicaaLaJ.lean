/-
  the ladder's laws: commits and pending ones compared.
-/
import Derived.Test.YtfdbjcdcfmnicaaLaI
namespace Go.Proofs.Ytfdbjcdcfmnicaa
open Go Go.RowKit
open Sha

theorem szU8L (w : World) : (sizeOf 5).run Try.prog w = .ok 1 w := by
  cases hi : Try.prog.info? 5 with
  | none => have := info_u8; rw [hi] at this; cases this
  | some i => have := info_u8; rw [hi] at this; simp at this; simp [sizeOf, typeInfo, hi, this]
theorem toU_lenL (l : List (BitVec 8)) : (l.map fun b => UInt8.ofBitVec b).length = l.length := List.length_map _
theorem vB_cellL (l : List (BitVec 8)) : vB l = (l.map fun b => UInt8.ofBitVec b).map Extern.Stop.cell := by
  unfold vB
  rw [List.map_map]
  rfl
theorem toU_beqL (l r : List (BitVec 8)) : ((l.map fun b => UInt8.ofBitVec b) == (r.map fun b => UInt8.ofBitVec b)) = decide (l = r) := by
  rw [Bool.eq_iff_iff]
  simp only [beq_iff_eq, decide_eq_true_eq]
  constructor
  · intro h
    have := congrArg (List.map UInt8.toBitVec) h
    simpa [List.map_map, Function.comp_def] using this
  · rintro rfl; rfl
theorem eq_by (d : Nat) (w : World) (t : TypeId) (n : Nat) (ht : Try.prog.underlying t = some (.array n 5)) (l r : List (BitVec 8)) (hl : l.length = n) (hr : r.length = n) : (Op.equalIn (d + 2) t (.agg (vB l).toArray) (.agg (vB r).toArray)).run Try.prog w = .ok (decide (l = r)) w := by
  have q := run_equalIn_bytes (P := Try.prog) w d t 5 n ht Try.underlying5 szU8L (l.map fun b => UInt8.ofBitVec b) (r.map fun b => UInt8.ofBitVec b) (by rw [toU_lenL, hl]) (by rw [toU_lenL, hr])
  rw [toU_beqL, ← vB_cellL, ← vB_cellL] at q
  exact q
theorem part_int (w : World) (xs : List Value) (o : Nat) (k : Int) (h : xs[o]? = some (.int .i64 k)) : (part 3 xs.toArray o).run Try.prog w = .ok (.int .i64 k) w := by
  simp [part, isAgg, run_underlying Try.underlying3, h]
theorem part_agg (w : World) (t : TypeId) (n : Nat) (hs : (Try.prog.info? t).map (·.size) = some n) (ha : ∀ w, (isAgg t).run Try.prog w = .ok true w) (xs : List Value) (o : Nat) (Lx : List Value) (h : (xs.drop o).take n = Lx) : (part t xs.toArray o).run Try.prog w = .ok (.agg Lx.toArray) w := by
  cases hi : Try.prog.info? t with
  | none => rw [hi] at hs; cases hs
  | some i =>
    have hsz : i.size = n := by rw [hi] at hs; simpa using hs
    have hz : ∀ w, (sizeOf t).run Try.prog w = .ok n w := fun w => by simp [sizeOf, typeInfo, hi, hsz]
    simp [part, Sem.run_bind, ha, hz]
    exact h
theorem agg_D (w : World) : (isAgg tDg).run Try.prog w = .ok true w := by simp [isAgg, run_underlying Try.underlying23]
theorem agg_A (w : World) : (isAgg tAd).run Try.prog w = .ok true w := by simp [isAgg, run_underlying Try.underlying51]
theorem agg_C (w : World) : (isAgg tC).run Try.prog w = .ok true w := by simp [isAgg, run_underlying Try.underlying25]
theorem info_D : (Try.prog.info? tDg).map (·.size) = some 32 := by kernel_rfl
theorem fields_C : (Try.prog.fieldsOf tC).toList.map (fun f => (f.type, f.offset, decide (f.name = "_"))) = [(3, 0, false), (tDg, 1, false), (tDg, 33, false), (3, 65, false)] := by kernel_rfl
theorem und_CF : Try.prog.underlying tC = some (.struct (Try.prog.fieldsOf tC)) := by kernel_rfl
theorem fields_P : (Try.prog.fieldsOf tP).toList.map (fun f => (f.type, f.offset, decide (f.name = "_"))) = [(3, 0, false), (tC, 1, false), (tAd, 67, false), (3, 87, false), (3, 88, false), (3, 89, false)] := by kernel_rfl
theorem und_PF : Try.prog.underlying tP = some (.struct (Try.prog.fieldsOf tP)) := by kernel_rfl
theorem held_C : Try.prog.stoodInHeld tC = false := by kernel_rfl
theorem held_P : Try.prog.stoodInHeld tP = false := by kernel_rfl
/-- One field more. -/
theorem eqF_step (d : Nat) (w : World) (xs ys : Array Value) (f : Field) (fs : List Field) (t : TypeId) (o : Nat) (hf : (f.type, f.offset, decide (f.name = "_")) = (t, o, false)) (a b : Value) (T : Bool) (ha : (part t xs o).run Try.prog w = .ok a w) (hb : (part t ys o).run Try.prog w = .ok b w) (he : (Op.equalIn d t a b).run Try.prog w = .ok T w) (S : Bool) (hS : (Op.eqFields d xs ys fs).run Try.prog w = .ok S w) : (Op.eqFields d xs ys (f :: fs)).run Try.prog w = .ok (T && S) w := by
  simp only [Prod.mk.injEq, decide_eq_false_iff_not] at hf
  obtain ⟨rfl, rfl, hn⟩ := hf
  unfold Op.eqFields
  rw [if_pos hn]
  simp only [Sem.run_bind, ha, hb, he, Result.andThen_ok]
  cases T with
  | false => simp
  | true => simp [hS]
theorem cons_map {α β : Type} {g : α → β} {l : List α} {b : β} {bs : List β} (h : l.map g = b :: bs) : ∃ x xs, l = x :: xs ∧ g x = b ∧ xs.map g = bs := by
  cases l with
  | nil => cases h
  | cons x xs => rw [List.map_cons] at h; injection h with h1 h2; exact ⟨x, xs, rfl, h1, h2⟩
theorem eqF_nil (d : Nat) (w : World) (xs ys : Array Value) : (Op.eqFields d xs ys []).run Try.prog w = .ok true w := by simp [Op.eqFields]
theorem Cm.part_s {c : Cm} (h : c.Wf) : (c.cells.drop 1).take 32 = vB c.s := by
  unfold Cm.cells
  rw [List.drop_succ_cons, List.drop_zero, List.take_append_of_le_length (by rw [vB_length, h.ls]; decide), List.take_of_length_le (by rw [vB_length, h.ls]; decide)]
theorem Cm.part_o {c : Cm} (h : c.Wf) : (c.cells.drop 33).take 32 = vB c.o := by
  unfold Cm.cells
  rw [List.drop_succ_cons, List.drop_append_of_le_length (by rw [vB_length, h.ls]; decide), List.drop_of_length_le (by rw [vB_length, h.ls]; decide), List.nil_append, List.take_append_of_le_length (by rw [vB_length, h.lo]; decide), List.take_of_length_le (by rw [vB_length, h.lo]; decide)]
set_option maxRecDepth 100000 in
theorem eq_cm (d : Nat) (w : World) (a b : Cm) (ha : a.Wf) (hb : b.Wf) : (Op.equalIn (d + 3) tC (.agg a.cells.toArray) (.agg b.cells.toArray)).run Try.prog w = .ok (decide (a = b)) w := by
  rw [run_equalIn_agg w (d + 2) tC _ _ und_CF held_C]
  obtain ⟨f0, l0, e0, g0, h0⟩ := cons_map fields_C
  obtain ⟨f1, l1, e1, g1, h1⟩ := cons_map h0
  obtain ⟨f2, l2, e2, g2, h2⟩ := cons_map h1
  obtain ⟨f3, l3, e3, g3, h3⟩ := cons_map h2
  obtain rfl : l3 = [] := List.map_eq_nil_iff.1 h3
  rw [e0, e1, e2, e3]
  have := eqF_step (d + 2) w a.cells.toArray b.cells.toArray f0 [f1, f2, f3] 3 0 g0 _ _ _ (part_int w _ 0 _ (Cm.at_n a)) (part_int w _ 0 _ (Cm.at_n b)) (run_equalIn_int w (d + 1) 3 .i64 .i64 a.n b.n Try.underlying3) _
    (eqF_step (d + 2) w a.cells.toArray b.cells.toArray f1 [f2, f3] tDg 1 g1 _ _ _ (part_agg w tDg 32 info_D agg_D _ 1 _ (Cm.part_s ha)) (part_agg w tDg 32 info_D agg_D _ 1 _ (Cm.part_s hb)) (eq_by d w tDg 32 Try.underlying23 a.s b.s ha.ls hb.ls) _
    (eqF_step (d + 2) w a.cells.toArray b.cells.toArray f2 [f3] tDg 33 g2 _ _ _ (part_agg w tDg 32 info_D agg_D _ 33 _ (Cm.part_o ha)) (part_agg w tDg 32 info_D agg_D _ 33 _ (Cm.part_o hb)) (eq_by d w tDg 32 Try.underlying23 a.o b.o ha.lo hb.lo) _
    (eqF_step (d + 2) w a.cells.toArray b.cells.toArray f3 [] 3 65 g3 _ _ _ (part_int w _ 65 _ (Cm.at_k ha)) (part_int w _ 65 _ (Cm.at_k hb)) (run_equalIn_int w (d + 1) 3 .i64 .i64 a.k b.k Try.underlying3) _ (eqF_nil (d + 2) w _ _))))
  rw [this]
  congr 1
  rw [Bool.eq_iff_iff]
  simp only [Bool.and_eq_true, beq_iff_eq, decide_eq_true_eq, and_true, Cm.ext_iff]
theorem Pn.part_c {p : Pn} (h : p.Wf) : (p.cells.drop 1).take 66 = p.c.cells := by
  unfold Pn.cells
  rw [List.drop_succ_cons, List.drop_zero, List.take_append_of_le_length (by rw [Cm.len h.c]; decide), List.take_of_length_le (by rw [Cm.len h.c]; decide)]
theorem Pn.part_a {p : Pn} (h : p.Wf) : (p.cells.drop 67).take 20 = vB p.ad := by
  unfold Pn.cells
  rw [List.drop_succ_cons, List.drop_append_of_le_length (by rw [Cm.len h.c]; decide), List.drop_of_length_le (by rw [Cm.len h.c]; decide), List.nil_append, List.take_append_of_le_length (by rw [vB_length, h.a]; decide), List.take_of_length_le (by rw [vB_length, h.a]; decide)]
set_option maxRecDepth 100000 in
theorem eq_pn (d : Nat) (w : World) (a b : Pn) (ha : a.Wf) (hb : b.Wf) : (Op.equalIn (d + 4) tP (.agg a.cells.toArray) (.agg b.cells.toArray)).run Try.prog w = .ok (decide (a = b)) w := by
  rw [run_equalIn_agg w (d + 3) tP _ _ und_PF held_P]
  obtain ⟨f0, l0, e0, g0, h0⟩ := cons_map fields_P
  obtain ⟨f1, l1, e1, g1, h1⟩ := cons_map h0
  obtain ⟨f2, l2, e2, g2, h2⟩ := cons_map h1
  obtain ⟨f3, l3, e3, g3, h3⟩ := cons_map h2
  obtain ⟨f4, l4, e4, g4, h4⟩ := cons_map h3
  obtain ⟨f5, l5, e5, g5, h5⟩ := cons_map h4
  obtain rfl : l5 = [] := List.map_eq_nil_iff.1 h5
  rw [e0, e1, e2, e3, e4, e5]
  have := eqF_step (d + 3) w a.cells.toArray b.cells.toArray f0 [f1, f2, f3, f4, f5] 3 0 g0 _ _ _ (part_int w _ 0 _ (Pn.at_nr a)) (part_int w _ 0 _ (Pn.at_nr b)) (run_equalIn_int w (d + 2) 3 .i64 .i64 a.nr b.nr Try.underlying3) _
    (eqF_step (d + 3) w a.cells.toArray b.cells.toArray f1 [f2, f3, f4, f5] tC 1 g1 _ _ _ (part_agg w tC 66 info_C agg_C _ 1 _ (Pn.part_c ha)) (part_agg w tC 66 info_C agg_C _ 1 _ (Pn.part_c hb)) (eq_cm d w a.c b.c ha.c hb.c) _
    (eqF_step (d + 3) w a.cells.toArray b.cells.toArray f2 [f3, f4, f5] tAd 67 g2 _ _ _ (part_agg w tAd 20 info_A agg_A _ 67 _ (Pn.part_a ha)) (part_agg w tAd 20 info_A agg_A _ 67 _ (Pn.part_a hb)) (eq_by (d + 1) w tAd 20 Try.underlying51 a.ad b.ad ha.a hb.a) _
    (eqF_step (d + 3) w a.cells.toArray b.cells.toArray f3 [f4, f5] 3 87 g3 _ _ _ (part_int w _ 87 _ (Pn.at_po ha)) (part_int w _ 87 _ (Pn.at_po hb)) (run_equalIn_int w (d + 2) 3 .i64 .i64 a.po b.po Try.underlying3) _
    (eqF_step (d + 3) w a.cells.toArray b.cells.toArray f4 [f5] 3 88 g4 _ _ _ (part_int w _ 88 _ (Pn.at_dl ha)) (part_int w _ 88 _ (Pn.at_dl hb)) (run_equalIn_int w (d + 2) 3 .i64 .i64 a.dl b.dl Try.underlying3) _
    (eqF_step (d + 3) w a.cells.toArray b.cells.toArray f5 [] 3 89 g5 _ _ _ (part_int w _ 89 _ (Pn.at_du ha)) (part_int w _ 89 _ (Pn.at_du hb)) (run_equalIn_int w (d + 2) 3 .i64 .i64 a.du b.du Try.underlying3) _ (eqF_nil (d + 3) w _ _))))))
  rw [this]
  congr 1
  rw [Bool.eq_iff_iff]
  simp only [Bool.and_eq_true, beq_iff_eq, decide_eq_true_eq, and_true, Pn.ext_iff]
theorem guardC : Try.prog.eqGuardType Try.prog.depth tC = false := by kernel_rfl
theorem guardP : Try.prog.eqGuardType Try.prog.depth tP = false := by kernel_rfl
section
variable {ops : Array Oper} {rest : List Oper} {op : Oper} {a : Act} {w : World} {Q : Exit → Act → World → Prop}
theorem wpList_eqC (hw : Region.wanted op (yielded ops a.tmps) = true) (x y : Operand) (yt : TypeId) (ho : op.op = .binOp .eql tC x y yt) (c d : Cm) (hc : c.Wf) (hd : d.Wf) (hx : a.eval x = .agg c.cells.toArray) (hy : a.eval y = .agg d.cells.toArray) (B : Bool) (hB : decide (c = d) = B) (h : wpList Try.prog ops Q rest (a.put op.dst (.bool B)) w) : wpList Try.prog ops Q (op :: rest) a w :=
  BigFrame.wpList_want hw fun _ hK => by
    have hr : (binOp .eql tC (.agg c.cells.toArray) (.agg d.cells.toArray)).run Try.prog w = .ok (.bool B) w := by rw [run_eql_struct, eq_cm 9997 w c d hc hd, ← hB]; rfl
    unfold Oper.wp execOp
    simp only [ho, hx, hy, Sem.run_bind, run_eqGuard_agg w .eql tC x y _ _ guardC, Result.andThen_ok, hr, Sem.run_pure, Oper.upon_value]
    exact hK _ _ h
theorem wpList_neC (hw : Region.wanted op (yielded ops a.tmps) = true) (x y : Operand) (yt : TypeId) (ho : op.op = .binOp .neq tC x y yt) (c d : Cm) (hc : c.Wf) (hd : d.Wf) (hx : a.eval x = .agg c.cells.toArray) (hy : a.eval y = .agg d.cells.toArray) (B : Bool) (hB : (!decide (c = d)) = B) (h : wpList Try.prog ops Q rest (a.put op.dst (.bool B)) w) : wpList Try.prog ops Q (op :: rest) a w :=
  BigFrame.wpList_want hw fun _ hK => by
    have hr : (binOp .neq tC (.agg c.cells.toArray) (.agg d.cells.toArray)).run Try.prog w = .ok (.bool B) w := by rw [run_neq_struct, eq_cm 9997 w c d hc hd, ← hB]; rfl
    unfold Oper.wp execOp
    simp only [ho, hx, hy, Sem.run_bind, run_eqGuard_agg w .neq tC x y _ _ guardC, Result.andThen_ok, hr, Sem.run_pure, Oper.upon_value]
    exact hK _ _ h
theorem wpList_eqP (hw : Region.wanted op (yielded ops a.tmps) = true) (x y : Operand) (yt : TypeId) (ho : op.op = .binOp .eql tP x y yt) (c d : Pn) (hc : c.Wf) (hd : d.Wf) (hx : a.eval x = .agg c.cells.toArray) (hy : a.eval y = .agg d.cells.toArray) (B : Bool) (hB : decide (c = d) = B) (h : wpList Try.prog ops Q rest (a.put op.dst (.bool B)) w) : wpList Try.prog ops Q (op :: rest) a w :=
  BigFrame.wpList_want hw fun _ hK => by
    have hr : (binOp .eql tP (.agg c.cells.toArray) (.agg d.cells.toArray)).run Try.prog w = .ok (.bool B) w := by rw [run_eql_struct, eq_pn 9996 w c d hc hd, ← hB]; rfl
    unfold Oper.wp execOp
    simp only [ho, hx, hy, Sem.run_bind, run_eqGuard_agg w .eql tP x y _ _ guardP, Result.andThen_ok, hr, Sem.run_pure, Oper.upon_value]
    exact hK _ _ h
theorem wpList_neP (hw : Region.wanted op (yielded ops a.tmps) = true) (x y : Operand) (yt : TypeId) (ho : op.op = .binOp .neq tP x y yt) (c d : Pn) (hc : c.Wf) (hd : d.Wf) (hx : a.eval x = .agg c.cells.toArray) (hy : a.eval y = .agg d.cells.toArray) (B : Bool) (hB : (!decide (c = d)) = B) (h : wpList Try.prog ops Q rest (a.put op.dst (.bool B)) w) : wpList Try.prog ops Q (op :: rest) a w :=
  BigFrame.wpList_want hw fun _ hK => by
    have hr : (binOp .neq tP (.agg c.cells.toArray) (.agg d.cells.toArray)).run Try.prog w = .ok (.bool B) w := by rw [run_neq_struct, eq_pn 9996 w c d hc hd, ← hB]; rfl
    unfold Oper.wp execOp
    simp only [ho, hx, hy, Sem.run_bind, run_eqGuard_agg w .neq tP x y _ _ guardP, Result.andThen_ok, hr, Sem.run_pure, Oper.upon_value]
    exact hK _ _ h
end

end Go.Proofs.Ytfdbjcdcfmnicaa
