/-
  EscrowRefused: what a step leaves as it was; laws.
-/
import Derived.Test.YtkbdnebmekhcdaaErA
import Derived.Test.YtkbdnebmekhcdaaEoB
import Derived.ChangeKeysEq
import Derived.OpenShut
namespace Go.Proofs.Ytkbdnebmekhcdaa
open Go Go.RowKit Go.Maps
open Wd

theorem fnd_ne (T : Int → Option (Bool × Nat)) (x t : Int) (v : Option (Bool × Nat)) (h : t ≠ x) : fnd (upd T x v) t = fnd T t := by
  unfold fnd upd
  rw [if_neg h]
/-- A refused step leaves all as it was; one that is done its token alone, its index alone, or the bonds alone. -/
structure Stays (s s' : St) (k : Int) (r : Stv) (E : Int) : Prop where
  no : E ≠ 0 → s' = s
  t : ∀ t : Int, fnd s'.T t = fnd s.T t ∨ (t = r.tk ∧ k ≤ 4)
  u : ∀ x : Int, paid s'.U x = paid s.U x ∨ (E = 0 ∧ k = 4 ∧ x = r.ix)
  l : s'.L = s.L ∨ k = 5 ∨ k = 6
theorem Stays.refl (s : St) (k : Int) (r : Stv) (E : Int) : Stays s s k r E := ⟨fun _ => rfl, fun _ => .inl rfl, fun _ => .inl rfl, .inl rfl⟩
theorem Stays.ofT (s : St) (k : Int) (r : Stv) (v : Option (Bool × Nat)) (hk : k ≤ 4) : Stays s { s with T := upd s.T r.tk v } k r 0 :=
  ⟨fun h => absurd rfl h, fun t => by
    by_cases e : t = r.tk
    · exact .inr ⟨e, hk⟩
    · exact .inl (fnd_ne _ _ _ _ e), fun _ => .inl rfl, .inl rfl⟩
theorem act_rest (s : St) (k : Int) (r : Stv) : Stays s (act s k r).1 k r (act s k r).2 := by
  unfold act
  split
  · unfold sList
    split; exact Stays.refl ..
    split
    · exact Stays.ofT s k r _ (by omega)
    · exact Stays.refl ..
  split
  · unfold sStop
    split; exact Stays.refl ..
    split; exact Stays.refl ..
    exact Stays.ofT s k r _ (by omega)
  split
  · unfold sStop
    split; exact Stays.refl ..
    split; exact Stays.refl ..
    exact Stays.ofT s k r _ (by omega)
  split
  · unfold sDep
    split; exact Stays.refl ..
    split; exact Stays.refl ..
    split; exact Stays.refl ..
    split; exact Stays.refl ..
    exact Stays.ofT s k r _ (by omega)
  split
  · rename_i h4
    unfold sPay
    split; exact Stays.refl ..
    split; exact Stays.refl ..
    split; exact Stays.refl ..
    split; exact Stays.refl ..
    refine ⟨fun h => absurd rfl h, fun t => ?_, fun x => ?_, .inl rfl⟩
    · by_cases e : t = r.tk
      · exact .inr ⟨e, by omega⟩
      · exact .inl (fnd_ne _ _ _ _ e)
    · by_cases e : x = r.ix
      · exact .inr ⟨rfl, h4, e⟩
      · refine .inl ?_
        show paid (puts s.U r.ix) x = paid s.U x
        rw [paid_puts, decide_eq_false e, Bool.false_or]
  split
  · unfold sLock
    split; exact Stays.refl ..
    exact ⟨fun h => absurd rfl h, fun _ => .inl rfl, fun _ => .inl rfl, .inr (.inl (by assumption))⟩
  split
  · unfold sFree
    split; exact Stays.refl ..
    exact ⟨fun h => absurd rfl h, fun _ => .inl rfl, fun _ => .inl rfl, .inr (.inr (by assumption))⟩
  · exact Stays.refl ..

/-! ### what is compared with itself -/
theorem partE_agg (w : World) (t : TypeId) (n : Nat) (hs : (Try.prog.info? t).map (·.size) = some n) (ha : ∀ w, (isAgg t).run Try.prog w = .ok true w) (xs : List Value) (o : Nat) (Lx : List Value) (h : (xs.drop o).take n = Lx) : (part t xs.toArray o).run Try.prog w = .ok (.agg Lx.toArray) w := by
  cases hi : Try.prog.info? t with
  | none => rw [hi] at hs; cases hs
  | some i =>
    have hsz : i.size = n := by rw [hi] at hs; simpa using hs
    have hz : ∀ w, (sizeOf t).run Try.prog w = .ok n w := fun w => by simp [sizeOf, typeInfo, hi, hsz]
    simp [part, Sem.run_bind, ha, hz]
    exact h
theorem eqFe_step (d : Nat) (w : World) (xs ys : Array Value) (f : Field) (fs : List Field) (t : TypeId) (o : Nat) (hf : (f.type, f.offset, decide (f.name = "_")) = (t, o, false)) (a b : Value) (T : Bool) (ha : (part t xs o).run Try.prog w = .ok a w) (hb : (part t ys o).run Try.prog w = .ok b w) (he : (Op.equalIn d t a b).run Try.prog w = .ok T w) (S : Bool) (hS : (Op.eqFields d xs ys fs).run Try.prog w = .ok S w) : (Op.eqFields d xs ys (f :: fs)).run Try.prog w = .ok (T && S) w := by
  simp only [Prod.mk.injEq, decide_eq_false_iff_not] at hf
  obtain ⟨rfl, rfl, hn⟩ := hf
  unfold Op.eqFields
  rw [if_pos hn]
  simp only [Sem.run_bind, ha, hb, he, Result.andThen_ok]
  cases T with
  | false => simp
  | true => simp [hS]
theorem consE_map {α β : Type} {g : α → β} {l : List α} {b : β} {bs : List β} (h : l.map g = b :: bs) : ∃ x xs, l = x :: xs ∧ g x = b ∧ xs.map g = bs := by
  cases l with
  | nil => cases h
  | cons x xs => rw [List.map_cons] at h; injection h with h1 h2; exact ⟨x, xs, rfl, h1, h2⟩
theorem eqFe_nil (d : Nat) (w : World) (xs ys : Array Value) : (Op.eqFields d xs ys []).run Try.prog w = .ok true w := by simp [Op.eqFields]
theorem eq_items_self (w : World) (d : Nat) (e : TypeId) (s : Nat) (xs : Array Value) (is : List Nat) (h : ∀ j ∈ is, ∃ a, (part e xs (j * s)).run Try.prog w = .ok a w ∧ (Op.equalIn d e a a).run Try.prog w = .ok true w) : (Op.eqItems d e s xs xs is).run Try.prog w = .ok true w := by
  induction is with
  | nil => simp [Op.eqItems]
  | cons j is ih =>
    obtain ⟨a, h1, h2⟩ := h j (List.mem_cons_self ..)
    simp only [Op.eqItems, Sem.run_bind, h1, h2, Result.andThen_ok]
    simpa using ih (fun j hj => h j (List.mem_cons_of_mem _ hj))
theorem agg_W (w : World) : (isAgg 33).run Try.prog w = .ok true w := by simp [isAgg, run_underlying Try.underlying33]
theorem agg_B64 (w : World) : (isAgg tB64).run Try.prog w = .ok true w := by simp [isAgg, run_underlying und_B64]
theorem agg_W64 (w : World) : (isAgg tW64).run Try.prog w = .ok true w := by simp [isAgg, run_underlying und_W64]
theorem b64_info : (Try.prog.info? tB64).map (·.size) = some 64 := by kernel_rfl
theorem w64_info : (Try.prog.info? tW64).map (·.size) = some 256 := by kernel_rfl
theorem cells_bo : Try.prog.cellsOf tBo = 1 := by kernel_rfl
theorem cells_wd : Try.prog.cellsOf 33 = 4 := by kernel_rfl
theorem info_some {t : TypeId} {n : Nat} (h : (Try.prog.info? t).map (·.size) = some n) : ∃ i, Try.prog.info? t = some i := by
  cases hi : Try.prog.info? t with
  | none => rw [hi] at h; cases h
  | some i => exact ⟨i, rfl⟩
theorem selfW (w : World) (d : Nat) (m : Nat) : (Op.equalIn (d + 2) 33 (.agg (vQ (dgs m 4)).toArray) (.agg (vQ (dgs m 4)).toArray)).run Try.prog w = .ok true w := by
  rw [run_equalIn_vQ w d _ 31 4 Try.underlying33 Try.underlying31 size_u64 _ _ (dgs_length _ _) (dgs_length _ _)]
  simp
theorem selfB (w : World) (d : Nat) (f : Nat → Bool) : (Op.equalIn (d + 2) tB64 (.agg (bcs f).toArray) (.agg (bcs f).toArray)).run Try.prog w = .ok true w := by
  obtain ⟨i, hi⟩ := info_some bo_info
  rw [run_equalIn_array w (d + 1) (bcs f).toArray (bcs f).toArray und_B64 hi, cells_bo]
  refine eq_items_self w (d + 1) tBo 1 _ _ fun j hj => ⟨.bool (f j), ?_, ?_⟩
  · have := bcs_at f (List.mem_range.1 hj)
    simp [part, isAgg, run_underlying Try.underlying4, this]
  · rw [run_equalIn_bool' w d tBo _ _ Try.underlying4]
    simp
theorem selfH (w : World) (d : Nat) (h : Nat → Nat) : (Op.equalIn (d + 3) tW64 (.agg (hcells h).toArray) (.agg (hcells h).toArray)).run Try.prog w = .ok true w := by
  obtain ⟨i, hi⟩ := info_some wd_info
  rw [run_equalIn_array w (d + 2) (hcells h).toArray (hcells h).toArray und_W64 hi, cells_wd]
  refine eq_items_self w (d + 2) 33 4 _ _ fun j hj => ⟨.agg (vQ (dgs (h j) 4)).toArray, ?_, selfW w d (h j)⟩
  refine partE_agg w 33 4 wd_info agg_W (hcells h) (j * 4) _ ?_
  have hj64 := List.mem_range.1 hj
  refine List.ext_getElem? fun q => ?_
  by_cases hq : q < 4
  · rw [List.getElem?_take_of_lt hq, List.getElem?_drop, hcells_get h _ (by omega), show (j * 4 + q) / 4 = j by omega, show (j * 4 + q) % 4 = q by omega]
  · rw [List.getElem?_eq_none (by rw [List.length_take]; omega), List.getElem?_eq_none (by rw [v4_len]; omega)]
theorem fields_Sn : (Try.prog.fieldsOf tSn).toList.map (fun f => (f.type, f.offset, decide (f.name = "_"))) = [(tB64, 0, false), (tB64, 64, false), (tW64, 128, false), (33, 384, false)] := by kernel_rfl
theorem und_SnF : Try.prog.underlying tSn = some (.struct (Try.prog.fieldsOf tSn)) := by kernel_rfl
theorem held_Sn : Try.prog.stoodInHeld tSn = false := by kernel_rfl
theorem guardSn : Try.prog.eqGuardType Try.prog.depth tSn = false := by kernel_rfl
set_option maxRecDepth 100000 in
theorem selfSn (w : World) (d : Nat) (f g : Nat → Bool) (h : Nat → Nat) (L : Nat) : (Op.equalIn (d + 4) tSn (.agg (scs f g h L).toArray) (.agg (scs f g h L).toArray)).run Try.prog w = .ok true w := by
  rw [run_equalIn_agg w (d + 3) tSn _ _ und_SnF held_Sn]
  obtain ⟨f0, l0, e0, g0, h0⟩ := consE_map fields_Sn
  obtain ⟨f1, l1, e1, g1, h1⟩ := consE_map h0
  obtain ⟨f2, l2, e2, g2, h2⟩ := consE_map h1
  obtain ⟨f3, l3, e3, g3, h3⟩ := consE_map h2
  obtain rfl : l3 = [] := List.map_eq_nil_iff.1 h3
  rw [e0, e1, e2, e3]
  have p0 : ((scs f g h L).drop 0).take 64 = bcs f := by rw [List.drop_zero]; unfold scs; rw [List.take_append_of_le_length (by rw [bcs_len]; decide), List.take_of_length_le (by rw [bcs_len]; decide)]
  have p1 : ((scs f g h L).drop 64).take 64 = bcs g := by unfold scs; rw [List.drop_append_of_le_length (by rw [bcs_len]; decide), List.drop_of_length_le (by rw [bcs_len]; decide), List.nil_append, List.take_append_of_le_length (by rw [bcs_len]; decide), List.take_of_length_le (by rw [bcs_len]; decide)]
  have p2 : ((scs f g h L).drop 128).take 256 = hcells h := by rw [scs_e3, List.drop_append_of_le_length (by rw [l2_len]; decide), List.drop_of_length_le (by rw [l2_len]; decide), List.nil_append, List.take_append_of_le_length (by rw [hcells_len]; decide), List.take_of_length_le (by rw [hcells_len]; decide)]
  have p3 : ((scs f g h L).drop 384).take 4 = vQ (dgs L 4) := by rw [scs_e4, List.drop_append_of_le_length (by rw [l3_len]; decide), List.drop_of_length_le (by rw [l3_len]; decide), List.nil_append, List.append_nil, List.take_of_length_le (by rw [v4_len]; decide)]
  exact eqFe_step (d + 3) w _ _ f0 [f1, f2, f3] tB64 0 g0 _ _ _ (partE_agg w tB64 64 b64_info agg_B64 _ 0 _ p0) (partE_agg w tB64 64 b64_info agg_B64 _ 0 _ p0) (selfB w (d + 1) f) _
    (eqFe_step (d + 3) w _ _ f1 [f2, f3] tB64 64 g1 _ _ _ (partE_agg w tB64 64 b64_info agg_B64 _ 64 _ p1) (partE_agg w tB64 64 b64_info agg_B64 _ 64 _ p1) (selfB w (d + 1) g) _
    (eqFe_step (d + 3) w _ _ f2 [f3] tW64 128 g2 _ _ _ (partE_agg w tW64 256 w64_info agg_W64 _ 128 _ p2) (partE_agg w tW64 256 w64_info agg_W64 _ 128 _ p2) (selfH w d h) _
    (eqFe_step (d + 3) w _ _ f3 [] 33 384 g3 _ _ _ (partE_agg w 33 4 wd_info agg_W _ 384 _ p3) (partE_agg w 33 4 wd_info agg_W _ 384 _ p3) (selfW w (d + 1) L) _ (eqFe_nil (d + 3) w _ _))))
section
variable {ops : Array Oper} {rest : List Oper} {op : Oper} {a : Act} {w : World} {Q : Exit → Act → World → Prop}
theorem wpList_neSn (hw : Region.wanted op (yielded ops a.tmps) = true) (x y : Operand) (yt : TypeId) (ho : op.op = .binOp .neq tSn x y yt) (s : St) (LS : List Value) (hLS : LS = sv s) (hx : a.eval x = .agg LS.toArray) (hy : a.eval y = .agg LS.toArray) (h : wpList Try.prog ops Q rest (a.put op.dst (.bool false)) w) : wpList Try.prog ops Q (op :: rest) a w :=
  BigFrame.wpList_want hw fun _ hK => by
    have hr : (binOp .neq tSn (.agg LS.toArray) (.agg LS.toArray)).run Try.prog w = .ok (.bool false) w := by rw [run_neq_struct, hLS, sv, selfSn w 9996]; rfl
    unfold Oper.wp execOp
    simp only [ho, hx, hy, Sem.run_bind, run_eqGuard_agg w .neq tSn x y _ _ guardSn, Result.andThen_ok, hr, Sem.run_pure, Oper.upon_value]
    exact hK _ _ h
end
section
variable {Q : Exit → Act → World → Prop} {o : Oper} {a : Act} {w : World} {K : Act → World → Prop}
theorem wpR_eqW (x y : Operand) (yt : TypeId) (ho : o.op = .binOp .eql 33 x y yt) (m n : Nat) (hm : m < 2 ^ 256) (hn : n < 2 ^ 256) (hx : a.eval x = .agg (vQ (dgs m 4)).toArray) (hy : a.eval y = .agg (vQ (dgs n 4)).toArray) (h : K (a.put o.dst (.bool (decide (m = n)))) w) : Oper.wp Try.prog o a w K Q := by
  have hr := run_eql_w w (dgs m 4) (dgs n 4) (dgs_length _ _) (dgs_length _ _)
  rw [show decide (dgs m 4 = dgs n 4) = decide (m = n) by rw [decide_eq_decide]; exact dgs_eq m n hm hn] at hr
  unfold Oper.wp execOp
  simp only [ho, hx, hy, Sem.run_bind, run_eqGuard_agg w .eql _ x y _ _ guard_wide, Result.andThen_ok, hr, Sem.run_pure, Oper.upon_value]
  exact h
theorem wpR_eqB {x y : Operand} {yt : TypeId} (ho : o.op = .binOp .eql tBo x y yt) (m n : Bool) (hx : a.eval x = .bool m) (hy : a.eval y = .bool n) (h : K (a.put o.dst (.bool (m == n))) w) : Oper.wp Try.prog o a w K Q := by
  unfold Oper.wp execOp
  simp only [ho, hx, hy]
  simp [go_sem]
  exact h
theorem wpR_neB {x y : Operand} {yt : TypeId} (ho : o.op = .binOp .neq tBo x y yt) (m n : Bool) (hx : a.eval x = .bool m) (hy : a.eval y = .bool n) (h : K (a.put o.dst (.bool (m != n))) w) : Oper.wp Try.prog o a w K Q := by
  unfold Oper.wp execOp
  simp only [ho, hx, hy]
  simp [go_sem]
  exact h
theorem wpR_eqI {x y : Operand} {t yt : TypeId} (ho : o.op = .binOp .eql t x y yt) (m n : Int) (hx : a.eval x = .int .i64 m) (hy : a.eval y = .int .i64 n) (h : K (a.put o.dst (.bool (m == n))) w) : Oper.wp Try.prog o a w K Q := by
  unfold Oper.wp execOp
  simp only [ho, hx, hy]
  simp [go_sem]
  exact h
theorem wpR_pickF {c x y : Operand} (v : Value) (ho : o.op = .pick c x y) (hc : a.eval c = .bool false) (hy : a.eval y = v) (h : K (a.put o.dst v) w) : Oper.wp Try.prog o a w K Q := by
  unfold Oper.wp execOp
  simp only [ho, hc, hy]
  simp [go_sem]
  exact h
theorem wpR_pickT {c x y : Operand} (v : Value) (ho : o.op = .pick c x y) (hc : a.eval c = .bool true) (hx : a.eval x = v) (h : K (a.put o.dst v) w) : Oper.wp Try.prog o a w K Q := by
  unfold Oper.wp execOp
  simp only [ho, hc, hx]
  simp [go_sem]
  exact h
theorem wpR_not {x : Operand} {t : TypeId} (ho : o.op = .unOp .not t x) (b : Bool) (hx : a.eval x = .bool b) (h : K (a.put o.dst (.bool (!b))) w) : Oper.wp Try.prog o a w K Q := by
  unfold Oper.wp execOp
  simp only [ho, hx]
  simp [go_sem]
  exact h
theorem wpR_fld (i d : Nat) {x : Operand} (ho : o.op = .fieldAddr tSn x i) (b : Nat) (hx : a.eval x = .pointer (some ⟨b, 0, none⟩)) (hr : ∀ w, (Instr.fieldAt tSn (.pointer (some ⟨b, 0, none⟩)) i).run Try.prog w = .ok (.pointer (some ⟨b, d, none⟩)) w) (h : K (a.put o.dst (.pointer (some ⟨b, d, none⟩))) w) : Oper.wp Try.prog o a w K Q := by
  unfold Oper.wp execOp
  simp only [ho, hx, Sem.run_bind, hr, Result.andThen_ok, Sem.run_pure, Oper.upon_value]
  exact h
end
theorem fS0 (b : Nat) (w : World) : (Instr.fieldAt tSn (.pointer (some ⟨b, 0, none⟩)) 0).run Try.prog w = .ok (.pointer (some ⟨b, 0, none⟩)) w := by kernel_rfl
theorem fS1 (b : Nat) (w : World) : (Instr.fieldAt tSn (.pointer (some ⟨b, 0, none⟩)) 1).run Try.prog w = .ok (.pointer (some ⟨b, 64, none⟩)) w := by kernel_rfl
theorem fS2 (b : Nat) (w : World) : (Instr.fieldAt tSn (.pointer (some ⟨b, 0, none⟩)) 2).run Try.prog w = .ok (.pointer (some ⟨b, 128, none⟩)) w := by kernel_rfl
theorem ldBo (w : World) (b f : Nat) (v : Value) (h : w.cell? ⟨b, f, none⟩ = some v) : (loadVar tBo ⟨b, f, none⟩).run Try.prog w = .ok v w := by
  simp [loadVar, isAgg, run_underlying Try.underlying4, h]

end Go.Proofs.Ytkbdnebmekhcdaa
