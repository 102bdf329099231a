/-
  the inbox: a box's Link, Entry.
-/
import Derived.Test.YtknabkoddickaaaGreatDoorIbE
namespace Go.Proofs.YtknabkoddickaaaGreatDoor
open Go Go.RowKit
open Sha

theorem Irw.cut {R : List Value} {t0 : Int} {kk : List (BitVec 8)} (h : Irw R t0 kk) : (R.drop 49).take 32 = vB kk := by
  have hk : (vB kk).length = 32 := by rw [vB_length, h.kl]
  apply List.ext_getElem?
  intro k
  by_cases hlt : k < 32
  · rw [List.getElem?_take_of_lt hlt, List.getElem?_drop, h.lk k _ (List.getElem?_eq_getElem (by rw [hk]; exact hlt))]
    exact (List.getElem?_eq_getElem _).symm
  · rw [List.getElem?_eq_none (by rw [List.length_take]; omega), List.getElem?_eq_none (by rw [hk]; omega)]
section
variable {ops : Array Oper} {rest : List Oper} {op : Oper} {a : Act} {w : World} {Q : Exit → Act → World → Prop}
theorem wpList_fieldK (hgd : op.guard = none) (x : Operand) (ho : op.op = .field 84 x 1) (R : List Value) (t0 : Int) (kk : List (BitVec 8)) (hR : Irw R t0 kk) (hx : a.eval x = .agg R.toArray) (h : wpList Tryz.prog ops Q rest (a.put op.dst (.agg (vB kk).toArray)) w) : wpList Tryz.prog ops Q (op :: rest) a w :=
  wpList_plain hgd fun _ hK => by
    have e := hR.cut
    have hr : (Instr.field 84 (.agg R.toArray) 1).run Tryz.prog w = .ok (.agg (vB kk).toArray) w := by
      cases hi : Tryz.prog.info? 51 with
      | none => have := info_dg; rw [hi] at this; cases this
      | some ie =>
        have h4 : ie.size = 32 := by have := info_dg; rw [hi] at this; simpa using this
        simp [Instr.field, run_underlying Tryz.underlying84, run_underlying Tryz.underlying51, part, isAgg, asAgg, sizeOf, typeInfo, hi, h4, e]
    unfold Oper.wp execOp
    simp only [ho, hx, Sem.run_bind, hr, Result.andThen_ok, Sem.run_pure, Oper.upon_value]
    exact hK _ _ h
end
set_option maxRecDepth 100000 in
set_option maxHeartbeats 4000000 in
theorem link_ok {w0 w : World} {p : Nat} {v : Value} {es : List Ev} (h : Bx w0 w p v es) (hn : es.length ≤ 1000000) (i : Nat) (hi : i ≤ es.length) :
    Calls Tryz.prog 21 #[.pointer (some ⟨p, 0, none⟩), .int .i64 (i : Int)] w fun r w' => r = .returned (.tuple #[.agg (vB (lk es i)).toArray, .int .i64 0]) ∧ Below w.heap.size w w' := by
  obtain ⟨R, hR, _, hRc⟩ := last_any h i hi hn
  obtain ⟨A, cap, hv⟩ := h.form
  obtain ⟨N, hN⟩ : ∃ N, N = es.length := ⟨_, rfl⟩
  obtain ⟨kk, hkk⟩ : ∃ k, k = lk es i := ⟨_, rfl⟩
  rw [← hkk] at hR
  have HR : Hid (Irw R (ltm es i) kk) := hR
  have HLA : Hid (∀ X, Below w.heap.size w X → Calls Tryz.prog 40 #[.pointer (some ⟨p, 0, none⟩), .int .i64 (i : Int)] X fun r w' => r = .returned (.agg R.toArray) ∧ Below X.heap.size X w') := hRc
  have HC : Hid (∀ X, Below w.heap.size w X → X.cell? ⟨p, 0, none⟩ = some (.slice A N cap)) := fun X k => by have := (h.keep k).row.cell 0 _ rfl; rw [hv] at this; rw [hN]; exact this
  have HLL : Hid ((vB kk).length = (vB zK).length) := by show _ = _; rw [vB_length, vB_length, HR.out.kl]; rfl
  have HID : Hid ((Tryz.prog.info? 51).map (·.size) = some (vB kk).length) := by show _ = _; rw [vB_length, HR.out.kl]; exact info_dg
  have h1 : i ≤ N := by omega
  have h2 : N ≤ 1000000 := by omega
  have h3 : ¬ ((N : Int) < (i : Int)) := by omega
  have h4 : ¬ ((i : Int) < 0) := by omega
  rw [← hkk]
  clear h hR hRc hv hN hkk hn hi
  go_enter Tryz.func21, Tryz.ntmps21
  go_upto_region 1 with (refine wpList_allocD rfl rfl ?_; intro X3 q1 q2; have Z3 : Hid (Row X3 w.heap.size (vB zK) 51) := q1; have B3 : Hid (Below w.heap.size w X3) := q2; clear q1 q2; simp only [Act.put, List.setIfInBounds_toArray, List.set_cons_zero, List.set_cons_succ])
  have c0 := HC.out X3 B3.out
  obtain ⟨b, hb⟩ : ∃ b, b = w.heap.size := ⟨_, rfl⟩
  have NB : Hid (w.heap.size ≤ b) := by rw [hb]; exact Nat.le_refl _
  rw [← hb] at Z3 ⊢
  clear hb HC
  go_wp2_with (first
    | (go_at_call 40; refine Calls.mono (HLA.out X3 B3.out) ?_; rintro e4 X4 ⟨rfl, q3⟩; have B4 : Hid (Below w.heap.size w X4) := B3.out.trans (q3.mono B3.out.size); have Z4 : Hid (Row X4 b (vB zK) 51) := Row.below Z3.out q3 Z3.out.lt; clear q3)
    | (refine wpList_fieldK rfl (.tmp 25) rfl R _ kk HR.out rfl ?_; simp only [Act.put, List.setIfInBounds_toArray, List.set_cons_zero, List.set_cons_succ])
    | (refine wpList_storeL rfl 51 (.tmp 4) (.tmp 26) rfl b (vB kk) (vB zK) 51 rfl rfl Z4.out HLL.out HID.out (all_oneCell_toArray (vB_one kk)) ?_; intro X6 q1 q2; have B6 : Hid (Below w.heap.size w X6) := (by rw [q1]; exact below_setCells B4.out NB.out _); have R6 : Hid (Row X6 b (vB kk) 51) := q2; clear q1 q2; simp only [Act.put]))
  exact bodyPost_ret (results_row_tmp Tryz.results21 _ _ b 51 (vB kk) (.int .i64 0) rfl rfl R6.out Tryz.underlying51 info_dg (by rw [vB_length, HR.out.kl])) rfl ⟨rfl, B6.out⟩
set_option maxRecDepth 100000 in
set_option maxHeartbeats 4000000 in
theorem entry_ok {w0 w : World} {p : Nat} {v : Value} {es : List Ev} (h : Bx w0 w p v es) (hn : es.length ≤ 1000000) (i : Nat) (e : Ev) (he : es[i]? = some e) (n : Nat) (hen : e.d.length = n) :
    Calls Tryz.prog 20 #[.pointer (some ⟨p, 0, none⟩), .int .i64 (i : Int)] w fun r w' => ∃ A c, r = .returned (.tuple #[.agg (e.cells (.slice A n c)).toArray, .int .i64 0]) ∧ Nb w.heap.size w' A n c e.d ∧ Below w.heap.size w w' := by
  obtain ⟨g, cap, A, c, hv, hr, hbw, hnil⟩ := h.at he
  have hil : i < es.length := (List.getElem?_eq_some_iff.1 he).1
  obtain ⟨hw, hm⟩ := h.wf he
  have hd1 : n ≤ 1000000 := by
    rcases hm.2.2 with q | q
    · have := q.2.2.2.2.2.2; omega
    · have := q.2.2.2.2.2; omega
  obtain ⟨N, hN⟩ : ∃ N, N = es.length := ⟨_, rfl⟩
  rw [hen] at hr hbw
  obtain ⟨L, hL⟩ : ∃ L, L = e.cells (.slice A n c) := ⟨_, rfl⟩
  have HW : Hid e.Wf := hw
  have HI : Hid ((Tryz.prog.info? 46).map (·.size) = some L.length) := by rw [hL]; exact Ev.info hw _
  have HC : Hid (∀ X, Below w.heap.size w X → X.cell? ⟨p, 0, none⟩ = some (.slice (some ⟨g, 0, none⟩) N cap)) := fun X k => by have := (h.keep k).row.cell 0 _ rfl; rw [hv] at this; rw [hN]; exact this
  have HR : Hid (∀ X, Below w.heap.size w X → X.rangeAt g (i * 81) L) := fun X k j u hj => by
    exact range_be hr k j u (by rw [← hL, List.getElem?_append_left ((List.getElem?_eq_some_iff.1 hj).1)]; exact hj)
  have HCO : Hid (∀ X, Below w.heap.size w X → Calls Tryz.prog 42 #[.agg L.toArray] X fun r w' => ∃ A' c', r = .returned (.agg (e.cells (.slice A' n c')).toArray) ∧ Bw w' (.slice A' n c') e.d ∧ (A' = none → c' = 0) ∧ Fresh X.heap.size (.slice A' n c') ∧ Below X.heap.size X w') := fun X k => copied_ok e hw A n c hen hd1 hnil L hL X (Bw.sl (Bw.be hbw k))
  have HIN : Hid (i < N) := by rw [hN]; exact hil
  have h1 : i < N := HIN.out
  have h2 : N ≤ 1000000 := by omega
  have h3 : ¬ ((N : Int) ≤ (i : Int)) := by omega
  have h4 : ¬ ((i : Int) < 0) := by omega
  clear h hr hbw hnil hv hN hn hil hL hw hm hd1 he hen
  go_enter Tryz.func20, Tryz.ntmps20
  go_upto_region 1 with (refine wpList_allocE rfl rfl ?_; intro X3 q1 q2; have Z3 : Hid (Row X3 w.heap.size zE 46) := q1; have B3 : Hid (Below w.heap.size w X3) := q2; clear q1 q2; simp only [Act.put, List.setIfInBounds_toArray, List.set_cons_zero, List.set_cons_succ])
  have c0 := HC.out X3 B3.out
  obtain ⟨b, hb⟩ : ∃ b, b = w.heap.size := ⟨_, rfl⟩
  have NB : Hid (w.heap.size ≤ b) := by rw [hb]; exact Nat.le_refl _
  rw [← hb] at Z3 ⊢
  clear hb HC
  go_wp2_with (first
    | (refine wpList_ixI 64 84 (.tmp 26) (.tmp 27) rfl g 0 N cap i 81 rfl rfl HIN.out Tryz.underlying64 info_row rfl ?_; simp only [Act.put, List.setIfInBounds_toArray, List.set_cons_zero, List.set_cons_succ])
    | (refine wpList_load_w rfl 46 (.tmp 29) rfl g (i * 81) rfl L _ (HR.out X3 B3.out) Tryz.underlying46 rfl HI.out ?_; simp only [Act.put, List.setIfInBounds_toArray, List.set_cons_zero, List.set_cons_succ])
    | (go_at_call 42; refine Calls.mono (HCO.out X3 B3.out) ?_; rintro e7 X4 ⟨A', c', rfl, q1, q2, q3, q4⟩; have W4 : Hid (Nb w.heap.size X4 A' n c' e.d) := ⟨q1, q2, q3.more B3.out.size⟩; have B4 : Hid (Below w.heap.size w X4) := B3.out.trans (q4.mono B3.out.size); have Z4 : Hid (Row X4 b zE 46) := Row.below Z3.out q4 Z3.out.lt; clear q1 q2 q3 q4; obtain ⟨L7, hL7⟩ : ∃ L7, L7 = e.cells (.slice A' n c') := ⟨_, rfl⟩; have H7 : Hid (L7 = e.cells (.slice A' n c')) := hL7; have I7 : Hid ((Tryz.prog.info? 46).map (·.size) = some L7.length) := (by rw [hL7]; exact Ev.info HW.out _); have N7 : Hid (L7.length = zE.length) := (by show _ = _; rw [hL7, Ev.len HW.out]; rfl); have O7 : Hid (L7.toArray.all (·.oneCell') = true) := (by rw [hL7]; exact all_oneCell_toArray (Ev.one e _ _ _)); rw [← hL7]; clear hL7)
    | (refine wpList_storeL rfl 46 (.tmp 4) (.tmp 31) rfl b L7 zE 46 rfl rfl Z4.out N7.out I7.out O7.out ?_; intro X6 q1 q2; have B6 : Hid (Below w.heap.size w X6) := (by rw [q1]; exact below_setCells B4.out NB.out _); have W6 : Hid (Nb w.heap.size X6 A' n c' e.d) := (by rw [q1]; exact W4.out.gro Z4.out (by decide) (gro_over (Gro.refl _ _) b 0 L7 rfl)); have R6 : Hid (Row X6 b L7 46) := q2; clear q1 q2; simp only [Act.put]))
  exact bodyPost_ret (results_rowS_tmp Tryz.results20 _ _ b 46 L7 (.int .i64 0) rfl rfl R6.out Tryz.underlying46 I7.out) rfl ⟨A', c', by rw [H7.out], W6.out, B6.out⟩

end Go.Proofs.YtknabkoddickaaaGreatDoor
