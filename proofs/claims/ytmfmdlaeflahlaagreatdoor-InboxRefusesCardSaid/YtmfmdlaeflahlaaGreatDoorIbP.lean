/-
  the inbox: a box's Entries; a list cut at both ends.
-/
import Derived.Test.YtmfmdlaeflahlaaGreatDoorIbO
import Derived.Laws.MakeOwn
namespace Go.Proofs.YtmfmdlaeflahlaaGreatDoor
open Go Go.RowKit
open Sha

/-- Where a list that is cut lies. -/
def cutA (A : Option Addr) (cap i s : Nat) : Option Addr := if cap = i then A else A.map (·.add (i * s))
section
variable {ops : Array Oper} {rest : List Oper} {op : Oper} {a : Act} {w : World} {Q : Exit → Act → World → Prop}
theorem wpList_slice_ij (hw : Region.wanted op (yielded ops a.tmps) = true) (t e : TypeId) (x y z : Operand) (A : Option Addr) (n cap i j s : Nat) (ho : op.op = .slice t x (some y) (some z) none) (hx : a.eval x = .slice A n cap) (hy : a.eval y = .int .i64 (i : Int)) (hz : a.eval z = .int .i64 (j : Int)) (hij : i ≤ j) (hj : j ≤ cap)
    (hu : Tryz.prog.underlying t = some (.slice e)) (hs : (Tryz.prog.info? e).map (·.size) = some s) (A2 : Option Addr) (hA : A2 = cutA A cap i s) (m : Nat) (hm : j = i + m) (h : wpList Tryz.prog ops Q rest (a.put op.dst (.slice A2 m (cap - i))) w) : wpList Tryz.prog ops Q (op :: rest) a w :=
  BigFrame.wpList_want hw fun _ hK => by
    subst hA hm
    cases hq : Tryz.prog.info? e with
    | none => simp [hq] at hs
    | some ie =>
      have h1 : ie.size = s := by simpa [hq] using hs
      have hr : (Instr.sliceAt t (.slice A n cap) (some (.int .i64 (i : Int))) (some (.int .i64 ((i + m : Nat) : Int))) none).run Tryz.prog w = .ok (.slice (cutA A cap i s) m (cap - i)) w := by
        have e0 : (0 : Int) ≤ ((i + m : Nat) : Int) := by omega
        have e1 : ((i + m : Nat) : Int) ≤ (cap : Int) := by omega
        have e2 : (i : Int) ≤ ((i + m : Nat) : Int) := by omega
        have e3 : (0 : Int) ≤ (i : Int) := by omega
        have e4 : ((i + m : Nat) : Int).toNat = i + m := by omega
        simp only [Instr.sliceAt, Instr.slice, run_underlying hu, Instr.sliceBounds, Instr.sliceBound, asIntOf, sizeOf, typeInfo, Sem.run_bind, Sem.run_pure, Result.andThen_ok, e0, e1, e2, e3, and_self, if_true, e4, Int.toNat_natCast, cutA]
        simp [go_sem]
        rw [hq]
        simp [go_sem, h1]
      unfold Oper.wp execOp
      simp only [ho, hx, hy, hz, Option.map_some, Option.map_none, Sem.run_bind, hr, Result.andThen_ok, Sem.run_pure, Oper.upon_value]
      exact hK _ _ h
theorem wpList_makeE (hgd : op.guard = none) (x y : Operand) (ho : op.op = .makeSlice 52 x y) (m : Nat) (l' : Int) (hl' : l' = (m : Int)) (hx : a.eval x = .int .i64 0) (hy : a.eval y = .int .i64 l') (hn : m ≤ 1000000)
    (h : ∀ W g, g = w.heap.size → Lw W 46 49 (.slice (some ⟨g, 0, none⟩) 0 m) 0 [] → Below w.heap.size w W → wpList Tryz.prog ops Q rest (a.put op.dst (.slice (some ⟨g, 0, none⟩) 0 m)) W) : wpList Tryz.prog ops Q (op :: rest) a w :=
  wpList_plain hgd fun _ hK => by
    subst hl'
    obtain ⟨ie, z, h1, h2, h3, h5, h4⟩ := info_entO
    obtain ⟨w', hr, ho', hg⟩ := run_make_own (P := Tryz.prog) w 0 52 46 ie z 49 Tryz.underlying52 h1 h2 h3 .i64 .i64 m (by rw [h5]; omega) (by unfold maxLen; omega) (Nat.zero_le _)
    unfold Oper.wp execOp
    simp only [ho, hx, hy, Sem.run_bind, hr, Result.andThen_ok, Sem.run_pure, Oper.upon_value]
    exact hK _ _ (h _ _ rfl ho' (below_gb (Below.refl _ _) hg (fun g eg => by cases eg)))
end
theorem EsAt.cut {w : World} {A : Option Addr} {es : List Ev} (h : EsAt w A es) (cap i m : Nat) (hc : es.length ≤ cap) (hj : i + m ≤ es.length) : EsAt w (cutA A cap i 49) ((es.drop i).take m) := fun k e he => by
  have hk : k < m := by have := (List.getElem?_eq_some_iff.1 he).1; rw [List.length_take] at this; omega
  rw [List.getElem?_take_of_lt hk, List.getElem?_drop] at he
  obtain ⟨b, o, A', c', q1, q2, q3, q4⟩ := h (i + k) e he
  refine ⟨b, o + i * 49, A', c', ?_, ?_, q3, q4⟩
  · unfold cutA
    rw [if_neg (by omega), q1]
    simp [Addr.add_mid]
  · rw [show o + i * 49 + k * 49 = o + (i + k) * 49 by rw [Nat.add_mul]; omega]
    exact q2
theorem Okr.cut {es : List Ev} (h : Okr es) (i m : Nat) : Okr ((es.drop i).take m) := by
  refine ⟨fun e he => h.ok e (List.mem_of_mem_drop (List.mem_of_mem_take he)), fun k e he => ?_⟩
  have hk : k < m := by have := (List.getElem?_eq_some_iff.1 he).1; rw [List.length_take] at this; omega
  have he2 := he
  rw [List.getElem?_take_of_lt hk, List.getElem?_drop] at he2
  cases k with
  | zero => show ¬ e.tm < 0; have := (h.wf he2).2.1; omega
  | succ k =>
    have hu := h.up (i + (k + 1)) e he2
    have e1 : ltm ((es.drop i).take m) (k + 1) = ltm es (i + (k + 1)) := by
      rw [show i + (k + 1) = (i + k) + 1 by omega]
      simp only [ltm]
      rw [List.getElem?_take_of_lt (by omega), List.getElem?_drop]
    rw [e1]
    exact hu
theorem lkf_cut (es : List Ev) (i m : Nat) : lkf (lk es i) ((es.drop i).take m) = lk es (i + m) := by
  unfold lk
  rw [← lkf_app, List.take_add]
set_option maxRecDepth 100000 in
set_option maxHeartbeats 8000000 in
theorem entries_ok {w0 w : World} {p : Nat} {v : Value} {es : List Ev} (h : Bx w0 w p v es) (hn : es.length ≤ 100000) (i j m : Nat) (hm : j = i + m) (hj : j ≤ es.length) :
    Calls Tryz.prog 28 #[.pointer (some ⟨p, 0, none⟩), .int .i64 (i : Int), .int .i64 (j : Int)] w fun r w' => ∃ A c, r = .returned (.tuple #[.slice A m c, .int .i64 0]) ∧ Eo w w' (.slice A m c) ((es.drop i).take m) := by
  obtain ⟨Av, cv, hv⟩ := h.form
  have hcap : es.length ≤ cv := by
    obtain ⟨cs, h1, _⟩ := h.own
    obtain ⟨A9, c9, e9, h9, _⟩ := Lw.form h1
    rw [hv] at e9
    simp only [Value.slice.injEq] at e9
    obtain ⟨_, _, rfl⟩ := e9
    exact h9
  obtain ⟨N, hN⟩ : ∃ N, N = es.length := ⟨_, rfl⟩
  have HB : Hid (Bx w0 w p v es) := h
  have HC : Hid (∀ X, Below w.heap.size w X → X.cell? ⟨p, 0, none⟩ = some (.slice Av N cv)) := fun X k => by have := (h.keep k).row.cell 0 _ rfl; rw [hv] at this; rw [hN]; exact this
  have HVV : Hid (v = .slice Av N cv) := by rw [hN]; exact hv
  obtain ⟨A2, hA2⟩ : ∃ A2, A2 = cutA Av cv i 81 := ⟨_, rfl⟩
  have HA2 : Hid (A2 = cutA Av cv i 81) := hA2
  have HMJ : Hid (j = i + m) := hm
  have HJ : Hid (i ≤ j ∧ j ≤ cv ∧ j ≤ N) := by show _ ∧ _ ∧ _; omega
  have HNE : Hid (N = es.length) := hN
  have h1 : ¬ ((i : Int) < 0) := by omega
  have h2 : ¬ ((j : Int) < (i : Int)) := by omega
  have h3 : ¬ ((N : Int) < (j : Int)) := by omega
  have h4 : ((j : Int) - (i : Int)) = (m : Int) := by omega
  have hj2 : j ≤ 100000 := by omega
  have hi2 : i ≤ 100000 := by omega
  have hm2 : m ≤ 100000 := by omega
  clear h hv hcap hN hA2 hm hj hn
  go_enter Tryz.func28, Tryz.ntmps28
  have c0 := HC.out w (Below.refl _ _)
  go_upto_region 6 with (first
    | (refine wpList_makeE rfl _ _ rfl m _ rfl rfl rfl (by omega) ?_; intro X1 g hg q1 q2; have E1 : Hid (Eo w X1 (.slice (some ⟨g, 0, none⟩) 0 m) (((es.drop i).take m).take 0)) := ⟨⟨[], q1, fun k e he => by simp at he⟩, (fun g' eg => by simp [Value.ownBlock] at eg; omega), q2⟩; clear q1 q2 hg; simp only [Act.put, List.setIfInBounds_toArray, List.set_cons_zero, List.set_cons_succ]))
  clear c0
  have c1 := HC.out X1 E1.out.be
  go_upto_region 7 with (first
    | (refine wpList_slice_ij rfl 85 97 (.tmp 38) (.tmp 39) (.tmp 40) Av N cv i j 81 rfl rfl rfl rfl HJ.out.1 HJ.out.2.1 Tryz.underlying85 info_row A2 HA2.out m HMJ.out ?_; simp only [Act.put, List.setIfInBounds_toArray, List.set_cons_zero, List.set_cons_succ]))
  clear c1 HC
  go_loopw [8, 43] (fun v8 v43 wr => ∃ (k : Nat) (A : Option Addr) (c : Nat), k ≤ m ∧ v43 = .int .i64 (k : Int) ∧ v8 = .slice A k c ∧ Hid (Eo w wr (.slice A k c) (((es.drop i).take m).take k))) (fun _ v43 _ => m - (intOf v43).toNat)
  case atStart => exact ⟨0, some ⟨g, 0, none⟩, m, Nat.zero_le _, rfl, rfl, E1⟩
  case round =>
    obtain ⟨k, A, c, hk, rfl, rfl, HE⟩ := hrel
    clear E1
    by_cases hlt : k < m
    · obtain ⟨e, he⟩ : ∃ e, es[i + k]? = some e := ⟨_, List.getElem?_eq_getElem (by have := HJ.out; have := HMJ.out; have := HNE.out; omega)⟩
      obtain ⟨g1, cap1, Ae, ce, hv1, hrg, hbw, hnil⟩ := HB.out.at he
      obtain ⟨hw, hmay⟩ := HB.out.wf he
      have hpart : ((es.drop i).take m)[k]? = some e := by rw [List.getElem?_take_of_lt hlt, List.getElem?_drop]; exact he
      have hd1 : e.d.length ≤ 1000000 := by
        rcases hmay.2.2 with q | q
        · have := q.2.2.2.2.2.2; omega
        · have := q.2.2.2.2.2; omega
      rw [HVV.out] at hv1
      simp only [Value.slice.injEq] at hv1
      have hA3 : A2 = some ⟨g1, i * 81, none⟩ := by
        rw [HA2.out]
        unfold cutA
        rw [if_neg (by have := HJ.out; have := HMJ.out; omega), hv1.1]
        simp [Addr.add_mid]
      subst hA3
      obtain ⟨n, hn⟩ : ∃ n, n = e.d.length := ⟨_, rfl⟩
      rw [← hn] at hrg hbw hd1
      obtain ⟨kk, hkk⟩ : ∃ d, d = lk es (i + k + 1) := ⟨_, rfl⟩
      have HKL : Hid (kk.length = 32) := by rw [hkk]; exact lk_len _ _
      rw [← hkk] at hrg
      obtain ⟨L, hL⟩ : ∃ L, L = e.cells (.slice Ae n ce) := ⟨_, rfl⟩
      rw [← hL] at hrg
      obtain ⟨q, hq⟩ : ∃ q, q = (i + k) * 81 := ⟨_, rfl⟩
      have HQ : Hid (i * 81 + k * 81 = q) := by rw [hq, Nat.add_mul]; exact rfl
      rw [← hq] at hrg
      obtain ⟨R, hR⟩ : ∃ R, R = L ++ vB kk := ⟨_, rfl⟩
      rw [← hR] at hrg
      have HW : Hid e.Wf := hw
      have HIN : Hid (k < m) := hlt
      have HLN : Hid (L.length = 49) := by rw [hL]; exact Ev.len hw _
      have HI : Hid ((Tryz.prog.info? 46).map (·.size) = some L.length) := by rw [hL]; exact Ev.info hw _
      have HRZ : Hid (R.length = zR.length) := by show _ = _; rw [hR, rw_len _ _ HLN.out HKL.out]; rfl
      have HRI : Hid ((Tryz.prog.info? 97).map (·.size) = some R.length) := by show _ = _; rw [HRZ.out]; exact info_row
      have HRO : Hid (R.toArray.all (·.oneCell') = true) := by rw [hR]; exact rw_one _ _ (by rw [hL]; exact Ev.one e _ _ _)
      have HRR : Hid (∀ X, Below w.heap.size w X → X.rangeAt g1 q R) := fun X kb => range_be hrg kb
      have HRL : Hid (∀ X b, Row X b R 97 → X.rangeAt b 0 L) := fun X b r => r.range 0 _ (fun z u hz => by rw [Nat.zero_add, hR, List.getElem?_append_left ((List.getElem?_eq_some_iff.1 hz).1)]; exact hz)
      have HCO : Hid (∀ X, Below w.heap.size w X → Calls Tryz.prog 50 #[.agg L.toArray] X fun r w' => ∃ A' c', r = .returned (.agg (e.cells (.slice A' n c')).toArray) ∧ Bw w' (.slice A' n c') e.d ∧ (A' = none → c' = 0) ∧ Fresh X.heap.size (.slice A' n c') ∧ Below X.heap.size X w') := fun X kb => copied_ok e hw Ae n ce hn.symm hd1 hnil L hL X (Bw.sl (Bw.be hbw kb))
      have HNE2 : Hid (n = e.d.length) := hn
      have HTE : Hid (((es.drop i).take m).take k ++ [e] = ((es.drop i).take m).take (k + 1)) := by show _ = _; rw [List.take_add_one (l := (es.drop i).take m), hpart]; rfl
      have HTL : Hid ((((es.drop i).take m).take k).length = k) := by show _ = _; rw [List.length_take]; have := (List.getElem?_eq_some_iff.1 hpart).1; omega
      clear he hrg hbw hnil hw hmay hpart hd1 hn hkk hL hq hR hv1
      go_upto_region 9 with (first
        | (refine wpList_ixO 85 97 (.tmp 41) (.tmp 43) rfl g1 (i * 81) m (cv - i) k 81 q HQ.out rfl rfl HIN.out Tryz.underlying85 info_row rfl ?_; simp only [Act.put, List.setIfInBounds_toArray, List.set_cons_zero, List.set_cons_succ])
        | (refine wpList_load_w rfl 97 (.tmp 45) rfl g1 (q) rfl (R) _ (HRR.out wr HE.out.be) Tryz.underlying97 rfl HRI.out ?_; simp only [Act.put, List.setIfInBounds_toArray, List.set_cons_zero, List.set_cons_succ])
        | (refine wpList_allocR rfl rfl ?_; intro Y1 q1 q2; have Z1 : Hid (Row Y1 wr.heap.size zR 97) := q1; have B1 : Hid (Below wr.heap.size wr Y1) := q2; clear q1 q2; simp only [Act.put, List.setIfInBounds_toArray, List.set_cons_zero, List.set_cons_succ])
        | (refine wpList_storeL rfl 97 (.tmp 10) (.tmp 46) rfl wr.heap.size R zR 97 rfl rfl Z1.out HRZ.out HRI.out HRO.out ?_; intro Y2 q1 q2; have R2 : Hid (Row Y2 wr.heap.size R 97) := q2; have E2 : Hid (Eo w Y2 (.slice A k c) (((es.drop i).take m).take k)) := HE.out.keep (by rw [q1]; exact below_setCells B1.out (Nat.le_refl _) _); clear q1 q2; simp only [Act.put]))
      obtain ⟨b, hb⟩ : ∃ b, b = wr.heap.size := ⟨_, rfl⟩
      rw [← hb] at R2 ⊢
      have HLR : Hid (Y2.rangeAt b 0 L) := HRL.out Y2 b R2.out
      clear hb Z1 B1 HE HRR HRZ HRI HRO HQ R2 HRL
      go_upto_region 10 with (first
        | (refine wpList_load_w rfl 46 (.tmp 48) rfl b (0) rfl (L) _ HLR.out Tryz.underlying46 rfl HI.out ?_; simp only [Act.put, List.setIfInBounds_toArray, List.set_cons_zero, List.set_cons_succ])
        | (go_at_call 50; refine Calls.mono (HCO.out Y2 E2.out.be) ?_; rintro e7 Y3 ⟨A3, c3, rfl, q1, q2, q3, q4⟩; have W3 : Hid (Bw Y3 (.slice A3 n c3) e.d) := q1; have V3 : Hid (A3 = none → c3 = 0) := q2; have E3 : Hid (Eo w Y3 (.slice A k c) (((es.drop i).take m).take k)) := E2.out.keep q4; clear q1 q2 q3 q4; obtain ⟨L3, hL3⟩ : ∃ L3, L3 = e.cells (.slice A3 n c3) := ⟨_, rfl⟩; have H3 : Hid (L3 = e.cells (.slice A3 e.d.length c3)) := (by rw [← HNE2.out]; exact hL3); have N3 : Hid (L3.length = 49) := (by rw [hL3]; exact Ev.len HW.out _); have O3 : Hid (∀ u ∈ L3, u.oneCell' = true) := (by rw [hL3]; exact Ev.one e _ _ _); rw [← hL3]; clear hL3; obtain ⟨cs, hlw, hcs⟩ := E3.out.own; have HLW : Hid (Lw Y3 46 49 (.slice A k c) (((es.drop i).take m).take k).length cs) := hlw; have HCS : Hid _ := hcs; clear hlw hcs)
        | (refine wpList_bEnt rfl (.tmp 50) rfl L3 N3.out rfl ?_; intro Y4 q1 q2; have R4 : Hid (Row Y4 Y3.heap.size L3 46) := q1; have D4 : Hid (Below Y3.heap.size Y3 Y4) := q2; clear q1 q2; simp only [Act.put, List.setIfInBounds_toArray, List.set_cons_zero, List.set_cons_succ])
        | (refine wpList_appL 52 46 49 136 Tryz.underlying52 info_entO (by decide) (by decide) rfl (.tmp 47) (.tmp 51) rfl (.slice A k c) k cs L3 rfl (by have := Lw.be HLW.out D4.out; rw [HTL.out] at this; exact this) Y3.heap.size N3.out rfl R4.out.all O3.out (by omega) ?_; intro v9 Y5 q1 q2 q3; have EG : Hid (Eo w Y5 v9 (((es.drop i).take m).take (k + 1))) := (by rw [← HTE.out]; exact Eo.grow (E3.out.keep D4.out) (Lw.be HLW.out D4.out) (fun z e' he => by obtain ⟨A1, c1, z1, z2, z3⟩ := HCS.out z e' he; exact ⟨A1, c1, z1, Bw.be z2 D4.out, z3⟩) HTL.out.symm (Bw.be (by rw [← HNE2.out]; exact W3.out) D4.out) V3.out H3.out q1 q2 q3); obtain ⟨A9, c9, e9, _, _⟩ := Lw.form q1; subst e9; clear q1 q2 q3; simp only [Act.put, List.setIfInBounds_toArray, List.set_cons_zero, List.set_cons_succ]))
      clear HLW HCS E2 E3 HCO HLR
      go_wp2_with fail
      go_roundw
      case rel => exact ⟨k + 1, A9, c9, hlt, rfl, rfl, EG⟩
      case measure => simp [intOf]; omega
    · obtain rfl : k = m := by omega
      have h5 : ¬ ((k : Int) < (k : Int)) := by omega
      go_wp2
      go_ret2
      have hE := HE.out
      rw [List.take_of_length_le (by rw [List.length_take]; omega)] at hE
      exact ⟨A, c, rfl, hE⟩

end Go.Proofs.YtmfmdlaeflahlaaGreatDoor
