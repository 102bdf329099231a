/-
  the ladder: Release, Hold, Drop, Confirm.
-/
import Derived.Test.YtfdbjcdcfmnicaaLaF
namespace Go.Proofs.Ytfdbjcdcfmnicaa
open Go Go.RowKit
open Sha

/-- The ladder has turned, and nothing else. -/
def Tn (w w' : World) (p : Nat) (v : Value) (B : Int) (st : La) : Prop := ∃ v', Ld w' p v' B st ∧ Gro (Tb p v) w w' ∧ Nv w v v'
theorem Tn.same {w w' : World} {p : Nat} {v : Value} {B : Int} {st : La} (h : Ld w p v B st) (k : Below w.heap.size w w') : Tn w w' p v B st := ⟨v, h.be k, Gro.of_below k, .inl rfl⟩
theorem La.Ok.mono {B C : Int} {st : La} (h : st.Ok B) (k : B ≤ C) : st.Ok C := ⟨h.w1, h.w2, h.l0, h.l1, h.g0, Int.le_trans h.g1 k, h.cf, h.cm, h.pw, h.pm, fun p hp => ⟨(h.pd p hp).1, Int.le_trans (h.pd p hp).2 k⟩, h.pl⟩
theorem Ld.mono {w : World} {p : Nat} {v : Value} {B C : Int} {st : La} (h : Ld w p v B st) (k : B ≤ C) : Ld w p v C st := ⟨h.row, h.own, h.ok.mono k⟩
theorem Tn.mono {w w' : World} {p : Nat} {v : Value} {B C : Int} {st : La} (h : Tn w w' p v B st) (k : B ≤ C) : Tn w w' p v C st := by
  obtain ⟨v', h1, h2⟩ := h
  exact ⟨v', h1.mono k, h2⟩
theorem fiN_lt {l : List Pn} {nr : Int} {i : Nat} (h : fiN l nr = some i) : i < l.length ∧ ∃ x, l[i]? = some x ∧ x.nr = nr := by
  unfold fiN at h
  rw [List.findIdx?_eq_some_iff_getElem] at h
  obtain ⟨h1, h2, _⟩ := h
  exact ⟨h1, l[i], List.getElem?_eq_getElem h1, of_decide_eq_true h2⟩
theorem drop_take_set (cs : List Value) (o m k : Nat) (u : Value) (hk : k < m) (hl : o + m ≤ cs.length) : ((cs.set (o + k) u).drop o).take m = ((cs.drop o).take m).set k u := by
  apply List.ext_getElem?
  intro j
  by_cases hj : j < m
  · rw [List.getElem?_take_of_lt hj, List.getElem?_drop]
    by_cases e : j = k
    · subst e
      rw [List.getElem?_set_self (by omega), List.getElem?_set_self (by rw [List.length_take, List.length_drop]; omega)]
    · rw [List.getElem?_set_ne (by omega), List.getElem?_set_ne (by omega), List.getElem?_take_of_lt hj, List.getElem?_drop]
  · rw [List.getElem?_eq_none (by rw [List.length_take]; omega), List.getElem?_eq_none (by rw [List.length_set, List.length_take]; omega)]
theorem pcs_set {l : List Pn} (h : ∀ p ∈ l, p.Wf) {i : Nat} {x : Pn} (hi : l[i]? = some x) (d : Int) : (pcs l).set (i * 90 + 89) (.int .i64 d) = pcs (l.set i { x with du := d }) := by
  induction l generalizing i with
  | nil => cases hi
  | cons a l ih =>
    have ha := Pn.len (h a (List.mem_cons_self ..))
    cases i with
    | zero =>
      obtain rfl : a = x := by simpa using hi
      rw [pcs_cons, List.set_append_left _ _ (by rw [ha]; decide), List.set_cons_zero, pcs_cons, Nat.zero_mul, Nat.zero_add, Pn.set_du (h a (List.mem_cons_self ..))]
    | succ i =>
      rw [pcs_cons, List.set_append_right _ _ (by rw [ha]; omega), ha, show (i + 1) * 90 + 89 - 90 = i * 90 + 89 by omega, ih (fun p hp => h p (List.mem_cons_of_mem _ hp)) (by simpa using hi), List.set_cons_succ, pcs_cons]
def La.setDu (st : La) (i : Nat) (x : Pn) (d : Int) : La := { st with pend := st.pend.set i { x with du := d } }
theorem mem_setP {l : List Pn} {i : Nat} {y p : Pn} (h : p ∈ l.set i y) : p ∈ l ∨ p = y := by
  rcases List.mem_or_eq_of_mem_set h with h | h
  · exact .inl h
  · exact .inr h
theorem La.setDu_ok {B C : Int} {st : La} (h : st.Ok B) {i : Nat} {x : Pn} (hi : st.pend[i]? = some x) (d : Int) (h0 : 0 ≤ d) (h1 : d ≤ C) (k : B ≤ C) : (st.setDu i x d).Ok C := by
  have hx := List.mem_of_getElem? hi
  refine ⟨h.w1, h.w2, h.l0, h.l1, h.g0, Int.le_trans h.g1 k, h.cf, h.cm, fun p hp => ?_, fun p hp => ?_, fun p hp => ?_, by show (st.pend.set i _).length ≤ 32; rw [List.length_set]; exact h.pl⟩
  · rcases mem_setP hp with q | rfl
    · exact h.pw p q
    · exact ⟨(h.pw x hx).c, (h.pw x hx).a⟩
  · rcases mem_setP hp with q | rfl
    · exact h.pm p q
    · exact h.pm x hx
  · rcases mem_setP hp with q | rfl
    · exact ⟨(h.pd p q).1, Int.le_trans (h.pd p q).2 k⟩
    · exact ⟨h0, h1⟩
/-- The i-th one's place, opened for a store. -/
theorem Ld.openAt {w : World} {p : Nat} {v : Value} {B : Int} {st : La} (h : Ld w p v B st) {i : Nat} {x : Pn} (hi : st.pend[i]? = some x) : ∃ g o cap cs, v = .slice (some ⟨g, o, none⟩) st.pend.length cap ∧ Row w g cs tP ∧ g ≠ p ∧ o + i * 90 + 89 < cs.length ∧ w.cell? ⟨g, o + i * 90 + 88, none⟩ = some (.int .i64 x.dl) ∧ w.cell? ⟨g, o + i * 90 + 89, none⟩ = some (.int .i64 x.du)
    ∧ ∀ (C : Int) (d : Int) (X : World), B ≤ C → 0 ≤ d → d ≤ C → Row X g (cs.set (o + i * 90 + 89) (.int .i64 d)) tP → Gro (· = g) w X → Tn w X p v C (st.setDu i x d) := by
  have hil : i < st.pend.length := (List.getElem?_eq_some_iff.1 hi).1
  have hx := h.ok.pw x (List.mem_of_getElem? hi)
  obtain ⟨g, o, cap, cs, hv, hr, hc, hm, hl, ht⟩ := h.own.open (by omega)
  obtain ⟨g', o', cap', e1, q1, q2⟩ := h.at hi
  rw [hv] at e1
  obtain ⟨⟨rfl, rfl⟩, rfl⟩ : (g = g' ∧ o = o') ∧ cap = cap' := by simpa using e1
  have hin : (i + 1) * 90 ≤ cap * 90 := Nat.mul_le_mul_right _ (by omega)
  have hin2 : (i + 1) * 90 ≤ st.pend.length * 90 := Nat.mul_le_mul_right _ (by omega)
  have hl2 : st.pend.length * 90 ≤ cap * 90 := Nat.mul_le_mul_right _ hc
  refine ⟨g, o, cap, cs, hv, hr, q2, by omega, q1 88 _ (Pn.at_dl hx), q1 89 _ (Pn.at_du hx), fun C d X hC h0 h1 r k => ?_⟩
  refine ⟨v, ⟨k.row h.row (fun e => q2 e.symm), ?_, La.setDu_ok h.ok hi d h0 h1 hC⟩, k.mono (fun g' e => by rw [e]; exact .inr (by rw [hv]; rfl)), .inl rfl⟩
  show Lo X tP 90 v (st.pend.set i _).length (pcs (st.pend.set i _))
  rw [List.length_set, ← pcs_set h.ok.pw hi d]
  refine ⟨by rw [List.length_set]; exact h.own.1, .inr ⟨g, o, cap, _, hv, r, hc, hm, by rw [List.length_set]; exact hl, ?_⟩⟩
  rw [Nat.add_assoc, drop_take_set cs o _ (i * 90 + 89) _ (by omega) (by omega), ht]

/-! ### Release, Hold -/
def La.rel (st : La) (nr : Int) : La × Int := match fiN st.pend nr with
  | none => (st, 164)
  | some i => match st.pend[i]? with
    | none => (st, 164)
    | some x => if x.du = 0 then (st, 166) else (st.setDu i x (x.du - 1), 0)
def La.hold (st : La) (nr now : Int) : La × Int := if tmB now = false then (st, 168) else match fiN st.pend nr with
  | none => (st, 164)
  | some i => match st.pend[i]? with
    | none => (st, 164)
    | some x => if x.dl ≤ now then (st, 167) else (st.setDu i x (x.du + 1), 0)
theorem Tn.after {w X w' : World} {p : Nat} {v : Value} {B : Int} {st : La} (k : Below w.heap.size w X) (h : Tn X w' p v B st) : Tn w w' p v B st := by
  obtain ⟨v', h1, h2, h3⟩ := h
  refine ⟨v', h1, ⟨h2.os.trans k.os, h2.tape.trans k.tape, h2.output.trans k.output, Nat.le_trans k.size h2.size, fun g hg hn => (h2.block g (Nat.lt_of_lt_of_le hg k.size) hn).trans (k.block g hg)⟩, h3.imp id (fun q g e => Nat.le_trans k.size (q g e))⟩
set_option maxRecDepth 100000 in
set_option maxHeartbeats 4000000 in
theorem release_any {w : World} {p : Nat} {v : Value} {B : Int} {st : La} (h : Ld w p v B st) (hB : B < 4611686018427387904) (nr : Int) (st' : La) (E : Int) (hr : st.rel nr = (st', E)) : Calls Try.prog 28 #[.pointer (some ⟨p, 0, none⟩), .int .i64 nr] w fun e w' => e = .returned (.int .i64 E) ∧ Tn w w' p v B st' := by
  have HLD : Hid (Ld w p v B st) := h
  unfold La.rel at hr
  cases hf : fiN st.pend nr with
  | none =>
    rw [hf] at hr
    obtain ⟨rfl, rfl⟩ := Prod.mk.inj hr
    have HPL : Hid (Calls Try.prog 71 #[.pointer (some ⟨p, 0, none⟩), .int .i64 nr] w fun e w' => e = .returned (.tuple #[.int .i64 0, .int .i64 164]) ∧ Below w.heap.size w w') := place_none h nr hf
    clear hr hf h
    go_enter Try.func28, Try.ntmps28
    go_wp2_with (first
      | (go_at_call 71; refine Calls.mono HPL.out ?_; rintro e X2 ⟨rfl, q⟩; have B2 : Hid (Below w.heap.size w X2) := q; clear q))
    go_ret
    exact ⟨rfl, Tn.same HLD.out B2.out⟩
  | some i =>
    obtain ⟨hil, x, hx, _⟩ := fiN_lt hf
    obtain ⟨n, hn⟩ : ∃ n, n = st.pend.length := ⟨_, rfl⟩
    have HJ : Hid (i < n) := by show _ < _; omega
    have HPL : Hid (Calls Try.prog 71 #[.pointer (some ⟨p, 0, none⟩), .int .i64 nr] w fun e w' => e = .returned (.tuple #[.int .i64 (i : Int), .int .i64 0]) ∧ Below w.heap.size w w') := place_some h nr i hf
    have HX : Hid (st.pend[i]? = some x) := hx
    have HNN : Hid (n = st.pend.length) := hn
    have hd := h.ok.pd x (List.mem_of_getElem? hx)
    rw [hf] at hr
    simp only [hx] at hr
    by_cases h0 : x.du = 0
    · rw [if_pos h0] at hr
      obtain ⟨rfl, rfl⟩ := Prod.mk.inj hr
      clear hr hf h hx hn hil hd
      go_enter Try.func28, Try.ntmps28
      go_wp2_with (first
        | (go_at_call 71; refine Calls.mono HPL.out ?_; rintro e X2 ⟨rfl, q⟩; have B2 : Hid (Below w.heap.size w X2) := q; obtain ⟨g, o, cap, cs, hv, q1, q2, q3, q4, q5, q6⟩ := (HLD.out.be q).openAt HX.out; rw [← HNN.out] at hv; have c69 : X2.cell? ⟨p, 69, none⟩ = some (.slice (some ⟨g, o, none⟩) n cap) := by { rw [← hv]; exact (HLD.out.be q).c69 }; have R2 : Hid (Row X2 g cs tP) := q1; have HL2 : Hid (o + i * 90 + 89 < cs.length) := q3; have HTN : Hid (∀ (C : Int) (d : Int) (X : World), B ≤ C → 0 ≤ d → d ≤ C → Row X g (cs.set (o + i * 90 + 89) (.int .i64 d)) tP → Gro (· = g) X2 X → Tn X2 X p v C (st.setDu i x d)) := q6; clear q q1 q2 q3 q6 hv)
        | (refine wpList_ixL tPs tP (.tmp 21) (.tmp 22) rfl g o n cap i 90 rfl rfl HJ.out Try.underlying42 info_P rfl ?_; simp only [Act.put, List.setIfInBounds_toArray, List.set_cons_zero, List.set_cons_succ]))
      go_ret
      exact ⟨rfl, Tn.same HLD.out B2.out⟩
    · rw [if_neg h0] at hr
      obtain ⟨rfl, rfl⟩ := Prod.mk.inj hr
      have hs : IntKind.i64.wrap (x.du - 1) = x.du - 1 := by rw [IntKind.wrap_i64]; omega
      have HBC : Hid (B ≤ B) := Int.le_refl B
      have HD0 : Hid (0 ≤ x.du - 1) := by show _ ≤ _; omega
      have HD1 : Hid (x.du - 1 ≤ B) := by show _ ≤ _; omega
      clear hr hf h hx hn hil hd hB
      go_enter Try.func28, Try.ntmps28
      go_wp2_with (first
        | (go_at_call 71; refine Calls.mono HPL.out ?_; rintro e X2 ⟨rfl, q⟩; have B2 : Hid (Below w.heap.size w X2) := q; obtain ⟨g, o, cap, cs, hv, q1, q2, q3, q4, q5, q6⟩ := (HLD.out.be q).openAt HX.out; rw [← HNN.out] at hv; have c69 : X2.cell? ⟨p, 69, none⟩ = some (.slice (some ⟨g, o, none⟩) n cap) := by { rw [← hv]; exact (HLD.out.be q).c69 }; have R2 : Hid (Row X2 g cs tP) := q1; have HL2 : Hid (o + i * 90 + 89 < cs.length) := q3; have HTN : Hid (∀ (C : Int) (d : Int) (X : World), B ≤ C → 0 ≤ d → d ≤ C → Row X g (cs.set (o + i * 90 + 89) (.int .i64 d)) tP → Gro (· = g) X2 X → Tn X2 X p v C (st.setDu i x d)) := q6; clear q q1 q2 q3 q6 hv)
        | (refine wpList_ixL tPs tP (.tmp 21) (.tmp 22) rfl g o n cap i 90 rfl rfl HJ.out Try.underlying42 info_P rfl ?_; simp only [Act.put, List.setIfInBounds_toArray, List.set_cons_zero, List.set_cons_succ])
        | (refine wpList_ixL tPs tP (.tmp 30) (.tmp 31) rfl g o n cap i 90 rfl rfl HJ.out Try.underlying42 info_P rfl ?_; simp only [Act.put, List.setIfInBounds_toArray, List.set_cons_zero, List.set_cons_succ])
        | (refine wpList_st1 rfl 3 (.tmp 37) (.tmp 35) rfl g (o + i * 90 + 89) (.int .i64 (x.du - 1)) cs tP rfl rfl rfl R2.out HL2.out info_int rfl ?_; intro X3 q1 q2; have T3 : Hid (Tn X2 X3 p v B (st.setDu i x (x.du - 1))) := HTN.out B (x.du - 1) X3 HBC.out HD0.out HD1.out q1 q2; clear q1 q2))
      go_ret
      exact ⟨rfl, T3.out.after B2.out⟩
set_option maxRecDepth 100000 in
set_option maxHeartbeats 4000000 in
theorem hold_any {w : World} {p : Nat} {v : Value} {B : Int} {st : La} (h : Ld w p v B st) (hB : B < 4611686018427387904) (nr now : Int) (st' : La) (E : Int) (hr : st.hold nr now = (st', E)) : Calls Try.prog 27 #[.pointer (some ⟨p, 0, none⟩), .int .i64 nr, .int .i64 now] w fun e w' => e = .returned (.int .i64 E) ∧ Tn w w' p v (B + 1) st' := by
  have HLD : Hid (Ld w p v B st) := h
  have HB1 : Hid (B ≤ B + 1) := by show _ ≤ _; omega
  obtain ⟨T, hT⟩ : ∃ T, T = tmB now := ⟨_, rfl⟩
  have HTI : Hid (∀ w, Calls Try.prog 72 #[.int .i64 now] w fun e w' => e = .returned (.bool T) ∧ w' = w) := fun w => by rw [hT]; exact isTime_any now w
  unfold La.hold at hr
  rw [← hT] at hr
  clear hT
  cases T with
  | false =>
    rw [if_pos rfl] at hr
    obtain ⟨rfl, rfl⟩ := Prod.mk.inj hr
    clear hr h
    go_enter Try.func27, Try.ntmps27
    go_wp2_with (first
      | (go_at_call 72; refine Calls.mono (HTI.out _) ?_; rintro e X ⟨rfl, hq⟩; obtain rfl := hq.symm; clear hq))
    go_ret
    exact ⟨rfl, (Tn.same HLD.out (Below.refl _ _)).mono HB1.out⟩
  | true =>
  rw [if_neg (by decide)] at hr
  cases hf : fiN st.pend nr with
  | none =>
    rw [hf] at hr
    obtain ⟨rfl, rfl⟩ := Prod.mk.inj hr
    have HPL : Hid (Calls Try.prog 71 #[.pointer (some ⟨p, 0, none⟩), .int .i64 nr] w fun e w' => e = .returned (.tuple #[.int .i64 0, .int .i64 164]) ∧ Below w.heap.size w w') := place_none h nr hf
    clear hr hf h
    go_enter Try.func27, Try.ntmps27
    go_wp2_with (first
      | (go_at_call 72; refine Calls.mono (HTI.out _) ?_; rintro e X ⟨rfl, hq⟩; obtain rfl := hq.symm; clear hq)
      | (go_at_call 71; refine Calls.mono HPL.out ?_; rintro e X2 ⟨rfl, q⟩; have B2 : Hid (Below w.heap.size w X2) := q; clear q))
    go_ret
    exact ⟨rfl, (Tn.same HLD.out B2.out).mono HB1.out⟩
  | some i =>
    obtain ⟨hil, x, hx, _⟩ := fiN_lt hf
    obtain ⟨n, hn⟩ : ∃ n, n = st.pend.length := ⟨_, rfl⟩
    have HJ : Hid (i < n) := by show _ < _; omega
    have HPL : Hid (Calls Try.prog 71 #[.pointer (some ⟨p, 0, none⟩), .int .i64 nr] w fun e w' => e = .returned (.tuple #[.int .i64 (i : Int), .int .i64 0]) ∧ Below w.heap.size w w') := place_some h nr i hf
    have HX : Hid (st.pend[i]? = some x) := hx
    have HNN : Hid (n = st.pend.length) := hn
    have hd := h.ok.pd x (List.mem_of_getElem? hx)
    rw [hf] at hr
    simp only [hx] at hr
    by_cases h0 : x.dl ≤ now
    · rw [if_pos h0] at hr
      obtain ⟨rfl, rfl⟩ := Prod.mk.inj hr
      clear hr hf h hx hn hil hd
      go_enter Try.func27, Try.ntmps27
      go_wp2_with (first
        | (go_at_call 72; refine Calls.mono (HTI.out _) ?_; rintro e X ⟨rfl, hq⟩; obtain rfl := hq.symm; clear hq)
        | (go_at_call 71; refine Calls.mono HPL.out ?_; rintro e X2 ⟨rfl, q⟩; have B2 : Hid (Below w.heap.size w X2) := q; obtain ⟨g, o, cap, cs, hv, q1, q2, q3, q4, q5, q6⟩ := (HLD.out.be q).openAt HX.out; rw [← HNN.out] at hv; have c69 : X2.cell? ⟨p, 69, none⟩ = some (.slice (some ⟨g, o, none⟩) n cap) := by { rw [← hv]; exact (HLD.out.be q).c69 }; have R2 : Hid (Row X2 g cs tP) := q1; have HL2 : Hid (o + i * 90 + 89 < cs.length) := q3; have HTN : Hid (∀ (C : Int) (d : Int) (X : World), B ≤ C → 0 ≤ d → d ≤ C → Row X g (cs.set (o + i * 90 + 89) (.int .i64 d)) tP → Gro (· = g) X2 X → Tn X2 X p v C (st.setDu i x d)) := q6; clear q q1 q2 q3 q6 hv)
        | (refine wpList_ixL tPs tP (.tmp 31) (.tmp 32) rfl g o n cap i 90 rfl rfl HJ.out Try.underlying42 info_P rfl ?_; simp only [Act.put, List.setIfInBounds_toArray, List.set_cons_zero, List.set_cons_succ]))
      go_ret
      exact ⟨rfl, (Tn.same HLD.out B2.out).mono HB1.out⟩
    · rw [if_neg h0] at hr
      obtain ⟨rfl, rfl⟩ := Prod.mk.inj hr
      have hs : IntKind.i64.wrap (x.du + 1) = x.du + 1 := by rw [IntKind.wrap_i64]; omega
      have HBC : Hid (B ≤ B + 1) := HB1.out
      have HD0 : Hid (0 ≤ x.du + 1) := by show _ ≤ _; omega
      have HD1 : Hid (x.du + 1 ≤ B + 1) := by show _ ≤ _; omega
      clear hr hf h hx hn hil hd hB
      go_enter Try.func27, Try.ntmps27
      go_wp2_with (first
        | (go_at_call 72; refine Calls.mono (HTI.out _) ?_; rintro e X ⟨rfl, hq⟩; obtain rfl := hq.symm; clear hq)
        | (go_at_call 71; refine Calls.mono HPL.out ?_; rintro e X2 ⟨rfl, q⟩; have B2 : Hid (Below w.heap.size w X2) := q; obtain ⟨g, o, cap, cs, hv, q1, q2, q3, q4, q5, q6⟩ := (HLD.out.be q).openAt HX.out; rw [← HNN.out] at hv; have c69 : X2.cell? ⟨p, 69, none⟩ = some (.slice (some ⟨g, o, none⟩) n cap) := by { rw [← hv]; exact (HLD.out.be q).c69 }; have R2 : Hid (Row X2 g cs tP) := q1; have HL2 : Hid (o + i * 90 + 89 < cs.length) := q3; have HTN : Hid (∀ (C : Int) (d : Int) (X : World), B ≤ C → 0 ≤ d → d ≤ C → Row X g (cs.set (o + i * 90 + 89) (.int .i64 d)) tP → Gro (· = g) X2 X → Tn X2 X p v C (st.setDu i x d)) := q6; clear q q1 q2 q3 q6 hv)
        | (refine wpList_ixL tPs tP (.tmp 31) (.tmp 32) rfl g o n cap i 90 rfl rfl HJ.out Try.underlying42 info_P rfl ?_; simp only [Act.put, List.setIfInBounds_toArray, List.set_cons_zero, List.set_cons_succ])
        | (refine wpList_ixL tPs tP (.tmp 40) (.tmp 41) rfl g o n cap i 90 rfl rfl HJ.out Try.underlying42 info_P rfl ?_; simp only [Act.put, List.setIfInBounds_toArray, List.set_cons_zero, List.set_cons_succ])
        | (refine wpList_st1 rfl 3 (.tmp 47) (.tmp 45) rfl g (o + i * 90 + 89) (.int .i64 (x.du + 1)) cs tP rfl rfl rfl R2.out HL2.out info_int rfl ?_; intro X3 q1 q2; have T3 : Hid (Tn X2 X3 p v (B + 1) (st.setDu i x (x.du + 1))) := HTN.out (B + 1) (x.du + 1) X3 HBC.out HD0.out HD1.out q1 q2; clear q1 q2))
      go_ret
      exact ⟨rfl, T3.out.after B2.out⟩

end Go.Proofs.Ytfdbjcdcfmnicaa
