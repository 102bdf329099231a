/-
  the law's row: entries that may be, out of what came in.
-/
import Derived.Test.YtfjhecmnbodkfaaGreatDoorIbI

namespace Go.Proofs.YtfjhecmnbodkfaaGreatDoor
open Go Go.RowKit
open Sha

set_option maxRecDepth 100000 in
theorem ipick_any (c n : Int) (hn : 0 < n) (h1 : -9223372036854775808 ≤ c) (h2 : c ≤ 9223372036854775807) (hn2 : n ≤ 9223372036854775807) (w : World) :
    Calls Tryz.prog 29 #[.int .i64 c, .int .i64 n] w fun e w' => e = .returned (.int .i64 (pk c n)) ∧ w' = w := by
  have hn0 : ¬ n = 0 := by omega
  have hn1 : ¬ n = -1 := by omega
  have hr := pk_range c n hn
  by_cases hc : c < 0
  · have e1 : Hid (pk c n = (-(c + 1)) % n) := by show _ = _; unfold pk; rw [if_pos hc]
    have e3 : (-(c + 1)).tmod n = pk c n := by rw [e1.out]; exact Int.tmod_eq_emod_of_nonneg (by omega)
    have e4 : (-1 + -c).tmod n = pk c n := by rw [show -1 + -c = -(c + 1) by omega]; exact e3
    have e5 : (-c + -1).tmod n = pk c n := by rw [show -c + -1 = -(c + 1) by omega]; exact e3
    generalize pk c n = r at *
    go_enter Tryz.func29, Tryz.ntmps29
    go_wp2
    go_ret
    exact ⟨by first | rfl | (simp; omega), rfl⟩
  · have e1 : Hid (pk c n = c % n) := by show _ = _; unfold pk; rw [if_neg hc]
    have e3 : c.tmod n = pk c n := by rw [e1.out]; exact Int.tmod_eq_emod_of_nonneg (by omega)
    generalize pk c n = r at *
    go_enter Tryz.func29, Tryz.ntmps29
    go_wp2
    go_ret
    exact ⟨by first | rfl | (simp; omega), rfl⟩
/-! ### an entry's cells, one of them put -/
section
variable {k tm tk gs : Int} {sd rc : List (BitVec 8)} {am : List Nat} {v : Value}
theorem ent_set_tk (h1 : sd.length = 20) (x : Int) : (ent k sd tm tk rc am gs v).set 22 (.int .i64 x) = ent k sd tm x rc am gs v := by
  have e1 : (vB sd).length = 20 := by rw [vB_length, h1]
  unfold ent
  rw [List.set_cons_succ, List.set_append_right _ _ (by rw [e1]; decide), e1]
  rfl
theorem ent_set_gs (h1 : sd.length = 20) (h2 : rc.length = 20) (h3 : am.length = 4) (x : Int) : (ent k sd tm tk rc am gs v).set 47 (.int .i64 x) = ent k sd tm tk rc am x v := by
  have e1 : (vB sd).length = 20 := by rw [vB_length, h1]
  have e2 : (vB rc).length = 20 := by rw [vB_length, h2]
  have e3 : (vQ am).length = 4 := by rw [vQ_len, h3]
  unfold ent
  rw [List.set_cons_succ, List.set_append_right _ _ (by rw [e1]; decide), e1]
  show _ :: (_ ++ (_ :: _ :: ((vB rc ++ (vQ am ++ [.int .i64 gs, v])).set 24 (.int .i64 x)))) = _
  rw [List.set_append_right _ _ (by rw [e2]; decide), e2, List.set_append_right _ _ (by rw [e3]; decide), e3]
  rfl
theorem ent_set_am (h1 : sd.length = 20) (h2 : rc.length = 20) (h3 : am.length = 4) (i x : Nat) (hi : i < 4) : (ent k sd tm tk rc am gs v).set (43 + i) (.int .u64 (x : Int)) = ent k sd tm tk rc (am.set i x) gs v := by
  have e1 : (vB sd).length = 20 := by rw [vB_length, h1]
  have e2 : (vB rc).length = 20 := by rw [vB_length, h2]
  have e3 : (vQ am).length = 4 := by rw [vQ_len, h3]
  unfold ent
  rw [show 43 + i = (42 + i) + 1 by omega, List.set_cons_succ, List.set_append_right _ _ (by rw [e1]; omega), e1, show 42 + i - 20 = ((20 + i) + 1) + 1 by omega, List.set_cons_succ, List.set_cons_succ, List.set_append_right _ _ (by rw [e2]; omega), e2, show 20 + i - 20 = i by omega, List.set_append_left _ _ (by rw [e3]; exact hi)]
  have e : (vQ am).set i (.int .u64 (x : Int)) = vQ (am.set i x) := by unfold vQ; rw [List.map_set]
  rw [e]
theorem cut_mid (x y z u : List Value) (h : u.length = y.length) : (x ++ (y ++ z)).take x.length ++ u ++ (x ++ (y ++ z)).drop (x.length + u.length) = x ++ (u ++ z) := by
  rw [List.take_left, h, ← List.append_assoc x y z, ← List.length_append, List.drop_left, List.append_assoc]
theorem ent_put_rc (h1 : sd.length = 20) (h2 : rc.length = 20) (r2 : List (BitVec 8)) (hr : r2.length = 20) : (ent k sd tm tk rc am gs v).take 23 ++ vB r2 ++ (ent k sd tm tk rc am gs v).drop (23 + (vB r2).length) = ent k sd tm tk r2 am gs v := by
  have e : ∀ r, ent k sd tm tk r am gs v = (.int .i64 k :: (vB sd ++ [.int .i64 tm, .int .i64 tk])) ++ (vB r ++ (vQ am ++ [.int .i64 gs, v])) := fun r => by unfold ent; simp
  have l : (Value.int .i64 k :: (vB sd ++ [.int .i64 tm, .int .i64 tk])).length = 23 := by simp [vB_length, h1]
  rw [e rc, e r2, ← l]
  exact cut_mid _ _ _ _ (by rw [vB_length, vB_length, hr, h2])
theorem ent_put_am (h1 : sd.length = 20) (h2 : rc.length = 20) (h3 : am.length = 4) (a2 : List Nat) (hr : a2.length = 4) : (ent k sd tm tk rc am gs v).take 43 ++ vQ a2 ++ (ent k sd tm tk rc am gs v).drop (43 + (vQ a2).length) = ent k sd tm tk rc a2 gs v := by
  have e : ∀ a, ent k sd tm tk rc a gs v = (.int .i64 k :: (vB sd ++ (.int .i64 tm :: .int .i64 tk :: vB rc))) ++ (vQ a ++ [.int .i64 gs, v]) := fun r => by unfold ent; simp
  have l : (Value.int .i64 k :: (vB sd ++ (.int .i64 tm :: .int .i64 tk :: vB rc))).length = 43 := by simp [vB_length, h1, h2]
  rw [e am, e a2, ← l]
  exact cut_mid _ _ _ _ (by rw [vQ_len, vQ_len, hr, h3])
end
/-- What an entry that may be is made of. -/
structure Rwi where
  dp : Bool
  sd : List (BitVec 8)
  la : Int
  tk : Int
  rc : List (BitVec 8)
  am : List Nat
  gs : Int
  d : List (BitVec 8)
def Rwi.cells (r : Rwi) (v : Value) : List Value := .bool r.dp :: (vB r.sd ++ (.int .i64 r.la :: .int .i64 r.tk :: (vB r.rc ++ (vQ r.am ++ [.int .i64 r.gs, v]))))
structure Rwi.Ok (r : Rwi) : Prop where
  ls : r.sd.length = 20
  lt : r.rc.length = 20
  la : r.am.length = 4
  q : ∀ x ∈ r.am, x < 18446744073709551616
  l0 : -9223372036854775808 ≤ r.la ∧ r.la ≤ 9223372036854775807
  t0 : -9223372036854775808 ≤ r.tk ∧ r.tk ≤ 9223372036854775807
  g0 : -9223372036854775808 ≤ r.gs ∧ r.gs ≤ 9223372036854775807
theorem Rwi.tail (r : Rwi) (v : Value) (i : Nat) : (r.cells v)[i + 1]? = (ent 0 r.sd r.la r.tk r.rc r.am r.gs v)[i + 1]? := rfl
/-- Its amount: not nought. -/
def am7 (am : List Nat) : List Nat := if am = List.replicate 4 0 then am.set 1 7 else am
/-- The entry at a time. -/
def Rwi.ev (r : Rwi) (t : Int) : Ev := if r.dp then ⟨1, r.sd, t, pk r.tk 64, r.rc, am7 r.am, pk r.gs 1099511627777, []⟩ else ⟨2, r.sd, t, 0, List.replicate 20 0#8, List.replicate 4 0, 0, r.d.take 4096⟩
def tmf (rs : List Rwi) : Int := rs.foldl (fun t r => t + pk r.la 1000000) 0
/-- The row of entries. -/
def rowv (rs : List Rwi) : Nat → List Ev
  | 0 => []
  | i + 1 => rowv rs i ++ (match rs[i]? with | none => [] | some r => [r.ev (tmf (rs.take (i + 1)))])
theorem tmf_succ (rs : List Rwi) (i : Nat) (r : Rwi) (h : rs[i]? = some r) : tmf (rs.take (i + 1)) = tmf (rs.take i) + pk r.la 1000000 := by
  unfold tmf
  rw [List.take_add_one, h]
  simp
theorem tmf_bound (rs : List Rwi) : ∀ i, 0 ≤ tmf (rs.take i) ∧ tmf (rs.take i) ≤ 1000000 * i
  | 0 => ⟨Int.le_refl _, Int.le_refl _⟩
  | i + 1 => by
    have ih := tmf_bound rs i
    cases h : rs[i]? with
    | none =>
      rw [List.take_add_one, h]
      simp only [Option.toList_none, List.append_nil]
      omega
    | some r =>
      rw [tmf_succ rs i r h]
      have := pk_range r.la 1000000 (by decide)
      omega
theorem rowv_len (rs : List Rwi) : ∀ i, i ≤ rs.length → (rowv rs i).length = i
  | 0, _ => rfl
  | i + 1, h => by
    unfold rowv
    rw [List.getElem?_eq_getElem (by omega), List.length_append, rowv_len rs i (by omega)]
    rfl
theorem rowv_succ (rs : List Rwi) (i : Nat) (r : Rwi) (h : rs[i]? = some r) : rowv rs (i + 1) = rowv rs i ++ [r.ev (tmf (rs.take (i + 1)))] := by
  conv => lhs; unfold rowv
  rw [h]
theorem am7_len {am : List Nat} (h : am.length = 4) : (am7 am).length = 4 := by unfold am7; split <;> simp [h]
theorem Rwi.wf {r : Rwi} (h : r.Ok) (t : Int) : (r.ev t).Wf := by
  unfold Rwi.ev
  split
  · refine ⟨h.ls, h.lt, am7_len h.la, fun x hx => ?_⟩
    unfold am7 at hx
    split at hx
    · rename_i e
      rw [e] at hx
      have hx2 : x ∈ [0, 7, 0, 0] := hx
      simp at hx2
      omega
    · exact h.q x hx
  · exact ⟨h.ls, rfl, rfl, fun x hx => by have hx2 : x ∈ [0, 0, 0, 0] := hx; simp at hx2; omega⟩
theorem Rwi.may (r : Rwi) (t : Int) (h0 : 0 ≤ t) (h1 : t ≤ 4611686018427387904) : (r.ev t).May := by
  unfold Rwi.ev
  split
  · have a := pk_range r.tk 64 (by decide)
    have b := pk_range r.gs 1099511627777 (by decide)
    refine ⟨h0, h1, .inl ⟨rfl, a.1, by show pk r.tk 64 ≤ 63; omega, ?_, b.1, by show pk r.gs 1099511627777 ≤ _; omega, rfl⟩⟩
    show am7 r.am ≠ _
    unfold am7
    split
    · rename_i e
      rw [e]
      decide
    · assumption
  · refine ⟨h0, h1, .inr ⟨rfl, rfl, rfl, rfl, rfl, ?_⟩⟩
    show (r.d.take 4096).length ≤ 4096
    rw [List.length_take]
    omega
theorem Rwi.tm (r : Rwi) (t : Int) : (r.ev t).tm = t := by unfold Rwi.ev; split <;> rfl
/-! ### lists of entries -/
/-- Entries that lie one behind the other. -/
def EsAt (w : World) (A : Option Addr) (es : List Ev) : Prop := ∀ (i : Nat) (e : Ev), es[i]? = some e → ∃ b o A' c', A = some ⟨b, o, none⟩ ∧ w.rangeAt b (o + i * 49) (e.cells (.slice A' e.d.length c')) ∧ SlAt w (.slice A' e.d.length c') e.d ∧ (A' = none → c' = 0)
theorem EsAt.be {w w' : World} {A : Option Addr} {es : List Ev} (h : EsAt w A es) (k : Below w.heap.size w w') : EsAt w' A es := fun i e he => by
  obtain ⟨b, o, A', c', q1, q2, q3, q4⟩ := h i e he
  exact ⟨b, o, A', c', q1, range_be q2 k, q3.be k, q4⟩
/-- A list of entries that grows. -/
structure Eo (w0 w : World) (v : Value) (es : List Ev) : Prop where
  own : ∃ cs, Lw w 46 49 v es.length cs ∧ ∀ (i : Nat) (e : Ev), es[i]? = some e → ∃ A c, (∀ j u, (e.cells (.slice A e.d.length c))[j]? = some u → cs[i * 49 + j]? = some u) ∧ Bw w (.slice A e.d.length c) e.d ∧ (A = none → c = 0)
  v0 : ∀ g, v.ownBlock = some g → w0.heap.size ≤ g
  be : Below w0.heap.size w0 w
theorem Eo.keep {w0 w w' : World} {v : Value} {es : List Ev} (h : Eo w0 w v es) (k : Below w.heap.size w w') : Eo w0 w' v es := by
  obtain ⟨cs, h1, h2⟩ := h.own
  exact ⟨⟨cs, Lw.be h1 k, fun i e he => by obtain ⟨A, c, q1, q2, q3⟩ := h2 i e he; exact ⟨A, c, q1, Bw.be q2 k, q3⟩⟩, h.v0, h.be.trans (k.mono h.be.size)⟩
theorem Eo.nil {w0 w : World} (h : Below w0.heap.size w0 w) : Eo w0 w (.slice none 0 0) [] := ⟨⟨[], Lw.nil _ _ _, fun i e h => by simp at h⟩, (fun g e => by cases e), h⟩
theorem Eo.at {w0 w : World} {A : Option Addr} {n cap : Nat} {es : List Ev} (h : Eo w0 w (.slice A n cap) es) : EsAt w A es := fun i e he => by
  obtain ⟨cs, h1, h2⟩ := h.own
  obtain ⟨A', c, q1, q2, q3⟩ := h2 i e he
  obtain ⟨g, cap', hv, _⟩ := Lw.open h1 (by have := (List.getElem?_eq_some_iff.1 he).1; omega)
  simp only [Value.slice.injEq] at hv
  obtain ⟨rfl, rfl, rfl⟩ := hv
  exact ⟨g, 0, A', c, rfl, fun j u hj => by have := Lw.range h1 (i * 49 + j) u (q1 j u hj); rw [Nat.zero_add] at this ⊢; exact this, Bw.sl q2, q3⟩
theorem info_entAll : (Tryz.prog.info? 46).map (fun i => (i.size, i.bytes)) = some (49, 136) := by kernel_rfl
theorem info_entZ : ((Tryz.prog.info? 46).bind (·.zero)).map (·.cells.size) = some 49 := by kernel_rfl
theorem info_entO : ∃ ie z, Tryz.prog.info? 46 = some ie ∧ ie.zero = some z ∧ ie.size = 49 ∧ ie.bytes = 136 ∧ z.cells.size = 49 := by
  have i1 := info_entAll
  have i2 := info_entZ
  cases hi : Tryz.prog.info? 46 with
  | none => rw [hi] at i1; cases i1
  | some ie =>
    rw [hi] at i1 i2
    simp only [Option.map_some, Option.some.injEq, Prod.mk.injEq, Option.bind_some] at i1 i2
    cases hz : ie.zero with
    | none => rw [hz] at i2; cases i2
    | some z => rw [hz] at i2; exact ⟨ie, z, rfl, hz, i1.1, i1.2, by simpa using i2⟩
theorem ebl_ne {w : World} {u v : Value} {d : List (BitVec 8)} {n : Nat} {xs : List Value} (h : Bw w u d) (k : Lw w 46 49 v n xs) : ∀ g, u.ownBlock = some g → some g ≠ v.ownBlock := fun g e1 e2 => by
  rcases h.2 with ⟨h1, _⟩ | ⟨g', cap, cur, hv, _, hh, _⟩
  · rw [h1] at e1; cases e1
  · rw [hv] at e1
    obtain rfl : g' = g := by simpa [Value.ownBlock] using e1
    rcases k.2 with ⟨k1, _⟩ | ⟨g2, cap2, cur2, kv, _, kh, _⟩
    · rw [k1] at e2; cases e2
    · rw [kv] at e2
      obtain rfl : g' = g2 := by simpa [Value.ownBlock] using e2
      have := hh.symm.trans kh
      simp only [Option.some.injEq, Obj.cells.injEq] at this
      exact absurd this.2.1 (by decide)
/-- One more entry. -/
theorem Eo.grow {w0 w w' : World} {N c : Nat} {v v' : Value} {es : List Ev} {e : Ev} {A : Option Addr} {cs L : List Value} (h : Eo w0 w v es) (hl : Lw w 46 49 v es.length cs)
    (hc : ∀ (i : Nat) (e : Ev), es[i]? = some e → ∃ A c, (∀ j u, (e.cells (.slice A e.d.length c))[j]? = some u → cs[i * 49 + j]? = some u) ∧ Bw w (.slice A e.d.length c) e.d ∧ (A = none → c = 0)) (hN : N = es.length)
    (hb : Bw w (.slice A e.d.length c) e.d) (hnil : A = none → c = 0) (hL : L = e.cells (.slice A e.d.length c)) (p1 : Lw w' 46 49 v' (N + 1) (cs ++ L)) (p2 : w.grownBy w' v.ownBlock) (p3 : v'.ownBlock = v.ownBlock ∨ v'.ownBlock = some w.heap.size) : Eo w0 w' v' (es ++ [e]) := by
  subst hN hL
  have hcl : cs.length = es.length * 49 := Lw.len hl
  have put : ∀ u d, Bw w u d → Bw w' u d := fun u d hu => Bw.block hu (fun g eg => p2.block g (Bw.lt hu g eg) (ebl_ne hu hl g eg))
  refine ⟨⟨_, by rw [List.length_append, List.length_singleton]; exact p1, fun i e' he => ?_⟩, fun g eg => ?_, below_gb h.be p2 h.v0⟩
  · by_cases hi : i < es.length
    · rw [List.getElem?_append_left hi] at he
      obtain ⟨A1, c1, q1, q2, q3⟩ := hc i e' he
      refine ⟨A1, c1, fun j u hj => ?_, put _ _ q2, q3⟩
      have := q1 j u hj
      rw [List.getElem?_append_left ((List.getElem?_eq_some_iff.1 this).1)]
      exact this
    · have hi2 : i = es.length := by
        have := (List.getElem?_eq_some_iff.1 he).1
        rw [List.length_append, List.length_singleton] at this
        omega
      subst hi2
      rw [List.getElem?_append_right (Nat.le_refl _), Nat.sub_self] at he
      obtain rfl : e = e' := by simpa using he
      refine ⟨A, c, fun j u hj => ?_, put _ _ hb, hnil⟩
      rw [List.getElem?_append_right (by omega), hcl, Nat.add_sub_cancel_left]
      exact hj
  · rcases p3 with q | q
    · exact h.v0 g (by rw [← q]; exact eg)
    · rw [q] at eg; cases eg; exact h.be.size
section
variable {ops : Array Oper} {rest : List Oper} {op : Oper} {a : Act} {w : World} {Q : Exit → Act → World → Prop}
theorem wpList_bEnt (hgd : op.guard = none) (x : Operand) (ho : op.op = .buildSlice 52 1 #[(0, x)]) (L : List Value) (hL : L.length = 49) (hx : a.eval x = .agg L.toArray)
    (h : ∀ X, Row X w.heap.size L 46 → Below w.heap.size w X → wpList Tryz.prog ops Q rest (a.put op.dst (.slice (some ⟨w.heap.size, 0, none⟩) 1 1)) X) : wpList Tryz.prog ops Q (op :: rest) a w := by
  obtain ⟨ie, z, h1, h2, h3, _, h4⟩ := info_entO
  refine wpList_buildSlice hgd 52 46 1 _ ho L.toArray ie z Tryz.underlying52 h1 h2 (by rw [h3]; omega) (by rw [h3]; omega) ?_ (h _ (Row.new' rfl rfl) ((Below.refl _ _).alloc (Nat.le_refl _) _))
  rw [show (Array.map (fun (p : Nat × Operand) => match p with | (i, x) => (i, a.eval x)) #[(0, x)]).toList = [(0, a.eval x)] by simp, hx, h3]
  exact fill_oneI 49 (by decide) _ _ (by simp [hL]) (by simp)
end

end Go.Proofs.YtfjhecmnbodkfaaGreatDoor

namespace Go.Proofs.YtfjhecmnbodkfaaGreatDoor
open Go Go.RowKit
open Sha

theorem info_raw : (Tryz.prog.info? 100).map (·.size) = some 49 := by kernel_rfl
/-- What came in. -/
def RsAt (w : World) (A : Option Addr) (rs : List Rwi) : Prop := ∀ (i : Nat) (r : Rwi), rs[i]? = some r → r.Ok ∧ r.d.length ≤ 140737488355328 ∧ ∃ b o A' c', A = some ⟨b, o, none⟩ ∧ w.rangeAt b (o + i * 49) (r.cells (.slice A' r.d.length c')) ∧ SlAt w (.slice A' r.d.length c') r.d
theorem wpList_ixO {P : Program} {ops : Array Oper} {rest : List Oper} {op : Oper} {a : Act} {w : World} {Q : Exit → Act → World → Prop} (T e : TypeId) (x y : Operand) (ho : op.op = .indexAddr T x y) (b f n c t s q : Nat) (hq : f + t * s = q) (hx : a.eval x = .slice (some ⟨b, f, none⟩) n c) (hy : a.eval y = .int .i64 (t : Int)) (ht : t < n)
    (hu : P.underlying T = some (.slice e)) (hs : (P.info? e).map (·.size) = some s) (hw : Region.wanted op (yielded ops a.tmps) = true) (h : wpList P ops Q rest (a.put op.dst (.pointer (some ⟨b, q, none⟩))) w) : wpList P ops Q (op :: rest) a w := by
  subst hq
  exact wpList_ixI T e x y ho b f n c t s hx hy ht hu hs hw h
theorem wp_ixO {P : Program} {Q : Exit → Act → World → Prop} {op : Oper} {a : Act} {w : World} {K : Act → World → Prop} (T e : TypeId) {x y : Operand} (ho : op.op = .indexAddr T x y) (b f n c t s q : Nat) (hq : f + t * s = q) (hx : a.eval x = .slice (some ⟨b, f, none⟩) n c) (hy : a.eval y = .int .i64 (t : Int)) (ht : t < n)
    (hu : P.underlying T = some (.slice e)) (hs : (P.info? e).map (·.size) = some s) (h : K (a.put op.dst (.pointer (some ⟨b, q, none⟩))) w) : Oper.wp P op a w K Q := by
  subst hq
  exact wp_ixI T e ho b f n c t s hx hy ht hu hs h
/-- An entry that begins. -/
def L2 (sd : List (BitVec 8)) (t : Int) : List Value := ent 2 sd t 0 (List.replicate 20 0#8) (List.replicate 4 0) 0 (.slice none 0 0)
theorem fill_step (place : Nat → Option (Nat × Nat)) (i off : Nat) (v : Value) (vs z : List Value) (rest : List (Nat × Value)) (hp : place i = some (off, vs.length)) (hv : v.cells = vs.toArray) (hz : off + vs.length ≤ z.length) : Instr.fill place z.toArray ((i, v) :: rest) = Instr.fill place (z.take off ++ vs ++ z.drop (off + vs.length)).toArray rest := by
  obtain ⟨s1, g1⟩ := Great.foldl_set off vs 0 z.toArray
  have e1 : vs.toArray.zipIdx.foldl (fun (cs : Array Value) (p : Value × Nat) => match p with | (c, j) => cs.setIfInBounds (off + j) c) z.toArray = (vs.zipIdx 0).foldl (fun cs (x : Value × Nat) => cs.setIfInBounds (off + x.2) x.1) z.toArray := by
    rw [← Array.foldl_toList, Array.toList_zipIdx]
  have e2 : (vs.zipIdx 0).foldl (fun cs (x : Value × Nat) => cs.setIfInBounds (off + x.2) x.1) z.toArray = (z.take off ++ vs ++ z.drop (off + vs.length)).toArray := by
    apply Array.ext_getElem?
    intro k
    rw [g1 k]
    simp only [Nat.add_zero, List.size_toArray, List.getElem?_toArray]
    have lt : (z.take off).length = off := by rw [List.length_take]; omega
    by_cases h1 : k < off
    · rw [if_neg (by omega), List.append_assoc, List.getElem?_append_left (by omega), List.getElem?_take_of_lt h1]
    · by_cases h2 : k < off + vs.length
      · rw [if_pos (by omega), List.append_assoc, List.getElem?_append_right (by omega), lt, List.getElem?_append_left (by omega)]
      · rw [if_neg (by omega), List.append_assoc, List.getElem?_append_right (by omega), lt, List.getElem?_append_right (by omega), List.getElem?_drop]
        congr 1
        omega
  conv => lhs; unfold Instr.fill
  simp only [hp, hv, List.size_toArray]
  rw [if_neg (by simp; omega), e1, e2]
theorem built_ent : ∃ places : List (Nat × Nat), (∀ parts, Tryz.prog.built 46 parts = Instr.fill (places.toArray[·]?) zE.toArray parts) ∧ places.toArray[0]? = some (0, 1) ∧ places.toArray[1]? = some (1, 20) ∧ places.toArray[2]? = some (21, 1) :=
  ⟨[(0, 1), (1, 20), (21, 1), (22, 1), (23, 20), (43, 4), (47, 1), (48, 1)], fun _ => by kernel_rfl, rfl, rfl, rfl⟩
theorem built_e2 (sd : List (BitVec 8)) (h : sd.length = 20) (t : Int) : Tryz.prog.built 46 [(0, .int .i64 2), (1, .agg (vB sd).toArray), (2, .int .i64 t)] = some (L2 sd t).toArray := by
  obtain ⟨places, p, p0, p1, p2⟩ := built_ent
  have hl : (vB sd).length = 20 := by rw [vB_length, h]
  rw [p, fill_step _ 0 0 _ [.int .i64 2] zE _ p0 rfl (by decide)]
  have z1 : zE.take 0 ++ [Value.int .i64 2] ++ zE.drop (0 + [Value.int .i64 2].length) = [.int .i64 2] ++ (vB (List.replicate 20 0#8) ++ (.int .i64 0 :: .int .i64 0 :: (vB (List.replicate 20 0#8) ++ (vQ (List.replicate 4 0) ++ [.int .i64 0, .slice none 0 0])))) := rfl
  rw [z1, fill_step _ 1 1 _ (vB sd) _ _ (by rw [hl]; exact p1) rfl (by rw [hl]; decide)]
  have z2 := cut_mid [Value.int .i64 2] (vB (List.replicate 20 0#8)) (.int .i64 0 :: .int .i64 0 :: (vB (List.replicate 20 0#8) ++ (vQ (List.replicate 4 0) ++ [.int .i64 0, .slice none 0 0]))) (vB sd) (by rw [hl]; rfl)
  rw [show ([Value.int .i64 2] : List Value).length = 1 from rfl] at z2
  rw [z2, fill_step _ 2 21 _ [.int .i64 t] _ _ p2 rfl (by rw [List.length_append, List.length_append, hl]; show 21 + 1 ≤ 1 + (20 + 28); decide)]
  have z3 := cut_mid ([Value.int .i64 2] ++ vB sd) [.int .i64 0] (.int .i64 0 :: (vB (List.replicate 20 0#8) ++ (vQ (List.replicate 4 0) ++ [.int .i64 0, .slice none 0 0]))) [.int .i64 t] rfl
  rw [show ([Value.int .i64 2] ++ vB sd : List Value).length = 21 by rw [List.length_append, hl]; rfl] at z3
  rw [show ([Value.int .i64 2] ++ (vB sd ++ (.int .i64 0 :: .int .i64 0 :: (vB (List.replicate 20 0#8) ++ (vQ (List.replicate 4 0) ++ [.int .i64 0, .slice none 0 0]))))) = ([Value.int .i64 2] ++ vB sd) ++ ([.int .i64 0] ++ (.int .i64 0 :: (vB (List.replicate 20 0#8) ++ (vQ (List.replicate 4 0) ++ [.int .i64 0, .slice none 0 0])))) by simp]
  show some (List.toArray _) = _
  rw [z3]
  simp [L2, ent]
theorem wpList_buildE2 {ops : Array Oper} {rest : List Oper} {op : Oper} {a : Act} {w : World} {Q : Exit → Act → World → Prop} (hgd : op.guard = none) (x y : Operand) (ho : op.op = .build 46 #[(0, .const (.int .i64 2)), (1, x), (2, y)]) (sd : List (BitVec 8)) (hs : sd.length = 20) (t : Int) (hx : a.eval x = .agg (vB sd).toArray) (hy : a.eval y = .int .i64 t) (L : List Value) (hL : L = L2 sd t) (h : wpList Tryz.prog ops Q rest (a.put op.dst (.agg L.toArray)) w) : wpList Tryz.prog ops Q (op :: rest) a w :=
  wpList_plain hgd fun _ hK => by
    subst hL
    have hr := run_build (P := Tryz.prog) w 46 #[(0, .int .i64 2), (1, .agg (vB sd).toArray), (2, .int .i64 t)] _ (built_e2 sd hs t)
    have hc : a.eval (.const (.int .i64 2)) = .int .i64 2 := rfl
    unfold Oper.wp execOp
    simp only [ho, List.map_toArray, List.map_cons, List.map_nil, hx, hy, hc, Sem.run_bind, hr, Result.andThen_ok, Sem.run_pure, Oper.upon_value]
    exact hK _ _ h
theorem info_int1 : (Tryz.prog.info? 3).map (·.size) = some 1 := by kernel_rfl
theorem info_u64 : (Tryz.prog.info? 41).map (·.size) = some 1 := by kernel_rfl
section
variable {Q : Exit → Act → World → Prop} {o : Oper} {a : Act} {w : World} {K : Act → World → Prop}
theorem wp_fe7 {x : Operand} (ho : o.op = .fieldAddr 46 x 7) (B : Nat) (hx : a.eval x = .pointer (some ⟨B, 0, none⟩)) (h : K (a.put o.dst (.pointer (some ⟨B, 48, none⟩))) w) : Oper.wp Tryz.prog o a w K Q := by
  unfold Oper.wp execOp
  simp only [ho, hx]
  go_simp
  exact h
theorem wp_fr7 {x : Operand} (ho : o.op = .fieldAddr 100 x 7) (B q : Nat) (hx : a.eval x = .pointer (some ⟨B, q, none⟩)) (h : K (a.put o.dst (.pointer (some ⟨B, q + 48, none⟩))) w) : Oper.wp Tryz.prog o a w K Q := by
  unfold Oper.wp execOp
  simp only [ho, hx]
  go_simp
  exact h
theorem ld_slI (w : World) (b f : Nat) (v : Value) (h : w.cell? ⟨b, f, none⟩ = some v) : (loadVar 44 ⟨b, f, none⟩).run Tryz.prog w = .ok v w := by
  simp [loadVar, isAgg, run_underlying Tryz.underlying44, h]
theorem ld_u8I (w : World) (b f : Nat) (v : Value) (h : w.cell? ⟨b, f, none⟩ = some v) : (loadVar 5 ⟨b, f, none⟩).run Tryz.prog w = .ok v w := by
  simp [loadVar, isAgg, run_underlying Tryz.underlying5, h]
theorem wp_bByte (x : Operand) (ho : o.op = .buildSlice 44 1 #[(0, x)]) (y : BitVec 8) (hx : a.eval x = .int .u8 (c y))
    (h : ∀ X, Row X w.heap.size (vB [y]) 5 → Below w.heap.size w X → K (a.put o.dst (.slice (some ⟨w.heap.size, 0, none⟩) 1 1)) X) : Oper.wp Tryz.prog o a w K Q := by
  obtain ⟨ie, z, h1, h2, h3, _, h4⟩ := info_u8open
  refine wp_buildSlice 44 5 1 _ ho #[.int .u8 (c y)] ie z Tryz.underlying44 h1 h2 (by rw [h3]; omega) (by rw [h3]; omega) ?_ (h _ (Row.new' (cs := vB [y]) rfl rfl) ((Below.refl _ _).alloc (Nat.le_refl _) _))
  rw [show (Array.map (fun (p : Nat × Operand) => match p with | (i, x) => (i, a.eval x)) #[(0, x)]).toList = [(0, a.eval x)] by simp, hx, h3]
  exact fill_cell _ rfl _ (by simp)
end
/-- The entry under way in the inner loop: its Body so far. -/
structure Wb (w0 w : World) (be : Nat) (sd : List (BitVec 8)) (t : Int) (A : Option Addr) (k c : Nat) (d : List (BitVec 8)) : Prop where
  row : Row w be (ent 2 sd t 0 (List.replicate 20 0#8) (List.replicate 4 0) 0 (.slice A k c)) 46
  bw : Bw w (.slice A k c) d
  nil : A = none → c = 0
  fr : Fresh w0.heap.size (.slice A k c)
  b0 : w0.heap.size ≤ be
  be : Below w0.heap.size w0 w

end Go.Proofs.YtfjhecmnbodkfaaGreatDoor
