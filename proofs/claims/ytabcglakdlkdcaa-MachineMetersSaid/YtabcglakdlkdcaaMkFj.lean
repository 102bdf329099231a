/-
  questions and answers compared.
-/
import Derived.Test.YtabcglakdlkdcaaMkFi
namespace Go.Proofs.Ytabcglakdlkdcaa
open Go Go.RowKit
open Sha
open Wd

theorem szU8J (w : World) : (sizeOf 5).run Try.prog w = .ok 1 w := by
  cases hi : Try.prog.info? 5 with
  | none => have := info_u8; rw [hi] at this; cases this
  | some i => have := info_u8; rw [hi] at this; simp at this; simp [sizeOf, typeInfo, hi, this]
theorem toU_lenJ (l : List (BitVec 8)) : (l.map fun b => UInt8.ofBitVec b).length = l.length := List.length_map _
theorem vB_cellJ (l : List (BitVec 8)) : vB l = (l.map fun b => UInt8.ofBitVec b).map Extern.Stop.cell := by
  unfold vB
  rw [List.map_map]
  rfl
theorem toU_beqJ (l r : List (BitVec 8)) : ((l.map fun b => UInt8.ofBitVec b) == (r.map fun b => UInt8.ofBitVec b)) = decide (l = r) := by
  rw [Bool.eq_iff_iff]
  simp only [beq_iff_eq, decide_eq_true_eq]
  constructor
  · intro h
    have := congrArg (List.map UInt8.toBitVec) h
    simpa [List.map_map, Function.comp_def] using this
  · rintro rfl; rfl
theorem eq_byJ (d : Nat) (w : World) (t : TypeId) (n : Nat) (ht : Try.prog.underlying t = some (.array n 5)) (l r : List (BitVec 8)) (hl : l.length = n) (hr : r.length = n) : (Op.equalIn (d + 2) t (.agg (vB l).toArray) (.agg (vB r).toArray)).run Try.prog w = .ok (decide (l = r)) w := by
  have q := run_equalIn_bytes (P := Try.prog) w d t 5 n ht Try.underlying5 szU8J (l.map fun b => UInt8.ofBitVec b) (r.map fun b => UInt8.ofBitVec b) (by rw [toU_lenJ, hl]) (by rw [toU_lenJ, hr])
  rw [toU_beqJ, ← vB_cellJ, ← vB_cellJ] at q
  exact q
theorem part_intJ (w : World) (xs : List Value) (o : Nat) (k : Int) (h : xs[o]? = some (.int .i64 k)) : (part 3 xs.toArray o).run Try.prog w = .ok (.int .i64 k) w := by
  simp [part, isAgg, run_underlying Try.underlying3, h]
theorem part_aggJ (w : World) (t : TypeId) (n : Nat) (hs : (Try.prog.info? t).map (·.size) = some n) (ha : ∀ w, (isAgg t).run Try.prog w = .ok true w) (xs : List Value) (o : Nat) (Lx : List Value) (h : (xs.drop o).take n = Lx) : (part t xs.toArray o).run Try.prog w = .ok (.agg Lx.toArray) w := by
  cases hi : Try.prog.info? t with
  | none => rw [hi] at hs; cases hs
  | some i =>
    have hsz : i.size = n := by rw [hi] at hs; simpa using hs
    have hz : ∀ w, (sizeOf t).run Try.prog w = .ok n w := fun w => by simp [sizeOf, typeInfo, hi, hsz]
    simp [part, Sem.run_bind, ha, hz]
    exact h
/-- One field more. -/
theorem eqJ_step (d : Nat) (w : World) (xs ys : Array Value) (f : Field) (fs : List Field) (t : TypeId) (o : Nat) (hf : (f.type, f.offset, decide (f.name = "_")) = (t, o, false)) (a b : Value) (T : Bool) (ha : (part t xs o).run Try.prog w = .ok a w) (hb : (part t ys o).run Try.prog w = .ok b w) (he : (Op.equalIn d t a b).run Try.prog w = .ok T w) (S : Bool) (hS : (Op.eqFields d xs ys fs).run Try.prog w = .ok S w) : (Op.eqFields d xs ys (f :: fs)).run Try.prog w = .ok (T && S) w := by
  simp only [Prod.mk.injEq, decide_eq_false_iff_not] at hf
  obtain ⟨rfl, rfl, hn⟩ := hf
  unfold Op.eqFields
  rw [if_pos hn]
  simp only [Sem.run_bind, ha, hb, he, Result.andThen_ok]
  cases T with
  | false => simp
  | true => simp [hS]
theorem consJ_map {α β : Type} {g : α → β} {l : List α} {b : β} {bs : List β} (h : l.map g = b :: bs) : ∃ x xs, l = x :: xs ∧ g x = b ∧ xs.map g = bs := by
  cases l with
  | nil => cases h
  | cons x xs => rw [List.map_cons] at h; injection h with h1 h2; exact ⟨x, xs, rfl, h1, h2⟩
theorem eqJ_nil (d : Nat) (w : World) (xs ys : Array Value) : (Op.eqFields d xs ys []).run Try.prog w = .ok true w := by simp [Op.eqFields]
theorem aggJ_W (w : World) : (isAgg 27).run Try.prog w = .ok true w := by simp [isAgg, run_underlying Try.underlying27]
theorem aggJ_A (w : World) : (isAgg 24).run Try.prog w = .ok true w := by simp [isAgg, run_underlying Try.underlying24]
theorem infoJ_A : (Try.prog.info? 24).map (·.size) = some 20 := by kernel_rfl
theorem selfJ_W (w : World) (d m : Nat) : (Op.equalIn (d + 2) 27 (.agg (wq m).toArray) (.agg (wq m).toArray)).run Try.prog w = .ok true w := by
  have q := run_equalIn_vQ (P := Try.prog) (w := w) d 27 25 4 Try.underlying27 Try.underlying25 sz_u64 (dgs m 4) (dgs m 4) (dgs_length _ _) (dgs_length _ _)
  rw [decide_eq_true rfl] at q
  exact q
theorem fields_Ak : (Try.prog.fieldsOf tAk).toList.map (fun f => (f.type, f.offset, decide (f.name = "_"))) = [(3, 0, false), (27, 1, false), (27, 5, false), (3, 9, false), (24, 10, false)] := by kernel_rfl
theorem und_AkF : Try.prog.underlying tAk = some (.struct (Try.prog.fieldsOf tAk)) := by kernel_rfl
theorem held_Ak : Try.prog.stoodInHeld tAk = false := by kernel_rfl
theorem guardAk : Try.prog.eqGuardType Try.prog.depth tAk = false := by kernel_rfl
theorem fields_Rn : (Try.prog.fieldsOf 35).toList.map (fun f => (f.type, f.offset, decide (f.name = "_"))) = [(27, 0, false), (3, 4, false)] := by kernel_rfl
theorem und_RnF : Try.prog.underlying 35 = some (.struct (Try.prog.fieldsOf 35)) := by kernel_rfl
theorem held_Rn : Try.prog.stoodInHeld 35 = false := by kernel_rfl
theorem guardRn : Try.prog.eqGuardType Try.prog.depth 35 = false := by kernel_rfl
/-- A question, by its parts. -/
def Ask1 (q : List Value) : Prop := ∃ k a b t ad, ad.length = 20 ∧ q = aq k a b t (vB ad)
theorem Ask1.len {q : List Value} (h : Ask1 q) : q.length = 30 := by
  obtain ⟨k, a, b, t, ad, h1, rfl⟩ := h
  exact aq_len _ _ _ _ _ (by rw [vB_len, h1])
set_option maxRecDepth 100000 in
theorem selfAk (w : World) (d : Nat) (q : List Value) (h : Ask1 q) : (Op.equalIn (d + 4) tAk (.agg q.toArray) (.agg q.toArray)).run Try.prog w = .ok true w := by
  obtain ⟨k, a, b, t, ad, hl, rfl⟩ := h
  rw [run_equalIn_agg w (d + 3) tAk _ _ und_AkF held_Ak]
  obtain ⟨f0, l0, e0, g0, h0⟩ := consJ_map fields_Ak
  obtain ⟨f1, l1, e1, g1, h1⟩ := consJ_map h0
  obtain ⟨f2, l2, e2, g2, h2⟩ := consJ_map h1
  obtain ⟨f3, l3, e3, g3, h3⟩ := consJ_map h2
  obtain ⟨f4, l4, e4, g4, h4⟩ := consJ_map h3
  obtain rfl : l4 = [] := List.map_eq_nil_iff.1 h4
  rw [e0, e1, e2, e3, e4]
  have p0 : (aq k a b t (vB ad))[0]? = some (.int .i64 (k : Int)) := rfl
  have p1 : ((aq k a b t (vB ad)).drop 1).take 4 = wq a := rfl
  have p2 : ((aq k a b t (vB ad)).drop 5).take 4 = wq b := rfl
  have p3 : (aq k a b t (vB ad))[9]? = some (.int .i64 (t : Int)) := rfl
  have p4 : ((aq k a b t (vB ad)).drop 10).take 20 = vB ad := by
    show (vB ad).take 20 = vB ad
    rw [List.take_of_length_le (by rw [vB_len, hl]; decide)]
  have := eqJ_step (d + 3) w _ _ f0 [f1, f2, f3, f4] 3 0 g0 _ _ _ (part_intJ w _ 0 _ p0) (part_intJ w _ 0 _ p0) (run_equalIn_int w (d + 2) 3 .i64 .i64 k k Try.underlying3) _
    (eqJ_step (d + 3) w _ _ f1 [f2, f3, f4] 27 1 g1 _ _ _ (part_aggJ w 27 4 info_W aggJ_W _ 1 _ p1) (part_aggJ w 27 4 info_W aggJ_W _ 1 _ p1) (selfJ_W w (d + 1) a) _
    (eqJ_step (d + 3) w _ _ f2 [f3, f4] 27 5 g2 _ _ _ (part_aggJ w 27 4 info_W aggJ_W _ 5 _ p2) (part_aggJ w 27 4 info_W aggJ_W _ 5 _ p2) (selfJ_W w (d + 1) b) _
    (eqJ_step (d + 3) w _ _ f3 [f4] 3 9 g3 _ _ _ (part_intJ w _ 9 _ p3) (part_intJ w _ 9 _ p3) (run_equalIn_int w (d + 2) 3 .i64 .i64 t t Try.underlying3) _
    (eqJ_step (d + 3) w _ _ f4 [] 24 10 g4 _ _ _ (part_aggJ w 24 20 infoJ_A aggJ_A _ 10 _ p4) (part_aggJ w 24 20 infoJ_A aggJ_A _ 10 _ p4) (eq_byJ (d + 1) w 24 20 Try.underlying24 ad ad hl hl) _ (eqJ_nil (d + 3) w _ _)))))
  rw [this]
  simp
set_option maxRecDepth 100000 in
theorem selfRn (w : World) (d m : Nat) (g : Int) (L : List Value) (hL : L = wq m ++ [.int .i64 g]) : (Op.equalIn (d + 4) 35 (.agg L.toArray) (.agg L.toArray)).run Try.prog w = .ok true w := by
  subst hL
  rw [run_equalIn_agg w (d + 3) 35 _ _ und_RnF held_Rn]
  obtain ⟨f0, l0, e0, g0, h0⟩ := consJ_map fields_Rn
  obtain ⟨f1, l1, e1, g1, h1⟩ := consJ_map h0
  obtain rfl : l1 = [] := List.map_eq_nil_iff.1 h1
  rw [e0, e1]
  have p0 : ((wq m ++ [Value.int .i64 g]).drop 0).take 4 = wq m := rfl
  have p1 : (wq m ++ [Value.int .i64 g])[4]? = some (.int .i64 g) := rfl
  have := eqJ_step (d + 3) w _ _ f0 [f1] 27 0 g0 _ _ _ (part_aggJ w 27 4 info_W aggJ_W _ 0 _ p0) (part_aggJ w 27 4 info_W aggJ_W _ 0 _ p0) (selfJ_W w (d + 1) m) _
    (eqJ_step (d + 3) w _ _ f1 [] 3 4 g1 _ _ _ (part_intJ w _ 4 _ p1) (part_intJ w _ 4 _ p1) (run_equalIn_int w (d + 2) 3 .i64 .i64 g g Try.underlying3) _ (eqJ_nil (d + 3) w _ _))
  rw [this]
  simp
theorem zR_form : zR = wq 0 ++ [.int .i64 0] := by rw [wq_zero]; rfl
theorem rans2_form (G : Nat) (R : Except Int (Nat × Nat)) : ∃ m g, (rans2 G R).1 = wq m ++ [.int .i64 g] := by
  cases R with
  | error E => exact ⟨0, 0, zR_form⟩
  | ok y => exact ⟨y.1, _, rfl⟩
theorem vB_drop (l : List (BitVec 8)) (n : Nat) : (vB l).drop n = vB (l.drop n) := by unfold vB; rw [List.map_drop]
theorem adr_vB (x : Nat) : adr x = vB ((wB x).drop 12) := by unfold adr; rw [← wB_vU, vB_drop]
theorem z20_vB : z20 = vB (List.replicate 20 0#8) := rfl
theorem exh_ask1 (rs : List (Nat × Int)) (c : Nat) (st : List Nat) (nx nq : Nat) : ∀ q ∈ (exh rs c st nx nq).2, Ask1 q := by
  have hz : ∀ k a b t, Ask1 (aq k a b t z20) := fun k a b t => ⟨k, a, b, t, List.replicate 20 0#8, by simp, by rw [z20_vB]⟩
  have ha : ∀ k a b t x, Ask1 (aq k a b t (adr x)) := fun k a b t x => ⟨k, a, b, t, (wB x).drop 12, by rw [List.length_drop, wB_len], by rw [adr_vB]⟩
  have one : ∀ {a : List Value}, Ask1 a → ∀ q ∈ [a], Ask1 q := fun h q hq => by obtain rfl := List.mem_singleton.1 hq; exact h
  unfold exh
  split
  · exact one (hz _ _ _ _)
  split
  · exact one (hz _ _ _ _)
  split
  · split
    · exact one (ha _ _ _ _ _)
    · exact fun q hq => by cases hq
  split
  · exact one (ha _ _ _ _ _)
  · exact fun q hq => by cases hq
theorem stU_ask1 (cl : Cl) (ags : List Nat) (ls : List Ins) (rs : List (Nat × Int)) (x : Ins) (st : List Nat) (l nx nq : Nat) : ∀ q ∈ (stU cl ags ls rs x st l nx nq).2, Ask1 q := by
  unfold stU
  split
  · exact fun q hq => by cases hq
  split
  · exact fun q hq => by cases hq
  split
  · exact fun q hq => by cases hq
  split
  · exact fun q hq => by cases hq
  exact exh_ask1 _ _ _ _ _
theorem ev2_ask1 (cl : Cl) (ags : List Nat) (ls : List Ins) (rs : List (Nat × Int)) : ∀ (f : Nat) (st : List Nat) (l nx nq : Nat), ∀ q ∈ (ev2 cl ags ls rs f st l nx nq).2, Ask1 q := by
  intro f
  induction f with
  | zero => exact fun st l nx nq q hq => by cases hq
  | succ f ih =>
    intro st l nx nq q hq
    unfold ev2 at hq
    cases hx : ls[nx]? with
    | none => rw [hx] at hq; cases hq
    | some x =>
      rw [hx] at hq
      simp only at hq
      have h1 := stU_ask1 cl ags ls rs x st l nx nq
      rcases hst : stU cl ags ls rs x st l nx nq with ⟨r1, q1⟩
      rw [hst] at hq h1
      cases r1 with
      | error E => exact h1 q hq
      | ok y =>
        obtain ⟨st', nx'⟩ := y
        simp only at hq
        split at hq
        · exact h1 q hq
        · rcases List.mem_append.1 hq with hq | hq
          · exact h1 q hq
          · exact ih _ _ _ _ q hq
theorem mrun_ask1 (pd : List (BitVec 8)) (c : Ca) (ags : List Nat) (rs : List (Nat × Int)) : (∀ q ∈ (mrun pd c ags rs).2, Ask1 q) ∧ ∃ m g, (mrun pd c ags rs).1.1 = wq m ++ [.int .i64 g] := by
  unfold mrun
  cases chk pd with
  | none => exact ⟨fun q hq => (by cases hq), 0, 0, zR_form⟩
  | some ls =>
    simp only
    split
    · exact ⟨ev2_ask1 _ _ _ _ _ _ _ _ _, rans2_form _ _⟩
    · exact ⟨fun q hq => (by cases hq), 0, 0, zR_form⟩
/-- Questions in memory, as a caller has them. -/
def Qin (w : World) (A : Option Addr) (Q : List (List Value)) : Prop := Q = [] ∨ ∃ g, A = some ⟨g, 0, none⟩ ∧ w.rangeAt g 0 Q.flatten
theorem flat30 (Q : List (List Value)) (hQ : ∀ q ∈ Q, q.length = 30) (i : Nat) (q : List Value) (h : Q[i]? = some q) (j : Nat) (u : Value) (hj : q[j]? = some u) : Q.flatten[i * 30 + j]? = some u := by
  induction Q generalizing i with
  | nil => cases h
  | cons y r ih =>
    rw [List.flatten_cons]
    cases i with
    | zero =>
      obtain rfl : y = q := by simpa using h
      rw [Nat.zero_mul, Nat.zero_add, List.getElem?_append_left (List.getElem?_eq_some_iff.1 hj).1]
      exact hj
    | succ k =>
      have hy := hQ y (by simp)
      rw [List.getElem?_append_right (by rw [hy]; omega), hy, show (k + 1) * 30 + j - 30 = k * 30 + j by omega]
      exact ih (fun q hq => hQ q (by simp [hq])) k (by simpa using h)
section
variable {Q : Exit → Act → World → Prop} {o : Oper} {a : Act} {w : World} {K : Act → World → Prop}
theorem wpH_neAk (x y : Operand) (yt : TypeId) (ho : o.op = .binOp .neq tAk x y yt) (q : List Value) (hq : Ask1 q) (hx : a.eval x = .agg q.toArray) (hy : a.eval y = .agg q.toArray) (h : K (a.put o.dst (.bool false)) w) : Oper.wp Try.prog o a w K Q := by
  have hr : (binOp .neq tAk (.agg q.toArray) (.agg q.toArray)).run Try.prog w = .ok (.bool false) w := by rw [run_neq_struct, selfAk w 9996 q hq]; rfl
  unfold Oper.wp execOp
  simp only [ho, hx, hy, Sem.run_bind, run_eqGuard_agg w .neq tAk x y _ _ guardAk, Result.andThen_ok, hr, Sem.run_pure, Oper.upon_value]
  exact h
theorem wpH_ixA {x y : Operand} (ho : o.op = .indexAddr tAks x y) (g n c i : Nat) (hx : a.eval x = .slice (some ⟨g, 0, none⟩) n c) (hy : a.eval y = .int .i64 (i : Int)) (hi : i < n) (h : K (a.put o.dst (.pointer (some ⟨g, i * 30, none⟩))) w) : Oper.wp Try.prog o a w K Q := by
  have h1 : ¬ ((i : Int) < 0) := by omega
  have h2 : (i : Int) < (n : Int) := by omega
  unfold Oper.wp execOp
  simp only [ho, hx, hy]
  go_simp
  exact h
end
set_option maxRecDepth 100000 in
set_option maxHeartbeats 4000000 in
theorem same_asks (Q : List (List Value)) (hQ : ∀ q ∈ Q, Ask1 q) (n : Nat) (hn : n = Q.length) (hb : n ≤ 100000) (Aa Ab : Option Addr) (ca cb : Nat) (w : World) (ha : Qin w Aa Q) (hb2 : Qin w Ab Q) : Calls Try.prog 9 #[.slice Aa n ca, .slice Ab n cb] w fun e w' => e = .returned (.bool true) ∧ Below w.heap.size w w' := by
  have HA : Hid (Qin w Aa Q ∧ Qin w Ab Q) := ⟨ha, hb2⟩
  have HQ : Hid (∀ q ∈ Q, Ask1 q) := hQ
  have HN : Hid (n = Q.length) := hn
  clear ha hb2 hQ hn
  go_enter Try.func9, Try.ntmps9
  go_wp2
  go_loopw [5] (fun i wr => ∃ t : Nat, t ≤ n ∧ i = .int .i64 (t : Int) ∧ Below w.heap.size w wr) (fun i _ => n - (intOf i).toNat)
  case atStart => exact ⟨0, Nat.zero_le _, rfl, Below.refl _ _⟩
  case round =>
    obtain ⟨t, ht, rfl, hbw⟩ := hrel
    have HBW : Hid (Below w.heap.size w wr) := hbw
    clear hbw
    by_cases hlt : t < n
    · obtain ⟨x, hx⟩ : ∃ x, Q[t]? = some x := ⟨_, List.getElem?_eq_getElem (by rw [← HN.out]; exact hlt)⟩
      have hne : Q ≠ [] := fun e => by rw [e] at hx; cases hx
      obtain ⟨g1, rfl, r1⟩ := HA.out.1.resolve_left hne
      obtain ⟨g2, rfl, r2⟩ := HA.out.2.resolve_left hne
      have HX : Hid (Ask1 x) := HQ.out x (List.mem_of_getElem? hx)
      have HIX : Hid ((Try.prog.info? tAk).map (·.size) = some x.length) := by show _ = _; rw [HX.out.len]; exact info_Ak
      have HLT : Hid (t < n) := hlt
      have rr : ∀ {g : Nat}, w.rangeAt g 0 Q.flatten → w.rangeAt g (t * 30) x := fun r j u hj => by
        have := r (t * 30 + j) u (flat30 Q (fun q hq => (HQ.out q hq).len) t x hx j u hj)
        rwa [Nat.zero_add] at this
      obtain ⟨c1, hc1⟩ : ∃ c, c = ca := ⟨_, rfl⟩
      obtain ⟨c2, hc2⟩ : ∃ c, c = cb := ⟨_, rfl⟩
      rw [← hc1, ← hc2]
      clear hx hc1 hc2 hne
      go_upto_region 6 with fail
      obtain ⟨V, hV⟩ : ∃ V, V = wr := ⟨_, rfl⟩
      have HR1 : Hid (∀ X, Below V.heap.size V X → X.rangeAt g1 (t * 30) x) := fun X k => range_be (rr r1) (HBW.out.trans ((hV ▸ k : Below wr.heap.size wr X).mono HBW.out.size))
      have HR2 : Hid (∀ X, Below V.heap.size V X → X.rangeAt g2 (t * 30) x) := fun X k => range_be (rr r2) (HBW.out.trans ((hV ▸ k : Below wr.heap.size wr X).mono HBW.out.size))
      rw [← hV] at HBW
      rw [← hV]
      have hb1 := Below.refl V.heap.size V
      clear hV r1 r2 rr
      refine wp_named fun a0 ha0 => ?_
      have hsz : a0.tmps.size = 26 := by rw [ha0]; rfl
      have zs0 : a0.eval (.tmp 0) = .slice (some ⟨g1, 0, none⟩) n c1 := by rw [ha0]; rfl
      have zs1 : a0.eval (.tmp 1) = .slice (some ⟨g2, 0, none⟩) n c2 := by rw [ha0]; rfl
      have zs5 : a0.eval (.tmp 5) = .int .i64 (t : Int) := by rw [ha0]; rfl
      obtain ⟨D, hD⟩ : ∃ D : List (Tmp × SP), D = [(17, SP.is (.slice (some ⟨g1, 0, none⟩) n c1)), (18, SP.is (.int .i64 (t : Int))), (19, SP.is (.pointer (some ⟨g1, t * 30, none⟩))), (20, SP.is (.agg x.toArray)), (21, SP.is (.slice (some ⟨g2, 0, none⟩) n c2)), (22, SP.is (.int .i64 (t : Int))), (23, SP.is (.pointer (some ⟨g2, t * 30, none⟩))), (24, SP.is (.agg x.toArray)), (25, SP.is (.bool false))] := ⟨_, rfl⟩
      refine wp_region_down (by kernel_rfl) (fun listed ac W => listed.size = 9 ∧ Fp D a0 listed ac W ∧ Below V.heap.size V W) ?_ ?_ ?_
      · exact ⟨by simp, Fp.start D a0 _ _, Below.drew hb1⟩
      · clear ha0 hb1  
        intro listed ac W k hI hdn hk
        obtain ⟨hl, hF, hb1⟩ := hI
        have hk1 : k < 9 := List.mem_range.1 (List.mem_filter.1 hk).1
        have hl2 : ∀ j, (listed.setIfInBounds j true).size = 9 := fun j => by rw [Array.size_setIfInBounds]; exact hl
        rcases (show k = 0 ∨ k = 1 ∨ k = 2 ∨ k = 3 ∨ k = 4 ∨ k = 5 ∨ k = 6 ∨ k = 7 ∨ k = 8 by omega) with rfl | rfl | rfl | rfl | rfl | rfl | rfl | rfl | rfl
        · have hk3 := hk
          exact wpOp_plain rfl rfl (wp_move_v (ac.eval (.tmp 0)) rfl rfl ⟨hl2 0, (hF.put 0 17 (SP.is (.slice (some ⟨g1, 0, none⟩) n c1)) (ac.eval (.tmp 0)) (by rw [hD]; rfl) (((hF.keep 0 (by rw [hD]; rfl)).trans zs0)) (by rw [hD]; rfl) (by rw [hsz]; decide) (by rw [hl]; decide)), hb1⟩)
        · have hk3 := hk
          exact wpOp_plain rfl rfl (wp_move_v (ac.eval (.tmp 5)) rfl rfl ⟨hl2 1, (hF.put 1 18 (SP.is (.int .i64 (t : Int))) (ac.eval (.tmp 5)) (by rw [hD]; rfl) (((hF.keep 5 (by rw [hD]; rfl)).trans zs5)) (by rw [hD]; rfl) (by rw [hsz]; decide) (by rw [hl]; decide)), hb1⟩)
        · have hk3 := hk
          have e0 := (hF.done 0 (17, SP.is (.slice (some ⟨g1, 0, none⟩) n c1)) (by rw [hD]; rfl) (ready_dep hk 0 (by kernel_rfl)))
          have e1 := (hF.done 1 (18, SP.is (.int .i64 (t : Int))) (by rw [hD]; rfl) (ready_dep hk 1 (by kernel_rfl)))
          exact wpOp_plain rfl rfl (wpH_ixA rfl g1 n c1 t e0 e1 HLT.out ⟨hl2 2, (hF.put 2 19 (SP.is (.pointer (some ⟨g1, t * 30, none⟩))) (.pointer (some ⟨g1, t * 30, none⟩)) (by rw [hD]; rfl) rfl (by rw [hD]; rfl) (by rw [hsz]; decide) (by rw [hl]; decide)), hb1⟩)
        · have hk3 := hk
          have e0 := (hF.done 2 (19, SP.is (.pointer (some ⟨g1, t * 30, none⟩))) (by rw [hD]; rfl) (ready_dep hk 2 (by kernel_rfl)))
          exact wpOp_plain rfl rfl (wp_load_mid tAk (.tmp 19) rfl g1 (t * 30) e0 x _ (HR1.out W hb1) Try.underlying55 rfl HIX.out ⟨hl2 3, (hF.put 3 20 (SP.is (.agg x.toArray)) (.agg x.toArray) (by rw [hD]; rfl) rfl (by rw [hD]; rfl) (by rw [hsz]; decide) (by rw [hl]; decide)), hb1⟩)
        · have hk3 := hk
          exact wpOp_plain rfl rfl (wp_move_v (ac.eval (.tmp 1)) rfl rfl ⟨hl2 4, (hF.put 4 21 (SP.is (.slice (some ⟨g2, 0, none⟩) n c2)) (ac.eval (.tmp 1)) (by rw [hD]; rfl) (((hF.keep 1 (by rw [hD]; rfl)).trans zs1)) (by rw [hD]; rfl) (by rw [hsz]; decide) (by rw [hl]; decide)), hb1⟩)
        · have hk3 := hk
          exact wpOp_plain rfl rfl (wp_move_v (ac.eval (.tmp 5)) rfl rfl ⟨hl2 5, (hF.put 5 22 (SP.is (.int .i64 (t : Int))) (ac.eval (.tmp 5)) (by rw [hD]; rfl) (((hF.keep 5 (by rw [hD]; rfl)).trans zs5)) (by rw [hD]; rfl) (by rw [hsz]; decide) (by rw [hl]; decide)), hb1⟩)
        · have hk3 := hk
          have e0 := (hF.done 4 (21, SP.is (.slice (some ⟨g2, 0, none⟩) n c2)) (by rw [hD]; rfl) (ready_dep hk 4 (by kernel_rfl)))
          have e1 := (hF.done 5 (22, SP.is (.int .i64 (t : Int))) (by rw [hD]; rfl) (ready_dep hk 5 (by kernel_rfl)))
          exact wpOp_plain rfl rfl (wpH_ixA rfl g2 n c2 t e0 e1 HLT.out ⟨hl2 6, (hF.put 6 23 (SP.is (.pointer (some ⟨g2, t * 30, none⟩))) (.pointer (some ⟨g2, t * 30, none⟩)) (by rw [hD]; rfl) rfl (by rw [hD]; rfl) (by rw [hsz]; decide) (by rw [hl]; decide)), hb1⟩)
        · have hk3 := hk
          have e0 := (hF.done 6 (23, SP.is (.pointer (some ⟨g2, t * 30, none⟩))) (by rw [hD]; rfl) (ready_dep hk 6 (by kernel_rfl)))
          exact wpOp_plain rfl rfl (wp_load_mid tAk (.tmp 23) rfl g2 (t * 30) e0 x _ (HR2.out W hb1) Try.underlying55 rfl HIX.out ⟨hl2 7, (hF.put 7 24 (SP.is (.agg x.toArray)) (.agg x.toArray) (by rw [hD]; rfl) rfl (by rw [hD]; rfl) (by rw [hsz]; decide) (by rw [hl]; decide)), hb1⟩)
        · have hk3 := hk
          have e0 := (hF.done 3 (20, SP.is (.agg x.toArray)) (by rw [hD]; rfl) (ready_dep hk 3 (by kernel_rfl)))
          have e1 := (hF.done 7 (24, SP.is (.agg x.toArray)) (by rw [hD]; rfl) (ready_dep hk 7 (by kernel_rfl)))
          exact wpOp_plain rfl rfl (wpH_neAk (.tmp 20) (.tmp 24) _ rfl x HX.out e0 e1 ⟨hl2 8, (hF.put 8 25 (SP.is (.bool false)) (.bool false) (by rw [hD]; rfl) rfl (by rw [hD]; rfl) (by rw [hsz]; decide) (by rw [hl]; decide)), hb1⟩)
      · clear hb1  
        intro listed ac W hI hr
        obtain ⟨hl, hF, hb1⟩ := hI
        have hall := all_listed (by kernel_rfl) hl hr
        have h17 : ac.eval (.tmp 17) = .slice (some ⟨g1, 0, none⟩) n c1 := hF.done 0 (17, SP.is (.slice (some ⟨g1, 0, none⟩) n c1)) (by rw [hD]; rfl) (hall 0 (by decide))
        have h18 : ac.eval (.tmp 18) = .int .i64 (t : Int) := hF.done 1 (18, SP.is (.int .i64 (t : Int))) (by rw [hD]; rfl) (hall 1 (by decide))
        have h19 : ac.eval (.tmp 19) = .pointer (some ⟨g1, t * 30, none⟩) := hF.done 2 (19, SP.is (.pointer (some ⟨g1, t * 30, none⟩))) (by rw [hD]; rfl) (hall 2 (by decide))
        have h20 : ac.eval (.tmp 20) = .agg x.toArray := hF.done 3 (20, SP.is (.agg x.toArray)) (by rw [hD]; rfl) (hall 3 (by decide))
        have h21 : ac.eval (.tmp 21) = .slice (some ⟨g2, 0, none⟩) n c2 := hF.done 4 (21, SP.is (.slice (some ⟨g2, 0, none⟩) n c2)) (by rw [hD]; rfl) (hall 4 (by decide))
        have h22 : ac.eval (.tmp 22) = .int .i64 (t : Int) := hF.done 5 (22, SP.is (.int .i64 (t : Int))) (by rw [hD]; rfl) (hall 5 (by decide))
        have h23 : ac.eval (.tmp 23) = .pointer (some ⟨g2, t * 30, none⟩) := hF.done 6 (23, SP.is (.pointer (some ⟨g2, t * 30, none⟩))) (by rw [hD]; rfl) (hall 6 (by decide))
        have h24 : ac.eval (.tmp 24) = .agg x.toArray := hF.done 7 (24, SP.is (.agg x.toArray)) (by rw [hD]; rfl) (hall 7 (by decide))
        have h25 : ac.eval (.tmp 25) = .bool false := hF.done 8 (25, SP.is (.bool false)) (by rw [hD]; rfl) (hall 8 (by decide))
        have ea := hF.lay [(17, .slice (some ⟨g1, 0, none⟩) n c1), (18, .int .i64 (t : Int)), (19, .pointer (some ⟨g1, t * 30, none⟩)), (20, .agg x.toArray), (21, .slice (some ⟨g2, 0, none⟩) n c2), (22, .int .i64 (t : Int)), (23, .pointer (some ⟨g2, t * 30, none⟩)), (24, .agg x.toArray), (25, .bool false)] (by rw [hD, hsz]; rfl) (by simp only [List.forall_mem_cons, List.not_mem_nil, false_implies, implies_true, and_true]; exact ⟨h17, h18, h19, h20, h21, h22, h23, h24, h25⟩)
        rw [ha0] at ea
        simp only [List.foldl_cons, List.foldl_nil, List.setIfInBounds_toArray, List.set_cons_zero, List.set_cons_succ] at ea
        clear hF hall hr hl hD  zs0 zs1 zs5 ha0 hsz h17 h18 h19 h20 h21 h22 h23 h24 h25
        subst ea
        have B2 : Hid (Below w.heap.size w W) := HBW.out.trans (hb1.mono HBW.out.size)
        clear hb1
        go_wp2
        exact ⟨⟨t + 1, hlt, by go_num, B2.out⟩, by simp [intOf]; omega⟩
    · go_wp2
      go_ret
      exact ⟨rfl, HBW.out⟩

end Go.Proofs.Ytabcglakdlkdcaa
