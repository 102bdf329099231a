/-
  The law DigestCuts.
-/
import Derived.Test.YtihigbkanbabeabDoorTwin
namespace Go.Proofs.YtihigbkanbabeabDoor
open Go Go.RowKit
open Sha

/-- v is a slice of the numbers zs. -/
def SlI (w : World) (v : Value) (zs : List Int) : Prop :=
  (zs = [] ∧ ∃ A cap, v = .slice A 0 cap) ∨ ∃ ab ao cap, v = .slice (some ⟨ab, ao, none⟩) zs.length cap ∧ w.rangeAt ab ao (zs.map (Value.int .i64))

/-- vp is the list of the lists ps, each in a row of its own. -/
structure Many (w : World) (N : Nat) (vp : Value) (ps : List (List (BitVec 8))) (vs : List Value) : Prop where
  own : w.ownsRow N 22 1 vp ps.length vs
  each : ∀ i, i < ps.length → New w N (vs.getD i undef) (ps.getD i [])

theorem Many.len {w : World} {N : Nat} {vp : Value} {ps : List (List (BitVec 8))} {vs : List Value} (h : Many w N vp ps vs) : vs.length = ps.length := by have := h.own.1; omega
theorem ownsRow_below {B N e size n : Nat} {w w' : World} {v : Value} {xs : List Value} (h : w.ownsRow N e size v n xs) (k : Below B w w') (hB : w.heap.size ≤ B) : w'.ownsRow N e size v n xs := by
  obtain ⟨h1, h2⟩ := h
  refine ⟨h1, ?_⟩
  rcases h2 with h2 | ⟨g, cap, cur, hv, hg, hh, r⟩
  · exact .inl h2
  · exact .inr ⟨g, cap, cur, hv, hg, (k.block g (Nat.lt_of_lt_of_le (Array.getElem?_eq_some_iff.1 hh).1 hB)).trans hh, r⟩
theorem Many.below {B N : Nat} {w w' : World} {vp : Value} {ps : List (List (BitVec 8))} {vs : List Value} (h : Many w N vp ps vs) (k : Below B w w') (hB : w.heap.size ≤ B) : Many w' N vp ps vs :=
  ⟨ownsRow_below h.own k hB, fun i hi => (h.each i hi).below k hB⟩
theorem Many.but {N b : Nat} {w w' : World} {vp : Value} {ps : List (List (BitVec 8))} {vs : List Value} {bs : List (BitVec 8)} (h : Many w N vp ps vs) (k : But b w w') (hb : HAt w b bs) : Many w' N vp ps vs := by
  refine ⟨⟨h.own.1, ?_⟩, fun i hi => (h.each i hi).but k hb (by decide)⟩
  rcases h.own.2 with h2 | ⟨g, cap, cur, hv, hg, hh, r⟩
  · exact .inl h2
  · have hne : g ≠ b := by
      have hr : Row w g cur.toList 22 := by unfold Row; rw [hh]
      exact hr.ne hb (by decide)
    exact .inr ⟨g, cap, cur, hv, hg, (k.block g (Array.getElem?_eq_some_iff.1 hh).1 hne).trans hh, r⟩
/-- One list more. -/
theorem Many.more {N : Nat} {w w' : World} {vp v' v : Value} {ps : List (List (BitVec 8))} {vs : List Value} {d : List (BitVec 8)} (h : Many w N vp ps vs) (hn : New w N v d) (ho : w'.ownsRow N 22 1 v' (ps.length + 1) (vs ++ [v])) (hg : w.grownBy w' vp.ownBlock) : Many w' N v' (ps ++ [d]) (vs ++ [v]) := by
  have hkeep : ∀ u e, New w N u e → New w' N u e := by
    rintro u e ⟨g, hu, hN, hr⟩
    refine ⟨g, hu, hN, ?_⟩
    have hne : some g ≠ vp.ownBlock := by
      rcases h.own.2 with ⟨h2, _⟩ | ⟨g', cap, cur, hv, _, hh, _⟩
      · rw [h2]; simp [Value.ownBlock]
      · rw [hv]
        have hr' : Row w g' cur.toList 22 := by unfold Row; rw [hh]
        have := hr.ne hr' (by decide)
        simp [Value.ownBlock]; exact this
    exact (hg.block g hr.lt hne).trans hr
  have hl := h.len
  refine ⟨by simpa using ho, fun i hi => ?_⟩
  by_cases hlt : i < ps.length
  · have e1 : (vs ++ [v]).getD i undef = vs.getD i undef := by simp [List.getElem?_append_left (show i < vs.length by omega)]
    have e2 : (ps ++ [d]).getD i [] = ps.getD i [] := by simp [List.getElem?_append_left hlt]
    rw [e1, e2]; exact hkeep _ _ (h.each i hlt)
  · obtain rfl : i = ps.length := by simp at hi; omega
    have e1 : (vs ++ [v]).getD ps.length undef = v := by rw [← hl]; simp
    have e2 : (ps ++ [d]).getD ps.length [] = d := by simp
    rw [e1, e2]; exact hkeep _ _ hn
theorem grown_below {N : Nat} {w w' : World} {vp : Value} {ps : List (List (BitVec 8))} {vs : List Value} {a : World} {B : Nat} (h : Many w N vp ps vs) (hb : Below B a w) (hg : w.grownBy w' vp.ownBlock) (hBN : B ≤ N) (hB : B ≤ w.heap.size) : Below B a w' := by
  refine hb.grown hg hB (fun k hk => ?_)
  rcases h.own.2 with ⟨h2, _⟩ | ⟨g', cap, cur, hv, hN, _⟩
  · rw [h2] at hk; simp [Value.ownBlock] at hk
  · rw [hv] at hk; simp [Value.ownBlock] at hk; omega
theorem grown_hat {N b : Nat} {w w' : World} {vp : Value} {ps : List (List (BitVec 8))} {vs : List Value} {bs : List (BitVec 8)} (h : Many w N vp ps vs) (hb : HAt w b bs) (hg : w.grownBy w' vp.ownBlock) : HAt w' b bs := by
  have hne : some b ≠ vp.ownBlock := by
    rcases h.own.2 with ⟨h2, _⟩ | ⟨g', cap, cur, hv, _, hh, _⟩
    · rw [h2]; simp [Value.ownBlock]
    · rw [hv]
      have hr' : Row w g' cur.toList 22 := by unfold Row; rw [hh]
      have := Row.ne hb hr' (by decide)
      simp [Value.ownBlock]; exact this
  exact (hg.block b (Row.lt hb) hne).trans hb
theorem info_all_slb : (Tryd.prog.info? 22).map (fun i => (i.zero, i.size, i.bytes)) = some (some (.slice none 0 0), 1, 24) := by kernel_rfl

section
variable {P : Program} {ops : Array Oper} {rest : List Oper} {op : Oper} {a : Act} {w : World} {Q : Exit → Act → World → Prop}
theorem wpList_slice_lh' (hgd : op.guard = none) (t : TypeId) (x y z : Operand) (ho : op.op = .slice t x (some y) (some z) none) (w0 : World) (e : TypeId) (A : Option Addr) (n cap : Nat) (d : List (BitVec 8)) (hv : SlAt w0 (.slice A n cap) d)
    (i k : Nat) (l m : Int) (hl : l = (i : Int)) (hm : m = (k : Int)) (hx : a.eval x = .slice A n cap) (hy : a.eval y = .int .i64 l) (hz : a.eval z = .int .i64 m) (hik : i ≤ k) (hk : k ≤ d.length) (hu : P.underlying t = some (.slice e)) (hs : (P.info? e).map (·.size) = some 1)
    (h : ∀ B c, SlAt w0 (.slice B (k - i) c) ((d.drop i).take (k - i)) → wpList P ops Q rest (a.put op.dst (.slice B (k - i) c)) w) : wpList P ops Q (op :: rest) a w := by
  subst hl; subst hm
  exact wpList_slice_lh hgd t x y z ho w0 e A n cap d hv i k hx hy hz hik hk hu hs h

theorem run_slice_l (w0 w : World) (t e : TypeId) (A : Option Addr) (n cap : Nat) (d : List (BitVec 8)) (hn : n = d.length) (hv : SlAt w0 (.slice A n cap) d) (i : Nat) (hi : i ≤ d.length) (hu : P.underlying t = some (.slice e)) (hs : (P.info? e).map (·.size) = some 1) :
    ∃ B c, (Instr.sliceAt t (.slice A n cap) (some (.int .i64 (i : Int))) none none).run P w = .ok (.slice B (d.length - i) c) w ∧ SlAt w0 (.slice B (d.length - i) c) (d.drop i) := by
  cases hq : P.info? e with
  | none => simp [hq] at hs
  | some inf =>
    have h1 : inf.size = 1 := by simpa [hq] using hs
    rcases hv with ⟨rfl, A', c', hv⟩ | ⟨ab, ao, c, hv, hc, hr⟩
    · simp only [Value.slice.injEq] at hv
      obtain ⟨rfl, rfl, rfl⟩ := hv
      obtain rfl : i = 0 := by simpa using hi
      exact ⟨_, cap, by simp [Instr.sliceAt, Instr.slice, run_underlying hu, Instr.sliceBounds, Instr.sliceBound, asIntOf, sizeOf, typeInfo, hq]; rfl, .inl ⟨by simp, _, _, rfl⟩⟩
    · simp only [Value.slice.injEq] at hv
      obtain ⟨rfl, rfl, rfl⟩ := hv
      by_cases h2 : cap = i
      · have hki : d.length = i := by omega
        refine ⟨some ⟨ab, ao, none⟩, cap - i, by simp [Instr.sliceAt, Instr.slice, run_underlying hu, Instr.sliceBounds, Instr.sliceBound, asIntOf, sizeOf, typeInfo, hq, h2, hki], .inr ⟨ab, ao, cap - i, by rw [List.length_drop], by rw [List.length_drop]; omega, by intro j v hj; rw [List.drop_of_length_le (by omega)] at hj; simp [vB] at hj⟩⟩
      · refine ⟨some ⟨ab, ao + i, none⟩, cap - i, by simp [Instr.sliceAt, Instr.slice, run_underlying hu, Instr.sliceBounds, Instr.sliceBound, asIntOf, sizeOf, typeInfo, hq, h1, h2, hi, Addr.add_mid], .inr ⟨ab, ao + i, cap - i, ?_, ?_, ?_⟩⟩
        · rw [List.length_drop]
        · rw [List.length_drop]; omega
        · intro j v hj
          have h3 : (vB d)[i + j]? = some v := by
            rw [← hj]; simp only [vB, List.map_drop]
            rw [List.getElem?_drop]
          have := hr (i + j) v h3
          rwa [show ao + (i + j) = ao + i + j by omega] at this
theorem wpList_slice_l (hgd : op.guard = none) (t : TypeId) (x y : Operand) (ho : op.op = .slice t x (some y) none none) (w0 : World) (e : TypeId) (A : Option Addr) (cap : Nat) (d : List (BitVec 8)) (hv : SlAt w0 (.slice A d.length cap) d)
    (i : Nat) (l : Int) (hl : l = (i : Int)) (hx : a.eval x = .slice A d.length cap) (hy : a.eval y = .int .i64 l) (hi : i ≤ d.length) (hu : P.underlying t = some (.slice e)) (hs : (P.info? e).map (·.size) = some 1)
    (h : ∀ B c, SlAt w0 (.slice B (d.length - i) c) (d.drop i) → wpList P ops Q rest (a.put op.dst (.slice B (d.length - i) c)) w) : wpList P ops Q (op :: rest) a w :=
  wpList_plain hgd fun _ hK => by
    subst hl
    obtain ⟨B, c, hr, hS⟩ := run_slice_l (P := P) w0 w t e A d.length cap d rfl hv i hi hu hs
    unfold Oper.wp execOp
    simp only [ho, hx, hy, Option.map_some, Option.map_none, Sem.run_bind, hr, Result.andThen_ok, Sem.run_pure, Oper.upon_value]
    exact hK _ _ (h _ _ hS)
end

theorem New.hid {w : World} {N : Nat} {v : Value} {d : List (BitVec 8)} (h : New w N v d) : v.oneCell' = true := by
  obtain ⟨g, rfl, _⟩ := h; rfl

theorem New.more {w : World} {N M : Nat} {v : Value} {d : List (BitVec 8)} (h : New w N v d) (k : M ≤ N) : New w M v d := by
  obtain ⟨g, h1, h2, h3⟩ := h; exact ⟨g, h1, Nat.le_trans k h2, h3⟩

section
variable {ops : Array Oper} {rest : List Oper} {op : Oper} {a : Act} {Q : Exit → Act → World → Prop}
/-- append of one new list onto the list of lists. -/
theorem wpList_more (hgd : op.guard = none) (s x : Operand) (ho : op.op = .call { callee := .builtin .append, args := #[s, x], argTypes := #[27, 27] }) (W0 Wa : World) (N : Nat) (vp v : Value) (ps : List (List (BitVec 8))) (vs : List Value) (pc : List (BitVec 8))
    (hM : Many W0 N vp ps vs) (hn : New W0 N v pc) (hs : a.eval s = vp) (hx : a.eval x = .slice (some ⟨W0.heap.size, 0, none⟩) 1 1) (hk : ps.length ≤ 1000) (hN : N ≤ W0.heap.size) (hb : Below N Wa W0)
    (h : ∀ v' w', Many w' N v' (ps ++ [pc]) (vs ++ [v]) → Below N Wa w' → (∀ b bs, HAt W0 b bs → HAt w' b bs) → wpList Tryd.prog ops Q rest (a.put op.dst v') w') :
    wpList Tryd.prog ops Q (op :: rest) a (W0.alloc (.cells #[v] 22)) := by
  obtain ⟨i, hi0, hz, hsz, hby⟩ := info_parts info_all_slb
  have hk0 : Below W0.heap.size W0 (W0.alloc (.cells #[v] 22)) := (Below.refl _ _).alloc (Nat.le_refl _) _
  have hM1 := hM.below hk0 (Nat.le_refl _)
  have hn1 := hn.below hk0 (Nat.le_refl _)
  have hb1 : Below N Wa (W0.alloc (.cells #[v] 22)) := hb.alloc hN _
  have hr : Row (W0.alloc (.cells #[v] 22)) W0.heap.size [v] 22 := Row.new _ _ _
  have hN1 : N ≤ (W0.alloc (.cells #[v] 22)).heap.size := Nat.le_trans hN hk0.size
  have hcell := hr.all
  generalize hW1 : W0.alloc (.cells #[v] 22) = W1 at *
  refine wpList_append_own _ hgd s x 27 ho N 22 i (.slice none 0 0) 1 24 Tryd.underlying27 hi0 hz hsz hby rfl (by decide) vp ps.length vs hs hM1.own ⟨W0.heap.size, 0, none⟩ 1 1 [v] hx rfl ?_ ?_ (by unfold maxLen; omega) (by omega) hN1 ?_
  · intro j u hj; rw [Addr.add_mid]; exact hcell j u hj
  · intro u hu; rw [List.mem_singleton.1 hu]; exact hn.hid
  · intro v' w' h2 h3 _
    exact h v' w' (hM1.more hn1 h2 h3) (grown_below hM1 hb1 h3 (Nat.le_refl _) hN1) (fun b bs hH => grown_hat hM1 (Row.below hH hk0 (Row.lt hH)) h3)
end

theorem dig_all (d : List (BitVec 8)) : dig d = dbits d (8 * d.length) := by
  rw [dbits_whole d _ (by omega) (by omega), show 8 * d.length / 8 = d.length by omega, List.take_length]
theorem parts_many (ps : List (List (BitVec 8))) (vs : List Value) (d dd : List (BitVec 8)) (hf : ps.flatten = d) (hd : dd = dig d) (hlen : d.length < 1152921504606846976) (hpl : 0 < ps.length ∧ ps.length ≤ 1000) (vp : Value) (N : Nat) (w : World) (hK : Tab w 0) (hM : Many w N vp ps vs) :
    Calls Tryd.prog 14 #[vp] w fun e w' => e = .returned (.agg (vB dd).toArray) ∧ Below w.heap.size w w' := by
  rcases hM.own.2 with ⟨h1, h2⟩ | ⟨g, cap, cur, hv, hg, hh, hc, hm, hs, ht⟩
  · exfalso; omega
  · have hr : Row w g cur.toList 22 := by unfold Row; rw [hh]
    have hra : w.rangeAt g 0 vs := fun j u hj => by
      refine hr.all j u ?_
      rw [← ht] at hj
      have hjl : j < ps.length * 1 := by have := (List.getElem?_eq_some_iff.1 hj).1; rw [List.length_take] at this; omega
      rwa [List.getElem?_take_of_lt hjl] at hj
    rw [hv, hd, ← hf]
    exact parts_any ps vs hM.len g 0 cap (by rw [hf]; exact hlen) (by omega) w hK (fun i hi => (hM.each i hi).slAt) hra

set_option maxRecDepth 100000 in
set_option maxHeartbeats 2000000 in
theorem cuts_walk (d : List (BitVec 8)) (hd : d.length ≤ 140737488351232) (A : Option Addr) (cap : Nat) (zs : List Int) (hzl : zs.length ≤ 140737488351232) (hz : ∀ i, i < zs.length → -9223372036854775808 ≤ zs.getD i 0 ∧ zs.getD i 0 ≤ 9223372036854775807) (A2 : Option Addr) (cap2 : Nat) (w : World) (hK : Tab w 0)
    (hv : SlAt w (.slice A d.length cap) d) (hi : SlI w (.slice A2 zs.length cap2) zs) :
    Calls Tryd.prog 3 #[.slice A d.length cap, .slice A2 zs.length cap2] w fun e w' => e = .returned (.bool true) ∧ Below w.heap.size w w' := by
  go_enter Tryd.func3, Tryd.ntmps3
  go_wp2_with fail
  refine (awake_any _ hK).mono ?_
  rintro e w1 ⟨rfl, hB1⟩
  go_wp2_with fail
  refine (new_any _).mono ?_
  rintro e w2 ⟨ba, rfl, hba, hHa, hB2⟩
  have hBa : Below w.heap.size w w2 := hB1.trans (hB2.mono hB1.size)
  have hna : w.heap.size ≤ ba := Nat.le_trans hB1.size hba
  have hgb : 0 ≠ ba := by have := hK.lt; omega
  clear hB1 hB2 hba
  go_wp2
  go_loopw [7, 8, 9] (fun f p k wr => ∃ (f1 k1 : Nat) (ps : List (List (BitVec 8))) (vs : List Value), f1 ≤ d.length ∧ k1 ≤ 60 ∧ k1 ≤ zs.length ∧ f = .int .i64 f1 ∧ k = .int .i64 k1 ∧ ps.length = k1 ∧ ps.flatten = d.take f1 ∧ HAt wr ba (d.take f1) ∧ Many wr w.heap.size p ps vs ∧ Below w.heap.size w wr)
    (fun _ _ k _ => 60 - (intOf k).toNat)
  case atStart => exact ⟨0, 0, [], [], by omega, by omega, by omega, rfl, rfl, rfl, rfl, hHa, ⟨World.ownsRow_nil _ _ _ _, fun i hi => by simp at hi⟩, hBa⟩
  case round =>
    obtain ⟨f1, k1, ps, vs, hf, hk60, hkz, rfl, rfl, hps, hfl, hA, hM, hW⟩ := hrel
    clear hHa hBa
    have HPS : Hid (ps.length = k1) := hps
    have HFL : Hid (ps.flatten = d.take f1) := hfl
    clear hps hfl
    by_cases hlt : k1 < zs.length
    · by_cases hlt6 : k1 < 60
      · have hzk := hz k1 hlt
        rcases hi with ⟨h0, _⟩ | ⟨ab, ao, c', hiv, hir⟩
        · exfalso; rw [h0] at hlt; simp at hlt
        simp only [Value.slice.injEq] at hiv
        obtain ⟨rfl, _, rfl⟩ := hiv
        have gz : wr.cell? ⟨ab, ao + k1, none⟩ = some (.int .i64 (zs.getD k1 0)) := range_below hir hW (Nat.le_refl _) k1 _ (by simp [hlt])
        generalize zs.getD k1 0 = z at gz hzk
        obtain ⟨hz1, hz2⟩ := hzk
        clear hir hz
        go_wp2_with fail
        rw [show ((d.length : Int) - (f1 : Int) + 1) = ((d.length - f1 + 1 : Nat) : Int) by omega]
        refine (pick_any z (d.length - f1 + 1) hz1 hz2 (by omega) (by omega) _).mono ?_
        rintro e wr ⟨r, hr, rfl, rfl⟩
        obtain ⟨x, hx⟩ : ∃ x : Nat, x = f1 + r := ⟨_, rfl⟩
        have hx1 : f1 ≤ x := by omega
        have hx2 : x ≤ d.length := by omega
        have e1 := take_mid d f1 x hx1
        have E1 : Hid _ := e1
        have hl1 : (d.take f1).length + ((d.drop f1).take (x - f1)).length < 1152921504606846976 := by rw [← List.length_append, e1, List.length_take]; omega
        have L1 : Hid _ := hl1
        have L2 : ((d.drop f1).take (x - f1)).length = x - f1 := by rw [List.length_take, List.length_drop]; omega
        have L2' : Hid _ := L2
        have MX : Hid ((f1 : Int) + (r : Int) = (x : Int)) := by show _ = _; omega
        clear e1 hl1 L2 hz1 hz2 gz hx
        go_wp2_with (first
          | (refine wpList_slice_lh' rfl 22 (.tmp 54) (.tmp 55) (.tmp 56) rfl w 5 A d.length cap d hv f1 x _ _ rfl MX.out rfl rfl rfl hx1 hx2 Tryd.underlying22 info_u8 ?_; intro B1 q1 hS1; simp only [Act.put, List.setIfInBounds_toArray, List.set_cons_zero, List.set_cons_succ]))
        refine (write_old (d.take f1) _ L1.out ba _ w wr (hK.below hW hK.lt) hgb hA hS1 hW hna).mono ?_
        rintro e w5 ⟨rfl, hA5, hBu5⟩
        have hM5 := hM.but hBu5 hA
        have hW5 := But.below hW hBu5 hna hW.size
        rw [E1.out] at hA5
        clear hM hBu5 hA hW hS1
        go_wp2_with (first
          | (refine wpList_slice_lh' rfl 22 (.tmp 60) (.tmp 61) (.tmp 62) rfl w 5 A d.length cap d hv f1 x _ _ rfl MX.out rfl rfl rfl hx1 hx2 Tryd.underlying22 info_u8 ?_; intro B2 q2 hS2; simp only [Act.put, List.setIfInBounds_toArray, List.set_cons_zero, List.set_cons_succ]))
        have hT := twin_any _ (by rw [L2'.out]; omega) B2 q2 w5 (by rw [L2'.out]; exact hS2.below hW5 (Nat.le_refl _))
        rw [L2'.out] at hT
        refine hT.mono ?_
        rintro e w6 ⟨⟨v, rfl, hN6⟩, hB6⟩
        obtain ⟨g6, hv6, hg6, hr6⟩ := hN6.more hW5.size
        rw [L2'.out] at hv6
        subst hv6
        clear hN6
        have hN6 : New w6 w.heap.size (.slice (some ⟨g6, 0, none⟩) (x - f1) (x - f1)) _ := ⟨g6, by rw [L2'.out], hg6, hr6⟩
        clear hg6 hr6
        have hM6 := hM5.below hB6 (Nat.le_refl _)
        have hA6 : HAt w6 ba _ := Row.below hA5 hB6 (Row.lt hA5)
        have hW6 := hW5.trans (hB6.mono hW5.size)
        clear hT hM5 hA5 hW5 hB6 hS2
        go_wp2_with (refine wpList_more rfl (.tmp 59) (.tmp 65) rfl w6 w w.heap.size _ _ ps vs _ hM6 hN6 rfl rfl (by rw [HPS.out]; omega) hW6.size hW6 ?_; intro vp w7 hM7 hW7 hk7; have hA7 := hk7 _ _ hA6; clear hk7; simp only [Act.put, List.setIfInBounds_toArray, List.set_cons_zero, List.set_cons_succ])
        obtain ⟨xa, hxa⟩ : ∃ xa, xa = dig (d.take x) := ⟨_, rfl⟩
        have Hxa : Hid (xa = dig (d.take x)) := hxa
        have Lxa : xa.length = 32 := by rw [hxa]; exact dig_length _
        have Ixa : (Tryd.prog.info? 32).map (·.size) = some (vB xa).toArray.size := by rw [info_dig]; simp [vB_length, Lxa]
        have Jxa : (Tryd.prog.info? 32).map (·.size) = some (vB xa).length := by rw [info_dig, vB_length, Lxa]
        have Oxa := all_oneCell_toArray (vB_one xa)
        have Kxa : Hid (xa.length = 32) := Lxa
        clear hxa Lxa
        have LT : Hid ((d.take x).length < 1152921504606846976) := by show _ < _; rw [List.length_take]; omega
        refine (hsum_d (d.take x) xa Hxa.out LT.out ba w7 (hK.below hW7 hK.lt) hA7).mono ?_
        rintro e v8 ⟨rfl, hC8⟩
        obtain ⟨hS8, R11⟩ := digest_laid xa Kxa.out hC8
        have T8 := digest_there v8 xa Kxa.out
        have hA8 : HAt _ ba _ := Row.below hA7 hS8 (Row.lt hA7)
        have hM8 := hM7.below hS8 (Nat.le_refl _)
        have hW8 := hW7.trans (hS8.mono hW7.size)
        clear hC8 hS8 hA7 hM7 hW7 hA6 hM6 hN6 hW6
        go_wp2_with (first
          | (refine wpList_store_mid rfl 32 (.tmp 11) (.tmp 69) rfl v8.heap.size 0 (vB xa).toArray rfl rfl T8 Ixa Oxa ?_; simp only [Act.put]; (change wpList _ _ _ _ _ (World.setCells (v8.alloc (Obj.cells (vB (List.replicate 32 0#8)).toArray 32)) v8.heap.size 0 (vB xa))); clear T8; (generalize World.setCells (v8.alloc (Obj.cells (vB (List.replicate 32 0#8)).toArray 32)) v8.heap.size 0 (vB xa) = W8 at *); (generalize v8.heap.size = p11 at *); clear v8)
          | (refine wpList_slice_h rfl 22 (.tmp 70) (.tmp 71) rfl w 5 A d.length cap d hv x _ MX.out rfl rfl hx2 Tryd.underlying22 info_u8 ?_; intro B3 q3 hS3; simp only [Act.put, List.setIfInBounds_toArray, List.set_cons_zero, List.set_cons_succ]))
        refine (sum_any (d.take x) xa Hxa.out LT.out _ W8 (hK.below hW8 hK.lt) (hS3.below hW8 (Nat.le_refl _))).mono ?_
        rintro e v9 ⟨rfl, hC9⟩
        obtain ⟨hS9, R12⟩ := digest_laid xa Kxa.out hC9
        have T9 := digest_there v9 xa Kxa.out
        have hA9 : HAt _ ba _ := Row.below hA8 hS9 (Row.lt hA8)
        have hM9 := hM8.below hS9 (Nat.le_refl _)
        have hW9 := hW8.trans (hS9.mono hW8.size)
        replace R11 := Row.below R11 hS9 (Row.lt R11)
        clear hC9 hS9 hA8 hM8 hW8 hS3
        have LL : Hid (((d.take x).length : Int) = (f1 : Int) + (r : Int)) := by show _ = _; rw [MX.out, List.length_take, Nat.min_eq_left hx2]
        go_wp2_with (refine wpList_store_mid rfl 32 (.tmp 12) (.tmp 73) rfl v9.heap.size 0 (vB xa).toArray rfl rfl T9 Ixa Oxa ?_; simp only [Act.put]; (change wpList _ _ _ _ _ (World.setCells (v9.alloc (Obj.cells (vB (List.replicate 32 0#8)).toArray 32)) v9.heap.size 0 (vB xa))); clear T9; (generalize World.setCells (v9.alloc (Obj.cells (vB (List.replicate 32 0#8)).toArray 32)) v9.heap.size 0 (vB xa) = W9 at *); (generalize v9.heap.size = p12 at *); clear v9)
        have hl := len_any (d.take x) ba W9 hA9
        rw [LL.out] at hl
        refine hl.mono ?_
        rintro e W9' ⟨rfl, rfl⟩
        clear hl
        go_wp2_with (first
          | (refine wpList_load_w rfl 32 (.tmp 11) rfl p11 0 rfl (vB xa) _ R11.all Tryd.underlying32 rfl Jxa ?_; simp only [Act.put, List.setIfInBounds_toArray, List.set_cons_zero, List.set_cons_succ])
          | (refine wpList_load_w rfl 32 (.tmp 12) rfl p12 0 rfl (vB xa) _ R12.all Tryd.underlying32 rfl Jxa ?_; simp only [Act.put, List.setIfInBounds_toArray, List.set_cons_zero, List.set_cons_succ])
          | (refine wpList_neq_same rfl 32 (.tmp 76) (.tmp 77) 32 rfl 5 32 xa rfl rfl Tryd.underlying32 Tryd.underlying5 info_u8 Kxa.out guard_dig ?_; simp only [Act.put, List.setIfInBounds_toArray, List.set_cons_zero, List.set_cons_succ]))
        refine ⟨⟨x, k1 + 1, _, _, hx2, by omega, by omega, by rw [MX.out], by go_num, by simp [HPS.out], ?_, hA9, hM9, hW9⟩, by simp [intOf]; omega⟩
        rw [List.flatten_append, HFL.out]
        simp only [List.flatten_cons, List.flatten_nil, List.append_nil]
        exact E1.out
      · rcases hi with ⟨h0, _⟩ | ⟨ab, ao, c', hiv, hir⟩
        · exfalso; rw [h0] at hlt; simp at hlt
        simp only [Value.slice.injEq] at hiv
        obtain ⟨rfl, _, rfl⟩ := hiv
        obtain ⟨xm, hxm⟩ : ∃ xm, xm = dig (d.take f1) := ⟨_, rfl⟩
        have Hxm : Hid (xm = dig (d.take f1)) := hxm
        have Lxm : xm.length = 32 := by rw [hxm]; exact dig_length _
        have Ixm : (Tryd.prog.info? 32).map (·.size) = some (vB xm).toArray.size := by rw [info_dig]; simp [vB_length, Lxm]
        have Jxm : (Tryd.prog.info? 32).map (·.size) = some (vB xm).length := by rw [info_dig, vB_length, Lxm]
        have Oxm := all_oneCell_toArray (vB_one xm)
        have Kxm : Hid (xm.length = 32) := Lxm
        clear hxm Lxm
        obtain ⟨xw, hxw⟩ : ∃ xw, xw = dig (d) := ⟨_, rfl⟩
        have Hxw : Hid (xw = dig (d)) := hxw
        have Lxw : xw.length = 32 := by rw [hxw]; exact dig_length _
        have Ixw : (Tryd.prog.info? 32).map (·.size) = some (vB xw).toArray.size := by rw [info_dig]; simp [vB_length, Lxw]
        have Jxw : (Tryd.prog.info? 32).map (·.size) = some (vB xw).length := by rw [info_dig, vB_length, Lxw]
        have Oxw := all_oneCell_toArray (vB_one xw)
        have Kxw : Hid (xw.length = 32) := Lxw
        clear hxw Lxw
        have LM : Hid ((d.take f1).length < 1152921504606846976) := by show _ < _; rw [List.length_take]; omega
        have LA : Hid ((d.take f1).length + (d.drop f1).length < 1152921504606846976) := by show _ < _; rw [← List.length_append, List.take_append_drop]; omega
        have LD : Hid ((d.drop f1).length = d.length - f1) := List.length_drop
        have LF : Hid (ps.length ≤ 60) := by show _ ≤ _; rw [HPS.out]; exact hk60
        clear hir hz
        go_wp2_with fail
        refine (copy_any (d.take f1) ba wr hA).mono ?_
        rintro e V1 ⟨bc, rfl, hbc, hC1, hB1⟩
        have hac : ba ≠ bc := Nat.ne_of_lt (Nat.lt_of_lt_of_le (Row.lt hA) hbc)
        have hA1 : HAt V1 ba _ := Row.below hA hB1 (Row.lt hA)
        have hM1 := hM.below hB1 (Nat.le_refl _)
        have hW1 := hW.trans (hB1.mono hW.size)
        have hnc : w.heap.size ≤ bc := Nat.le_trans hW.size hbc
        have hgc : 0 ≠ bc := Nat.ne_of_lt (Nat.lt_of_lt_of_le hK.lt hnc)
        clear hA hM hB1 hW hbc
        go_wp2_with (refine wpList_slice_l rfl 22 (.tmp 89) (.tmp 90) rfl w 5 A cap d hv f1 _ rfl rfl rfl hf Tryd.underlying22 info_u8 ?_; intro B1 q1 hS1; simp only [Act.put, List.setIfInBounds_toArray, List.set_cons_zero, List.set_cons_succ])
        refine (write_old (d.take f1) _ LA.out ba _ w V1 (hK.below hW1 hK.lt) hgb hA1 hS1 hW1 hna).mono ?_
        rintro e V2 ⟨rfl, hA2, hU2⟩
        rw [List.take_append_drop] at hA2
        have hC2 : HAt V2 bc _ := Row.but hC1 hU2 (Ne.symm hac)
        have hM2 := hM1.but hU2 hA1
        have hW2 := But.below hW1 hU2 hna hW1.size
        clear hA1 hC1 hM1 hW1 hU2 hS1
        go_wp2_with (refine wpList_slice_l rfl 22 (.tmp 94) (.tmp 95) rfl w 5 A cap d hv f1 _ rfl rfl rfl hf Tryd.underlying22 info_u8 ?_; intro B2 q2 hS2; simp only [Act.put, List.setIfInBounds_toArray, List.set_cons_zero, List.set_cons_succ])
        have hT := twin_any _ (by rw [LD.out]; omega) B2 q2 V2 (by rw [LD.out]; exact hS2.below hW2 (Nat.le_refl _))
        rw [LD.out] at hT
        refine hT.mono ?_
        rintro e V3 ⟨⟨v, rfl, hN3⟩, hB3⟩
        obtain ⟨g3, hv3, hg3, hr3⟩ := hN3.more hW2.size
        rw [LD.out] at hv3
        subst hv3
        clear hN3
        have hN3 : New V3 w.heap.size (.slice (some ⟨g3, 0, none⟩) (d.length - f1) (d.length - f1)) _ := ⟨g3, by rw [LD.out], hg3, hr3⟩
        have hM3 := hM2.below hB3 (Nat.le_refl _)
        have hA3 : HAt V3 ba _ := Row.below hA2 hB3 (Row.lt hA2)
        have hC3 : HAt V3 bc _ := Row.below hC2 hB3 (Row.lt hC2)
        have hW3 := hW2.trans (hB3.mono hW2.size)
        clear hT hM2 hA2 hC2 hW2 hB3 hS2 hg3 hr3
        go_wp2_with (refine wpList_more rfl (.tmp 93) (.tmp 98) rfl V3 w w.heap.size _ _ ps vs _ hM3 hN3 rfl rfl (Nat.le_trans LF.out (by decide)) hW3.size hW3 ?_; intro vp V4 hM4 hW4 hk4; have hA4 := hk4 _ _ hA3; have hC4 := hk4 _ _ hC3; clear hk4; simp only [Act.put, List.setIfInBounds_toArray, List.set_cons_zero, List.set_cons_succ])
        have HPL : Hid (0 < (ps ++ [d.drop f1]).length ∧ (ps ++ [d.drop f1]).length ≤ 1000) := by show _ ∧ _; have := LF.out; simp; omega
        have HPF : Hid ((ps ++ [d.drop f1]).flatten = d) := by
          show _ = _
          rw [List.flatten_append, HFL.out]
          simp
        clear hM3 hN3 hA3 hC3 hW3
        generalize ps ++ [d.drop f1] = ps' at hM4 HPL HPF
        generalize vs ++ [Value.slice (some ⟨g3, 0, none⟩) (d.length - f1) (d.length - f1)] = vs' at hM4
        refine (hsum_d (d.take f1) xm Hxm.out LM.out bc V4 (hK.below hW4 hK.lt) hC4).mono ?_
        rintro e v5 ⟨rfl, hD5⟩
        obtain ⟨hS5, R15⟩ := digest_laid xm Kxm.out hD5
        have T5 := digest_there v5 xm Kxm.out
        have hA5 : HAt _ ba _ := Row.below hA4 hS5 (Row.lt hA4)
        have hC5 : HAt _ bc _ := Row.below hC4 hS5 (Row.lt hC4)
        have hM5 := hM4.below hS5 (Nat.le_refl _)
        have hW5 := hW4.trans (hS5.mono hW4.size)
        clear hD5 hS5 hA4 hC4 hM4 hW4
        go_wp2_with (first
          | (refine wpList_store_mid rfl 32 (.tmp 15) (.tmp 101) rfl v5.heap.size 0 (vB xm).toArray rfl rfl T5 Ixm Oxm ?_; simp only [Act.put]; (change wpList _ _ _ _ _ (World.setCells (v5.alloc (Obj.cells (vB (List.replicate 32 0#8)).toArray 32)) v5.heap.size 0 (vB xm))); clear T5; (generalize World.setCells (v5.alloc (Obj.cells (vB (List.replicate 32 0#8)).toArray 32)) v5.heap.size 0 (vB xm) = V5 at *); (generalize v5.heap.size = p15 at *); clear v5)
          | (refine wpList_slice_l rfl 22 (.tmp 103) (.tmp 104) rfl w 5 A cap d hv f1 _ rfl rfl rfl hf Tryd.underlying22 info_u8 ?_; intro B3 q3 hS3; simp only [Act.put, List.setIfInBounds_toArray, List.set_cons_zero, List.set_cons_succ]))
        refine (write_old (d.take f1) _ LA.out bc _ w V5 (hK.below hW5 hK.lt) hgc hC5 hS3 hW5 hnc).mono ?_
        rintro e V6 ⟨rfl, hC6, hU6⟩
        rw [List.take_append_drop] at hC6
        have hA6 : HAt V6 ba _ := Row.but hA5 hU6 hac
        have hM6 := hM5.but hU6 hC5
        have hW6 := But.below hW5 hU6 hnc hW5.size
        have R15' := Row.but R15 hU6 (Row.ne R15 hC5 (by decide))
        clear R15 hA5 hC5 hM5 hW5 hU6 hS3
        have R15 := R15'
        clear R15'
        go_wp2_with fail
        refine (sum_any d xw Hxw.out (by omega) _ V6 (hK.below hW6 hK.lt) (hv.below hW6 (Nat.le_refl _))).mono ?_
        rintro e v7 ⟨rfl, hD7⟩
        obtain ⟨hS7, R16⟩ := digest_laid xw Kxw.out hD7
        have T7 := digest_there v7 xw Kxw.out
        have hA7 : HAt _ ba _ := Row.below hA6 hS7 (Row.lt hA6)
        have hC7 : HAt _ bc _ := Row.below hC6 hS7 (Row.lt hC6)
        have hM7 := hM6.below hS7 (Nat.le_refl _)
        have hW7 := hW6.trans (hS7.mono hW6.size)
        replace R15 := Row.below R15 hS7 (Row.lt R15)
        clear hD7 hS7 hA6 hC6 hM6 hW6
        go_wp2_with (first
          | (refine wpList_store_mid rfl 32 (.tmp 16) (.tmp 108) rfl v7.heap.size 0 (vB xw).toArray rfl rfl T7 Ixw Oxw ?_; simp only [Act.put]; (change wpList _ _ _ _ _ (World.setCells (v7.alloc (Obj.cells (vB (List.replicate 32 0#8)).toArray 32)) v7.heap.size 0 (vB xw))); clear T7; (generalize World.setCells (v7.alloc (Obj.cells (vB (List.replicate 32 0#8)).toArray 32)) v7.heap.size 0 (vB xw) = V7 at *); (generalize v7.heap.size = p16 at *); clear v7))
        refine (hsum_d d xw Hxw.out (by omega) ba V7 (hK.below hW7 hK.lt) hA7).mono ?_
        rintro e v8 ⟨rfl, hD8⟩
        obtain ⟨hS8, R17⟩ := digest_laid xw Kxw.out hD8
        have T8 := digest_there v8 xw Kxw.out
        have hA8 : HAt _ ba _ := Row.below hA7 hS8 (Row.lt hA7)
        have hC8 : HAt _ bc _ := Row.below hC7 hS8 (Row.lt hC7)
        have hM8 := hM7.below hS8 (Nat.le_refl _)
        have hW8 := hW7.trans (hS8.mono hW7.size)
        replace R15 := Row.below R15 hS8 (Row.lt R15)
        replace R16 := Row.below R16 hS8 (Row.lt R16)
        clear hD8 hS8 hA7 hC7 hM7 hW7
        go_wp2_with (first
          | (refine wpList_store_mid rfl 32 (.tmp 17) (.tmp 110) rfl v8.heap.size 0 (vB xw).toArray rfl rfl T8 Ixw Oxw ?_; simp only [Act.put]; (change wpList _ _ _ _ _ (World.setCells (v8.alloc (Obj.cells (vB (List.replicate 32 0#8)).toArray 32)) v8.heap.size 0 (vB xw))); clear T8; (generalize World.setCells (v8.alloc (Obj.cells (vB (List.replicate 32 0#8)).toArray 32)) v8.heap.size 0 (vB xw) = V8 at *); (generalize v8.heap.size = p17 at *); clear v8))
        refine (hsum_d d xw Hxw.out (by omega) bc V8 (hK.below hW8 hK.lt) hC8).mono ?_
        rintro e v9 ⟨rfl, hD9⟩
        obtain ⟨hS9, R18⟩ := digest_laid xw Kxw.out hD9
        have T9 := digest_there v9 xw Kxw.out
        have hA9 : HAt _ ba _ := Row.below hA8 hS9 (Row.lt hA8)
        have hC9 : HAt _ bc _ := Row.below hC8 hS9 (Row.lt hC8)
        have hM9 := hM8.below hS9 (Nat.le_refl _)
        have hW9 := hW8.trans (hS9.mono hW8.size)
        replace R15 := Row.below R15 hS9 (Row.lt R15)
        replace R16 := Row.below R16 hS9 (Row.lt R16)
        replace R17 := Row.below R17 hS9 (Row.lt R17)
        clear hD9 hS9 hA8 hC8 hM8 hW8
        go_wp2_with (first
          | (refine wpList_store_mid rfl 32 (.tmp 18) (.tmp 112) rfl v9.heap.size 0 (vB xw).toArray rfl rfl T9 Ixw Oxw ?_; simp only [Act.put]; (change wpList _ _ _ _ _ (World.setCells (v9.alloc (Obj.cells (vB (List.replicate 32 0#8)).toArray 32)) v9.heap.size 0 (vB xw))); clear T9; (generalize World.setCells (v9.alloc (Obj.cells (vB (List.replicate 32 0#8)).toArray 32)) v9.heap.size 0 (vB xw) = V9 at *); (generalize v9.heap.size = p18 at *); clear v9))
        refine (parts_many ps' vs' d xw HPF.out Hxw.out (by omega) HPL.out vp w.heap.size V9 (hK.below hW9 hK.lt) hM9).mono ?_
        rintro e v10 ⟨rfl, hD10⟩
        obtain ⟨hS10, R19⟩ := digest_laid xw Kxw.out hD10
        have T10 := digest_there v10 xw Kxw.out
        have hA10 : HAt _ ba _ := Row.below hA9 hS10 (Row.lt hA9)
        have hC10 : HAt _ bc _ := Row.below hC9 hS10 (Row.lt hC9)
        have hM10 := hM9.below hS10 (Nat.le_refl _)
        have hW10 := hW9.trans (hS10.mono hW9.size)
        replace R15 := Row.below R15 hS10 (Row.lt R15)
        replace R16 := Row.below R16 hS10 (Row.lt R16)
        replace R17 := Row.below R17 hS10 (Row.lt R17)
        replace R18 := Row.below R18 hS10 (Row.lt R18)
        clear hD10 hS10 hA9 hC9 hM9 hW9
        go_wp2_with (first
          | (refine wpList_store_mid rfl 32 (.tmp 19) (.tmp 114) rfl v10.heap.size 0 (vB xw).toArray rfl rfl T10 Ixw Oxw ?_; simp only [Act.put]; (change wpList _ _ _ _ _ (World.setCells (v10.alloc (Obj.cells (vB (List.replicate 32 0#8)).toArray 32)) v10.heap.size 0 (vB xw))); clear T10; (generalize World.setCells (v10.alloc (Obj.cells (vB (List.replicate 32 0#8)).toArray 32)) v10.heap.size 0 (vB xw) = V10 at *); (generalize v10.heap.size = p19 at *); clear v10))
        have hbi := bits_ok d xw (by omega) A cap (8 * d.length) (Nat.le_refl _) (by rw [Hxw.out]; exact dig_all d) V10 (hK.below hW10 hK.lt) (hv.below hW10 (Nat.le_refl _))
        rw [show ((8 * d.length : Nat) : Int) = 8 * (d.length : Int) by omega] at hbi
        refine hbi.mono ?_
        clear hbi
        rintro e v11 ⟨rfl, hD11⟩
        obtain ⟨hS11, R20⟩ := digest_laid xw Kxw.out hD11
        have T11 := digest_there v11 xw Kxw.out
        have hA11 : HAt _ ba _ := Row.below hA10 hS11 (Row.lt hA10)
        have hC11 : HAt _ bc _ := Row.below hC10 hS11 (Row.lt hC10)
        have hM11 := hM10.below hS11 (Nat.le_refl _)
        have hW11 := hW10.trans (hS11.mono hW10.size)
        replace R15 := Row.below R15 hS11 (Row.lt R15)
        replace R16 := Row.below R16 hS11 (Row.lt R16)
        replace R17 := Row.below R17 hS11 (Row.lt R17)
        replace R18 := Row.below R18 hS11 (Row.lt R18)
        replace R19 := Row.below R19 hS11 (Row.lt R19)
        clear hD11 hS11 hA10 hC10 hM10 hW10
        go_wp2_with (first
          | (refine wpList_store_mid rfl 32 (.tmp 20) (.tmp 121) rfl v11.heap.size 0 (vB xw).toArray rfl rfl T11 Ixw Oxw ?_; simp only [Act.put]; (change wpList _ _ _ _ _ (World.setCells (v11.alloc (Obj.cells (vB (List.replicate 32 0#8)).toArray 32)) v11.heap.size 0 (vB xw))); clear T11; (generalize World.setCells (v11.alloc (Obj.cells (vB (List.replicate 32 0#8)).toArray 32)) v11.heap.size 0 (vB xw) = V11 at *); (generalize v11.heap.size = p20 at *); clear v11)
          | (refine wpList_slice_h rfl 22 (.tmp 123) (.tmp 124) rfl w 5 A d.length cap d hv f1 _ rfl rfl rfl hf Tryd.underlying22 info_u8 ?_; intro B4 q4 hS4; simp only [Act.put, List.setIfInBounds_toArray, List.set_cons_zero, List.set_cons_succ]))
        refine (sum_any (d.take f1) xm Hxm.out LM.out _ V11 (hK.below hW11 hK.lt) (hS4.below hW11 (Nat.le_refl _))).mono ?_
        rintro e v12 ⟨rfl, hD12⟩
        obtain ⟨hS12, R22⟩ := digest_laid xm Kxm.out hD12
        have T12 := digest_there v12 xm Kxm.out
        have hA12 : HAt _ ba _ := Row.below hA11 hS12 (Row.lt hA11)
        have hC12 : HAt _ bc _ := Row.below hC11 hS12 (Row.lt hC11)
        have hM12 := hM11.below hS12 (Nat.le_refl _)
        have hW12 := hW11.trans (hS12.mono hW11.size)
        replace R15 := Row.below R15 hS12 (Row.lt R15)
        replace R16 := Row.below R16 hS12 (Row.lt R16)
        replace R17 := Row.below R17 hS12 (Row.lt R17)
        replace R18 := Row.below R18 hS12 (Row.lt R18)
        replace R19 := Row.below R19 hS12 (Row.lt R19)
        replace R20 := Row.below R20 hS12 (Row.lt R20)
        clear hD12 hS12 hA11 hC11 hM11 hW11
        go_wp2_with (first
          | (refine wpList_store_mid rfl 32 (.tmp 22) (.tmp 126) rfl v12.heap.size 0 (vB xm).toArray rfl rfl T12 Ixm Oxm ?_; simp only [Act.put]; (change wpList _ _ _ _ _ (World.setCells (v12.alloc (Obj.cells (vB (List.replicate 32 0#8)).toArray 32)) v12.heap.size 0 (vB xm))); clear T12; (generalize World.setCells (v12.alloc (Obj.cells (vB (List.replicate 32 0#8)).toArray 32)) v12.heap.size 0 (vB xm) = V12 at *); (generalize v12.heap.size = p22 at *); clear v12)
          | (refine wpList_load_w rfl 32 (.tmp 15) rfl p15 0 rfl (vB xm) _ R15.all Tryd.underlying32 rfl Jxm ?_; simp only [Act.put, List.setIfInBounds_toArray, List.set_cons_zero, List.set_cons_succ])
          | (refine wpList_load_w rfl 32 (.tmp 16) rfl p16 0 rfl (vB xw) _ R16.all Tryd.underlying32 rfl Jxw ?_; simp only [Act.put, List.setIfInBounds_toArray, List.set_cons_zero, List.set_cons_succ])
          | (refine wpList_load_w rfl 32 (.tmp 17) rfl p17 0 rfl (vB xw) _ R17.all Tryd.underlying32 rfl Jxw ?_; simp only [Act.put, List.setIfInBounds_toArray, List.set_cons_zero, List.set_cons_succ])
          | (refine wpList_load_w rfl 32 (.tmp 18) rfl p18 0 rfl (vB xw) _ R18.all Tryd.underlying32 rfl Jxw ?_; simp only [Act.put, List.setIfInBounds_toArray, List.set_cons_zero, List.set_cons_succ])
          | (refine wpList_load_w rfl 32 (.tmp 19) rfl p19 0 rfl (vB xw) _ R19.all Tryd.underlying32 rfl Jxw ?_; simp only [Act.put, List.setIfInBounds_toArray, List.set_cons_zero, List.set_cons_succ])
          | (refine wpList_load_w rfl 32 (.tmp 20) rfl p20 0 rfl (vB xw) _ R20.all Tryd.underlying32 rfl Jxw ?_; simp only [Act.put, List.setIfInBounds_toArray, List.set_cons_zero, List.set_cons_succ])
          | (refine wpList_load_w rfl 32 (.tmp 22) rfl p22 0 rfl (vB xm) _ R22.all Tryd.underlying32 rfl Jxm ?_; simp only [Act.put, List.setIfInBounds_toArray, List.set_cons_zero, List.set_cons_succ])
          | (refine wpList_eql_same rfl 32 (.tmp 127) (.tmp 128) 32 rfl 5 32 xw rfl rfl Tryd.underlying32 Tryd.underlying5 info_u8 Kxw.out guard_dig ?_; simp only [Act.put, List.setIfInBounds_toArray, List.set_cons_zero, List.set_cons_succ])
          | (refine wpList_eql_same rfl 32 (.tmp 131) (.tmp 132) 32 rfl 5 32 xw rfl rfl Tryd.underlying32 Tryd.underlying5 info_u8 Kxw.out guard_dig ?_; simp only [Act.put, List.setIfInBounds_toArray, List.set_cons_zero, List.set_cons_succ])
          | (refine wpList_eql_same rfl 32 (.tmp 136) (.tmp 137) 32 rfl 5 32 xw rfl rfl Tryd.underlying32 Tryd.underlying5 info_u8 Kxw.out guard_dig ?_; simp only [Act.put, List.setIfInBounds_toArray, List.set_cons_zero, List.set_cons_succ])
          | (refine wpList_eql_same rfl 32 (.tmp 141) (.tmp 142) 32 rfl 5 32 xw rfl rfl Tryd.underlying32 Tryd.underlying5 info_u8 Kxw.out guard_dig ?_; simp only [Act.put, List.setIfInBounds_toArray, List.set_cons_zero, List.set_cons_succ])
          | (refine wpList_eql_same rfl 32 (.tmp 150) (.tmp 151) 32 rfl 5 32 xm rfl rfl Tryd.underlying32 Tryd.underlying5 info_u8 Kxm.out guard_dig ?_; simp only [Act.put, List.setIfInBounds_toArray, List.set_cons_zero, List.set_cons_succ]))
        go_ret
        exact ⟨rfl, hW12⟩
    · clear hi
      obtain ⟨xm, hxm⟩ : ∃ xm, xm = dig (d.take f1) := ⟨_, rfl⟩
      have Hxm : Hid (xm = dig (d.take f1)) := hxm
      have Lxm : xm.length = 32 := by rw [hxm]; exact dig_length _
      have Ixm : (Tryd.prog.info? 32).map (·.size) = some (vB xm).toArray.size := by rw [info_dig]; simp [vB_length, Lxm]
      have Jxm : (Tryd.prog.info? 32).map (·.size) = some (vB xm).length := by rw [info_dig, vB_length, Lxm]
      have Oxm := all_oneCell_toArray (vB_one xm)
      have Kxm : Hid (xm.length = 32) := Lxm
      clear hxm Lxm
      obtain ⟨xw, hxw⟩ : ∃ xw, xw = dig (d) := ⟨_, rfl⟩
      have Hxw : Hid (xw = dig (d)) := hxw
      have Lxw : xw.length = 32 := by rw [hxw]; exact dig_length _
      have Ixw : (Tryd.prog.info? 32).map (·.size) = some (vB xw).toArray.size := by rw [info_dig]; simp [vB_length, Lxw]
      have Jxw : (Tryd.prog.info? 32).map (·.size) = some (vB xw).length := by rw [info_dig, vB_length, Lxw]
      have Oxw := all_oneCell_toArray (vB_one xw)
      have Kxw : Hid (xw.length = 32) := Lxw
      clear hxw Lxw
      have LM : Hid ((d.take f1).length < 1152921504606846976) := by show _ < _; rw [List.length_take]; omega
      have LA : Hid ((d.take f1).length + (d.drop f1).length < 1152921504606846976) := by show _ < _; rw [← List.length_append, List.take_append_drop]; omega
      have LD : Hid ((d.drop f1).length = d.length - f1) := List.length_drop
      have LF : Hid (ps.length ≤ 60) := by show _ ≤ _; rw [HPS.out]; exact hk60
      clear hz
      go_wp2_with fail
      refine (copy_any (d.take f1) ba wr hA).mono ?_
      rintro e V1 ⟨bc, rfl, hbc, hC1, hB1⟩
      have hac : ba ≠ bc := Nat.ne_of_lt (Nat.lt_of_lt_of_le (Row.lt hA) hbc)
      have hA1 : HAt V1 ba _ := Row.below hA hB1 (Row.lt hA)
      have hM1 := hM.below hB1 (Nat.le_refl _)
      have hW1 := hW.trans (hB1.mono hW.size)
      have hnc : w.heap.size ≤ bc := Nat.le_trans hW.size hbc
      have hgc : 0 ≠ bc := Nat.ne_of_lt (Nat.lt_of_lt_of_le hK.lt hnc)
      clear hA hM hB1 hW hbc
      go_wp2_with (refine wpList_slice_l rfl 22 (.tmp 89) (.tmp 90) rfl w 5 A cap d hv f1 _ rfl rfl rfl hf Tryd.underlying22 info_u8 ?_; intro B1 q1 hS1; simp only [Act.put, List.setIfInBounds_toArray, List.set_cons_zero, List.set_cons_succ])
      refine (write_old (d.take f1) _ LA.out ba _ w V1 (hK.below hW1 hK.lt) hgb hA1 hS1 hW1 hna).mono ?_
      rintro e V2 ⟨rfl, hA2, hU2⟩
      rw [List.take_append_drop] at hA2
      have hC2 : HAt V2 bc _ := Row.but hC1 hU2 (Ne.symm hac)
      have hM2 := hM1.but hU2 hA1
      have hW2 := But.below hW1 hU2 hna hW1.size
      clear hA1 hC1 hM1 hW1 hU2 hS1
      go_wp2_with (refine wpList_slice_l rfl 22 (.tmp 94) (.tmp 95) rfl w 5 A cap d hv f1 _ rfl rfl rfl hf Tryd.underlying22 info_u8 ?_; intro B2 q2 hS2; simp only [Act.put, List.setIfInBounds_toArray, List.set_cons_zero, List.set_cons_succ])
      have hT := twin_any _ (by rw [LD.out]; omega) B2 q2 V2 (by rw [LD.out]; exact hS2.below hW2 (Nat.le_refl _))
      rw [LD.out] at hT
      refine hT.mono ?_
      rintro e V3 ⟨⟨v, rfl, hN3⟩, hB3⟩
      obtain ⟨g3, hv3, hg3, hr3⟩ := hN3.more hW2.size
      rw [LD.out] at hv3
      subst hv3
      clear hN3
      have hN3 : New V3 w.heap.size (.slice (some ⟨g3, 0, none⟩) (d.length - f1) (d.length - f1)) _ := ⟨g3, by rw [LD.out], hg3, hr3⟩
      have hM3 := hM2.below hB3 (Nat.le_refl _)
      have hA3 : HAt V3 ba _ := Row.below hA2 hB3 (Row.lt hA2)
      have hC3 : HAt V3 bc _ := Row.below hC2 hB3 (Row.lt hC2)
      have hW3 := hW2.trans (hB3.mono hW2.size)
      clear hT hM2 hA2 hC2 hW2 hB3 hS2 hg3 hr3
      go_wp2_with (refine wpList_more rfl (.tmp 93) (.tmp 98) rfl V3 w w.heap.size _ _ ps vs _ hM3 hN3 rfl rfl (Nat.le_trans LF.out (by decide)) hW3.size hW3 ?_; intro vp V4 hM4 hW4 hk4; have hA4 := hk4 _ _ hA3; have hC4 := hk4 _ _ hC3; clear hk4; simp only [Act.put, List.setIfInBounds_toArray, List.set_cons_zero, List.set_cons_succ])
      have HPL : Hid (0 < (ps ++ [d.drop f1]).length ∧ (ps ++ [d.drop f1]).length ≤ 1000) := by show _ ∧ _; have := LF.out; simp; omega
      have HPF : Hid ((ps ++ [d.drop f1]).flatten = d) := by
        show _ = _
        rw [List.flatten_append, HFL.out]
        simp
      clear hM3 hN3 hA3 hC3 hW3
      generalize ps ++ [d.drop f1] = ps' at hM4 HPL HPF
      generalize vs ++ [Value.slice (some ⟨g3, 0, none⟩) (d.length - f1) (d.length - f1)] = vs' at hM4
      refine (hsum_d (d.take f1) xm Hxm.out LM.out bc V4 (hK.below hW4 hK.lt) hC4).mono ?_
      rintro e v5 ⟨rfl, hD5⟩
      obtain ⟨hS5, R15⟩ := digest_laid xm Kxm.out hD5
      have T5 := digest_there v5 xm Kxm.out
      have hA5 : HAt _ ba _ := Row.below hA4 hS5 (Row.lt hA4)
      have hC5 : HAt _ bc _ := Row.below hC4 hS5 (Row.lt hC4)
      have hM5 := hM4.below hS5 (Nat.le_refl _)
      have hW5 := hW4.trans (hS5.mono hW4.size)
      clear hD5 hS5 hA4 hC4 hM4 hW4
      go_wp2_with (first
        | (refine wpList_store_mid rfl 32 (.tmp 15) (.tmp 101) rfl v5.heap.size 0 (vB xm).toArray rfl rfl T5 Ixm Oxm ?_; simp only [Act.put]; (change wpList _ _ _ _ _ (World.setCells (v5.alloc (Obj.cells (vB (List.replicate 32 0#8)).toArray 32)) v5.heap.size 0 (vB xm))); clear T5; (generalize World.setCells (v5.alloc (Obj.cells (vB (List.replicate 32 0#8)).toArray 32)) v5.heap.size 0 (vB xm) = V5 at *); (generalize v5.heap.size = p15 at *); clear v5)
        | (refine wpList_slice_l rfl 22 (.tmp 103) (.tmp 104) rfl w 5 A cap d hv f1 _ rfl rfl rfl hf Tryd.underlying22 info_u8 ?_; intro B3 q3 hS3; simp only [Act.put, List.setIfInBounds_toArray, List.set_cons_zero, List.set_cons_succ]))
      refine (write_old (d.take f1) _ LA.out bc _ w V5 (hK.below hW5 hK.lt) hgc hC5 hS3 hW5 hnc).mono ?_
      rintro e V6 ⟨rfl, hC6, hU6⟩
      rw [List.take_append_drop] at hC6
      have hA6 : HAt V6 ba _ := Row.but hA5 hU6 hac
      have hM6 := hM5.but hU6 hC5
      have hW6 := But.below hW5 hU6 hnc hW5.size
      have R15' := Row.but R15 hU6 (Row.ne R15 hC5 (by decide))
      clear R15 hA5 hC5 hM5 hW5 hU6 hS3
      have R15 := R15'
      clear R15'
      go_wp2_with fail
      refine (sum_any d xw Hxw.out (by omega) _ V6 (hK.below hW6 hK.lt) (hv.below hW6 (Nat.le_refl _))).mono ?_
      rintro e v7 ⟨rfl, hD7⟩
      obtain ⟨hS7, R16⟩ := digest_laid xw Kxw.out hD7
      have T7 := digest_there v7 xw Kxw.out
      have hA7 : HAt _ ba _ := Row.below hA6 hS7 (Row.lt hA6)
      have hC7 : HAt _ bc _ := Row.below hC6 hS7 (Row.lt hC6)
      have hM7 := hM6.below hS7 (Nat.le_refl _)
      have hW7 := hW6.trans (hS7.mono hW6.size)
      replace R15 := Row.below R15 hS7 (Row.lt R15)
      clear hD7 hS7 hA6 hC6 hM6 hW6
      go_wp2_with (first
        | (refine wpList_store_mid rfl 32 (.tmp 16) (.tmp 108) rfl v7.heap.size 0 (vB xw).toArray rfl rfl T7 Ixw Oxw ?_; simp only [Act.put]; (change wpList _ _ _ _ _ (World.setCells (v7.alloc (Obj.cells (vB (List.replicate 32 0#8)).toArray 32)) v7.heap.size 0 (vB xw))); clear T7; (generalize World.setCells (v7.alloc (Obj.cells (vB (List.replicate 32 0#8)).toArray 32)) v7.heap.size 0 (vB xw) = V7 at *); (generalize v7.heap.size = p16 at *); clear v7))
      refine (hsum_d d xw Hxw.out (by omega) ba V7 (hK.below hW7 hK.lt) hA7).mono ?_
      rintro e v8 ⟨rfl, hD8⟩
      obtain ⟨hS8, R17⟩ := digest_laid xw Kxw.out hD8
      have T8 := digest_there v8 xw Kxw.out
      have hA8 : HAt _ ba _ := Row.below hA7 hS8 (Row.lt hA7)
      have hC8 : HAt _ bc _ := Row.below hC7 hS8 (Row.lt hC7)
      have hM8 := hM7.below hS8 (Nat.le_refl _)
      have hW8 := hW7.trans (hS8.mono hW7.size)
      replace R15 := Row.below R15 hS8 (Row.lt R15)
      replace R16 := Row.below R16 hS8 (Row.lt R16)
      clear hD8 hS8 hA7 hC7 hM7 hW7
      go_wp2_with (first
        | (refine wpList_store_mid rfl 32 (.tmp 17) (.tmp 110) rfl v8.heap.size 0 (vB xw).toArray rfl rfl T8 Ixw Oxw ?_; simp only [Act.put]; (change wpList _ _ _ _ _ (World.setCells (v8.alloc (Obj.cells (vB (List.replicate 32 0#8)).toArray 32)) v8.heap.size 0 (vB xw))); clear T8; (generalize World.setCells (v8.alloc (Obj.cells (vB (List.replicate 32 0#8)).toArray 32)) v8.heap.size 0 (vB xw) = V8 at *); (generalize v8.heap.size = p17 at *); clear v8))
      refine (hsum_d d xw Hxw.out (by omega) bc V8 (hK.below hW8 hK.lt) hC8).mono ?_
      rintro e v9 ⟨rfl, hD9⟩
      obtain ⟨hS9, R18⟩ := digest_laid xw Kxw.out hD9
      have T9 := digest_there v9 xw Kxw.out
      have hA9 : HAt _ ba _ := Row.below hA8 hS9 (Row.lt hA8)
      have hC9 : HAt _ bc _ := Row.below hC8 hS9 (Row.lt hC8)
      have hM9 := hM8.below hS9 (Nat.le_refl _)
      have hW9 := hW8.trans (hS9.mono hW8.size)
      replace R15 := Row.below R15 hS9 (Row.lt R15)
      replace R16 := Row.below R16 hS9 (Row.lt R16)
      replace R17 := Row.below R17 hS9 (Row.lt R17)
      clear hD9 hS9 hA8 hC8 hM8 hW8
      go_wp2_with (first
        | (refine wpList_store_mid rfl 32 (.tmp 18) (.tmp 112) rfl v9.heap.size 0 (vB xw).toArray rfl rfl T9 Ixw Oxw ?_; simp only [Act.put]; (change wpList _ _ _ _ _ (World.setCells (v9.alloc (Obj.cells (vB (List.replicate 32 0#8)).toArray 32)) v9.heap.size 0 (vB xw))); clear T9; (generalize World.setCells (v9.alloc (Obj.cells (vB (List.replicate 32 0#8)).toArray 32)) v9.heap.size 0 (vB xw) = V9 at *); (generalize v9.heap.size = p18 at *); clear v9))
      refine (parts_many ps' vs' d xw HPF.out Hxw.out (by omega) HPL.out vp w.heap.size V9 (hK.below hW9 hK.lt) hM9).mono ?_
      rintro e v10 ⟨rfl, hD10⟩
      obtain ⟨hS10, R19⟩ := digest_laid xw Kxw.out hD10
      have T10 := digest_there v10 xw Kxw.out
      have hA10 : HAt _ ba _ := Row.below hA9 hS10 (Row.lt hA9)
      have hC10 : HAt _ bc _ := Row.below hC9 hS10 (Row.lt hC9)
      have hM10 := hM9.below hS10 (Nat.le_refl _)
      have hW10 := hW9.trans (hS10.mono hW9.size)
      replace R15 := Row.below R15 hS10 (Row.lt R15)
      replace R16 := Row.below R16 hS10 (Row.lt R16)
      replace R17 := Row.below R17 hS10 (Row.lt R17)
      replace R18 := Row.below R18 hS10 (Row.lt R18)
      clear hD10 hS10 hA9 hC9 hM9 hW9
      go_wp2_with (first
        | (refine wpList_store_mid rfl 32 (.tmp 19) (.tmp 114) rfl v10.heap.size 0 (vB xw).toArray rfl rfl T10 Ixw Oxw ?_; simp only [Act.put]; (change wpList _ _ _ _ _ (World.setCells (v10.alloc (Obj.cells (vB (List.replicate 32 0#8)).toArray 32)) v10.heap.size 0 (vB xw))); clear T10; (generalize World.setCells (v10.alloc (Obj.cells (vB (List.replicate 32 0#8)).toArray 32)) v10.heap.size 0 (vB xw) = V10 at *); (generalize v10.heap.size = p19 at *); clear v10))
      have hbi := bits_ok d xw (by omega) A cap (8 * d.length) (Nat.le_refl _) (by rw [Hxw.out]; exact dig_all d) V10 (hK.below hW10 hK.lt) (hv.below hW10 (Nat.le_refl _))
      rw [show ((8 * d.length : Nat) : Int) = 8 * (d.length : Int) by omega] at hbi
      refine hbi.mono ?_
      clear hbi
      rintro e v11 ⟨rfl, hD11⟩
      obtain ⟨hS11, R20⟩ := digest_laid xw Kxw.out hD11
      have T11 := digest_there v11 xw Kxw.out
      have hA11 : HAt _ ba _ := Row.below hA10 hS11 (Row.lt hA10)
      have hC11 : HAt _ bc _ := Row.below hC10 hS11 (Row.lt hC10)
      have hM11 := hM10.below hS11 (Nat.le_refl _)
      have hW11 := hW10.trans (hS11.mono hW10.size)
      replace R15 := Row.below R15 hS11 (Row.lt R15)
      replace R16 := Row.below R16 hS11 (Row.lt R16)
      replace R17 := Row.below R17 hS11 (Row.lt R17)
      replace R18 := Row.below R18 hS11 (Row.lt R18)
      replace R19 := Row.below R19 hS11 (Row.lt R19)
      clear hD11 hS11 hA10 hC10 hM10 hW10
      go_wp2_with (first
        | (refine wpList_store_mid rfl 32 (.tmp 20) (.tmp 121) rfl v11.heap.size 0 (vB xw).toArray rfl rfl T11 Ixw Oxw ?_; simp only [Act.put]; (change wpList _ _ _ _ _ (World.setCells (v11.alloc (Obj.cells (vB (List.replicate 32 0#8)).toArray 32)) v11.heap.size 0 (vB xw))); clear T11; (generalize World.setCells (v11.alloc (Obj.cells (vB (List.replicate 32 0#8)).toArray 32)) v11.heap.size 0 (vB xw) = V11 at *); (generalize v11.heap.size = p20 at *); clear v11)
        | (refine wpList_slice_h rfl 22 (.tmp 123) (.tmp 124) rfl w 5 A d.length cap d hv f1 _ rfl rfl rfl hf Tryd.underlying22 info_u8 ?_; intro B4 q4 hS4; simp only [Act.put, List.setIfInBounds_toArray, List.set_cons_zero, List.set_cons_succ]))
      refine (sum_any (d.take f1) xm Hxm.out LM.out _ V11 (hK.below hW11 hK.lt) (hS4.below hW11 (Nat.le_refl _))).mono ?_
      rintro e v12 ⟨rfl, hD12⟩
      obtain ⟨hS12, R22⟩ := digest_laid xm Kxm.out hD12
      have T12 := digest_there v12 xm Kxm.out
      have hA12 : HAt _ ba _ := Row.below hA11 hS12 (Row.lt hA11)
      have hC12 : HAt _ bc _ := Row.below hC11 hS12 (Row.lt hC11)
      have hM12 := hM11.below hS12 (Nat.le_refl _)
      have hW12 := hW11.trans (hS12.mono hW11.size)
      replace R15 := Row.below R15 hS12 (Row.lt R15)
      replace R16 := Row.below R16 hS12 (Row.lt R16)
      replace R17 := Row.below R17 hS12 (Row.lt R17)
      replace R18 := Row.below R18 hS12 (Row.lt R18)
      replace R19 := Row.below R19 hS12 (Row.lt R19)
      replace R20 := Row.below R20 hS12 (Row.lt R20)
      clear hD12 hS12 hA11 hC11 hM11 hW11
      go_wp2_with (first
        | (refine wpList_store_mid rfl 32 (.tmp 22) (.tmp 126) rfl v12.heap.size 0 (vB xm).toArray rfl rfl T12 Ixm Oxm ?_; simp only [Act.put]; (change wpList _ _ _ _ _ (World.setCells (v12.alloc (Obj.cells (vB (List.replicate 32 0#8)).toArray 32)) v12.heap.size 0 (vB xm))); clear T12; (generalize World.setCells (v12.alloc (Obj.cells (vB (List.replicate 32 0#8)).toArray 32)) v12.heap.size 0 (vB xm) = V12 at *); (generalize v12.heap.size = p22 at *); clear v12)
        | (refine wpList_load_w rfl 32 (.tmp 15) rfl p15 0 rfl (vB xm) _ R15.all Tryd.underlying32 rfl Jxm ?_; simp only [Act.put, List.setIfInBounds_toArray, List.set_cons_zero, List.set_cons_succ])
        | (refine wpList_load_w rfl 32 (.tmp 16) rfl p16 0 rfl (vB xw) _ R16.all Tryd.underlying32 rfl Jxw ?_; simp only [Act.put, List.setIfInBounds_toArray, List.set_cons_zero, List.set_cons_succ])
        | (refine wpList_load_w rfl 32 (.tmp 17) rfl p17 0 rfl (vB xw) _ R17.all Tryd.underlying32 rfl Jxw ?_; simp only [Act.put, List.setIfInBounds_toArray, List.set_cons_zero, List.set_cons_succ])
        | (refine wpList_load_w rfl 32 (.tmp 18) rfl p18 0 rfl (vB xw) _ R18.all Tryd.underlying32 rfl Jxw ?_; simp only [Act.put, List.setIfInBounds_toArray, List.set_cons_zero, List.set_cons_succ])
        | (refine wpList_load_w rfl 32 (.tmp 19) rfl p19 0 rfl (vB xw) _ R19.all Tryd.underlying32 rfl Jxw ?_; simp only [Act.put, List.setIfInBounds_toArray, List.set_cons_zero, List.set_cons_succ])
        | (refine wpList_load_w rfl 32 (.tmp 20) rfl p20 0 rfl (vB xw) _ R20.all Tryd.underlying32 rfl Jxw ?_; simp only [Act.put, List.setIfInBounds_toArray, List.set_cons_zero, List.set_cons_succ])
        | (refine wpList_load_w rfl 32 (.tmp 22) rfl p22 0 rfl (vB xm) _ R22.all Tryd.underlying32 rfl Jxm ?_; simp only [Act.put, List.setIfInBounds_toArray, List.set_cons_zero, List.set_cons_succ])
        | (refine wpList_eql_same rfl 32 (.tmp 127) (.tmp 128) 32 rfl 5 32 xw rfl rfl Tryd.underlying32 Tryd.underlying5 info_u8 Kxw.out guard_dig ?_; simp only [Act.put, List.setIfInBounds_toArray, List.set_cons_zero, List.set_cons_succ])
        | (refine wpList_eql_same rfl 32 (.tmp 131) (.tmp 132) 32 rfl 5 32 xw rfl rfl Tryd.underlying32 Tryd.underlying5 info_u8 Kxw.out guard_dig ?_; simp only [Act.put, List.setIfInBounds_toArray, List.set_cons_zero, List.set_cons_succ])
        | (refine wpList_eql_same rfl 32 (.tmp 136) (.tmp 137) 32 rfl 5 32 xw rfl rfl Tryd.underlying32 Tryd.underlying5 info_u8 Kxw.out guard_dig ?_; simp only [Act.put, List.setIfInBounds_toArray, List.set_cons_zero, List.set_cons_succ])
        | (refine wpList_eql_same rfl 32 (.tmp 141) (.tmp 142) 32 rfl 5 32 xw rfl rfl Tryd.underlying32 Tryd.underlying5 info_u8 Kxw.out guard_dig ?_; simp only [Act.put, List.setIfInBounds_toArray, List.set_cons_zero, List.set_cons_succ])
        | (refine wpList_eql_same rfl 32 (.tmp 150) (.tmp 151) 32 rfl 5 32 xm rfl rfl Tryd.underlying32 Tryd.underlying5 info_u8 Kxm.out guard_dig ?_; simp only [Act.put, List.setIfInBounds_toArray, List.set_cons_zero, List.set_cons_succ]))
      go_ret
      exact ⟨rfl, hW12⟩

end Go.Proofs.YtihigbkanbabeabDoor
