/-
  the law's run, whatever the play.
-/
import Derived.Test.YtabcglakdlkdcaaMkDc
import Derived.Test.YtabcglakdlkdcaaMkFj

namespace Go.Proofs.Ytabcglakdlkdcaa
open Go Go.RowKit
open Sha
open Wd

abbrev Rz (rv0 rv1 rv2 rv3 rv4 : Int) : List Value := [.int .u64 rv0, .int .u64 rv1, .int .u64 rv2, .int .u64 rv3, .int .i64 rv4]
section
variable {o : Oper} {a : Act} {w : World} {K : Act → World → Prop} {Q : Exit → Act → World → Prop}
end
end Go.Proofs.Ytabcglakdlkdcaa

namespace Go.Proofs.Ytabcglakdlkdcaa
open Go Go.RowKit
open Sha
open Wd

/-- A list that came in, wherever it lies. -/
def Sin (w : World) (s : Nat) (A : Option Addr) (n c : Nat) (xs : List Value) : Prop := (n = 0 ∧ xs = [] ∧ (A = none → c = 0)) ∨ ∃ g o, A = some ⟨g, o, none⟩ ∧ xs.length = n * s ∧ w.rangeAt g o xs
theorem Sin.be {w X : World} {s n c : Nat} {A : Option Addr} {xs : List Value} (h : Sin w s A n c xs) (k : Below w.heap.size w X) : Sin X s A n c xs := by
  rcases h with h | ⟨g, o, h1, h2, h3⟩
  · exact .inl h
  · exact .inr ⟨g, o, h1, h2, range_be h3 k⟩
theorem vB_mem (d : List (BitVec 8)) : ∀ u ∈ vB d, u.oneCell' = true := fun u hu => by
  obtain ⟨x, _, rfl⟩ := List.mem_map.1 hu
  rfl
theorem run_appE (w : World) (t e : TypeId) (sz bt : Nat) (hu : Try.prog.underlying t = some (.slice e)) (hi : ∃ ie z, Try.prog.info? e = some ie ∧ ie.zero = some z ∧ ie.size = sz ∧ ie.bytes = bt ∧ z.cells.size = sz) (h0 : 0 < sz) (ty : TypeId) (g : Nat) (r : Row w g [] e) (A : Option Addr) (n c : Nat) (xs : List Value) (hx : Sin w sz A n c xs) (hk : n ≤ maxLen) (hb : n * bt ≤ 140737488355328) :
    ∃ g' c' w', (Builtin.append_ #[t, t] ty #[.slice (some ⟨g, 0, none⟩) 0 0, .slice A n c]).run Try.prog w = .ok (.slice (some ⟨g', 0, none⟩) n c') w' ∧ Lw w' e sz (.slice (some ⟨g', 0, none⟩) n c') n xs ∧ n ≤ c' ∧ Below w.heap.size w w' ∧ (g' = g ∨ w.heap.size ≤ g') := by
  obtain ⟨ie, z, i1, i2, i3, i5, i4⟩ := hi
  have zero : ∀ (A : Option Addr) (c : Nat), (A = none → c = 0) → (Builtin.append_ #[t, t] ty #[.slice (some ⟨g, 0, none⟩) 0 0, .slice A 0 c]).run Try.prog w = .ok (.slice (some ⟨g, 0, none⟩) 0 0) w := fun A c hc => by
    cases A with
    | none =>
      obtain rfl := hc rfl
      exact run_append_owned_none (P := Try.prog) (w := w) 0 t ty e ie sz hu i1 (.slice (some ⟨g, 0, none⟩) 0 0) 0 [] (row_lw sz r)
    | some a =>
      have hs : ∀ W, (sizeOf e).run Try.prog W = .ok ie.size W := fun W => by simp [sizeOf, typeInfo, i1]
      simp [Builtin.append_, run_underlying hu, hs, Builtin.lenOf, Builtin.firstCells, storeCells, loadCells, loadCellsFrom]
  rcases hx with ⟨rfl, rfl, hc⟩ | ⟨g2, o2, rfl, hl, hr⟩
  · exact ⟨g, 0, w, zero A c hc, row_lw sz r, Nat.le_refl _, Below.refl _ _, .inl rfl⟩
  · by_cases hn : n = 0
    · subst hn
      obtain rfl : xs = [] := List.eq_nil_of_length_eq_zero (by rw [hl, Nat.zero_mul])
      exact ⟨g, 0, w, zero _ c (fun h => by cases h), row_lw sz r, Nat.le_refl _, Below.refl _ _, .inl rfl⟩
    · obtain ⟨v', w', hrun, r1, r2⟩ := run_append_arg_grows (P := Try.prog) w t ty e ie z sz bt hu i1 i2 i3 i5 i4 h0 ⟨g, 0, none⟩ 0 0 [] (by simp) (fun j u hj => by cases hj) ⟨g2, o2, none⟩ n c xs hl (fun j u hj => by rw [Addr.add_mid]; exact hr j u hj) (by omega) (by omega) (by rw [Nat.zero_add]; exact hb)
      rw [Nat.zero_add, List.nil_append] at r1
      obtain ⟨q1, q2⟩ := r1
      rcases q2 with ⟨_, q3⟩ | ⟨g', cap', cur, q3, q0, q4, q5, q6, q7, q8⟩
      · exact absurd q3 hn
      · subst q3
        exact ⟨g', cap', w', hrun, ⟨q1, .inr ⟨g', cap', cur, rfl, Nat.zero_le _, q4, q5, q6, q7, q8⟩⟩, q5, (Below.refl _ _).grown r2 (Nat.le_refl _) (fun k e => by cases e), .inr q0⟩
section
variable {ops : Array Oper} {rest : List Oper} {op : Oper} {o : Oper} {a : Act} {w : World} {K : Act → World → Prop} {Q : Exit → Act → World → Prop}
theorem wp_appE (t e : TypeId) (sz bt : Nat) (hu : Try.prog.underlying t = some (.slice e)) (hi : ∃ ie z, Try.prog.info? e = some ie ∧ ie.zero = some z ∧ ie.size = sz ∧ ie.bytes = bt ∧ z.cells.size = sz) (h0 : 0 < sz) (s x : Operand) (ho : o.op = .call { callee := .builtin .append, args := #[s, x], argTypes := #[t, t] }) (g : Nat) (hs : a.eval s = .slice (some ⟨g, 0, none⟩) 0 0) (r : Row w g [] e) (A : Option Addr) (n c : Nat) (xs : List Value) (hx : a.eval x = .slice A n c) (hX : Sin w sz A n c xs) (_h1 : ∀ v ∈ xs, v.oneCell' = true) (hk : n ≤ maxLen) (hb : n * bt ≤ 140737488355328)
    (h : ∀ g' c' w', Lw w' e sz (.slice (some ⟨g', 0, none⟩) n c') n xs → n ≤ c' → Below w.heap.size w w' → K (a.put o.dst (.slice (some ⟨g', 0, none⟩) n c')) w') : Oper.wp Try.prog o a w K Q := by
  obtain ⟨g', c', w', hr, q1, q2, q3, _⟩ := run_appE w t e sz bt hu hi h0 o.type g r A n c xs hX hk hb
  unfold Oper.wp execOp
  simp only [ho, resolve, invoke, builtin, Sem.run_bind, Sem.run_pure, Result.andThen_ok, List.map_toArray, List.map_cons, List.map_nil, hs, hx, hr]
  exact h g' c' w' q1 q2 q3
theorem wpList_appE (t e : TypeId) (sz bt : Nat) (hu : Try.prog.underlying t = some (.slice e)) (hi : ∃ ie z, Try.prog.info? e = some ie ∧ ie.zero = some z ∧ ie.size = sz ∧ ie.bytes = bt ∧ z.cells.size = sz) (h0 : 0 < sz) (hgd : op.guard = none) (s x : Operand) (ho : op.op = .call { callee := .builtin .append, args := #[s, x], argTypes := #[t, t] }) (g : Nat) (hs : a.eval s = .slice (some ⟨g, 0, none⟩) 0 0) (r : Row w g [] e) (A : Option Addr) (n c : Nat) (xs : List Value) (hx : a.eval x = .slice A n c) (hX : Sin w sz A n c xs) (hk : n ≤ maxLen) (hb : n * bt ≤ 140737488355328)
    (h : ∀ g' c' w', Lw w' e sz (.slice (some ⟨g', 0, none⟩) n c') n xs → n ≤ c' → Below w.heap.size w w' → (g' = g ∨ w.heap.size ≤ g') → wpList Try.prog ops Q rest (a.put op.dst (.slice (some ⟨g', 0, none⟩) n c')) w') : wpList Try.prog ops Q (op :: rest) a w := by
  obtain ⟨g', c', w', hr, q1, q2, q3, q4⟩ := run_appE w t e sz bt hu hi h0 op.type g r A n c xs hX hk hb
  refine wpList_plain hgd fun K hK => ?_
  unfold Oper.wp execOp
  simp only [ho, resolve, invoke, builtin, Sem.run_bind, Sem.run_pure, Result.andThen_ok, List.map_toArray, List.map_cons, List.map_nil, hs, hx, hr]
  exact hK _ _ (h g' c' w' q1 q2 q3 q4)
end
theorem info_Y_open : ∃ ie z, Try.prog.info? tYr = some ie ∧ ie.zero = some z ∧ ie.size = 5 ∧ ie.bytes = 40 ∧ z.cells.size = 5 := by
  have h : (Try.prog.info? tYr).map (fun i => (i.size, i.bytes, i.zero.map (·.cells.size))) = some (5, 40, some 5) := by kernel_rfl
  cases hi : Try.prog.info? tYr with
  | none => rw [hi] at h; cases h
  | some ie =>
    rw [hi] at h
    simp only [Option.map_some, Option.some.injEq, Prod.mk.injEq] at h
    obtain ⟨h1, h2, h3⟩ := h
    cases hz : ie.zero with
    | none => rw [hz] at h3; cases h3
    | some z => rw [hz] at h3; exact ⟨ie, z, rfl, hz, h1, h2, by simpa using h3⟩
theorem built_ho (gr nr cr : Nat) (Ai : Option Addr) (ni ci : Nat) : Try.prog.built tHo [(0, .slice (some ⟨gr, 0, none⟩) nr cr), (2, .slice Ai ni ci)] = some [Value.slice (some ⟨gr, 0, none⟩) nr cr, .slice none 0 0, .slice Ai ni ci].toArray := by kernel_rfl
theorem kh_nn {W Y : World} {b : Nat} {cs : List Value} (k : Gro (· = b) W Y) (r : Row W b cs 35) : Kh W Y := fun bb cs t ht rr => k.row rr (fun e => by
  have hne : t ≠ 35 := by rcases ht with h | h | h | h <;> rw [h] <;> decide
  exact row_ne2 rr r hne e)
theorem lw_rpl {w : World} {g n c : Nat} {rs : List (Nat × Int)} (hn : n = rs.length) (h : Lw w tYr 5 (.slice (some ⟨g, 0, none⟩) n c) n (frs rs)) : Rpl w (.slice (some ⟨g, 0, none⟩) n c) rs := by
  obtain ⟨h1, h2⟩ := h
  rcases h2 with ⟨h2, _⟩ | ⟨g', cap, cur, hv, _, hh, hc, _, hs, ht⟩
  · cases h2
  · simp only [Value.slice.injEq, Option.some.injEq, Addr.mk.injEq] at hv
    obtain ⟨⟨rfl, _, _⟩, _, rfl⟩ := hv
    refine .inr ⟨g, 0, c, cur.toList, by rw [hn], by unfold Row; simpa using hh, fun j u hj => ?_⟩
    rw [Nat.zero_add]
    have hlt : j < n * 5 := by have := (List.getElem?_eq_some_iff.1 hj).1; rwa [h1] at this
    rw [← ht] at hj
    rwa [List.getElem?_take_of_lt hlt] at hj
set_option maxRecDepth 100000 in
set_option maxHeartbeats 4000000 in
theorem lrun_all {inn : List (BitVec 8)} (HNX : NextOK inn) (pd : List (BitVec 8)) (m : Nat) (hpd : pd.length = m) (c : Ca) (hc : c.Wf) (ags : List Nat) (rs : List (Nat × Int)) (hag : ∀ a ∈ ags, a < 2 ^ 256) (hrs : ∀ p ∈ rs, p.1 < 2 ^ 256) (Ak Aa Ar Ai : Option Addr) (ck ca cr0 ni ci : Nat) (PL : List Value) (hPL : PL = .slice Ak m ck :: (c.cs (.slice Aa ags.length ca) ++ [.slice Ar rs.length cr0])) (RV : List Value) (RE : Int) (Q : List (List Value)) (hmr : mrun pd c ags rs = ((RV, RE), Q)) (w : World)
    (hk : Sin w 1 Ak m ck (vB pd)) (hkm : m ≤ maxLen ∧ m * 1 ≤ 140737488355328) (ha : Sin w 4 Aa ags.length ca (fw ags)) (ham : ags.length ≤ maxLen ∧ ags.length * 32 ≤ 140737488355328) (hr : Sin w 5 Ar rs.length cr0 (frs rs)) (hrm : rs.length ≤ maxLen ∧ rs.length * 40 ≤ 140737488355328) (hi : Inr w (.slice Ai ni ci) inn) :
    Calls Try.prog 6 #[.agg PL.toArray, .slice Ai ni ci] w fun e w' => ∃ A7 c7, e = .returned (.tuple #[.agg RV.toArray, .int .i64 RE, .slice A7 Q.length c7]) ∧ Lw w' tAk 30 (.slice A7 Q.length c7) Q.length Q.flatten ∧ Below w.heap.size w w' := by
  obtain ⟨na, hna⟩ : ∃ n, n = ags.length := ⟨_, rfl⟩
  obtain ⟨nr, hnr⟩ : ∃ n, n = rs.length := ⟨_, rfl⟩
  rw [← hna] at ha ham hPL
  rw [← hnr] at hr hrm hPL
  have HKV0 : Hid (Sin w 1 Ak m ck (vB pd)) := hk
  have HKM : Hid (m ≤ maxLen ∧ m * 1 ≤ 140737488355328) := hkm
  have HA0 : Hid (Sin w 4 Aa na ca (fw ags) ∧ na ≤ maxLen ∧ na * 32 ≤ 140737488355328) := ⟨ha, ham⟩
  have HR0 : Hid (Sin w 5 Ar nr cr0 (frs rs) ∧ nr ≤ maxLen ∧ nr * 40 ≤ 140737488355328) := ⟨hr, hrm⟩
  have HII : Hid (Inr w (.slice Ai ni ci) inn) := hi
  have HCW : Hid c.Wf := hc
  obtain ⟨L, hL⟩ : ∃ L, L = c.cs (.slice Aa na ca) := ⟨_, rfl⟩
  have HL : Hid (L = c.cs (.slice Aa na ca)) := hL
  have HPL : Hid (PL = .slice Ak m ck :: (L ++ [.slice Ar nr cr0])) := by show _ = _; rw [hL]; exact hPL
  have HLL : Hid (L.length = 48) := by show _ = _; rw [hL]; exact Ca.len hc _
  have HLI : Hid ((Try.prog.info? 30).map (·.size) = some L.length) := by show _ = _; rw [HLL.out]; exact info_C
  have HLN : Hid (L.length = zC.length) := by show _ = _; rw [HLL.out]; rfl
  have HLO : Hid (L.toArray.all (·.oneCell') = true) := by show _ = _; rw [hL]; exact Ca.one _ rfl
  have HNN : Hid (na = ags.length ∧ nr = rs.length) := ⟨hna, hnr⟩
  have hf := mrun_ask1 pd c ags rs
  rw [hmr] at hf
  have HRV : Hid (RV.length = 5 ∧ RV.toArray.all (·.oneCell') = true) := by
    obtain ⟨m0, g0, h0⟩ := hf.2
    have h0' : RV = wq m0 ++ [.int .i64 g0] := h0
    rw [h0']
    exact rans2_len 0 (.ok (m0, 0)) |> fun z => ⟨by rw [List.length_append, wq_len]; rfl, by
      rw [← Array.all_toList, List.all_append]
      have := wq_one m0
      rw [← Array.all_toList] at this
      rw [this]
      rfl⟩
  have HRVF : Hid (∃ a0 a1 a2 a3 a4 : Int, RV = [.int .u64 a0, .int .u64 a1, .int .u64 a2, .int .u64 a3, .int .i64 a4]) := by
    obtain ⟨m0, g0, h0⟩ := hf.2
    have h0' : RV = wq m0 ++ [.int .i64 g0] := h0
    exact ⟨_, _, _, _, g0, by rw [h0', wq_cells]; rfl⟩
  have HRVI : Hid ((Try.prog.info? 35).map (·.size) = some RV.toArray.size) := by show _ = _; rw [List.size_toArray, HRV.out.1]; exact info_Ran
  have HRUN0 : Hid (∀ (g8 c8 gr cr hb NN8 cN8 : Nat), m ≤ cN8 → ∀ W, Lw W 27 4 (.slice (some ⟨g8, 0, none⟩) na c8) na (fw ags) → W.rangeAt NN8 0 (vB pd) → Hst W hb (.slice (some ⟨gr, 0, none⟩) nr cr) (.slice none 0 0) (.slice Ai ni ci) rs [] inn → Calls Try.prog 10 #[.slice (some ⟨NN8, 0, none⟩) m cN8, .agg (c.cs (.slice (some ⟨g8, 0, none⟩) na c8)).toArray, .iface 48 (.pointer (some ⟨hb, 0, none⟩))] W fun e w' => e = .returned (.tuple #[.agg RV.toArray, .int .i64 RE]) ∧ ∃ qv', Hst w' hb (.slice (some ⟨gr, 0, none⟩) nr cr) qv' (.slice Ai ni ci) rs Q inn ∧ Gro (· = hb) W w') := fun g8 c8 gr cr hb NN8 cN8 h8 W la rg hh => by
    refine run_all HNX pd m hpd (by have := hkm.1; unfold maxLen at this; omega) c hc ags (some ⟨g8, 0, none⟩) c8 NN8 cN8 hb h8 (.slice (some ⟨gr, 0, none⟩) nr cr) (.slice Ai ni ci) rs _ (by rw [hna]) hag hrs RV RE Q hmr W (fun _ => .inr ⟨g8, c8, rfl, Lw.range la⟩) rg hh
  clear hk hkm ha ham hr hrm hi hc hL hPL hf hmr hag hrs hpd hna hnr HNX
  go_enter Try.func6, Try.ntmps6
  go_upto_region 1 with (first
    | (refine wpList_boxG 33 rfl (.tmp 0) rfl PL rfl ?_; intro X1 q1 q2 q3; have R1 : Hid (Row X1 w.heap.size PL 33) := q1; have B1 : Hid (Below w.heap.size w X1) := q2; have S1 : Hid (X1.heap.size = w.heap.size + 1) := q3; clear q1 q2 q3; simp only [Act.put, List.setIfInBounds_toArray, List.set_cons_zero, List.set_cons_succ])
    | (refine wpList_allocR rfl rfl ?_; intro X2 q1 q2 q3; have R2 : Hid (Row X2 X1.heap.size zR 35) := q1; have B2 : Hid (Below X1.heap.size X1 X2) := q2; have S2 : Hid (X2.heap.size = X1.heap.size + 1) := q3; clear q1 q2 q3; simp only [Act.put, List.setIfInBounds_toArray, List.set_cons_zero, List.set_cons_succ]))
  obtain ⟨b2, hb2⟩ : ∃ b, b = w.heap.size := ⟨_, rfl⟩
  obtain ⟨b4, hb4⟩ : ∃ b, b = X1.heap.size := ⟨_, rfl⟩
  have N24 : Hid (b4 = b2 + 1) := by show _ = _; rw [hb4, hb2]; exact S1.out
  have BB : Hid (Below w.heap.size w X2) := B1.out.trans (B2.out.mono B1.out.size)
  have RP : Hid (Row X2 b2 PL 33) := by rw [hb2]; exact Row.below R1.out B2.out R1.out.lt
  have RR : Hid (Row X2 b4 zR 35) := by rw [hb4]; exact R2.out
  have HB2 : Hid (b2 = w.heap.size) := hb2
  rw [← hb2, ← hb4]
  clear hb2 hb4 R1 B1 S1 R2 B2 S2
  have HP0 : Hid (PL[0]? = some (.slice Ak m ck)) := by show _ = _; rw [HPL.out]; rfl
  have HP49 : Hid (PL[49]? = some (.slice Ar nr cr0)) := by show _ = _; rw [HPL.out, show 49 = 48 + 1 by decide, List.getElem?_cons_succ, List.getElem?_append_right (by rw [HLL.out]; decide), HLL.out]; rfl
  have HPC : Hid (∀ (j : Nat) (v : Value), L[j]? = some v → PL[1 + j]? = some v) := fun j v hj => by
    rw [HPL.out, show 1 + j = j + 1 by omega, List.getElem?_cons_succ, List.getElem?_append_left (List.getElem?_eq_some_iff.1 hj).1]
    exact hj
  go_upto_region 2 with (first
    | (refine wpList_build0Y rfl rfl ?_; intro X3 q1 q2 q3; have RY : Hid (Row X3 X2.heap.size [] tYr) := q1; have B3 : Hid (Below w.heap.size w X3) := BB.out.trans (q2.mono BB.out.size); have RP3 : Hid (Row X3 b2 PL 33) := Row.below RP.out q2 RP.out.lt; have RR3 : Hid (Row X3 b4 zR 35) := Row.below RR.out q2 RR.out.lt; have c49 : X3.cell? ⟨b2, 49, none⟩ = some (.slice Ar nr cr0) := (Row.below RP.out q2 RP.out.lt).cell 49 _ HP49.out; clear q1 q2 q3; simp only [Act.put, List.setIfInBounds_toArray, List.set_cons_zero, List.set_cons_succ])
    | (refine wpList_appE tYs tYr 5 40 Try.underlying31 info_Y_open (by decide) rfl (.tmp 11) (.tmp 13) rfl X2.heap.size rfl RY.out Ar nr cr0 (frs rs) rfl (HR0.out.1.be B3.out) HR0.out.2.1 HR0.out.2.2 ?_; intro gr cr X3b q1 q2 q3 q4; have LR : Hid (Lw X3b tYr 5 (.slice (some ⟨gr, 0, none⟩) nr cr) nr (frs rs)) := q1; have B3b : Hid (Below w.heap.size w X3b) := B3.out.trans (q3.mono B3.out.size); have RP3b : Hid (Row X3b b2 PL 33) := Row.below RP3.out q3 RP3.out.lt; have RR3b : Hid (Row X3b b4 zR 35) := Row.below RR3.out q3 RR3.out.lt; clear q1 q2 q3 q4; simp only [Act.put, List.setIfInBounds_toArray, List.set_cons_zero, List.set_cons_succ])
    | (refine wpList_bltH rfl tHo _ rfl [(0, .slice (some ⟨gr, 0, none⟩) nr cr), (2, .slice Ai ni ci)] rfl _ (built_ho gr nr cr Ai ni ci) ?_; simp only [Act.put, List.setIfInBounds_toArray, List.set_cons_zero, List.set_cons_succ])
    | (refine wpList_boxG tHo rfl (.tmp 16) rfl [.slice (some ⟨gr, 0, none⟩) nr cr, .slice none 0 0, .slice Ai ni ci] rfl ?_; intro X4 q1 q2 q3; have RH : Hid (Row X4 X3b.heap.size [.slice (some ⟨gr, 0, none⟩) nr cr, .slice none 0 0, .slice Ai ni ci] tHo) := q1; have B4 : Hid (Below X3b.heap.size X3b X4) := q2; clear q1 q2 q3; simp only [Act.put, List.setIfInBounds_toArray, List.set_cons_zero, List.set_cons_succ]))
  obtain ⟨hb, hhb⟩ : ∃ b, b = X3b.heap.size := ⟨_, rfl⟩
  rw [← hhb] at RH
  rw [← hhb]
  have HHB : Hid (w.heap.size ≤ hb) := by show _ ≤ _; rw [hhb]; exact B3b.out.size
  have BB4 : Hid (Below w.heap.size w X4) := B3b.out.trans (B4.out.mono B3b.out.size)
  have RP4 : Hid (Row X4 b2 PL 33) := Row.below RP3b.out B4.out RP3b.out.lt
  have RR4 : Hid (Row X4 b4 zR 35) := Row.below RR3b.out B4.out RR3b.out.lt
  have HS4 : Hid (Hst X4 hb (.slice (some ⟨gr, 0, none⟩) nr cr) (.slice none 0 0) (.slice Ai ni ci) rs [] inn) := ⟨RH.out, lw_rpl HNN.out.2 (Lw.be LR.out B4.out), Lw.nil _ _ _, HII.out.rows fun b cs r => Row.below r BB4.out r.lt⟩
  have RG4 : Hid (X4.rangeAt b2 1 L) := RP4.out.range 1 L (fun j v hj => HPC.out j v hj)
  clear hhb B3 B3b B4 RY RP3 RR3 RP3b RR3b c49 BB RP RR RH LR
  go_upto_region 3 with (first
    | (refine wpList_load_w rfl 30 (.tmp 18) rfl b2 1 rfl L _ RG4.out Try.underlying30 rfl HLI.out ?_; simp only [Act.put, List.setIfInBounds_toArray, List.set_cons_zero, List.set_cons_succ])
    | (refine wpList_allocC rfl rfl ?_; intro X5 q1 q2 q3; have RC5 : Hid (Row X5 X4.heap.size zC 30) := q1; have B5 : Hid (Below X4.heap.size X4 X5) := q2; clear q1 q2 q3; simp only [Act.put, List.setIfInBounds_toArray, List.set_cons_zero, List.set_cons_succ])
    | (refine wpList_storeL rfl 30 (.tmp 8) (.tmp 19) rfl X4.heap.size L zC 30 rfl rfl RC5.out HLN.out HLI.out HLO.out ?_; intro X6 q1 q2; have E6 : Hid (X6 = _) := q1; have RC6 : Hid (Row X6 X4.heap.size L 30) := q2; clear q1 q2; simp only [Act.put]))
  obtain ⟨b8, hb8⟩ : ∃ b, b = X4.heap.size := ⟨_, rfl⟩
  have k6 : Below X4.heap.size X4 X6 := by rw [E6.out]; exact below_setCells B5.out (Nat.le_refl _) _
  have BB6 : Hid (Below w.heap.size w X6) := BB4.out.trans (k6.mono BB4.out.size)
  have RP6 : Hid (Row X6 b2 PL 33) := Row.below RP4.out k6 RP4.out.lt
  have RR6 : Hid (Row X6 b4 zR 35) := Row.below RR4.out k6 RR4.out.lt
  have HS6 : Hid (Hst X6 hb (.slice (some ⟨gr, 0, none⟩) nr cr) (.slice none 0 0) (.slice Ai ni ci) rs [] inn) := HS4.out.below k6
  have HB8 : Hid (w.heap.size ≤ b8) := by show _ ≤ _; rw [hb8]; exact BB4.out.size
  rw [← hb8] at RC6
  rw [← hb8]
  have HL45 : Hid (45 < L.length) := by show _ < _; rw [HLL.out]; decide
  have HP46 : Hid (PL[46]? = some (.slice Aa na ca)) := HPC.out 45 _ (by rw [HL.out]; exact Ca.at45 HCW.out _)
  clear hb8 k6 E6 RC5 B5 RG4 BB4 RP4 RR4 HS4
  go_upto_region 4 with (first
    | (refine wpList_build0W rfl rfl ?_; intro X7 q1 q2 q3; have RE7 : Hid (Row X7 X6.heap.size [] 27) := q1; have B7 : Hid (Below X6.heap.size X6 X7) := q2; have c46 : X7.cell? ⟨b2, 46, none⟩ = some (.slice Aa na ca) := (Row.below RP6.out q2 RP6.out.lt).cell 46 _ HP46.out; clear q1 q2 q3; simp only [Act.put, List.setIfInBounds_toArray, List.set_cons_zero, List.set_cons_succ])
    | (refine wpList_appE 28 27 4 32 Try.underlying28 info_W_open (by decide) rfl (.tmp 20) (.tmp 23) rfl X6.heap.size rfl RE7.out Aa na ca (fw ags) rfl (HA0.out.1.be (BB6.out.trans (B7.out.mono BB6.out.size))) HA0.out.2.1 HA0.out.2.2 ?_; intro g8 c8 X8 q1 q2 q3 q4; have LA8 : Hid (Lw X8 27 4 (.slice (some ⟨g8, 0, none⟩) na c8) na (fw ags)) := q1; have B8 : Hid (Below X6.heap.size X6 X8) := B7.out.trans (q3.mono B7.out.size); have RC8 : Hid (Row X8 b8 L 30) := Row.below RC6.out (B7.out.trans (q3.mono B7.out.size)) RC6.out.lt; clear q1 q2 q3 q4; simp only [Act.put, List.setIfInBounds_toArray, List.set_cons_zero, List.set_cons_succ])
    | (refine wpList_set1 rfl 28 (.tmp 25) (.tmp 24) rfl b8 45 (.slice (some ⟨g8, 0, none⟩) na c8) L 30 rfl rfl rfl RC8.out HL45.out info_Ws rfl ?_; intro X q1 q2 q3; have RCX : Hid (Row X b8 (L.set 45 (.slice (some ⟨g8, 0, none⟩) na c8)) 30) := q1; have GX : Hid (Gro (· = b8) X8 X) := q2; clear q1 q2 q3; simp only [Act.put]))
  obtain ⟨M, hM⟩ : ∃ M, M = c.cs (.slice (some ⟨g8, 0, none⟩) na c8) := ⟨_, rfl⟩
  have HMI : Hid ((Try.prog.info? 30).map (·.size) = some M.length) := by show _ = _; rw [hM, Ca.len HCW.out]; exact info_C
  have HRUN : Hid (∀ (NN8 cN8 : Nat), m ≤ cN8 → ∀ W, Lw W 27 4 (.slice (some ⟨g8, 0, none⟩) na c8) na (fw ags) → W.rangeAt NN8 0 (vB pd) → Hst W hb (.slice (some ⟨gr, 0, none⟩) nr cr) (.slice none 0 0) (.slice Ai ni ci) rs [] inn → Calls Try.prog 10 #[.slice (some ⟨NN8, 0, none⟩) m cN8, .agg M.toArray, .iface 48 (.pointer (some ⟨hb, 0, none⟩))] W fun e w' => e = .returned (.tuple #[.agg RV.toArray, .int .i64 RE]) ∧ ∃ qv', Hst w' hb (.slice (some ⟨gr, 0, none⟩) nr cr) qv' (.slice Ai ni ci) rs Q inn ∧ Gro (· = hb) W w') := by rw [hM]; exact HRUN0.out g8 c8 gr cr hb
  have hLa : Lw X 27 4 (.slice (some ⟨g8, 0, none⟩) na c8) na (fw ags) := Lw.gro LA8.out GX.out (Lw.ne LA8.out RC8.out (by decide))
  have rp8 := Row.below RP6.out B8.out RP6.out.lt
  have r48 := Row.below RR6.out B8.out RR6.out.lt
  have rp : Row X b2 PL 33 := GX.out.row rp8 (row_ne2 rp8 RC8.out (by decide))
  have r4 : Row X b4 zR 35 := GX.out.row r48 (row_ne2 r48 RC8.out (by decide))
  have rcl : Row X b8 M 30 := by rw [hM, ← Ca.set45 HCW.out (.slice Aa na ca), ← HL.out]; exact RCX.out
  have hpre : Hst X hb (.slice (some ⟨gr, 0, none⟩) nr cr) (.slice none 0 0) (.slice Ai ni ci) rs [] inn := (HS6.out.below B8.out).kh (fun bb cs t ht rr => GX.out.row rr (fun e => by
    have hne : t ≠ 30 := by rcases ht with h | h | h | h <;> rw [h] <;> decide
    exact row_ne2 rr RC8.out hne e))
  have hb1 : Below w.heap.size w X := (BB6.out.trans (B8.out.mono BB6.out.size)).trans (GX.out.to_below (Nat.le_trans BB6.out.size B8.out.size) (fun k e => by rw [e]; exact HB8.out))
  have HXW : Hid (w.heap.size ≤ X.heap.size) := hb1.size
  have HKV : Hid (∀ W, Below w.heap.size w W → Sin W 1 Ak m ck (vB pd)) := fun W k => HKV0.out.be k
  have l2 : b2 < X.heap.size := rp.lt
  have l4 : b4 < X.heap.size := r4.lt
  have l8 : b8 < X.heap.size := rcl.lt
  have HW4 : Hid (w.heap.size ≤ b4) := by show _ ≤ _; have h1 := N24.out; have h2 := HB2.out; omega
  clear hM RCX GX LA8 B8 RC8 RE7 B7 c46 RP6 RR6 RC6 BB6 HS6 rp8 r48 HRUN0
  refine wp_named fun a0 ha0 => ?_
  have hsz : a0.tmps.size = 43 := by rw [ha0]; rfl
  have zs2 : a0.eval (.tmp 2) = .pointer (some ⟨b2, 0, none⟩) := by rw [ha0]; rfl
  have zs7 : a0.eval (.tmp 7) = .pointer (some ⟨hb, 0, none⟩) := by rw [ha0]; rfl
  have zs8 : a0.eval (.tmp 8) = .pointer (some ⟨b8, 0, none⟩) := by rw [ha0]; rfl
  obtain ⟨D, hD⟩ : ∃ D : List (Tmp × SP), D = [(27, SP.any), (28, SP.is (.pointer (some ⟨b2, 0, none⟩))), (29, SP.is (.slice Ak m ck)), (30, SP.any), (31, SP.is (.agg M.toArray)), (32, SP.is (.pointer (some ⟨hb, 0, none⟩))), (33, SP.is (.iface 48 (.pointer (some ⟨hb, 0, none⟩)))), (34, SP.is (.tuple #[.agg RV.toArray, .int .i64 RE])), (26, SP.is (.tuple #[.agg RV.toArray, .int .i64 RE])), (35, SP.is (.agg RV.toArray)), (36, SP.is (.int .i64 RE)), (9, SP.any), (1000, SP.any), (10, SP.is (.int .i64 RE))] := ⟨_, rfl⟩
  refine wp_region_down (by kernel_rfl) (fun listed ac W => ∃ NN : Nat, listed.size = 14 ∧ Fp D a0 listed ac W ∧ Below w.heap.size w W ∧ X.heap.size ≤ W.heap.size ∧ Row W b2 PL 33 ∧ Row W b8 M 30 ∧ Row W b4 zR 35 ∧ Lw W 27 4 (.slice (some ⟨g8, 0, none⟩) na c8) na (fw ags) ∧ (¬ listed.getD 7 false = true → Hst W hb (.slice (some ⟨gr, 0, none⟩) nr cr) (.slice none 0 0) (.slice Ai ni ci) rs [] inn) ∧ (listed.getD 7 false = true → ∃ qv', Hst W hb (.slice (some ⟨gr, 0, none⟩) nr cr) qv' (.slice Ai ni ci) rs Q inn) ∧ (listed.getD 11 false = true → ac.eval (.tmp 9) = .pointer (some ⟨NN, 0, none⟩) ∧ X.heap.size ≤ NN ∧ Row W NN (if listed.getD 12 false = true then RV else zR) 35) ∧ (listed.getD 0 false = true → ¬ listed.getD 3 false = true → (SP.new 0 0 [] 5).P W (ac.eval (.tmp 27))) ∧ (listed.getD 3 false = true → ¬ listed.getD 7 false = true → (SP.byd m pd).P W (ac.eval (.tmp 30)))) ?_ ?_ ?_
  · exact ⟨0, by simp, Fp.start D a0 _ _, Below.drew hb1, Nat.le_refl _, Row.drew rp, Row.drew rcl, Row.drew r4, Lw.be hLa (Below.drew (Below.refl _ _)), (fun _ => hpre.below (Below.drew (Below.refl _ _))), (fun h => (start_no h).elim), (fun h => (start_no h).elim), (fun h _ => (start_no h).elim), (fun h _ => (start_no h).elim)⟩
  · clear ha0 hb1 rp rcl r4 hLa hpre
    intro listed ac W k hI hdn hk
    obtain ⟨NN, hl, hF, hb1, hszW, rp, rcl, r4, hLa, hpre, hpost, hal, ti0, ti3⟩ := hI
    have hk1 : k < 14 := List.mem_range.1 (List.mem_filter.1 hk).1
    have hl2 : ∀ j, (listed.setIfInBounds j true).size = 14 := fun j => by rw [Array.size_setIfInBounds]; exact hl
    rcases (show k = 0 ∨ k = 1 ∨ k = 2 ∨ k = 3 ∨ k = 4 ∨ k = 5 ∨ k = 6 ∨ k = 7 ∨ k = 8 ∨ k = 9 ∨ k = 10 ∨ k = 11 ∨ k = 12 ∨ k = 13 by omega) with rfl | rfl | rfl | rfl | rfl | rfl | rfl | rfl | rfl | rfl | rfl | rfl | rfl | rfl
    · have hk3 := hk
      refine wpOp_plain rfl rfl (wp_build0 rfl ?_)
      intro W2 q hB
      exact ⟨NN, hl2 0, ((hF.world hB).put 0 27 (SP.any) (.slice (some ⟨W.heap.size, 0, none⟩) 0 0) (by rw [hD]; rfl) trivial (by rw [hD]; rfl) (by rw [hsz]; decide) (by rw [hl]; decide)), hb1.trans (hB.mono hb1.size), Nat.le_trans hszW hB.size, Row.below rp hB (Row.lt rp), Row.below rcl hB (Row.lt rcl), Row.below r4 hB (Row.lt r4), Lw.be hLa hB, (fun h => (hpre (by rwa [getD_set _ _ _ (by decide)] at h)).below hB), (fun h => by obtain ⟨qv9, z9⟩ := hpost (by rwa [getD_set _ _ _ (by decide)] at h); exact ⟨qv9, z9.below hB⟩), (fun h => ⟨(eval_put_other ac _ (by decide)).trans (hal (by rwa [getD_set _ _ _ (by decide)] at h)).1, (hal (by rwa [getD_set _ _ _ (by decide)] at h)).2.1, by rw [getD_set _ _ _ (by decide)]; exact Row.below ((hal (by rwa [getD_set _ _ _ (by decide)] at h)).2.2) hB (Row.lt ((hal (by rwa [getD_set _ _ _ (by decide)] at h)).2.2))⟩), (fun _ _ => by change (SP.new 0 0 [] 5).P _ ((ac.put (some 27) _).eval (.tmp 27)); rw [eval_put_same ac _ (by rw [hF.size, hsz]; decide)]; exact ⟨_, rfl, q⟩), (fun h1 h2 => by change (SP.byd m pd).P _ ((ac.put (some 27) _).eval (.tmp 30)); rw [eval_put_other ac _ (by decide)]; exact (SP.byd m pd).st _ _ _ hB (ti3 (by rwa [getD_set _ _ _ (by decide)] at h1) (by rwa [getD_set _ _ _ (by decide)] at h2)))⟩
    · have hk3 := hk
      have e2 := ((hF.keep 2 (by rw [hD]; rfl)).trans zs2)
      exact wpOp_plain rfl rfl (wp_fP0 b2 rfl e2 ⟨NN, hl2 1, (hF.put 1 28 (SP.is (.pointer (some ⟨b2, 0, none⟩))) (.pointer (some ⟨b2, 0, none⟩)) (by rw [hD]; rfl) rfl (by rw [hD]; rfl) (by rw [hsz]; decide) (by rw [hl]; decide)), hb1, hszW, rp, rcl, r4, hLa, (fun h => hpre (by rwa [getD_set _ _ _ (by decide)] at h)), (fun h => hpost (by rwa [getD_set _ _ _ (by decide)] at h)), (fun h => ⟨(eval_put_other ac _ (by decide)).trans (hal (by rwa [getD_set _ _ _ (by decide)] at h)).1, (hal (by rwa [getD_set _ _ _ (by decide)] at h)).2.1, by rw [getD_set _ _ _ (by decide)]; exact (hal (by rwa [getD_set _ _ _ (by decide)] at h)).2.2⟩), (fun h1 h2 => by change (SP.new 0 0 [] 5).P _ ((ac.put (some 28) _).eval (.tmp 27)); rw [eval_put_other ac _ (by decide)]; exact ti0 (by rwa [getD_set _ _ _ (by decide)] at h1) (by rwa [getD_set _ _ _ (by decide)] at h2)), (fun h1 h2 => by change (SP.byd m pd).P _ ((ac.put (some 28) _).eval (.tmp 30)); rw [eval_put_other ac _ (by decide)]; exact ti3 (by rwa [getD_set _ _ _ (by decide)] at h1) (by rwa [getD_set _ _ _ (by decide)] at h2))⟩)
    · have hk3 := hk
      have e28 := (hF.done 1 (28, SP.is (.pointer (some ⟨b2, 0, none⟩))) (by rw [hD]; rfl) (ready_dep hk 1 (by kernel_rfl)))
      exact wpOp_plain rfl rfl (wp_loadb rfl b2 0 e28 Ak m ck (rp.cell 0 _ HP0.out) ⟨NN, hl2 2, (hF.put 2 29 (SP.is (.slice Ak m ck)) (.slice Ak m ck) (by rw [hD]; rfl) rfl (by rw [hD]; rfl) (by rw [hsz]; decide) (by rw [hl]; decide)), hb1, hszW, rp, rcl, r4, hLa, (fun h => hpre (by rwa [getD_set _ _ _ (by decide)] at h)), (fun h => hpost (by rwa [getD_set _ _ _ (by decide)] at h)), (fun h => ⟨(eval_put_other ac _ (by decide)).trans (hal (by rwa [getD_set _ _ _ (by decide)] at h)).1, (hal (by rwa [getD_set _ _ _ (by decide)] at h)).2.1, by rw [getD_set _ _ _ (by decide)]; exact (hal (by rwa [getD_set _ _ _ (by decide)] at h)).2.2⟩), (fun h1 h2 => by change (SP.new 0 0 [] 5).P _ ((ac.put (some 29) _).eval (.tmp 27)); rw [eval_put_other ac _ (by decide)]; exact ti0 (by rwa [getD_set _ _ _ (by decide)] at h1) (by rwa [getD_set _ _ _ (by decide)] at h2)), (fun h1 h2 => by change (SP.byd m pd).P _ ((ac.put (some 29) _).eval (.tmp 30)); rw [eval_put_other ac _ (by decide)]; exact ti3 (by rwa [getD_set _ _ _ (by decide)] at h1) (by rwa [getD_set _ _ _ (by decide)] at h2))⟩)
    · have hk3 := hk
      obtain ⟨N7, e27, r27⟩ := (ti0 (ready_dep hk 0 (by kernel_rfl)) (not_yet hk))
      have e29 := (hF.done 2 (29, SP.is (.slice Ak m ck)) (by rw [hD]; rfl) (ready_dep hk 2 (by kernel_rfl)))
      refine wpOp_plain rfl rfl (wp_appE 22 5 1 1 Try.underlying22 info_u8open (by decide) (.tmp 27) (.tmp 29) rfl N7 e27 r27 Ak m ck (vB pd) e29 (HKV.out W hb1) (vB_mem pd) HKM.out.1 HKM.out.2 ?_)
      intro g9 c9 W2 l9 n9 hB
      exact ⟨NN, hl2 3, ((hF.world hB).put 3 30 (SP.any) (.slice (some ⟨g9, 0, none⟩) m c9) (by rw [hD]; rfl) trivial (by rw [hD]; rfl) (by rw [hsz]; decide) (by rw [hl]; decide)), hb1.trans (hB.mono hb1.size), Nat.le_trans hszW hB.size, Row.below rp hB (Row.lt rp), Row.below rcl hB (Row.lt rcl), Row.below r4 hB (Row.lt r4), Lw.be hLa hB, (fun h => (hpre (by rwa [getD_set _ _ _ (by decide)] at h)).below hB), (fun h => by obtain ⟨qv9, z9⟩ := hpost (by rwa [getD_set _ _ _ (by decide)] at h); exact ⟨qv9, z9.below hB⟩), (fun h => ⟨(eval_put_other ac _ (by decide)).trans (hal (by rwa [getD_set _ _ _ (by decide)] at h)).1, (hal (by rwa [getD_set _ _ _ (by decide)] at h)).2.1, by rw [getD_set _ _ _ (by decide)]; exact Row.below ((hal (by rwa [getD_set _ _ _ (by decide)] at h)).2.2) hB (Row.lt ((hal (by rwa [getD_set _ _ _ (by decide)] at h)).2.2))⟩), (fun _ h => absurd (getD_same (by rw [hl]; decide)) h), (fun _ _ => by change (SP.byd m pd).P _ ((ac.put (some 30) _).eval (.tmp 30)); rw [eval_put_same ac _ (by rw [hF.size, hsz]; decide)]; exact ⟨g9, c9, rfl, n9, Lw.range l9⟩)⟩
    · have hk3 := hk
      have e0 := ((hF.keep 8 (by rw [hD]; rfl)).trans zs8)
      exact wpOp_plain rfl rfl (wp_load_mid 30 (.tmp 8) rfl b8 0 e0 M _ rcl.all Try.underlying30 rfl HMI.out ⟨NN, hl2 4, (hF.put 4 31 (SP.is (.agg M.toArray)) (.agg M.toArray) (by rw [hD]; rfl) rfl (by rw [hD]; rfl) (by rw [hsz]; decide) (by rw [hl]; decide)), hb1, hszW, rp, rcl, r4, hLa, (fun h => hpre (by rwa [getD_set _ _ _ (by decide)] at h)), (fun h => hpost (by rwa [getD_set _ _ _ (by decide)] at h)), (fun h => ⟨(eval_put_other ac _ (by decide)).trans (hal (by rwa [getD_set _ _ _ (by decide)] at h)).1, (hal (by rwa [getD_set _ _ _ (by decide)] at h)).2.1, by rw [getD_set _ _ _ (by decide)]; exact (hal (by rwa [getD_set _ _ _ (by decide)] at h)).2.2⟩), (fun h1 h2 => by change (SP.new 0 0 [] 5).P _ ((ac.put (some 31) _).eval (.tmp 27)); rw [eval_put_other ac _ (by decide)]; exact ti0 (by rwa [getD_set _ _ _ (by decide)] at h1) (by rwa [getD_set _ _ _ (by decide)] at h2)), (fun h1 h2 => by change (SP.byd m pd).P _ ((ac.put (some 31) _).eval (.tmp 30)); rw [eval_put_other ac _ (by decide)]; exact ti3 (by rwa [getD_set _ _ _ (by decide)] at h1) (by rwa [getD_set _ _ _ (by decide)] at h2))⟩)
    · have hk3 := hk
      exact wpOp_plain rfl rfl (wp_move_v (ac.eval (.tmp 7)) rfl rfl ⟨NN, hl2 5, (hF.put 5 32 (SP.is (.pointer (some ⟨hb, 0, none⟩))) (ac.eval (.tmp 7)) (by rw [hD]; rfl) (((hF.keep 7 (by rw [hD]; rfl)).trans zs7)) (by rw [hD]; rfl) (by rw [hsz]; decide) (by rw [hl]; decide)), hb1, hszW, rp, rcl, r4, hLa, (fun h => hpre (by rwa [getD_set _ _ _ (by decide)] at h)), (fun h => hpost (by rwa [getD_set _ _ _ (by decide)] at h)), (fun h => ⟨(eval_put_other ac _ (by decide)).trans (hal (by rwa [getD_set _ _ _ (by decide)] at h)).1, (hal (by rwa [getD_set _ _ _ (by decide)] at h)).2.1, by rw [getD_set _ _ _ (by decide)]; exact (hal (by rwa [getD_set _ _ _ (by decide)] at h)).2.2⟩), (fun h1 h2 => by change (SP.new 0 0 [] 5).P _ ((ac.put (some 32) _).eval (.tmp 27)); rw [eval_put_other ac _ (by decide)]; exact ti0 (by rwa [getD_set _ _ _ (by decide)] at h1) (by rwa [getD_set _ _ _ (by decide)] at h2)), (fun h1 h2 => by change (SP.byd m pd).P _ ((ac.put (some 32) _).eval (.tmp 30)); rw [eval_put_other ac _ (by decide)]; exact ti3 (by rwa [getD_set _ _ _ (by decide)] at h1) (by rwa [getD_set _ _ _ (by decide)] at h2))⟩)
    · have hk3 := hk
      have e32 := (hF.done 5 (32, SP.is (.pointer (some ⟨hb, 0, none⟩))) (by rw [hD]; rfl) (ready_dep hk 5 (by kernel_rfl)))
      exact wpOp_plain rfl rfl (wp_mkif rfl (.pointer (some ⟨hb, 0, none⟩)) e32 ⟨NN, hl2 6, (hF.put 6 33 (SP.is (.iface 48 (.pointer (some ⟨hb, 0, none⟩)))) (.iface 48 (.pointer (some ⟨hb, 0, none⟩))) (by rw [hD]; rfl) rfl (by rw [hD]; rfl) (by rw [hsz]; decide) (by rw [hl]; decide)), hb1, hszW, rp, rcl, r4, hLa, (fun h => hpre (by rwa [getD_set _ _ _ (by decide)] at h)), (fun h => hpost (by rwa [getD_set _ _ _ (by decide)] at h)), (fun h => ⟨(eval_put_other ac _ (by decide)).trans (hal (by rwa [getD_set _ _ _ (by decide)] at h)).1, (hal (by rwa [getD_set _ _ _ (by decide)] at h)).2.1, by rw [getD_set _ _ _ (by decide)]; exact (hal (by rwa [getD_set _ _ _ (by decide)] at h)).2.2⟩), (fun h1 h2 => by change (SP.new 0 0 [] 5).P _ ((ac.put (some 33) _).eval (.tmp 27)); rw [eval_put_other ac _ (by decide)]; exact ti0 (by rwa [getD_set _ _ _ (by decide)] at h1) (by rwa [getD_set _ _ _ (by decide)] at h2)), (fun h1 h2 => by change (SP.byd m pd).P _ ((ac.put (some 33) _).eval (.tmp 30)); rw [eval_put_other ac _ (by decide)]; exact ti3 (by rwa [getD_set _ _ _ (by decide)] at h1) (by rwa [getD_set _ _ _ (by decide)] at h2))⟩)
    · have hk3 := hk
      obtain ⟨NN8, cN8, e30, h8, r30⟩ := (ti3 (ready_dep hk 3 (by kernel_rfl)) (not_yet hk))
      have e31 := (hF.done 4 (31, SP.is (.agg M.toArray)) (by rw [hD]; rfl) (ready_dep hk 4 (by kernel_rfl)))
      have e33 := (hF.done 6 (33, SP.is (.iface 48 (.pointer (some ⟨hb, 0, none⟩)))) (by rw [hD]; rfl) (ready_dep hk 6 (by kernel_rfl)))
      have hp0 := hpre (not_yet hk)
      refine wpOp_plain rfl rfl (wp_fcall_v 10 #[.slice (some ⟨NN8, 0, none⟩) m cN8, .agg M.toArray, .iface 48 (.pointer (some ⟨hb, 0, none⟩))] rfl rfl (by show [ac.eval (.tmp 30), ac.eval (.tmp 31), ac.eval (.tmp 33)] = _; rw [show ac.eval (.tmp 30) = _ from e30, show ac.eval (.tmp 31) = _ from e31, show ac.eval (.tmp 33) = _ from e33]) (by go_simp) ((HRUN.out NN8 cN8 h8 W hLa r30 hp0).mono ?_))
      rintro e W2 ⟨rfl, qv9, z9, hG⟩
      have hT : Fp D a0 listed ac W2 := hF.turn (by rw [hD]; simp only [List.forall_mem_cons, List.not_mem_nil, false_implies, implies_true, and_true]; exact ⟨fun _ h => h, fun _ h => h, fun _ h => h, fun _ h => h, fun _ h => h, fun _ h => h, fun _ h => h, fun _ h => h, fun _ h => h, fun _ h => h, fun _ h => h, fun _ h => h, fun _ h => h, fun _ h => h⟩)
      exact ⟨_, rfl, NN, hl2 7, (hT.put 7 34 (SP.is (.tuple #[.agg RV.toArray, .int .i64 RE])) (.tuple #[.agg RV.toArray, .int .i64 RE]) (by rw [hD]; rfl) rfl (by rw [hD]; rfl) (by rw [hsz]; decide) (by rw [hl]; decide)), hb1.trans (hG.to_below hb1.size (fun k e => by rw [e]; exact HHB.out)), Nat.le_trans hszW hG.size, hG.row rp (row_ne2 rp hp0.row (by decide)), hG.row rcl (row_ne2 rcl hp0.row (by decide)), hG.row r4 (row_ne2 r4 hp0.row (by decide)), Lw.gro hLa hG (Lw.ne hLa hp0.row (by decide)), (fun h => absurd (getD_same (by rw [hl]; decide)) h), (fun _ => ⟨qv9, z9⟩), (fun h => ⟨(eval_put_other ac _ (by decide)).trans (hal (by rwa [getD_set _ _ _ (by decide)] at h)).1, (hal (by rwa [getD_set _ _ _ (by decide)] at h)).2.1, by rw [getD_set _ _ _ (by decide)]; exact hG.row ((hal (by rwa [getD_set _ _ _ (by decide)] at h)).2.2) (row_ne2 ((hal (by rwa [getD_set _ _ _ (by decide)] at h)).2.2) hp0.row (by decide))⟩), (fun _ h2 => absurd (by rw [getD_set _ _ _ (by decide)]; exact ready_dep hk 3 (by kernel_rfl)) h2), (fun _ h => absurd (getD_same (by rw [hl]; decide)) h)⟩
    · have hk3 := hk
      exact wpOp_plain rfl rfl (wp_move_v (ac.eval (.tmp 34)) rfl rfl ⟨NN, hl2 8, (hF.put 8 26 (SP.is (.tuple #[.agg RV.toArray, .int .i64 RE])) (ac.eval (.tmp 34)) (by rw [hD]; rfl) ((hF.done 7 (34, SP.is (.tuple #[.agg RV.toArray, .int .i64 RE])) (by rw [hD]; rfl) (ready_dep hk 7 (by kernel_rfl)))) (by rw [hD]; rfl) (by rw [hsz]; decide) (by rw [hl]; decide)), hb1, hszW, rp, rcl, r4, hLa, (fun h => hpre (by rwa [getD_set _ _ _ (by decide)] at h)), (fun h => hpost (by rwa [getD_set _ _ _ (by decide)] at h)), (fun h => ⟨(eval_put_other ac _ (by decide)).trans (hal (by rwa [getD_set _ _ _ (by decide)] at h)).1, (hal (by rwa [getD_set _ _ _ (by decide)] at h)).2.1, by rw [getD_set _ _ _ (by decide)]; exact (hal (by rwa [getD_set _ _ _ (by decide)] at h)).2.2⟩), (fun h1 h2 => by change (SP.new 0 0 [] 5).P _ ((ac.put (some 26) _).eval (.tmp 27)); rw [eval_put_other ac _ (by decide)]; exact ti0 (by rwa [getD_set _ _ _ (by decide)] at h1) (by rwa [getD_set _ _ _ (by decide)] at h2)), (fun h1 h2 => by change (SP.byd m pd).P _ ((ac.put (some 26) _).eval (.tmp 30)); rw [eval_put_other ac _ (by decide)]; exact ti3 (by rwa [getD_set _ _ _ (by decide)] at h1) (by rwa [getD_set _ _ _ (by decide)] at h2))⟩)
    · have hk3 := hk
      exact wpOp_plain rfl rfl (wp_extract (.tmp 26) 0 rfl _ (hF.done 8 (26, SP.is (.tuple #[.agg RV.toArray, .int .i64 RE])) (by rw [hD]; rfl) (ready_dep hk 8 (by kernel_rfl))) _ rfl ⟨NN, hl2 9, (hF.put 9 35 (SP.is (.agg RV.toArray)) (_) (by rw [hD]; rfl) rfl (by rw [hD]; rfl) (by rw [hsz]; decide) (by rw [hl]; decide)), hb1, hszW, rp, rcl, r4, hLa, (fun h => hpre (by rwa [getD_set _ _ _ (by decide)] at h)), (fun h => hpost (by rwa [getD_set _ _ _ (by decide)] at h)), (fun h => ⟨(eval_put_other ac _ (by decide)).trans (hal (by rwa [getD_set _ _ _ (by decide)] at h)).1, (hal (by rwa [getD_set _ _ _ (by decide)] at h)).2.1, by rw [getD_set _ _ _ (by decide)]; exact (hal (by rwa [getD_set _ _ _ (by decide)] at h)).2.2⟩), (fun h1 h2 => by change (SP.new 0 0 [] 5).P _ ((ac.put (some 35) _).eval (.tmp 27)); rw [eval_put_other ac _ (by decide)]; exact ti0 (by rwa [getD_set _ _ _ (by decide)] at h1) (by rwa [getD_set _ _ _ (by decide)] at h2)), (fun h1 h2 => by change (SP.byd m pd).P _ ((ac.put (some 35) _).eval (.tmp 30)); rw [eval_put_other ac _ (by decide)]; exact ti3 (by rwa [getD_set _ _ _ (by decide)] at h1) (by rwa [getD_set _ _ _ (by decide)] at h2))⟩)
    · have hk3 := hk
      exact wpOp_plain rfl rfl (wp_extract (.tmp 26) 1 rfl _ (hF.done 8 (26, SP.is (.tuple #[.agg RV.toArray, .int .i64 RE])) (by rw [hD]; rfl) (ready_dep hk 8 (by kernel_rfl))) _ rfl ⟨NN, hl2 10, (hF.put 10 36 (SP.is (.int .i64 RE)) (_) (by rw [hD]; rfl) rfl (by rw [hD]; rfl) (by rw [hsz]; decide) (by rw [hl]; decide)), hb1, hszW, rp, rcl, r4, hLa, (fun h => hpre (by rwa [getD_set _ _ _ (by decide)] at h)), (fun h => hpost (by rwa [getD_set _ _ _ (by decide)] at h)), (fun h => ⟨(eval_put_other ac _ (by decide)).trans (hal (by rwa [getD_set _ _ _ (by decide)] at h)).1, (hal (by rwa [getD_set _ _ _ (by decide)] at h)).2.1, by rw [getD_set _ _ _ (by decide)]; exact (hal (by rwa [getD_set _ _ _ (by decide)] at h)).2.2⟩), (fun h1 h2 => by change (SP.new 0 0 [] 5).P _ ((ac.put (some 36) _).eval (.tmp 27)); rw [eval_put_other ac _ (by decide)]; exact ti0 (by rwa [getD_set _ _ _ (by decide)] at h1) (by rwa [getD_set _ _ _ (by decide)] at h2)), (fun h1 h2 => by change (SP.byd m pd).P _ ((ac.put (some 36) _).eval (.tmp 30)); rw [eval_put_other ac _ (by decide)]; exact ti3 (by rwa [getD_set _ _ _ (by decide)] at h1) (by rwa [getD_set _ _ _ (by decide)] at h2))⟩)
    · have hk3 := hk
      have hB : Below W.heap.size W (W.alloc (Obj.cells zR.toArray 35)) := (Below.refl _ _).alloc (Nat.le_refl _) _
      have hns : ¬ listed.getD 12 false = true := fun h => not_yet hk (hdn 12 h 11 (by kernel_rfl))
      exact wpOp_plain rfl rfl (wp_allocRn rfl ⟨W.heap.size, hl2 11, ((hF.world hB).put 11 9 (SP.any) (.pointer (some ⟨W.heap.size, 0, none⟩)) (by rw [hD]; rfl) trivial (by rw [hD]; rfl) (by rw [hsz]; decide) (by rw [hl]; decide)), hb1.trans (hB.mono hb1.size), Nat.le_trans hszW hB.size, Row.below rp hB (Row.lt rp), Row.below rcl hB (Row.lt rcl), Row.below r4 hB (Row.lt r4), Lw.be hLa hB, (fun h => (hpre (by rwa [getD_set _ _ _ (by decide)] at h)).below hB), (fun h => by obtain ⟨qv9, z9⟩ := hpost (by rwa [getD_set _ _ _ (by decide)] at h); exact ⟨qv9, z9.below hB⟩), (fun _ => ⟨eval_put_same ac _ (by rw [hF.size, hsz]; decide), hszW, by rw [getD_set _ _ _ (by decide), if_neg hns]; exact Row.new' rfl rfl⟩), (fun h1 h2 => by change (SP.new 0 0 [] 5).P _ ((ac.put (some 9) _).eval (.tmp 27)); rw [eval_put_other ac _ (by decide)]; exact (SP.new 0 0 [] 5).st _ _ _ hB (ti0 (by rwa [getD_set _ _ _ (by decide)] at h1) (by rwa [getD_set _ _ _ (by decide)] at h2))), (fun h1 h2 => by change (SP.byd m pd).P _ ((ac.put (some 9) _).eval (.tmp 30)); rw [eval_put_other ac _ (by decide)]; exact (SP.byd m pd).st _ _ _ hB (ti3 (by rwa [getD_set _ _ _ (by decide)] at h1) (by rwa [getD_set _ _ _ (by decide)] at h2)))⟩)
    · have hk3 := hk
      have hal0 := hal (ready_dep hk 11 (by kernel_rfl))
      obtain ⟨e1, m1, y2⟩ := hal0
      rw [if_neg (not_yet hk)] at y2
      have T := y2.there 0 RV.toArray.size (by simpa using Nat.le_of_eq HRV.out.1)
      have fin := y2.over (vs := RV) HRV.out.1
      have hcd := hdn 8 (hdn 9 (ready_dep hk 9 (by kernel_rfl)) 8 (by kernel_rfl)) 7 (by kernel_rfl)
      have hG : Gro (· = NN) W (W.setCells NN 0 RV) := gro_setCells NN _ 0 W W (Gro.refl _ W)
      have hT : Fp D a0 listed ac (W.setCells NN 0 RV) := hF.turn (by rw [hD]; simp only [List.forall_mem_cons, List.not_mem_nil, false_implies, implies_true, and_true]; exact ⟨fun _ h => h, fun _ h => h, fun _ h => h, fun _ h => h, fun _ h => h, fun _ h => h, fun _ h => h, fun _ h => h, fun _ h => h, fun _ h => h, fun _ h => h, fun _ h => h, fun _ h => h, fun _ h => h⟩)
      have hnX : w.heap.size ≤ X.heap.size := HXW.out
      exact wpOp_plain rfl rfl (wp_store_mid 35 (.tmp 9) (.tmp 35) rfl NN 0 RV.toArray e1 (hF.done 9 (35, SP.is (.agg RV.toArray)) (by rw [hD]; rfl) (ready_dep hk 9 (by kernel_rfl))) T HRVI.out HRV.out.2 ⟨NN, hl2 12, (hT.skip 12 1000 (by rw [hD]; rfl) (by rw [hl]; decide)), below_setCells hb1 (by omega) _, (by rw [size_setCells]; exact hszW), hG.row rp (by omega), hG.row rcl (by omega), hG.row r4 (by omega), Lw.gro hLa hG (Lw.ne hLa y2 (by decide)), (fun h => absurd (by rw [getD_set _ _ _ (by decide)]; exact hcd) h), (fun h => by obtain ⟨qv9, z9⟩ := hpost hcd; exact ⟨qv9, z9.kh (kh_nn hG y2)⟩), (fun _ => ⟨e1, m1, by rw [if_pos (getD_same (by rw [hl]; decide))]; exact fin⟩), (fun _ h2 => absurd (by rw [getD_set _ _ _ (by decide)]; exact hdn 7 hcd 3 (by kernel_rfl)) h2), (fun _ h2 => absurd (by rw [getD_set _ _ _ (by decide)]; exact hcd) h2)⟩)
    · have hk3 := hk
      exact wpOp_plain rfl rfl (wp_assign_v (ac.eval (.tmp 36)) rfl rfl ⟨NN, hl2 13, (hF.put 13 10 (SP.is (.int .i64 RE)) (ac.eval (.tmp 36)) (by rw [hD]; rfl) ((hF.done 10 (36, SP.is (.int .i64 RE)) (by rw [hD]; rfl) (ready_dep hk 10 (by kernel_rfl)))) (by rw [hD]; rfl) (by rw [hsz]; decide) (by rw [hl]; decide)), hb1, hszW, rp, rcl, r4, hLa, (fun h => hpre (by rwa [getD_set _ _ _ (by decide)] at h)), (fun h => hpost (by rwa [getD_set _ _ _ (by decide)] at h)), (fun h => ⟨(eval_put_other ac _ (by decide)).trans (hal (by rwa [getD_set _ _ _ (by decide)] at h)).1, (hal (by rwa [getD_set _ _ _ (by decide)] at h)).2.1, by rw [getD_set _ _ _ (by decide)]; exact (hal (by rwa [getD_set _ _ _ (by decide)] at h)).2.2⟩), (fun h1 h2 => by change (SP.new 0 0 [] 5).P _ ((ac.put (some 10) _).eval (.tmp 27)); rw [eval_put_other ac _ (by decide)]; exact ti0 (by rwa [getD_set _ _ _ (by decide)] at h1) (by rwa [getD_set _ _ _ (by decide)] at h2)), (fun h1 h2 => by change (SP.byd m pd).P _ ((ac.put (some 10) _).eval (.tmp 30)); rw [eval_put_other ac _ (by decide)]; exact ti3 (by rwa [getD_set _ _ _ (by decide)] at h1) (by rwa [getD_set _ _ _ (by decide)] at h2))⟩)
  · clear hb1 rp rcl r4 hLa hpre
    intro listed ac W hI hr
    obtain ⟨NN, hl, hF, hb1, hszW, rp, rcl, r4, hLa, hpre, hpost, hal, ti0, ti3⟩ := hI
    have hall := all_listed (by kernel_rfl) hl hr
    replace hpost := hpost (hall 7 (by decide))
    obtain ⟨ea9, mN, rN⟩ := hal (hall 11 (by decide))
    rw [if_pos (hall 12 (by decide))] at rN
    obtain ⟨x27, h27⟩ : ∃ x, ac.eval (.tmp 27) = x := ⟨_, rfl⟩
    have h28 : ac.eval (.tmp 28) = .pointer (some ⟨b2, 0, none⟩) := hF.done 1 (28, SP.is (.pointer (some ⟨b2, 0, none⟩))) (by rw [hD]; rfl) (hall 1 (by decide))
    have h29 : ac.eval (.tmp 29) = .slice Ak m ck := hF.done 2 (29, SP.is (.slice Ak m ck)) (by rw [hD]; rfl) (hall 2 (by decide))
    obtain ⟨x30, h30⟩ : ∃ x, ac.eval (.tmp 30) = x := ⟨_, rfl⟩
    have h31 : ac.eval (.tmp 31) = .agg M.toArray := hF.done 4 (31, SP.is (.agg M.toArray)) (by rw [hD]; rfl) (hall 4 (by decide))
    have h32 : ac.eval (.tmp 32) = .pointer (some ⟨hb, 0, none⟩) := hF.done 5 (32, SP.is (.pointer (some ⟨hb, 0, none⟩))) (by rw [hD]; rfl) (hall 5 (by decide))
    have h33 : ac.eval (.tmp 33) = .iface 48 (.pointer (some ⟨hb, 0, none⟩)) := hF.done 6 (33, SP.is (.iface 48 (.pointer (some ⟨hb, 0, none⟩)))) (by rw [hD]; rfl) (hall 6 (by decide))
    have h34 : ac.eval (.tmp 34) = .tuple #[.agg RV.toArray, .int .i64 RE] := hF.done 7 (34, SP.is (.tuple #[.agg RV.toArray, .int .i64 RE])) (by rw [hD]; rfl) (hall 7 (by decide))
    have h26 : ac.eval (.tmp 26) = .tuple #[.agg RV.toArray, .int .i64 RE] := hF.done 8 (26, SP.is (.tuple #[.agg RV.toArray, .int .i64 RE])) (by rw [hD]; rfl) (hall 8 (by decide))
    have h35 : ac.eval (.tmp 35) = .agg RV.toArray := hF.done 9 (35, SP.is (.agg RV.toArray)) (by rw [hD]; rfl) (hall 9 (by decide))
    have h36 : ac.eval (.tmp 36) = .int .i64 RE := hF.done 10 (36, SP.is (.int .i64 RE)) (by rw [hD]; rfl) (hall 10 (by decide))
    have h10 : ac.eval (.tmp 10) = .int .i64 RE := hF.done 13 (10, SP.is (.int .i64 RE)) (by rw [hD]; rfl) (hall 13 (by decide))
    have ea := hF.lay [(27, x27), (28, .pointer (some ⟨b2, 0, none⟩)), (29, .slice Ak m ck), (30, x30), (31, .agg M.toArray), (32, .pointer (some ⟨hb, 0, none⟩)), (33, .iface 48 (.pointer (some ⟨hb, 0, none⟩))), (34, .tuple #[.agg RV.toArray, .int .i64 RE]), (26, .tuple #[.agg RV.toArray, .int .i64 RE]), (35, .agg RV.toArray), (36, .int .i64 RE), (9, .pointer (some ⟨NN, 0, none⟩)), (10, .int .i64 RE)] (by rw [hD, hsz]; rfl) (by simp only [List.forall_mem_cons, List.not_mem_nil, false_implies, implies_true, and_true]; exact ⟨h27, h28, h29, h30, h31, h32, h33, h34, h26, h35, h36, ea9, h10⟩)
    rw [ha0] at ea
    simp only [List.foldl_cons, List.foldl_nil, List.setIfInBounds_toArray, List.set_cons_zero, List.set_cons_succ] at ea
    clear hF hall hr hl hD hpre hal ti0 ti3 zs2 zs7 zs8 ha0 hsz h27 h28 h29 h30 h31 h32 h33 h34 h26 h35 h36 ea9 h10
    subst ea
    obtain ⟨qv9, hh9⟩ := hpost
    obtain ⟨A7, c7, hq7, _, _⟩ := Lw.form hh9.own
    subst hq7
    have hc := hh9.row.cell 1 _ rfl
    have HFO : Hid (Lw W tAk 30 (.slice A7 Q.length c7) Q.length Q.flatten) := hh9.own
    have BW : Hid (Below w.heap.size w W) := hb1
    have R4 : Hid (Row W b4 zR 35) := r4
    obtain ⟨n7, hn7⟩ : ∃ n, n = Q.length := ⟨_, rfl⟩
    rw [← hn7] at hc HFO
    have HN7 : Hid (n7 = Q.length) := hn7
    obtain ⟨a0, a1, a2, a3, a4, hRV⟩ := HRVF.out
    have HRVE : Hid (RV = [.int .u64 a0, .int .u64 a1, .int .u64 a2, .int .u64 a3, .int .i64 a4]) := hRV
    rw [hRV] at rN
    have u0 := rN.cell 0 _ rfl
    have v0 := r4.cell 0 _ rfl
    have vf0 := r4.thaw 0
    have u1 := rN.cell 1 _ rfl
    have v1 := r4.cell 1 _ rfl
    have vf1 := r4.thaw 1
    have u2 := rN.cell 2 _ rfl
    have v2 := r4.cell 2 _ rfl
    have vf2 := r4.thaw 2
    have u3 := rN.cell 3 _ rfl
    have v3 := r4.cell 3 _ rfl
    have vf3 := r4.thaw 3
    have u4 := rN.cell 4 _ rfl
    have v4 := r4.cell 4 _ rfl
    have vf4 := r4.thaw 4
    have nb : b4 ≠ NN := by omega
    have nb' : NN ≠ b4 := by omega
    have nh : hb ≠ b4 := fun e => row_ne2 r4 hh9.row (by decide) e.symm
    have nh' : b4 ≠ hb := fun e => nh e.symm
    clear hn7 hRV rN r4 hb1 rp rcl mN hh9 hszW l2 l4 l8 hLa
    go_wp2_with fail
    go_region
    all_goals
      have RF := ((((R4.out.set 0 (.int .u64 a0)).set 1 (.int .u64 a1)).set 2 (.int .u64 a2)).set 3 (.int .u64 a3)).set 4 (.int .i64 a4)
      have GF : Gro (· = b4) W _ := (((((Gro.refl (· = b4) W).set b4 0 (.int .u64 a0) rfl).set b4 1 (.int .u64 a1) rfl).set b4 2 (.int .u64 a2) rfl).set b4 3 (.int .u64 a3) rfl).set b4 4 (.int .i64 a4) rfl
      have GFD := gro_drew GF
      have RFD := RF.drew
      have BF := BW.out.trans (GFD.to_below BW.out.size (fun k e => by rw [e]; exact HW4.out))
      have LF := Lw.gro HFO.out GFD (Lw.ne HFO.out R4.out (by decide))
      go_wp2_with fail
      refine bodyPost_ret (results_rowS_tt Try.results6 _ _ b4 35 [.int .u64 a0, .int .u64 a1, .int .u64 a2, .int .u64 a3, .int .i64 a4] (.int .i64 RE) (.slice A7 n7 c7) rfl rfl rfl RFD Try.underlying35 info_Ran) rfl ?_
      exact ⟨A7, c7, by rw [HRVE.out, ← HN7.out], by rw [← HN7.out]; exact LF, BF⟩

end Go.Proofs.Ytabcglakdlkdcaa
