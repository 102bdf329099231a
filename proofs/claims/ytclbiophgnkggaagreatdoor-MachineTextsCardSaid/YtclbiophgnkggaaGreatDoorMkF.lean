/-
  readInstruction.
-/
import Derived.Test.YtclbiophgnkggaaGreatDoorMkE
namespace Go.Proofs.YtclbiophgnkggaaGreatDoor
open Go Go.RowKit
open Sha
open Wd

section
variable {P : Program} {ops : Array Oper} {rest : List Oper} {op : Oper} {a : Act} {w : World} {Q : Exit → Act → World → Prop}
theorem wpList_slice_fromE (hgd : op.guard = none) (t : TypeId) (x y : Operand) (ho : op.op = .slice t x (some y) none none) (e ab ao len cap m : Nat) (l : Int) (A : Addr) (hx : a.eval x = .slice (some ⟨ab, ao, none⟩) len cap) (hy : a.eval y = .int .i64 l)
    (hl : l = (m : Int)) (hA : A = if cap = m then ⟨ab, ao, none⟩ else ⟨ab, ao + m, none⟩) (hm : m ≤ len) (hu : P.underlying t = some (.slice e)) (hs : (P.info? e).map (·.size) = some 1)
    (h : wpList P ops Q rest (a.put op.dst (.slice (some A) (len - m) (cap - m))) w) : wpList P ops Q (op :: rest) a w :=
  wpList_plain hgd fun _ hK => by
    unfold Oper.wp execOp
    simp only [ho, hx, hy, Option.map_some, Option.map_none, Sem.run_bind, run_slice_from w t e ab ao len cap m l hl hm hu hs, Result.andThen_ok, Sem.run_pure, Oper.upon_value]
    rw [← hA]
    exact hK _ _ h
end
abbrev ic0 (m : Nat) : List Value := [.int .i64 (m : Int), .int .i64 0, .int .u64 0, .int .u64 0, .int .u64 0, .int .u64 0, .int .i64 0]
theorem ow_take (k : Nat) (r : List (BitVec 8)) (d : Nat) (hd : d = ow k r) (hl : d ≤ r.length) : d = ow k (r.take d) := by
  by_cases k0 : k = 0
  · subst k0; exact hd
  · have := ow_pos k k0 r
    cases r with
    | nil => simp at hl; omega
    | cons x r =>
      obtain ⟨e, rfl⟩ : ∃ e, d = e + 1 := ⟨d - 1, by omega⟩
      exact hd
theorem ow_le (k : Nat) (r : List (BitVec 8)) : ow k r ≤ 256 := by
  unfold ow
  split
  · decide
  · split
    · decide
    · split
      · split
        · decide
        · rename_i x _; have := x.isLt; omega
      · decide
theorem SlAt.take' {w : World} {A : Option Addr} {n c : Nat} {d : List (BitVec 8)} (h : SlAt w (.slice A n c) d) (hn : n = d.length) (k : Nat) (hk : k ≤ n) : SlAt w (.slice A k c) (d.take k) := by
  have e : (d.take k).length = k := by rw [List.length_take]; omega
  rcases h with ⟨h0, _⟩ | ⟨g, o, c', e', hc, hr⟩
  · subst h0
    simp at hn
    obtain rfl : k = 0 := by omega
    exact .inl ⟨rfl, _, _, rfl⟩
  · simp only [Value.slice.injEq] at e'
    obtain ⟨rfl, _, rfl⟩ := e'
    refine .inr ⟨g, o, _, by rw [e], by rw [e]; omega, fun j v hj => hr j v ?_⟩
    unfold vB at hj ⊢
    rw [List.map_take, List.getElem?_take] at hj
    split at hj
    · exact hj
    · cases hj
theorem ic0_ic (m : Nat) : ic0 m = ic m 0 0 0 := by unfold ic; rw [wq_zero]; rfl
theorem ic0_one (m : Nat) : (ic0 m).toArray.all (·.oneCell') = true := by rw [ic0_ic]; exact ic_one _ _ _ _
theorem zI_one : zI.toArray.all (·.oneCell') = true := by rw [zI_ic]; exact ic_one _ _ _ _
set_option maxRecDepth 100000 in
set_option maxHeartbeats 4000000 in
theorem ri_1 (T g o n cap m : Nat) (hm : m < 256) (r : List (BitVec 8)) (hn : r.length + 1 = n) (hc : n ≤ cap) (h28 : 28 ≤ m) (w : World) (hT : Row w T mtab 84) (hr : w.rangeAt g (o + 1) (vB r)) (c0 : w.cell? ⟨g, o, none⟩ = some (.int .u8 (m : Int))) : Calls Tryz.prog 57 #[.slice (some ⟨T, 0, none⟩) 28 28, .slice (some ⟨g, o, none⟩) n cap] w fun e w' => e = .returned (.tuple #[.agg zI.toArray, .int .i64 0]) ∧ Below w.heap.size w w' := by
  have HT : Hid (Row w T mtab 84) := hT
  have HR : Hid (w.rangeAt g (o + 1) (vB r)) := hr
  have HN : Hid (r.length + 1 = n) := hn
  have HC : Hid (n ≤ cap) := hc
  have C0 : Hid (w.cell? ⟨g, o, none⟩ = some (.int .u8 (m : Int))) := c0
  have hn0 : 0 < n := by omega
  clear hT hr hn hc c0
  go_enter Tryz.func57, Tryz.ntmps57
  go_upto_region 1 with (refine wpList_allocI rfl rfl ?_; intro X1 q1 q2 q3; have R1 : Hid (Row X1 w.heap.size zI 53) := q1; have B1 : Hid (Below w.heap.size w X1) := q2; have S1 : Hid (X1.heap.size = w.heap.size + 1) := q3; clear q1 q2 q3; simp only [Act.put, List.setIfInBounds_toArray, List.set_cons_zero, List.set_cons_succ])
  have c0 : X1.cell? ⟨g, o, none⟩ = some (.int .u8 (m : Int)) := cell_be C0.out B1.out
  go_upto_region 2 with (first
    | (refine wpList_allocI rfl rfl ?_; intro X2 q1 q2 q3; have R2 : Hid (Row X2 X1.heap.size zI 53) := q1; have B2 : Hid (Below X1.heap.size X1 X2) := q2; have S2 : Hid (X2.heap.size = X1.heap.size + 1) := q3; clear q1 q2 q3; simp only [Act.put, List.setIfInBounds_toArray, List.set_cons_zero, List.set_cons_succ])
    | (refine wpList_storeL rfl 53 (.tmp 6) (.tmp 14) rfl X1.heap.size (ic0 m) zI 53 rfl rfl R2.out rfl info_I (ic0_one m) ?_; intro X3 q1 q2; have E3 : Hid (X3 = _) := q1; have R3 : Hid (Row X3 X1.heap.size (ic0 m) 53) := q2; clear q1 q2; simp only [Act.put]))
  obtain ⟨p, hp⟩ : ∃ p, p = X1.heap.size := ⟨_, rfl⟩
  obtain ⟨q, hq⟩ : ∃ q, q = w.heap.size := ⟨_, rfl⟩
  have HQ : Hid (q = w.heap.size) := hq
  have HPQ : Hid (p = q + 1) := by show _ = _; rw [hp, hq]; exact S1.out
  rw [← hp] at R3 E3 R2 B2
  rw [← hq] at R1
  rw [← hp, ← hq]
  have hB : Below w.heap.size w X3 := by rw [E3.out]; exact below_setCells (B1.out.trans (B2.out.mono (by rw [HPQ.out, HQ.out]; omega))) (by rw [HPQ.out, HQ.out]; omega) _
  have BB : Hid (Below w.heap.size w X3) := hB
  have RQ : Hid (Row X3 q zI 53) := by rw [E3.out]; exact Row.setCells_other (Row.below R1.out B2.out (by rw [HPQ.out]; omega)) _ _ _ (by rw [HPQ.out]; omega)
  have RP : Hid (Row X3 p (ic m 0 0 0) 53) := by rw [← ic0_ic]; exact R3.out
  have RT : Hid (Row X3 T mtab 84) := Row.below HT.out hB HT.out.lt
  have RR : Hid (X3.rangeAt g (o + 1) (vB r)) := range_be HR.out hB
  clear hp hq hB E3 R3 R2 R1 B1 B2 S1 S2 c0 C0 HT HR
  have cp := RP.out.cell 0 _ (ic_0 m 0 0 0)
  go_wp2_with (refine wpList_storeL rfl 53 (.tmp 4) (.tmp 20) rfl q zI zI 53 rfl rfl RQ.out rfl info_I zI_one ?_; intro X9 q1 q2; have E9 : Hid (X9 = _) := q1; have R9 : Hid (Row X9 q zI 53) := q2; clear q1 q2; simp only [Act.put])
  have hE : Below w.heap.size w X9 := by rw [E9.out]; exact below_setCells BB.out (by rw [HQ.out]; exact Nat.le_refl _) _
  exact bodyPost_ret (results_rowS_tmp Tryz.results57 _ _ q 53 zI (.int .i64 0) rfl rfl R9.out Tryz.underlying53 info_I) rfl ⟨rfl, hE⟩
set_option maxRecDepth 100000 in
set_option maxHeartbeats 4000000 in
theorem ri_2 (T g o n cap m : Nat) (hm : m < 256) (r : List (BitVec 8)) (hn : r.length + 1 = n) (hc : n ≤ cap) (h28 : m < 28) (hy : r.length < ow (oper m) r) (w : World) (hT : Row w T mtab 84) (hr : w.rangeAt g (o + 1) (vB r)) (c0 : w.cell? ⟨g, o, none⟩ = some (.int .u8 (m : Int))) : Calls Tryz.prog 57 #[.slice (some ⟨T, 0, none⟩) 28 28, .slice (some ⟨g, o, none⟩) n cap] w fun e w' => e = .returned (.tuple #[.agg zI.toArray, .int .i64 0]) ∧ Below w.heap.size w w' := by
  have HY : Hid (r.length < ow (oper m) r) := hy
  clear hy
  have HT : Hid (Row w T mtab 84) := hT
  have HR : Hid (w.rangeAt g (o + 1) (vB r)) := hr
  have HN : Hid (r.length + 1 = n) := hn
  have HC : Hid (n ≤ cap) := hc
  have C0 : Hid (w.cell? ⟨g, o, none⟩ = some (.int .u8 (m : Int))) := c0
  have hn0 : 0 < n := by omega
  clear hT hr hn hc c0
  go_enter Tryz.func57, Tryz.ntmps57
  go_upto_region 1 with (refine wpList_allocI rfl rfl ?_; intro X1 q1 q2 q3; have R1 : Hid (Row X1 w.heap.size zI 53) := q1; have B1 : Hid (Below w.heap.size w X1) := q2; have S1 : Hid (X1.heap.size = w.heap.size + 1) := q3; clear q1 q2 q3; simp only [Act.put, List.setIfInBounds_toArray, List.set_cons_zero, List.set_cons_succ])
  have c0 : X1.cell? ⟨g, o, none⟩ = some (.int .u8 (m : Int)) := cell_be C0.out B1.out
  go_upto_region 2 with (first
    | (refine wpList_allocI rfl rfl ?_; intro X2 q1 q2 q3; have R2 : Hid (Row X2 X1.heap.size zI 53) := q1; have B2 : Hid (Below X1.heap.size X1 X2) := q2; have S2 : Hid (X2.heap.size = X1.heap.size + 1) := q3; clear q1 q2 q3; simp only [Act.put, List.setIfInBounds_toArray, List.set_cons_zero, List.set_cons_succ])
    | (refine wpList_storeL rfl 53 (.tmp 6) (.tmp 14) rfl X1.heap.size (ic0 m) zI 53 rfl rfl R2.out rfl info_I (ic0_one m) ?_; intro X3 q1 q2; have E3 : Hid (X3 = _) := q1; have R3 : Hid (Row X3 X1.heap.size (ic0 m) 53) := q2; clear q1 q2; simp only [Act.put]))
  obtain ⟨p, hp⟩ : ∃ p, p = X1.heap.size := ⟨_, rfl⟩
  obtain ⟨q, hq⟩ : ∃ q, q = w.heap.size := ⟨_, rfl⟩
  have HQ : Hid (q = w.heap.size) := hq
  have HPQ : Hid (p = q + 1) := by show _ = _; rw [hp, hq]; exact S1.out
  rw [← hp] at R3 E3 R2 B2
  rw [← hq] at R1
  rw [← hp, ← hq]
  have hB : Below w.heap.size w X3 := by rw [E3.out]; exact below_setCells (B1.out.trans (B2.out.mono (by rw [HPQ.out, HQ.out]; omega))) (by rw [HPQ.out, HQ.out]; omega) _
  have BB : Hid (Below w.heap.size w X3) := hB
  have RQ : Hid (Row X3 q zI 53) := by rw [E3.out]; exact Row.setCells_other (Row.below R1.out B2.out (by rw [HPQ.out]; omega)) _ _ _ (by rw [HPQ.out]; omega)
  have RP : Hid (Row X3 p (ic m 0 0 0) 53) := by rw [← ic0_ic]; exact R3.out
  have RT : Hid (Row X3 T mtab 84) := Row.below HT.out hB HT.out.lt
  have RR : Hid (X3.rangeAt g (o + 1) (vB r)) := range_be HR.out hB
  clear hp hq hB E3 R3 R2 R1 B1 B2 S1 S2 c0 C0 HT HR
  have cp := RP.out.cell 0 _ (ic_0 m 0 0 0)
  obtain ⟨k, hk⟩ : ∃ k, k = oper m := ⟨_, rfl⟩
  have HK : Hid (k ≤ 5) := by show _ ≤ _; rw [hk]; exact oper_le m h28
  have ct := RT.out.cell (m * 6 + 1) _ (mtab_oper m h28)
  rw [← hk] at ct
  rw [← hk] at HY
  clear hk
  obtain ⟨A, hA⟩ : ∃ A : Addr, A = if cap = 1 then ⟨g, o, none⟩ else ⟨g, o + 1, none⟩ := ⟨_, rfl⟩
  have HA : Hid (A = if cap = 1 then ⟨g, o, none⟩ else ⟨g, o + 1, none⟩) := hA
  have HS : Hid (SlAt X3 (.slice (some A) r.length (cap - 1)) r) := by
    by_cases h0 : r = []
    · exact .inl ⟨h0, _, _, by rw [h0]; rfl⟩
    · have := List.length_pos_iff.2 h0
      have h1 := HN.out
      have h2 := HC.out
      rw [if_neg (by omega)] at hA
      exact .inr ⟨g, o + 1, cap - 1, by rw [hA], by omega, RR.out⟩
  have HN1 : Hid (n - 1 = r.length) := by show _ = _; have := HN.out; omega
  clear hA
  go_upto_region 4 with fail
  go_quiet (fail)
  obtain ⟨X4, h4⟩ : ∃ X4, X4 = X3.drewN nq := ⟨_, rfl⟩
  rw [← h4]
  replace BB : Hid (Below w.heap.size w X4) := by rw [h4]; exact below_drewN BB.out _
  replace RQ : Hid (Row X4 q zI 53) := by rw [h4]; exact RQ.out.drewN _
  replace RP : Hid (Row X4 p (ic m 0 0 0) 53) := by rw [h4]; exact RP.out.drewN _
  replace HS : Hid (SlAt X4 (.slice (some A) r.length (cap - 1)) r) := by rw [h4]; exact HS.out
  obtain ⟨l, hl⟩ : ∃ l, l = r.length := ⟨_, rfl⟩
  obtain ⟨c1, hc1⟩ : ∃ c, c = cap - 1 := ⟨_, rfl⟩
  have HLC : Hid (l ≤ c1) := by show _ ≤ _; rw [hl, hc1]; have h1 := HN.out; have h2 := HC.out; omega
  rw [show (if cap = 1 then some (⟨g, o, none⟩ : Addr) else some ⟨g, o + 1, none⟩) = some A by rw [HA.out]; split <;> rfl, HN1.out, ← hl, ← hc1]
  rw [← hl, ← hc1] at HS
  obtain ⟨d, hd⟩ : ∃ d, d = ow k r := ⟨_, rfl⟩
  have HOW : Hid _ := operandWidth_any k HK.out (some A) l c1 r hl.symm X4 HS.out
  have HD : Hid (d = ow k r) := hd
  have HL : Hid (l = r.length) := hl
  rw [← hd] at HOW
  clear h4 hc1 cp ct RT RR HN1 HA HN HC
  have hdl : l < d := by rw [hl, hd]; exact HY.out
  clear hd hl
  go_wp2_with (first | (go_at_call 82; refine Calls.mono HOW.out ?_; rintro e X5 ⟨rfl, hqq⟩; obtain rfl := hqq.symm) | (refine wpList_storeL rfl 53 (.tmp 4) (.tmp 36) rfl q zI zI 53 rfl rfl RQ.out rfl info_I zI_one ?_; intro X9 q1 q2; have E9 : Hid (X9 = _) := q1; have R9 : Hid (Row X9 q zI 53) := q2; clear q1 q2; simp only [Act.put]))
  have hE : Below w.heap.size w X9 := by rw [E9.out]; exact below_setCells BB.out (by rw [HQ.out]; exact Nat.le_refl _) _
  exact bodyPost_ret (results_rowS_tmp Tryz.results57 _ _ q 53 zI (.int .i64 0) rfl rfl R9.out Tryz.underlying53 info_I) rfl ⟨rfl, hE⟩
set_option maxRecDepth 100000 in
set_option maxHeartbeats 4000000 in
theorem ri_3 (T g o n cap m : Nat) (hm : m < 256) (r : List (BitVec 8)) (hn : r.length + 1 = n) (hc : n ≤ cap) (h28 : m < 28) (hy : ow (oper m) r ≤ r.length) (hz : ro (oper m) (r.take (ow (oper m) r)) = none) (w : World) (hT : Row w T mtab 84) (hr : w.rangeAt g (o + 1) (vB r)) (c0 : w.cell? ⟨g, o, none⟩ = some (.int .u8 (m : Int))) : Calls Tryz.prog 57 #[.slice (some ⟨T, 0, none⟩) 28 28, .slice (some ⟨g, o, none⟩) n cap] w fun e w' => e = .returned (.tuple #[.agg zI.toArray, .int .i64 0]) ∧ Below w.heap.size w w' := by
  have HY : Hid (ow (oper m) r ≤ r.length ∧ ro (oper m) (r.take (ow (oper m) r)) = none) := ⟨hy, hz⟩
  clear hy hz
  have HT : Hid (Row w T mtab 84) := hT
  have HR : Hid (w.rangeAt g (o + 1) (vB r)) := hr
  have HN : Hid (r.length + 1 = n) := hn
  have HC : Hid (n ≤ cap) := hc
  have C0 : Hid (w.cell? ⟨g, o, none⟩ = some (.int .u8 (m : Int))) := c0
  have hn0 : 0 < n := by omega
  clear hT hr hn hc c0
  go_enter Tryz.func57, Tryz.ntmps57
  go_upto_region 1 with (refine wpList_allocI rfl rfl ?_; intro X1 q1 q2 q3; have R1 : Hid (Row X1 w.heap.size zI 53) := q1; have B1 : Hid (Below w.heap.size w X1) := q2; have S1 : Hid (X1.heap.size = w.heap.size + 1) := q3; clear q1 q2 q3; simp only [Act.put, List.setIfInBounds_toArray, List.set_cons_zero, List.set_cons_succ])
  have c0 : X1.cell? ⟨g, o, none⟩ = some (.int .u8 (m : Int)) := cell_be C0.out B1.out
  go_upto_region 2 with (first
    | (refine wpList_allocI rfl rfl ?_; intro X2 q1 q2 q3; have R2 : Hid (Row X2 X1.heap.size zI 53) := q1; have B2 : Hid (Below X1.heap.size X1 X2) := q2; have S2 : Hid (X2.heap.size = X1.heap.size + 1) := q3; clear q1 q2 q3; simp only [Act.put, List.setIfInBounds_toArray, List.set_cons_zero, List.set_cons_succ])
    | (refine wpList_storeL rfl 53 (.tmp 6) (.tmp 14) rfl X1.heap.size (ic0 m) zI 53 rfl rfl R2.out rfl info_I (ic0_one m) ?_; intro X3 q1 q2; have E3 : Hid (X3 = _) := q1; have R3 : Hid (Row X3 X1.heap.size (ic0 m) 53) := q2; clear q1 q2; simp only [Act.put]))
  obtain ⟨p, hp⟩ : ∃ p, p = X1.heap.size := ⟨_, rfl⟩
  obtain ⟨q, hq⟩ : ∃ q, q = w.heap.size := ⟨_, rfl⟩
  have HQ : Hid (q = w.heap.size) := hq
  have HPQ : Hid (p = q + 1) := by show _ = _; rw [hp, hq]; exact S1.out
  rw [← hp] at R3 E3 R2 B2
  rw [← hq] at R1
  rw [← hp, ← hq]
  have hB : Below w.heap.size w X3 := by rw [E3.out]; exact below_setCells (B1.out.trans (B2.out.mono (by rw [HPQ.out, HQ.out]; omega))) (by rw [HPQ.out, HQ.out]; omega) _
  have BB : Hid (Below w.heap.size w X3) := hB
  have RQ : Hid (Row X3 q zI 53) := by rw [E3.out]; exact Row.setCells_other (Row.below R1.out B2.out (by rw [HPQ.out]; omega)) _ _ _ (by rw [HPQ.out]; omega)
  have RP : Hid (Row X3 p (ic m 0 0 0) 53) := by rw [← ic0_ic]; exact R3.out
  have RT : Hid (Row X3 T mtab 84) := Row.below HT.out hB HT.out.lt
  have RR : Hid (X3.rangeAt g (o + 1) (vB r)) := range_be HR.out hB
  clear hp hq hB E3 R3 R2 R1 B1 B2 S1 S2 c0 C0 HT HR
  have cp := RP.out.cell 0 _ (ic_0 m 0 0 0)
  obtain ⟨k, hk⟩ : ∃ k, k = oper m := ⟨_, rfl⟩
  have HK : Hid (k ≤ 5) := by show _ ≤ _; rw [hk]; exact oper_le m h28
  have ct := RT.out.cell (m * 6 + 1) _ (mtab_oper m h28)
  rw [← hk] at ct
  rw [← hk] at HY
  clear hk
  obtain ⟨A, hA⟩ : ∃ A : Addr, A = if cap = 1 then ⟨g, o, none⟩ else ⟨g, o + 1, none⟩ := ⟨_, rfl⟩
  have HA : Hid (A = if cap = 1 then ⟨g, o, none⟩ else ⟨g, o + 1, none⟩) := hA
  have HS : Hid (SlAt X3 (.slice (some A) r.length (cap - 1)) r) := by
    by_cases h0 : r = []
    · exact .inl ⟨h0, _, _, by rw [h0]; rfl⟩
    · have := List.length_pos_iff.2 h0
      have h1 := HN.out
      have h2 := HC.out
      rw [if_neg (by omega)] at hA
      exact .inr ⟨g, o + 1, cap - 1, by rw [hA], by omega, RR.out⟩
  have HN1 : Hid (n - 1 = r.length) := by show _ = _; have := HN.out; omega
  clear hA
  go_upto_region 4 with fail
  go_quiet (fail)
  obtain ⟨X4, h4⟩ : ∃ X4, X4 = X3.drewN nq := ⟨_, rfl⟩
  rw [← h4]
  replace BB : Hid (Below w.heap.size w X4) := by rw [h4]; exact below_drewN BB.out _
  replace RQ : Hid (Row X4 q zI 53) := by rw [h4]; exact RQ.out.drewN _
  replace RP : Hid (Row X4 p (ic m 0 0 0) 53) := by rw [h4]; exact RP.out.drewN _
  replace HS : Hid (SlAt X4 (.slice (some A) r.length (cap - 1)) r) := by rw [h4]; exact HS.out
  obtain ⟨l, hl⟩ : ∃ l, l = r.length := ⟨_, rfl⟩
  obtain ⟨c1, hc1⟩ : ∃ c, c = cap - 1 := ⟨_, rfl⟩
  have HLC : Hid (l ≤ c1) := by show _ ≤ _; rw [hl, hc1]; have h1 := HN.out; have h2 := HC.out; omega
  rw [show (if cap = 1 then some (⟨g, o, none⟩ : Addr) else some ⟨g, o + 1, none⟩) = some A by rw [HA.out]; split <;> rfl, HN1.out, ← hl, ← hc1]
  rw [← hl, ← hc1] at HS
  obtain ⟨d, hd⟩ : ∃ d, d = ow k r := ⟨_, rfl⟩
  have HOW : Hid _ := operandWidth_any k HK.out (some A) l c1 r hl.symm X4 HS.out
  have HD : Hid (d = ow k r) := hd
  have HL : Hid (l = r.length) := hl
  rw [← hd] at HOW
  clear h4 hc1 cp ct RT RR HN1 HA HN HC
  have hdl : d ≤ l := by rw [hl, hd]; exact HY.out.1
  have hdc : d ≤ c1 := Nat.le_trans hdl HLC.out
  have HTL : Hid ((r.take d).length = d) := by show _ = _; rw [List.length_take, ← hl]; omega
  have HTW : Hid (d = ow k (r.take d)) := ow_take k r d hd (by rw [← hl]; exact hdl)
  have HTS : Hid (SlAt X4 (.slice (some A) d c1) (r.take d)) := HS.out.take' hl d hdl
  have HRO : Hid _ := readOperand_none k p d c1 HK.out (some A) (r.take d) HTL.out HTW.out (by rw [hd]; exact HY.out.2) X4 HTS.out
  clear hd hl HY
  go_wp2_with (first | (go_at_call 82; refine Calls.mono HOW.out ?_; rintro e X5 ⟨rfl, hqq⟩; obtain rfl := hqq.symm) | (go_at_call 83; refine Calls.mono HRO.out ?_; rintro e X6 ⟨rfl, hqq⟩; obtain rfl := hqq.symm) | (refine wpList_storeL rfl 53 (.tmp 4) (.tmp 43) rfl q zI zI 53 rfl rfl RQ.out rfl info_I zI_one ?_; intro X9 q1 q2; have E9 : Hid (X9 = _) := q1; have R9 : Hid (Row X9 q zI 53) := q2; clear q1 q2; simp only [Act.put]))
  have hE : Below w.heap.size w X9 := by rw [E9.out]; exact below_setCells BB.out (by rw [HQ.out]; exact Nat.le_refl _) _
  exact bodyPost_ret (results_rowS_tmp Tryz.results57 _ _ q 53 zI (.int .i64 0) rfl rfl R9.out Tryz.underlying53 info_I) rfl ⟨rfl, hE⟩
set_option maxRecDepth 100000 in
set_option maxHeartbeats 4000000 in
theorem ri_4 (T g o n cap m : Nat) (hm : m < 256) (r : List (BitVec 8)) (hn : r.length + 1 = n) (hc : n ≤ cap) (h28 : m < 28) (hy : ow (oper m) r ≤ r.length) (na nn : Nat) (hz : ro (oper m) (r.take (ow (oper m) r)) = some (na, nn)) (w : World) (hT : Row w T mtab 84) (hr : w.rangeAt g (o + 1) (vB r)) (c0 : w.cell? ⟨g, o, none⟩ = some (.int .u8 (m : Int))) : Calls Tryz.prog 57 #[.slice (some ⟨T, 0, none⟩) 28 28, .slice (some ⟨g, o, none⟩) n cap] w fun e w' => e = .returned (.tuple #[.agg (ic m 0 na nn).toArray, .int .i64 ((1 + ow (oper m) r : Nat) : Int)]) ∧ Below w.heap.size w w' := by
  have HY : Hid (ow (oper m) r ≤ r.length ∧ ro (oper m) (r.take (ow (oper m) r)) = some (na, nn)) := ⟨hy, hz⟩
  clear hy hz
  obtain ⟨Y, hY⟩ : ∃ Y, Y = 1 + ow (oper m) r := ⟨_, rfl⟩
  have HYY : Hid (Y = 1 + ow (oper m) r) := hY
  rw [← hY]
  clear hY
  have HT : Hid (Row w T mtab 84) := hT
  have HR : Hid (w.rangeAt g (o + 1) (vB r)) := hr
  have HN : Hid (r.length + 1 = n) := hn
  have HC : Hid (n ≤ cap) := hc
  have C0 : Hid (w.cell? ⟨g, o, none⟩ = some (.int .u8 (m : Int))) := c0
  have hn0 : 0 < n := by omega
  clear hT hr hn hc c0
  go_enter Tryz.func57, Tryz.ntmps57
  go_upto_region 1 with (refine wpList_allocI rfl rfl ?_; intro X1 q1 q2 q3; have R1 : Hid (Row X1 w.heap.size zI 53) := q1; have B1 : Hid (Below w.heap.size w X1) := q2; have S1 : Hid (X1.heap.size = w.heap.size + 1) := q3; clear q1 q2 q3; simp only [Act.put, List.setIfInBounds_toArray, List.set_cons_zero, List.set_cons_succ])
  have c0 : X1.cell? ⟨g, o, none⟩ = some (.int .u8 (m : Int)) := cell_be C0.out B1.out
  go_upto_region 2 with (first
    | (refine wpList_allocI rfl rfl ?_; intro X2 q1 q2 q3; have R2 : Hid (Row X2 X1.heap.size zI 53) := q1; have B2 : Hid (Below X1.heap.size X1 X2) := q2; have S2 : Hid (X2.heap.size = X1.heap.size + 1) := q3; clear q1 q2 q3; simp only [Act.put, List.setIfInBounds_toArray, List.set_cons_zero, List.set_cons_succ])
    | (refine wpList_storeL rfl 53 (.tmp 6) (.tmp 14) rfl X1.heap.size (ic0 m) zI 53 rfl rfl R2.out rfl info_I (ic0_one m) ?_; intro X3 q1 q2; have E3 : Hid (X3 = _) := q1; have R3 : Hid (Row X3 X1.heap.size (ic0 m) 53) := q2; clear q1 q2; simp only [Act.put]))
  obtain ⟨p, hp⟩ : ∃ p, p = X1.heap.size := ⟨_, rfl⟩
  obtain ⟨q, hq⟩ : ∃ q, q = w.heap.size := ⟨_, rfl⟩
  have HQ : Hid (q = w.heap.size) := hq
  have HPQ : Hid (p = q + 1) := by show _ = _; rw [hp, hq]; exact S1.out
  rw [← hp] at R3 E3 R2 B2
  rw [← hq] at R1
  rw [← hp, ← hq]
  have hB : Below w.heap.size w X3 := by rw [E3.out]; exact below_setCells (B1.out.trans (B2.out.mono (by rw [HPQ.out, HQ.out]; omega))) (by rw [HPQ.out, HQ.out]; omega) _
  have BB : Hid (Below w.heap.size w X3) := hB
  have RQ : Hid (Row X3 q zI 53) := by rw [E3.out]; exact Row.setCells_other (Row.below R1.out B2.out (by rw [HPQ.out]; omega)) _ _ _ (by rw [HPQ.out]; omega)
  have RP : Hid (Row X3 p (ic m 0 0 0) 53) := by rw [← ic0_ic]; exact R3.out
  have RT : Hid (Row X3 T mtab 84) := Row.below HT.out hB HT.out.lt
  have RR : Hid (X3.rangeAt g (o + 1) (vB r)) := range_be HR.out hB
  clear hp hq hB E3 R3 R2 R1 B1 B2 S1 S2 c0 C0 HT HR
  have cp := RP.out.cell 0 _ (ic_0 m 0 0 0)
  obtain ⟨k, hk⟩ : ∃ k, k = oper m := ⟨_, rfl⟩
  have HK : Hid (k ≤ 5) := by show _ ≤ _; rw [hk]; exact oper_le m h28
  have ct := RT.out.cell (m * 6 + 1) _ (mtab_oper m h28)
  rw [← hk] at ct
  rw [← hk] at HY HYY
  clear hk
  obtain ⟨A, hA⟩ : ∃ A : Addr, A = if cap = 1 then ⟨g, o, none⟩ else ⟨g, o + 1, none⟩ := ⟨_, rfl⟩
  have HA : Hid (A = if cap = 1 then ⟨g, o, none⟩ else ⟨g, o + 1, none⟩) := hA
  have HS : Hid (SlAt X3 (.slice (some A) r.length (cap - 1)) r) := by
    by_cases h0 : r = []
    · exact .inl ⟨h0, _, _, by rw [h0]; rfl⟩
    · have := List.length_pos_iff.2 h0
      have h1 := HN.out
      have h2 := HC.out
      rw [if_neg (by omega)] at hA
      exact .inr ⟨g, o + 1, cap - 1, by rw [hA], by omega, RR.out⟩
  have HN1 : Hid (n - 1 = r.length) := by show _ = _; have := HN.out; omega
  clear hA
  go_upto_region 4 with fail
  go_quiet (fail)
  obtain ⟨X4, h4⟩ : ∃ X4, X4 = X3.drewN nq := ⟨_, rfl⟩
  rw [← h4]
  replace BB : Hid (Below w.heap.size w X4) := by rw [h4]; exact below_drewN BB.out _
  replace RQ : Hid (Row X4 q zI 53) := by rw [h4]; exact RQ.out.drewN _
  replace RP : Hid (Row X4 p (ic m 0 0 0) 53) := by rw [h4]; exact RP.out.drewN _
  replace HS : Hid (SlAt X4 (.slice (some A) r.length (cap - 1)) r) := by rw [h4]; exact HS.out
  obtain ⟨l, hl⟩ : ∃ l, l = r.length := ⟨_, rfl⟩
  obtain ⟨c1, hc1⟩ : ∃ c, c = cap - 1 := ⟨_, rfl⟩
  have HLC : Hid (l ≤ c1) := by show _ ≤ _; rw [hl, hc1]; have h1 := HN.out; have h2 := HC.out; omega
  rw [show (if cap = 1 then some (⟨g, o, none⟩ : Addr) else some ⟨g, o + 1, none⟩) = some A by rw [HA.out]; split <;> rfl, HN1.out, ← hl, ← hc1]
  rw [← hl, ← hc1] at HS
  obtain ⟨d, hd⟩ : ∃ d, d = ow k r := ⟨_, rfl⟩
  have HOW : Hid _ := operandWidth_any k HK.out (some A) l c1 r hl.symm X4 HS.out
  have HD : Hid (d = ow k r) := hd
  have HL : Hid (l = r.length) := hl
  rw [← hd] at HOW
  clear h4 hc1 cp ct RT RR HN1 HA HN HC
  have hdl : d ≤ l := by rw [hl, hd]; exact HY.out.1
  have hdc : d ≤ c1 := Nat.le_trans hdl HLC.out
  have HTL : Hid ((r.take d).length = d) := by show _ = _; rw [List.length_take, ← hl]; omega
  have HTW : Hid (d = ow k (r.take d)) := ow_take k r d hd (by rw [← hl]; exact hdl)
  have HTS : Hid (SlAt X4 (.slice (some A) d c1) (r.take d)) := HS.out.take' hl d hdl
  have HRO : Hid _ := readOperand_some k p d c1 m 0 na nn HK.out (some A) (r.take d) HTL.out HTW.out (by rw [hd]; exact HY.out.2) X4 HTS.out RP.out
  rw [← hd] at HYY
  obtain ⟨L, hL⟩ : ∃ L, L = ic m 0 na nn := ⟨_, rfl⟩
  rw [← hL] at HRO
  have HLL : Hid (L = ic m 0 na nn) := hL
  have HI : Hid ((Tryz.prog.info? 53).map (·.size) = some L.length) := by show _ = _; rw [hL]; exact info_Ic _ _ _ _
  have HN7 : Hid (L.length = zI.length) := by show _ = _; rw [hL]; exact ic_len _ _ _ _
  have HO : Hid (L.toArray.all (·.oneCell') = true) := by show _ = _; rw [hL]; exact ic_one _ _ _ _
  have d33 : d ≤ 256 := by rw [hd]; exact ow_le k r
  have hqp : ¬ q = p := by rw [HPQ.out]; omega
  clear hd hl HY hL
  go_wp2_with (first
    | (go_at_call 82; refine Calls.mono HOW.out ?_; rintro e X5 ⟨rfl, hqq⟩; obtain rfl := hqq.symm)
    | (go_at_call 83; refine Calls.mono HRO.out ?_; rintro e X6 ⟨rfl, qr, qg⟩; have R6 : Hid (Row X6 p L 53) := qr; have RQ6 : Hid (Row X6 q zI 53) := qg.row RQ.out hqp; have B6 : Hid (Below w.heap.size w X6) := BB.out.trans (qg.to_below BB.out.size (fun k e => by rw [e, HPQ.out, HQ.out]; omega)); clear qr qg)
    | (refine wpList_load_w rfl 53 (.tmp 6) rfl p 0 rfl L _ R6.out.all Tryz.underlying53 rfl HI.out ?_; simp only [Act.put, List.setIfInBounds_toArray, List.set_cons_zero, List.set_cons_succ])
    | (refine wpList_storeL rfl 53 (.tmp 4) (.tmp 44) rfl q L zI 53 rfl rfl RQ6.out HN7.out HI.out HO.out ?_; intro X9 q1 q2; have E9 : Hid (X9 = _) := q1; have R9 : Hid (Row X9 q L 53) := q2; clear q1 q2; simp only [Act.put]))
  have hE : Below w.heap.size w X9 := by rw [E9.out]; exact below_setCells B6.out (by rw [HQ.out]; exact Nat.le_refl _) _
  have hY : (1 : Int) + (d : Int) = (Y : Int) := by rw [HYY.out]; omega
  exact bodyPost_ret (results_rowS_tmp Tryz.results57 _ _ q 53 L (.int .i64 (Y : Int)) rfl (by rw [← hY]; rfl) R9.out Tryz.underlying53 HI.out) rfl ⟨by rw [HLL.out], hE⟩

end Go.Proofs.YtclbiophgnkggaaGreatDoor
