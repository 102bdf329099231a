/-
  Run, whatever the program and the call.
-/
import Derived.Test.YtabcglakdlkdcaaMkFh
namespace Go.Proofs.Ytabcglakdlkdcaa
open Go Go.RowKit
open Sha
open Wd

/-- What Run answers, and what the host was asked. -/
def mrun (pd : List (BitVec 8)) (c : Ca) (ags : List Nat) (rs : List (Nat × Int)) : (List Value × Int) × List (List Value) :=
  match chk pd with
  | none => ((zR, 100), [])
  | some ls => if 0 ≤ c.tok ∧ c.tok < 64 ∧ ags.length ≤ 8 ∧ 0 ≤ c.tm ∧ c.tm ≤ 4611686018427387904 ∧ 1 ≤ c.gas ∧ c.gas ≤ 10000 then
      (rans2 c.gas.toNat (ev2 c.cl ags ls rs 10001 [] c.gas.toNat 0 0).1, (ev2 c.cl ags ls rs 10001 [] c.gas.toNat 0 0).2)
    else ((zR, 101), [])
theorem read_none (pd : List (BitVec 8)) (hck : chk pd = none) (hm : pd.length < 9223372036854775808) (T g cg : Nat) (hcg : pd.length ≤ cg) (w : World) (hT : Row w T mtab 75) (hr : w.rangeAt g 0 (vB pd)) : Calls Try.prog 13 #[.slice (some ⟨T, 0, none⟩) 28 28, .slice (some ⟨g, 0, none⟩) pd.length cg] w fun e w' => e = .returned (.tuple #[.agg zP.toArray, .int .i64 100]) ∧ Below w.heap.size w w' := by
  by_cases h : pd.length = 0 ∨ 1024 < pd.length
  · refine Calls.mono (read_len T pd.length cg (some ⟨g, 0, none⟩) pd rfl h hm w) ?_
    rintro e w' ⟨⟨_, q⟩, hB⟩
    exact ⟨q, hB⟩
  · refine Calls.mono (read_any T g pd.length cg pd rfl (by omega) (by omega) hcg w hT hr) ?_
    rintro e w' ⟨q | q, hB⟩
    · obtain ⟨ls, v, gs, q1, _⟩ := q
      rw [hck] at q1
      cases q1
    · exact ⟨q.2, hB⟩
theorem read_some (pd : List (BitVec 8)) (m k : Nat) (ls : List Ins) (hpd : pd.length = m) (hck : chk pd = some ls) (hk : ls.length = k) (T g cg : Nat) (hcg : m ≤ cg) (w : World) (hT : Row w T mtab 75) (hr : w.rangeAt g 0 (vB pd)) : Calls Try.prog 13 #[.slice (some ⟨T, 0, none⟩) 28 28, .slice (some ⟨g, 0, none⟩) m cg] w fun e w' => ∃ A1 c1 gs, e = .returned (.tuple #[.agg #[.slice A1 k c1, .slice (some ⟨gs, 0, none⟩) m m], .int .i64 0]) ∧ Lw w' 77 7 (.slice A1 k c1) k (fl ls) ∧ Row w' gs (vI (sts ls m)) 3 ∧ Below w.heap.size w w' := by
  have hl := chk_ok hck
  refine Calls.mono (read_any T g m cg pd hpd (by omega) (by omega) hcg w hT hr) ?_
  rintro e w' ⟨h | h, hB⟩
  · obtain ⟨ls', v, gs, q1, _, rfl, q3, q4, _, _⟩ := h
    rw [hck] at q1
    obtain rfl := Option.some.inj q1
    rw [hk] at q3
    obtain ⟨A1, c1, rfl, _, _⟩ := Lw.form q3
    exact ⟨A1, c1, gs, rfl, q3, q4, hB⟩
  · rw [hck] at h
    cases h.1
theorem rans2_len (G : Nat) (R : Except Int (Nat × Nat)) : (rans2 G R).1.length = 5 ∧ (rans2 G R).1.toArray.all (·.oneCell') = true := by
  cases R with
  | error E => exact ⟨rfl, by rw [← Array.all_toList]; rfl⟩
  | ok y =>
    obtain ⟨v, l⟩ := y
    refine ⟨?_, ?_⟩
    · show (wq v ++ [_]).length = 5
      rw [List.length_append, wq_len]
      rfl
    · rw [← Array.all_toList]
      show (wq v ++ [_]).all _ = true
      have := wq_one v
      rw [← Array.all_toList] at this
      rw [List.all_append, this]
      rfl
theorem len24 {l : List Value} (h : l.length = 24) : ∃ y_0 y_1 y_2 y_3 y_4 y_5 y_6 y_7 y_8 y_9 y_10 y_11 y_12 y_13 y_14 y_15 y_16 y_17 y_18 y_19 y_20 y_21 y_22 y_23, l = [y_0, y_1, y_2, y_3, y_4, y_5, y_6, y_7, y_8, y_9, y_10, y_11, y_12, y_13, y_14, y_15, y_16, y_17, y_18, y_19, y_20, y_21, y_22, y_23] := by
  match l, h with
  | [y_0, y_1, y_2, y_3, y_4, y_5, y_6, y_7, y_8, y_9, y_10, y_11, y_12, y_13, y_14, y_15, y_16, y_17, y_18, y_19, y_20, y_21, y_22, y_23], _ => exact ⟨_, _, _, _, _, _, _, _, _, _, _, _, _, _, _, _, _, _, _, _, _, _, _, _, rfl⟩
theorem len48 {l : List Value} (h : l.length = 48) : ∃ y_0 y_1 y_2 y_3 y_4 y_5 y_6 y_7 y_8 y_9 y_10 y_11 y_12 y_13 y_14 y_15 y_16 y_17 y_18 y_19 y_20 y_21 y_22 y_23 y_24 y_25 y_26 y_27 y_28 y_29 y_30 y_31 y_32 y_33 y_34 y_35 y_36 y_37 y_38 y_39 y_40 y_41 y_42 y_43 y_44 y_45 y_46 y_47, l = [y_0, y_1, y_2, y_3, y_4, y_5, y_6, y_7, y_8, y_9, y_10, y_11, y_12, y_13, y_14, y_15, y_16, y_17, y_18, y_19, y_20, y_21, y_22, y_23, y_24, y_25, y_26, y_27, y_28, y_29, y_30, y_31, y_32, y_33, y_34, y_35, y_36, y_37, y_38, y_39, y_40, y_41, y_42, y_43, y_44, y_45, y_46, y_47] := by
  obtain ⟨y_0, y_1, y_2, y_3, y_4, y_5, y_6, y_7, y_8, y_9, y_10, y_11, y_12, y_13, y_14, y_15, y_16, y_17, y_18, y_19, y_20, y_21, y_22, y_23, h1⟩ := len24 (l := l.take 24) (by rw [List.length_take, h]; rfl)
  obtain ⟨y_24, y_25, y_26, y_27, y_28, y_29, y_30, y_31, y_32, y_33, y_34, y_35, y_36, y_37, y_38, y_39, y_40, y_41, y_42, y_43, y_44, y_45, y_46, y_47, h2⟩ := len24 (l := l.drop 24) (by rw [List.length_drop, h])
  exact ⟨y_0, y_1, y_2, y_3, y_4, y_5, y_6, y_7, y_8, y_9, y_10, y_11, y_12, y_13, y_14, y_15, y_16, y_17, y_18, y_19, y_20, y_21, y_22, y_23, y_24, y_25, y_26, y_27, y_28, y_29, y_30, y_31, y_32, y_33, y_34, y_35, y_36, y_37, y_38, y_39, y_40, y_41, y_42, y_43, y_44, y_45, y_46, y_47, (List.take_append_drop 24 l).symm.trans (by rw [h1, h2]; rfl)⟩
theorem built_run2 (T : Nat) (A1 : Option Addr) (n1 c1 gs n : Nat) (L : List Value) (hL : L.length = 48) (ht : TypeId) (hb G : Nat) : Try.prog.built 70 [(0, .slice (some ⟨T, 0, none⟩) 28 28), (1, .agg #[.slice A1 n1 c1, .slice (some ⟨gs, 0, none⟩) n n]), (2, .agg L.toArray), (3, .iface ht (.pointer (some ⟨hb, 0, none⟩))), (5, .int .i64 (G : Int))] = some (rc T (.slice A1 n1 c1) (.slice (some ⟨gs, 0, none⟩) n n) L (.iface ht (.pointer (some ⟨hb, 0, none⟩))) (.slice none 0 0) G 0 zW).toArray := by
  obtain ⟨y_0, y_1, y_2, y_3, y_4, y_5, y_6, y_7, y_8, y_9, y_10, y_11, y_12, y_13, y_14, y_15, y_16, y_17, y_18, y_19, y_20, y_21, y_22, y_23, y_24, y_25, y_26, y_27, y_28, y_29, y_30, y_31, y_32, y_33, y_34, y_35, y_36, y_37, y_38, y_39, y_40, y_41, y_42, y_43, y_44, y_45, y_46, y_47, rfl⟩ := len48 hL
  kernel_rfl
theorem Hst.fin {w X Z Y : World} {hb b : Nat} {rv qv iv : Value} {rs : List (Nat × Int)} {qs : List (List Value)} {inn : List (BitVec 8)} {cs : List Value} (k : Below w.heap.size w X) (h : Hst Z hb rv qv iv rs qs inn) (k2 : Gro (· = hb) X Z) (k3 : Gro (· = b) Z Y) (r : Row Z b cs 35) (hl : w.heap.size ≤ b) : Hst Y hb rv qv iv rs qs inn ∧ Gro (· = hb) w Y :=
  ⟨h.kh fun bb cs t ht rr => k3.row rr (fun e => by
    have hne : t ≠ 35 := by rcases ht with h | h | h | h <;> rw [h] <;> decide
    exact row_ne2 rr r hne e), ((Gro.of_below k).trans k2).then k3 (fun g e => .inr (by rw [e]; exact hl))⟩
set_option maxRecDepth 100000 in
set_option maxHeartbeats 4000000 in
theorem run_none {inn : List (BitVec 8)} (pd : List (BitVec 8)) (m : Nat) (hpd : pd.length = m) (hm : m < 9223372036854775808) (c : Ca) (hc : c.Wf) (ags : List Nat) (A : Option Addr) (ca : Nat) (g cg hb : Nat) (hcg : m ≤ cg) (rv iv : Value) (rs : List (Nat × Int)) (L : List Value) (hL : L = c.cs (.slice A ags.length ca)) (hck : chk pd = none) (w : World) (hr : w.rangeAt g 0 (vB pd)) (H : Hst w hb rv (.slice none 0 0) iv rs [] inn) : Calls Try.prog 10 #[.slice (some ⟨g, 0, none⟩) m cg, .agg L.toArray, .iface 48 (.pointer (some ⟨hb, 0, none⟩))] w fun e w' => e = .returned (.tuple #[.agg zR.toArray, .int .i64 100]) ∧ ∃ qv', Hst w' hb rv qv' iv rs [] inn ∧ Gro (· = hb) w w' := by
  have HR : Hid (w.rangeAt g 0 (vB pd)) := hr
  have HL : Hid (L = c.cs (.slice A ags.length ca)) := hL
  have HCW : Hid c.Wf := hc
  have HLI : Hid ((Try.prog.info? 30).map (·.size) = some L.length) := by show _ = _; rw [hL, Ca.len hc]; exact info_C
  have hq := hostsome_eq 48 (.pointer (some ⟨hb, 0, none⟩))
  have HCG : Hid (m ≤ cg) := hcg
  have HPD : Hid (pd.length = m) := hpd
  have HHO : Hid (Hst w hb rv (.slice none 0 0) iv rs [] inn) := H
  have HM63 : Hid (m < 9223372036854775808) := hm
  clear hr hL hcg hpd hc H hm
  go_enter Try.func10, Try.ntmps10
  go_upto_region 3 with (first
    | (refine wpList_boxG 30 rfl (.tmp 1) rfl L rfl ?_; intro X1 q1 q2 q3; have R4 : Hid (Row X1 w.heap.size L 30) := q1; have B1 : Hid (Below w.heap.size w X1) := q2; clear q1 q2 q3; simp only [Act.put, List.setIfInBounds_toArray, List.set_cons_zero, List.set_cons_succ])
    | (refine wpList_allocR rfl rfl ?_; intro X2 q1 q2 q3; have R6 : Hid (Row X2 X1.heap.size zR 35) := q1; have B2 : Hid (Below X1.heap.size X1 X2) := q2; clear q1 q2 q3; simp only [Act.put, List.setIfInBounds_toArray, List.set_cons_zero, List.set_cons_succ]))
  obtain ⟨b4, hb4⟩ : ∃ b, b = w.heap.size := ⟨_, rfl⟩
  obtain ⟨b6, hb6⟩ : ∃ b, b = X1.heap.size := ⟨_, rfl⟩
  have HB4 : Hid (b4 = w.heap.size ∧ w.heap.size ≤ b6) := ⟨hb4, by rw [hb6]; exact B1.out.size⟩
  have BB : Hid (Below w.heap.size w X2) := B1.out.trans (B2.out.mono B1.out.size)
  replace R4 : Hid (Row X2 b4 L 30) := by rw [hb4]; exact Row.below R4.out B2.out R4.out.lt
  replace R6 : Hid (Row X2 b6 zR 35) := by rw [hb6]; exact R6.out
  rw [← hb4, ← hb6]
  clear hb4 hb6 B1 B2 hq
  go_upto_region 4 with (go_at_call 12; refine Calls.mono (table_any X2) ?_; rintro e X3 ⟨rfl, qt, q2⟩; have RT : Hid (Row X3 X2.heap.size mtab 75) := qt; have B3 : Hid (Below w.heap.size w X3) := BB.out.trans (q2.mono BB.out.size); have R43 : Hid (Row X3 b4 L 30) := Row.below R4.out q2 R4.out.lt; have R63 : Hid (Row X3 b6 zR 35) := Row.below R6.out q2 R6.out.lt; clear qt q2 R4 R6 BB)
  obtain ⟨T, hT⟩ : ∃ T, T = X2.heap.size := ⟨_, rfl⟩
  rw [← hT] at RT
  rw [← hT]
  clear hT
  have HRD : Hid (Calls Try.prog 13 #[.slice (some ⟨T, 0, none⟩) 28 28, .slice (some ⟨g, 0, none⟩) m cg] X3 fun e w' => e = .returned (.tuple #[.agg zP.toArray, .int .i64 100]) ∧ Below X3.heap.size X3 w') := by rw [← HPD.out]; exact read_none pd hck (by rw [HPD.out]; exact HM63.out) T g cg (by rw [HPD.out]; exact HCG.out) X3 RT.out (range_be HR.out B3.out)
  clear hck
  go_upto_region 6 with (first
    | (go_at_call 13; refine Calls.mono HRD.out ?_; rintro e X4 ⟨rfl, q2⟩; have B4 : Hid (Below w.heap.size w X4) := B3.out.trans (q2.mono B3.out.size); have R64 : Hid (Row X4 b6 zR 35) := Row.below R63.out q2 R63.out.lt; clear q2)
    | (refine wpList_allocP rfl rfl ?_; intro X5 q1 q2 q3; have R9 : Hid (Row X5 X4.heap.size zP 63) := q1; have B5 : Hid (Below X4.heap.size X4 X5) := q2; clear q1 q2 q3; simp only [Act.put, List.setIfInBounds_toArray, List.set_cons_zero, List.set_cons_succ])
    | (refine wpList_storeL rfl 63 (.tmp 9) (.tmp 20) rfl X4.heap.size zP zP 63 rfl rfl R9.out rfl info_P zP_one ?_; intro X6 q1 q2; have E6 : Hid (X6 = _) := q1; clear q1 q2; simp only [Act.put]))
  have BY : Below X4.heap.size X4 X6 := by rw [E6.out]; exact below_setCells B5.out (Nat.le_refl _) _
  have B6 : Hid (Below w.heap.size w X6) := B4.out.trans (BY.mono B4.out.size)
  have RZ : Hid (Row X6 b6 zR 35) := Row.below R64.out BY R64.out.lt
  clear BY E6 R9 B5 B4 R64 R43 R63 B3 RT HRD
  go_wp2_with (refine wpList_storeL rfl 35 (.tmp 6) (.tmp 25) rfl b6 zR zR 35 rfl rfl RZ.out rfl info_Ran zR_one ?_; intro Z2 q1 q2; have EZ : Hid (Z2 = _) := q1; have RZ2 : Hid (Row Z2 b6 zR 35) := q2; clear q1 q2; simp only [Act.put])
  have hF := (HHO.out.below B6.out).fin B6.out (Gro.refl _ X6) (by rw [EZ.out]; exact gro_setCells b6 _ 0 X6 X6 (Gro.refl _ X6)) RZ.out HB4.out.2 (Y := Z2)
  refine bodyPost_ret (results_rowS_tmp Try.results10 _ _ b6 35 zR (.int .i64 100) rfl rfl RZ2.out Try.underlying35 info_Ran) rfl ?_
  exact ⟨rfl, _, hF⟩
set_option maxRecDepth 100000 in
set_option maxHeartbeats 4000000 in
theorem run_call {inn : List (BitVec 8)} (pd : List (BitVec 8)) (m : Nat) (hpd : pd.length = m) (hm : m < 9223372036854775808) (c : Ca) (hc : c.Wf) (ags : List Nat) (A : Option Addr) (ca : Nat) (g cg hb : Nat) (hcg : m ≤ cg) (rv iv : Value) (rs : List (Nat × Int)) (L : List Value) (hL : L = c.cs (.slice A ags.length ca)) (ls : List Ins) (hck : chk pd = some ls) (hmay : ¬ (0 ≤ c.tok ∧ c.tok < 64 ∧ ags.length ≤ 8 ∧ 0 ≤ c.tm ∧ c.tm ≤ 4611686018427387904 ∧ 1 ≤ c.gas ∧ c.gas ≤ 10000)) (w : World) (hr : w.rangeAt g 0 (vB pd)) (H : Hst w hb rv (.slice none 0 0) iv rs [] inn) : Calls Try.prog 10 #[.slice (some ⟨g, 0, none⟩) m cg, .agg L.toArray, .iface 48 (.pointer (some ⟨hb, 0, none⟩))] w fun e w' => e = .returned (.tuple #[.agg zR.toArray, .int .i64 101]) ∧ ∃ qv', Hst w' hb rv qv' iv rs [] inn ∧ Gro (· = hb) w w' := by
  have HMAY : Hid (¬ (0 ≤ c.tok ∧ c.tok < 64 ∧ ags.length ≤ 8 ∧ 0 ≤ c.tm ∧ c.tm ≤ 4611686018427387904 ∧ 1 ≤ c.gas ∧ c.gas ≤ 10000)) := hmay
  clear hmay
  have HR : Hid (w.rangeAt g 0 (vB pd)) := hr
  have HL : Hid (L = c.cs (.slice A ags.length ca)) := hL
  have HCW : Hid c.Wf := hc
  have HLI : Hid ((Try.prog.info? 30).map (·.size) = some L.length) := by show _ = _; rw [hL, Ca.len hc]; exact info_C
  have hq := hostsome_eq 48 (.pointer (some ⟨hb, 0, none⟩))
  have HCG : Hid (m ≤ cg) := hcg
  have HPD : Hid (pd.length = m) := hpd
  have HHO : Hid (Hst w hb rv (.slice none 0 0) iv rs [] inn) := H
  have HM63 : Hid (m < 9223372036854775808) := hm
  clear hr hL hcg hpd hc H hm
  go_enter Try.func10, Try.ntmps10
  go_upto_region 3 with (first
    | (refine wpList_boxG 30 rfl (.tmp 1) rfl L rfl ?_; intro X1 q1 q2 q3; have R4 : Hid (Row X1 w.heap.size L 30) := q1; have B1 : Hid (Below w.heap.size w X1) := q2; clear q1 q2 q3; simp only [Act.put, List.setIfInBounds_toArray, List.set_cons_zero, List.set_cons_succ])
    | (refine wpList_allocR rfl rfl ?_; intro X2 q1 q2 q3; have R6 : Hid (Row X2 X1.heap.size zR 35) := q1; have B2 : Hid (Below X1.heap.size X1 X2) := q2; clear q1 q2 q3; simp only [Act.put, List.setIfInBounds_toArray, List.set_cons_zero, List.set_cons_succ]))
  obtain ⟨b4, hb4⟩ : ∃ b, b = w.heap.size := ⟨_, rfl⟩
  obtain ⟨b6, hb6⟩ : ∃ b, b = X1.heap.size := ⟨_, rfl⟩
  have HB4 : Hid (b4 = w.heap.size ∧ w.heap.size ≤ b6) := ⟨hb4, by rw [hb6]; exact B1.out.size⟩
  have BB : Hid (Below w.heap.size w X2) := B1.out.trans (B2.out.mono B1.out.size)
  replace R4 : Hid (Row X2 b4 L 30) := by rw [hb4]; exact Row.below R4.out B2.out R4.out.lt
  replace R6 : Hid (Row X2 b6 zR 35) := by rw [hb6]; exact R6.out
  rw [← hb4, ← hb6]
  clear hb4 hb6 B1 B2 hq
  go_upto_region 4 with (go_at_call 12; refine Calls.mono (table_any X2) ?_; rintro e X3 ⟨rfl, qt, q2⟩; have RT : Hid (Row X3 X2.heap.size mtab 75) := qt; have B3 : Hid (Below w.heap.size w X3) := BB.out.trans (q2.mono BB.out.size); have R43 : Hid (Row X3 b4 L 30) := Row.below R4.out q2 R4.out.lt; have R63 : Hid (Row X3 b6 zR 35) := Row.below R6.out q2 R6.out.lt; clear qt q2 R4 R6 BB)
  obtain ⟨T, hT⟩ : ∃ T, T = X2.heap.size := ⟨_, rfl⟩
  rw [← hT] at RT
  rw [← hT]
  clear hT
  obtain ⟨k, hk⟩ : ∃ k, k = ls.length := ⟨_, rfl⟩
  have HK : Hid (k = ls.length) := hk
  have HCK : Hid (chk pd = some ls) := hck
  have HRD : Hid _ := read_some pd m k ls HPD.out hck hk.symm T g cg HCG.out X3 RT.out (range_be HR.out B3.out)
  clear hck hk
  go_upto_region 5 with (first
    | (go_at_call 13; refine Calls.mono HRD.out ?_; rintro e X4 ⟨A1, c1, gs, rfl, q3, q4, q2⟩; have LP : Hid (Lw X4 77 7 (.slice A1 k c1) k (fl ls)) := q3; have RS : Hid (Row X4 gs (vI (sts ls m)) 3) := q4; have B4 : Hid (Below w.heap.size w X4) := B3.out.trans (q2.mono B3.out.size); have RT4 : Hid (Row X4 T mtab 75) := Row.below RT.out q2 RT.out.lt; have R44 : Hid (Row X4 b4 L 30) := Row.below R43.out q2 R43.out.lt; have R64 : Hid (Row X4 b6 zR 35) := Row.below R63.out q2 R63.out.lt; clear q2 q3 q4)
    | (refine wpList_allocP rfl rfl ?_; intro X5 q1 q2 q3; have R9 : Hid (Row X5 X4.heap.size zP 63) := q1; have B5 : Hid (Below X4.heap.size X4 X5) := q2; clear q1 q2 q3; simp only [Act.put, List.setIfInBounds_toArray, List.set_cons_zero, List.set_cons_succ])
    | (refine wpList_storeL rfl 63 (.tmp 9) (.tmp 20) rfl X4.heap.size [.slice A1 k c1, .slice (some ⟨gs, 0, none⟩) m m] zP 63 rfl rfl R9.out rfl info_P (pp_one A1 _ _ _ m) ?_; intro X6 q1 q2; have E6 : Hid (X6 = _) := q1; have R96 : Hid (Row X6 X4.heap.size [.slice A1 k c1, .slice (some ⟨gs, 0, none⟩) m m] 63) := q2; clear q1 q2; simp only [Act.put]))
  have BY : Below X4.heap.size X4 X6 := by rw [E6.out]; exact below_setCells B5.out (Nat.le_refl _) _
  obtain ⟨b9, hb9⟩ : ∃ b, b = X4.heap.size := ⟨_, rfl⟩
  rw [← hb9] at R96
  rw [← hb9]
  have LP6 : Hid (Lw X6 77 7 (.slice A1 k c1) k (fl ls)) := Lw.be LP.out BY
  have RS6 : Hid (Row X6 gs (vI (sts ls m)) 3) := Row.below RS.out BY RS.out.lt
  have B6 : Hid (Below w.heap.size w X6) := B4.out.trans (BY.mono B4.out.size)
  have RT6 : Hid (Row X6 T mtab 75) := Row.below RT4.out BY RT4.out.lt
  have R46 : Hid (Row X6 b4 L 30) := Row.below R44.out BY R44.out.lt
  have R66 : Hid (Row X6 b6 zR 35) := Row.below R64.out BY R64.out.lt
  have hmball := mayBe_all L A ags.length ca c.tok c.tm c.gas (by rw [HL.out]; exact Ca.at40 HCW.out _) (by rw [HL.out]; exact Ca.at45 HCW.out _) (by rw [HL.out]; exact Ca.at46 HCW.out _) (by rw [HL.out]; exact Ca.at47 HCW.out _) X6
  have HMB : Hid _ := hmball.2 HMAY.out
  clear BY hb9 E6 R9 B5 LP RS B4 RT4 R44 R64 R43 R63 B3 RT HRD hmball
  go_upto_region 8 with (first
    | (refine wpList_load_w rfl 30 (.tmp 4) rfl b4 0 rfl L _ R46.out.all Try.underlying30 rfl HLI.out ?_; simp only [Act.put, List.setIfInBounds_toArray, List.set_cons_zero, List.set_cons_succ])
    | (go_at_call 14; refine Calls.mono HMB.out ?_; rintro e X7 ⟨rfl, q2⟩; have B7 : Hid (Below w.heap.size w X7) := B6.out.trans (q2.mono B6.out.size); have RZ : Hid (Row X7 b6 zR 35) := Row.below R66.out q2 R66.out.lt; clear q2))
  go_wp2_with (refine wpList_storeL rfl 35 (.tmp 6) (.tmp 31) rfl b6 zR zR 35 rfl rfl RZ.out rfl info_Ran zR_one ?_; intro Z2 q1 q2; have EZ : Hid (Z2 = _) := q1; have RZ2 : Hid (Row Z2 b6 zR 35) := q2; clear q1 q2; simp only [Act.put])
  have hF := (HHO.out.below B7.out).fin B7.out (Gro.refl _ X7) (by rw [EZ.out]; exact gro_setCells b6 _ 0 X7 X7 (Gro.refl _ X7)) RZ.out HB4.out.2 (Y := Z2)
  refine bodyPost_ret (results_rowS_tmp Try.results10 _ _ b6 35 zR (.int .i64 101) rfl rfl RZ2.out Try.underlying35 info_Ran) rfl ?_
  exact ⟨rfl, _, hF⟩
set_option maxRecDepth 100000 in
set_option maxHeartbeats 4000000 in
theorem run_go {inn : List (BitVec 8)} (HNX : NextOK inn) (pd : List (BitVec 8)) (m : Nat) (hpd : pd.length = m) (hm : m < 9223372036854775808) (c : Ca) (hc : c.Wf) (ags : List Nat) (A : Option Addr) (ca : Nat) (g cg hb : Nat) (hcg : m ≤ cg) (rv iv : Value) (rs : List (Nat × Int)) (L : List Value) (hL : L = c.cs (.slice A ags.length ca)) (hag : ∀ a ∈ ags, a < 2 ^ 256) (hrs : ∀ p ∈ rs, p.1 < 2 ^ 256) (ls : List Ins) (hck : chk pd = some ls) (hmay : (0 ≤ c.tok ∧ c.tok < 64 ∧ ags.length ≤ 8 ∧ 0 ≤ c.tm ∧ c.tm ≤ 4611686018427387904 ∧ 1 ≤ c.gas ∧ c.gas ≤ 10000)) (G : Nat) (hG : (G : Int) = c.gas) (R : Except Int (Nat × Nat)) (Q : List (List Value)) (hev : ev2 c.cl ags ls rs 10001 [] G 0 0 = (R, Q)) (RV : List Value) (RE : Int) (hRV : rans2 G R = (RV, RE)) (w : World) (hav : Agv w (.slice A ags.length ca) ags) (hr : w.rangeAt g 0 (vB pd)) (H : Hst w hb rv (.slice none 0 0) iv rs [] inn) : Calls Try.prog 10 #[.slice (some ⟨g, 0, none⟩) m cg, .agg L.toArray, .iface 48 (.pointer (some ⟨hb, 0, none⟩))] w fun e w' => e = .returned (.tuple #[.agg RV.toArray, .int .i64 RE]) ∧ ∃ qv', Hst w' hb rv qv' iv rs Q inn ∧ Gro (· = hb) w w' := by
  have HMAY : Hid (0 ≤ c.tok ∧ c.tok < 64 ∧ ags.length ≤ 8 ∧ 0 ≤ c.tm ∧ c.tm ≤ 4611686018427387904 ∧ 1 ≤ c.gas ∧ c.gas ≤ 10000) := hmay
  have HALL : Hid (NextOK inn ∧ (∀ a ∈ ags, a < 2 ^ 256) ∧ (∀ p ∈ rs, p.1 < 2 ^ 256) ∧ (G : Int) = c.gas ∧ ev2 c.cl ags ls rs 10001 [] G 0 0 = (R, Q) ∧ rans2 G R = (RV, RE)) := ⟨HNX, hag, hrs, hG, hev, hRV⟩
  have HAV : Hid (Agv w (.slice A ags.length ca) ags) := hav
  obtain ⟨na, hna⟩ : ∃ n, n = ags.length := ⟨_, rfl⟩
  have HNA : Hid (na = ags.length) := hna
  have HRL : Hid (RV.length = 5 ∧ RV.toArray.all (·.oneCell') = true) := by have := rans2_len G R; rw [hRV] at this; exact this
  clear hmay HNX hag hrs hG hev hRV hav
  rw [← hna] at hL
  have HR : Hid (w.rangeAt g 0 (vB pd)) := hr
  have HL : Hid (L = c.cs (.slice A na ca)) := hL
  have HCW : Hid c.Wf := hc
  have HLI : Hid ((Try.prog.info? 30).map (·.size) = some L.length) := by show _ = _; rw [hL, Ca.len hc]; exact info_C
  have hq := hostsome_eq 48 (.pointer (some ⟨hb, 0, none⟩))
  have HCG : Hid (m ≤ cg) := hcg
  have HPD : Hid (pd.length = m) := hpd
  have HHO : Hid (Hst w hb rv (.slice none 0 0) iv rs [] inn) := H
  have HM63 : Hid (m < 9223372036854775808) := hm
  clear hna hr hL hcg hpd hc H hm
  go_enter Try.func10, Try.ntmps10
  go_upto_region 3 with (first
    | (refine wpList_boxG 30 rfl (.tmp 1) rfl L rfl ?_; intro X1 q1 q2 q3; have R4 : Hid (Row X1 w.heap.size L 30) := q1; have B1 : Hid (Below w.heap.size w X1) := q2; clear q1 q2 q3; simp only [Act.put, List.setIfInBounds_toArray, List.set_cons_zero, List.set_cons_succ])
    | (refine wpList_allocR rfl rfl ?_; intro X2 q1 q2 q3; have R6 : Hid (Row X2 X1.heap.size zR 35) := q1; have B2 : Hid (Below X1.heap.size X1 X2) := q2; clear q1 q2 q3; simp only [Act.put, List.setIfInBounds_toArray, List.set_cons_zero, List.set_cons_succ]))
  obtain ⟨b4, hb4⟩ : ∃ b, b = w.heap.size := ⟨_, rfl⟩
  obtain ⟨b6, hb6⟩ : ∃ b, b = X1.heap.size := ⟨_, rfl⟩
  have HB4 : Hid (b4 = w.heap.size ∧ w.heap.size ≤ b6) := ⟨hb4, by rw [hb6]; exact B1.out.size⟩
  have BB : Hid (Below w.heap.size w X2) := B1.out.trans (B2.out.mono B1.out.size)
  replace R4 : Hid (Row X2 b4 L 30) := by rw [hb4]; exact Row.below R4.out B2.out R4.out.lt
  replace R6 : Hid (Row X2 b6 zR 35) := by rw [hb6]; exact R6.out
  rw [← hb4, ← hb6]
  clear hb4 hb6 B1 B2 hq
  go_upto_region 4 with (go_at_call 12; refine Calls.mono (table_any X2) ?_; rintro e X3 ⟨rfl, qt, q2⟩; have RT : Hid (Row X3 X2.heap.size mtab 75) := qt; have B3 : Hid (Below w.heap.size w X3) := BB.out.trans (q2.mono BB.out.size); have R43 : Hid (Row X3 b4 L 30) := Row.below R4.out q2 R4.out.lt; have R63 : Hid (Row X3 b6 zR 35) := Row.below R6.out q2 R6.out.lt; clear qt q2 R4 R6 BB)
  obtain ⟨T, hT⟩ : ∃ T, T = X2.heap.size := ⟨_, rfl⟩
  rw [← hT] at RT
  rw [← hT]
  clear hT
  obtain ⟨k, hk⟩ : ∃ k, k = ls.length := ⟨_, rfl⟩
  have HK : Hid (k = ls.length) := hk
  have HCK : Hid (chk pd = some ls) := hck
  have HRD : Hid _ := read_some pd m k ls HPD.out hck hk.symm T g cg HCG.out X3 RT.out (range_be HR.out B3.out)
  clear hck hk
  go_upto_region 5 with (first
    | (go_at_call 13; refine Calls.mono HRD.out ?_; rintro e X4 ⟨A1, c1, gs, rfl, q3, q4, q2⟩; have LP : Hid (Lw X4 77 7 (.slice A1 k c1) k (fl ls)) := q3; have RS : Hid (Row X4 gs (vI (sts ls m)) 3) := q4; have B4 : Hid (Below w.heap.size w X4) := B3.out.trans (q2.mono B3.out.size); have RT4 : Hid (Row X4 T mtab 75) := Row.below RT.out q2 RT.out.lt; have R44 : Hid (Row X4 b4 L 30) := Row.below R43.out q2 R43.out.lt; have R64 : Hid (Row X4 b6 zR 35) := Row.below R63.out q2 R63.out.lt; clear q2 q3 q4)
    | (refine wpList_allocP rfl rfl ?_; intro X5 q1 q2 q3; have R9 : Hid (Row X5 X4.heap.size zP 63) := q1; have B5 : Hid (Below X4.heap.size X4 X5) := q2; clear q1 q2 q3; simp only [Act.put, List.setIfInBounds_toArray, List.set_cons_zero, List.set_cons_succ])
    | (refine wpList_storeL rfl 63 (.tmp 9) (.tmp 20) rfl X4.heap.size [.slice A1 k c1, .slice (some ⟨gs, 0, none⟩) m m] zP 63 rfl rfl R9.out rfl info_P (pp_one A1 _ _ _ m) ?_; intro X6 q1 q2; have E6 : Hid (X6 = _) := q1; have R96 : Hid (Row X6 X4.heap.size [.slice A1 k c1, .slice (some ⟨gs, 0, none⟩) m m] 63) := q2; clear q1 q2; simp only [Act.put]))
  have BY : Below X4.heap.size X4 X6 := by rw [E6.out]; exact below_setCells B5.out (Nat.le_refl _) _
  obtain ⟨b9, hb9⟩ : ∃ b, b = X4.heap.size := ⟨_, rfl⟩
  rw [← hb9] at R96
  rw [← hb9]
  have LP6 : Hid (Lw X6 77 7 (.slice A1 k c1) k (fl ls)) := Lw.be LP.out BY
  have RS6 : Hid (Row X6 gs (vI (sts ls m)) 3) := Row.below RS.out BY RS.out.lt
  have B6 : Hid (Below w.heap.size w X6) := B4.out.trans (BY.mono B4.out.size)
  have RT6 : Hid (Row X6 T mtab 75) := Row.below RT4.out BY RT4.out.lt
  have R46 : Hid (Row X6 b4 L 30) := Row.below R44.out BY R44.out.lt
  have R66 : Hid (Row X6 b6 zR 35) := Row.below R64.out BY R64.out.lt
  have hmball := mayBe_all L A na ca c.tok c.tm c.gas (by rw [HL.out]; exact Ca.at40 HCW.out _) (by rw [HL.out]; exact Ca.at45 HCW.out _) (by rw [HL.out]; exact Ca.at46 HCW.out _) (by rw [HL.out]; exact Ca.at47 HCW.out _) X6
  have HMB : Hid _ := hmball.1 (by rw [HNA.out]; exact HMAY.out)
  clear BY hb9 E6 R9 B5 LP RS B4 RT4 R44 R64 R43 R63 B3 RT HRD hmball
  go_upto_region 9 with (first
    | (refine wpList_load_w rfl 30 (.tmp 4) rfl b4 0 rfl L _ R46.out.all Try.underlying30 rfl HLI.out ?_; simp only [Act.put, List.setIfInBounds_toArray, List.set_cons_zero, List.set_cons_succ])
    | (go_at_call 14; refine Calls.mono HMB.out ?_; rintro e X7 ⟨rfl, q2⟩; have LP7 : Hid (Lw X7 77 7 (.slice A1 k c1) k (fl ls)) := Lw.be LP6.out q2; have RS7 : Hid (Row X7 gs (vI (sts ls m)) 3) := Row.below RS6.out q2 RS6.out.lt; have B7 : Hid (Below w.heap.size w X7) := B6.out.trans (q2.mono B6.out.size); have RT7 : Hid (Row X7 T mtab 75) := Row.below RT6.out q2 RT6.out.lt; have R47 : Hid (Row X7 b4 L 30) := Row.below R46.out q2 R46.out.lt; have R67 : Hid (Row X7 b6 zR 35) := Row.below R66.out q2 R66.out.lt; have R97 : Hid (Row X7 b9 [.slice A1 k c1, .slice (some ⟨gs, 0, none⟩) m m] 63) := Row.below R96.out q2 R96.out.lt; clear q2))
  have c45 : X7.cell? ⟨b4, 45, none⟩ = some (.slice A na ca) := R47.out.cell 45 _ (by rw [HL.out]; exact Ca.at45 HCW.out _)
  have HCL : Hid (Calls Try.prog 15 #[.slice A na ca] X7 fun e w' => ∃ A2 c2, e = .returned (.slice A2 na c2) ∧ Lw w' 27 4 (.slice A2 na c2) na (fw ags) ∧ Below X7.heap.size X7 w') := by
    have := clone_all ags (by have := HMAY.out; omega) (.slice A ags.length ca) X7 (by
      rcases HAV.out with ⟨h1, h2⟩ | ⟨g0, c0, h1, h2⟩
      · exact .inl ⟨h1, h2⟩
      · exact .inr ⟨g0, c0, h1, range_be h2 B7.out⟩)
    rw [← HNA.out] at this
    exact this
  have HL45 : Hid (45 < L.length) := by show _ < _; rw [HL.out, Ca.len HCW.out]; decide
  clear HMB LP6 RS6 B6 RT6 R46 R66 R96
  go_upto_region 10 with (first
    | (go_at_call 15; refine Calls.mono HCL.out ?_; rintro e X8 ⟨Aa, cc, rfl, qa, q2⟩; have LA8 : Hid (Lw X8 27 4 (.slice Aa na cc) na (fw ags)) := qa; have LP8 : Hid (Lw X8 77 7 (.slice A1 k c1) k (fl ls)) := Lw.be LP7.out q2; have RS8 : Hid (Row X8 gs (vI (sts ls m)) 3) := Row.below RS7.out q2 RS7.out.lt; have B8 : Hid (Below w.heap.size w X8) := B7.out.trans (q2.mono B7.out.size); have RT8 : Hid (Row X8 T mtab 75) := Row.below RT7.out q2 RT7.out.lt; have R48 : Hid (Row X8 b4 L 30) := Row.below R47.out q2 R47.out.lt; have R68 : Hid (Row X8 b6 zR 35) := Row.below R67.out q2 R67.out.lt; have R98 : Hid (Row X8 b9 [.slice A1 k c1, .slice (some ⟨gs, 0, none⟩) m m] 63) := Row.below R97.out q2 R97.out.lt; clear qa q2)
    | (refine wpList_set1 rfl 28 (.tmp 35) (.tmp 34) rfl b4 45 (.slice Aa na cc) L 30 rfl rfl rfl R48.out HL45.out info_Ws rfl ?_; intro X9 q1 q2 q3; have R49 : Hid (Row X9 b4 (L.set 45 (.slice Aa na cc)) 30) := q1; have G9 : Hid (Gro (· = b4) X8 X9) := q2; clear q1 q2 q3; simp only [Act.put]))
  obtain ⟨M, hM⟩ : ∃ M, M = c.cs (.slice Aa na cc) := ⟨_, rfl⟩
  have HM : Hid (M = c.cs (.slice Aa na cc)) := hM
  have R4M : Hid (Row X9 b4 M 30) := by rw [hM, ← Ca.set45 HCW.out (.slice A na ca), ← HL.out]; exact R49.out
  have HMI : Hid ((Try.prog.info? 30).map (·.size) = some M.length) := by show _ = _; rw [hM, Ca.len HCW.out]; exact info_C
  have LA9 : Hid (Lw X9 27 4 (.slice Aa na cc) na (fw ags)) := Lw.gro LA8.out G9.out (Lw.ne LA8.out R48.out (by decide))
  have LP9 : Hid (Lw X9 77 7 (.slice A1 k c1) k (fl ls)) := Lw.gro LP8.out G9.out (Lw.ne LP8.out R48.out (by decide))
  have RS9 : Hid (Row X9 gs (vI (sts ls m)) 3) := G9.out.row RS8.out (row_ne2 RS8.out R48.out (by decide))
  have RT9 : Hid (Row X9 T mtab 75) := G9.out.row RT8.out (row_ne2 RT8.out R48.out (by decide))
  have R69 : Hid (Row X9 b6 zR 35) := G9.out.row R68.out (row_ne2 R68.out R48.out (by decide))
  have R99 : Hid (Row X9 b9 [.slice A1 k c1, .slice (some ⟨gs, 0, none⟩) m m] 63) := G9.out.row R98.out (row_ne2 R98.out R48.out (by decide))
  have B9 : Hid (Below w.heap.size w X9) := B8.out.trans (G9.out.to_below B8.out.size (fun k e => by rw [e, HB4.out.1]; exact Nat.le_refl _))
  have c47 : X9.cell? ⟨b4, 47, none⟩ = some (.int .i64 (G : Int)) := R4M.out.cell 47 _ (by rw [hM, HALL.out.2.2.2.1]; exact Ca.at47 HCW.out _)
  obtain ⟨RC, hRC⟩ : ∃ RC, RC = rc T (.slice A1 k c1) (.slice (some ⟨gs, 0, none⟩) m m) M (.iface 48 (.pointer (some ⟨hb, 0, none⟩))) (.slice none 0 0) G 0 zW := ⟨_, rfl⟩
  have HRC : Hid (RC = rc T (.slice A1 k c1) (.slice (some ⟨gs, 0, none⟩) m m) M (.iface 48 (.pointer (some ⟨hb, 0, none⟩))) (.slice none 0 0) G 0 zW) := hRC
  have HBU : Hid (Try.prog.built 70 [(0, .slice (some ⟨T, 0, none⟩) 28 28), (1, .agg #[.slice A1 k c1, .slice (some ⟨gs, 0, none⟩) m m]), (2, .agg M.toArray), (3, .iface 48 (.pointer (some ⟨hb, 0, none⟩))), (5, .int .i64 (G : Int))] = some RC.toArray) := by show _ = _; rw [hRC]; exact built_run2 T A1 k c1 gs m M (by rw [hM]; exact Ca.len HCW.out _) 48 hb G
  clear hM hRC c45 R49 G9 LA8 LP8 RS8 B8 RT8 R48 R68 R98 HCL LP7 RS7 B7 RT7 R47 R67 R97 HL45 HL
  go_upto_region 11 with (first
    | (refine wpList_load_w rfl 63 (.tmp 9) rfl b9 0 rfl [.slice A1 k c1, .slice (some ⟨gs, 0, none⟩) m m] _ R99.out.all Try.underlying63 rfl info_P ?_; simp only [Act.put, List.setIfInBounds_toArray, List.set_cons_zero, List.set_cons_succ])
    | (refine wpList_load_w rfl 30 (.tmp 4) rfl b4 0 rfl M _ R4M.out.all Try.underlying30 rfl HMI.out ?_; simp only [Act.put, List.setIfInBounds_toArray, List.set_cons_zero, List.set_cons_succ])
    | (refine wpList_bltH rfl 70 _ rfl [(0, .slice (some ⟨T, 0, none⟩) 28 28), (1, .agg #[.slice A1 k c1, .slice (some ⟨gs, 0, none⟩) m m]), (2, .agg M.toArray), (3, .iface 48 (.pointer (some ⟨hb, 0, none⟩))), (5, .int .i64 (G : Int))] rfl RC HBU.out ?_; simp only [Act.put, List.setIfInBounds_toArray, List.set_cons_zero, List.set_cons_succ])
    | (refine wpList_boxG 70 rfl (.tmp 42) rfl RC rfl ?_; intro Y q1 q2 q3; have RR : Hid (Row Y X9.heap.size RC 70) := q1; have BY : Hid (Below X9.heap.size X9 Y) := q2; clear q1 q2 q3; simp only [Act.put, List.setIfInBounds_toArray, List.set_cons_zero, List.set_cons_succ]))
  have hok := chk_ok HCK.out
  have hmy := HMAY.out
  have hbig : 4611686018427387905 < 2 ^ 256 := Nat.lt_of_lt_of_le (by decide : 4611686018427387905 < 2 ^ 63) (Nat.pow_le_pow_right (by decide) (by decide))
  have HLR : Hid (Lr X9 hb X9.heap.size T gs m (.slice A1 k c1) M (.slice Aa na cc) ls ags rv iv rs inn Y (.slice none 0 0) [] G 0 zW (.slice none 0 0) []) :=
    ⟨X9, rfl, Gro.refl _ _, ⟨by rw [← HRC.out]; exact RR.out, by rw [HM.out]; exact Ca.len HCW.out _, rfl, Lw.nil _ _ _, Row.below RT9.out BY.out RT9.out.lt, (by rw [← HK.out]; exact Lw.be LP9.out BY.out), Row.below RS9.out BY.out RS9.out.lt, by rw [HM.out]; exact Ca.at45 HCW.out _, (by rw [← HNA.out]; exact Lw.be LA9.out BY.out), (fun g e => by cases e), BY.out, Nat.le_refl _, (fun g e => by cases e), (fun _ _ q => q)⟩, HHO.out.below (B9.out.trans (BY.out.mono B9.out.size)), (fun g e => by cases e)⟩
  have HVA : Hid (Vals (2 ^ 256) c.cl ags ls rs) := ⟨Nat.lt_trans (by decide) hbig, fun h1 h2 h3 => (bin_lt h1 h2 h3).1, HALL.out.2.1, by omega, nb_lt, (by show c.tok.toNat < _; exact Nat.lt_trans (by omega : c.tok.toNat < 4611686018427387905) hbig), HCW.out.amt, (by show c.tm.toNat < _; exact Nat.lt_trans (by omega : c.tm.toNat < 4611686018427387905) hbig), hok.2.2.2.1, HALL.out.2.2.1, hok.2.2.2.2.1⟩
  have HAL : Hid _ := all_any HALL.out.1 X9 hb X9.heap.size T gs m (.slice A1 k c1) M (.slice Aa na cc) ls ags rv iv rs c.cl (by rw [HM.out]; exact Ca.inC HCW.out _ hmy.1 hmy.2.1 hmy.2.2.2.1 hmy.2.2.2.2.1) HVA.out hok.1 hok.2.1 (by rw [← HPD.out]; exact hok.2.2.1) G (by have := HALL.out.2.2.2.1; omega) (by rw [HM.out, HALL.out.2.2.2.1]; exact Ca.at47 HCW.out _) (.slice none 0 0) zW (.slice none 0 0) R Q HALL.out.2.2.2.2.1 RV RE HALL.out.2.2.2.2.2 Y HLR.out
  clear c47 HLR RR hok hmy hbig HVA
  go_wp2_with (first
    | (go_at_call 16; refine Calls.mono HAL.out ?_; rintro e Z ⟨rfl, qv2, q1, q2⟩; have RZ : Hid (Row Z b6 zR 35) := q2.row R69.out (fun e => row_ne2 R69.out (HHO.out.below B9.out).row (by decide) e); have HZ : Hid (Hst Z hb rv qv2 iv rs Q inn ∧ Gro (· = hb) X9 Z) := ⟨q1, q2⟩; clear q1 q2)
    | (refine wpList_storeL rfl 35 (.tmp 6) (.tmp 46) rfl b6 RV zR 35 rfl rfl RZ.out HRL.out.1 (by rw [HRL.out.1]; exact info_Ran) HRL.out.2 ?_; intro Z2 q1 q2; have EZ : Hid (Z2 = _) := q1; have RZ2 : Hid (Row Z2 b6 RV 35) := q2; clear q1 q2; simp only [Act.put]))
  have hF := HZ.out.1.fin B9.out HZ.out.2 (by rw [EZ.out]; exact gro_setCells b6 _ 0 Z Z (Gro.refl _ Z)) RZ.out HB4.out.2 (Y := Z2)
  refine bodyPost_ret (results_rowS_tmp Try.results10 _ _ b6 35 RV (.int .i64 RE) rfl rfl RZ2.out Try.underlying35 (by rw [HRL.out.1]; exact info_Ran)) rfl ?_
  exact ⟨rfl, _, hF⟩
theorem run_all {inn : List (BitVec 8)} (HNX : NextOK inn) (pd : List (BitVec 8)) (m : Nat) (hpd : pd.length = m) (hm : m < 9223372036854775808) (c : Ca) (hc : c.Wf) (ags : List Nat) (A : Option Addr) (ca : Nat) (g cg hb : Nat) (hcg : m ≤ cg) (rv iv : Value) (rs : List (Nat × Int)) (L : List Value) (hL : L = c.cs (.slice A ags.length ca)) (hag : ∀ a ∈ ags, a < 2 ^ 256) (hrs : ∀ p ∈ rs, p.1 < 2 ^ 256) (RV : List Value) (RE : Int) (Q : List (List Value)) (hmr : mrun pd c ags rs = ((RV, RE), Q)) (w : World) (hav : ags.length ≤ 8 → Agv w (.slice A ags.length ca) ags) (hr : w.rangeAt g 0 (vB pd)) (H : Hst w hb rv (.slice none 0 0) iv rs [] inn) : Calls Try.prog 10 #[.slice (some ⟨g, 0, none⟩) m cg, .agg L.toArray, .iface 48 (.pointer (some ⟨hb, 0, none⟩))] w fun e w' => e = .returned (.tuple #[.agg RV.toArray, .int .i64 RE]) ∧ ∃ qv', Hst w' hb rv qv' iv rs Q inn ∧ Gro (· = hb) w w' := by
  unfold mrun at hmr
  cases hck : chk pd with
  | none =>
    rw [hck] at hmr
    simp only [Prod.mk.injEq] at hmr
    obtain ⟨⟨rfl, rfl⟩, rfl⟩ := hmr
    exact run_none pd m hpd hm c hc ags A ca g cg hb hcg rv iv rs L hL hck w hr H
  | some ls =>
    rw [hck] at hmr
    simp only at hmr
    split at hmr
    · rename_i hmay
      obtain ⟨h1, h2⟩ := Prod.mk.inj hmr
      exact run_go HNX pd m hpd hm c hc ags A ca g cg hb hcg rv iv rs L hL hag hrs ls hck hmay c.gas.toNat (by omega) _ Q (Prod.ext rfl h2) RV RE h1 w (hav (by omega)) hr H
    · rename_i hmay
      simp only [Prod.mk.injEq] at hmr
      obtain ⟨⟨rfl, rfl⟩, rfl⟩ := hmr
      exact run_call pd m hpd hm c hc ags A ca g cg hb hcg rv iv rs L hL ls hck hmay w hr H

end Go.Proofs.Ytabcglakdlkdcaa
