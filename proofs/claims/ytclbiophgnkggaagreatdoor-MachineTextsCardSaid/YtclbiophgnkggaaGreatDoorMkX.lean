/-
  the law's run.
-/
import Derived.Test.YtclbiophgnkggaaGreatDoorMkW
namespace Go.Proofs.YtclbiophgnkggaaGreatDoor
open Go Go.RowKit
open Sha
open Wd

theorem byd_bw {W : World} {A : Option Addr} {c : Nat} {d : List (BitVec 8)} (h : Bw W (.slice A 6 c) ([] ++ d)) (hn : A = none → False) : (SP.byd 6 d).P W (.slice A 6 c) := by
  obtain ⟨A', c', e, hc, _⟩ := Bw.form h
  simp only [Value.slice.injEq] at e
  obtain ⟨rfl, he, rfl⟩ := e
  rcases Bw.sl h with ⟨h0, _⟩ | ⟨N, o, c2, e2, _, r⟩
  · rw [h0] at he; cases he
  · simp only [Value.slice.injEq] at e2
    obtain ⟨rfl, _, _⟩ := e2
    rcases h.2 with ⟨q, _⟩ | ⟨g, cc, cur, q, _⟩
    · cases q
    · simp only [Value.slice.injEq, Option.some.injEq, Addr.mk.injEq] at q
      obtain ⟨⟨rfl, rfl, _⟩, _, _⟩ := q
      exact ⟨_, _, rfl, by omega, r⟩
theorem R12_one : R12.toArray.all (·.oneCell') = true := by rw [← Array.all_toList]; rfl

abbrev zC : List Value := List.replicate 40 (.int .u8 0) ++ [.int .i64 0, .int .u64 0, .int .u64 0, .int .u64 0, .int .u64 0, .slice none 0 0, .int .i64 0, .int .i64 0]
theorem row_lw {w : World} {g : Nat} {e : TypeId} (s : Nat) (r : Row w g [] e) : Lw w e s (.slice (some ⟨g, 0, none⟩) 0 0) 0 [] :=
  ⟨by simp, .inr ⟨g, 0, #[], rfl, Nat.zero_le _, r, Nat.le_refl _, by unfold maxLen; omega, by simp, by simp⟩⟩
theorem info_Y_some : (Tryz.prog.info? 190).isSome = true := by kernel_rfl
section
variable {ops : Array Oper} {rest : List Oper} {op : Oper} {a : Act} {w : World} {Q : Exit → Act → World → Prop}
theorem wpList_build0Y (hgd : op.guard = none) (ho : op.op = .buildSlice 70 0 #[]) (h : ∀ X, Row X w.heap.size [] 190 → Below w.heap.size w X → X.heap.size = w.heap.size + 1 → wpList Tryz.prog ops Q rest (a.put op.dst (.slice (some ⟨w.heap.size, 0, none⟩) 0 0)) X) : wpList Tryz.prog ops Q (op :: rest) a w :=
  wpList_plain hgd fun _ hK => by
    unfold Oper.wp execOp
    simp only [ho]
    go_simp
    exact hK _ _ (h _ (Row.new' rfl rfl) ((Below.refl _ _).alloc (Nat.le_refl _) _) (by simp))
theorem wpList_build0W (hgd : op.guard = none) (ho : op.op = .buildSlice 65 0 #[]) (h : ∀ X, Row X w.heap.size [] 37 → Below w.heap.size w X → X.heap.size = w.heap.size + 1 → wpList Tryz.prog ops Q rest (a.put op.dst (.slice (some ⟨w.heap.size, 0, none⟩) 0 0)) X) : wpList Tryz.prog ops Q (op :: rest) a w :=
  wpList_plain hgd fun _ hK => by
    unfold Oper.wp execOp
    simp only [ho]
    go_simp
    exact hK _ _ (h _ (Row.new' rfl rfl) ((Below.refl _ _).alloc (Nat.le_refl _) _) (by simp))
theorem wpList_allocC (hgd : op.guard = none) (ho : op.op = .alloc 69) (h : ∀ X, Row X w.heap.size zC 69 → Below w.heap.size w X → X.heap.size = w.heap.size + 1 → wpList Tryz.prog ops Q rest (a.put op.dst (.pointer (some ⟨w.heap.size, 0, none⟩))) X) : wpList Tryz.prog ops Q (op :: rest) a w :=
  wpList_plain hgd fun _ hK => by
    unfold Oper.wp execOp
    simp only [ho]
    go_simp
    exact hK _ _ (h _ (Row.new' (cs := zC) rfl rfl) ((Below.refl _ _).alloc (Nat.le_refl _) _) (by simp))
theorem wpList_appNil (hgd : op.guard = none) (s x : Operand) (ho : op.op = .call { callee := .builtin .append, args := #[s, x], argTypes := #[70, 70] }) (g : Nat) (hs : a.eval s = .slice (some ⟨g, 0, none⟩) 0 0) (hx : a.eval x = .slice none 0 0) (r : Row w g [] 190)
    (h : wpList Tryz.prog ops Q rest (a.put op.dst (.slice (some ⟨g, 0, none⟩) 0 0)) w) : wpList Tryz.prog ops Q (op :: rest) a w := by
  obtain ⟨ie, hie⟩ := Option.isSome_iff_exists.1 info_Y_some
  have hr := run_append_owned_none (P := Tryz.prog) (w := w) 0 70 op.type 190 ie 1 Tryz.underlying70 hie (.slice (some ⟨g, 0, none⟩) 0 0) 0 [] (row_lw 1 r)
  refine wpList_plain hgd fun K hK => ?_
  unfold Oper.wp execOp
  simp only [ho, resolve, invoke, builtin, Sem.run_bind, Sem.run_pure, Result.andThen_ok, List.map_toArray, List.map_cons, List.map_nil, hs, hx, hr]
  exact hK _ _ h
end
theorem results_rowS_tt {P : Program} {fn : Func} {p q q2 : Tmp} {ty : TypeId} {fs : Array Field} (h : fn.results = #[.cell p ty, .tmp q, .tmp q2]) (tmps : Array Value) (w : World) (g : Nat) (t : TypeId) (cs : List Value) (v v2 : Value)
    (hp : tmps.getD p undef = .pointer (some ⟨g, 0, none⟩)) (hv : tmps.getD q undef = v) (hv2 : tmps.getD q2 undef = v2) (hg : Row w g cs t) (hu : P.underlying ty = some (.struct fs)) (hi : (P.info? ty).map (·.size) = some cs.length) :
    (results fn tmps).run P w = .ok (.tuple #[.agg cs.toArray, v, v2]) w := by
  have hp' : tmps[p]?.getD undef = .pointer (some ⟨g, 0, none⟩) := by simpa using hp
  have hv' : tmps[q]?.getD undef = v := by simpa using hv
  have hv2' : tmps[q2]?.getD undef = v2 := by simpa using hv2
  have hr := run_loadVar_row (P := P) w g t ty cs.toArray (0, 0) (.struct fs) hg hu rfl (by simp [hi])
  simp [results, h, hp', hv', hv2', asAddr, hr]
set_option maxRecDepth 100000 in
set_option maxHeartbeats 4000000 in
theorem lrun_alive (gc ga : Nat) (P : List Value) (hP : P = .slice (some ⟨gc, 0, none⟩) 6 6 :: (callC (.slice (some ⟨ga, 0, none⟩) 2 2) ++ [.slice none 0 0])) (w : World) (hg : Row w gc (vB dA) 5) (ha : w.rangeAt ga 0 (fw [5, 7])) : Calls Tryz.prog 22 #[.agg P.toArray, .slice none 0 0] w fun e w' => e = .returned (.tuple #[.agg R12.toArray, .int .i64 0, .slice none 0 0]) ∧ Below w.heap.size w w' := by
  have HP : Hid (P = .slice (some ⟨gc, 0, none⟩) 6 6 :: (callC (.slice (some ⟨ga, 0, none⟩) 2 2) ++ [.slice none 0 0])) := hP
  have HGC : Hid (Row w gc (vB dA) 5) := hg
  have HGA0 : Hid (w.rangeAt ga 0 (fw [5, 7])) := ha
  obtain ⟨L, hL⟩ : ∃ L, L = callC (.slice (some ⟨ga, 0, none⟩) 2 2) := ⟨_, rfl⟩
  have HL : Hid (L = callC (.slice (some ⟨ga, 0, none⟩) 2 2)) := hL
  have HLI : Hid ((Tryz.prog.info? 69).map (·.size) = some L.length) := by show _ = _; rw [hL, callC_len]; exact info_C
  have HLN : Hid (L.length = zC.length) := by show _ = _; rw [hL]; rfl
  have HLO : Hid (L.toArray.all (·.oneCell') = true) := by show _ = _; rw [hL]; exact callC_one _ _ _
  clear hP hg ha hL
  go_enter Tryz.func22, Tryz.ntmps22
  go_upto_region 1 with (first
    | (refine wpList_boxG 72 rfl (.tmp 0) rfl P rfl ?_; intro X1 q1 q2 q3; have R1 : Hid (Row X1 w.heap.size P 72) := q1; have B1 : Hid (Below w.heap.size w X1) := q2; have S1 : Hid (X1.heap.size = w.heap.size + 1) := q3; clear q1 q2 q3; simp only [Act.put, List.setIfInBounds_toArray, List.set_cons_zero, List.set_cons_succ])
    | (refine wpList_allocR rfl rfl ?_; intro X2 q1 q2 q3; have R2 : Hid (Row X2 X1.heap.size zR 61) := q1; have B2 : Hid (Below X1.heap.size X1 X2) := q2; have S2 : Hid (X2.heap.size = X1.heap.size + 1) := q3; clear q1 q2 q3; simp only [Act.put, List.setIfInBounds_toArray, List.set_cons_zero, List.set_cons_succ]))
  obtain ⟨b2, hb2⟩ : ∃ b, b = w.heap.size := ⟨_, rfl⟩
  obtain ⟨b4, hb4⟩ : ∃ b, b = X1.heap.size := ⟨_, rfl⟩
  have N24 : Hid (b4 = b2 + 1) := by show _ = _; rw [hb4, hb2]; exact S1.out
  have BB : Hid (Below w.heap.size w X2) := B1.out.trans (B2.out.mono B1.out.size)
  have RP : Hid (Row X2 b2 P 72) := by rw [hb2]; exact Row.below R1.out B2.out R1.out.lt
  have RR : Hid (Row X2 b4 zR 61) := by rw [hb4]; exact R2.out
  have SS : Hid (X2.heap.size = b4 + 1) := by rw [hb4]; exact S2.out
  have HB2 : Hid (b2 = w.heap.size) := hb2
  rw [← hb2, ← hb4]
  clear hb2 hb4 R1 B1 S1 R2 B2 S2
  go_upto_region 2 with (first
    | (refine wpList_build0Y rfl rfl ?_; intro X3 q1 q2 q3; have RY : Hid (Row X3 X2.heap.size [] 190) := q1; have B3 : Hid (Below X2.heap.size X2 X3) := q2; have S3 : Hid (X3.heap.size = X2.heap.size + 1) := q3; have c49 : X3.cell? ⟨b2, 49, none⟩ = some (.slice none 0 0) := (Row.below RP.out q2 RP.out.lt).cell 49 _ (by rw [HP.out]; rfl); clear q1 q2 q3; simp only [Act.put, List.setIfInBounds_toArray, List.set_cons_zero, List.set_cons_succ])
    | (refine wpList_appNil rfl (.tmp 11) (.tmp 13) rfl X2.heap.size rfl rfl RY.out ?_; simp only [Act.put, List.setIfInBounds_toArray, List.set_cons_zero, List.set_cons_succ])
    | (refine wpList_boxG 91 rfl (.tmp 16) rfl [.slice (some ⟨X2.heap.size, 0, none⟩) 0 0, .slice none 0 0, .slice none 0 0] rfl ?_; intro X4 q1 q2 q3; have RH : Hid (Row X4 X3.heap.size [.slice (some ⟨X2.heap.size, 0, none⟩) 0 0, .slice none 0 0, .slice none 0 0] 91) := q1; have B4 : Hid (Below X3.heap.size X3 X4) := q2; have S4 : Hid (X4.heap.size = X3.heap.size + 1) := q3; clear q1 q2 q3; simp only [Act.put, List.setIfInBounds_toArray, List.set_cons_zero, List.set_cons_succ]))
  obtain ⟨gr, hgr⟩ : ∃ b, b = X2.heap.size := ⟨_, rfl⟩
  obtain ⟨hb, hhb⟩ : ∃ b, b = X3.heap.size := ⟨_, rfl⟩
  rw [← hhb, ← hgr] at RH
  rw [← hhb]
  have N3 : Hid (gr = b4 + 1) := by show _ = _; rw [hgr]; exact SS.out
  have N4 : Hid (hb = gr + 1) := by show _ = _; rw [hhb, hgr]; exact S3.out
  have k34 : Below X2.heap.size X2 X4 := B3.out.trans (B4.out.mono B3.out.size)
  have BB4 : Hid (Below w.heap.size w X4) := BB.out.trans (k34.mono BB.out.size)
  have RP4 : Hid (Row X4 b2 P 72) := Row.below RP.out k34 RP.out.lt
  have RR4 : Hid (Row X4 b4 zR 61) := Row.below RR.out k34 RR.out.lt
  have SS4 : Hid (X4.heap.size = hb + 1) := by rw [hhb]; exact S4.out
  have RG4 : Hid (X4.rangeAt b2 1 L) := RP4.out.range 1 L (fun j v hj => by
    rw [HP.out, show 1 + j = j + 1 by omega, List.getElem?_cons_succ, ← HL.out, List.getElem?_append_left (List.getElem?_eq_some_iff.1 hj).1]
    exact hj)
  clear hgr hhb k34 B3 B4 S3 S4 RY c49 BB RP RR SS
  go_upto_region 3 with (first
    | (refine wpList_load_w rfl 69 (.tmp 18) rfl b2 1 rfl L _ RG4.out Tryz.underlying69 rfl HLI.out ?_; simp only [Act.put, List.setIfInBounds_toArray, List.set_cons_zero, List.set_cons_succ])
    | (refine wpList_allocC rfl rfl ?_; intro X5 q1 q2 q3; have RC5 : Hid (Row X5 X4.heap.size zC 69) := q1; have B5 : Hid (Below X4.heap.size X4 X5) := q2; have S5 : Hid (X5.heap.size = X4.heap.size + 1) := q3; clear q1 q2 q3; simp only [Act.put, List.setIfInBounds_toArray, List.set_cons_zero, List.set_cons_succ])
    | (refine wpList_storeL rfl 69 (.tmp 8) (.tmp 19) rfl X4.heap.size L zC 69 rfl rfl RC5.out HLN.out HLI.out HLO.out ?_; intro X6 q1 q2; have E6 : Hid (X6 = _) := q1; have RC6 : Hid (Row X6 X4.heap.size L 69) := q2; clear q1 q2; simp only [Act.put]))
  obtain ⟨b8, hb8⟩ : ∃ b, b = X4.heap.size := ⟨_, rfl⟩
  have k6 : Below X4.heap.size X4 X6 := by rw [E6.out]; exact below_setCells B5.out (Nat.le_refl _) _
  have BB6 : Hid (Below w.heap.size w X6) := BB4.out.trans (k6.mono BB4.out.size)
  have RP6 : Hid (Row X6 b2 P 72) := Row.below RP4.out k6 RP4.out.lt
  have RR6 : Hid (Row X6 b4 zR 61) := Row.below RR4.out k6 RR4.out.lt
  have RH6 : Hid (Row X6 hb [.slice (some ⟨gr, 0, none⟩) 0 0, .slice none 0 0, .slice none 0 0] 91) := Row.below RH.out k6 RH.out.lt
  have N8 : Hid (b8 = hb + 1) := by show _ = _; rw [hb8]; exact SS4.out
  rw [← hb8] at RC6
  rw [← hb8]
  have HL45 : Hid (45 < L.length) := by show _ < _; rw [HL.out, callC_len]; decide
  clear hb8 k6 E6 RC5 B5 S5 RG4 BB4 RP4 RR4 RH SS4
  go_upto_region 4 with (first
    | (refine wpList_build0W rfl rfl ?_; intro X7 q1 q2 q3; have RE7 : Hid (Row X7 X6.heap.size [] 37) := q1; have B7 : Hid (Below X6.heap.size X6 X7) := q2; have c46 : X7.cell? ⟨b2, 46, none⟩ = some (.slice (some ⟨ga, 0, none⟩) 2 2) := (Row.below RP6.out q2 RP6.out.lt).cell 46 _ (by rw [HP.out]; rfl); clear q1 q2 q3; simp only [Act.put, List.setIfInBounds_toArray, List.set_cons_zero, List.set_cons_succ])
    | (refine wpList_appN 65 37 4 32 Tryz.underlying65 info_W_open (by decide) rfl (.tmp 20) (.tmp 23) rfl (.slice (some ⟨X6.heap.size, 0, none⟩) 0 0) 0 [] (fw [5, 7]) rfl (row_lw 4 RE7.out) ga 2 2 (by rw [fw_len]; rfl) rfl (range_be HGA0.out (BB6.out.trans (B7.out.mono BB6.out.size))) (fw_one _) (by unfold maxLen; omega) (by decide) ?_; intro v8 X8 q1 q2 q3; obtain ⟨g8, c8, e8, h8⟩ := Lw.open q1 (by decide); (have e9 : v8 = .slice (some ⟨g8, 0, none⟩) 2 c8 := e8); clear e8; subst e9; have LA8 : Hid (Lw X8 37 4 (.slice (some ⟨g8, 0, none⟩) 2 c8) 2 (fw [5, 7])) := q1; have B8 : Hid (Below X6.heap.size X6 X8) := below_gb B7.out q2 (fun k e => by simp [Value.ownBlock] at e; omega); have RC8 : Hid (Row X8 b8 L 69) := Row.below RC6.out (below_gb B7.out q2 (fun k e => by simp [Value.ownBlock] at e; omega)) RC6.out.lt; clear q1 q2 q3 h8; simp only [Act.put, List.setIfInBounds_toArray, List.set_cons_zero, List.set_cons_succ])
    | (refine wpList_set1 rfl 65 (.tmp 25) (.tmp 24) rfl b8 45 (.slice (some ⟨g8, 0, none⟩) 2 c8) L 69 rfl rfl rfl RC8.out HL45.out info_Ws rfl ?_; intro X q1 q2 q3; have RCX : Hid (Row X b8 (L.set 45 (.slice (some ⟨g8, 0, none⟩) 2 c8)) 69) := q1; have GX : Hid (Gro (· = b8) X8 X) := q2; clear q1 q2 q3; simp only [Act.put]))
  obtain ⟨M, hM⟩ : ∃ M, M = callC (.slice (some ⟨g8, 0, none⟩) 2 c8) := ⟨_, rfl⟩
  have HM : Hid (M = callC (.slice (some ⟨g8, 0, none⟩) 2 c8)) := hM
  have HMI : Hid ((Tryz.prog.info? 69).map (·.size) = some M.length) := by show _ = _; rw [hM, callC_len]; exact info_C
  have HGA : Hid (X.rangeAt g8 0 (fw [5, 7])) := Lw.range (Lw.gro LA8.out GX.out (Lw.ne LA8.out RC8.out (by decide)))
  have m2 : b2 < b8 := by have h1 := N24.out; have h2 := N3.out; have h3 := N4.out; have h4 := N8.out; omega
  have m4 : b4 < b8 := by have h2 := N3.out; have h3 := N4.out; have h4 := N8.out; omega
  have mh : hb < b8 := by have h4 := N8.out; omega
  have rp : Row X b2 P 72 := GX.out.row (Row.below RP6.out B8.out RP6.out.lt) (by omega)
  have r4 : Row X b4 zR 61 := GX.out.row (Row.below RR6.out B8.out RR6.out.lt) (by omega)
  have rh : Row X hb [.slice (some ⟨gr, 0, none⟩) 0 0, .slice none 0 0, .slice none 0 0] 91 := GX.out.row (Row.below RH6.out B8.out RH6.out.lt) (by omega)
  have rcl : Row X b8 M 69 := by rw [hM, ← callC_set (.slice (some ⟨ga, 0, none⟩) 2 2), ← HL.out]; exact RCX.out
  have BX : Hid (Below w.heap.size w X) := (BB6.out.trans (B8.out.mono BB6.out.size)).trans (GX.out.to_below (Nat.le_trans BB6.out.size B8.out.size) (fun k e => by rw [e]; have := HB2.out; omega))
  have rg : Row X gc (vB dA) 5 := Row.below HGC.out BX.out HGC.out.lt
  have hgc : gc < b2 := by rw [HB2.out]; exact HGC.out.lt
  have hb1 : Below X.heap.size X X := Below.refl _ _
  obtain ⟨T0, hT0⟩ : ∃ T, T + 1 = X.heap.size := ⟨X.heap.size - 1, by have := rp.lt; omega⟩
  have l2 : b2 ≤ T0 := by have := rp.lt; omega
  have l4 : b4 ≤ T0 := by have := r4.lt; omega
  have lh : hb ≤ T0 := by have := rh.lt; omega
  have l8 : b8 ≤ T0 := by have := rcl.lt; omega
  have lg : gc ≤ T0 := by have := rg.lt; omega
  clear hM RCX GX LA8 B8 RC8 RE7 B7 c46 RP6 RR6 RH6 RC6 BB6
  refine wp_named fun a0 ha0 => ?_
  have hsz : a0.tmps.size = 43 := by rw [ha0]; rfl
  have zs2 : a0.eval (.tmp 2) = .pointer (some ⟨b2, 0, none⟩) := by rw [ha0]; rfl
  have zs7 : a0.eval (.tmp 7) = .pointer (some ⟨hb, 0, none⟩) := by rw [ha0]; rfl
  have zs8 : a0.eval (.tmp 8) = .pointer (some ⟨b8, 0, none⟩) := by rw [ha0]; rfl
  obtain ⟨D, hD⟩ : ∃ D : List (Tmp × SP), D = [(27, SP.any), (28, SP.is (.pointer (some ⟨b2, 0, none⟩))), (29, SP.is (.slice (some ⟨gc, 0, none⟩) 6 6)), (30, SP.any), (31, SP.is (.agg M.toArray)), (32, SP.is (.pointer (some ⟨hb, 0, none⟩))), (33, SP.is (.iface 89 (.pointer (some ⟨hb, 0, none⟩)))), (34, SP.is (.tuple #[.agg R12.toArray, .int .i64 0])), (26, SP.is (.tuple #[.agg R12.toArray, .int .i64 0])), (35, SP.is (.agg R12.toArray)), (36, SP.is (.int .i64 0)), (9, SP.any), (1000, SP.any), (10, SP.is (.int .i64 0))] := ⟨_, rfl⟩
  refine wp_region_down (by kernel_rfl) (fun listed ac W => ∃ (b : Nat), listed.size = 14 ∧ Fp D a0 listed ac W ∧ Below X.heap.size X W ∧ Row W b2 P 72 ∧ Row W b8 M 69 ∧ Row W hb ([.slice (some ⟨gr, 0, none⟩) 0 0, .slice none 0 0, .slice none 0 0]) 91 ∧ Row W gc ((vB dA)) 5 ∧ Row W b4 zR 61 ∧ (listed.getD 11 false = true → ac.eval (.tmp 9) = .pointer (some ⟨b, 0, none⟩) ∧ T0 < b ∧ Row W b (if listed.getD 12 false = true then R12 else zR) 61) ∧ (listed.getD 12 false = true → listed.getD 11 false = true) ∧ (listed.getD 0 false = true → ¬ listed.getD 3 false = true → (SP.new 0 0 [] 5).P W (ac.eval (.tmp 27))) ∧ (listed.getD 3 false = true → ¬ listed.getD 7 false = true → (SP.byd 6 dA).P W (ac.eval (.tmp 30)))) ?_ ?_ ?_
  · exact ⟨0, by simp, Fp.start D a0 _ _, Below.drew hb1, Row.drew rp, Row.drew rcl, Row.drew rh, Row.drew rg, Row.drew r4, (fun h => (start_no h).elim), (fun h => (start_no h).elim), (fun h _ => (start_no h).elim), (fun h _ => (start_no h).elim)⟩
  · clear ha0 hb1 rp rcl rh rg r4 
    intro listed ac W k hI hdn hk
    obtain ⟨b, hl, hF, hb1, rp, rcl, rh, rg, r4, al11, as11, ti0, ti3⟩ := hI
    have hk1 : k < 14 := List.mem_range.1 (List.mem_filter.1 hk).1
    have hl2 : ∀ j, (listed.setIfInBounds j true).size = 14 := fun j => by rw [Array.size_setIfInBounds]; exact hl
    rcases (show k = 0 ∨ k = 1 ∨ k = 2 ∨ k = 3 ∨ k = 4 ∨ k = 5 ∨ k = 6 ∨ k = 7 ∨ k = 8 ∨ k = 9 ∨ k = 10 ∨ k = 11 ∨ k = 12 ∨ k = 13 by omega) with rfl | rfl | rfl | rfl | rfl | rfl | rfl | rfl | rfl | rfl | rfl | rfl | rfl | rfl
    · have hk3 := hk
      refine wpOp_plain rfl rfl (wp_build0 rfl ?_)
      intro W2 q hB
      exact ⟨b, hl2 0, ((hF.world hB).put 0 27 (SP.any) (.slice (some ⟨W.heap.size, 0, none⟩) 0 0) (by rw [hD]; rfl) trivial (by rw [hD]; rfl) (by rw [hsz]; decide) (by rw [hl]; decide)), hb1.trans (hB.mono hb1.size), Row.below rp hB (Row.lt rp), Row.below rcl hB (Row.lt rcl), Row.below rh hB (Row.lt rh), Row.below rg hB (Row.lt rg), Row.below r4 hB (Row.lt r4), (fun h => ⟨(eval_put_other ac _ (by decide)).trans ((al11 (by rwa [getD_set _ _ _ (by decide)] at h)).1), (al11 (by rwa [getD_set _ _ _ (by decide)] at h)).2.1, by rw [getD_set _ _ _ (by decide)]; exact Row.below (al11 (by rwa [getD_set _ _ _ (by decide)] at h)).2.2 hB (Row.lt (al11 (by rwa [getD_set _ _ _ (by decide)] at h)).2.2)⟩), (fun h => by rw [getD_set _ _ _ (by decide)]; exact as11 (by rwa [getD_set _ _ _ (by decide)] at h)), (fun _ _ => by change (SP.new 0 0 [] 5).P _ ((ac.put (some 27) _).eval (.tmp 27)); rw [eval_put_same ac _ (by rw [hF.size, hsz]; decide)]; exact ⟨_, rfl, q⟩), (fun h1 h2 => by change (SP.byd 6 dA).P _ ((ac.put (some 27) _).eval (.tmp 30)); rw [eval_put_other ac _ (by decide)]; exact (SP.byd 6 dA).st _ _ _ hB (ti3 (by rwa [getD_set _ _ _ (by decide)] at h1) (by rwa [getD_set _ _ _ (by decide)] at h2)))⟩
    · have hk3 := hk
      have e2 := ((hF.keep 2 (by rw [hD]; rfl)).trans zs2)
      exact wpOp_plain rfl rfl (wp_fP0 b2 rfl e2 ⟨b, hl2 1, (hF.put 1 28 (SP.is (.pointer (some ⟨b2, 0, none⟩))) (.pointer (some ⟨b2, 0, none⟩)) (by rw [hD]; rfl) rfl (by rw [hD]; rfl) (by rw [hsz]; decide) (by rw [hl]; decide)), hb1, rp, rcl, rh, rg, r4, (fun h => ⟨(eval_put_other ac _ (by decide)).trans ((al11 (by rwa [getD_set _ _ _ (by decide)] at h)).1), (al11 (by rwa [getD_set _ _ _ (by decide)] at h)).2.1, by rw [getD_set _ _ _ (by decide)]; exact (al11 (by rwa [getD_set _ _ _ (by decide)] at h)).2.2⟩), (fun h => by rw [getD_set _ _ _ (by decide)]; exact as11 (by rwa [getD_set _ _ _ (by decide)] at h)), (fun h1 h2 => by change (SP.new 0 0 [] 5).P _ ((ac.put (some 28) _).eval (.tmp 27)); rw [eval_put_other ac _ (by decide)]; exact ti0 (by rwa [getD_set _ _ _ (by decide)] at h1) (by rwa [getD_set _ _ _ (by decide)] at h2)), (fun h1 h2 => by change (SP.byd 6 dA).P _ ((ac.put (some 28) _).eval (.tmp 30)); rw [eval_put_other ac _ (by decide)]; exact ti3 (by rwa [getD_set _ _ _ (by decide)] at h1) (by rwa [getD_set _ _ _ (by decide)] at h2))⟩)
    · have hk3 := hk
      have e28 := (hF.done 1 (28, SP.is (.pointer (some ⟨b2, 0, none⟩))) (by rw [hD]; rfl) (ready_dep hk 1 (by kernel_rfl)))
      exact wpOp_plain rfl rfl (wp_loadb rfl b2 0 e28 _ 6 6 (rp.cell 0 _ (by rw [HP.out]; rfl)) ⟨b, hl2 2, (hF.put 2 29 (SP.is (.slice (some ⟨gc, 0, none⟩) 6 6)) (.slice (some ⟨gc, 0, none⟩) 6 6) (by rw [hD]; rfl) rfl (by rw [hD]; rfl) (by rw [hsz]; decide) (by rw [hl]; decide)), hb1, rp, rcl, rh, rg, r4, (fun h => ⟨(eval_put_other ac _ (by decide)).trans ((al11 (by rwa [getD_set _ _ _ (by decide)] at h)).1), (al11 (by rwa [getD_set _ _ _ (by decide)] at h)).2.1, by rw [getD_set _ _ _ (by decide)]; exact (al11 (by rwa [getD_set _ _ _ (by decide)] at h)).2.2⟩), (fun h => by rw [getD_set _ _ _ (by decide)]; exact as11 (by rwa [getD_set _ _ _ (by decide)] at h)), (fun h1 h2 => by change (SP.new 0 0 [] 5).P _ ((ac.put (some 29) _).eval (.tmp 27)); rw [eval_put_other ac _ (by decide)]; exact ti0 (by rwa [getD_set _ _ _ (by decide)] at h1) (by rwa [getD_set _ _ _ (by decide)] at h2)), (fun h1 h2 => by change (SP.byd 6 dA).P _ ((ac.put (some 29) _).eval (.tmp 30)); rw [eval_put_other ac _ (by decide)]; exact ti3 (by rwa [getD_set _ _ _ (by decide)] at h1) (by rwa [getD_set _ _ _ (by decide)] at h2))⟩)
    · have hk3 := hk
      obtain ⟨N7, e27, r27⟩ := (ti0 (ready_dep hk 0 (by kernel_rfl)) (not_yet hk))
      have e29 := (hF.done 2 (29, SP.is (.slice (some ⟨gc, 0, none⟩) 6 6)) (by rw [hD]; rfl) (ready_dep hk 2 (by kernel_rfl)))
      refine wpOp_plain rfl rfl (wp_appb (.tmp 27) (.tmp 29) rfl N7 gc 0 6 6 [] dA rfl rfl rfl (by decide) (by decide) e27 r27 e29 rg ?_)
      intro A c W2 hbw hne hB
      exact ⟨b, hl2 3, ((hF.world hB).put 3 30 (SP.any) (.slice A 6 c) (by rw [hD]; rfl) trivial (by rw [hD]; rfl) (by rw [hsz]; decide) (by rw [hl]; decide)), hb1.trans (hB.mono hb1.size), Row.below rp hB (Row.lt rp), Row.below rcl hB (Row.lt rcl), Row.below rh hB (Row.lt rh), Row.below rg hB (Row.lt rg), Row.below r4 hB (Row.lt r4), (fun h => ⟨(eval_put_other ac _ (by decide)).trans ((al11 (by rwa [getD_set _ _ _ (by decide)] at h)).1), (al11 (by rwa [getD_set _ _ _ (by decide)] at h)).2.1, by rw [getD_set _ _ _ (by decide)]; exact Row.below (al11 (by rwa [getD_set _ _ _ (by decide)] at h)).2.2 hB (Row.lt (al11 (by rwa [getD_set _ _ _ (by decide)] at h)).2.2)⟩), (fun h => by rw [getD_set _ _ _ (by decide)]; exact as11 (by rwa [getD_set _ _ _ (by decide)] at h)), (fun _ h => absurd (getD_same (by rw [hl]; decide)) h), (fun _ _ => by change (SP.byd 6 dA).P _ ((ac.put (some 30) _).eval (.tmp 30)); rw [eval_put_same ac _ (by rw [hF.size, hsz]; decide)]; exact (byd_bw hbw hne))⟩
    · have hk3 := hk
      exact wpOp_plain rfl rfl (wp_load_mid 69 (.tmp 8) rfl b8 0 ((hF.keep 8 (by rw [hD]; rfl)).trans zs8) M _ rcl.all Tryz.underlying69 rfl HMI.out ⟨b, hl2 4, (hF.put 4 31 (SP.is (.agg M.toArray)) (.agg M.toArray) (by rw [hD]; rfl) rfl (by rw [hD]; rfl) (by rw [hsz]; decide) (by rw [hl]; decide)), hb1, rp, rcl, rh, rg, r4, (fun h => ⟨(eval_put_other ac _ (by decide)).trans ((al11 (by rwa [getD_set _ _ _ (by decide)] at h)).1), (al11 (by rwa [getD_set _ _ _ (by decide)] at h)).2.1, by rw [getD_set _ _ _ (by decide)]; exact (al11 (by rwa [getD_set _ _ _ (by decide)] at h)).2.2⟩), (fun h => by rw [getD_set _ _ _ (by decide)]; exact as11 (by rwa [getD_set _ _ _ (by decide)] at h)), (fun h1 h2 => by change (SP.new 0 0 [] 5).P _ ((ac.put (some 31) _).eval (.tmp 27)); rw [eval_put_other ac _ (by decide)]; exact ti0 (by rwa [getD_set _ _ _ (by decide)] at h1) (by rwa [getD_set _ _ _ (by decide)] at h2)), (fun h1 h2 => by change (SP.byd 6 dA).P _ ((ac.put (some 31) _).eval (.tmp 30)); rw [eval_put_other ac _ (by decide)]; exact ti3 (by rwa [getD_set _ _ _ (by decide)] at h1) (by rwa [getD_set _ _ _ (by decide)] at h2))⟩)
    · have hk3 := hk
      exact wpOp_plain rfl rfl (wp_move_v (ac.eval (.tmp 7)) rfl rfl ⟨b, hl2 5, (hF.put 5 32 (SP.is (.pointer (some ⟨hb, 0, none⟩))) (ac.eval (.tmp 7)) (by rw [hD]; rfl) (((hF.keep 7 (by rw [hD]; rfl)).trans zs7)) (by rw [hD]; rfl) (by rw [hsz]; decide) (by rw [hl]; decide)), hb1, rp, rcl, rh, rg, r4, (fun h => ⟨(eval_put_other ac _ (by decide)).trans ((al11 (by rwa [getD_set _ _ _ (by decide)] at h)).1), (al11 (by rwa [getD_set _ _ _ (by decide)] at h)).2.1, by rw [getD_set _ _ _ (by decide)]; exact (al11 (by rwa [getD_set _ _ _ (by decide)] at h)).2.2⟩), (fun h => by rw [getD_set _ _ _ (by decide)]; exact as11 (by rwa [getD_set _ _ _ (by decide)] at h)), (fun h1 h2 => by change (SP.new 0 0 [] 5).P _ ((ac.put (some 32) _).eval (.tmp 27)); rw [eval_put_other ac _ (by decide)]; exact ti0 (by rwa [getD_set _ _ _ (by decide)] at h1) (by rwa [getD_set _ _ _ (by decide)] at h2)), (fun h1 h2 => by change (SP.byd 6 dA).P _ ((ac.put (some 32) _).eval (.tmp 30)); rw [eval_put_other ac _ (by decide)]; exact ti3 (by rwa [getD_set _ _ _ (by decide)] at h1) (by rwa [getD_set _ _ _ (by decide)] at h2))⟩)
    · have hk3 := hk
      have e32 := (hF.done 5 (32, SP.is (.pointer (some ⟨hb, 0, none⟩))) (by rw [hD]; rfl) (ready_dep hk 5 (by kernel_rfl)))
      exact wpOp_plain rfl rfl (wp_mkif rfl (.pointer (some ⟨hb, 0, none⟩)) e32 ⟨b, hl2 6, (hF.put 6 33 (SP.is (.iface 89 (.pointer (some ⟨hb, 0, none⟩)))) (.iface 89 (.pointer (some ⟨hb, 0, none⟩))) (by rw [hD]; rfl) rfl (by rw [hD]; rfl) (by rw [hsz]; decide) (by rw [hl]; decide)), hb1, rp, rcl, rh, rg, r4, (fun h => ⟨(eval_put_other ac _ (by decide)).trans ((al11 (by rwa [getD_set _ _ _ (by decide)] at h)).1), (al11 (by rwa [getD_set _ _ _ (by decide)] at h)).2.1, by rw [getD_set _ _ _ (by decide)]; exact (al11 (by rwa [getD_set _ _ _ (by decide)] at h)).2.2⟩), (fun h => by rw [getD_set _ _ _ (by decide)]; exact as11 (by rwa [getD_set _ _ _ (by decide)] at h)), (fun h1 h2 => by change (SP.new 0 0 [] 5).P _ ((ac.put (some 33) _).eval (.tmp 27)); rw [eval_put_other ac _ (by decide)]; exact ti0 (by rwa [getD_set _ _ _ (by decide)] at h1) (by rwa [getD_set _ _ _ (by decide)] at h2)), (fun h1 h2 => by change (SP.byd 6 dA).P _ ((ac.put (some 33) _).eval (.tmp 30)); rw [eval_put_other ac _ (by decide)]; exact ti3 (by rwa [getD_set _ _ _ (by decide)] at h1) (by rwa [getD_set _ _ _ (by decide)] at h2))⟩)
    · have hk3 := hk
      obtain ⟨NN8, cN8, e30, h8, r30⟩ := (ti3 (ready_dep hk 3 (by kernel_rfl)) (not_yet hk))
      have e31 := (hF.done 4 (31, SP.is (.agg M.toArray)) (by rw [hD]; rfl) (ready_dep hk 4 (by kernel_rfl)))
      have e33 := (hF.done 6 (33, SP.is (.iface 89 (.pointer (some ⟨hb, 0, none⟩)))) (by rw [hD]; rfl) (ready_dep hk 6 (by kernel_rfl)))
      refine wpOp_plain rfl rfl (wp_fcall_v 62 #[.slice (some ⟨NN8, 0, none⟩) 6 cN8, .agg M.toArray, .iface 89 (.pointer (some ⟨hb, 0, none⟩))] rfl rfl (by show [ac.eval (.tmp 30), ac.eval (.tmp 31), ac.eval (.tmp 33)] = _; rw [show ac.eval (.tmp 30) = _ from e30, show ac.eval (.tmp 31) = _ from e31, show ac.eval (.tmp 33) = _ from e33]) (by go_simp) ((run_alive NN8 cN8 g8 c8 hb h8 89 M HM.out W r30 (range_be HGA.out hb1)).mono ?_))
      rintro e W2 ⟨rfl, hB⟩
      exact ⟨_, rfl, b, hl2 7, ((hF.world hB).put 7 34 (SP.is (.tuple #[.agg R12.toArray, .int .i64 0])) (.tuple #[.agg R12.toArray, .int .i64 0]) (by rw [hD]; rfl) rfl (by rw [hD]; rfl) (by rw [hsz]; decide) (by rw [hl]; decide)), hb1.trans (hB.mono hb1.size), Row.below rp hB (Row.lt rp), Row.below rcl hB (Row.lt rcl), Row.below rh hB (Row.lt rh), Row.below rg hB (Row.lt rg), Row.below r4 hB (Row.lt r4), (fun h => ⟨(eval_put_other ac _ (by decide)).trans ((al11 (by rwa [getD_set _ _ _ (by decide)] at h)).1), (al11 (by rwa [getD_set _ _ _ (by decide)] at h)).2.1, by rw [getD_set _ _ _ (by decide)]; exact Row.below (al11 (by rwa [getD_set _ _ _ (by decide)] at h)).2.2 hB (Row.lt (al11 (by rwa [getD_set _ _ _ (by decide)] at h)).2.2)⟩), (fun h => by rw [getD_set _ _ _ (by decide)]; exact as11 (by rwa [getD_set _ _ _ (by decide)] at h)), (fun h1 h2 => by change (SP.new 0 0 [] 5).P _ ((ac.put (some 34) _).eval (.tmp 27)); rw [eval_put_other ac _ (by decide)]; exact (SP.new 0 0 [] 5).st _ _ _ hB (ti0 (by rwa [getD_set _ _ _ (by decide)] at h1) (by rwa [getD_set _ _ _ (by decide)] at h2))), (fun _ h => absurd (getD_same (by rw [hl]; decide)) h)⟩
    · have hk3 := hk
      exact wpOp_plain rfl rfl (wp_move_v (ac.eval (.tmp 34)) rfl rfl ⟨b, hl2 8, (hF.put 8 26 (SP.is (.tuple #[.agg R12.toArray, .int .i64 0])) (ac.eval (.tmp 34)) (by rw [hD]; rfl) ((hF.done 7 (34, SP.is (.tuple #[.agg R12.toArray, .int .i64 0])) (by rw [hD]; rfl) (ready_dep hk 7 (by kernel_rfl)))) (by rw [hD]; rfl) (by rw [hsz]; decide) (by rw [hl]; decide)), hb1, rp, rcl, rh, rg, r4, (fun h => ⟨(eval_put_other ac _ (by decide)).trans ((al11 (by rwa [getD_set _ _ _ (by decide)] at h)).1), (al11 (by rwa [getD_set _ _ _ (by decide)] at h)).2.1, by rw [getD_set _ _ _ (by decide)]; exact (al11 (by rwa [getD_set _ _ _ (by decide)] at h)).2.2⟩), (fun h => by rw [getD_set _ _ _ (by decide)]; exact as11 (by rwa [getD_set _ _ _ (by decide)] at h)), (fun h1 h2 => by change (SP.new 0 0 [] 5).P _ ((ac.put (some 26) _).eval (.tmp 27)); rw [eval_put_other ac _ (by decide)]; exact ti0 (by rwa [getD_set _ _ _ (by decide)] at h1) (by rwa [getD_set _ _ _ (by decide)] at h2)), (fun h1 h2 => by change (SP.byd 6 dA).P _ ((ac.put (some 26) _).eval (.tmp 30)); rw [eval_put_other ac _ (by decide)]; exact ti3 (by rwa [getD_set _ _ _ (by decide)] at h1) (by rwa [getD_set _ _ _ (by decide)] at h2))⟩)
    · have hk3 := hk
      exact wpOp_plain rfl rfl (wp_extract (.tmp 26) 0 rfl #[.agg R12.toArray, .int .i64 0] (hF.done 8 (26, SP.is (.tuple #[.agg R12.toArray, .int .i64 0])) (by rw [hD]; rfl) (ready_dep hk 8 (by kernel_rfl))) (.agg R12.toArray) rfl ⟨b, hl2 9, (hF.put 9 35 (SP.is (.agg R12.toArray)) (.agg R12.toArray) (by rw [hD]; rfl) rfl (by rw [hD]; rfl) (by rw [hsz]; decide) (by rw [hl]; decide)), hb1, rp, rcl, rh, rg, r4, (fun h => ⟨(eval_put_other ac _ (by decide)).trans ((al11 (by rwa [getD_set _ _ _ (by decide)] at h)).1), (al11 (by rwa [getD_set _ _ _ (by decide)] at h)).2.1, by rw [getD_set _ _ _ (by decide)]; exact (al11 (by rwa [getD_set _ _ _ (by decide)] at h)).2.2⟩), (fun h => by rw [getD_set _ _ _ (by decide)]; exact as11 (by rwa [getD_set _ _ _ (by decide)] at h)), (fun h1 h2 => by change (SP.new 0 0 [] 5).P _ ((ac.put (some 35) _).eval (.tmp 27)); rw [eval_put_other ac _ (by decide)]; exact ti0 (by rwa [getD_set _ _ _ (by decide)] at h1) (by rwa [getD_set _ _ _ (by decide)] at h2)), (fun h1 h2 => by change (SP.byd 6 dA).P _ ((ac.put (some 35) _).eval (.tmp 30)); rw [eval_put_other ac _ (by decide)]; exact ti3 (by rwa [getD_set _ _ _ (by decide)] at h1) (by rwa [getD_set _ _ _ (by decide)] at h2))⟩)
    · have hk3 := hk
      exact wpOp_plain rfl rfl (wp_extract (.tmp 26) 1 rfl #[.agg R12.toArray, .int .i64 0] (hF.done 8 (26, SP.is (.tuple #[.agg R12.toArray, .int .i64 0])) (by rw [hD]; rfl) (ready_dep hk 8 (by kernel_rfl))) (.int .i64 0) rfl ⟨b, hl2 10, (hF.put 10 36 (SP.is (.int .i64 0)) (.int .i64 0) (by rw [hD]; rfl) rfl (by rw [hD]; rfl) (by rw [hsz]; decide) (by rw [hl]; decide)), hb1, rp, rcl, rh, rg, r4, (fun h => ⟨(eval_put_other ac _ (by decide)).trans ((al11 (by rwa [getD_set _ _ _ (by decide)] at h)).1), (al11 (by rwa [getD_set _ _ _ (by decide)] at h)).2.1, by rw [getD_set _ _ _ (by decide)]; exact (al11 (by rwa [getD_set _ _ _ (by decide)] at h)).2.2⟩), (fun h => by rw [getD_set _ _ _ (by decide)]; exact as11 (by rwa [getD_set _ _ _ (by decide)] at h)), (fun h1 h2 => by change (SP.new 0 0 [] 5).P _ ((ac.put (some 36) _).eval (.tmp 27)); rw [eval_put_other ac _ (by decide)]; exact ti0 (by rwa [getD_set _ _ _ (by decide)] at h1) (by rwa [getD_set _ _ _ (by decide)] at h2)), (fun h1 h2 => by change (SP.byd 6 dA).P _ ((ac.put (some 36) _).eval (.tmp 30)); rw [eval_put_other ac _ (by decide)]; exact ti3 (by rwa [getD_set _ _ _ (by decide)] at h1) (by rwa [getD_set _ _ _ (by decide)] at h2))⟩)
    · have hk3 := hk
      have hsm : T0 < W.heap.size := (by have := hb1.size; omega)
      have hB : Below W.heap.size W (W.alloc (Obj.cells zR.toArray 61)) := (Below.refl _ _).alloc (Nat.le_refl _) _
      have hns : ¬ listed.getD 12 false = true := fun h => not_yet hk (as11 h)
      exact wpOp_plain rfl rfl (wp_allocRn rfl ⟨W.heap.size, hl2 11, ((hF.world hB).put 11 9 (SP.any) (.pointer (some ⟨W.heap.size, 0, none⟩)) (by rw [hD]; rfl) trivial (by rw [hD]; rfl) (by rw [hsz]; decide) (by rw [hl]; decide)), hb1.alloc hb1.size _, Row.alloc rp _, Row.alloc rcl _, Row.alloc rh _, Row.alloc rg _, Row.alloc r4 _, (fun _ => ⟨eval_put_same ac _ (by rw [hF.size, hsz]; decide), hsm, by rw [getD_set _ _ _ (by decide), if_neg hns]; exact Row.new' rfl rfl⟩), (fun _ => getD_same (by rw [hl]; decide)), (fun h1 h2 => by change (SP.new 0 0 [] 5).P _ ((ac.put (some 9) _).eval (.tmp 27)); rw [eval_put_other ac _ (by decide)]; exact (SP.new 0 0 [] 5).st _ _ _ hB (ti0 (by rwa [getD_set _ _ _ (by decide)] at h1) (by rwa [getD_set _ _ _ (by decide)] at h2))), (fun h1 h2 => by change (SP.byd 6 dA).P _ ((ac.put (some 9) _).eval (.tmp 30)); rw [eval_put_other ac _ (by decide)]; exact (SP.byd 6 dA).st _ _ _ hB (ti3 (by rwa [getD_set _ _ _ (by decide)] at h1) (by rwa [getD_set _ _ _ (by decide)] at h2)))⟩)
    · have hk3 := hk
      have hal := ready_dep hk 11 (by kernel_rfl)
      obtain ⟨e1, m1, y2⟩ := al11 hal
      rw [if_neg (not_yet hk)] at y2
      have T := y2.there 0 R12.toArray.size (by decide)
      have fin := y2.over (vs := R12) rfl
      have hT : Fp D a0 listed ac (W.setCells b 0 R12) := hF.turn (by rw [hD]; simp only [List.forall_mem_cons, List.not_mem_nil, false_implies, implies_true, and_true]; exact ⟨fun _ h => h, fun _ h => h, fun _ h => h, fun _ h => h, fun _ h => h, fun _ h => h, fun _ h => h, fun _ h => h, fun _ h => h, fun _ h => h, fun _ h => h, fun _ h => h, fun _ h => h, fun _ h => h⟩)
      exact wpOp_plain rfl rfl (wp_store_mid 61 (.tmp 9) (.tmp 35) rfl b 0 R12.toArray e1 (hF.done 9 (35, SP.is (.agg R12.toArray)) (by rw [hD]; rfl) (ready_dep hk 9 (by kernel_rfl))) T info_Ran R12_one ⟨b, hl2 12, (hT.skip 12 1000 (by rw [hD]; rfl) (by rw [hl]; decide)), below_setCells hb1 (by omega) _, Row.setCells_other rp _ _ _ (by omega), Row.setCells_other rcl _ _ _ (by omega), Row.setCells_other rh _ _ _ (by omega), Row.setCells_other rg _ _ _ (by omega), Row.setCells_other r4 _ _ _ (by omega), (fun _ => ⟨e1, m1, by rw [if_pos (getD_same (by rw [hl]; decide))]; exact fin⟩), (fun _ => by rw [getD_set _ _ _ (by decide)]; exact hal), (fun _ h2 => absurd (by rw [getD_set _ _ _ (by decide)]; exact ready_dep hk 3 (by kernel_rfl)) h2), (fun _ h2 => absurd (by rw [getD_set _ _ _ (by decide)]; exact ready_dep hk 7 (by kernel_rfl)) h2)⟩)
    · have hk3 := hk
      exact wpOp_plain rfl rfl (wp_assign_v (ac.eval (.tmp 36)) rfl rfl ⟨b, hl2 13, (hF.put 13 10 (SP.is (.int .i64 0)) (ac.eval (.tmp 36)) (by rw [hD]; rfl) ((hF.done 10 (36, SP.is (.int .i64 0)) (by rw [hD]; rfl) (ready_dep hk 10 (by kernel_rfl)))) (by rw [hD]; rfl) (by rw [hsz]; decide) (by rw [hl]; decide)), hb1, rp, rcl, rh, rg, r4, (fun h => ⟨(eval_put_other ac _ (by decide)).trans ((al11 (by rwa [getD_set _ _ _ (by decide)] at h)).1), (al11 (by rwa [getD_set _ _ _ (by decide)] at h)).2.1, by rw [getD_set _ _ _ (by decide)]; exact (al11 (by rwa [getD_set _ _ _ (by decide)] at h)).2.2⟩), (fun h => by rw [getD_set _ _ _ (by decide)]; exact as11 (by rwa [getD_set _ _ _ (by decide)] at h)), (fun h1 h2 => by change (SP.new 0 0 [] 5).P _ ((ac.put (some 10) _).eval (.tmp 27)); rw [eval_put_other ac _ (by decide)]; exact ti0 (by rwa [getD_set _ _ _ (by decide)] at h1) (by rwa [getD_set _ _ _ (by decide)] at h2)), (fun h1 h2 => by change (SP.byd 6 dA).P _ ((ac.put (some 10) _).eval (.tmp 30)); rw [eval_put_other ac _ (by decide)]; exact ti3 (by rwa [getD_set _ _ _ (by decide)] at h1) (by rwa [getD_set _ _ _ (by decide)] at h2))⟩)
  · clear hb1 rp rcl rh rg r4 
    intro listed ac W hI hr
    obtain ⟨b, hl, hF, hb1, rp, rcl, rh, rg, r4, al11, as11, ti0, ti3⟩ := hI
    have hall := all_listed (by kernel_rfl) hl hr
    obtain ⟨ea9, m9, p9⟩ := al11 (hall 11 (by decide))
    rw [if_pos (hall 12 (by decide))] at p9
    obtain ⟨x27, h27⟩ : ∃ x, ac.eval (.tmp 27) = x := ⟨_, rfl⟩
    have h28 : ac.eval (.tmp 28) = .pointer (some ⟨b2, 0, none⟩) := hF.done 1 (28, SP.is (.pointer (some ⟨b2, 0, none⟩))) (by rw [hD]; rfl) (hall 1 (by decide))
    have h29 : ac.eval (.tmp 29) = .slice (some ⟨gc, 0, none⟩) 6 6 := hF.done 2 (29, SP.is (.slice (some ⟨gc, 0, none⟩) 6 6)) (by rw [hD]; rfl) (hall 2 (by decide))
    obtain ⟨x30, h30⟩ : ∃ x, ac.eval (.tmp 30) = x := ⟨_, rfl⟩
    have h31 : ac.eval (.tmp 31) = .agg M.toArray := hF.done 4 (31, SP.is (.agg M.toArray)) (by rw [hD]; rfl) (hall 4 (by decide))
    have h32 : ac.eval (.tmp 32) = .pointer (some ⟨hb, 0, none⟩) := hF.done 5 (32, SP.is (.pointer (some ⟨hb, 0, none⟩))) (by rw [hD]; rfl) (hall 5 (by decide))
    have h33 : ac.eval (.tmp 33) = .iface 89 (.pointer (some ⟨hb, 0, none⟩)) := hF.done 6 (33, SP.is (.iface 89 (.pointer (some ⟨hb, 0, none⟩)))) (by rw [hD]; rfl) (hall 6 (by decide))
    have h34 : ac.eval (.tmp 34) = .tuple #[.agg R12.toArray, .int .i64 0] := hF.done 7 (34, SP.is (.tuple #[.agg R12.toArray, .int .i64 0])) (by rw [hD]; rfl) (hall 7 (by decide))
    have h26 : ac.eval (.tmp 26) = .tuple #[.agg R12.toArray, .int .i64 0] := hF.done 8 (26, SP.is (.tuple #[.agg R12.toArray, .int .i64 0])) (by rw [hD]; rfl) (hall 8 (by decide))
    have h35 : ac.eval (.tmp 35) = .agg R12.toArray := hF.done 9 (35, SP.is (.agg R12.toArray)) (by rw [hD]; rfl) (hall 9 (by decide))
    have h36 : ac.eval (.tmp 36) = .int .i64 0 := hF.done 10 (36, SP.is (.int .i64 0)) (by rw [hD]; rfl) (hall 10 (by decide))
    have h10 : ac.eval (.tmp 10) = .int .i64 0 := hF.done 13 (10, SP.is (.int .i64 0)) (by rw [hD]; rfl) (hall 13 (by decide))
    have ea := hF.lay [(27, x27), (28, .pointer (some ⟨b2, 0, none⟩)), (29, .slice (some ⟨gc, 0, none⟩) 6 6), (30, x30), (31, .agg M.toArray), (32, .pointer (some ⟨hb, 0, none⟩)), (33, .iface 89 (.pointer (some ⟨hb, 0, none⟩))), (34, .tuple #[.agg R12.toArray, .int .i64 0]), (26, .tuple #[.agg R12.toArray, .int .i64 0]), (35, .agg R12.toArray), (36, .int .i64 0), (9, .pointer (some ⟨b, 0, none⟩)), (10, .int .i64 0)] (by rw [hD, hsz]; rfl) (by simp only [List.forall_mem_cons, List.not_mem_nil, false_implies, implies_true, and_true]; exact ⟨h27, h28, h29, h30, h31, h32, h33, h34, h26, h35, h36, ea9, h10⟩)
    rw [ha0] at ea
    simp only [List.foldl_cons, List.foldl_nil, List.setIfInBounds_toArray, List.set_cons_zero, List.set_cons_succ] at ea
    clear hF hall hr hl hD al11 as11 ti0 ti3 zs2 zs7 zs8 ha0 hsz h27 h28 h29 h30 h31 h32 h33 h34 h26 h35 h36 ea9 h10
    subst ea
    have RB : Hid (Row W b R12 61) := p9
    have R4 : Hid (Row W b4 zR 61) := r4
    have BW : Hid (Below w.heap.size w W) := BX.out.trans (hb1.mono BX.out.size)
    have hc := rh.cell 1 _ rfl
    have u0 := p9.cell 0 _ rfl
    have v0 := r4.cell 0 _ rfl
    have vf0 := r4.thaw 0
    have u1 := p9.cell 1 _ rfl
    have v1 := r4.cell 1 _ rfl
    have vf1 := r4.thaw 1
    have u2 := p9.cell 2 _ rfl
    have v2 := r4.cell 2 _ rfl
    have vf2 := r4.thaw 2
    have u3 := p9.cell 3 _ rfl
    have v3 := r4.cell 3 _ rfl
    have vf3 := r4.thaw 3
    have u4 := p9.cell 4 _ rfl
    have v4 := r4.cell 4 _ rfl
    have vf4 := r4.thaw 4
    have nb : b4 ≠ b := by omega
    have nb' : b ≠ b4 := by omega
    have nh : hb ≠ b4 := by have h2 := N3.out; have h3 := N4.out; omega
    have nh' : b4 ≠ hb := fun e => nh e.symm
    have HW4 : Hid (w.heap.size ≤ b4) := by show _ ≤ _; have h1 := N24.out; have h2 := HB2.out; omega
    clear p9 r4 hb1 rp rcl rh rg m9 m2 m4 mh hgc hT0 l2 l4 lh l8 lg
    go_wp2_with fail
    go_region
    all_goals
      have RF := ((((R4.out.set 0 (.int .u64 12)).set 1 (.int .u64 0)).set 2 (.int .u64 0)).set 3 (.int .u64 0)).set 4 (.int .i64 7)
      have GF : Gro (· = b4) W _ := (((((Gro.refl (· = b4) W).set b4 0 (.int .u64 12) rfl).set b4 1 (.int .u64 0) rfl).set b4 2 (.int .u64 0) rfl).set b4 3 (.int .u64 0) rfl).set b4 4 (.int .i64 7) rfl
      have BF := (BW.out.trans (GF.to_below BW.out.size (fun k e => by rw [e]; exact HW4.out))).drew
      have RFD := RF.drew
      go_wp2_with fail
      exact bodyPost_ret (results_rowS_tt Tryz.results22 _ _ b4 61 R12 (.int .i64 0) (.slice none 0 0) rfl rfl rfl RFD Tryz.underlying61 info_Ran) rfl ⟨rfl, BF⟩

end Go.Proofs.YtclbiophgnkggaaGreatDoor
