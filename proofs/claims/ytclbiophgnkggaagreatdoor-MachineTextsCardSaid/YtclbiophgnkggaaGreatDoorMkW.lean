/-
  laws for the law's run.
-/
import Derived.Test.YtclbiophgnkggaaGreatDoorMkU
import Derived.ArgAppend

namespace Go.Proofs.YtclbiophgnkggaaGreatDoor
open Go Go.RowKit
open Sha
open Wd

/-- The cells of the law's call: 100 gas, these arguments. -/
def callC (v : Value) : List Value := List.replicate 40 (.int .u8 0) ++ [.int .i64 0, .int .u64 0, .int .u64 0, .int .u64 0, .int .u64 0, v, .int .i64 0, .int .i64 100]
theorem callC_len (v : Value) : (callC v).length = 48 := rfl
theorem callC_set (v u : Value) : (callC v).set 45 u = callC u := rfl
theorem callC_one (A : Option Addr) (n c : Nat) : (callC (.slice A n c)).toArray.all (·.oneCell') = true := by rw [← Array.all_toList]; rfl
theorem info_C : (Tryz.prog.info? 69).map (·.size) = some 48 := by kernel_rfl
theorem built_run (T : Nat) (A1 : Option Addr) (n1 c1 gs n : Nat) (Aa : Option Addr) (na ca : Nat) (ht : TypeId) (hb : Nat) : Tryz.prog.built 100 [(0, .slice (some ⟨T, 0, none⟩) 28 28), (1, .agg #[.slice A1 n1 c1, .slice (some ⟨gs, 0, none⟩) n n]), (2, .agg (callC (.slice Aa na ca)).toArray), (3, .iface ht (.pointer (some ⟨hb, 0, none⟩))), (5, .int .i64 100)] = some (rc T (.slice A1 n1 c1) (.slice (some ⟨gs, 0, none⟩) n n) (callC (.slice Aa na ca)) (.iface ht (.pointer (some ⟨hb, 0, none⟩))) (.slice none 0 0) 100 0 zW).toArray := by kernel_rfl
section
variable {ops : Array Oper} {rest : List Oper} {op : Oper} {a : Act} {w : World} {Q : Exit → Act → World → Prop}
theorem wpList_buildRun (hgd : op.guard = none) (x0 x1 x2 x3 x5 : Operand) (ho : op.op = .build 100 #[(0, x0), (1, x1), (2, x2), (3, x3), (5, x5)]) (T : Nat) (A1 : Option Addr) (n1 c1 gs n : Nat) (Aa : Option Addr) (na ca : Nat) (ht : TypeId) (hb : Nat) (L M : List Value) (hL : L = callC (.slice Aa na ca)) (hM : M = rc T (.slice A1 n1 c1) (.slice (some ⟨gs, 0, none⟩) n n) L (.iface ht (.pointer (some ⟨hb, 0, none⟩))) (.slice none 0 0) 100 0 zW)
    (h0 : a.eval x0 = .slice (some ⟨T, 0, none⟩) 28 28) (h1 : a.eval x1 = .agg #[.slice A1 n1 c1, .slice (some ⟨gs, 0, none⟩) n n]) (h2 : a.eval x2 = .agg L.toArray) (h3 : a.eval x3 = .iface ht (.pointer (some ⟨hb, 0, none⟩))) (h5 : a.eval x5 = .int .i64 100)
    (h : wpList Tryz.prog ops Q rest (a.put op.dst (.agg M.toArray)) w) : wpList Tryz.prog ops Q (op :: rest) a w :=
  wpList_plain hgd fun _ hK => by
    subst hL hM
    have hr := run_build (P := Tryz.prog) w 100 #[(0, .slice (some ⟨T, 0, none⟩) 28 28), (1, .agg #[.slice A1 n1 c1, .slice (some ⟨gs, 0, none⟩) n n]), (2, .agg (callC (.slice Aa na ca)).toArray), (3, .iface ht (.pointer (some ⟨hb, 0, none⟩))), (5, .int .i64 100)] _ (built_run T A1 n1 c1 gs n Aa na ca ht hb)
    unfold Oper.wp execOp
    simp only [ho, List.map_toArray, List.map_cons, List.map_nil, h0, h1, h2, h3, h5, Sem.run_bind, hr, Result.andThen_ok, Sem.run_pure, Oper.upon_value]
    exact hK _ _ h
end
/-- The law's small program. -/
def dA : List (BitVec 8) := [16#8, 0#8, 16#8, 1#8, 6#8, 1#8]
theorem chk_dA : chk dA = some alv := rfl
theorem read_dA (T g cg : Nat) (hcg : 6 ≤ cg) (w : World) (hT : Row w T mtab 84) (hr : w.rangeAt g 0 (vB dA)) : Calls Tryz.prog 16 #[.slice (some ⟨T, 0, none⟩) 28 28, .slice (some ⟨g, 0, none⟩) 6 cg] w fun e w' => ∃ A1 c1 gs, e = .returned (.tuple #[.agg #[.slice A1 4 c1, .slice (some ⟨gs, 0, none⟩) 6 6], .int .i64 0]) ∧ Lw w' 53 7 (.slice A1 4 c1) 4 (fl alv) ∧ Row w' gs (vI (sts alv 6)) 3 ∧ Below w.heap.size w w' := by
  refine Calls.mono (read_any T g 6 cg dA rfl (by decide) (by decide) hcg w hT hr) ?_
  rintro e w' ⟨h | h, hB⟩
  · obtain ⟨ls, v, gs, q1, _, rfl, q3, q4, _, _⟩ := h
    rw [chk_dA] at q1
    obtain rfl := Option.some.inj q1
    obtain ⟨A1, c1, rfl, _, _⟩ := Lw.form q3
    exact ⟨A1, c1, gs, rfl, q3, q4, hB⟩
  · rw [chk_dA] at h
    cases h.1
set_option maxRecDepth 100000 in
set_option maxHeartbeats 4000000 in
theorem run_alive (g cg ga ca hb : Nat) (hcg : 6 ≤ cg) (ht : TypeId) (L : List Value) (hL : L = callC (.slice (some ⟨ga, 0, none⟩) 2 ca)) (w : World) (hr : w.rangeAt g 0 (vB dA)) (hga : w.rangeAt ga 0 (fw [5, 7])) : Calls Tryz.prog 62 #[.slice (some ⟨g, 0, none⟩) 6 cg, .agg L.toArray, .iface ht (.pointer (some ⟨hb, 0, none⟩))] w fun e w' => e = .returned (.tuple #[.agg #[.int .u64 12, .int .u64 0, .int .u64 0, .int .u64 0, .int .i64 7], .int .i64 0]) ∧ Below w.heap.size w w' := by
  have HR : Hid (w.rangeAt g 0 (vB dA)) := hr
  have HGA : Hid (w.rangeAt ga 0 (fw [5, 7])) := hga
  have HL : Hid (L = callC (.slice (some ⟨ga, 0, none⟩) 2 ca)) := hL
  have HLI : Hid ((Tryz.prog.info? 69).map (·.size) = some L.length) := by show _ = _; rw [hL, callC_len]; exact info_C
  have hq := hostsome_eq ht (.pointer (some ⟨hb, 0, none⟩))
  have HCG : Hid (6 ≤ cg) := hcg
  clear hr hga hL hcg
  go_enter Tryz.func62, Tryz.ntmps62
  go_upto_region 3 with (first
    | (refine wpList_boxG 69 rfl (.tmp 1) rfl L rfl ?_; intro X1 q1 q2 q3; have R4 : Hid (Row X1 w.heap.size L 69) := q1; have B1 : Hid (Below w.heap.size w X1) := q2; have S1 : Hid (X1.heap.size = w.heap.size + 1) := q3; clear q1 q2 q3; simp only [Act.put, List.setIfInBounds_toArray, List.set_cons_zero, List.set_cons_succ])
    | (refine wpList_allocR rfl rfl ?_; intro X2 q1 q2 q3; have R6 : Hid (Row X2 X1.heap.size zR 61) := q1; have B2 : Hid (Below X1.heap.size X1 X2) := q2; clear q1 q2 q3; simp only [Act.put, List.setIfInBounds_toArray, List.set_cons_zero, List.set_cons_succ]))
  obtain ⟨b4, hb4⟩ : ∃ b, b = w.heap.size := ⟨_, rfl⟩
  obtain ⟨b6, hb6⟩ : ∃ b, b = X1.heap.size := ⟨_, rfl⟩
  have HB4 : Hid (b4 = w.heap.size ∧ w.heap.size ≤ b6) := ⟨hb4, by rw [hb6]; exact B1.out.size⟩
  have BB : Hid (Below w.heap.size w X2) := B1.out.trans (B2.out.mono B1.out.size)
  replace R4 : Hid (Row X2 b4 L 69) := by rw [hb4]; exact Row.below R4.out B2.out R4.out.lt
  replace R6 : Hid (Row X2 b6 zR 61) := by rw [hb6]; exact R6.out
  rw [← hb4, ← hb6]
  clear hb4 hb6 B1 B2 S1 hq
  go_upto_region 4 with (go_at_call 15; refine Calls.mono (table_any X2) ?_; rintro e X3 ⟨rfl, qt, q2⟩; have RT : Hid (Row X3 X2.heap.size mtab 84) := qt; have B3 : Hid (Below w.heap.size w X3) := BB.out.trans (q2.mono BB.out.size); have R43 : Hid (Row X3 b4 L 69) := Row.below R4.out q2 R4.out.lt; have R63 : Hid (Row X3 b6 zR 61) := Row.below R6.out q2 R6.out.lt; clear qt q2 R4 R6 BB)
  obtain ⟨T, hT⟩ : ∃ T, T = X2.heap.size := ⟨_, rfl⟩
  rw [← hT] at RT
  rw [← hT]
  clear hT
  have HRD : Hid _ := read_dA T g cg HCG.out X3 RT.out (range_be HR.out B3.out)
  go_upto_region 5 with (first
    | (go_at_call 16; refine Calls.mono HRD.out ?_; rintro e X4 ⟨A1, c1, gs, rfl, q3, q4, q2⟩; have LP : Hid (Lw X4 53 7 (.slice A1 4 c1) 4 (fl alv)) := q3; have RS : Hid (Row X4 gs (vI (sts alv 6)) 3) := q4; have B4 : Hid (Below w.heap.size w X4) := B3.out.trans (q2.mono B3.out.size); have RT4 : Hid (Row X4 T mtab 84) := Row.below RT.out q2 RT.out.lt; have R44 : Hid (Row X4 b4 L 69) := Row.below R43.out q2 R43.out.lt; have R64 : Hid (Row X4 b6 zR 61) := Row.below R63.out q2 R63.out.lt; clear q2 q3 q4)
    | (refine wpList_allocP rfl rfl ?_; intro X5 q1 q2 q3; have R9 : Hid (Row X5 X4.heap.size zP 44) := q1; have B5 : Hid (Below X4.heap.size X4 X5) := q2; clear q1 q2 q3; simp only [Act.put, List.setIfInBounds_toArray, List.set_cons_zero, List.set_cons_succ])
    | (refine wpList_storeL rfl 44 (.tmp 9) (.tmp 20) rfl X4.heap.size [.slice A1 4 c1, .slice (some ⟨gs, 0, none⟩) 6 6] zP 44 rfl rfl R9.out rfl info_P (pp_one A1 _ _ _ 6) ?_; intro X6 q1 q2; have E6 : Hid (X6 = _) := q1; have R96 : Hid (Row X6 X4.heap.size [.slice A1 4 c1, .slice (some ⟨gs, 0, none⟩) 6 6] 44) := q2; clear q1 q2; simp only [Act.put]))
  have BY : Below X4.heap.size X4 X6 := by rw [E6.out]; exact below_setCells B5.out (Nat.le_refl _) _
  obtain ⟨b9, hb9⟩ : ∃ b, b = X4.heap.size := ⟨_, rfl⟩
  rw [← hb9] at R96
  rw [← hb9]
  have LP6 : Hid (Lw X6 53 7 (.slice A1 4 c1) 4 (fl alv)) := Lw.be LP.out BY
  have RS6 : Hid (Row X6 gs (vI (sts alv 6)) 3) := Row.below RS.out BY RS.out.lt
  have B6 : Hid (Below w.heap.size w X6) := B4.out.trans (BY.mono B4.out.size)
  have RT6 : Hid (Row X6 T mtab 84) := Row.below RT4.out BY RT4.out.lt
  have R46 : Hid (Row X6 b4 L 69) := Row.below R44.out BY R44.out.lt
  have R66 : Hid (Row X6 b6 zR 61) := Row.below R64.out BY R64.out.lt
  have HMB : Hid _ := mayBe_ok L (some ⟨ga, 0, none⟩) ca (by rw [HL.out]; rfl) (by rw [HL.out]; rfl) (by rw [HL.out]; rfl) (by rw [HL.out]; rfl) X6
  clear BY hb9 E6 R9 B5 LP RS B4 RT4 R44 R64 R43 R63 B3 RT HRD
  go_upto_region 9 with (first
    | (refine wpList_load_w rfl 69 (.tmp 4) rfl b4 0 rfl L _ R46.out.all Tryz.underlying69 rfl HLI.out ?_; simp only [Act.put, List.setIfInBounds_toArray, List.set_cons_zero, List.set_cons_succ])
    | (go_at_call 89; refine Calls.mono HMB.out ?_; rintro e X7 ⟨rfl, q2⟩; have LP7 : Hid (Lw X7 53 7 (.slice A1 4 c1) 4 (fl alv)) := Lw.be LP6.out q2; have RS7 : Hid (Row X7 gs (vI (sts alv 6)) 3) := Row.below RS6.out q2 RS6.out.lt; have B7 : Hid (Below w.heap.size w X7) := B6.out.trans (q2.mono B6.out.size); have RT7 : Hid (Row X7 T mtab 84) := Row.below RT6.out q2 RT6.out.lt; have R47 : Hid (Row X7 b4 L 69) := Row.below R46.out q2 R46.out.lt; have R67 : Hid (Row X7 b6 zR 61) := Row.below R66.out q2 R66.out.lt; have R97 : Hid (Row X7 b9 [.slice A1 4 c1, .slice (some ⟨gs, 0, none⟩) 6 6] 44) := Row.below R96.out q2 R96.out.lt; clear q2))
  have c45 : X7.cell? ⟨b4, 45, none⟩ = some (.slice (some ⟨ga, 0, none⟩) 2 ca) := R47.out.cell 45 _ (by rw [HL.out]; rfl)
  have HCL : Hid _ := wclone_any [5, 7] (by decide) ga ca X7 (range_be HGA.out B7.out)
  have HL45 : Hid (45 < L.length) := by show _ < _; rw [HL.out, callC_len]; decide
  clear HMB LP6 RS6 B6 RT6 R46 R66 R96
  go_upto_region 10 with (first
    | (go_at_call 90; refine Calls.mono HCL.out ?_; rintro e X8 ⟨Aa, cc, rfl, qa, qf, q2⟩; have LA8 : Hid (Lw X8 37 4 (.slice Aa 2 cc) 2 (fw [5, 7])) := qa; have LP8 : Hid (Lw X8 53 7 (.slice A1 4 c1) 4 (fl alv)) := Lw.be LP7.out q2; have RS8 : Hid (Row X8 gs (vI (sts alv 6)) 3) := Row.below RS7.out q2 RS7.out.lt; have B8 : Hid (Below w.heap.size w X8) := B7.out.trans (q2.mono B7.out.size); have RT8 : Hid (Row X8 T mtab 84) := Row.below RT7.out q2 RT7.out.lt; have R48 : Hid (Row X8 b4 L 69) := Row.below R47.out q2 R47.out.lt; have R68 : Hid (Row X8 b6 zR 61) := Row.below R67.out q2 R67.out.lt; have R98 : Hid (Row X8 b9 [.slice A1 4 c1, .slice (some ⟨gs, 0, none⟩) 6 6] 44) := Row.below R97.out q2 R97.out.lt; clear qa qf q2)
    | (refine wpList_set1 rfl 65 (.tmp 35) (.tmp 34) rfl b4 45 (.slice Aa 2 cc) L 69 rfl rfl rfl R48.out HL45.out info_Ws rfl ?_; intro X9 q1 q2 q3; have R49 : Hid (Row X9 b4 (L.set 45 (.slice Aa 2 cc)) 69) := q1; have G9 : Hid (Gro (· = b4) X8 X9) := q2; clear q1 q2 q3; simp only [Act.put]))
  obtain ⟨M, hM⟩ : ∃ M, M = callC (.slice Aa 2 cc) := ⟨_, rfl⟩
  have HM : Hid (M = callC (.slice Aa 2 cc)) := hM
  have R4M : Hid (Row X9 b4 M 69) := by rw [hM, ← callC_set (.slice (some ⟨ga, 0, none⟩) 2 ca), ← HL.out]; exact R49.out
  have HMI : Hid ((Tryz.prog.info? 69).map (·.size) = some M.length) := by show _ = _; rw [hM, callC_len]; exact info_C
  have LA9 : Hid (Lw X9 37 4 (.slice Aa 2 cc) 2 (fw [5, 7])) := Lw.gro LA8.out G9.out (Lw.ne LA8.out R48.out (by decide))
  have LP9 : Hid (Lw X9 53 7 (.slice A1 4 c1) 4 (fl alv)) := Lw.gro LP8.out G9.out (Lw.ne LP8.out R48.out (by decide))
  have RS9 : Hid (Row X9 gs (vI (sts alv 6)) 3) := G9.out.row RS8.out (row_ne2 RS8.out R48.out (by decide))
  have RT9 : Hid (Row X9 T mtab 84) := G9.out.row RT8.out (row_ne2 RT8.out R48.out (by decide))
  have R69 : Hid (Row X9 b6 zR 61) := G9.out.row R68.out (row_ne2 R68.out R48.out (by decide))
  have R99 : Hid (Row X9 b9 [.slice A1 4 c1, .slice (some ⟨gs, 0, none⟩) 6 6] 44) := G9.out.row R98.out (row_ne2 R98.out R48.out (by decide))
  have B9 : Hid (Below w.heap.size w X9) := B8.out.trans (G9.out.to_below B8.out.size (fun k e => by rw [e, HB4.out.1]; exact Nat.le_refl _))
  have c47 : X9.cell? ⟨b4, 47, none⟩ = some (.int .i64 100) := R4M.out.cell 47 _ (by rw [hM]; rfl)
  obtain ⟨RC, hRC⟩ : ∃ RC, RC = rc T (.slice A1 4 c1) (.slice (some ⟨gs, 0, none⟩) 6 6) M (.iface ht (.pointer (some ⟨hb, 0, none⟩))) (.slice none 0 0) 100 0 zW := ⟨_, rfl⟩
  have HRC : Hid (RC = rc T (.slice A1 4 c1) (.slice (some ⟨gs, 0, none⟩) 6 6) M (.iface ht (.pointer (some ⟨hb, 0, none⟩))) (.slice none 0 0) 100 0 zW) := hRC
  clear hM hRC c45 R49 G9 LA8 LP8 RS8 B8 RT8 R48 R68 R98 HCL LP7 RS7 B7 RT7 R47 R67 R97 HL45 HL
  go_upto_region 11 with (first
    | (refine wpList_load_w rfl 44 (.tmp 9) rfl b9 0 rfl [.slice A1 4 c1, .slice (some ⟨gs, 0, none⟩) 6 6] _ R99.out.all Tryz.underlying44 rfl info_P ?_; simp only [Act.put, List.setIfInBounds_toArray, List.set_cons_zero, List.set_cons_succ])
    | (refine wpList_load_w rfl 69 (.tmp 4) rfl b4 0 rfl M _ R4M.out.all Tryz.underlying69 rfl HMI.out ?_; simp only [Act.put, List.setIfInBounds_toArray, List.set_cons_zero, List.set_cons_succ])
    | (refine wpList_buildRun rfl (.tmp 36) (.tmp 37) (.tmp 38) (.tmp 39) (.tmp 41) rfl T A1 4 c1 gs 6 Aa 2 cc ht hb M RC HM.out HRC.out rfl rfl rfl rfl rfl ?_; simp only [Act.put, List.setIfInBounds_toArray, List.set_cons_zero, List.set_cons_succ])
    | (refine wpList_boxG 100 rfl (.tmp 42) rfl RC rfl ?_; intro Y q1 q2 q3; have RR : Hid (Row Y X9.heap.size RC 100) := q1; have BY : Hid (Below X9.heap.size X9 Y) := q2; clear q1 q2 q3; simp only [Act.put, List.setIfInBounds_toArray, List.set_cons_zero, List.set_cons_succ]))
  have HRN : Hid (Rn Y X9 Y X9.heap.size T gs 6 (.slice A1 4 c1) M (.iface ht (.pointer (some ⟨hb, 0, none⟩))) (.slice Aa 2 cc) (.slice none 0 0) [] 100 0 zW alv [5, 7]) :=
    ⟨by rw [← HRC.out]; exact RR.out, by rw [HM.out]; rfl, rfl, Lw.nil _ _ _, Row.below RT9.out BY.out RT9.out.lt, Lw.be LP9.out BY.out, Row.below RS9.out BY.out RS9.out.lt, by rw [HM.out]; rfl, Lw.be LA9.out BY.out, (fun g e => by cases e), BY.out, Nat.le_refl _, (fun g e => by cases e), (fun _ _ q => q)⟩
  have HAL : Hid _ := all_alive X9.heap.size T gs (.slice A1 4 c1) M (.iface ht (.pointer (some ⟨hb, 0, none⟩))) (.slice Aa 2 cc) (.slice none 0 0) zW (by rw [HM.out]; rfl) Y X9 Y HRN.out
  clear c47 HRN RR
  go_wp2_with (first
    | (go_at_call 91; refine Calls.mono HAL.out ?_; rintro e Z ⟨rfl, q2⟩; have RZ : Hid (Row Z b6 zR 61) := Row.below R69.out q2 R69.out.lt; have BZ : Hid (Below w.heap.size w Z) := B9.out.trans (q2.mono B9.out.size); clear q2)
    | (refine wpList_storeL rfl 61 (.tmp 6) (.tmp 46) rfl b6 [.int .u64 12, .int .u64 0, .int .u64 0, .int .u64 0, .int .i64 7] zR 61 rfl rfl RZ.out rfl info_Ran (by rw [← Array.all_toList]; rfl) ?_; intro Z2 q1 q2; have EZ : Hid (Z2 = _) := q1; have RZ2 : Hid (Row Z2 b6 [.int .u64 12, .int .u64 0, .int .u64 0, .int .u64 0, .int .i64 7] 61) := q2; clear q1 q2; simp only [Act.put]))
  have BF : Below w.heap.size w Z2 := by rw [EZ.out]; exact below_setCells BZ.out HB4.out.2 _
  exact bodyPost_ret (results_rowS_tmp Tryz.results62 _ _ b6 61 [.int .u64 12, .int .u64 0, .int .u64 0, .int .u64 0, .int .i64 7] (.int .i64 0) rfl rfl RZ2.out Tryz.underlying61 info_Ran) rfl ⟨rfl, BF⟩

end Go.Proofs.YtclbiophgnkggaaGreatDoor

namespace Go.Proofs.YtclbiophgnkggaaGreatDoor
open Go Go.RowKit
open Sha
open Wd

theorem vB_app (a b : List (BitVec 8)) : vB (a ++ b) = vB a ++ vB b := by simp [vB]
theorem sl_nil {w : World} {A : Option Addr} {n cap : Nat} {d : List (BitVec 8)} (h : Bw w (.slice A n cap) d) : A = none → n = 0 ∧ cap = 0 := fun e => by
  subst e
  rcases h.2 with ⟨h2, h0⟩ | ⟨g, c2, cur, hvv, _⟩
  · simp only [Value.slice.injEq] at h2
    exact ⟨h2.2.1, h2.2.2⟩
  · cases hvv
def SP.byd (n : Nat) (d : List (BitVec 8)) : SP := ⟨fun W v => ∃ N c, v = .slice (some ⟨N, 0, none⟩) n c ∧ n ≤ c ∧ W.rangeAt N 0 (vB d), fun _ _ _ hB ⟨N, c, e, h, r⟩ => ⟨N, c, e, h, range_be r hB⟩⟩
section
variable {o : Oper} {a : Act} {w : World} {K : Act → World → Prop} {Q : Exit → Act → World → Prop}
theorem wp_appb (s x : Operand) (ho : o.op = .call { callee := .builtin .append, args := #[s, x], argTypes := #[22, 22] }) (g g2 k m t : Nat) (d news : List (BitVec 8)) (hd : d.length = k) (hm : news.length = m) (ht : k + m = t) (h0 : 0 < m) (hk : t ≤ 1000) (hs : a.eval s = .slice (some ⟨g, 0, none⟩) k k) (hr : Row w g (vB d) 5) (hx : a.eval x = .slice (some ⟨g2, 0, none⟩) m m) (hr2 : Row w g2 (vB news) 5)
    (h : ∀ A c w', Bw w' (.slice A t c) (d ++ news) → (A = none → False) → Below w.heap.size w w' → K (a.put o.dst (.slice A t c)) w') : Oper.wp Tryz.prog o a w K Q := by
  obtain ⟨ie, z, h1, h2, h3, h5, h4⟩ := info_u8open
  obtain ⟨v', w', hrun, r1, r2⟩ := run_append_arg_grows (P := Tryz.prog) w 22 o.type 5 ie z 1 1 Tryz.underlying22 h1 h2 h3 h5 h4 (by decide) ⟨g, 0, none⟩ k k (vB d) (by rw [vB_length, hd, Nat.mul_one]) (fun j u hj => by rw [Addr.add_mid]; exact hr.all j u hj) ⟨g2, 0, none⟩ m m (vB news) (by rw [vB_length, hm, Nat.mul_one]) (fun j u hj => by rw [Addr.add_mid]; exact hr2.all j u hj) (by omega) (by unfold maxLen; omega) (by omega)
  have hbw : Bw w' v' (d ++ news) := by
    obtain ⟨q1, q2⟩ := r1
    refine ⟨by rw [List.length_append, hd, hm]; simp [vB_length, hd, hm], ?_⟩
    rcases q2 with ⟨_, q3⟩ | ⟨g', cap', cur, q3, _, q4, q5, q6, q7, q8⟩
    · omega
    · refine .inr ⟨g', cap', cur, by rw [List.length_append, hd, hm]; exact q3, Nat.zero_le _, q4, by rw [List.length_append, hd, hm]; exact q5, q6, q7, ?_⟩
      rw [List.length_append, hd, hm, vB_app]
      exact q8
  obtain ⟨A, c, hv, _, _⟩ := Bw.form hbw
  rw [List.length_append, hd, hm, ht] at hv
  subst hv
  have hB : Below w.heap.size w w' := (Below.refl _ _).grown r2 (Nat.le_refl _) (fun k e => by cases e)
  unfold Oper.wp
  simp [execOp, ho, resolve, invoke, builtin, hs, hx, hrun, Result.andThen]
  exact h A c w' hbw (fun e => by have := sl_nil hbw e; omega) hB
theorem wp_build0 (ho : o.op = .buildSlice 22 0 #[]) (h : ∀ W2, Row W2 w.heap.size [] 5 → Below w.heap.size w W2 → K (a.put o.dst (.slice (some ⟨w.heap.size, 0, none⟩) 0 0)) W2) : Oper.wp Tryz.prog o a w K Q := by
  unfold Oper.wp execOp
  simp only [ho]
  go_simp
  exact h _ (Row.new' rfl rfl) ((Below.refl _ _).alloc (Nat.le_refl _) _)
theorem wp_fP0 {x : Operand} (b : Nat) (ho : o.op = .fieldAddr 72 x 0) (hx : a.eval x = .pointer (some ⟨b, 0, none⟩)) (h : K (a.put o.dst (.pointer (some ⟨b, 0, none⟩))) w) : Oper.wp Tryz.prog o a w K Q := by
  unfold Oper.wp execOp
  simp only [ho, hx]
  go_simp
  exact h
theorem wp_loadb {x : Operand} (ho : o.op = .load 22 x) (b f : Nat) (hx : a.eval x = .pointer (some ⟨b, f, none⟩)) (A : Option Addr) (n c : Nat) (hc : w.cell? ⟨b, f, none⟩ = some (.slice A n c)) (h : K (a.put o.dst (.slice A n c)) w) : Oper.wp Tryz.prog o a w K Q := by
  unfold Oper.wp execOp
  simp only [ho, hx]
  go_simp
  exact h
theorem wp_mkif {x : Operand} (ho : o.op = .makeInterface 89 x) (v : Value) (hx : a.eval x = v) (h : K (a.put o.dst (.iface 89 v)) w) : Oper.wp Tryz.prog o a w K Q := by
  unfold Oper.wp execOp
  simp only [ho, hx]
  go_simp
  exact h
theorem wp_allocRn (ho : o.op = .alloc 61) (h : K (a.put o.dst (.pointer (some ⟨w.heap.size, 0, none⟩))) (w.alloc (Obj.cells zR.toArray 61))) : Oper.wp Tryz.prog o a w K Q := by
  unfold Oper.wp execOp
  simp only [ho]
  go_simp
  exact h
end
abbrev R12 : List Value := [.int .u64 12, .int .u64 0, .int .u64 0, .int .u64 0, .int .i64 7]

end Go.Proofs.YtclbiophgnkggaaGreatDoor
