/-
  Run and the law's run, of such programs.
-/
import Derived.Test.YtdlmighfmkhpkaaMkDc
namespace Go.Proofs.Ytdlmighfmkhpkaa
open Go Go.RowKit
open Sha
open Wd

theorem read_pd (pd : List (BitVec 8)) (m k : Nat) (ls : List Ins) (hpd : pd.length = m) (hm0 : 0 < m) (hm1 : m ≤ 1000) (hck : chk pd = some ls) (hk : ls.length = k) (T g cg : Nat) (hcg : m ≤ cg) (w : World) (hT : Row w T mtab 72) (hr : w.rangeAt g 0 (vB pd)) : Calls Try.prog 11 #[.slice (some ⟨T, 0, none⟩) 28 28, .slice (some ⟨g, 0, none⟩) m cg] w fun e w' => ∃ A1 c1 gs, e = .returned (.tuple #[.agg #[.slice A1 k c1, .slice (some ⟨gs, 0, none⟩) m m], .int .i64 0]) ∧ Lw w' 64 7 (.slice A1 k c1) k (fl ls) ∧ Row w' gs (vI (sts ls m)) 3 ∧ Below w.heap.size w w' := by
  refine Calls.mono (read_any T g m cg pd hpd hm0 (by omega) hcg w hT hr) ?_
  rintro e w' ⟨h | h, hB⟩
  · obtain ⟨ls', v, gs, q1, _, rfl, q3, q4, _, _⟩ := h
    rw [hck] at q1
    obtain rfl := Option.some.inj q1
    rw [hk] at q3
    obtain ⟨A1, c1, rfl, _, _⟩ := Lw.form q3
    exact ⟨A1, c1, gs, rfl, q3, q4, hB⟩
  · rw [hck] at h
    cases h.1
abbrev Rz (rv0 rv1 rv2 rv3 rv4 : Int) : List Value := [.int .u64 rv0, .int .u64 rv1, .int .u64 rv2, .int .u64 rv3, .int .i64 rv4]
theorem Rz_one (rv0 rv1 rv2 rv3 rv4 : Int) : (Rz rv0 rv1 rv2 rv3 rv4).toArray.all (·.oneCell') = true := by rw [← Array.all_toList]; rfl
theorem rans_Rz (E : Int) (v l1 : Nat) : ∃ rv0 rv1 rv2 rv3 rv4, rans E v l1 = Rz rv0 rv1 rv2 rv3 rv4 := by
  unfold rans
  split
  · exact ⟨_, _, _, _, _, by rw [wq_cells]; rfl⟩
  · exact ⟨0, 0, 0, 0, 0, rfl⟩
set_option maxRecDepth 100000 in
set_option maxHeartbeats 4000000 in
theorem run_ev (pd : List (BitVec 8)) (m k : Nat) (ls : List Ins) (hpd : pd.length = m) (hm0 : 0 < m) (hm1 : m ≤ 1000) (hck : chk pd = some ls) (hk : ls.length = k) (hk1 : k ≤ 50) (x y : Nat) (hxy : x < 2 ^ 256 ∧ y < 2 ^ 256) (E : Int) (v l1 : Nat) (rv0 rv1 rv2 rv3 rv4 : Int) (hev : ev [x, y] ls [] 100 = some (E, v, l1)) (hrz : rans E v l1 = Rz rv0 rv1 rv2 rv3 rv4) (g cg ga ca hb : Nat) (hcg : m ≤ cg) (ht : TypeId) (L : List Value) (hL : L = callC (.slice (some ⟨ga, 0, none⟩) 2 ca)) (w : World) (hr : w.rangeAt g 0 (vB pd)) (hga : w.rangeAt ga 0 (fw [x, y])) : Calls Try.prog 16 #[.slice (some ⟨g, 0, none⟩) m cg, .agg L.toArray, .iface ht (.pointer (some ⟨hb, 0, none⟩))] w fun e w' => e = .returned (.tuple #[.agg (Rz rv0 rv1 rv2 rv3 rv4).toArray, .int .i64 E]) ∧ Below w.heap.size w w' := by
  have HR : Hid (w.rangeAt g 0 (vB pd)) := hr
  have HGA : Hid (w.rangeAt ga 0 (fw [x, y])) := hga
  have HL : Hid (L = callC (.slice (some ⟨ga, 0, none⟩) 2 ca)) := hL
  have HLI : Hid ((Try.prog.info? 39).map (·.size) = some L.length) := by show _ = _; rw [hL, callC_len]; exact info_C
  have hq := hostsome_eq ht (.pointer (some ⟨hb, 0, none⟩))
  have HCG : Hid (m ≤ cg) := hcg
  have HPD : Hid (pd.length = m ∧ 0 < m ∧ m ≤ 1000 ∧ chk pd = some ls ∧ ls.length = k ∧ k ≤ 50) := ⟨hpd, hm0, hm1, hck, hk, hk1⟩
  have HEV : Hid (ev [x, y] ls [] 100 = some (E, v, l1) ∧ rans E v l1 = Rz rv0 rv1 rv2 rv3 rv4 ∧ x < 2 ^ 256 ∧ y < 2 ^ 256) := ⟨hev, hrz, hxy⟩
  clear hr hga hL hcg hpd hck hk hev hrz hxy
  go_enter Try.func16, Try.ntmps16
  go_upto_region 3 with (first
    | (refine wpList_boxG 39 rfl (.tmp 1) rfl L rfl ?_; intro X1 q1 q2 q3; have R4 : Hid (Row X1 w.heap.size L 39) := q1; have B1 : Hid (Below w.heap.size w X1) := q2; have S1 : Hid (X1.heap.size = w.heap.size + 1) := q3; clear q1 q2 q3; simp only [Act.put, List.setIfInBounds_toArray, List.set_cons_zero, List.set_cons_succ])
    | (refine wpList_allocR rfl rfl ?_; intro X2 q1 q2 q3; have R6 : Hid (Row X2 X1.heap.size zR 31) := q1; have B2 : Hid (Below X1.heap.size X1 X2) := q2; clear q1 q2 q3; simp only [Act.put, List.setIfInBounds_toArray, List.set_cons_zero, List.set_cons_succ]))
  obtain ⟨b4, hb4⟩ : ∃ b, b = w.heap.size := ⟨_, rfl⟩
  obtain ⟨b6, hb6⟩ : ∃ b, b = X1.heap.size := ⟨_, rfl⟩
  have HB4 : Hid (b4 = w.heap.size ∧ w.heap.size ≤ b6) := ⟨hb4, by rw [hb6]; exact B1.out.size⟩
  have BB : Hid (Below w.heap.size w X2) := B1.out.trans (B2.out.mono B1.out.size)
  replace R4 : Hid (Row X2 b4 L 39) := by rw [hb4]; exact Row.below R4.out B2.out R4.out.lt
  replace R6 : Hid (Row X2 b6 zR 31) := by rw [hb6]; exact R6.out
  rw [← hb4, ← hb6]
  clear hb4 hb6 B1 B2 S1 hq
  go_upto_region 4 with (go_at_call 12; refine Calls.mono (table_any X2) ?_; rintro e X3 ⟨rfl, qt, q2⟩; have RT : Hid (Row X3 X2.heap.size mtab 72) := qt; have B3 : Hid (Below w.heap.size w X3) := BB.out.trans (q2.mono BB.out.size); have R43 : Hid (Row X3 b4 L 39) := Row.below R4.out q2 R4.out.lt; have R63 : Hid (Row X3 b6 zR 31) := Row.below R6.out q2 R6.out.lt; clear qt q2 R4 R6 BB)
  obtain ⟨T, hT⟩ : ∃ T, T = X2.heap.size := ⟨_, rfl⟩
  rw [← hT] at RT
  rw [← hT]
  clear hT
  have HRD : Hid _ := read_pd pd m k ls HPD.out.1 HPD.out.2.1 HPD.out.2.2.1 HPD.out.2.2.2.1 HPD.out.2.2.2.2.1 T g cg HCG.out X3 RT.out (range_be HR.out B3.out)
  go_upto_region 5 with (first
    | (go_at_call 11; refine Calls.mono HRD.out ?_; rintro e X4 ⟨A1, c1, gs, rfl, q3, q4, q2⟩; have LP : Hid (Lw X4 64 7 (.slice A1 k c1) k (fl ls)) := q3; have RS : Hid (Row X4 gs (vI (sts ls m)) 3) := q4; have B4 : Hid (Below w.heap.size w X4) := B3.out.trans (q2.mono B3.out.size); have RT4 : Hid (Row X4 T mtab 72) := Row.below RT.out q2 RT.out.lt; have R44 : Hid (Row X4 b4 L 39) := Row.below R43.out q2 R43.out.lt; have R64 : Hid (Row X4 b6 zR 31) := Row.below R63.out q2 R63.out.lt; clear q2 q3 q4)
    | (refine wpList_allocP rfl rfl ?_; intro X5 q1 q2 q3; have R9 : Hid (Row X5 X4.heap.size zP 49) := q1; have B5 : Hid (Below X4.heap.size X4 X5) := q2; clear q1 q2 q3; simp only [Act.put, List.setIfInBounds_toArray, List.set_cons_zero, List.set_cons_succ])
    | (refine wpList_storeL rfl 49 (.tmp 9) (.tmp 20) rfl X4.heap.size [.slice A1 k c1, .slice (some ⟨gs, 0, none⟩) m m] zP 49 rfl rfl R9.out rfl info_P (pp_one A1 _ _ _ m) ?_; intro X6 q1 q2; have E6 : Hid (X6 = _) := q1; have R96 : Hid (Row X6 X4.heap.size [.slice A1 k c1, .slice (some ⟨gs, 0, none⟩) m m] 49) := q2; clear q1 q2; simp only [Act.put]))
  have BY : Below X4.heap.size X4 X6 := by rw [E6.out]; exact below_setCells B5.out (Nat.le_refl _) _
  obtain ⟨b9, hb9⟩ : ∃ b, b = X4.heap.size := ⟨_, rfl⟩
  rw [← hb9] at R96
  rw [← hb9]
  have LP6 : Hid (Lw X6 64 7 (.slice A1 k c1) k (fl ls)) := Lw.be LP.out BY
  have RS6 : Hid (Row X6 gs (vI (sts ls m)) 3) := Row.below RS.out BY RS.out.lt
  have B6 : Hid (Below w.heap.size w X6) := B4.out.trans (BY.mono B4.out.size)
  have RT6 : Hid (Row X6 T mtab 72) := Row.below RT4.out BY RT4.out.lt
  have R46 : Hid (Row X6 b4 L 39) := Row.below R44.out BY R44.out.lt
  have R66 : Hid (Row X6 b6 zR 31) := Row.below R64.out BY R64.out.lt
  have HMB : Hid _ := mayBe_ok L (some ⟨ga, 0, none⟩) ca (by rw [HL.out]; rfl) (by rw [HL.out]; rfl) (by rw [HL.out]; rfl) (by rw [HL.out]; rfl) X6
  clear BY hb9 E6 R9 B5 LP RS B4 RT4 R44 R64 R43 R63 B3 RT HRD
  go_upto_region 9 with (first
    | (refine wpList_load_w rfl 39 (.tmp 4) rfl b4 0 rfl L _ R46.out.all Try.underlying39 rfl HLI.out ?_; simp only [Act.put, List.setIfInBounds_toArray, List.set_cons_zero, List.set_cons_succ])
    | (go_at_call 48; refine Calls.mono HMB.out ?_; rintro e X7 ⟨rfl, q2⟩; have LP7 : Hid (Lw X7 64 7 (.slice A1 k c1) k (fl ls)) := Lw.be LP6.out q2; have RS7 : Hid (Row X7 gs (vI (sts ls m)) 3) := Row.below RS6.out q2 RS6.out.lt; have B7 : Hid (Below w.heap.size w X7) := B6.out.trans (q2.mono B6.out.size); have RT7 : Hid (Row X7 T mtab 72) := Row.below RT6.out q2 RT6.out.lt; have R47 : Hid (Row X7 b4 L 39) := Row.below R46.out q2 R46.out.lt; have R67 : Hid (Row X7 b6 zR 31) := Row.below R66.out q2 R66.out.lt; have R97 : Hid (Row X7 b9 [.slice A1 k c1, .slice (some ⟨gs, 0, none⟩) m m] 49) := Row.below R96.out q2 R96.out.lt; clear q2))
  have c45 : X7.cell? ⟨b4, 45, none⟩ = some (.slice (some ⟨ga, 0, none⟩) 2 ca) := R47.out.cell 45 _ (by rw [HL.out]; rfl)
  have HCL : Hid _ := wclone_any [x, y] (by decide : 2 ≤ 100) ga ca X7 (range_be HGA.out B7.out)
  have HL45 : Hid (45 < L.length) := by show _ < _; rw [HL.out, callC_len]; decide
  clear HMB LP6 RS6 B6 RT6 R46 R66 R96
  go_upto_region 10 with (first
    | (go_at_call 49; refine Calls.mono HCL.out ?_; rintro e X8 ⟨Aa, cc, rfl, qa, qf, q2⟩; have LA8 : Hid (Lw X8 29 4 (.slice Aa 2 cc) 2 (fw [x, y])) := qa; have LP8 : Hid (Lw X8 64 7 (.slice A1 k c1) k (fl ls)) := Lw.be LP7.out q2; have RS8 : Hid (Row X8 gs (vI (sts ls m)) 3) := Row.below RS7.out q2 RS7.out.lt; have B8 : Hid (Below w.heap.size w X8) := B7.out.trans (q2.mono B7.out.size); have RT8 : Hid (Row X8 T mtab 72) := Row.below RT7.out q2 RT7.out.lt; have R48 : Hid (Row X8 b4 L 39) := Row.below R47.out q2 R47.out.lt; have R68 : Hid (Row X8 b6 zR 31) := Row.below R67.out q2 R67.out.lt; have R98 : Hid (Row X8 b9 [.slice A1 k c1, .slice (some ⟨gs, 0, none⟩) m m] 49) := Row.below R97.out q2 R97.out.lt; clear qa qf q2)
    | (refine wpList_set1 rfl 35 (.tmp 35) (.tmp 34) rfl b4 45 (.slice Aa 2 cc) L 39 rfl rfl rfl R48.out HL45.out info_Ws rfl ?_; intro X9 q1 q2 q3; have R49 : Hid (Row X9 b4 (L.set 45 (.slice Aa 2 cc)) 39) := q1; have G9 : Hid (Gro (· = b4) X8 X9) := q2; clear q1 q2 q3; simp only [Act.put]))
  obtain ⟨M, hM⟩ : ∃ M, M = callC (.slice Aa 2 cc) := ⟨_, rfl⟩
  have HM : Hid (M = callC (.slice Aa 2 cc)) := hM
  have R4M : Hid (Row X9 b4 M 39) := by rw [hM, ← callC_set (.slice (some ⟨ga, 0, none⟩) 2 ca), ← HL.out]; exact R49.out
  have HMI : Hid ((Try.prog.info? 39).map (·.size) = some M.length) := by show _ = _; rw [hM, callC_len]; exact info_C
  have LA9 : Hid (Lw X9 29 4 (.slice Aa 2 cc) 2 (fw [x, y])) := Lw.gro LA8.out G9.out (Lw.ne LA8.out R48.out (by decide))
  have LP9 : Hid (Lw X9 64 7 (.slice A1 k c1) k (fl ls)) := Lw.gro LP8.out G9.out (Lw.ne LP8.out R48.out (by decide))
  have RS9 : Hid (Row X9 gs (vI (sts ls m)) 3) := G9.out.row RS8.out (row_ne2 RS8.out R48.out (by decide))
  have RT9 : Hid (Row X9 T mtab 72) := G9.out.row RT8.out (row_ne2 RT8.out R48.out (by decide))
  have R69 : Hid (Row X9 b6 zR 31) := G9.out.row R68.out (row_ne2 R68.out R48.out (by decide))
  have R99 : Hid (Row X9 b9 [.slice A1 k c1, .slice (some ⟨gs, 0, none⟩) m m] 49) := G9.out.row R98.out (row_ne2 R98.out R48.out (by decide))
  have B9 : Hid (Below w.heap.size w X9) := B8.out.trans (G9.out.to_below B8.out.size (fun k e => by rw [e, HB4.out.1]; exact Nat.le_refl _))
  have c47 : X9.cell? ⟨b4, 47, none⟩ = some (.int .i64 100) := R4M.out.cell 47 _ (by rw [hM]; rfl)
  obtain ⟨RC, hRC⟩ : ∃ RC, RC = rc T (.slice A1 k c1) (.slice (some ⟨gs, 0, none⟩) m m) M (.iface ht (.pointer (some ⟨hb, 0, none⟩))) (.slice none 0 0) 100 0 zW := ⟨_, rfl⟩
  have HRC : Hid (RC = rc T (.slice A1 k c1) (.slice (some ⟨gs, 0, none⟩) m m) M (.iface ht (.pointer (some ⟨hb, 0, none⟩))) (.slice none 0 0) 100 0 zW) := hRC
  clear hM hRC c45 R49 G9 LA8 LP8 RS8 B8 RT8 R48 R68 R98 HCL LP7 RS7 B7 RT7 R47 R67 R97 HL45 HL
  go_upto_region 11 with (first
    | (refine wpList_load_w rfl 49 (.tmp 9) rfl b9 0 rfl [.slice A1 k c1, .slice (some ⟨gs, 0, none⟩) m m] _ R99.out.all Try.underlying49 rfl info_P ?_; simp only [Act.put, List.setIfInBounds_toArray, List.set_cons_zero, List.set_cons_succ])
    | (refine wpList_load_w rfl 39 (.tmp 4) rfl b4 0 rfl M _ R4M.out.all Try.underlying39 rfl HMI.out ?_; simp only [Act.put, List.setIfInBounds_toArray, List.set_cons_zero, List.set_cons_succ])
    | (refine wpList_buildRun rfl (.tmp 36) (.tmp 37) (.tmp 38) (.tmp 39) (.tmp 41) rfl T A1 k c1 gs m Aa 2 cc ht hb M RC HM.out HRC.out rfl rfl rfl rfl rfl ?_; simp only [Act.put, List.setIfInBounds_toArray, List.set_cons_zero, List.set_cons_succ])
    | (refine wpList_boxG 78 rfl (.tmp 42) rfl RC rfl ?_; intro Y q1 q2 q3; have RR : Hid (Row Y X9.heap.size RC 78) := q1; have BY : Hid (Below X9.heap.size X9 Y) := q2; clear q1 q2 q3; simp only [Act.put, List.setIfInBounds_toArray, List.set_cons_zero, List.set_cons_succ]))
  have HRN : Hid (Rn Y X9 Y X9.heap.size T gs m (.slice A1 k c1) M (.iface ht (.pointer (some ⟨hb, 0, none⟩))) (.slice Aa 2 cc) (.slice none 0 0) [] 100 0 zW ls [x, y]) :=
    ⟨by rw [← HRC.out]; exact RR.out, by rw [HM.out]; rfl, rfl, Lw.nil _ _ _, Row.below RT9.out BY.out RT9.out.lt, (by rw [HPD.out.2.2.2.2.1]; exact Lw.be LP9.out BY.out), Row.below RS9.out BY.out RS9.out.lt, by rw [HM.out]; rfl, Lw.be LA9.out BY.out, (fun g e => by cases e), BY.out, Nat.le_refl _, (fun g e => by cases e), (fun _ _ q => q)⟩
  have HAL : Hid (Calls Try.prog 50 #[.pointer (some ⟨X9.heap.size, 0, none⟩)] Y fun e w' => e = .returned (.tuple #[.agg (Rz rv0 rv1 rv2 rv3 rv4).toArray, .int .i64 E]) ∧ Below X9.heap.size X9 w') := by
    have q := all_ev X9.heap.size T gs m (.slice A1 k c1) M (.iface ht (.pointer (some ⟨hb, 0, none⟩))) (.slice Aa 2 cc) (.slice none 0 0) zW ls [x, y] (by rw [HPD.out.2.2.2.2.1]; exact HPD.out.2.2.2.2.2) (by decide : 2 ≤ 8) (fun a ha => by simp at ha; rcases ha with rfl | rfl; exact HEV.out.2.2.1; exact HEV.out.2.2.2) (by rw [HM.out]; rfl) E v l1 HEV.out.1 Y X9 Y HRN.out
    rw [HEV.out.2.1] at q
    exact q
  clear c47 HRN RR
  go_wp2_with (first
    | (go_at_call 50; refine Calls.mono HAL.out ?_; rintro e Z ⟨rfl, q2⟩; have RZ : Hid (Row Z b6 zR 31) := Row.below R69.out q2 R69.out.lt; have BZ : Hid (Below w.heap.size w Z) := B9.out.trans (q2.mono B9.out.size); clear q2)
    | (refine wpList_storeL rfl 31 (.tmp 6) (.tmp 46) rfl b6 (Rz rv0 rv1 rv2 rv3 rv4) zR 31 rfl rfl RZ.out rfl info_Ran (Rz_one _ _ _ _ _) ?_; intro Z2 q1 q2; have EZ : Hid (Z2 = _) := q1; have RZ2 : Hid (Row Z2 b6 (Rz rv0 rv1 rv2 rv3 rv4) 31) := q2; clear q1 q2; simp only [Act.put]))
  have BF : Below w.heap.size w Z2 := by rw [EZ.out]; exact below_setCells BZ.out HB4.out.2 _
  exact bodyPost_ret (results_rowS_tmp Try.results16 _ _ b6 31 (Rz rv0 rv1 rv2 rv3 rv4) (.int .i64 E) rfl rfl RZ2.out Try.underlying31 info_Ran) rfl ⟨rfl, BF⟩

section
variable {o : Oper} {a : Act} {w : World} {K : Act → World → Prop} {Q : Exit → Act → World → Prop}
theorem wp_appz (s x : Operand) (ho : o.op = .call { callee := .builtin .append, args := #[s, x], argTypes := #[23, 23] }) (g g2 k m t cz : Nat) (d news : List (BitVec 8)) (hd : d.length = k) (hm : news.length = m) (ht : k + m = t) (h0 : 0 < m) (hk : t ≤ 1000) (hs : a.eval s = .slice (some ⟨g, 0, none⟩) k k) (hr : Row w g (vB d) 5) (hx : a.eval x = .slice (some ⟨g2, 0, none⟩) m cz) (hr2 : w.rangeAt g2 0 (vB news))
    (h : ∀ A c w', Bw w' (.slice A t c) (d ++ news) → (A = none → False) → Below w.heap.size w w' → K (a.put o.dst (.slice A t c)) w') : Oper.wp Try.prog o a w K Q := by
  obtain ⟨ie, z, h1, h2, h3, h5, h4⟩ := info_u8open
  obtain ⟨v', w', hrun, r1, r2⟩ := run_append_arg_grows (P := Try.prog) w 23 o.type 5 ie z 1 1 Try.underlying23 h1 h2 h3 h5 h4 (by decide) ⟨g, 0, none⟩ k k (vB d) (by rw [vB_length, hd, Nat.mul_one]) (fun j u hj => by rw [Addr.add_mid]; exact hr.all j u hj) ⟨g2, 0, none⟩ m cz (vB news) (by rw [vB_length, hm, Nat.mul_one]) (fun j u hj => by rw [Addr.add_mid]; exact hr2 j u hj) (by omega) (by unfold maxLen; omega) (by omega)
  have hbw : Bw w' v' (d ++ news) := by
    obtain ⟨q1, q2⟩ := r1
    refine ⟨by rw [List.length_append, hd, hm]; simp [vB_length, hd, hm], ?_⟩
    rcases q2 with ⟨_, q3⟩ | ⟨g', cap', cur, q3, _, q4, q5, q6, q7, q8⟩
    · omega
    · refine .inr ⟨g', cap', cur, by rw [List.length_append, hd, hm]; exact q3, Nat.zero_le _, q4, by rw [List.length_append, hd, hm]; exact q5, q6, q7, ?_⟩
      rw [List.length_append, hd, hm, vB_app]
      exact q8
  obtain ⟨A, c, hv, _, _⟩ := Bw.form hbw
  rw [List.length_append, hd, hm, ht] at hv
  subst hv
  have hB : Below w.heap.size w w' := (Below.refl _ _).grown r2 (Nat.le_refl _) (fun k e => by cases e)
  unfold Oper.wp
  simp [execOp, ho, resolve, invoke, builtin, hs, hx, hrun, Result.andThen]
  exact h A c w' hbw (fun e => by have := sl_nil hbw e; omega) hB
end
theorem byd_bm {W : World} {A : Option Addr} {m c : Nat} (hm0 : 0 < m) {d : List (BitVec 8)} (h : Bw W (.slice A m c) ([] ++ d)) (hn : A = none → False) : (SP.byd m d).P W (.slice A m c) := by
  obtain ⟨A', c', e, hc, _⟩ := Bw.form h
  simp only [Value.slice.injEq] at e
  obtain ⟨rfl, he, rfl⟩ := e
  rcases Bw.sl h with ⟨h0, _⟩ | ⟨N, o, c2, e2, _, r⟩
  · rw [h0] at he; simp at he; omega
  · simp only [Value.slice.injEq] at e2
    obtain ⟨rfl, _, _⟩ := e2
    rcases h.2 with ⟨q, _⟩ | ⟨g, cc, cur, q, _⟩
    · cases q
    · simp only [Value.slice.injEq, Option.some.injEq, Addr.mk.injEq] at q
      obtain ⟨⟨rfl, rfl, _⟩, _, _⟩ := q
      exact ⟨_, _, rfl, by omega, r⟩
set_option maxRecDepth 100000 in
set_option maxHeartbeats 4000000 in
theorem lrun_any (pd : List (BitVec 8)) (m : Nat) (hpd : pd.length = m) (hm0 : 0 < m) (hm1 : m ≤ 1000) (x y : Nat) (E rv0 rv1 rv2 rv3 rv4 : Int) (hrun : ∀ (g cg ga ca hb : Nat), m ≤ cg → ∀ (ht : TypeId) (L : List Value), L = callC (.slice (some ⟨ga, 0, none⟩) 2 ca) → ∀ w, w.rangeAt g 0 (vB pd) → w.rangeAt ga 0 (fw [x, y]) → Calls Try.prog 16 #[.slice (some ⟨g, 0, none⟩) m cg, .agg L.toArray, .iface ht (.pointer (some ⟨hb, 0, none⟩))] w fun e w' => e = .returned (.tuple #[.agg (Rz rv0 rv1 rv2 rv3 rv4).toArray, .int .i64 E]) ∧ Below w.heap.size w w') (cz : Nat) (cs zs : List Value) (hcs : cs = vB pd ++ zs) (gc ga : Nat) (P : List Value) (hP : P = .slice (some ⟨gc, 0, none⟩) m cz :: (callC (.slice (some ⟨ga, 0, none⟩) 2 2) ++ [.slice none 0 0])) (w : World) (hg : Row w gc cs 5) (ha : w.rangeAt ga 0 (fw [x, y])) : Calls Try.prog 10 #[.agg P.toArray, .slice none 0 0] w fun e w' => e = .returned (.tuple #[.agg (Rz rv0 rv1 rv2 rv3 rv4).toArray, .int .i64 E, .slice none 0 0]) ∧ Below w.heap.size w w' := by
  have HP : Hid (P = .slice (some ⟨gc, 0, none⟩) m cz :: (callC (.slice (some ⟨ga, 0, none⟩) 2 2) ++ [.slice none 0 0])) := hP
  have HGC : Hid (Row w gc cs 5) := hg
  have HGA0 : Hid (w.rangeAt ga 0 (fw [x, y])) := ha
  obtain ⟨L, hL⟩ : ∃ L, L = callC (.slice (some ⟨ga, 0, none⟩) 2 2) := ⟨_, rfl⟩
  have HL : Hid (L = callC (.slice (some ⟨ga, 0, none⟩) 2 2)) := hL
  have HLI : Hid ((Try.prog.info? 39).map (·.size) = some L.length) := by show _ = _; rw [hL, callC_len]; exact info_C
  have HLN : Hid (L.length = zC.length) := by show _ = _; rw [hL]; rfl
  have HLO : Hid (L.toArray.all (·.oneCell') = true) := by show _ = _; rw [hL]; exact callC_one _ _ _
  have HPD : Hid (pd.length = m ∧ 0 < m ∧ m ≤ 1000) := ⟨hpd, hm0, hm1⟩
  have HRUN : Hid _ := hrun
  have HRW : Hid (∀ W : World, Row W gc cs 5 → W.rangeAt gc 0 (vB pd)) := fun W q j u hj => q.all j u (by rw [hcs, List.getElem?_append_left (List.getElem?_eq_some_iff.1 hj).1]; exact hj)
  clear hP hg ha hL hpd hm0 hm1 hrun hcs
  go_enter Try.func10, Try.ntmps10
  go_upto_region 1 with (first
    | (refine wpList_boxG 42 rfl (.tmp 0) rfl P rfl ?_; intro X1 q1 q2 q3; have R1 : Hid (Row X1 w.heap.size P 42) := q1; have B1 : Hid (Below w.heap.size w X1) := q2; have S1 : Hid (X1.heap.size = w.heap.size + 1) := q3; clear q1 q2 q3; simp only [Act.put, List.setIfInBounds_toArray, List.set_cons_zero, List.set_cons_succ])
    | (refine wpList_allocR rfl rfl ?_; intro X2 q1 q2 q3; have R2 : Hid (Row X2 X1.heap.size zR 31) := q1; have B2 : Hid (Below X1.heap.size X1 X2) := q2; have S2 : Hid (X2.heap.size = X1.heap.size + 1) := q3; clear q1 q2 q3; simp only [Act.put, List.setIfInBounds_toArray, List.set_cons_zero, List.set_cons_succ]))
  obtain ⟨b2, hb2⟩ : ∃ b, b = w.heap.size := ⟨_, rfl⟩
  obtain ⟨b4, hb4⟩ : ∃ b, b = X1.heap.size := ⟨_, rfl⟩
  have N24 : Hid (b4 = b2 + 1) := by show _ = _; rw [hb4, hb2]; exact S1.out
  have BB : Hid (Below w.heap.size w X2) := B1.out.trans (B2.out.mono B1.out.size)
  have RP : Hid (Row X2 b2 P 42) := by rw [hb2]; exact Row.below R1.out B2.out R1.out.lt
  have RR : Hid (Row X2 b4 zR 31) := by rw [hb4]; exact R2.out
  have SS : Hid (X2.heap.size = b4 + 1) := by rw [hb4]; exact S2.out
  have HB2 : Hid (b2 = w.heap.size) := hb2
  rw [← hb2, ← hb4]
  clear hb2 hb4 R1 B1 S1 R2 B2 S2
  go_upto_region 2 with (first
    | (refine wpList_build0Y rfl rfl ?_; intro X3 q1 q2 q3; have RY : Hid (Row X3 X2.heap.size [] 154) := q1; have B3 : Hid (Below X2.heap.size X2 X3) := q2; have S3 : Hid (X3.heap.size = X2.heap.size + 1) := q3; have c49 : X3.cell? ⟨b2, 49, none⟩ = some (.slice none 0 0) := (Row.below RP.out q2 RP.out.lt).cell 49 _ (by rw [HP.out]; rfl); clear q1 q2 q3; simp only [Act.put, List.setIfInBounds_toArray, List.set_cons_zero, List.set_cons_succ])
    | (refine wpList_appNil rfl (.tmp 11) (.tmp 13) rfl X2.heap.size rfl rfl RY.out ?_; simp only [Act.put, List.setIfInBounds_toArray, List.set_cons_zero, List.set_cons_succ])
    | (refine wpList_boxG 60 rfl (.tmp 16) rfl [.slice (some ⟨X2.heap.size, 0, none⟩) 0 0, .slice none 0 0, .slice none 0 0] rfl ?_; intro X4 q1 q2 q3; have RH : Hid (Row X4 X3.heap.size [.slice (some ⟨X2.heap.size, 0, none⟩) 0 0, .slice none 0 0, .slice none 0 0] 60) := q1; have B4 : Hid (Below X3.heap.size X3 X4) := q2; have S4 : Hid (X4.heap.size = X3.heap.size + 1) := q3; clear q1 q2 q3; simp only [Act.put, List.setIfInBounds_toArray, List.set_cons_zero, List.set_cons_succ]))
  obtain ⟨gr, hgr⟩ : ∃ b, b = X2.heap.size := ⟨_, rfl⟩
  obtain ⟨hb, hhb⟩ : ∃ b, b = X3.heap.size := ⟨_, rfl⟩
  rw [← hhb, ← hgr] at RH
  rw [← hhb]
  have N3 : Hid (gr = b4 + 1) := by show _ = _; rw [hgr]; exact SS.out
  have N4 : Hid (hb = gr + 1) := by show _ = _; rw [hhb, hgr]; exact S3.out
  have k34 : Below X2.heap.size X2 X4 := B3.out.trans (B4.out.mono B3.out.size)
  have BB4 : Hid (Below w.heap.size w X4) := BB.out.trans (k34.mono BB.out.size)
  have RP4 : Hid (Row X4 b2 P 42) := Row.below RP.out k34 RP.out.lt
  have RR4 : Hid (Row X4 b4 zR 31) := Row.below RR.out k34 RR.out.lt
  have SS4 : Hid (X4.heap.size = hb + 1) := by rw [hhb]; exact S4.out
  have RG4 : Hid (X4.rangeAt b2 1 L) := RP4.out.range 1 L (fun j v hj => by
    rw [HP.out, show 1 + j = j + 1 by omega, List.getElem?_cons_succ, ← HL.out, List.getElem?_append_left (List.getElem?_eq_some_iff.1 hj).1]
    exact hj)
  clear hgr hhb k34 B3 B4 S3 S4 RY c49 BB RP RR SS
  go_upto_region 3 with (first
    | (refine wpList_load_w rfl 39 (.tmp 18) rfl b2 1 rfl L _ RG4.out Try.underlying39 rfl HLI.out ?_; simp only [Act.put, List.setIfInBounds_toArray, List.set_cons_zero, List.set_cons_succ])
    | (refine wpList_allocC rfl rfl ?_; intro X5 q1 q2 q3; have RC5 : Hid (Row X5 X4.heap.size zC 39) := q1; have B5 : Hid (Below X4.heap.size X4 X5) := q2; have S5 : Hid (X5.heap.size = X4.heap.size + 1) := q3; clear q1 q2 q3; simp only [Act.put, List.setIfInBounds_toArray, List.set_cons_zero, List.set_cons_succ])
    | (refine wpList_storeL rfl 39 (.tmp 8) (.tmp 19) rfl X4.heap.size L zC 39 rfl rfl RC5.out HLN.out HLI.out HLO.out ?_; intro X6 q1 q2; have E6 : Hid (X6 = _) := q1; have RC6 : Hid (Row X6 X4.heap.size L 39) := q2; clear q1 q2; simp only [Act.put]))
  obtain ⟨b8, hb8⟩ : ∃ b, b = X4.heap.size := ⟨_, rfl⟩
  have k6 : Below X4.heap.size X4 X6 := by rw [E6.out]; exact below_setCells B5.out (Nat.le_refl _) _
  have BB6 : Hid (Below w.heap.size w X6) := BB4.out.trans (k6.mono BB4.out.size)
  have RP6 : Hid (Row X6 b2 P 42) := Row.below RP4.out k6 RP4.out.lt
  have RR6 : Hid (Row X6 b4 zR 31) := Row.below RR4.out k6 RR4.out.lt
  have RH6 : Hid (Row X6 hb [.slice (some ⟨gr, 0, none⟩) 0 0, .slice none 0 0, .slice none 0 0] 60) := Row.below RH.out k6 RH.out.lt
  have N8 : Hid (b8 = hb + 1) := by show _ = _; rw [hb8]; exact SS4.out
  rw [← hb8] at RC6
  rw [← hb8]
  have HL45 : Hid (45 < L.length) := by show _ < _; rw [HL.out, callC_len]; decide
  clear hb8 k6 E6 RC5 B5 S5 RG4 BB4 RP4 RR4 RH SS4
  go_upto_region 4 with (first
    | (refine wpList_build0W rfl rfl ?_; intro X7 q1 q2 q3; have RE7 : Hid (Row X7 X6.heap.size [] 29) := q1; have B7 : Hid (Below X6.heap.size X6 X7) := q2; have c46 : X7.cell? ⟨b2, 46, none⟩ = some (.slice (some ⟨ga, 0, none⟩) 2 2) := (Row.below RP6.out q2 RP6.out.lt).cell 46 _ (by rw [HP.out]; rfl); clear q1 q2 q3; simp only [Act.put, List.setIfInBounds_toArray, List.set_cons_zero, List.set_cons_succ])
    | (refine wpList_appN 35 29 4 32 Try.underlying35 info_W_open (by decide) rfl (.tmp 20) (.tmp 23) rfl (.slice (some ⟨X6.heap.size, 0, none⟩) 0 0) 0 [] (fw [x, y]) rfl (row_lw 4 RE7.out) ga 2 2 (by rw [fw_len]; rfl) rfl (range_be HGA0.out (BB6.out.trans (B7.out.mono BB6.out.size))) (fw_one _) (by unfold maxLen; omega) (by decide) ?_; intro v8 X8 q1 q2 q3; obtain ⟨g8, c8, e8, h8⟩ := Lw.open q1 (by decide); (have e9 : v8 = .slice (some ⟨g8, 0, none⟩) 2 c8 := e8); clear e8; subst e9; have LA8 : Hid (Lw X8 29 4 (.slice (some ⟨g8, 0, none⟩) 2 c8) 2 (fw [x, y])) := q1; have B8 : Hid (Below X6.heap.size X6 X8) := below_gb B7.out q2 (fun k e => by simp [Value.ownBlock] at e; omega); have RC8 : Hid (Row X8 b8 L 39) := Row.below RC6.out (below_gb B7.out q2 (fun k e => by simp [Value.ownBlock] at e; omega)) RC6.out.lt; clear q1 q2 q3 h8; simp only [Act.put, List.setIfInBounds_toArray, List.set_cons_zero, List.set_cons_succ])
    | (refine wpList_set1 rfl 35 (.tmp 25) (.tmp 24) rfl b8 45 (.slice (some ⟨g8, 0, none⟩) 2 c8) L 39 rfl rfl rfl RC8.out HL45.out info_Ws rfl ?_; intro X q1 q2 q3; have RCX : Hid (Row X b8 (L.set 45 (.slice (some ⟨g8, 0, none⟩) 2 c8)) 39) := q1; have GX : Hid (Gro (· = b8) X8 X) := q2; clear q1 q2 q3; simp only [Act.put]))
  obtain ⟨M, hM⟩ : ∃ M, M = callC (.slice (some ⟨g8, 0, none⟩) 2 c8) := ⟨_, rfl⟩
  have HM : Hid (M = callC (.slice (some ⟨g8, 0, none⟩) 2 c8)) := hM
  have HMI : Hid ((Try.prog.info? 39).map (·.size) = some M.length) := by show _ = _; rw [hM, callC_len]; exact info_C
  have HGA : Hid (X.rangeAt g8 0 (fw [x, y])) := Lw.range (Lw.gro LA8.out GX.out (Lw.ne LA8.out RC8.out (by decide)))
  have m2 : b2 < b8 := by have h1 := N24.out; have h2 := N3.out; have h3 := N4.out; have h4 := N8.out; omega
  have m4 : b4 < b8 := by have h2 := N3.out; have h3 := N4.out; have h4 := N8.out; omega
  have mh : hb < b8 := by have h4 := N8.out; omega
  have rp : Row X b2 P 42 := GX.out.row (Row.below RP6.out B8.out RP6.out.lt) (by omega)
  have r4 : Row X b4 zR 31 := GX.out.row (Row.below RR6.out B8.out RR6.out.lt) (by omega)
  have rh : Row X hb [.slice (some ⟨gr, 0, none⟩) 0 0, .slice none 0 0, .slice none 0 0] 60 := GX.out.row (Row.below RH6.out B8.out RH6.out.lt) (by omega)
  have rcl : Row X b8 M 39 := by rw [hM, ← callC_set (.slice (some ⟨ga, 0, none⟩) 2 2), ← HL.out]; exact RCX.out
  have BX : Hid (Below w.heap.size w X) := (BB6.out.trans (B8.out.mono BB6.out.size)).trans (GX.out.to_below (Nat.le_trans BB6.out.size B8.out.size) (fun k e => by rw [e]; have := HB2.out; omega))
  have rg : Row X gc cs 5 := Row.below HGC.out BX.out HGC.out.lt
  have hgc : gc < b2 := by rw [HB2.out]; exact HGC.out.lt
  have hb1 : Below X.heap.size X X := Below.refl _ _
  obtain ⟨T0, hT0⟩ : ∃ T, T + 1 = X.heap.size := ⟨X.heap.size - 1, by have := rp.lt; omega⟩
  have l2 : b2 ≤ T0 := by have := rp.lt; omega
  have l4 : b4 ≤ T0 := by have := r4.lt; omega
  have lh : hb ≤ T0 := by have := rh.lt; omega
  have l8 : b8 ≤ T0 := by have := rcl.lt; omega
  have lg : gc ≤ T0 := by have := rg.lt; omega
  clear hM RCX GX LA8 B8 RC8 RE7 B7 c46 RP6 RR6 RH6 RC6 BB6
  refine wp_named fun a0 ha0 => ?_
  have hsz : a0.tmps.size = 43 := by rw [ha0]; rfl
  have zs2 : a0.eval (.tmp 2) = .pointer (some ⟨b2, 0, none⟩) := by rw [ha0]; rfl
  have zs7 : a0.eval (.tmp 7) = .pointer (some ⟨hb, 0, none⟩) := by rw [ha0]; rfl
  have zs8 : a0.eval (.tmp 8) = .pointer (some ⟨b8, 0, none⟩) := by rw [ha0]; rfl
  obtain ⟨D, hD⟩ : ∃ D : List (Tmp × SP), D = [(27, SP.any), (28, SP.is (.pointer (some ⟨b2, 0, none⟩))), (29, SP.is (.slice (some ⟨gc, 0, none⟩) m cz)), (30, SP.any), (31, SP.is (.agg M.toArray)), (32, SP.is (.pointer (some ⟨hb, 0, none⟩))), (33, SP.is (.iface 58 (.pointer (some ⟨hb, 0, none⟩)))), (34, SP.is (.tuple #[.agg (Rz rv0 rv1 rv2 rv3 rv4).toArray, .int .i64 E])), (26, SP.is (.tuple #[.agg (Rz rv0 rv1 rv2 rv3 rv4).toArray, .int .i64 E])), (35, SP.is (.agg (Rz rv0 rv1 rv2 rv3 rv4).toArray)), (36, SP.is (.int .i64 E)), (9, SP.any), (1000, SP.any), (10, SP.is (.int .i64 E))] := ⟨_, rfl⟩
  refine wp_region_down (by kernel_rfl) (fun listed ac W => ∃ (b : Nat), listed.size = 14 ∧ Fp D a0 listed ac W ∧ Below X.heap.size X W ∧ Row W b2 P 42 ∧ Row W b8 M 39 ∧ Row W hb ([.slice (some ⟨gr, 0, none⟩) 0 0, .slice none 0 0, .slice none 0 0]) 60 ∧ Row W gc cs 5 ∧ Row W b4 zR 31 ∧ (listed.getD 11 false = true → ac.eval (.tmp 9) = .pointer (some ⟨b, 0, none⟩) ∧ T0 < b ∧ Row W b (if listed.getD 12 false = true then (Rz rv0 rv1 rv2 rv3 rv4) else zR) 31) ∧ (listed.getD 12 false = true → listed.getD 11 false = true) ∧ (listed.getD 0 false = true → ¬ listed.getD 3 false = true → (SP.new 0 0 [] 5).P W (ac.eval (.tmp 27))) ∧ (listed.getD 3 false = true → ¬ listed.getD 7 false = true → (SP.byd m pd).P W (ac.eval (.tmp 30)))) ?_ ?_ ?_
  · exact ⟨0, by simp, Fp.start D a0 _ _, Below.drew hb1, Row.drew rp, Row.drew rcl, Row.drew rh, Row.drew rg, Row.drew r4, (fun h => (start_no h).elim), (fun h => (start_no h).elim), (fun h _ => (start_no h).elim), (fun h _ => (start_no h).elim)⟩
  · clear ha0 hb1 rp rcl rh rg r4 
    intro listed ac W k hI hdn hk
    obtain ⟨b, hl, hF, hb1, rp, rcl, rh, rg, r4, al11, as11, ti0, ti3⟩ := hI
    have hk1 : k < 14 := List.mem_range.1 (List.mem_filter.1 hk).1
    have hl2 : ∀ j, (listed.setIfInBounds j true).size = 14 := fun j => by rw [Array.size_setIfInBounds]; exact hl
    rcases (show k = 0 ∨ k = 1 ∨ k = 2 ∨ k = 3 ∨ k = 4 ∨ k = 5 ∨ k = 6 ∨ k = 7 ∨ k = 8 ∨ k = 9 ∨ k = 10 ∨ k = 11 ∨ k = 12 ∨ k = 13 by omega) with rfl | rfl | rfl | rfl | rfl | rfl | rfl | rfl | rfl | rfl | rfl | rfl | rfl | rfl
    · have hk3 := hk
      refine wpOp_plain rfl rfl (wp_build0 rfl ?_)
      intro W2 q hB
      exact ⟨b, hl2 0, ((hF.world hB).put 0 27 (SP.any) (.slice (some ⟨W.heap.size, 0, none⟩) 0 0) (by rw [hD]; rfl) trivial (by rw [hD]; rfl) (by rw [hsz]; decide) (by rw [hl]; decide)), hb1.trans (hB.mono hb1.size), Row.below rp hB (Row.lt rp), Row.below rcl hB (Row.lt rcl), Row.below rh hB (Row.lt rh), Row.below rg hB (Row.lt rg), Row.below r4 hB (Row.lt r4), (fun h => ⟨(eval_put_other ac _ (by decide)).trans ((al11 (by rwa [getD_set _ _ _ (by decide)] at h)).1), (al11 (by rwa [getD_set _ _ _ (by decide)] at h)).2.1, by rw [getD_set _ _ _ (by decide)]; exact Row.below (al11 (by rwa [getD_set _ _ _ (by decide)] at h)).2.2 hB (Row.lt (al11 (by rwa [getD_set _ _ _ (by decide)] at h)).2.2)⟩), (fun h => by rw [getD_set _ _ _ (by decide)]; exact as11 (by rwa [getD_set _ _ _ (by decide)] at h)), (fun _ _ => by change (SP.new 0 0 [] 5).P _ ((ac.put (some 27) _).eval (.tmp 27)); rw [eval_put_same ac _ (by rw [hF.size, hsz]; decide)]; exact ⟨_, rfl, q⟩), (fun h1 h2 => by change (SP.byd m pd).P _ ((ac.put (some 27) _).eval (.tmp 30)); rw [eval_put_other ac _ (by decide)]; exact (SP.byd m pd).st _ _ _ hB (ti3 (by rwa [getD_set _ _ _ (by decide)] at h1) (by rwa [getD_set _ _ _ (by decide)] at h2)))⟩
    · have hk3 := hk
      have e2 := ((hF.keep 2 (by rw [hD]; rfl)).trans zs2)
      exact wpOp_plain rfl rfl (wp_fP0 b2 rfl e2 ⟨b, hl2 1, (hF.put 1 28 (SP.is (.pointer (some ⟨b2, 0, none⟩))) (.pointer (some ⟨b2, 0, none⟩)) (by rw [hD]; rfl) rfl (by rw [hD]; rfl) (by rw [hsz]; decide) (by rw [hl]; decide)), hb1, rp, rcl, rh, rg, r4, (fun h => ⟨(eval_put_other ac _ (by decide)).trans ((al11 (by rwa [getD_set _ _ _ (by decide)] at h)).1), (al11 (by rwa [getD_set _ _ _ (by decide)] at h)).2.1, by rw [getD_set _ _ _ (by decide)]; exact (al11 (by rwa [getD_set _ _ _ (by decide)] at h)).2.2⟩), (fun h => by rw [getD_set _ _ _ (by decide)]; exact as11 (by rwa [getD_set _ _ _ (by decide)] at h)), (fun h1 h2 => by change (SP.new 0 0 [] 5).P _ ((ac.put (some 28) _).eval (.tmp 27)); rw [eval_put_other ac _ (by decide)]; exact ti0 (by rwa [getD_set _ _ _ (by decide)] at h1) (by rwa [getD_set _ _ _ (by decide)] at h2)), (fun h1 h2 => by change (SP.byd m pd).P _ ((ac.put (some 28) _).eval (.tmp 30)); rw [eval_put_other ac _ (by decide)]; exact ti3 (by rwa [getD_set _ _ _ (by decide)] at h1) (by rwa [getD_set _ _ _ (by decide)] at h2))⟩)
    · have hk3 := hk
      have e28 := (hF.done 1 (28, SP.is (.pointer (some ⟨b2, 0, none⟩))) (by rw [hD]; rfl) (ready_dep hk 1 (by kernel_rfl)))
      exact wpOp_plain rfl rfl (wp_loadb rfl b2 0 e28 _ m cz (rp.cell 0 _ (by rw [HP.out]; rfl)) ⟨b, hl2 2, (hF.put 2 29 (SP.is (.slice (some ⟨gc, 0, none⟩) m cz)) (.slice (some ⟨gc, 0, none⟩) m cz) (by rw [hD]; rfl) rfl (by rw [hD]; rfl) (by rw [hsz]; decide) (by rw [hl]; decide)), hb1, rp, rcl, rh, rg, r4, (fun h => ⟨(eval_put_other ac _ (by decide)).trans ((al11 (by rwa [getD_set _ _ _ (by decide)] at h)).1), (al11 (by rwa [getD_set _ _ _ (by decide)] at h)).2.1, by rw [getD_set _ _ _ (by decide)]; exact (al11 (by rwa [getD_set _ _ _ (by decide)] at h)).2.2⟩), (fun h => by rw [getD_set _ _ _ (by decide)]; exact as11 (by rwa [getD_set _ _ _ (by decide)] at h)), (fun h1 h2 => by change (SP.new 0 0 [] 5).P _ ((ac.put (some 29) _).eval (.tmp 27)); rw [eval_put_other ac _ (by decide)]; exact ti0 (by rwa [getD_set _ _ _ (by decide)] at h1) (by rwa [getD_set _ _ _ (by decide)] at h2)), (fun h1 h2 => by change (SP.byd m pd).P _ ((ac.put (some 29) _).eval (.tmp 30)); rw [eval_put_other ac _ (by decide)]; exact ti3 (by rwa [getD_set _ _ _ (by decide)] at h1) (by rwa [getD_set _ _ _ (by decide)] at h2))⟩)
    · have hk3 := hk
      obtain ⟨N7, e27, r27⟩ := (ti0 (ready_dep hk 0 (by kernel_rfl)) (not_yet hk))
      have e29 := (hF.done 2 (29, SP.is (.slice (some ⟨gc, 0, none⟩) m cz)) (by rw [hD]; rfl) (ready_dep hk 2 (by kernel_rfl)))
      refine wpOp_plain rfl rfl (wp_appz (.tmp 27) (.tmp 29) rfl N7 gc 0 m m cz [] pd rfl HPD.out.1 (Nat.zero_add m) HPD.out.2.1 HPD.out.2.2 e27 r27 e29 (HRW.out W rg) ?_)
      intro A c W2 hbw hne hB
      exact ⟨b, hl2 3, ((hF.world hB).put 3 30 (SP.any) (.slice A m c) (by rw [hD]; rfl) trivial (by rw [hD]; rfl) (by rw [hsz]; decide) (by rw [hl]; decide)), hb1.trans (hB.mono hb1.size), Row.below rp hB (Row.lt rp), Row.below rcl hB (Row.lt rcl), Row.below rh hB (Row.lt rh), Row.below rg hB (Row.lt rg), Row.below r4 hB (Row.lt r4), (fun h => ⟨(eval_put_other ac _ (by decide)).trans ((al11 (by rwa [getD_set _ _ _ (by decide)] at h)).1), (al11 (by rwa [getD_set _ _ _ (by decide)] at h)).2.1, by rw [getD_set _ _ _ (by decide)]; exact Row.below (al11 (by rwa [getD_set _ _ _ (by decide)] at h)).2.2 hB (Row.lt (al11 (by rwa [getD_set _ _ _ (by decide)] at h)).2.2)⟩), (fun h => by rw [getD_set _ _ _ (by decide)]; exact as11 (by rwa [getD_set _ _ _ (by decide)] at h)), (fun _ h => absurd (getD_same (by rw [hl]; decide)) h), (fun _ _ => by change (SP.byd m pd).P _ ((ac.put (some 30) _).eval (.tmp 30)); rw [eval_put_same ac _ (by rw [hF.size, hsz]; decide)]; exact (byd_bm HPD.out.2.1 hbw hne))⟩
    · have hk3 := hk
      exact wpOp_plain rfl rfl (wp_load_mid 39 (.tmp 8) rfl b8 0 ((hF.keep 8 (by rw [hD]; rfl)).trans zs8) M _ rcl.all Try.underlying39 rfl HMI.out ⟨b, hl2 4, (hF.put 4 31 (SP.is (.agg M.toArray)) (.agg M.toArray) (by rw [hD]; rfl) rfl (by rw [hD]; rfl) (by rw [hsz]; decide) (by rw [hl]; decide)), hb1, rp, rcl, rh, rg, r4, (fun h => ⟨(eval_put_other ac _ (by decide)).trans ((al11 (by rwa [getD_set _ _ _ (by decide)] at h)).1), (al11 (by rwa [getD_set _ _ _ (by decide)] at h)).2.1, by rw [getD_set _ _ _ (by decide)]; exact (al11 (by rwa [getD_set _ _ _ (by decide)] at h)).2.2⟩), (fun h => by rw [getD_set _ _ _ (by decide)]; exact as11 (by rwa [getD_set _ _ _ (by decide)] at h)), (fun h1 h2 => by change (SP.new 0 0 [] 5).P _ ((ac.put (some 31) _).eval (.tmp 27)); rw [eval_put_other ac _ (by decide)]; exact ti0 (by rwa [getD_set _ _ _ (by decide)] at h1) (by rwa [getD_set _ _ _ (by decide)] at h2)), (fun h1 h2 => by change (SP.byd m pd).P _ ((ac.put (some 31) _).eval (.tmp 30)); rw [eval_put_other ac _ (by decide)]; exact ti3 (by rwa [getD_set _ _ _ (by decide)] at h1) (by rwa [getD_set _ _ _ (by decide)] at h2))⟩)
    · have hk3 := hk
      exact wpOp_plain rfl rfl (wp_move_v (ac.eval (.tmp 7)) rfl rfl ⟨b, hl2 5, (hF.put 5 32 (SP.is (.pointer (some ⟨hb, 0, none⟩))) (ac.eval (.tmp 7)) (by rw [hD]; rfl) (((hF.keep 7 (by rw [hD]; rfl)).trans zs7)) (by rw [hD]; rfl) (by rw [hsz]; decide) (by rw [hl]; decide)), hb1, rp, rcl, rh, rg, r4, (fun h => ⟨(eval_put_other ac _ (by decide)).trans ((al11 (by rwa [getD_set _ _ _ (by decide)] at h)).1), (al11 (by rwa [getD_set _ _ _ (by decide)] at h)).2.1, by rw [getD_set _ _ _ (by decide)]; exact (al11 (by rwa [getD_set _ _ _ (by decide)] at h)).2.2⟩), (fun h => by rw [getD_set _ _ _ (by decide)]; exact as11 (by rwa [getD_set _ _ _ (by decide)] at h)), (fun h1 h2 => by change (SP.new 0 0 [] 5).P _ ((ac.put (some 32) _).eval (.tmp 27)); rw [eval_put_other ac _ (by decide)]; exact ti0 (by rwa [getD_set _ _ _ (by decide)] at h1) (by rwa [getD_set _ _ _ (by decide)] at h2)), (fun h1 h2 => by change (SP.byd m pd).P _ ((ac.put (some 32) _).eval (.tmp 30)); rw [eval_put_other ac _ (by decide)]; exact ti3 (by rwa [getD_set _ _ _ (by decide)] at h1) (by rwa [getD_set _ _ _ (by decide)] at h2))⟩)
    · have hk3 := hk
      have e32 := (hF.done 5 (32, SP.is (.pointer (some ⟨hb, 0, none⟩))) (by rw [hD]; rfl) (ready_dep hk 5 (by kernel_rfl)))
      exact wpOp_plain rfl rfl (wp_mkif rfl (.pointer (some ⟨hb, 0, none⟩)) e32 ⟨b, hl2 6, (hF.put 6 33 (SP.is (.iface 58 (.pointer (some ⟨hb, 0, none⟩)))) (.iface 58 (.pointer (some ⟨hb, 0, none⟩))) (by rw [hD]; rfl) rfl (by rw [hD]; rfl) (by rw [hsz]; decide) (by rw [hl]; decide)), hb1, rp, rcl, rh, rg, r4, (fun h => ⟨(eval_put_other ac _ (by decide)).trans ((al11 (by rwa [getD_set _ _ _ (by decide)] at h)).1), (al11 (by rwa [getD_set _ _ _ (by decide)] at h)).2.1, by rw [getD_set _ _ _ (by decide)]; exact (al11 (by rwa [getD_set _ _ _ (by decide)] at h)).2.2⟩), (fun h => by rw [getD_set _ _ _ (by decide)]; exact as11 (by rwa [getD_set _ _ _ (by decide)] at h)), (fun h1 h2 => by change (SP.new 0 0 [] 5).P _ ((ac.put (some 33) _).eval (.tmp 27)); rw [eval_put_other ac _ (by decide)]; exact ti0 (by rwa [getD_set _ _ _ (by decide)] at h1) (by rwa [getD_set _ _ _ (by decide)] at h2)), (fun h1 h2 => by change (SP.byd m pd).P _ ((ac.put (some 33) _).eval (.tmp 30)); rw [eval_put_other ac _ (by decide)]; exact ti3 (by rwa [getD_set _ _ _ (by decide)] at h1) (by rwa [getD_set _ _ _ (by decide)] at h2))⟩)
    · have hk3 := hk
      obtain ⟨NN8, cN8, e30, h8, r30⟩ := (ti3 (ready_dep hk 3 (by kernel_rfl)) (not_yet hk))
      have e31 := (hF.done 4 (31, SP.is (.agg M.toArray)) (by rw [hD]; rfl) (ready_dep hk 4 (by kernel_rfl)))
      have e33 := (hF.done 6 (33, SP.is (.iface 58 (.pointer (some ⟨hb, 0, none⟩)))) (by rw [hD]; rfl) (ready_dep hk 6 (by kernel_rfl)))
      refine wpOp_plain rfl rfl (wp_fcall_v 16 #[.slice (some ⟨NN8, 0, none⟩) m cN8, .agg M.toArray, .iface 58 (.pointer (some ⟨hb, 0, none⟩))] rfl rfl (by show [ac.eval (.tmp 30), ac.eval (.tmp 31), ac.eval (.tmp 33)] = _; rw [show ac.eval (.tmp 30) = _ from e30, show ac.eval (.tmp 31) = _ from e31, show ac.eval (.tmp 33) = _ from e33]) (by go_simp) ((HRUN.out NN8 cN8 g8 c8 hb h8 58 M HM.out W r30 (range_be HGA.out hb1)).mono ?_))
      rintro e W2 ⟨rfl, hB⟩
      exact ⟨_, rfl, b, hl2 7, ((hF.world hB).put 7 34 (SP.is (.tuple #[.agg (Rz rv0 rv1 rv2 rv3 rv4).toArray, .int .i64 E])) (.tuple #[.agg (Rz rv0 rv1 rv2 rv3 rv4).toArray, .int .i64 E]) (by rw [hD]; rfl) rfl (by rw [hD]; rfl) (by rw [hsz]; decide) (by rw [hl]; decide)), hb1.trans (hB.mono hb1.size), Row.below rp hB (Row.lt rp), Row.below rcl hB (Row.lt rcl), Row.below rh hB (Row.lt rh), Row.below rg hB (Row.lt rg), Row.below r4 hB (Row.lt r4), (fun h => ⟨(eval_put_other ac _ (by decide)).trans ((al11 (by rwa [getD_set _ _ _ (by decide)] at h)).1), (al11 (by rwa [getD_set _ _ _ (by decide)] at h)).2.1, by rw [getD_set _ _ _ (by decide)]; exact Row.below (al11 (by rwa [getD_set _ _ _ (by decide)] at h)).2.2 hB (Row.lt (al11 (by rwa [getD_set _ _ _ (by decide)] at h)).2.2)⟩), (fun h => by rw [getD_set _ _ _ (by decide)]; exact as11 (by rwa [getD_set _ _ _ (by decide)] at h)), (fun h1 h2 => by change (SP.new 0 0 [] 5).P _ ((ac.put (some 34) _).eval (.tmp 27)); rw [eval_put_other ac _ (by decide)]; exact (SP.new 0 0 [] 5).st _ _ _ hB (ti0 (by rwa [getD_set _ _ _ (by decide)] at h1) (by rwa [getD_set _ _ _ (by decide)] at h2))), (fun _ h => absurd (getD_same (by rw [hl]; decide)) h)⟩
    · have hk3 := hk
      exact wpOp_plain rfl rfl (wp_move_v (ac.eval (.tmp 34)) rfl rfl ⟨b, hl2 8, (hF.put 8 26 (SP.is (.tuple #[.agg (Rz rv0 rv1 rv2 rv3 rv4).toArray, .int .i64 E])) (ac.eval (.tmp 34)) (by rw [hD]; rfl) ((hF.done 7 (34, SP.is (.tuple #[.agg (Rz rv0 rv1 rv2 rv3 rv4).toArray, .int .i64 E])) (by rw [hD]; rfl) (ready_dep hk 7 (by kernel_rfl)))) (by rw [hD]; rfl) (by rw [hsz]; decide) (by rw [hl]; decide)), hb1, rp, rcl, rh, rg, r4, (fun h => ⟨(eval_put_other ac _ (by decide)).trans ((al11 (by rwa [getD_set _ _ _ (by decide)] at h)).1), (al11 (by rwa [getD_set _ _ _ (by decide)] at h)).2.1, by rw [getD_set _ _ _ (by decide)]; exact (al11 (by rwa [getD_set _ _ _ (by decide)] at h)).2.2⟩), (fun h => by rw [getD_set _ _ _ (by decide)]; exact as11 (by rwa [getD_set _ _ _ (by decide)] at h)), (fun h1 h2 => by change (SP.new 0 0 [] 5).P _ ((ac.put (some 26) _).eval (.tmp 27)); rw [eval_put_other ac _ (by decide)]; exact ti0 (by rwa [getD_set _ _ _ (by decide)] at h1) (by rwa [getD_set _ _ _ (by decide)] at h2)), (fun h1 h2 => by change (SP.byd m pd).P _ ((ac.put (some 26) _).eval (.tmp 30)); rw [eval_put_other ac _ (by decide)]; exact ti3 (by rwa [getD_set _ _ _ (by decide)] at h1) (by rwa [getD_set _ _ _ (by decide)] at h2))⟩)
    · have hk3 := hk
      exact wpOp_plain rfl rfl (wp_extract (.tmp 26) 0 rfl #[.agg (Rz rv0 rv1 rv2 rv3 rv4).toArray, .int .i64 E] (hF.done 8 (26, SP.is (.tuple #[.agg (Rz rv0 rv1 rv2 rv3 rv4).toArray, .int .i64 E])) (by rw [hD]; rfl) (ready_dep hk 8 (by kernel_rfl))) (.agg (Rz rv0 rv1 rv2 rv3 rv4).toArray) rfl ⟨b, hl2 9, (hF.put 9 35 (SP.is (.agg (Rz rv0 rv1 rv2 rv3 rv4).toArray)) (.agg (Rz rv0 rv1 rv2 rv3 rv4).toArray) (by rw [hD]; rfl) rfl (by rw [hD]; rfl) (by rw [hsz]; decide) (by rw [hl]; decide)), hb1, rp, rcl, rh, rg, r4, (fun h => ⟨(eval_put_other ac _ (by decide)).trans ((al11 (by rwa [getD_set _ _ _ (by decide)] at h)).1), (al11 (by rwa [getD_set _ _ _ (by decide)] at h)).2.1, by rw [getD_set _ _ _ (by decide)]; exact (al11 (by rwa [getD_set _ _ _ (by decide)] at h)).2.2⟩), (fun h => by rw [getD_set _ _ _ (by decide)]; exact as11 (by rwa [getD_set _ _ _ (by decide)] at h)), (fun h1 h2 => by change (SP.new 0 0 [] 5).P _ ((ac.put (some 35) _).eval (.tmp 27)); rw [eval_put_other ac _ (by decide)]; exact ti0 (by rwa [getD_set _ _ _ (by decide)] at h1) (by rwa [getD_set _ _ _ (by decide)] at h2)), (fun h1 h2 => by change (SP.byd m pd).P _ ((ac.put (some 35) _).eval (.tmp 30)); rw [eval_put_other ac _ (by decide)]; exact ti3 (by rwa [getD_set _ _ _ (by decide)] at h1) (by rwa [getD_set _ _ _ (by decide)] at h2))⟩)
    · have hk3 := hk
      exact wpOp_plain rfl rfl (wp_extract (.tmp 26) 1 rfl #[.agg (Rz rv0 rv1 rv2 rv3 rv4).toArray, .int .i64 E] (hF.done 8 (26, SP.is (.tuple #[.agg (Rz rv0 rv1 rv2 rv3 rv4).toArray, .int .i64 E])) (by rw [hD]; rfl) (ready_dep hk 8 (by kernel_rfl))) (.int .i64 E) rfl ⟨b, hl2 10, (hF.put 10 36 (SP.is (.int .i64 E)) (.int .i64 E) (by rw [hD]; rfl) rfl (by rw [hD]; rfl) (by rw [hsz]; decide) (by rw [hl]; decide)), hb1, rp, rcl, rh, rg, r4, (fun h => ⟨(eval_put_other ac _ (by decide)).trans ((al11 (by rwa [getD_set _ _ _ (by decide)] at h)).1), (al11 (by rwa [getD_set _ _ _ (by decide)] at h)).2.1, by rw [getD_set _ _ _ (by decide)]; exact (al11 (by rwa [getD_set _ _ _ (by decide)] at h)).2.2⟩), (fun h => by rw [getD_set _ _ _ (by decide)]; exact as11 (by rwa [getD_set _ _ _ (by decide)] at h)), (fun h1 h2 => by change (SP.new 0 0 [] 5).P _ ((ac.put (some 36) _).eval (.tmp 27)); rw [eval_put_other ac _ (by decide)]; exact ti0 (by rwa [getD_set _ _ _ (by decide)] at h1) (by rwa [getD_set _ _ _ (by decide)] at h2)), (fun h1 h2 => by change (SP.byd m pd).P _ ((ac.put (some 36) _).eval (.tmp 30)); rw [eval_put_other ac _ (by decide)]; exact ti3 (by rwa [getD_set _ _ _ (by decide)] at h1) (by rwa [getD_set _ _ _ (by decide)] at h2))⟩)
    · have hk3 := hk
      have hsm : T0 < W.heap.size := (by have := hb1.size; omega)
      have hB : Below W.heap.size W (W.alloc (Obj.cells zR.toArray 31)) := (Below.refl _ _).alloc (Nat.le_refl _) _
      have hns : ¬ listed.getD 12 false = true := fun h => not_yet hk (as11 h)
      exact wpOp_plain rfl rfl (wp_allocRn rfl ⟨W.heap.size, hl2 11, ((hF.world hB).put 11 9 (SP.any) (.pointer (some ⟨W.heap.size, 0, none⟩)) (by rw [hD]; rfl) trivial (by rw [hD]; rfl) (by rw [hsz]; decide) (by rw [hl]; decide)), hb1.alloc hb1.size _, Row.alloc rp _, Row.alloc rcl _, Row.alloc rh _, Row.alloc rg _, Row.alloc r4 _, (fun _ => ⟨eval_put_same ac _ (by rw [hF.size, hsz]; decide), hsm, by rw [getD_set _ _ _ (by decide), if_neg hns]; exact Row.new' rfl rfl⟩), (fun _ => getD_same (by rw [hl]; decide)), (fun h1 h2 => by change (SP.new 0 0 [] 5).P _ ((ac.put (some 9) _).eval (.tmp 27)); rw [eval_put_other ac _ (by decide)]; exact (SP.new 0 0 [] 5).st _ _ _ hB (ti0 (by rwa [getD_set _ _ _ (by decide)] at h1) (by rwa [getD_set _ _ _ (by decide)] at h2))), (fun h1 h2 => by change (SP.byd m pd).P _ ((ac.put (some 9) _).eval (.tmp 30)); rw [eval_put_other ac _ (by decide)]; exact (SP.byd m pd).st _ _ _ hB (ti3 (by rwa [getD_set _ _ _ (by decide)] at h1) (by rwa [getD_set _ _ _ (by decide)] at h2)))⟩)
    · have hk3 := hk
      have hal := ready_dep hk 11 (by kernel_rfl)
      obtain ⟨e1, m1, y2⟩ := al11 hal
      rw [if_neg (not_yet hk)] at y2
      have T := y2.there 0 (Rz rv0 rv1 rv2 rv3 rv4).toArray.size (Nat.le_refl 5)
      have fin := y2.over (vs := (Rz rv0 rv1 rv2 rv3 rv4)) rfl
      have hT : Fp D a0 listed ac (W.setCells b 0 (Rz rv0 rv1 rv2 rv3 rv4)) := hF.turn (by rw [hD]; simp only [List.forall_mem_cons, List.not_mem_nil, false_implies, implies_true, and_true]; exact ⟨fun _ h => h, fun _ h => h, fun _ h => h, fun _ h => h, fun _ h => h, fun _ h => h, fun _ h => h, fun _ h => h, fun _ h => h, fun _ h => h, fun _ h => h, fun _ h => h, fun _ h => h, fun _ h => h⟩)
      exact wpOp_plain rfl rfl (wp_store_mid 31 (.tmp 9) (.tmp 35) rfl b 0 (Rz rv0 rv1 rv2 rv3 rv4).toArray e1 (hF.done 9 (35, SP.is (.agg (Rz rv0 rv1 rv2 rv3 rv4).toArray)) (by rw [hD]; rfl) (ready_dep hk 9 (by kernel_rfl))) T info_Ran (Rz_one _ _ _ _ _) ⟨b, hl2 12, (hT.skip 12 1000 (by rw [hD]; rfl) (by rw [hl]; decide)), below_setCells hb1 (by omega) _, Row.setCells_other rp _ _ _ (by omega), Row.setCells_other rcl _ _ _ (by omega), Row.setCells_other rh _ _ _ (by omega), Row.setCells_other rg _ _ _ (by omega), Row.setCells_other r4 _ _ _ (by omega), (fun _ => ⟨e1, m1, by rw [if_pos (getD_same (by rw [hl]; decide))]; exact fin⟩), (fun _ => by rw [getD_set _ _ _ (by decide)]; exact hal), (fun _ h2 => absurd (by rw [getD_set _ _ _ (by decide)]; exact ready_dep hk 3 (by kernel_rfl)) h2), (fun _ h2 => absurd (by rw [getD_set _ _ _ (by decide)]; exact ready_dep hk 7 (by kernel_rfl)) h2)⟩)
    · have hk3 := hk
      exact wpOp_plain rfl rfl (wp_assign_v (ac.eval (.tmp 36)) rfl rfl ⟨b, hl2 13, (hF.put 13 10 (SP.is (.int .i64 E)) (ac.eval (.tmp 36)) (by rw [hD]; rfl) ((hF.done 10 (36, SP.is (.int .i64 E)) (by rw [hD]; rfl) (ready_dep hk 10 (by kernel_rfl)))) (by rw [hD]; rfl) (by rw [hsz]; decide) (by rw [hl]; decide)), hb1, rp, rcl, rh, rg, r4, (fun h => ⟨(eval_put_other ac _ (by decide)).trans ((al11 (by rwa [getD_set _ _ _ (by decide)] at h)).1), (al11 (by rwa [getD_set _ _ _ (by decide)] at h)).2.1, by rw [getD_set _ _ _ (by decide)]; exact (al11 (by rwa [getD_set _ _ _ (by decide)] at h)).2.2⟩), (fun h => by rw [getD_set _ _ _ (by decide)]; exact as11 (by rwa [getD_set _ _ _ (by decide)] at h)), (fun h1 h2 => by change (SP.new 0 0 [] 5).P _ ((ac.put (some 10) _).eval (.tmp 27)); rw [eval_put_other ac _ (by decide)]; exact ti0 (by rwa [getD_set _ _ _ (by decide)] at h1) (by rwa [getD_set _ _ _ (by decide)] at h2)), (fun h1 h2 => by change (SP.byd m pd).P _ ((ac.put (some 10) _).eval (.tmp 30)); rw [eval_put_other ac _ (by decide)]; exact ti3 (by rwa [getD_set _ _ _ (by decide)] at h1) (by rwa [getD_set _ _ _ (by decide)] at h2))⟩)
  · clear hb1 rp rcl rh rg r4 
    intro listed ac W hI hr
    obtain ⟨b, hl, hF, hb1, rp, rcl, rh, rg, r4, al11, as11, ti0, ti3⟩ := hI
    have hall := all_listed (by kernel_rfl) hl hr
    obtain ⟨ea9, m9, p9⟩ := al11 (hall 11 (by decide))
    rw [if_pos (hall 12 (by decide))] at p9
    obtain ⟨x27, h27⟩ : ∃ x, ac.eval (.tmp 27) = x := ⟨_, rfl⟩
    have h28 : ac.eval (.tmp 28) = .pointer (some ⟨b2, 0, none⟩) := hF.done 1 (28, SP.is (.pointer (some ⟨b2, 0, none⟩))) (by rw [hD]; rfl) (hall 1 (by decide))
    have h29 : ac.eval (.tmp 29) = .slice (some ⟨gc, 0, none⟩) m cz := hF.done 2 (29, SP.is (.slice (some ⟨gc, 0, none⟩) m cz)) (by rw [hD]; rfl) (hall 2 (by decide))
    obtain ⟨x30, h30⟩ : ∃ x, ac.eval (.tmp 30) = x := ⟨_, rfl⟩
    have h31 : ac.eval (.tmp 31) = .agg M.toArray := hF.done 4 (31, SP.is (.agg M.toArray)) (by rw [hD]; rfl) (hall 4 (by decide))
    have h32 : ac.eval (.tmp 32) = .pointer (some ⟨hb, 0, none⟩) := hF.done 5 (32, SP.is (.pointer (some ⟨hb, 0, none⟩))) (by rw [hD]; rfl) (hall 5 (by decide))
    have h33 : ac.eval (.tmp 33) = .iface 58 (.pointer (some ⟨hb, 0, none⟩)) := hF.done 6 (33, SP.is (.iface 58 (.pointer (some ⟨hb, 0, none⟩)))) (by rw [hD]; rfl) (hall 6 (by decide))
    have h34 : ac.eval (.tmp 34) = .tuple #[.agg (Rz rv0 rv1 rv2 rv3 rv4).toArray, .int .i64 E] := hF.done 7 (34, SP.is (.tuple #[.agg (Rz rv0 rv1 rv2 rv3 rv4).toArray, .int .i64 E])) (by rw [hD]; rfl) (hall 7 (by decide))
    have h26 : ac.eval (.tmp 26) = .tuple #[.agg (Rz rv0 rv1 rv2 rv3 rv4).toArray, .int .i64 E] := hF.done 8 (26, SP.is (.tuple #[.agg (Rz rv0 rv1 rv2 rv3 rv4).toArray, .int .i64 E])) (by rw [hD]; rfl) (hall 8 (by decide))
    have h35 : ac.eval (.tmp 35) = .agg (Rz rv0 rv1 rv2 rv3 rv4).toArray := hF.done 9 (35, SP.is (.agg (Rz rv0 rv1 rv2 rv3 rv4).toArray)) (by rw [hD]; rfl) (hall 9 (by decide))
    have h36 : ac.eval (.tmp 36) = .int .i64 E := hF.done 10 (36, SP.is (.int .i64 E)) (by rw [hD]; rfl) (hall 10 (by decide))
    have h10 : ac.eval (.tmp 10) = .int .i64 E := hF.done 13 (10, SP.is (.int .i64 E)) (by rw [hD]; rfl) (hall 13 (by decide))
    have ea := hF.lay [(27, x27), (28, .pointer (some ⟨b2, 0, none⟩)), (29, .slice (some ⟨gc, 0, none⟩) m cz), (30, x30), (31, .agg M.toArray), (32, .pointer (some ⟨hb, 0, none⟩)), (33, .iface 58 (.pointer (some ⟨hb, 0, none⟩))), (34, .tuple #[.agg (Rz rv0 rv1 rv2 rv3 rv4).toArray, .int .i64 E]), (26, .tuple #[.agg (Rz rv0 rv1 rv2 rv3 rv4).toArray, .int .i64 E]), (35, .agg (Rz rv0 rv1 rv2 rv3 rv4).toArray), (36, .int .i64 E), (9, .pointer (some ⟨b, 0, none⟩)), (10, .int .i64 E)] (by rw [hD, hsz]; rfl) (by simp only [List.forall_mem_cons, List.not_mem_nil, false_implies, implies_true, and_true]; exact ⟨h27, h28, h29, h30, h31, h32, h33, h34, h26, h35, h36, ea9, h10⟩)
    rw [ha0] at ea
    simp only [List.foldl_cons, List.foldl_nil, List.setIfInBounds_toArray, List.set_cons_zero, List.set_cons_succ] at ea
    clear hF hall hr hl hD al11 as11 ti0 ti3 zs2 zs7 zs8 ha0 hsz h27 h28 h29 h30 h31 h32 h33 h34 h26 h35 h36 ea9 h10
    subst ea
    have RB : Hid (Row W b (Rz rv0 rv1 rv2 rv3 rv4) 31) := p9
    have R4 : Hid (Row W b4 zR 31) := r4
    have BW : Hid (Below w.heap.size w W) := BX.out.trans (hb1.mono BX.out.size)
    have hc := rh.cell 1 _ rfl
    have u0 := p9.cell 0 _ rfl
    have v0 := r4.cell 0 _ rfl
    have vf0 := r4.thaw 0
    have u1 := p9.cell 1 _ rfl
    have v1 := r4.cell 1 _ rfl
    have vf1 := r4.thaw 1
    have u2 := p9.cell 2 _ rfl
    have v2 := r4.cell 2 _ rfl
    have vf2 := r4.thaw 2
    have u3 := p9.cell 3 _ rfl
    have v3 := r4.cell 3 _ rfl
    have vf3 := r4.thaw 3
    have u4 := p9.cell 4 _ rfl
    have v4 := r4.cell 4 _ rfl
    have vf4 := r4.thaw 4
    have nb : b4 ≠ b := by omega
    have nb' : b ≠ b4 := by omega
    have nh : hb ≠ b4 := by have h2 := N3.out; have h3 := N4.out; omega
    have nh' : b4 ≠ hb := fun e => nh e.symm
    have HW4 : Hid (w.heap.size ≤ b4) := by show _ ≤ _; have h1 := N24.out; have h2 := HB2.out; omega
    clear p9 r4 hb1 rp rcl rh rg m9 m2 m4 mh hgc hT0 l2 l4 lh l8 lg
    go_wp2_with fail
    go_region
    all_goals
      have RF := ((((R4.out.set 0 (.int .u64 rv0)).set 1 (.int .u64 rv1)).set 2 (.int .u64 rv2)).set 3 (.int .u64 rv3)).set 4 (.int .i64 rv4)
      have GF : Gro (· = b4) W _ := (((((Gro.refl (· = b4) W).set b4 0 (.int .u64 rv0) rfl).set b4 1 (.int .u64 rv1) rfl).set b4 2 (.int .u64 rv2) rfl).set b4 3 (.int .u64 rv3) rfl).set b4 4 (.int .i64 rv4) rfl
      have BF := (BW.out.trans (GF.to_below BW.out.size (fun k e => by rw [e]; exact HW4.out))).drew
      have RFD := RF.drew
      go_wp2_with fail
      exact bodyPost_ret (results_rowS_tt Try.results10 _ _ b4 31 (Rz rv0 rv1 rv2 rv3 rv4) (.int .i64 E) (.slice none 0 0) rfl rfl rfl RFD Try.underlying31 info_Ran) rfl ⟨rfl, BF⟩


end Go.Proofs.Ytdlmighfmkhpkaa
