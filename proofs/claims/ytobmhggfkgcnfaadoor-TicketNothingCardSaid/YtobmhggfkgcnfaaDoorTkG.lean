/-
  readTicket.
-/
import Derived.Test.YtobmhggfkgcnfaaDoorTkF
namespace Go.Proofs.YtobmhggfkgcnfaaDoor
open Go Go.RowKit Go.Maps
open Sha
open Wd

theorem resT_row {P : Program} {fn : Func} {p : Tmp} {ty : TypeId} {fs : Array Field} (h : fn.results = #[.cell p ty]) (tmps : Array Value) (w : World) (g : Nat) (t : TypeId) (cs : List Value)
    (hp : tmps.getD p undef = .pointer (some ⟨g, 0, none⟩)) (hg : Row w g cs t) (hu : P.underlying ty = some (.struct fs)) (hi : (P.info? ty).map (·.size) = some cs.length) :
    (results fn tmps).run P w = .ok (.agg cs.toArray) w :=
  results_cell_row h tmps w g t cs.toArray (0, 0) _ hp hg hu rfl (by simp [hi])
theorem resT_row_tmp {P : Program} {fn : Func} {p q : Tmp} {ty : TypeId} {fs : Array Field} (h : fn.results = #[.cell p ty, .tmp q]) (tmps : Array Value) (w : World) (g : Nat) (t : TypeId) (cs : List Value) (v : Value)
    (hp : tmps.getD p undef = .pointer (some ⟨g, 0, none⟩)) (hv : tmps.getD q undef = v) (hg : Row w g cs t) (hu : P.underlying ty = some (.struct fs)) (hi : (P.info? ty).map (·.size) = some cs.length) :
    (results fn tmps).run P w = .ok (.tuple #[.agg cs.toArray, v]) w := by
  have hp' : tmps[p]?.getD undef = .pointer (some ⟨g, 0, none⟩) := by simpa using hp
  have hv' : tmps[q]?.getD undef = v := by simpa using hv
  have hr := run_loadVar_row (P := P) w g t ty cs.toArray (0, 0) (.struct fs) hg hu rfl (by simp [hi])
  simp [results, h, hp', hv', asAddr, hr]
theorem row_neT {w : World} {b c : Nat} {cs ds : List Value} {t u : TypeId} (h : Row w b cs t) (k : Row w c ds u) (ht : t ≠ u) : b ≠ c := fun e => by
  subst e
  have := h.symm.trans k
  simp only [Option.some.injEq, Obj.cells.injEq] at this
  exact ht this.2.1
theorem range_sub {w : World} {g o : Nat} {d p x q : List (BitVec 8)} (h : w.rangeAt g 0 (vB d)) (hd : d = p ++ (x ++ q)) (hp : p.length = o) : w.rangeAt g o (vB x) := fun j u hj => by
  have hlt : j < x.length := by have := (List.getElem?_eq_some_iff.1 hj).1; rwa [vB_length] at this
  have := h (o + j) u (by
    subst hd hp
    rw [vB_app, vB_app, List.getElem?_append_right (by rw [vB_length]; omega), vB_length, Nat.add_sub_cancel_left, List.getElem?_append_left (by rw [vB_length]; exact hlt)]
    exact hj)
  rwa [Nat.zero_add] at this
theorem tkg_22 {n e tk : Int} {sd td : List (BitVec 8)} {am : List Value} (h : sd.length = 20) : (tkg n e sd tk td am)[22]? = some (.int .i64 tk) := by
  rw [show 22 = (20 + 0) + 1 + 1 by omega]
  exact app_at (vB sd) _ 20 0 (by rw [vB_length, h])
theorem stp_copyf {ops : Array Oper} {op : Oper} {a : Act} {w : World} {K : Act → World → Prop} {Q : Exit → Act → World → Prop} {E : Prop} (hgd : op.guard = none) (x y : Operand) (ho : op.op = .call { callee := .builtin .copy, args := #[x, y], argTypes := #[46, 46] }) (g off N cap : Nat) (A : Option Addr) (d : List (BitVec 8)) (hd : d.length = N)
    (hx : a.eval x = .slice (some ⟨g, off, none⟩) N N) (hy : a.eval y = .slice A N cap) (hv : SlAt w (.slice A N cap) d) (ht : w.there g off N)
    (h : ∀ X, X = w.setCells g off (vB d) → K (a.put op.dst (goInt (vB d).length)) X) : if Region.wanted op (yielded ops a.tmps) = true then Oper.wp Tryd.prog op a w K Q else E := by
  have e : d.take N = d := List.take_of_length_le (by omega)
  refine stp_copyo hgd x y ho g off N N cap A d hd hx hy hv (by rw [e, vB_length, hd]; exact ht) ?_
  rw [e]
  exact h _ rfl
theorem sl_at {w : World} {g o m c : Nat} {d : List (BitVec 8)} (h : d.length = m) (hc : m ≤ c) (r : w.rangeAt g o (vB d)) : SlAt w (.slice (some ⟨g, o, none⟩) m c) d := .inr ⟨g, o, c, by rw [h], by rw [h]; exact hc, r⟩
theorem z20_len : (List.replicate 20 0#8).length = 20 := List.length_replicate
theorem am4_one : am4.toArray.all (·.oneCell') = true := by rw [← Array.all_toList]; rfl
set_option maxRecDepth 100000 in
set_option maxHeartbeats 4000000 in
theorem readT (sd td : List (BitVec 8)) (h1 : sd.length = 20) (h2 : td.length = 20) (g cap : Nat) (hc : 81 ≤ cap) (L : List Value) (hL : Tl L 0 sd td) (w : World) (hr : w.rangeAt g 0 (vB (tkB sd td))) : Calls Tryd.prog 18 #[.slice (some ⟨g, 0, none⟩) 81 cap] w fun e w' => e = .returned (.tuple #[.agg L.toArray, .int .i64 0]) ∧ Below w.heap.size w w' := by
  have RA : Hid (w.rangeAt g 0 (vB [0#8, 0#8, 0#8, 0#8, 0#8, 0#8, 0#8, 7#8])) := range_sub hr (show _ = ([] : List (BitVec 8)) ++ (_ ++ (sd ++ [3#8] ++ td ++ wB 256)) by simp [tkB]) rfl
  have RB : Hid (w.rangeAt g 8 (vB sd)) := range_sub hr (show _ = [0#8, 0#8, 0#8, 0#8, 0#8, 0#8, 0#8, 7#8] ++ (_ ++ ([3#8] ++ td ++ wB 256)) by simp [tkB]) rfl
  have RC : Hid (w.rangeAt g 28 (vB [3#8])) := range_sub hr (show _ = ([0#8, 0#8, 0#8, 0#8, 0#8, 0#8, 0#8, 7#8] ++ sd) ++ (_ ++ (td ++ wB 256)) by simp [tkB]) (by simp [h1])
  have RD : Hid (w.rangeAt g 29 (vB td)) := range_sub hr (show _ = ([0#8, 0#8, 0#8, 0#8, 0#8, 0#8, 0#8, 7#8] ++ sd ++ [3#8]) ++ (_ ++ wB 256) by simp [tkB]) (by simp [h1])
  have RE : Hid (w.rangeAt g 49 (vB (wB 256))) := range_sub hr (show _ = ([0#8, 0#8, 0#8, 0#8, 0#8, 0#8, 0#8, 7#8] ++ sd ++ [3#8] ++ td) ++ (_ ++ []) by simp [tkB]) (by simp [h1, h2])
  have H1 : Hid (sd.length = 20) := h1
  have H2 : Hid (td.length = 20) := h2
  have HC : Hid (81 ≤ cap) := hc
  have HT : Hid (Tl L 0 sd td) := hL
  have HLN : Hid (L.length = 47) := hL.len
  have HLI : Hid ((Tryd.prog.info? 29).map (·.size) = some L.length) := by show _ = _; rw [hL.len]; exact info_tk
  obtain ⟨L7, hL7⟩ : ∃ L7, L7 = tz 7 := ⟨_, rfl⟩
  have HL7 : Hid (L7 = tz 7) := hL7
  have HI7 : Hid ((Tryd.prog.info? 29).map (·.size) = some L7.length) := by show _ = _; rw [hL7]; exact info_tk
  have HN7 : Hid (L7.length = (tz 0).length) := by show _ = _; rw [hL7]; rfl
  have HO7 : Hid (L7.toArray.all (·.oneCell') = true) := tz_one 7 hL7
  clear hr h1 h2 hc hL hL7
  go_enter Tryd.func18, Tryd.ntmps18
  go_wp2_with (refine wpList_allocT rfl rfl ?_; intro X q1 q2 q3; have R2 : Hid (Row X w.heap.size (tz 0) 29) := q1; have BB : Hid (Below w.heap.size w X) := q2; clear q1 q2 q3; simp only [Act.put, List.setIfInBounds_toArray, List.set_cons_zero, List.set_cons_succ])
  refine Calls.mono (cutter_any g 81 cap X) ?_
  rintro e V1 ⟨rfl, rP, hB⟩
  obtain ⟨b2, hb2⟩ : ∃ b2, b2 = w.heap.size := ⟨_, rfl⟩
  obtain ⟨P, hP⟩ : ∃ P, P = X.heap.size := ⟨_, rfl⟩
  have HPL : Hid (w.heap.size ≤ P) := by show _ ≤ _; rw [hP]; exact BB.out.size
  rw [← hP] at rP
  rw [← hP]
  have RP : Hid (Row V1 P [.slice (some ⟨g, 0, none⟩) 81 cap] 46) := rP
  replace R2 : Hid (Row V1 b2 (tz 0) 29) := by rw [hb2]; exact Row.below R2.out hB R2.out.lt
  replace BB : Hid (Below w.heap.size w V1) := BB.out.trans (hB.mono BB.out.size)
  have HB2 : Hid (b2 = w.heap.size) := hb2
  rw [← hb2]
  clear hP hb2 rP hB
  go_wp2_with fail
  refine Calls.mono (cut_8_81 P g 0 cap (cap - 8) HC.out rfl V1 RP.out) ?_
  rintro e V2 ⟨rfl, rP, hG⟩
  obtain ⟨c1, hc1⟩ : ∃ c, c = cap - 8 := ⟨_, rfl⟩
  rw [← hc1] at rP
  have HC1 : Hid (73 ≤ c1) := by show _ ≤ _; rw [hc1]; have := HC.out; omega
  have hR2 := hG.row R2.out (row_neT R2.out RP.out (by decide))
  replace BB : Hid (Below w.heap.size w V2) := BB.out.trans (hG.to_below BB.out.size (fun k e => by rw [e]; exact HPL.out))
  replace RP : Hid (Row V2 P [.slice (some ⟨g, 8, none⟩) 73 c1] 46) := rP
  replace R2 : Hid (Row V2 b2 (tz 0) 29) := hR2
  have H8 : Hid _ := readEight_7 g cap V2 (range_be RA.out BB.out)
  clear hc1 rP hG hR2 RA HC
  go_wp2_with fail
  refine Calls.mono H8.out ?_
  rintro e Vx ⟨rfl, hqq⟩
  obtain rfl := hqq.symm
  clear H8
  obtain ⟨p5, hp5⟩ : ∃ p, p = V2.heap.size := ⟨_, rfl⟩
  have HP5 : Hid (p5 = V2.heap.size) := hp5
  clear hp5
  go_upto_region 5 with (first
    | (refine wpList_buildT rfl (.tmp 16) rfl rfl L7 HL7.out ?_; simp only [Act.put, List.setIfInBounds_toArray, List.set_cons_zero, List.set_cons_succ])
    | (refine wpList_allocT rfl rfl ?_; intro X5 q1 q2 q3; have R5 : Hid (Row X5 V2.heap.size (tz 0) 29) := q1; have B5 : Hid (Below V2.heap.size V2 X5) := q2; clear q1 q2 q3; simp only [Act.put, List.setIfInBounds_toArray, List.set_cons_zero, List.set_cons_succ])
    | (refine wpList_storeL rfl 29 (.tmp 5) (.tmp 17) rfl V2.heap.size L7 (tz 0) 29 rfl rfl R5.out HN7.out HI7.out HO7.out ?_; intro X6 q1 q2; have HX6 : Hid (X6 = _) := q1; have R6 : Hid (Row X6 V2.heap.size L7 29) := q2; clear q1 q2; simp only [Act.put]))
  have hwp : w.heap.size ≤ p5 := by rw [HP5.out]; exact BB.out.size
  have e5 : b2 ≠ p5 := by have := R2.out.lt; rw [HP5.out]; omega
  have e6 : P ≠ p5 := by have := RP.out.lt; rw [HP5.out]; omega
  rw [← HP5.out] at R6 HX6
  rw [← HP5.out]
  replace BB : Hid (Below w.heap.size w X6) := by rw [HX6.out]; exact below_setCells (BB.out.trans (B5.out.mono BB.out.size)) hwp _
  replace R2 : Hid (Row X6 b2 (tz 0) 29) := by rw [HX6.out]; exact Row.setCells_other (Row.below R2.out B5.out R2.out.lt) _ _ _ e5
  replace RP : Hid (Row X6 P [.slice (some ⟨g, 8, none⟩) 73 c1] 46) := by rw [HX6.out]; exact Row.setCells_other (Row.below RP.out B5.out RP.out.lt) _ _ _ e6
  have R5' : Hid (Row X6 p5 (tkg 0 7 (List.replicate 20 0#8) 0 (List.replicate 20 0#8) z4) 29) := by rw [← tz_tkg, ← HL7.out]; exact R6.out
  replace R5 := R5'
  have HW5 : Hid (w.heap.size ≤ p5) := hwp
  have HE5 : Hid (b2 ≠ p5) := e5
  have HE6 : Hid (P ≠ p5) := e6
  clear hwp e5 e6 HX6 R6 R5' B5 HP5 HL7 HI7 HN7 HO7
  have HCU : Hid _ := cut_20_73 P g 8 c1 (c1 - 20) HC1.out rfl X6.drew RP.out.drew
  go_region_law (first
    | (refine stp_fcall rfl 43 #[.int .i64 20, .pointer (some ⟨P, 0, none⟩)] (by go_simp) (Calls.mono HCU.out ?_); rintro e V3 ⟨rfl, rP, hG0⟩; refine ⟨_, rfl, ?_⟩; have hG := ((Gro.refl (fun k => k = P) X6).drew).trans hG0; have RP' : Hid (Row V3 P [.slice (some ⟨g, 28, none⟩) 53 (c1 - 20)] 46) := rP; have HG' : Hid (Gro (fun k => k = P) X6 V3) := hG; have HSL : Hid (SlAt V3 (.slice (some ⟨g, 8, none⟩) 20 c1) sd) := sl_at H1.out (Nat.le_trans (by decide) HC1.out) (range_be RB.out (BB.out.trans (hG.to_below BB.out.size (fun k e => (by rw [e]; exact HPL.out))))); have HTH : Hid (V3.there p5 2 20) := (hG.row R5.out (Ne.symm HE6.out)).there 2 20 (by rw [tkg_len z20_len z20_len rfl]; decide); clear rP hG hG0)
    | (refine stp_copyf rfl (.tmp 19) (.tmp 21) rfl p5 2 20 c1 (some ⟨g, 8, none⟩) sd H1.out rfl rfl HSL.out HTH.out ?_; intro Y hY; have HY : Hid (Y = _) := hY; clear hY))
  obtain ⟨c2, hc2⟩ : ∃ c, c = c1 - 20 := ⟨_, rfl⟩
  have HC2 : Hid (53 ≤ c2) := by show _ ≤ _; rw [hc2]; have := HC1.out; omega
  replace R2 : Hid (Row Y b2 (tz 0) 29) := by rw [HY.out]; exact Row.setCells_other (HG'.out.row R2.out (row_neT R2.out RP.out (by decide))) _ _ _ HE5.out
  replace R5 : Hid (Row Y p5 (tkg 0 7 sd 0 (List.replicate 20 0#8) z4) 29) := by rw [HY.out]; exact row_sd z20_len z20_len rfl (HG'.out.row R5.out (Ne.symm HE6.out)) sd H1.out
  replace BB : Hid (Below w.heap.size w Y) := by rw [HY.out]; exact below_setCells (BB.out.trans (HG'.out.to_below BB.out.size (fun k e => by rw [e]; exact HPL.out))) HW5.out _
  replace RP : Hid (Row Y P [.slice (some ⟨g, 28, none⟩) 53 c2] 46) := by rw [HY.out, hc2]; exact Row.setCells_other RP'.out _ _ _ HE6.out
  clear HCU HY HG' HSL HTH RP' hc2 HC1 RB
  go_wp2_with fail
  refine Calls.mono (cut_1_53 P g 28 c2 (c2 - 1) HC2.out rfl Y RP.out) ?_
  rintro e V4 ⟨rfl, rP, hG⟩
  obtain ⟨c3, hc3⟩ : ∃ c, c = c2 - 1 := ⟨_, rfl⟩
  rw [← hc3] at rP
  have HC3 : Hid (52 ≤ c3) := by show _ ≤ _; rw [hc3]; have := HC2.out; omega
  have hR2 := hG.row R2.out (row_neT R2.out RP.out (by decide))
  have hR5 := hG.row R5.out (Ne.symm HE6.out)
  replace BB : Hid (Below w.heap.size w V4) := BB.out.trans (hG.to_below BB.out.size (fun k e => by rw [e]; exact HPL.out))
  have g28 : V4.cell? ⟨g, 28, none⟩ = some (.int .u8 3) := range_be RC.out BB.out 0 _ rfl
  have g22 := hR5.cell 22 _ (tkg_22 H1.out)
  have k22 := hR5.thaw 22
  obtain ⟨Y4, hY4⟩ : ∃ Y, Y = V4.setCell ⟨p5, 22, none⟩ (.int .i64 3) := ⟨_, rfl⟩
  have HY4 : Hid (Y4 = _) := hY4
  have R2' : Hid (Row Y4 b2 (tz 0) 29) := by rw [hY4]; exact Row.set_other hR2 _ _ _ HE5.out
  have R5' : Hid (Row Y4 p5 (tkg 0 7 sd 3 (List.replicate 20 0#8) z4) 29) := by rw [hY4]; exact row_tk H1.out z20_len rfl hR5 3
  have RP' : Hid (Row Y4 P [.slice (some ⟨g, 29, none⟩) 52 c3] 46) := by rw [hY4]; exact Row.set_other rP _ _ _ HE6.out
  have BB' : Hid (Below w.heap.size w Y4) := by rw [hY4]; exact BB.out.setCell HW5.out _
  clear hc3 rP hG hR2 hR5 hY4 HC2 RC
  go_upto_region 7 with fail
  rw [← HY4.out]
  replace R2 := R2'
  replace R5 := R5'
  replace RP := RP'
  replace BB := BB'
  clear HY4 R2' R5' RP' BB' g28 g22 k22
  have HCU : Hid _ := cut_20_52 P g 29 c3 (c3 - 20) HC3.out rfl Y4.drew RP.out.drew
  go_region_law (first
    | (refine stp_fcall rfl 43 #[.int .i64 20, .pointer (some ⟨P, 0, none⟩)] (by go_simp) (Calls.mono HCU.out ?_); rintro e V5 ⟨rfl, rP, hG0⟩; refine ⟨_, rfl, ?_⟩; have hG := ((Gro.refl (fun k => k = P) Y4).drew).trans hG0; have RP' : Hid (Row V5 P [.slice (some ⟨g, 49, none⟩) 32 (c3 - 20)] 46) := rP; have HG' : Hid (Gro (fun k => k = P) Y4 V5) := hG; have HSL : Hid (SlAt V5 (.slice (some ⟨g, 29, none⟩) 20 c3) td) := sl_at H2.out (Nat.le_trans (by decide) HC3.out) (range_be RD.out (BB.out.trans (hG.to_below BB.out.size (fun k e => (by rw [e]; exact HPL.out))))); have HTH : Hid (V5.there p5 23 20) := (hG.row R5.out (Ne.symm HE6.out)).there 23 20 (by rw [tkg_len H1.out z20_len rfl]; decide); clear rP hG hG0)
    | (refine stp_copyf rfl (.tmp 30) (.tmp 32) rfl p5 23 20 c3 (some ⟨g, 29, none⟩) td H2.out rfl rfl HSL.out HTH.out ?_; intro Y hY; have HY : Hid (Y = _) := hY; clear hY))
  obtain ⟨c4, hc4⟩ : ∃ c, c = c3 - 20 := ⟨_, rfl⟩
  have HC4 : Hid (32 ≤ c4) := by show _ ≤ _; rw [hc4]; have := HC3.out; omega
  replace R2 : Hid (Row Y b2 (tz 0) 29) := by rw [HY.out]; exact Row.setCells_other (HG'.out.row R2.out (row_neT R2.out RP.out (by decide))) _ _ _ HE5.out
  replace R5 : Hid (Row Y p5 (tkg 0 7 sd 3 td z4) 29) := by rw [HY.out]; exact row_td H1.out z20_len rfl (HG'.out.row R5.out (Ne.symm HE6.out)) td H2.out
  replace BB : Hid (Below w.heap.size w Y) := by rw [HY.out]; exact below_setCells (BB.out.trans (HG'.out.to_below BB.out.size (fun k e => by rw [e]; exact HPL.out))) HW5.out _
  replace RP : Hid (Row Y P [.slice (some ⟨g, 49, none⟩) 32 c4] 46) := by rw [HY.out, hc4]; exact Row.setCells_other RP'.out _ _ _ HE6.out
  clear HCU HY HG' HSL HTH RP' hc4 HC3 RD
  go_wp2_with fail
  refine Calls.mono (cut_32_32 P g 49 c4 (c4 - 32) HC4.out rfl Y RP.out) ?_
  rintro e V6 ⟨rfl, ⟨vx, rP⟩, hG⟩
  have hR2 := hG.row R2.out (row_neT R2.out RP.out (by decide))
  have hR5 := hG.row R5.out (Ne.symm HE6.out)
  replace BB : Hid (Below w.heap.size w V6) := BB.out.trans (hG.to_below BB.out.size (fun k e => by rw [e]; exact HPL.out))
  replace R2 : Hid (Row V6 b2 (tz 0) 29) := hR2
  replace R5 : Hid (Row V6 p5 (tkg 0 7 sd 3 td z4) 29) := hR5
  have HRD : Hid (Calls Tryd.prog 34 #[.slice (some ⟨g, 49, none⟩) 32 c4] V6 fun e w' => e = .returned (.tuple #[.agg am4.toArray, .int .i64 0]) ∧ Below V6.heap.size V6 w') := readS 256 (by decide) (some ⟨g, 49, none⟩) c4 V6 (sl_at (wB_len 256) HC4.out (range_be RE.out BB.out))
  clear rP hG hR2 hR5 RP HC4 RE HPL HE6
  go_wp2_with fail
  refine Calls.mono HRD.out ?_
  rintro e V7 ⟨rfl, hB⟩
  replace R2 : Hid (Row V7 b2 (tz 0) 29) := Row.below R2.out hB R2.out.lt
  replace R5 : Hid (Row V7 p5 (tkg 0 7 sd 3 td z4) 29) := Row.below R5.out hB R5.out.lt
  replace BB : Hid (Below w.heap.size w V7) := BB.out.trans (hB.mono BB.out.size)
  obtain ⟨Z1, hZ1, r6, bZ⟩ : ∃ Z, Z = V7.alloc (Obj.cells am4.toArray 27) ∧ Row Z V7.heap.size am4 27 ∧ Below V7.heap.size V7 Z := ⟨_, rfl, Row.new' rfl rfl, (Below.refl _ _).alloc (Nat.le_refl _) _⟩
  have HZ1 : Hid (Z1 = _) := hZ1
  have R6 : Hid (Z1.rangeAt V7.heap.size 0 am4) := r6.all
  replace R2 : Hid (Row Z1 b2 (tz 0) 29) := Row.below R2.out bZ R2.out.lt
  replace R5 : Hid (Row Z1 p5 (tkg 0 7 sd 3 td z4) 29) := Row.below R5.out bZ R5.out.lt
  replace BB : Hid (Below w.heap.size w Z1) := BB.out.trans (bZ.mono BB.out.size)
  clear hB HRD hZ1 r6 bZ
  go_upto_region 9 with fail
  rw [← HZ1.out]
  clear HZ1
  have HTH : Hid (Z1.there p5 43 am4.toArray.size) := R5.out.there 43 _ (by rw [tkg_len H1.out H2.out rfl]; decide)
  obtain ⟨Z2, hZ2⟩ : ∃ Z, Z = Z1.setCells p5 43 am4 := ⟨_, rfl⟩
  have HZ2 : Hid (Z2 = _) := hZ2
  have R2' : Hid (Row Z2 b2 (tz 0) 29) := by rw [hZ2]; exact Row.setCells_other R2.out _ _ _ HE5.out
  have R5' : Hid (Row Z2 p5 L 29) := by rw [hZ2, HT.out.eq]; exact row_am H1.out H2.out rfl R5.out am4 rfl
  have BB' : Hid (Below w.heap.size w Z2) := by rw [hZ2]; exact below_setCells BB.out HW5.out _
  clear hZ2
  go_upto_region 10 with (first
    | (refine wpList_load_w rfl 27 (.tmp 6) rfl V7.heap.size 0 rfl am4 _ R6.out Tryd.underlying27 rfl info_wd ?_; simp only [Act.put, List.setIfInBounds_toArray, List.set_cons_zero, List.set_cons_succ])
    | (refine wpList_store_mid rfl 27 (.tmp 41) (.tmp 40) rfl p5 43 am4.toArray rfl rfl HTH.out info_wd am4_one ?_; simp only [Act.put]; change wpList _ _ _ _ _ (World.setCells Z1 p5 43 am4); rw [← HZ2.out]))
  replace R2 := R2'
  replace R5 := R5'
  replace BB := BB'
  clear HTH R2' R5' BB' HZ2 R6
  have RL : Hid (Z2.rangeAt p5 0 L) := R5.out.all
  go_wp2_with (refine wpList_load_w rfl 29 (.tmp 5) rfl p5 0 rfl L _ RL.out Tryd.underlying29 rfl HLI.out ?_; simp only [Act.put, List.setIfInBounds_toArray, List.set_cons_zero, List.set_cons_succ])
  refine Calls.mono (mayBe_ok L 0 sd td HT.out Z2) ?_
  rintro e V8 ⟨rfl, hB⟩
  replace R2 : Hid (Row V8 b2 (tz 0) 29) := Row.below R2.out hB R2.out.lt
  replace R5 : Hid (Row V8 p5 L 29) := Row.below R5.out hB R5.out.lt
  replace BB : Hid (Below w.heap.size w V8) := BB.out.trans (hB.mono BB.out.size)
  replace RL : Hid (V8.rangeAt p5 0 L) := R5.out.all
  have HLL : Hid (L.length = (tz 0).length) := HLN.out
  have HLO : Hid (L.toArray.all (·.oneCell') = true) := HT.out.one
  clear hB
  go_wp2_with (first
    | (refine wpList_load_w rfl 29 (.tmp 5) rfl p5 0 rfl L _ RL.out Tryd.underlying29 rfl HLI.out ?_; simp only [Act.put, List.setIfInBounds_toArray, List.set_cons_zero, List.set_cons_succ])
    | (refine wpList_storeL rfl 29 (.tmp 2) (.tmp 50) rfl b2 L (tz 0) 29 rfl rfl R2.out HLL.out HLI.out HLO.out ?_; intro V9 q1 q2; have HV9 : Hid (V9 = _) := q1; have R9 : Hid (Row V9 b2 L 29) := q2; clear q1 q2; simp only [Act.put]))
  exact bodyPost_ret (resT_row_tmp Tryd.results18 _ _ b2 29 L (.int .i64 0) rfl rfl R9.out Tryd.underlying29 HLI.out) rfl ⟨rfl, by rw [HV9.out]; exact below_setCells BB.out (by rw [HB2.out]; exact Nat.le_refl _) _⟩

end Go.Proofs.YtobmhggfkgcnfaaDoor
