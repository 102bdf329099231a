/-
  slices.Grow, slices.Concat of five lists of bytes.
-/
import Derived.Test.YtobmhggfkgcnfaaDoorTkB
namespace Go.Proofs.YtobmhggfkgcnfaaDoor
open Go Go.RowKit Go.Maps
open Sha
open Wd

set_option maxRecDepth 100000 in
set_option maxHeartbeats 1000000 in
theorem grow_81 (w : World) : Calls Tryd.prog 42 #[.slice none 0 0, .int .i64 81] w fun e w' => ∃ v, e = .returned v ∧ Bw w' v [] ∧ (∃ g cap, v = .slice (some ⟨g, 0, none⟩) 0 cap ∧ w.heap.size ≤ g) ∧ Below w.heap.size w w' := by
  obtain ⟨i0, hi, hz, hs, hb⟩ := info_parts info_all_u8
  have happ := Lib.run_append_nil_zeros (P := Tryd.prog) w 46 3 46 5 i0 (.int .u8 0) .i64 .i64 Tryd.underlying46 Tryd.underlying3 hi hz 81 (by decide) (by rw [hs]; decide) (by decide) (by rw [hb]; decide)
  generalize hcap : grownCap w 81 0 5 = cap at happ
  have hge : 81 ≤ cap := by rw [← hcap]; exact grownCap_ge w _ 0 5
  have hle : cap ≤ maxLen := by rw [← hcap]; exact grownCap_le_maxLen w _ 0 5 (by unfold maxLen; omega)
  generalize hZ : (Builtin.zeroCells (Value.int .u8 0).cells 81 ++ Builtin.zeroCells (Value.int .u8 0).cells (cap - 81)) = Z at happ
  have hZs : Z.size = cap * 1 := by rw [← hZ]; simp [size_zeroCells, Value.cells]; omega
  have HOW : Hid (Bw (w.drew.alloc (.cells Z 5)) (.slice (some ⟨w.heap.size, 0, none⟩) 0 cap) []) := World.ownsRow_made w.drew Z cap (Nat.zero_le _) hle hZs
  have HB : Hid (Below w.heap.size w (w.drew.alloc (.cells Z 5))) := ((Below.refl _ _).drew).alloc (Nat.le_refl _) _
  clear hcap hZ hZs hle hi hz hs hb
  go_enter Tryd.func42, Tryd.ntmps42
  go_wp2_with (at_builtin; refine Lib.wpList_append_run _ rfl _ _ _ _ rfl _ _ rfl rfl _ _ happ ?_)
  go_ret
  exact ⟨_, rfl, HOW.out, ⟨_, _, rfl, Nat.le_refl _⟩, HB.out⟩
theorem len_app {d e : List (BitVec 8)} {m n k : Nat} (h : d.length = m) (j : e.length = n) (hk : m + n = k) : (d ++ e).length = k := by rw [List.length_append, h, j, hk]
theorem sl_in {w : World} {g o m : Nat} {d : List (BitVec 8)} (h : d.length = m) (r : w.rangeAt g o (vB d)) : SlAt w (.slice (some ⟨g, o, none⟩) m m) d := .inr ⟨g, o, m, by rw [h], by rw [h]; exact Nat.le_refl _, r⟩
theorem own_next {w V V' : World} {v v' : Value} (hB : Below w.heap.size w V) (hF : Fresh w.heap.size v) (q2 : V.grownBy V' v.ownBlock) (q3 : v'.ownBlock = v.ownBlock ∨ v'.ownBlock = some V.heap.size) : Below w.heap.size w V' ∧ Fresh w.heap.size v' :=
  ⟨hB.grown q2 hB.size (fun k e => hF k e), fun g e => by
    rcases q3 with q3 | q3
    · exact hF g (q3 ▸ e)
    · rw [q3] at e
      cases e
      exact hB.size⟩
set_option maxRecDepth 100000 in
set_option maxHeartbeats 2000000 in
theorem concat_5 (q : Nat) (g0 o0 : Nat) (d0 : List (BitVec 8)) (h0 : d0.length = 8) (g1 o1 : Nat) (d1 : List (BitVec 8)) (h1 : d1.length = 20) (g2 o2 : Nat) (d2 : List (BitVec 8)) (h2 : d2.length = 1) (g3 o3 : Nat) (d3 : List (BitVec 8)) (h3 : d3.length = 20) (g4 o4 : Nat) (d4 : List (BitVec 8)) (h4 : d4.length = 32) (d : List (BitVec 8)) (hd : d = [] ++ d0 ++ d1 ++ d2 ++ d3 ++ d4) (w : World) (hq : Row w q [.slice (some ⟨g0, o0, none⟩) 8 8, .slice (some ⟨g1, o1, none⟩) 20 20, .slice (some ⟨g2, o2, none⟩) 1 1, .slice (some ⟨g3, o3, none⟩) 20 20, .slice (some ⟨g4, o4, none⟩) 32 32] 46) (r0 : w.rangeAt g0 o0 (vB d0)) (r1 : w.rangeAt g1 o1 (vB d1)) (r2 : w.rangeAt g2 o2 (vB d2)) (r3 : w.rangeAt g3 o3 (vB d3)) (r4 : w.rangeAt g4 o4 (vB d4)) : Calls Tryd.prog 29 #[.slice (some ⟨q, 0, none⟩) 5 5] w fun e w' => ∃ A c, e = .returned (.slice A 81 c) ∧ Bw w' (.slice A 81 c) d ∧ (A = none → False) ∧ Below w.heap.size w w' := by
  have c0 := hq.cell 0 _ rfl
  have H0 : Hid (d0.length = 8) := h0
  have R0 : Hid (w.rangeAt g0 o0 (vB d0)) := r0
  have c1 := hq.cell 1 _ rfl
  have H1 : Hid (d1.length = 20) := h1
  have R1 : Hid (w.rangeAt g1 o1 (vB d1)) := r1
  have c2 := hq.cell 2 _ rfl
  have H2 : Hid (d2.length = 1) := h2
  have R2 : Hid (w.rangeAt g2 o2 (vB d2)) := r2
  have c3 := hq.cell 3 _ rfl
  have H3 : Hid (d3.length = 20) := h3
  have R3 : Hid (w.rangeAt g3 o3 (vB d3)) := r3
  have c4 := hq.cell 4 _ rfl
  have H4 : Hid (d4.length = 32) := h4
  have R4 : Hid (w.rangeAt g4 o4 (vB d4)) := r4
  have HQ : Hid (Row w q [.slice (some ⟨g0, o0, none⟩) 8 8, .slice (some ⟨g1, o1, none⟩) 20 20, .slice (some ⟨g2, o2, none⟩) 1 1, .slice (some ⟨g3, o3, none⟩) 20 20, .slice (some ⟨g4, o4, none⟩) 32 32] 46) := hq
  have HD : Hid (d = _) := hd
  have HG : Hid _ := grow_81 w
  clear hq hd h0 r0 h1 r1 h2 r2 h3 r3 h4 r4
  go_enter Tryd.func29, Tryd.ntmps29
  go_wp2_with fail
  refine wp_loop_rounds 6 ?_
  rw [rounds_succ]
  go_wp2_with fail
  rw [rounds_succ]
  go_wp2_with fail
  rw [rounds_succ]
  go_wp2_with fail
  rw [rounds_succ]
  go_wp2_with fail
  rw [rounds_succ]
  go_wp2_with fail
  rw [rounds_succ]
  go_wp2_with fail
  refine Calls.mono HG.out ?_
  rintro e V0 ⟨v, rfl, q1, ⟨gv, cv, rfl, hgv⟩, hB⟩
  have BW0 : Hid (Bw V0 (.slice (some ⟨gv, 0, none⟩) 0 cv) []) := q1
  have FR0 : Hid (Fresh w.heap.size (.slice (some ⟨gv, 0, none⟩) 0 cv)) := fun g e => by cases e; exact hgv
  have BB0 : Hid (Below w.heap.size w V0) := hB
  have HL0 : Hid (([] : List (BitVec 8)).length = 0) := rfl
  obtain ⟨A0, hA0⟩ : ∃ A : Option Addr, A = some ⟨gv, 0, none⟩ := ⟨_, rfl⟩
  rw [← hA0] at BW0 FR0
  rw [← hA0]
  obtain ⟨k0, hk0⟩ : ∃ k : Nat, k = cv := ⟨_, rfl⟩
  rw [← hk0] at BW0 FR0
  rw [← hk0]
  clear hA0 hk0 q1 hgv hB HG
  clear c0 c1 c2 c3 c4
  go_wp2_with fail
  refine wp_loop_rounds 6 ?_
  rw [rounds_succ]
  have c0 : V0.cell? ⟨q, 0, none⟩ = some (.slice (some ⟨g0, o0, none⟩) 8 8) := (Row.below HQ.out BB0.out HQ.out.lt).cell 0 _ rfl
  have SL : Hid (SlAt V0 (.slice (some ⟨g0, o0, none⟩) 8 8) d0) := sl_in H0.out (range_be R0.out BB0.out)
  have HL1 : Hid (([] ++ d0).length = 8) := len_app HL0.out H0.out rfl
  have HS : Hid (([] : List (BitVec 8)).length + 8 ≤ 140737488355328) := by show _ ≤ _; rw [HL0.out]; decide
  go_wp2_with (refine wpList_app rfl (.tmp 31) (.tmp 32) rfl (.slice A0 0 k0) [] d0 rfl BW0.out (some ⟨g0, o0, none⟩) 8 8 H0.out rfl SL.out (fun e => nomatch e) HS.out ?_; intro v' V1 q1 q2 q3; obtain ⟨BB1', FR1'⟩ := own_next BB0.out FR0.out q2 q3; obtain ⟨A1, k1, hv, hc, hn⟩ := Bw.form q1; rw [HL1.out] at hv; subst hv; have BW1 : Hid (Bw V1 (.slice A1 8 k1) ([] ++ d0)) := q1; have BB1 : Hid (Below w.heap.size w V1) := BB1'; have FR1 : Hid (Fresh w.heap.size (.slice A1 8 k1)) := FR1'; clear q1 q2 q3 hc hn BB1' FR1'; simp only [Act.put, List.setIfInBounds_toArray, List.set_cons_zero, List.set_cons_succ])
  clear c0 SL HS BW0 BB0 FR0 HL0
  rw [rounds_succ]
  have c1 : V1.cell? ⟨q, 1, none⟩ = some (.slice (some ⟨g1, o1, none⟩) 20 20) := (Row.below HQ.out BB1.out HQ.out.lt).cell 1 _ rfl
  have SL : Hid (SlAt V1 (.slice (some ⟨g1, o1, none⟩) 20 20) d1) := sl_in H1.out (range_be R1.out BB1.out)
  have HL2 : Hid ((([] ++ d0) ++ d1).length = 28) := len_app HL1.out H1.out rfl
  have HS : Hid ((([] ++ d0) : List (BitVec 8)).length + 20 ≤ 140737488355328) := by show _ ≤ _; rw [HL1.out]; decide
  go_wp2_with (refine wpList_app rfl (.tmp 31) (.tmp 32) rfl (.slice A1 8 k1) ([] ++ d0) d1 rfl BW1.out (some ⟨g1, o1, none⟩) 20 20 H1.out rfl SL.out (fun e => nomatch e) HS.out ?_; intro v' V2 q1 q2 q3; obtain ⟨BB2', FR2'⟩ := own_next BB1.out FR1.out q2 q3; obtain ⟨A2, k2, hv, hc, hn⟩ := Bw.form q1; rw [HL2.out] at hv; subst hv; have BW2 : Hid (Bw V2 (.slice A2 28 k2) (([] ++ d0) ++ d1)) := q1; have BB2 : Hid (Below w.heap.size w V2) := BB2'; have FR2 : Hid (Fresh w.heap.size (.slice A2 28 k2)) := FR2'; clear q1 q2 q3 hc hn BB2' FR2'; simp only [Act.put, List.setIfInBounds_toArray, List.set_cons_zero, List.set_cons_succ])
  clear c1 SL HS BW1 BB1 FR1 HL1
  rw [rounds_succ]
  have c2 : V2.cell? ⟨q, 2, none⟩ = some (.slice (some ⟨g2, o2, none⟩) 1 1) := (Row.below HQ.out BB2.out HQ.out.lt).cell 2 _ rfl
  have SL : Hid (SlAt V2 (.slice (some ⟨g2, o2, none⟩) 1 1) d2) := sl_in H2.out (range_be R2.out BB2.out)
  have HL3 : Hid (((([] ++ d0) ++ d1) ++ d2).length = 29) := len_app HL2.out H2.out rfl
  have HS : Hid (((([] ++ d0) ++ d1) : List (BitVec 8)).length + 1 ≤ 140737488355328) := by show _ ≤ _; rw [HL2.out]; decide
  go_wp2_with (refine wpList_app rfl (.tmp 31) (.tmp 32) rfl (.slice A2 28 k2) (([] ++ d0) ++ d1) d2 rfl BW2.out (some ⟨g2, o2, none⟩) 1 1 H2.out rfl SL.out (fun e => nomatch e) HS.out ?_; intro v' V3 q1 q2 q3; obtain ⟨BB3', FR3'⟩ := own_next BB2.out FR2.out q2 q3; obtain ⟨A3, k3, hv, hc, hn⟩ := Bw.form q1; rw [HL3.out] at hv; subst hv; have BW3 : Hid (Bw V3 (.slice A3 29 k3) ((([] ++ d0) ++ d1) ++ d2)) := q1; have BB3 : Hid (Below w.heap.size w V3) := BB3'; have FR3 : Hid (Fresh w.heap.size (.slice A3 29 k3)) := FR3'; clear q1 q2 q3 hc hn BB3' FR3'; simp only [Act.put, List.setIfInBounds_toArray, List.set_cons_zero, List.set_cons_succ])
  clear c2 SL HS BW2 BB2 FR2 HL2
  rw [rounds_succ]
  have c3 : V3.cell? ⟨q, 3, none⟩ = some (.slice (some ⟨g3, o3, none⟩) 20 20) := (Row.below HQ.out BB3.out HQ.out.lt).cell 3 _ rfl
  have SL : Hid (SlAt V3 (.slice (some ⟨g3, o3, none⟩) 20 20) d3) := sl_in H3.out (range_be R3.out BB3.out)
  have HL4 : Hid ((((([] ++ d0) ++ d1) ++ d2) ++ d3).length = 49) := len_app HL3.out H3.out rfl
  have HS : Hid ((((([] ++ d0) ++ d1) ++ d2) : List (BitVec 8)).length + 20 ≤ 140737488355328) := by show _ ≤ _; rw [HL3.out]; decide
  go_wp2_with (refine wpList_app rfl (.tmp 31) (.tmp 32) rfl (.slice A3 29 k3) ((([] ++ d0) ++ d1) ++ d2) d3 rfl BW3.out (some ⟨g3, o3, none⟩) 20 20 H3.out rfl SL.out (fun e => nomatch e) HS.out ?_; intro v' V4 q1 q2 q3; obtain ⟨BB4', FR4'⟩ := own_next BB3.out FR3.out q2 q3; obtain ⟨A4, k4, hv, hc, hn⟩ := Bw.form q1; rw [HL4.out] at hv; subst hv; have BW4 : Hid (Bw V4 (.slice A4 49 k4) (((([] ++ d0) ++ d1) ++ d2) ++ d3)) := q1; have BB4 : Hid (Below w.heap.size w V4) := BB4'; have FR4 : Hid (Fresh w.heap.size (.slice A4 49 k4)) := FR4'; clear q1 q2 q3 hc hn BB4' FR4'; simp only [Act.put, List.setIfInBounds_toArray, List.set_cons_zero, List.set_cons_succ])
  clear c3 SL HS BW3 BB3 FR3 HL3
  rw [rounds_succ]
  have c4 : V4.cell? ⟨q, 4, none⟩ = some (.slice (some ⟨g4, o4, none⟩) 32 32) := (Row.below HQ.out BB4.out HQ.out.lt).cell 4 _ rfl
  have SL : Hid (SlAt V4 (.slice (some ⟨g4, o4, none⟩) 32 32) d4) := sl_in H4.out (range_be R4.out BB4.out)
  have HL5 : Hid (((((([] ++ d0) ++ d1) ++ d2) ++ d3) ++ d4).length = 81) := len_app HL4.out H4.out rfl
  have HS : Hid (((((([] ++ d0) ++ d1) ++ d2) ++ d3) : List (BitVec 8)).length + 32 ≤ 140737488355328) := by show _ ≤ _; rw [HL4.out]; decide
  go_wp2_with (refine wpList_app rfl (.tmp 31) (.tmp 32) rfl (.slice A4 49 k4) (((([] ++ d0) ++ d1) ++ d2) ++ d3) d4 rfl BW4.out (some ⟨g4, o4, none⟩) 32 32 H4.out rfl SL.out (fun e => nomatch e) HS.out ?_; intro v' V5 q1 q2 q3; obtain ⟨BB5', FR5'⟩ := own_next BB4.out FR4.out q2 q3; obtain ⟨A5, k5, hv, hc, hn⟩ := Bw.form q1; rw [HL5.out] at hv; subst hv; have BW5 : Hid (Bw V5 (.slice A5 81 k5) ((((([] ++ d0) ++ d1) ++ d2) ++ d3) ++ d4)) := q1; have BB5 : Hid (Below w.heap.size w V5) := BB5'; have FR5 : Hid (Fresh w.heap.size (.slice A5 81 k5)) := FR5'; clear q1 q2 q3 hc hn BB5' FR5'; simp only [Act.put, List.setIfInBounds_toArray, List.set_cons_zero, List.set_cons_succ])
  clear c4 SL HS BW4 BB4 FR4 HL4
  rw [rounds_succ]
  go_wp2_with fail
  go_ret
  refine ⟨A5, k5, rfl, by rw [HD.out]; exact BW5.out, fun e => ?_, BB5.out⟩
  have := sl_nil BW5.out e
  omega

end Go.Proofs.YtobmhggfkgcnfaaDoor
