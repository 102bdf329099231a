/-
  the duel: its small calls.
-/
import Derived.Test.YtddkmpbcjieolaaDuA
namespace Go.Proofs.Ytddkmpbcjieolaa
open Go Go.RowKit
open Sha

def lapW : Value := .func (.func 14) #[] #[]
def lapL : Value := .func (.func 17) #[] #[]
def Du.awaits (d : Du) (s : Int) (lap : Value) (now : Int) : Du := { d with last := now, lap := lap, st := s, unt := min (now + d.turn) 4611686018427387904 }
def Du.ends (d : Du) (s : Int) : Du := { d with lap := .nilFunc, st := s, mid := zC, unt := 0 }
/-- The duel has turned, and nothing else. -/
def Dt (w w' : World) (p : Nat) (d : Du) : Prop := Dm w' p d ∧ Gro (· = p) w w'
set_option maxRecDepth 100000 in
set_option maxHeartbeats 4000000 in
theorem await_any {w : World} {p : Nat} {d : Du} (h : Dm w p d) (s : Int) (lap : Value) (hl : lap.oneCell' = true) (hc : lap.cells = #[lap]) (now : Int) (h0 : 0 ≤ now) (h1 : now ≤ 4611686018427387904) (t0 : 0 ≤ d.turn) (t1 : d.turn ≤ 1099511627776) (d' : Du) (hd' : d' = d.awaits s lap now) :
    Calls Try.prog 13 #[.pointer (some ⟨p, 0, none⟩), .int .i64 s, lap, .int .i64 now] w fun e w' => e = .returned (.tuple #[]) ∧ Dt w w' p d' := by
  obtain ⟨E0, hE0⟩ : ∃ E, E = d.cells := ⟨_, rfl⟩
  have R0 : Hid (Row w p E0 tDl) := by show Row _ _ _ _; rw [hE0]; exact h.row
  have HL0 : Hid (E0.length = 245) := by show _ = _; rw [hE0]; exact Du.len h.wf
  have G0 : Hid (Gro (· = p) w w) := Gro.refl _ _
  obtain ⟨t, ht⟩ : ∃ t, t = d.turn := ⟨_, rfl⟩
  rw [← ht] at t0 t1
  have HT : Hid (∀ X, Row X p (((E0.set 243 (.int .i64 now)).set 244 lap).set 41 (.int .i64 s)) tDl → X.cell? ⟨p, 242, none⟩ = some (.int .i64 t)) := fun X r => r.cell 242 _ (by
    rw [List.getElem?_set_ne (by decide), List.getElem?_set_ne (by decide), List.getElem?_set_ne (by decide), hE0, ht]; exact Du.at_t h.wf 2)
  obtain ⟨u, hu⟩ : ∃ u, u = min (now + t) 4611686018427387904 := ⟨_, rfl⟩
  have HD : Hid (∀ X, Row X p ((((E0.set 243 (.int .i64 now)).set 244 lap).set 41 (.int .i64 s)).set 240 (.int .i64 u)) tDl → Dm X p d') := fun X r => by
    have w1 : Du.Wf { d with last := now } := ⟨h.wf.c, h.wf.f, h.wf.l, h.wf.h, h.wf.m, h.wf.o⟩
    have w2 : Du.Wf { d with last := now, lap := lap } := ⟨h.wf.c, h.wf.f, h.wf.l, h.wf.h, h.wf.m, hl⟩
    have w3 : Du.Wf { d with last := now, lap := lap, st := s } := ⟨h.wf.c, h.wf.f, h.wf.l, h.wf.h, h.wf.m, hl⟩
    rw [hE0, Du.set_last h.wf, Du.set_lap w1, Du.set_st w2, Du.set_unt w3, hu, ht] at r
    rw [hd']
    exact ⟨r, ⟨h.wf.c, h.wf.f, h.wf.l, h.wf.h, h.wf.m, hl⟩⟩
  have HC : Hid (lap.cells = #[lap]) := hc
  have HO : Hid (lap.oneCell' = true) := hl
  clear hE0 h hd' ht hc hl
  by_cases hs : now + t ≤ 4611686018427387904
  · have hu2 : u = now + t := by omega
    have hU : Hid (u = now + t) := hu2
    clear hu hu2
    go_enter Try.func13, Try.ntmps13
    go_wp2_with (first
      | (refine wpList_st1 rfl 3 (.tmp 11) (.tmp 9) rfl p 243 (.int .i64 now) E0 tDl rfl rfl rfl R0.out (by { rw [HL0.out]; decide }) info_int rfl ?_; intro X1 q1 q2; obtain ⟨E1, hE⟩ : ∃ E, E = E0.set 243 (.int .i64 now) := ⟨_, rfl⟩; rw [← hE] at q1; have R1 : Hid (Row X1 p E1 tDl) := q1; have HL1 : Hid (E1.length = 245) := by { show _ = _; rw [hE, List.length_set]; exact HL0.out }; have G1 : Hid (Gro (· = p) w X1) := G0.out.trans q2; have HE1 : Hid (E1 = E0.set 243 (.int .i64 now)) := hE; skip; clear q1 q2 hE)
      | (refine wpList_st1 rfl 41 (.tmp 15) (.tmp 13) rfl p 244 lap E1 tDl rfl rfl HC.out R1.out (by { rw [HL1.out]; decide }) info_fn HO.out ?_; intro X2 q1 q2; obtain ⟨E2, hE⟩ : ∃ E, E = E1.set 244 lap := ⟨_, rfl⟩; rw [← hE] at q1; have R2 : Hid (Row X2 p E2 tDl) := q1; have HL2 : Hid (E2.length = 245) := by { show _ = _; rw [hE, List.length_set]; exact HL1.out }; have G2 : Hid (Gro (· = p) w X2) := G1.out.trans q2; have HE2 : Hid (E2 = E1.set 244 lap) := hE; skip; clear q1 q2 hE)
      | (refine wpList_st1 rfl 3 (.tmp 20) (.tmp 17) rfl p 41 (.int .i64 s) E2 tDl rfl rfl rfl R2.out (by { rw [HL2.out]; decide }) info_int rfl ?_; intro X3 q1 q2; obtain ⟨E3, hE⟩ : ∃ E, E = E2.set 41 (.int .i64 s) := ⟨_, rfl⟩; rw [← hE] at q1; have R3 : Hid (Row X3 p E3 tDl) := q1; have HL3 : Hid (E3.length = 245) := by { show _ = _; rw [hE, List.length_set]; exact HL2.out }; have G3 : Hid (Gro (· = p) w X3) := G2.out.trans q2; have HE3 : Hid (E3 = E2.set 41 (.int .i64 s)) := hE; (have c1 := HT.out _ (by { rw [← HE1.out, ← HE2.out, ← HE3.out]; exact q1 })); clear q1 q2 hE)
      | (rw [← hU.out]; refine wpList_st1 rfl 3 (.tmp 31) (.tmp 28) rfl p 240 (.int .i64 u) E3 tDl rfl rfl rfl R3.out (by { rw [HL3.out]; decide }) info_int rfl ?_; intro X4 q1 q2; obtain ⟨E4, hE⟩ : ∃ E, E = E3.set 240 (.int .i64 u) := ⟨_, rfl⟩; rw [← hE] at q1; have R4 : Hid (Row X4 p E4 tDl) := q1; have HL4 : Hid (E4.length = 245) := by { show _ = _; rw [hE, List.length_set]; exact HL3.out }; have G4 : Hid (Gro (· = p) w X4) := G3.out.trans q2; have HE4 : Hid (E4 = E3.set 240 (.int .i64 u)) := hE; skip; clear q1 q2 hE))
    refine bodyPost_end (results_none rfl _ _ _) rfl ?_
    exact ⟨rfl, HD.out _ (by rw [← HE1.out, ← HE2.out, ← HE3.out, ← HE4.out]; exact R4.out), G4.out⟩
  · obtain rfl : u = 4611686018427387904 := by omega
    have hs2 : 4611686018427387904 < now + t := by omega
    clear hu hs
    go_enter Try.func13, Try.ntmps13
    go_wp2_with (first
      | (refine wpList_st1 rfl 3 (.tmp 11) (.tmp 9) rfl p 243 (.int .i64 now) E0 tDl rfl rfl rfl R0.out (by { rw [HL0.out]; decide }) info_int rfl ?_; intro X1 q1 q2; obtain ⟨E1, hE⟩ : ∃ E, E = E0.set 243 (.int .i64 now) := ⟨_, rfl⟩; rw [← hE] at q1; have R1 : Hid (Row X1 p E1 tDl) := q1; have HL1 : Hid (E1.length = 245) := by { show _ = _; rw [hE, List.length_set]; exact HL0.out }; have G1 : Hid (Gro (· = p) w X1) := G0.out.trans q2; have HE1 : Hid (E1 = E0.set 243 (.int .i64 now)) := hE; skip; clear q1 q2 hE)
      | (refine wpList_st1 rfl 41 (.tmp 15) (.tmp 13) rfl p 244 lap E1 tDl rfl rfl HC.out R1.out (by { rw [HL1.out]; decide }) info_fn HO.out ?_; intro X2 q1 q2; obtain ⟨E2, hE⟩ : ∃ E, E = E1.set 244 lap := ⟨_, rfl⟩; rw [← hE] at q1; have R2 : Hid (Row X2 p E2 tDl) := q1; have HL2 : Hid (E2.length = 245) := by { show _ = _; rw [hE, List.length_set]; exact HL1.out }; have G2 : Hid (Gro (· = p) w X2) := G1.out.trans q2; have HE2 : Hid (E2 = E1.set 244 lap) := hE; skip; clear q1 q2 hE)
      | (refine wpList_st1 rfl 3 (.tmp 20) (.tmp 17) rfl p 41 (.int .i64 s) E2 tDl rfl rfl rfl R2.out (by { rw [HL2.out]; decide }) info_int rfl ?_; intro X3 q1 q2; obtain ⟨E3, hE⟩ : ∃ E, E = E2.set 41 (.int .i64 s) := ⟨_, rfl⟩; rw [← hE] at q1; have R3 : Hid (Row X3 p E3 tDl) := q1; have HL3 : Hid (E3.length = 245) := by { show _ = _; rw [hE, List.length_set]; exact HL2.out }; have G3 : Hid (Gro (· = p) w X3) := G2.out.trans q2; have HE3 : Hid (E3 = E2.set 41 (.int .i64 s)) := hE; (have c1 := HT.out _ (by { rw [← HE1.out, ← HE2.out, ← HE3.out]; exact q1 })); clear q1 q2 hE)
      | (refine wpList_st1 rfl 3 (.tmp 31) (.tmp 28) rfl p 240 (.int .i64 4611686018427387904) E3 tDl rfl rfl rfl R3.out (by { rw [HL3.out]; decide }) info_int rfl ?_; intro X4 q1 q2; obtain ⟨E4, hE⟩ : ∃ E, E = E3.set 240 (.int .i64 4611686018427387904) := ⟨_, rfl⟩; rw [← hE] at q1; have R4 : Hid (Row X4 p E4 tDl) := q1; have HL4 : Hid (E4.length = 245) := by { show _ = _; rw [hE, List.length_set]; exact HL3.out }; have G4 : Hid (Gro (· = p) w X4) := G3.out.trans q2; have HE4 : Hid (E4 = E3.set 240 (.int .i64 4611686018427387904)) := hE; skip; clear q1 q2 hE))
    refine bodyPost_end (results_none rfl _ _ _) rfl ?_
    exact ⟨rfl, HD.out _ (by rw [← HE1.out, ← HE2.out, ← HE3.out, ← HE4.out]; exact R4.out), G4.out⟩
set_option maxRecDepth 100000 in
set_option maxHeartbeats 4000000 in
theorem end_any {w : World} {p : Nat} {d : Du} (h : Dm w p d) (s : Int) :
    Calls Try.prog 19 #[.pointer (some ⟨p, 0, none⟩), .int .i64 s] w fun e w' => e = .returned (.tuple #[]) ∧ Dt w w' p (d.ends s) := by
  obtain ⟨d', hd'⟩ : ∃ d', d' = d.ends s := ⟨_, rfl⟩
  rw [← hd']
  obtain ⟨E0, hE0⟩ : ∃ E, E = d.cells := ⟨_, rfl⟩
  have R0 : Hid (Row w p E0 tDl) := by show Row _ _ _ _; rw [hE0]; exact h.row
  have HL0 : Hid (E0.length = 245) := by show _ = _; rw [hE0]; exact Du.len h.wf
  have G0 : Hid (Gro (· = p) w w) := Gro.refl _ _
  have HB0 : Hid (Try.prog.built tC [] = some zC.cells.toArray) := built_c0
  obtain ⟨Z, hZ⟩ : ∃ Z, Z = zC.cells := ⟨_, rfl⟩
  have HZ : Hid (Z.length = 66) := by show _ = _; rw [hZ]; exact Cm.len zC_wf
  have HZI : Hid ((Try.prog.info? tC).map (·.size) = some Z.length) := by show _ = _; rw [hZ]; exact Cm.info zC_wf
  have HZO : Hid (Z.toArray.all (·.oneCell') = true) := by show _ = _; rw [hZ]; exact all_one (Cm.one zC)
  rw [← hZ] at HB0
  have HD : Hid (∀ X E2, E2 = (E0.set 244 .nilFunc).set 41 (.int .i64 s) → Row X p ((E2.take 174 ++ Z ++ E2.drop (174 + Z.length)).set 240 (.int .i64 0)) tDl → Dm X p d') := fun X E2 e r => by
    have w1 : Du.Wf { d with lap := .nilFunc } := ⟨h.wf.c, h.wf.f, h.wf.l, h.wf.h, h.wf.m, rfl⟩
    have w2 : Du.Wf { d with lap := .nilFunc, st := s } := ⟨h.wf.c, h.wf.f, h.wf.l, h.wf.h, h.wf.m, rfl⟩
    have w3 : Du.Wf { d with lap := .nilFunc, st := s, mid := zC } := ⟨h.wf.c, h.wf.f, h.wf.l, h.wf.h, zC_wf, rfl⟩
    rw [e, hZ, hE0, Du.set_lap h.wf, Du.set_st w1, Du.put_mid w2 zC_wf, Du.set_unt w3] at r
    rw [hd']
    exact ⟨r, ⟨h.wf.c, h.wf.f, h.wf.l, h.wf.h, zC_wf, rfl⟩⟩
  clear hE0 h hd' hZ
  go_enter Try.func19, Try.ntmps19
  go_wp2_with (first
    | (refine wpList_st1 rfl 41 (.tmp 6) (.const .nilFunc) rfl p 244 .nilFunc E0 tDl rfl rfl rfl R0.out (by { rw [HL0.out]; decide }) info_fn rfl ?_; intro X1 q1 q2; obtain ⟨E1, hE⟩ : ∃ E, E = E0.set 244 .nilFunc := ⟨_, rfl⟩; rw [← hE] at q1; have R1 : Hid (Row X1 p E1 tDl) := q1; have HL1 : Hid (E1.length = 245) := by { show _ = _; rw [hE, List.length_set]; exact HL0.out }; have G1 : Hid (Gro (· = p) w X1) := G0.out.trans q2; have HE1 : Hid (E1 = E0.set 244 .nilFunc) := hE; skip; clear q1 q2 hE)
    | (refine wpList_st1 rfl 3 (.tmp 11) (.tmp 8) rfl p 41 (.int .i64 s) E1 tDl rfl rfl rfl R1.out (by { rw [HL1.out]; decide }) info_int rfl ?_; intro X2 q1 q2; obtain ⟨E2, hE⟩ : ∃ E, E = E1.set 41 (.int .i64 s) := ⟨_, rfl⟩; rw [← hE] at q1; have R2 : Hid (Row X2 p E2 tDl) := q1; have HL2 : Hid (E2.length = 245) := by { show _ = _; rw [hE, List.length_set]; exact HL1.out }; have G2 : Hid (Gro (· = p) w X2) := G1.out.trans q2; have HE2 : Hid (E2 = E1.set 41 (.int .i64 s)) := hE; skip; clear q1 q2 hE)
    | (refine wpList_blt rfl tC _ rfl [] rfl Z HB0.out ?_; simp only [Act.put, List.setIfInBounds_toArray, List.set_cons_zero, List.set_cons_succ])
    | (refine wpList_stM rfl tC (.tmp 16) (.tmp 13) rfl p 174 Z E2 tDl rfl rfl R2.out (by { rw [HL2.out, HZ.out]; decide }) HZI.out HZO.out ?_; intro X3 q1 q2; obtain ⟨E3, hE⟩ : ∃ E, E = E2.take 174 ++ Z ++ E2.drop (174 + Z.length) := ⟨_, rfl⟩; rw [← hE] at q1; have R3 : Hid (Row X3 p E3 tDl) := q1; have HL3 : Hid (E3.length = 245) := by { show _ = _; rw [hE, List.length_append, List.length_append, List.length_take, List.length_drop, HL2.out, HZ.out]; decide }; have G3 : Hid (Gro (· = p) w X3) := G2.out.trans q2; have HE3 : Hid (E3 = E2.take 174 ++ Z ++ E2.drop (174 + Z.length)) := hE; clear q1 q2 hE)
    | (refine wpList_st1 rfl 3 (.tmp 20) (.const (.int .i64 0)) rfl p 240 (.int .i64 0) E3 tDl rfl rfl rfl R3.out (by { rw [HL3.out]; decide }) info_int rfl ?_; intro X4 q1 q2; obtain ⟨E4, hE⟩ : ∃ E, E = E3.set 240 (.int .i64 0) := ⟨_, rfl⟩; rw [← hE] at q1; have R4 : Hid (Row X4 p E4 tDl) := q1; have HL4 : Hid (E4.length = 245) := by { show _ = _; rw [hE, List.length_set]; exact HL3.out }; have G4 : Hid (Gro (· = p) w X4) := G3.out.trans q2; have HE4 : Hid (E4 = E3.set 240 (.int .i64 0)) := hE; skip; clear q1 q2 hE))
  refine bodyPost_end (results_none rfl _ _ _) rfl ?_
  exact ⟨rfl, HD.out _ E2 (by rw [HE2.out, HE1.out]) (by rw [← HE3.out, ← HE4.out]; exact R4.out), G4.out⟩
set_option maxRecDepth 100000 in
set_option maxHeartbeats 4000000 in
theorem win_any {w : World} {p : Nat} {d : Du} (h : Dm w p d) (d' : Du) (hd : d' = d.ends 4) : Calls Try.prog 14 #[.pointer (some ⟨p, 0, none⟩)] w fun e w' => e = .returned (.tuple #[]) ∧ Dt w w' p d' := by
  have HE : Hid (Calls Try.prog 19 #[.pointer (some ⟨p, 0, none⟩), .int .i64 4] w fun e w' => e = .returned (.tuple #[]) ∧ Dt w w' p d') := by rw [hd]; exact end_any h 4
  clear h hd
  go_enter Try.func14, Try.ntmps14
  go_wp2_with (go_at_call 19; refine Calls.mono HE.out ?_; rintro e X ⟨rfl, q⟩; have HQ : Hid (Dt w X p d') := q; clear q)
  refine bodyPost_end (results_none rfl _ _ _) rfl ?_
  exact ⟨rfl, HQ.out⟩
set_option maxRecDepth 100000 in
set_option maxHeartbeats 4000000 in
theorem lose_any {w : World} {p : Nat} {d : Du} (h : Dm w p d) (d' : Du) (hd : d' = d.ends 5) : Calls Try.prog 17 #[.pointer (some ⟨p, 0, none⟩)] w fun e w' => e = .returned (.tuple #[]) ∧ Dt w w' p d' := by
  have HE : Hid (Calls Try.prog 19 #[.pointer (some ⟨p, 0, none⟩), .int .i64 5] w fun e w' => e = .returned (.tuple #[]) ∧ Dt w w' p d') := by rw [hd]; exact end_any h 5
  clear h hd
  go_enter Try.func17, Try.ntmps17
  go_wp2_with (go_at_call 19; refine Calls.mono HE.out ?_; rintro e X ⟨rfl, q⟩; have HQ : Hid (Dt w X p d') := q; clear q)
  refine bodyPost_end (results_none rfl _ _ _) rfl ?_
  exact ⟨rfl, HQ.out⟩
def isCountB (n : Int) : Bool := decide (0 ≤ n) && decide (n ≤ 1099511627776)
theorem isCount_x (n : Int) (w : World) : Calls Try.prog 10 #[.int .i64 n] w fun e w' => e = .returned (.bool (isCountB n)) ∧ w' = w := by
  obtain ⟨B, hB⟩ : ∃ B, B = isCountB n := ⟨_, rfl⟩
  rw [← hB]
  by_cases h1 : 0 ≤ n
  · by_cases h2 : n ≤ 1099511627776
    · have HB : Hid (B = true) := by show _ = _; rw [hB, isCountB, decide_eq_true h1, decide_eq_true h2]; rfl
      clear hB
      go_enter Try.func10, Try.ntmps10
      go_wp2
      go_ret
      exact ⟨by rw [HB.out]; rfl, rfl⟩
    · have HB : Hid (B = false) := by show _ = _; rw [hB, isCountB, decide_eq_false h2, Bool.and_false]
      clear hB
      go_enter Try.func10, Try.ntmps10
      go_wp2
      go_ret
      exact ⟨by rw [HB.out]; rfl, rfl⟩
  · have HB : Hid (B = false) := by show _ = _; rw [hB, isCountB, decide_eq_false h1, Bool.false_and]
    clear hB
    go_enter Try.func10, Try.ntmps10
    go_wp2
    go_ret
    exact ⟨by rw [HB.out]; rfl, rfl⟩
def isSpanB (n : Int) : Bool := decide (2 ≤ n) && decide (n ≤ 1024)
theorem isSpan_x (n : Int) (w : World) : Calls Try.prog 11 #[.int .i64 n] w fun e w' => e = .returned (.bool (isSpanB n)) ∧ w' = w := by
  obtain ⟨B, hB⟩ : ∃ B, B = isSpanB n := ⟨_, rfl⟩
  rw [← hB]
  by_cases h1 : 2 ≤ n
  · by_cases h2 : n ≤ 1024
    · have HB : Hid (B = true) := by show _ = _; rw [hB, isSpanB, decide_eq_true h1, decide_eq_true h2]; rfl
      clear hB
      go_enter Try.func11, Try.ntmps11
      go_wp2
      go_ret
      exact ⟨by rw [HB.out]; rfl, rfl⟩
    · have HB : Hid (B = false) := by show _ = _; rw [hB, isSpanB, decide_eq_false h2, Bool.and_false]
      clear hB
      go_enter Try.func11, Try.ntmps11
      go_wp2
      go_ret
      exact ⟨by rw [HB.out]; rfl, rfl⟩
  · have HB : Hid (B = false) := by show _ = _; rw [hB, isSpanB, decide_eq_false h1, Bool.false_and]
    clear hB
    go_enter Try.func11, Try.ntmps11
    go_wp2
    go_ret
    exact ⟨by rw [HB.out]; rfl, rfl⟩
def isTmB (n : Int) : Bool := decide (0 ≤ n) && decide (n ≤ 4611686018427387904)
theorem isTm_x (n : Int) (w : World) : Calls Try.prog 12 #[.int .i64 n] w fun e w' => e = .returned (.bool (isTmB n)) ∧ w' = w := by
  obtain ⟨B, hB⟩ : ∃ B, B = isTmB n := ⟨_, rfl⟩
  rw [← hB]
  by_cases h1 : 0 ≤ n
  · by_cases h2 : n ≤ 4611686018427387904
    · have HB : Hid (B = true) := by show _ = _; rw [hB, isTmB, decide_eq_true h1, decide_eq_true h2]; rfl
      clear hB
      go_enter Try.func12, Try.ntmps12
      go_wp2
      go_ret
      exact ⟨by rw [HB.out]; rfl, rfl⟩
    · have HB : Hid (B = false) := by show _ = _; rw [hB, isTmB, decide_eq_false h2, Bool.and_false]
      clear hB
      go_enter Try.func12, Try.ntmps12
      go_wp2
      go_ret
      exact ⟨by rw [HB.out]; rfl, rfl⟩
  · have HB : Hid (B = false) := by show _ = _; rw [hB, isTmB, decide_eq_false h1, Bool.false_and]
    clear hB
    go_enter Try.func12, Try.ntmps12
    go_wp2
    go_ret
    exact ⟨by rw [HB.out]; rfl, rfl⟩

end Go.Proofs.Ytddkmpbcjieolaa
