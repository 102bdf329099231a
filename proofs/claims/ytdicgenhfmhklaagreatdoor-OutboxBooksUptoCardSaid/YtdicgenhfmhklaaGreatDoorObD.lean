/-
  the outbox: a book's Leaf; the law's known.
-/
import Derived.Test.YtdicgenhfmhklaaGreatDoorObA
import Derived.Test.YtdicgenhfmhklaaGreatDoorLws

namespace Go.Proofs.YtdicgenhfmhklaaGreatDoor
open Go Go.RowKit
open Sha

/-- A reader, a leaf that is filled, the answer's place. -/
structure Rl (w0 w : World) (q P : Nat) (A : Option Addr) (cap : Nat) (bs : List (BitVec 8)) (a b : Nat) (L : List Value) : Prop where
  rg : Rg w P A cap bs a
  rl : Row w b L 40
  rq : Row w q zLf 40
  qb : q < b
  q0 : q = w0.heap.size
  be : Below w0.heap.size w0 w
section
variable {w0 w w' : World} {q P cap a a' b : Nat} {A : Option Addr} {bs : List (BitVec 8)} {L M : List Value}
theorem Rl.keep (h : Rl w0 w q P A cap bs a b L) (k : Below w.heap.size w w') : Rl w0 w' q P A cap bs a b L :=
  ⟨h.rg.be k, Row.below h.rl k h.rl.lt, Row.below h.rq k h.rq.lt, h.qb, h.q0, h.be.trans (k.mono h.be.size)⟩
theorem Rl.took (h : Rl w0 w q P A cap bs a b L) (p0 : w0.heap.size ≤ P) (r : Rg w' P A cap bs a') (k : Gp P w w') : Rl w0 w' q P A cap bs a' b L :=
  ⟨r, k.row h.rl (row_ne h.rl h.rg.row (by decide)), k.row h.rq (row_ne h.rq h.rg.row (by decide)), h.qb, h.q0, h.be.trans (k.to_below h.be.size (fun g e => by rw [e]; exact p0))⟩
theorem Rl.put (h : Rl w0 w q P A cap bs a b L) (r : Row w' b M 40) (k : Gro (· = b) w w') : Rl w0 w' q P A cap bs a b M :=
  ⟨⟨k.row h.rg.row (row_ne h.rg.row h.rl (by decide)), Bw.gro h.rg.bw k (Bw.ne h.rg.bw h.rl (by decide)), h.rg.le, h.rg.len⟩, r, k.row h.rq (Nat.ne_of_lt h.qb), h.qb, h.q0,
    h.be.trans (k.to_below h.be.size (fun g e => by rw [e]; have h1 := h.qb; have h2 := h.q0; omega))⟩
theorem rl_number (x : Int) (p0 : w0.heap.size ≤ P) (hE : nuE bs a = 0) (hV : ((nuW bs a : Nat) : Int) = x) (hN : a + 1 + at8 bs a = a') (h : Rl w0 w q P A cap bs a b L) : Calls Tryz.prog 57 #[.pointer (some ⟨P, 0, none⟩)] w fun e w' => e = .returned (.int .i64 x) ∧ Rl w0 w' q P A cap bs a' b L := by
  refine (face_number P A cap bs a w h.rg).mono ?_
  rintro e w' ⟨h1, _, h3⟩
  obtain ⟨rfl, hr⟩ := h1 hE
  rw [hN] at hr
  rw [hV]
  exact ⟨rfl, h.took p0 hr h3⟩
theorem rl_byte (p0 : w0.heap.size ≤ P) (hE : byE bs a = 0) (x : Int) (hV : ((at8 bs a : Nat) : Int) = x) (h : Rl w0 w q P A cap bs a b L) : Calls Tryz.prog 56 #[.pointer (some ⟨P, 0, none⟩)] w fun e w' => e = .returned (.int .u8 x) ∧ Rl w0 w' q P A cap bs (a + 1) b L := by
  refine (face_byte P A cap bs a w h.rg).mono ?_
  rintro e w' ⟨h1, _, h3⟩
  obtain ⟨rfl, hr⟩ := h1 hE
  rw [hV]
  exact ⟨rfl, h.took p0 hr h3⟩
theorem rl_address (x : List (BitVec 8)) (p0 : w0.heap.size ≤ P) (hE : dgE 20 bs a = 0) (hV : sub bs a 20 = x) (hN : a + 20 = a') (h : Rl w0 w q P A cap bs a b L) : Calls Tryz.prog 58 #[.pointer (some ⟨P, 0, none⟩)] w fun e w' => e = .returned (.agg (vB x).toArray) ∧ Rl w0 w' q P A cap bs a' b L := by
  refine (face_address P A cap bs a w h.rg).mono ?_
  rintro e w' ⟨h1, _, h3⟩
  obtain ⟨rfl, hr⟩ := h1 hE
  rw [hN] at hr
  rw [hV]
  exact ⟨rfl, h.took p0 hr h3⟩
theorem rl_wide (x : List Nat) (p0 : w0.heap.size ≤ P) (hE : hiF 32 bs a = 0) (hV : qd bs (a + 1 + at8 bs a) (at8 bs a) = vQ x) (hN : a + 1 + at8 bs a = a') (h : Rl w0 w q P A cap bs a b L) : Calls Tryz.prog 59 #[.pointer (some ⟨P, 0, none⟩)] w fun e w' => e = .returned (.agg (vQ x).toArray) ∧ Rl w0 w' q P A cap bs a' b L := by
  refine (face_wide P A cap bs a w h.rg).mono ?_
  rintro e w' ⟨h1, _, h3⟩
  obtain ⟨rfl, hr⟩ := h1 hE
  rw [hN] at hr
  rw [hV]
  exact ⟨rfl, h.took p0 hr h3⟩
theorem rl_end (hN : ¬ a < bs.length) (h : Rl w0 w q P A cap bs a b L) : Calls Tryz.prog 60 #[.pointer (some ⟨P, 0, none⟩)] w fun e w' => e = .returned (.int .i64 0) ∧ Rl w0 w' q P A cap bs a b L := by
  refine (end_rest P A cap bs a w h.rg).mono ?_
  rintro e w' ⟨rfl, m, rfl⟩
  rw [if_neg hN]
  exact ⟨rfl, h.keep ⟨rfl, rfl, rfl, Nat.le_refl _, fun _ _ => rfl⟩⟩
end
theorem lf_put_rc (ix en tk : Int) (r x : List (BitVec 8)) (am : List Nat) (hr : r.length = 20) (hx : x.length = 20) : (lf ix en tk r am).take 3 ++ vB x ++ (lf ix en tk r am).drop (3 + (vB x).length) = lf ix en tk x am := by
  rw [patch [.int .i64 ix, .int .i64 en, .int .i64 tk] (vB r) (vB x) (vQ am) _ 3 (by simp [lf]) rfl (by rw [vB_length, vB_length, hr, hx])]
  simp [lf]
theorem lf_put_am (ix en tk : Int) (r : List (BitVec 8)) (am x : List Nat) (hr : r.length = 20) (ha : am.length = 4) (hx : x.length = 4) : (lf ix en tk r am).take 23 ++ vQ x ++ (lf ix en tk r am).drop (23 + (vQ x).length) = lf ix en tk r x := by
  rw [patch (.int .i64 ix :: .int .i64 en :: .int .i64 tk :: vB r) (vQ am) (vQ x) [] _ 23 (by simp [lf]) (by simp [vB_length, hr]) (by rw [vQ_len, vQ_len, ha, hx])]
  simp [lf]
theorem vQ_all (am : List Nat) : (vQ am).toArray.all (·.oneCell') = true := all_oneCell_toArray (fun v hv => by obtain ⟨x, _, rfl⟩ := List.mem_map.1 hv; rfl)
theorem vB_all (x : List (BitVec 8)) : (vB x).toArray.all (·.oneCell') = true := all_oneCell_toArray (vB_one x)
theorem info_int1 : (Tryz.prog.info? 3).map (·.size) = some 1 := by kernel_rfl
set_option maxRecDepth 100000 in
set_option maxHeartbeats 4000000 in
theorem read_go (ix en tk : Int) (rc : List (BitVec 8)) (am : List Nat) (hrc : rc.length = 20) (ham : am.length = 4) (hm : may ix en tk am = true) (bs : List (BitVec 8)) (p2 p3 p4 p5 p6 : Nat)
    (e0 : byE bs 0 = 0) (v0 : ((at8 bs 0 : Nat) : Int) = 76) (e1 : nuE bs 1 = 0) (v1 : ((nuW bs 1 : Nat) : Int) = ix) (n1 : 1 + 1 + at8 bs 1 = p2) (e2 : nuE bs p2 = 0) (v2 : ((nuW bs p2 : Nat) : Int) = en) (n2 : p2 + 1 + at8 bs p2 = p3) (e3 : nuE bs p3 = 0) (v3 : ((nuW bs p3 : Nat) : Int) = tk) (n3 : p3 + 1 + at8 bs p3 = p4)
    (e4 : dgE 20 bs p4 = 0) (v4 : sub bs p4 20 = rc) (n4 : p4 + 20 = p5) (e5 : hiF 32 bs p5 = 0) (v5 : qd bs (p5 + 1 + at8 bs p5) (at8 bs p5) = vQ am) (n5 : p5 + 1 + at8 bs p5 = p6) (hend : ¬ p6 < bs.length)
    (B : Option Addr) (n cb : Nat) (hb : bs.length = n) (hl : n ≤ 4194304) (hnil : B = none → cb = 0) (w : World) (hv : SlAt w (.slice B n cb) bs) : Calls Tryz.prog 37 #[.slice B n cb] w fun e w' => e = .returned (.tuple #[.agg (lf ix en tk rc am).toArray, .int .i64 0]) ∧ Below w.heap.size w w' := by
  have HMB : Hid (∀ X, Calls Tryz.prog 30 #[.agg (lf ix en tk rc am).toArray] X fun e w' => e = .returned (.bool true) ∧ Below X.heap.size X w') := fun X => by have := mayBe_any ix en tk rc am hrc ham _ rfl X; rwa [hm] at this
  have HRC : Hid (rc.length = 20) := hrc
  have HAM : Hid (am.length = 4) := ham
  have HIA : Hid ((Tryz.prog.info? 35).map (·.size) = some (vB rc).length) := info_Ad rc hrc
  have HIW : Hid ((Tryz.prog.info? 38).map (·.size) = some (vQ am).length) := info_Wd am ham
  have K0e : Hid (byE bs 0 = 0) := e0
  have K0v : Hid (((at8 bs 0 : Nat) : Int) = 76) := v0
  have K1e : Hid (nuE bs 1 = 0) := e1
  have K1v : Hid (((nuW bs 1 : Nat) : Int) = ix) := v1
  have K1n : Hid (1 + 1 + at8 bs 1 = p2) := n1
  have K2e : Hid (nuE bs p2 = 0) := e2
  have K2v : Hid (((nuW bs p2 : Nat) : Int) = en) := v2
  have K2n : Hid (p2 + 1 + at8 bs p2 = p3) := n2
  have K3e : Hid (nuE bs p3 = 0) := e3
  have K3v : Hid (((nuW bs p3 : Nat) : Int) = tk) := v3
  have K3n : Hid (p3 + 1 + at8 bs p3 = p4) := n3
  have K4e : Hid (dgE 20 bs p4 = 0) := e4
  have K4v : Hid (sub bs p4 20 = rc) := v4
  have K4n : Hid (p4 + 20 = p5) := n4
  have K5e : Hid (hiF 32 bs p5 = 0) := e5
  have K5v : Hid (qd bs (p5 + 1 + at8 bs p5) (at8 bs p5) = vQ am) := v5
  have K5n : Hid (p5 + 1 + at8 bs p5 = p6) := n5
  have KE : Hid (¬ p6 < bs.length) := hend
  have HBL : Hid (bs.length = n ∧ n ≤ 4194304 ∧ (B = none → cb = 0)) := ⟨hb, hl, hnil⟩
  have HV : Hid (SlAt w (.slice B n cb) bs) := hv
  clear e0 v0 e1 v1 n1 e2 v2 n2 e3 v3 n3 e4 v4 n4 e5 v5 n5 hend hb hl hnil hv hrc ham hm
  go_enter Tryz.func37, Tryz.ntmps37
  go_upto_region 1 with (refine wpList_allocLf rfl rfl ?_; intro X0 q1 q2 q3; have RQ : Hid (Row X0 w.heap.size zLf 40) := q1; have B0 : Hid (Below w.heap.size w X0) := q2; clear q1 q2 q3; simp only [Act.put, List.setIfInBounds_toArray, List.set_cons_zero, List.set_cons_succ])
  have HNR : Hid _ := newReader_g B n cb bs HBL.out.1 HBL.out.2.1 HBL.out.2.2 X0 (SlAt.be HV.out B0.out)
  go_upto_region 2 with (go_at_call 55; refine Calls.mono HNR.out ?_; rintro e X1 ⟨P, A, cap, rfl, q1, q2, q3, q4⟩; have G1 : Hid (Rg X1 P A cap bs 0) := q1; have HP : Hid (X0.heap.size ≤ P) := q2; have B1 : Hid (Below X0.heap.size X0 X1) := q4; clear q1 q2 q3 q4)
  have HFB : Hid (Calls Tryz.prog 56 #[.pointer (some ⟨P, 0, none⟩)] X1 fun e w' => e = .returned (.int .u8 76) ∧ Rg w' P A cap bs 1 ∧ Gp P X1 w') := by
    refine (face_byte P A cap bs 0 X1 G1.out).mono ?_
    rintro e w' ⟨h1, _, h3⟩
    obtain ⟨rfl, hr⟩ := h1 K0e.out
    rw [K0v.out]
    exact ⟨rfl, hr, h3⟩
  go_upto_region 3 with (go_at_call 56; refine Calls.mono HFB.out ?_; rintro e X2 ⟨rfl, q1, q2⟩; have G2 : Hid (Rg X2 P A cap bs 1) := q1; have P2 : Hid (Gp P X1 X2) := q2; clear q1 q2)
  go_upto_region 4 with (refine wpList_allocLf rfl rfl ?_; intro X3 q1 q2 q3; have RB : Hid (Row X3 X2.heap.size zLf 40) := q1; have B3 : Hid (Below X2.heap.size X2 X3) := q2; clear q1 q2 q3; simp only [Act.put, List.setIfInBounds_toArray, List.set_cons_zero, List.set_cons_succ])
  have hRQ2 : Row X2 w.heap.size zLf 40 := P2.out.row (Row.below RQ.out B1.out RQ.out.lt) (row_ne (Row.below RQ.out B1.out RQ.out.lt) G1.out.row (by decide))
  have S1' : Rl w X3 w.heap.size P A cap bs 1 X2.heap.size zLf := ⟨G2.out.be B3.out, RB.out, Row.below hRQ2 B3.out hRQ2.lt, hRQ2.lt, rfl, (B0.out.trans ((B1.out.mono B0.out.size).trans (P2.out.to_below (Nat.le_trans B0.out.size B1.out.size) (fun g e => by rw [e]; exact Nat.le_trans B0.out.size HP.out)))).trans (B3.out.mono (Nat.le_of_lt hRQ2.lt))⟩
  have HP0 : Hid (w.heap.size ≤ P) := Nat.le_trans B0.out.size HP.out
  obtain ⟨q, hq⟩ : ∃ q, q = w.heap.size := ⟨_, rfl⟩
  obtain ⟨b, hb⟩ : ∃ b, b = X2.heap.size := ⟨_, rfl⟩
  rw [← hb] at S1' ⊢
  rw [← hq] at S1' ⊢
  have S1 : Hid (Rl w X3 q P A cap bs 1 b (lf 0 0 0 (List.replicate 20 0#8) (List.replicate 4 0))) := S1'
  have HQ0 : Hid (q = w.heap.size) := hq
  clear hq hb S1' hRQ2 RB B3 P2 G2 HFB B1 HP G1 HNR RQ B0
  go_upto_region 5 with (first
    | (go_at_call 57; refine Calls.mono (rl_number ix HP0.out K1e.out K1v.out K1n.out S1.out) ?_; rintro e Y1 ⟨rfl, h⟩; have T1 : Hid (Rl w Y1 q P A cap bs p2 b (lf 0 0 0 (List.replicate 20 0#8) (List.replicate 4 0))) := h; clear h)
    | (refine wpList_set1 rfl 3 (.tmp 13) (.tmp 12) rfl b 0 (.int .i64 ix) (lf 0 0 0 (List.replicate 20 0#8) (List.replicate 4 0)) 40 rfl rfl rfl T1.out.rl (by rw [lf_len (List.length_replicate ..) (List.length_replicate ..)]; decide) info_int1 rfl ?_; intro Z q1 q2 q3; have S2 : Hid (Rl w Z q P A cap bs p2 b (lf ix 0 0 (List.replicate 20 0#8) (List.replicate 4 0))) := T1.out.put (M := lf ix 0 0 (List.replicate 20 0#8) (List.replicate 4 0)) q1 q2; clear q1 q2 q3; simp only [Act.put]))
  clear S1 T1
  go_upto_region 6 with (first
    | (go_at_call 57; refine Calls.mono (rl_number en HP0.out K2e.out K2v.out K2n.out S2.out) ?_; rintro e Y2 ⟨rfl, h⟩; have T2 : Hid (Rl w Y2 q P A cap bs p3 b (lf ix 0 0 (List.replicate 20 0#8) (List.replicate 4 0))) := h; clear h)
    | (refine wpList_set1 rfl 3 (.tmp 16) (.tmp 15) rfl b 1 (.int .i64 en) (lf ix 0 0 (List.replicate 20 0#8) (List.replicate 4 0)) 40 rfl rfl rfl T2.out.rl (by rw [lf_len (List.length_replicate ..) (List.length_replicate ..)]; decide) info_int1 rfl ?_; intro Z q1 q2 q3; have S3 : Hid (Rl w Z q P A cap bs p3 b (lf ix en 0 (List.replicate 20 0#8) (List.replicate 4 0))) := T2.out.put (M := lf ix en 0 (List.replicate 20 0#8) (List.replicate 4 0)) q1 q2; clear q1 q2 q3; simp only [Act.put]))
  clear S2 T2
  go_upto_region 7 with (first
    | (go_at_call 57; refine Calls.mono (rl_number tk HP0.out K3e.out K3v.out K3n.out S3.out) ?_; rintro e Y3 ⟨rfl, h⟩; have T3 : Hid (Rl w Y3 q P A cap bs p4 b (lf ix en 0 (List.replicate 20 0#8) (List.replicate 4 0))) := h; clear h)
    | (refine wpList_set1 rfl 3 (.tmp 19) (.tmp 18) rfl b 2 (.int .i64 tk) (lf ix en 0 (List.replicate 20 0#8) (List.replicate 4 0)) 40 rfl rfl rfl T3.out.rl (by rw [lf_len (List.length_replicate ..) (List.length_replicate ..)]; decide) info_int1 rfl ?_; intro Z q1 q2 q3; have S4 : Hid (Rl w Z q P A cap bs p4 b (lf ix en tk (List.replicate 20 0#8) (List.replicate 4 0))) := T3.out.put (M := lf ix en tk (List.replicate 20 0#8) (List.replicate 4 0)) q1 q2; clear q1 q2 q3; simp only [Act.put]))
  clear S3 T3
  go_upto_region 8 with (first
    | (go_at_call 58; refine Calls.mono (rl_address rc HP0.out K4e.out K4v.out K4n.out S4.out) ?_; rintro e Y4 ⟨rfl, h⟩; have T4 : Hid (Rl w Y4 q P A cap bs p5 b (lf ix en tk (List.replicate 20 0#8) (List.replicate 4 0))) := h; clear h)
    | (refine wpList_storeM rfl 35 (.tmp 22) (.tmp 21) rfl b 3 (vB rc) (lf ix en tk (List.replicate 20 0#8) (List.replicate 4 0)) 40 rfl rfl T4.out.rl (by rw [lf_len (List.length_replicate ..) (List.length_replicate ..), vB_length, HRC.out]; decide) HIA.out (vB_all rc) ?_; intro Z q1 q2; rw [lf_put_rc _ _ _ _ _ _ (List.length_replicate ..) HRC.out] at q1; have S5 : Hid (Rl w Z q P A cap bs p5 b (lf ix en tk rc (List.replicate 4 0))) := T4.out.put q1 q2; clear q1 q2; simp only [Act.put]))
  clear S4 T4
  go_upto_region 9 with (first
    | (go_at_call 59; refine Calls.mono (rl_wide am HP0.out K5e.out K5v.out K5n.out S5.out) ?_; rintro e Y5 ⟨rfl, h⟩; have T5 : Hid (Rl w Y5 q P A cap bs p6 b (lf ix en tk rc (List.replicate 4 0))) := h; clear h)
    | (refine wpList_storeM rfl 38 (.tmp 25) (.tmp 24) rfl b 23 (vQ am) (lf ix en tk rc (List.replicate 4 0)) 40 rfl rfl T5.out.rl (by rw [lf_len HRC.out (List.length_replicate ..), vQ_len, HAM.out]; decide) HIW.out (vQ_all am) ?_; intro Z q1 q2; rw [lf_put_am _ _ _ _ _ _ HRC.out (List.length_replicate ..) HAM.out] at q1; have S6 : Hid (Rl w Z q P A cap bs p6 b (lf ix en tk rc am)) := T5.out.put q1 q2; clear q1 q2; simp only [Act.put]))
  clear S5 T5
  obtain ⟨L, hL⟩ : ∃ L, L = lf ix en tk rc am := ⟨_, rfl⟩
  have HL : Hid (L = lf ix en tk rc am) := hL
  rw [← hL] at S6 HMB
  have HI : Hid ((Tryz.prog.info? 40).map (·.size) = some L.length) := by rw [hL]; exact info_lf HRC.out HAM.out
  have HLL : Hid (L.length = zLf.length) := by show _ = _; rw [hL, lf_len HRC.out HAM.out]; rfl
  have HO : Hid (L.toArray.all (·.oneCell') = true) := by rw [hL]; exact lf_all
  clear hL HIA HIW HRC HAM
  go_upto_region 11 with (first
    | (go_at_call 60; refine Calls.mono (rl_end KE.out S6.out) ?_; rintro e Y6 ⟨rfl, h⟩; have T6 : Hid (Rl w Y6 q P A cap bs p6 b L) := h; clear h)
    | (refine wpList_load_w rfl 40 (.tmp 6) rfl b 0 rfl L _ T6.out.rl.all Tryz.underlying40 rfl HI.out ?_; simp only [Act.put, List.setIfInBounds_toArray, List.set_cons_zero, List.set_cons_succ])
    | (go_at_call 30; refine Calls.mono (HMB.out Y6) ?_; rintro e Y7 ⟨rfl, h⟩; have T7 : Hid (Rl w Y7 q P A cap bs p6 b L) := T6.out.keep h; clear h))
  go_wp2_with (first
    | (refine wpList_load_w rfl 40 (.tmp 6) rfl b 0 rfl L _ T7.out.rl.all Tryz.underlying40 rfl HI.out ?_; simp only [Act.put, List.setIfInBounds_toArray, List.set_cons_zero, List.set_cons_succ])
    | (refine wpList_storeL rfl 40 (.tmp 2) (.tmp 39) rfl q L zLf 40 rfl rfl T7.out.rq HLL.out HI.out HO.out ?_; intro X9 q1 q2; have E9 : Hid (X9 = _) := q1; have R9 : Hid (Row X9 q L 40) := q2; clear q1 q2; simp only [Act.put]))
  have hE : Below w.heap.size w X9 := by rw [E9.out]; exact below_setCells T7.out.be (by rw [HQ0.out]; exact Nat.le_refl _) _
  refine bodyPost_ret (results_rowS_tmp Tryz.results37 _ _ q 40 L (.int .i64 0) rfl rfl R9.out Tryz.underlying40 HI.out) rfl ?_
  rw [← HL.out]
  exact ⟨rfl, hE⟩
theorem byE_at {bs : List (BitVec 8)} {x : BitVec 8} {r : List (BitVec 8)} (h : bs = x :: r) : byE bs 0 = 0 ∧ at8 bs 0 = x.toNat := by
  subst h
  exact ⟨by unfold byE; rw [if_neg (by simp)], rfl⟩
/-- What is read of a leaf's bytes. -/
theorem read_leaf (ix en tk : Int) (rc : List (BitVec 8)) (am : List Nat) (hrc : rc.length = 20) (ham : am.length = 4) (hq4 : ∀ x ∈ am, x < 18446744073709551616) (hm : may ix en tk am = true) (bs : List (BitVec 8)) (hbs : bs = lfb ix en tk rc am)
    (B : Option Addr) (n cb : Nat) (hb : bs.length = n) (hnil : B = none → cb = 0) (w : World) (hv : SlAt w (.slice B n cb) bs) : Calls Tryz.prog 37 #[.slice B n cb] w fun e w' => e = .returned (.tuple #[.agg (lf ix en tk rc am).toArray, .int .i64 0]) ∧ Below w.heap.size w w' := by
  obtain ⟨i0, i1, n0, n1, t0, t1⟩ := may_in hm
  obtain ⟨y1, y2⟩ := byE_at (bs := bs) (x := 76#8) (r := nf ix ++ nf en ++ nf tk ++ rc ++ wf am) (by rw [hbs]; rfl)
  obtain ⟨a1, a2, a3⟩ := at_num [76#8] (nf en ++ nf tk ++ rc ++ wf am) bs ix 1 i0 (by omega) (by rw [hbs]; simp [lfb]) rfl
  obtain ⟨b1, b2, b3⟩ := at_num ([76#8] ++ nf ix) (nf tk ++ rc ++ wf am) bs en (1 + (nf ix).length) n0 (by omega) (by rw [hbs]; simp [lfb]) (by simp; omega)
  obtain ⟨c1, c2, c3⟩ := at_num ([76#8] ++ nf ix ++ nf en) (rc ++ wf am) bs tk (1 + (nf ix).length + (nf en).length) t0 (by omega) (by rw [hbs]; simp [lfb]) (by simp; omega)
  obtain ⟨d1, d2⟩ := at_adr ([76#8] ++ nf ix ++ nf en ++ nf tk) (wf am) rc bs (1 + (nf ix).length + (nf en).length + (nf tk).length) (by rw [hbs]; simp [lfb]) (by simp; omega) hrc
  obtain ⟨f1, f2, f3⟩ := at_wide ([76#8] ++ nf ix ++ nf en ++ nf tk ++ rc) [] bs am (1 + (nf ix).length + (nf en).length + (nf tk).length + 20) ham hq4 (by rw [hbs]; simp [lfb]) (by simp [hrc]; omega)
  have hl := lfb_len ix en tk rc am hrc
  refine read_go ix en tk rc am hrc ham hm bs _ _ _ _ _ y1 (by rw [y2]; rfl) a1 a2 a3 b1 b2 b3 c1 c2 c3 d1 d2 rfl f1 f2 f3 ?_ B n cb hb (by rw [← hb, hbs]; omega) hnil w hv
  rw [hbs]
  simp [lfb, hrc]
  omega

end Go.Proofs.YtdicgenhfmhklaaGreatDoor

namespace Go.Proofs.YtdicgenhfmhklaaGreatDoor
open Go Go.RowKit
open Sha

theorem bl_ne {w : World} {u v : Value} {d : List (BitVec 8)} {e : TypeId} {s n : Nat} {xs : List Value} (h : Bw w u d) (k : Lw w e s v n xs) (he : e ≠ 5) : ∀ g, u.ownBlock = some g → some g ≠ v.ownBlock := fun g e1 e2 => by
  rcases h.2 with ⟨h1, _⟩ | ⟨g', cap, cur, hv, _, hh, _⟩
  · rw [h1] at e1; cases e1
  · rw [hv] at e1
    obtain rfl : g' = g := by simpa [Value.ownBlock] using e1
    rcases k.2 with ⟨k1, _⟩ | ⟨g2, cap2, cur2, kv, _, kh, _⟩
    · rw [k1] at e2; cases e2
    · rw [kv] at e2
      obtain rfl : g' = g2 := by simpa [Value.ownBlock] using e2
      have := hh.symm.trans kh
      simp only [Option.some.injEq, Obj.cells.injEq] at this
      exact he this.2.1.symm
/-- A book that was made behind w0: its leaves' bytes. -/
structure Bk (w0 w : World) (B : Nat) (v : Value) (ts : List (List (BitVec 8))) : Prop where
  row : Row w B [v] 52
  own : ∃ cs, Lw w 54 1 v ts.length cs ∧ ∀ (i : Nat) (d : List (BitVec 8)), ts[i]? = some d → ∃ u, cs[i]? = some u ∧ Bw w u d
  b0 : w0.heap.size ≤ B
  v0 : ∀ g, v.ownBlock = some g → w0.heap.size ≤ g
  be : Below w0.heap.size w0 w
theorem Bk.keep {w0 w w' : World} {B : Nat} {v : Value} {ts : List (List (BitVec 8))} (h : Bk w0 w B v ts) (k : Below w.heap.size w w') : Bk w0 w' B v ts := by
  obtain ⟨cs, h1, h2⟩ := h.own
  exact ⟨Row.below h.row k h.row.lt, ⟨cs, Lw.be h1 k, fun i d hd => by obtain ⟨u, q1, q2⟩ := h2 i d hd; exact ⟨u, q1, Bw.be q2 k⟩⟩, h.b0, h.v0, h.be.trans (k.mono h.be.size)⟩
theorem Bk.form {w0 w : World} {B : Nat} {v : Value} {ts : List (List (BitVec 8))} (h : Bk w0 w B v ts) : ∃ A cap, v = .slice A ts.length cap := by
  obtain ⟨cs, h1, _⟩ := h.own
  obtain ⟨A, cap, e, _⟩ := Lw.form h1
  exact ⟨A, cap, e⟩
set_option maxRecDepth 100000 in
set_option maxHeartbeats 4000000 in
theorem new_any (w : World) : Calls Tryz.prog 4 #[] w fun e w' => e = .returned (.pointer (some ⟨w.heap.size, 0, none⟩)) ∧ Bk w w' w.heap.size (.slice none 0 0) [] := by
  go_enter Tryz.func4, Tryz.ntmps4
  go_wp2_with (refine wpList_boxG 52 rfl (.tmp 1) rfl [.slice none 0 0] rfl ?_; intro X q1 q2 q3; have R1 : Hid (Row X w.heap.size [.slice none 0 0] 52) := q1; have B1 : Hid (Below w.heap.size w X) := q2; clear q1 q2 q3; simp only [Act.put, List.setIfInBounds_toArray, List.set_cons_zero, List.set_cons_succ])
  go_ret
  exact ⟨rfl, R1.out, ⟨[], Lw.nil _ _ _, fun i d h => by simp at h⟩, Nat.le_refl _, (fun g e => by cases e), B1.out⟩
set_option maxRecDepth 100000 in
set_option maxHeartbeats 4000000 in
theorem len_any (A : Option Addr) (n cap : Nat) (w : World) : Calls Tryz.prog 9 #[.slice A n cap] w fun e w' => e = .returned (.int .i64 (n : Int)) ∧ w' = w := by
  go_enter Tryz.func9, Tryz.ntmps9
  go_wp2
  go_ret
  exact ⟨rfl, rfl⟩
theorem info_sl : ∃ ie z, Tryz.prog.info? 54 = some ie ∧ ie.zero = some z ∧ ie.size = 1 ∧ ie.bytes = 24 ∧ z.cells.size = 1 := by
  have i1 : (Tryz.prog.info? 54).map (fun i => (i.zero, i.size, i.bytes)) = some (some (.slice none 0 0), 1, 24) := by kernel_rfl
  cases hi : Tryz.prog.info? 54 with
  | none => rw [hi] at i1; cases i1
  | some ie =>
    rw [hi] at i1
    simp only [Option.map_some, Option.some.injEq, Prod.mk.injEq] at i1
    exact ⟨ie, _, rfl, i1.1, i1.2.1, i1.2.2, rfl⟩
theorem info_sl4 : ∃ ie z, Tryz.prog.info? 54 = some ie ∧ ie.zero = some z ∧ ie.size = 1 ∧ z.cells.size = 1 := by
  obtain ⟨ie, z, h1, h2, h3, _, h4⟩ := info_sl
  exact ⟨ie, z, h1, h2, h3, h4⟩
theorem info_tx : (Tryz.prog.info? 50).map (·.size) = some 1 := by kernel_rfl
set_option maxRecDepth 100000 in
set_option maxHeartbeats 4000000 in
theorem put_in (w0 : World) (B : Nat) (v : Value) (ts : List (List (BitVec 8))) (hts : ts.length ≤ 1000000) (en tk : Int) (rc : List (BitVec 8)) (am : List Nat) (hrc : rc.length = 20) (ham : am.length = 4) (hq4 : ∀ x ∈ am, x < 18446744073709551616) (hm : may (ts.length : Int) en tk am = true) (L : List Value) (hL : L = lf (ts.length : Int) en tk rc am) (w : World) (hb : Bk w0 w B v ts) :
    Calls Tryz.prog 12 #[.pointer (some ⟨B, 0, none⟩), .agg L.toArray] w fun e w' => e = .returned (.int .i64 0) ∧ ∃ v', Bk w0 w' B v' (ts ++ [lfb (ts.length : Int) en tk rc am]) ∧ Gro (fun g => g = B ∨ v.ownBlock = some g) w w' ∧ (v'.ownBlock = v.ownBlock ∨ ∃ g, v'.ownBlock = some g ∧ w.heap.size ≤ g) := by
  obtain ⟨A, cap, hv⟩ := hb.form
  subst hv
  obtain ⟨N, hN⟩ : ∃ N, N = ts.length := ⟨_, rfl⟩
  obtain ⟨d, hd⟩ : ∃ d, d = lfb (ts.length : Int) en tk rc am := ⟨_, rfl⟩
  have HBY : Hid (∀ X, Calls Tryz.prog 11 #[.agg L.toArray] X fun e w' => ∃ A n cap, e = .returned (.tuple #[.slice A n cap, .int .i64 0]) ∧ Bw w' (.slice A n cap) d ∧ Below X.heap.size X w') := fun X => by
    refine (bytes_ok _ en tk rc am hrc ham hq4 hm L hL X).mono ?_
    rintro e w' ⟨A, n, cap, _, q1, q2, _, q3⟩
    exact ⟨A, n, cap, q1, by rw [hd]; exact q2, q3⟩
  have HI : Hid ((Tryz.prog.info? 40).map (·.size) = some L.length) := by rw [hL]; exact info_lf hrc ham
  have cL : L[0]? = some (.int .i64 (N : Int)) := by rw [hL, hN]; rfl
  have HCL : Hid (L[0]? = some (.int .i64 (N : Int))) := cL
  have HBK : Hid (Bk w0 w B (.slice A N cap) ts) := by rw [hN]; exact hb
  have HN : Hid (N = ts.length) := hN
  have HNM : Hid (N ≤ 1000000) := by rw [hN]; exact hts
  rw [← hd, ← hN]
  clear hL hm hq4 hrc ham hb cL hN hd hts
  go_enter Tryz.func12, Tryz.ntmps12
  go_upto_region 4 with (first
    | (refine wpList_boxG 40 rfl (.tmp 1) rfl L rfl ?_; intro X1 q1 q2 q3; have R1 : Hid (Row X1 w.heap.size L 40) := q1; have B1 : Hid (Below w.heap.size w X1) := q2; clear q1 q2 q3; simp only [Act.put, List.setIfInBounds_toArray, List.set_cons_zero, List.set_cons_succ])
    | (refine wpList_load_w rfl 40 (.tmp 3) rfl w.heap.size 0 rfl L _ R1.out.all Tryz.underlying40 rfl HI.out ?_; simp only [Act.put, List.setIfInBounds_toArray, List.set_cons_zero, List.set_cons_succ])
    | (go_at_call 11; refine Calls.mono (HBY.out X1) ?_; rintro e X2 ⟨A2, n2, c2, rfl, q1, q2⟩; have W2 : Hid (Bw X2 (.slice A2 n2 c2) d) := q1; have B2 : Hid (Below w.heap.size w X2) := B1.out.trans (q2.mono B1.out.size); have R2 : Hid (Row X2 w.heap.size L 40) := Row.below R1.out q2 R1.out.lt; clear q1 q2))
  have K2 : Hid (Bk w0 X2 B (.slice A N cap) ts) := HBK.out.keep B2.out
  have c0 := R2.out.cell 0 _ HCL.out
  have cB := K2.out.row.cell 0 _ rfl
  have HLN : Hid (∀ X, Calls Tryz.prog 9 #[.slice A N cap] X fun e w' => e = .returned (.int .i64 (N : Int)) ∧ w' = X) := fun X => len_any A N cap X
  have HNN : Hid (N < 1099511627776) := by have := HNM.out; show _ < _; omega
  go_wp2_with fail
  go_quiet (first | (go_at_call 9; exact (HLN.out (X2.drewN _)).mono (fun _ _ h => ⟨h.1, _, h.2⟩)))
  generalize hX3 : X2.drewN _ = X3
  have D3 : Below X2.heap.size X2 X3 := by rw [← hX3]; exact ⟨rfl, rfl, rfl, Nat.le_refl _, fun _ _ => rfl⟩
  have W3 : Hid (Bw X3 (.slice A2 n2 c2) d) := Bw.be W2.out D3
  have B3 : Hid (Below w.heap.size w X3) := B2.out.trans (D3.mono B2.out.size)
  have K3 : Hid (Bk w0 X3 B (.slice A N cap) ts) := K2.out.keep D3
  have cB3 := K3.out.row.cell 0 _ rfl
  clear hX3 D3 W2 B2 K2 c0 cB R2 HLN
  obtain ⟨cs, HLW', hcs'⟩ := K3.out.own
  have HLW : Hid (Lw X3 54 1 (.slice A N cap) N cs) := by have := HLW'; rwa [← HN.out] at this
  have HCS : Hid (∀ (i : Nat) (d : List (BitVec 8)), ts[i]? = some d → ∃ u, cs[i]? = some u ∧ Bw X3 u d) := hcs'
  clear HLW' hcs'
  go_wp2_with (first
    | (refine wpList_buildOne 50 54 Tryz.underlying50 info_sl4 rfl (.tmp 32) rfl (.slice A2 n2 c2) rfl rfl ?_; intro X4 q1 q2 q3; have R4 : Hid (Row X4 X3.heap.size [.slice A2 n2 c2] 54) := q1; have D4 : Hid (Below X3.heap.size X3 X4) := q2; clear q1 q2 q3; simp only [Act.put, List.setIfInBounds_toArray, List.set_cons_zero, List.set_cons_succ])
    | (refine wpList_appL 50 54 1 24 Tryz.underlying50 info_sl (by decide) (by decide) rfl (.tmp 31) (.tmp 33) rfl (.slice A N cap) N cs [.slice A2 n2 c2] rfl (Lw.be HLW.out D4.out) X3.heap.size rfl rfl R4.out.all (fun u hu => by obtain rfl := List.mem_singleton.1 hu; rfl) HNM.out ?_; intro v5 X5 q1 q2 q3; have L5 : Hid (Lw X5 54 1 v5 (N + 1) (cs ++ [.slice A2 n2 c2])) := q1; have G5 : Hid (X4.grownBy X5 (Value.slice A N cap).ownBlock) := q2; have O5 : Hid (v5.ownBlock = (Value.slice A N cap).ownBlock ∨ v5.ownBlock = some X4.heap.size) := q3; have RB5 : Hid (Row X5 B [.slice A N cap] 52) := row_gb (Row.below K3.out.row D4.out K3.out.row.lt) q2 (some_ne (Lw.ne HLW.out K3.out.row (by decide))); clear q1 q2 q3; obtain ⟨A5, c5, e5, _, _⟩ := Lw.form L5.out; subst e5; simp only [Act.put, List.setIfInBounds_toArray, List.set_cons_zero, List.set_cons_succ])
    | (refine wpList_set1 rfl 50 (.tmp 36) (.tmp 34) rfl B 0 (.slice A5 (N + 1) c5) [.slice A N cap] 52 rfl rfl rfl RB5.out (Nat.succ_pos _) info_tx rfl ?_; intro X6 q1 q2 q3; have R6 : Hid (Row X6 B [.slice A5 (N + 1) c5] 52) := q1; have G6 : Hid (Gro (· = B) X5 X6) := q2; clear q1 q2 q3; simp only [Act.put]))
  go_ret
  have hG5 : Gro (fun g => g = B ∨ (Value.slice A N cap).ownBlock = some g) w X5 := Gro.grown (Gro.of_below (B3.out.trans (D4.out.mono B3.out.size))) G5.out (fun g e => .inl (.inr e))
  have hG6 : Gro (fun g => g = B ∨ (Value.slice A N cap).ownBlock = some g) w X6 := Gro.trans hG5 (Gro.mono G6.out (fun g e => .inl e))
  refine ⟨rfl, .slice A5 (N + 1) c5, ⟨R6.out, ⟨cs ++ [.slice A2 n2 c2], ?_, ?_⟩, HBK.out.b0, ?_, ?_⟩, hG6, ?_⟩
  · rw [List.length_append, List.length_singleton, ← HN.out]
    exact Lw.gro L5.out G6.out (Lw.ne L5.out RB5.out (by decide))
  · have put : ∀ u d, Bw X3 u d → Bw X6 u d := fun u d hu => by
      have h4 := Bw.be hu D4.out
      have h5 : Bw X5 u d := Bw.block h4 (fun g e => G5.out.block g (Bw.lt h4 g e) (bl_ne h4 (Lw.be HLW.out D4.out) (by decide) g e))
      exact Bw.gro h5 G6.out (Bw.ne h5 RB5.out (by decide))
    intro i d' hd'
    by_cases hi : i < ts.length
    · rw [List.getElem?_append_left hi] at hd'
      obtain ⟨u, q1, q2⟩ := HCS.out i d' hd'
      refine ⟨u, ?_, put u d' q2⟩
      rw [List.getElem?_append_left ((List.getElem?_eq_some_iff.1 q1).1)]
      exact q1
    · have hcl : cs.length = ts.length := by have := Lw.len HLW.out; rw [HN.out] at this; omega
      have hi2 : i = ts.length := by
        have := (List.getElem?_eq_some_iff.1 hd').1
        rw [List.length_append, List.length_singleton] at this
        omega
      subst hi2
      rw [List.getElem?_append_right (Nat.le_refl _), Nat.sub_self] at hd'
      obtain rfl : d = d' := by simpa using hd'
      refine ⟨.slice A2 n2 c2, ?_, put _ _ W3.out⟩
      rw [List.getElem?_append_right (by omega), hcl, Nat.sub_self]
      rfl
  · intro g e
    rcases O5.out with h | h
    · exact HBK.out.v0 g (by rw [← h]; exact e)
    · rw [h] at e; cases e; exact Nat.le_trans (Nat.le_trans HBK.out.be.size B3.out.size) D4.out.size
  · exact HBK.out.be.trans (hG6.to_below HBK.out.be.size (fun g q => by
      rcases q with q | q
      · rw [q]; exact HBK.out.b0
      · exact HBK.out.v0 g q))
  · rcases O5.out with h | h
    · exact .inl h
    · exact .inr ⟨_, h, Nat.le_trans B3.out.size D4.out.size⟩
theorem put_ok (w0 : World) (B : Nat) (v : Value) (ts : List (List (BitVec 8))) (hts : ts.length ≤ 1000000) (en tk : Int) (rc : List (BitVec 8)) (am : List Nat) (hrc : rc.length = 20) (ham : am.length = 4) (hq4 : ∀ x ∈ am, x < 18446744073709551616) (hm : may (ts.length : Int) en tk am = true) (L : List Value) (hL : L = lf (ts.length : Int) en tk rc am) (w : World) (hb : Bk w0 w B v ts) :
    Calls Tryz.prog 12 #[.pointer (some ⟨B, 0, none⟩), .agg L.toArray] w fun e w' => e = .returned (.int .i64 0) ∧ ∃ v', Bk w0 w' B v' (ts ++ [lfb (ts.length : Int) en tk rc am]) ∧ Gro (fun g => g = B ∨ v.ownBlock = some g) w w' :=
  (put_in w0 B v ts hts en tk rc am hrc ham hq4 hm L hL w hb).mono fun _ _ ⟨q1, v', q2, q3, _⟩ => ⟨q1, v', q2, q3⟩

end Go.Proofs.YtdicgenhfmhklaaGreatDoor

namespace Go.Proofs.YtdicgenhfmhklaaGreatDoor
open Go Go.RowKit
open Sha

set_option maxRecDepth 100000 in
set_option maxHeartbeats 4000000 in
theorem leaf_ok (w0 : World) (B : Nat) (v : Value) (ts : List (List (BitVec 8))) (hts : ts.length ≤ 1000000) (i : Nat) (ix en tk : Int) (rc : List (BitVec 8)) (am : List Nat) (hrc : rc.length = 20) (ham : am.length = 4) (hq4 : ∀ x ∈ am, x < 18446744073709551616) (hm : may ix en tk am = true) (hi : ts[i]? = some (lfb ix en tk rc am)) (w : World) (hb : Bk w0 w B v ts) :
    Calls Tryz.prog 13 #[.pointer (some ⟨B, 0, none⟩), .int .i64 (i : Int)] w fun e w' => e = .returned (.tuple #[.agg (lf ix en tk rc am).toArray, .int .i64 0]) ∧ Below w.heap.size w w' := by
  have hlt : i < ts.length := (List.getElem?_eq_some_iff.1 hi).1
  obtain ⟨cs, h1, h2⟩ := hb.own
  obtain ⟨u, hu, hbw⟩ := h2 i _ hi
  obtain ⟨gv, cv, rfl, _⟩ := Lw.open h1 (by omega)
  have hcell : w.cell? ⟨gv, i, none⟩ = some u := by have := Lw.range h1 i u hu; rwa [Nat.zero_add] at this
  obtain ⟨A, c, rfl, _, hnil⟩ := Bw.form hbw
  obtain ⟨n, hn⟩ : ∃ n, n = (lfb ix en tk rc am).length := ⟨_, rfl⟩
  obtain ⟨N, hN⟩ : ∃ N, N = ts.length := ⟨_, rfl⟩
  obtain ⟨L, hL⟩ : ∃ L, L = lf ix en tk rc am := ⟨_, rfl⟩
  have HRD : Hid (∀ X, Below w.heap.size w X → Calls Tryz.prog 37 #[.slice A n c] X fun e w' => e = .returned (.tuple #[.agg L.toArray, .int .i64 0]) ∧ Below X.heap.size X w') := fun X k => by
    rw [hL]
    exact read_leaf ix en tk rc am hrc ham hq4 hm _ rfl A n c hn.symm hnil X (by rw [hn]; exact Bw.sl (Bw.be hbw k))
  have HI : Hid ((Tryz.prog.info? 40).map (·.size) = some L.length) := by rw [hL]; exact info_lf hrc ham
  have HLL : Hid (L.length = zLf.length) := by show _ = _; rw [hL, lf_len hrc ham]; rfl
  have HO : Hid (L.toArray.all (·.oneCell') = true) := by rw [hL]; exact lf_all
  have HB : Hid (w.cell? ⟨B, 0, none⟩ = some (.slice (some ⟨gv, 0, none⟩) N cv)) := by rw [hN]; exact hb.row.cell 0 _ rfl
  have HC : Hid (w.cell? ⟨gv, i, none⟩ = some (.slice A n c)) := by rw [hn]; exact hcell
  have hiN : i < N := by omega
  have hNm : N ≤ 1000000 := by omega
  rw [← hL]
  clear hL hN hn hb h1 h2 hu hbw hcell hi hrc ham hq4 hm hlt hts hnil
  go_enter Tryz.func13, Tryz.ntmps13
  go_upto_region 1 with (refine wpList_allocLf rfl rfl ?_; intro X0 q1 q2 q3; have RQ : Hid (Row X0 w.heap.size zLf 40) := q1; have B0 : Hid (Below w.heap.size w X0) := q2; have cB : X0.cell? ⟨B, 0, none⟩ = some (.slice (some ⟨gv, 0, none⟩) N cv) := (q2.cell (p := ⟨B, 0, none⟩) (World.block_lt_of_cell? w _ HB.out)).trans HB.out; have cC : X0.cell? ⟨gv, i, none⟩ = some (.slice A n c) := (q2.cell (p := ⟨gv, i, none⟩) (World.block_lt_of_cell? w _ HC.out)).trans HC.out; clear q1 q2 q3; simp only [Act.put, List.setIfInBounds_toArray, List.set_cons_zero, List.set_cons_succ])
  go_wp2_with (first
    | (go_at_call 9; refine Calls.mono (len_any (some ⟨gv, 0, none⟩) N cv X0) ?_; rintro e X ⟨rfl, hq⟩; obtain rfl := hq.symm)
    | (go_at_call 37; refine Calls.mono (HRD.out X0 B0.out) ?_; rintro e X1 ⟨rfl, q⟩; have B1 : Hid (Below w.heap.size w X1) := B0.out.trans (q.mono B0.out.size); have R1 : Hid (Row X1 w.heap.size zLf 40) := Row.below RQ.out q RQ.out.lt; clear q)
    | (refine wpList_storeL rfl 40 (.tmp 4) (.tmp 31) rfl w.heap.size L zLf 40 rfl rfl R1.out HLL.out HI.out HO.out ?_; intro X9 q1 q2; have E9 : Hid (X9 = _) := q1; have R9 : Hid (Row X9 w.heap.size L 40) := q2; clear q1 q2; simp only [Act.put]))
  have hE : Below w.heap.size w X9 := by rw [E9.out]; exact below_setCells B1.out (Nat.le_refl _) _
  exact bodyPost_ret (results_rowS_tmp Tryz.results13 _ _ w.heap.size 40 L (.int .i64 0) rfl rfl R9.out Tryz.underlying40 HI.out) rfl ⟨rfl, hE⟩
def L0 : List Value := lf 0 5 3 (List.replicate 20 0#8) [256, 0, 0, 0]
def d0 : List (BitVec 8) := [76#8, 0#8, 1#8, 5#8, 1#8, 3#8] ++ List.replicate 20 0#8 ++ [2#8, 1#8, 0#8]
theorem d0_eq : lfb 0 5 3 (List.replicate 20 0#8) [256, 0, 0, 0] = d0 := by decide +kernel
theorem may0 : may 0 5 3 [256, 0, 0, 0] = true := by decide +kernel
theorem q0 : ∀ x ∈ [256, 0, 0, 0], x < 18446744073709551616 := by decide
theorem built_w : Tryz.prog.built 38 [(0, .int .u64 256)] = some #[.int .u64 256, .int .u64 0, .int .u64 0, .int .u64 0] := by kernel_rfl
theorem built_l : Tryz.prog.built 40 [(1, .int .i64 5), (2, .int .i64 3), (4, .agg #[.int .u64 256, .int .u64 0, .int .u64 0, .int .u64 0])] = some L0.toArray := by kernel_rfl
theorem guardL : Tryz.prog.eqGuardType Tryz.prog.depth 40 = false := by kernel_rfl
theorem szU8 (w : World) : (sizeOf 5).run Tryz.prog w = .ok 1 w := by
  obtain ⟨ie, z, h1, _, h3, _, _⟩ := info_u8open
  simp [sizeOf, typeInfo, h1, h3]
theorem szU64 (w : World) : (sizeOf 36).run Tryz.prog w = .ok 1 w := by
  go_simp
theorem eqAz (w : World) : (Op.equalIn 9999 35 (.agg #[.int .u8 0, .int .u8 0, .int .u8 0, .int .u8 0, .int .u8 0, .int .u8 0, .int .u8 0, .int .u8 0, .int .u8 0, .int .u8 0, .int .u8 0, .int .u8 0, .int .u8 0, .int .u8 0, .int .u8 0, .int .u8 0, .int .u8 0, .int .u8 0, .int .u8 0, .int .u8 0]) (.agg #[.int .u8 0, .int .u8 0, .int .u8 0, .int .u8 0, .int .u8 0, .int .u8 0, .int .u8 0, .int .u8 0, .int .u8 0, .int .u8 0, .int .u8 0, .int .u8 0, .int .u8 0, .int .u8 0, .int .u8 0, .int .u8 0, .int .u8 0, .int .u8 0, .int .u8 0, .int .u8 0])).run Tryz.prog w = .ok true w := by
  have q := run_equalIn_bytes (P := Tryz.prog) w 9997 35 5 20 Tryz.underlying35 Tryz.underlying5 szU8 (toU (List.replicate 20 0#8)) (toU (List.replicate 20 0#8)) rfl rfl
  rw [toU_beq, decide_eq_true rfl, ← vB_cell] at q
  exact q
theorem eqWz (w : World) : (Op.equalIn 9999 38 (.agg #[.int .u64 256, .int .u64 0, .int .u64 0, .int .u64 0]) (.agg #[.int .u64 256, .int .u64 0, .int .u64 0, .int .u64 0])).run Tryz.prog w = .ok true w := by
  have q := run_equalIn_vQ (P := Tryz.prog) (w := w) 9997 38 36 4 Tryz.underlying38 Tryz.underlying36 szU64 [256, 0, 0, 0] [256, 0, 0, 0] rfl rfl
  rw [decide_eq_true rfl] at q
  exact q
set_option maxRecDepth 100000 in
set_option maxHeartbeats 4000000 in
theorem eqL0 (w : World) : (binOp .eql 40 (.agg L0.toArray) (.agg L0.toArray)).run Tryz.prog w = .ok (.bool true) w := by
  have hA := fun w => eqAz w
  have hW := fun w => eqWz w
  have e : L0 = [.int .i64 0, .int .i64 5, .int .i64 3, .int .u8 0, .int .u8 0, .int .u8 0, .int .u8 0, .int .u8 0, .int .u8 0, .int .u8 0, .int .u8 0, .int .u8 0, .int .u8 0, .int .u8 0, .int .u8 0, .int .u8 0, .int .u8 0, .int .u8 0, .int .u8 0, .int .u8 0, .int .u8 0, .int .u8 0, .int .u8 0, .int .u64 256, .int .u64 0, .int .u64 0, .int .u64 0] := rfl
  rw [e]
  clear e
  go_simp
section
variable {ops : Array Oper} {rest : List Oper} {op : Oper} {a : Act} {w : World} {Q : Exit → Act → World → Prop}
theorem wpList_buildWz (hgd : op.guard = none) (ho : op.op = .build 38 #[(0, .const (.int .u64 256))]) (h : wpList Tryz.prog ops Q rest (a.put op.dst (.agg #[.int .u64 256, .int .u64 0, .int .u64 0, .int .u64 0])) w) : wpList Tryz.prog ops Q (op :: rest) a w :=
  wpList_plain hgd fun _ hK => by
    have hr := run_build (P := Tryz.prog) w 38 #[(0, .int .u64 256)] _ built_w
    have hc : a.eval (.const (.int .u64 256)) = .int .u64 256 := rfl
    unfold Oper.wp execOp
    simp only [ho, List.map_toArray, List.map_cons, List.map_nil, hc, Sem.run_bind, hr, Result.andThen_ok, Sem.run_pure, Oper.upon_value]
    exact hK _ _ h
theorem wpList_buildLf (hgd : op.guard = none) (x : Operand) (ho : op.op = .build 40 #[(1, .const (.int .i64 5)), (2, .const (.int .i64 3)), (4, x)]) (hx : a.eval x = .agg #[.int .u64 256, .int .u64 0, .int .u64 0, .int .u64 0]) (L : List Value) (hL : L = L0) (h : wpList Tryz.prog ops Q rest (a.put op.dst (.agg L.toArray)) w) : wpList Tryz.prog ops Q (op :: rest) a w :=
  wpList_plain hgd fun _ hK => by
    subst hL
    have hr := run_build (P := Tryz.prog) w 40 #[(1, .int .i64 5), (2, .int .i64 3), (4, .agg #[.int .u64 256, .int .u64 0, .int .u64 0, .int .u64 0])] _ built_l
    have hc : a.eval (.const (.int .i64 5)) = .int .i64 5 := rfl
    have hc3 : a.eval (.const (.int .i64 3)) = .int .i64 3 := rfl
    unfold Oper.wp execOp
    simp only [ho, List.map_toArray, List.map_cons, List.map_nil, hx, hc, hc3, Sem.run_bind, hr, Result.andThen_ok, Sem.run_pure, Oper.upon_value]
    exact hK _ _ h
theorem wpList_eqlLf (hw : Region.wanted op (yielded ops a.tmps) = true) (x y : Operand) (yt : TypeId) (ho : op.op = .binOp .eql 40 x y yt) (L : List Value) (hx : a.eval x = .agg L.toArray) (hy : a.eval y = .agg L.toArray)
    (hr : ∀ w, (binOp .eql 40 (.agg L.toArray) (.agg L.toArray)).run Tryz.prog w = .ok (.bool true) w) (h : wpList Tryz.prog ops Q rest (a.put op.dst (.bool true)) w) : wpList Tryz.prog ops Q (op :: rest) a w :=
  BigFrame.wpList_want hw fun _ hK => by
    unfold Oper.wp execOp
    simp only [ho, hx, hy, Sem.run_bind, run_eqGuard_agg w .eql 40 x y _ _ guardL, Result.andThen_ok, hr, Sem.run_pure, Oper.upon_value]
    exact hK _ _ h
end
set_option maxRecDepth 100000 in
set_option maxHeartbeats 4000000 in
theorem obk_any (w : World) : Calls Tryz.prog 5 #[] w fun e w' => e = .returned (.bool true) ∧ Below w.heap.size w w' := by
  obtain ⟨L, hL⟩ : ∃ L, L = L0 := ⟨_, rfl⟩
  have HL : Hid (L = L0) := hL
  have HI : Hid ((Tryz.prog.info? 40).map (·.size) = some L.length) := by rw [hL]; exact info_lf rfl rfl
  have HLL : Hid (L.length = zLf.length) := by show _ = _; rw [hL]; rfl
  have HO : Hid (L.toArray.all (·.oneCell') = true) := by rw [hL]; exact lf_all
  have HEQ : Hid (∀ w, (binOp .eql 40 (.agg L.toArray) (.agg L.toArray)).run Tryz.prog w = .ok (.bool true) w) := by rw [hL]; exact eqL0
  have HBY : Hid (∀ X, Calls Tryz.prog 11 #[.agg L.toArray] X fun e w' => ∃ g cap, e = .returned (.tuple #[.slice (some ⟨g, 0, none⟩) 29 cap, .int .i64 0]) ∧ Bw w' (.slice (some ⟨g, 0, none⟩) 29 cap) d0 ∧ Fresh X.heap.size (.slice (some ⟨g, 0, none⟩) 29 cap) ∧ Below X.heap.size X w') := fun X => by
    refine (bytes_ok 0 5 3 (List.replicate 20 0#8) [256, 0, 0, 0] rfl rfl q0 may0 L hL X).mono ?_
    rintro e w' ⟨A, n, cap, hn, q1, q2, q3, q4⟩
    rw [d0_eq] at hn q2
    obtain rfl : n = 29 := hn
    rcases q2.2 with ⟨h1, _⟩ | ⟨g, c', cur, hv, r⟩
    · simp at h1
    · simp only [Value.slice.injEq] at hv
      obtain ⟨rfl, _, rfl⟩ := hv
      exact ⟨g, cap, q1, q2, q3, q4⟩
  have HPU : Hid (∀ w0 X B, Bk w0 X B (.slice none 0 0) [] → Calls Tryz.prog 12 #[.pointer (some ⟨B, 0, none⟩), .agg L.toArray] X fun e w' => e = .returned (.int .i64 0) ∧ ∃ v', Bk w0 w' B v' [d0] ∧ Gro (fun g => g = B) X w') := fun w0 X B hb => by
    refine (put_ok w0 B _ [] (Nat.zero_le _) 5 3 (List.replicate 20 0#8) [256, 0, 0, 0] rfl rfl q0 may0 L hL X hb).mono ?_
    rintro e w' ⟨q1, v', q2, q3⟩
    refine ⟨q1, v', ?_, Gro.mono q3 (fun g q => by rcases q with q | q; exact q; cases q)⟩
    have e : lfb (([] : List (List (BitVec 8))).length : Int) 5 3 (List.replicate 20 0#8) [256, 0, 0, 0] = d0 := d0_eq
    rwa [e] at q2
  have HLE : Hid (∀ w0 X B v, Bk w0 X B v [d0] → Calls Tryz.prog 13 #[.pointer (some ⟨B, 0, none⟩), .int .i64 0] X fun e w' => e = .returned (.tuple #[.agg L.toArray, .int .i64 0]) ∧ Below X.heap.size X w') := fun w0 X B v hb => by
    have := leaf_ok w0 B v [d0] (by decide) 0 0 5 3 (List.replicate 20 0#8) [256, 0, 0, 0] rfl rfl q0 may0 (by rw [d0_eq]; rfl) X hb
    rw [hL]
    exact this
  clear hL
  go_enter Tryz.func5, Tryz.ntmps5
  go_upto_region 4 with (go_at_call 4; refine Calls.mono (new_any w) ?_; rintro e X1 ⟨rfl, q⟩; have K1 : Hid (Bk w X1 w.heap.size (.slice none 0 0) []) := q; clear q)
  go_upto_region 5 with (first
    | (refine wpList_buildWz rfl rfl ?_; simp only [Act.put, List.setIfInBounds_toArray, List.set_cons_zero, List.set_cons_succ])
    | (refine wpList_buildLf rfl (.tmp 11) rfl rfl L HL.out ?_; simp only [Act.put, List.setIfInBounds_toArray, List.set_cons_zero, List.set_cons_succ])
    | (refine wpList_allocLf rfl rfl ?_; intro X2 q1 q2 q3; have R2 : Hid (Row X2 X1.heap.size zLf 40) := q1; have B2 : Hid (Below X1.heap.size X1 X2) := q2; clear q1 q2 q3; simp only [Act.put, List.setIfInBounds_toArray, List.set_cons_zero, List.set_cons_succ])
    | (refine wpList_storeL rfl 40 (.tmp 2) (.tmp 12) rfl X1.heap.size L zLf 40 rfl rfl R2.out HLL.out HI.out HO.out ?_; intro X3 q1 q2; have E3 : Hid (X3 = _) := q1; have R3 : Hid (Row X3 X1.heap.size L 40) := q2; clear q1 q2; simp only [Act.put]))
  have B3 : Below X1.heap.size X1 X3 := by rw [E3.out]; exact below_setCells B2.out (Nat.le_refl _) _
  have K3 : Hid (Bk w X3 w.heap.size (.slice none 0 0) []) := K1.out.keep B3
  obtain ⟨b, hb⟩ : ∃ b, b = X1.heap.size := ⟨_, rfl⟩
  obtain ⟨B, hB⟩ : ∃ B, B = w.heap.size := ⟨_, rfl⟩
  rw [← hb] at R3 ⊢
  rw [← hB] at K3 ⊢
  clear hb hB E3 B3 B2 R2 K1
  go_upto_region 6 with (first
    | (refine wpList_load_w rfl 40 (.tmp 2) rfl b 0 rfl L _ R3.out.all Tryz.underlying40 rfl HI.out ?_; simp only [Act.put, List.setIfInBounds_toArray, List.set_cons_zero, List.set_cons_succ])
    | (go_at_call 11; refine Calls.mono (HBY.out X3) ?_; rintro e X4 ⟨gx, cx, rfl, q1, q2, q3⟩; have W4 : Hid (Bw X4 (.slice (some ⟨gx, 0, none⟩) 29 cx) d0) := q1; have R4 : Hid (Row X4 b L 40) := Row.below R3.out q3 R3.out.lt; have K4 : Hid (Bk w X4 B (.slice none 0 0) []) := K3.out.keep q3; clear q1 q2 q3 K3 R3))
  go_upto_region 7 with (first
    | (refine wpList_load_w rfl 40 (.tmp 2) rfl b 0 rfl L _ R4.out.all Tryz.underlying40 rfl HI.out ?_; simp only [Act.put, List.setIfInBounds_toArray, List.set_cons_zero, List.set_cons_succ])
    | (go_at_call 12; refine Calls.mono (HPU.out w X4 B K4.out) ?_; rintro e X5 ⟨rfl, v5, q1, q2⟩; have K5 : Hid (Bk w X5 B v5 [d0]) := q1; have R5 : Hid (Row X5 b L 40) := q2.row R4.out (row_ne R4.out K4.out.row (by decide)); have W5 : Hid (Bw X5 (.slice (some ⟨gx, 0, none⟩) 29 cx) d0) := Bw.gro W4.out q2 (Bw.ne W4.out K4.out.row (by decide)); clear q1 q2 K4 R4 W4))
  go_upto_region 8 with (first
    | (go_at_call 13; refine Calls.mono (HLE.out w X5 B v5 K5.out) ?_; rintro e X6 ⟨rfl, q⟩; have K6 : Hid (Bk w X6 B v5 [d0]) := K5.out.keep q; have R6 : Hid (Row X6 b L 40) := Row.below R5.out q R5.out.lt; have W6 : Hid (Bw X6 (.slice (some ⟨gx, 0, none⟩) 29 cx) d0) := Bw.be W5.out q; clear q K5 R5 W5)
    | (refine wpList_allocLf rfl rfl ?_; intro X7 q1 q2 q3; have R7 : Hid (Row X7 X6.heap.size zLf 40) := q1; have B7 : Hid (Below X6.heap.size X6 X7) := q2; clear q1 q2 q3; simp only [Act.put, List.setIfInBounds_toArray, List.set_cons_zero, List.set_cons_succ])
    | (refine wpList_storeL rfl 40 (.tmp 6) (.tmp 24) rfl X6.heap.size L zLf 40 rfl rfl R7.out HLL.out HI.out HO.out ?_; intro X8 q1 q2; have E8 : Hid (X8 = _) := q1; have R8 : Hid (Row X8 X6.heap.size L 40) := q2; clear q1 q2; simp only [Act.put]))
  have B8 : Below X6.heap.size X6 X8 := by rw [E8.out]; exact below_setCells B7.out (Nat.le_refl _) _
  have K8 : Hid (Bk w X8 B v5 [d0]) := K6.out.keep B8
  have RB8 : Hid (Row X8 b L 40) := Row.below R6.out B8 R6.out.lt
  have hx : X8.rangeAt gx 0 (vB d0) := by
    rcases Bw.sl (Bw.be W6.out B8) with ⟨h, _⟩ | ⟨ab, ao, c', hv, _, r⟩
    · cases h
    · simp only [Value.slice.injEq, Option.some.injEq, Addr.mk.injEq] at hv
      obtain ⟨⟨rfl, rfl, _⟩, _, _⟩ := hv
      exact r
  have x0 : X8.cell? ⟨gx, 0, none⟩ = some (.int .u8 76) := hx 0 _ rfl
  have x1 : X8.cell? ⟨gx, 1, none⟩ = some (.int .u8 0) := hx 1 _ rfl
  have x2 : X8.cell? ⟨gx, 2, none⟩ = some (.int .u8 1) := hx 2 _ rfl
  have x3 : X8.cell? ⟨gx, 3, none⟩ = some (.int .u8 5) := hx 3 _ rfl
  obtain ⟨A5, c5, e5⟩ := K8.out.form
  have cB : X8.cell? ⟨B, 0, none⟩ = some (.slice A5 1 c5) := by have := K8.out.row.cell 0 _ rfl; rw [e5] at this; exact this
  have HBE : Hid (Below w.heap.size w X8) := K8.out.be
  obtain ⟨b6, hb6⟩ : ∃ b6, b6 = X6.heap.size := ⟨_, rfl⟩
  rw [← hb6] at R8 ⊢
  clear hx e5 K8 K6 E8 B8 B7 R7 R6 W6 hb6
  go_wp2_with (first
    | (refine wpList_load_w rfl 40 (.tmp 6) rfl b6 0 rfl L _ R8.out.all Tryz.underlying40 rfl HI.out ?_; simp only [Act.put, List.setIfInBounds_toArray, List.set_cons_zero, List.set_cons_succ])
    | (refine wpList_load_w rfl 40 (.tmp 2) rfl b 0 rfl L _ RB8.out.all Tryz.underlying40 rfl HI.out ?_; simp only [Act.put, List.setIfInBounds_toArray, List.set_cons_zero, List.set_cons_succ])
    | (refine wpList_eqlLf rfl (.tmp 66) (.tmp 67) _ rfl L rfl rfl HEQ.out ?_; simp only [Act.put, List.setIfInBounds_toArray, List.set_cons_zero, List.set_cons_succ])
    | (go_at_call 9; refine Calls.mono (len_any A5 1 c5 X8) ?_; rintro e X ⟨rfl, hq⟩; obtain rfl := hq.symm))
  go_ret
  exact ⟨rfl, HBE.out⟩

end Go.Proofs.YtdicgenhfmhklaaGreatDoor
