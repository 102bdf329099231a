/-
  the outbox: what is read of a leaf's bytes.
-/
import Derived.Test.YtbfahgdienppoaaGreatDoorObA
namespace Go.Proofs.YtbfahgdienppoaaGreatDoor
open Go Go.RowKit
open Sha

/-- A reader, a leaf that is filled, the answer's place. -/
structure Rl (w0 w : World) (q P : Nat) (A : Option Addr) (cap : Nat) (bs : List (BitVec 8)) (a b : Nat) (L : List Value) : Prop where
  rg : Rg w P A cap bs a
  rl : Row w b L 39
  rq : Row w q zLf 39
  qb : q < b
  q0 : q = w0.heap.size
  be : Below w0.heap.size w0 w
section
variable {w0 w w' : World} {q P cap a a' b : Nat} {A : Option Addr} {bs : List (BitVec 8)} {L M : List Value}
theorem Rl.keep (h : Rl w0 w q P A cap bs a b L) (k : Below w.heap.size w w') : Rl w0 w' q P A cap bs a b L :=
  ⟨h.rg.be k, Row.below h.rl k h.rl.lt, Row.below h.rq k h.rq.lt, h.qb, h.q0, h.be.trans (k.mono h.be.size)⟩
theorem Rl.took (h : Rl w0 w q P A cap bs a b L) (p0 : w0.heap.size ≤ P) (r : Rg w' P A cap bs a') (k : Gp P w w') : Rl w0 w' q P A cap bs a' b L :=
  ⟨r, k.row h.rl (row_ne h.rl h.rg.row (by decide)), k.row h.rq (row_ne h.rq h.rg.row (by decide)), h.qb, h.q0, h.be.trans (k.to_below h.be.size (fun g e => by rw [e]; exact p0))⟩
theorem Rl.put (h : Rl w0 w q P A cap bs a b L) (r : Row w' b M 39) (k : Gro (· = b) w w') : Rl w0 w' q P A cap bs a b M :=
  ⟨⟨k.row h.rg.row (row_ne h.rg.row h.rl (by decide)), Bw.gro h.rg.bw k (Bw.ne h.rg.bw h.rl (by decide)), h.rg.le, h.rg.len⟩, r, k.row h.rq (Nat.ne_of_lt h.qb), h.qb, h.q0,
    h.be.trans (k.to_below h.be.size (fun g e => by rw [e]; have h1 := h.qb; have h2 := h.q0; omega))⟩
theorem rl_number (x : Int) (p0 : w0.heap.size ≤ P) (hE : nuE bs a = 0) (hV : ((nuW bs a : Nat) : Int) = x) (hN : a + 1 + at8 bs a = a') (h : Rl w0 w q P A cap bs a b L) : Calls Tryz.prog 35 #[.pointer (some ⟨P, 0, none⟩)] w fun e w' => e = .returned (.int .i64 x) ∧ Rl w0 w' q P A cap bs a' b L := by
  refine (face_number P A cap bs a w h.rg).mono ?_
  rintro e w' ⟨h1, _, h3⟩
  obtain ⟨rfl, hr⟩ := h1 hE
  rw [hN] at hr
  rw [hV]
  exact ⟨rfl, h.took p0 hr h3⟩
theorem rl_byte (p0 : w0.heap.size ≤ P) (hE : byE bs a = 0) (x : Int) (hV : ((at8 bs a : Nat) : Int) = x) (h : Rl w0 w q P A cap bs a b L) : Calls Tryz.prog 34 #[.pointer (some ⟨P, 0, none⟩)] w fun e w' => e = .returned (.int .u8 x) ∧ Rl w0 w' q P A cap bs (a + 1) b L := by
  refine (face_byte P A cap bs a w h.rg).mono ?_
  rintro e w' ⟨h1, _, h3⟩
  obtain ⟨rfl, hr⟩ := h1 hE
  rw [hV]
  exact ⟨rfl, h.took p0 hr h3⟩
theorem rl_address (x : List (BitVec 8)) (p0 : w0.heap.size ≤ P) (hE : dgE 20 bs a = 0) (hV : sub bs a 20 = x) (hN : a + 20 = a') (h : Rl w0 w q P A cap bs a b L) : Calls Tryz.prog 36 #[.pointer (some ⟨P, 0, none⟩)] w fun e w' => e = .returned (.agg (vB x).toArray) ∧ Rl w0 w' q P A cap bs a' b L := by
  refine (face_address P A cap bs a w h.rg).mono ?_
  rintro e w' ⟨h1, _, h3⟩
  obtain ⟨rfl, hr⟩ := h1 hE
  rw [hN] at hr
  rw [hV]
  exact ⟨rfl, h.took p0 hr h3⟩
theorem rl_wide (x : List Nat) (p0 : w0.heap.size ≤ P) (hE : hiF 32 bs a = 0) (hV : qd bs (a + 1 + at8 bs a) (at8 bs a) = vQ x) (hN : a + 1 + at8 bs a = a') (h : Rl w0 w q P A cap bs a b L) : Calls Tryz.prog 37 #[.pointer (some ⟨P, 0, none⟩)] w fun e w' => e = .returned (.agg (vQ x).toArray) ∧ Rl w0 w' q P A cap bs a' b L := by
  refine (face_wide P A cap bs a w h.rg).mono ?_
  rintro e w' ⟨h1, _, h3⟩
  obtain ⟨rfl, hr⟩ := h1 hE
  rw [hN] at hr
  rw [hV]
  exact ⟨rfl, h.took p0 hr h3⟩
theorem rl_end (hN : ¬ a < bs.length) (h : Rl w0 w q P A cap bs a b L) : Calls Tryz.prog 38 #[.pointer (some ⟨P, 0, none⟩)] w fun e w' => e = .returned (.int .i64 0) ∧ Rl w0 w' q P A cap bs a b L := by
  refine (end_rest P A cap bs a w h.rg).mono ?_
  rintro e w' ⟨rfl, m, rfl⟩
  rw [if_neg hN]
  exact ⟨rfl, h.keep ⟨rfl, rfl, rfl, Nat.le_refl _, fun _ _ => rfl⟩⟩
end
theorem lf_put_rc (ix en tk : Int) (r x : List (BitVec 8)) (am : List Nat) (hr : r.length = 20) (hx : x.length = 20) : (lf ix en tk r am).take 3 ++ vB x ++ (lf ix en tk r am).drop (3 + (vB x).length) = lf ix en tk x am := by
  rw [patch [.int .i64 ix, .int .i64 en, .int .i64 tk] (vB r) (vB x) (vQ am) _ 3 (by simp [lf]) rfl (by rw [vB_length, vB_length, hr, hx])]
  simp [lf]
theorem lf_put_am (ix en tk : Int) (r : List (BitVec 8)) (am x : List Nat) (hr : r.length = 20) (ha : am.length = 4) (hx : x.length = 4) : (lf ix en tk r am).take 23 ++ vQ x ++ (lf ix en tk r am).drop (23 + (vQ x).length) = lf ix en tk r x := by
  rw [patch (.int .i64 ix :: .int .i64 en :: .int .i64 tk :: vB r) (vQ am) (vQ x) [] _ 23 (by simp [lf]) (by simp [vB_length, hr]) (by rw [vQ_len, vQ_len, ha, hx])]
  simp [lf]
theorem vQ_all (am : List Nat) : (vQ am).toArray.all (·.oneCell') = true := all_oneCell_toArray (fun v hv => by obtain ⟨x, _, rfl⟩ := List.mem_map.1 hv; rfl)
theorem vB_all (x : List (BitVec 8)) : (vB x).toArray.all (·.oneCell') = true := all_oneCell_toArray (vB_one x)
theorem info_int1 : (Tryz.prog.info? 3).map (·.size) = some 1 := by kernel_rfl
set_option maxRecDepth 100000 in
set_option maxHeartbeats 4000000 in
theorem read_go (ix en tk : Int) (rc : List (BitVec 8)) (am : List Nat) (hrc : rc.length = 20) (ham : am.length = 4) (hm : may ix en tk am = true) (bs : List (BitVec 8)) (p2 p3 p4 p5 p6 : Nat)
    (e0 : byE bs 0 = 0) (v0 : ((at8 bs 0 : Nat) : Int) = 76) (e1 : nuE bs 1 = 0) (v1 : ((nuW bs 1 : Nat) : Int) = ix) (n1 : 1 + 1 + at8 bs 1 = p2) (e2 : nuE bs p2 = 0) (v2 : ((nuW bs p2 : Nat) : Int) = en) (n2 : p2 + 1 + at8 bs p2 = p3) (e3 : nuE bs p3 = 0) (v3 : ((nuW bs p3 : Nat) : Int) = tk) (n3 : p3 + 1 + at8 bs p3 = p4)
    (e4 : dgE 20 bs p4 = 0) (v4 : sub bs p4 20 = rc) (n4 : p4 + 20 = p5) (e5 : hiF 32 bs p5 = 0) (v5 : qd bs (p5 + 1 + at8 bs p5) (at8 bs p5) = vQ am) (n5 : p5 + 1 + at8 bs p5 = p6) (hend : ¬ p6 < bs.length)
    (B : Option Addr) (n cb : Nat) (hb : bs.length = n) (hl : n ≤ 4194304) (hnil : B = none → cb = 0) (w : World) (hv : SlAt w (.slice B n cb) bs) : Calls Tryz.prog 13 #[.slice B n cb] w fun e w' => e = .returned (.tuple #[.agg (lf ix en tk rc am).toArray, .int .i64 0]) ∧ Below w.heap.size w w' := by
  have HMB : Hid (∀ X, Calls Tryz.prog 22 #[.agg (lf ix en tk rc am).toArray] X fun e w' => e = .returned (.bool true) ∧ Below X.heap.size X w') := fun X => by have := mayBe_any ix en tk rc am hrc ham _ rfl X; rwa [hm] at this
  have HRC : Hid (rc.length = 20) := hrc
  have HAM : Hid (am.length = 4) := ham
  have HIA : Hid ((Tryz.prog.info? 34).map (·.size) = some (vB rc).length) := info_Ad rc hrc
  have HIW : Hid ((Tryz.prog.info? 37).map (·.size) = some (vQ am).length) := info_Wd am ham
  have K0e : Hid (byE bs 0 = 0) := e0
  have K0v : Hid (((at8 bs 0 : Nat) : Int) = 76) := v0
  have K1e : Hid (nuE bs 1 = 0) := e1
  have K1v : Hid (((nuW bs 1 : Nat) : Int) = ix) := v1
  have K1n : Hid (1 + 1 + at8 bs 1 = p2) := n1
  have K2e : Hid (nuE bs p2 = 0) := e2
  have K2v : Hid (((nuW bs p2 : Nat) : Int) = en) := v2
  have K2n : Hid (p2 + 1 + at8 bs p2 = p3) := n2
  have K3e : Hid (nuE bs p3 = 0) := e3
  have K3v : Hid (((nuW bs p3 : Nat) : Int) = tk) := v3
  have K3n : Hid (p3 + 1 + at8 bs p3 = p4) := n3
  have K4e : Hid (dgE 20 bs p4 = 0) := e4
  have K4v : Hid (sub bs p4 20 = rc) := v4
  have K4n : Hid (p4 + 20 = p5) := n4
  have K5e : Hid (hiF 32 bs p5 = 0) := e5
  have K5v : Hid (qd bs (p5 + 1 + at8 bs p5) (at8 bs p5) = vQ am) := v5
  have K5n : Hid (p5 + 1 + at8 bs p5 = p6) := n5
  have KE : Hid (¬ p6 < bs.length) := hend
  have HBL : Hid (bs.length = n ∧ n ≤ 4194304 ∧ (B = none → cb = 0)) := ⟨hb, hl, hnil⟩
  have HV : Hid (SlAt w (.slice B n cb) bs) := hv
  clear e0 v0 e1 v1 n1 e2 v2 n2 e3 v3 n3 e4 v4 n4 e5 v5 n5 hend hb hl hnil hv hrc ham hm
  go_enter Tryz.func13, Tryz.ntmps13
  go_upto_region 1 with (refine wpList_allocLf rfl rfl ?_; intro X0 q1 q2 q3; have RQ : Hid (Row X0 w.heap.size zLf 39) := q1; have B0 : Hid (Below w.heap.size w X0) := q2; clear q1 q2 q3; simp only [Act.put, List.setIfInBounds_toArray, List.set_cons_zero, List.set_cons_succ])
  have HNR : Hid _ := newReader_g B n cb bs HBL.out.1 HBL.out.2.1 HBL.out.2.2 X0 (SlAt.be HV.out B0.out)
  go_upto_region 2 with (go_at_call 33; refine Calls.mono HNR.out ?_; rintro e X1 ⟨P, A, cap, rfl, q1, q2, q3, q4⟩; have G1 : Hid (Rg X1 P A cap bs 0) := q1; have HP : Hid (X0.heap.size ≤ P) := q2; have B1 : Hid (Below X0.heap.size X0 X1) := q4; clear q1 q2 q3 q4)
  have HFB : Hid (Calls Tryz.prog 34 #[.pointer (some ⟨P, 0, none⟩)] X1 fun e w' => e = .returned (.int .u8 76) ∧ Rg w' P A cap bs 1 ∧ Gp P X1 w') := by
    refine (face_byte P A cap bs 0 X1 G1.out).mono ?_
    rintro e w' ⟨h1, _, h3⟩
    obtain ⟨rfl, hr⟩ := h1 K0e.out
    rw [K0v.out]
    exact ⟨rfl, hr, h3⟩
  go_upto_region 3 with (go_at_call 34; refine Calls.mono HFB.out ?_; rintro e X2 ⟨rfl, q1, q2⟩; have G2 : Hid (Rg X2 P A cap bs 1) := q1; have P2 : Hid (Gp P X1 X2) := q2; clear q1 q2)
  go_upto_region 4 with (refine wpList_allocLf rfl rfl ?_; intro X3 q1 q2 q3; have RB : Hid (Row X3 X2.heap.size zLf 39) := q1; have B3 : Hid (Below X2.heap.size X2 X3) := q2; clear q1 q2 q3; simp only [Act.put, List.setIfInBounds_toArray, List.set_cons_zero, List.set_cons_succ])
  have hRQ2 : Row X2 w.heap.size zLf 39 := P2.out.row (Row.below RQ.out B1.out RQ.out.lt) (row_ne (Row.below RQ.out B1.out RQ.out.lt) G1.out.row (by decide))
  have S1' : Rl w X3 w.heap.size P A cap bs 1 X2.heap.size zLf := ⟨G2.out.be B3.out, RB.out, Row.below hRQ2 B3.out hRQ2.lt, hRQ2.lt, rfl, (B0.out.trans ((B1.out.mono B0.out.size).trans (P2.out.to_below (Nat.le_trans B0.out.size B1.out.size) (fun g e => by rw [e]; exact Nat.le_trans B0.out.size HP.out)))).trans (B3.out.mono (Nat.le_of_lt hRQ2.lt))⟩
  have HP0 : Hid (w.heap.size ≤ P) := Nat.le_trans B0.out.size HP.out
  obtain ⟨q, hq⟩ : ∃ q, q = w.heap.size := ⟨_, rfl⟩
  obtain ⟨b, hb⟩ : ∃ b, b = X2.heap.size := ⟨_, rfl⟩
  rw [← hb] at S1' ⊢
  rw [← hq] at S1' ⊢
  have S1 : Hid (Rl w X3 q P A cap bs 1 b (lf 0 0 0 (List.replicate 20 0#8) (List.replicate 4 0))) := S1'
  have HQ0 : Hid (q = w.heap.size) := hq
  clear hq hb S1' hRQ2 RB B3 P2 G2 HFB B1 HP G1 HNR RQ B0
  go_upto_region 5 with (first
    | (go_at_call 35; refine Calls.mono (rl_number ix HP0.out K1e.out K1v.out K1n.out S1.out) ?_; rintro e Y1 ⟨rfl, h⟩; have T1 : Hid (Rl w Y1 q P A cap bs p2 b (lf 0 0 0 (List.replicate 20 0#8) (List.replicate 4 0))) := h; clear h)
    | (refine wpList_set1 rfl 3 (.tmp 13) (.tmp 12) rfl b 0 (.int .i64 ix) (lf 0 0 0 (List.replicate 20 0#8) (List.replicate 4 0)) 39 rfl rfl rfl T1.out.rl (by rw [lf_len (List.length_replicate ..) (List.length_replicate ..)]; decide) info_int1 rfl ?_; intro Z q1 q2 q3; have S2 : Hid (Rl w Z q P A cap bs p2 b (lf ix 0 0 (List.replicate 20 0#8) (List.replicate 4 0))) := T1.out.put (M := lf ix 0 0 (List.replicate 20 0#8) (List.replicate 4 0)) q1 q2; clear q1 q2 q3; simp only [Act.put]))
  clear S1 T1
  go_upto_region 6 with (first
    | (go_at_call 35; refine Calls.mono (rl_number en HP0.out K2e.out K2v.out K2n.out S2.out) ?_; rintro e Y2 ⟨rfl, h⟩; have T2 : Hid (Rl w Y2 q P A cap bs p3 b (lf ix 0 0 (List.replicate 20 0#8) (List.replicate 4 0))) := h; clear h)
    | (refine wpList_set1 rfl 3 (.tmp 16) (.tmp 15) rfl b 1 (.int .i64 en) (lf ix 0 0 (List.replicate 20 0#8) (List.replicate 4 0)) 39 rfl rfl rfl T2.out.rl (by rw [lf_len (List.length_replicate ..) (List.length_replicate ..)]; decide) info_int1 rfl ?_; intro Z q1 q2 q3; have S3 : Hid (Rl w Z q P A cap bs p3 b (lf ix en 0 (List.replicate 20 0#8) (List.replicate 4 0))) := T2.out.put (M := lf ix en 0 (List.replicate 20 0#8) (List.replicate 4 0)) q1 q2; clear q1 q2 q3; simp only [Act.put]))
  clear S2 T2
  go_upto_region 7 with (first
    | (go_at_call 35; refine Calls.mono (rl_number tk HP0.out K3e.out K3v.out K3n.out S3.out) ?_; rintro e Y3 ⟨rfl, h⟩; have T3 : Hid (Rl w Y3 q P A cap bs p4 b (lf ix en 0 (List.replicate 20 0#8) (List.replicate 4 0))) := h; clear h)
    | (refine wpList_set1 rfl 3 (.tmp 19) (.tmp 18) rfl b 2 (.int .i64 tk) (lf ix en 0 (List.replicate 20 0#8) (List.replicate 4 0)) 39 rfl rfl rfl T3.out.rl (by rw [lf_len (List.length_replicate ..) (List.length_replicate ..)]; decide) info_int1 rfl ?_; intro Z q1 q2 q3; have S4 : Hid (Rl w Z q P A cap bs p4 b (lf ix en tk (List.replicate 20 0#8) (List.replicate 4 0))) := T3.out.put (M := lf ix en tk (List.replicate 20 0#8) (List.replicate 4 0)) q1 q2; clear q1 q2 q3; simp only [Act.put]))
  clear S3 T3
  go_upto_region 8 with (first
    | (go_at_call 36; refine Calls.mono (rl_address rc HP0.out K4e.out K4v.out K4n.out S4.out) ?_; rintro e Y4 ⟨rfl, h⟩; have T4 : Hid (Rl w Y4 q P A cap bs p5 b (lf ix en tk (List.replicate 20 0#8) (List.replicate 4 0))) := h; clear h)
    | (refine wpList_storeM rfl 34 (.tmp 22) (.tmp 21) rfl b 3 (vB rc) (lf ix en tk (List.replicate 20 0#8) (List.replicate 4 0)) 39 rfl rfl T4.out.rl (by rw [lf_len (List.length_replicate ..) (List.length_replicate ..), vB_length, HRC.out]; decide) HIA.out (vB_all rc) ?_; intro Z q1 q2; rw [lf_put_rc _ _ _ _ _ _ (List.length_replicate ..) HRC.out] at q1; have S5 : Hid (Rl w Z q P A cap bs p5 b (lf ix en tk rc (List.replicate 4 0))) := T4.out.put q1 q2; clear q1 q2; simp only [Act.put]))
  clear S4 T4
  go_upto_region 9 with (first
    | (go_at_call 37; refine Calls.mono (rl_wide am HP0.out K5e.out K5v.out K5n.out S5.out) ?_; rintro e Y5 ⟨rfl, h⟩; have T5 : Hid (Rl w Y5 q P A cap bs p6 b (lf ix en tk rc (List.replicate 4 0))) := h; clear h)
    | (refine wpList_storeM rfl 37 (.tmp 25) (.tmp 24) rfl b 23 (vQ am) (lf ix en tk rc (List.replicate 4 0)) 39 rfl rfl T5.out.rl (by rw [lf_len HRC.out (List.length_replicate ..), vQ_len, HAM.out]; decide) HIW.out (vQ_all am) ?_; intro Z q1 q2; rw [lf_put_am _ _ _ _ _ _ HRC.out (List.length_replicate ..) HAM.out] at q1; have S6 : Hid (Rl w Z q P A cap bs p6 b (lf ix en tk rc am)) := T5.out.put q1 q2; clear q1 q2; simp only [Act.put]))
  clear S5 T5
  obtain ⟨L, hL⟩ : ∃ L, L = lf ix en tk rc am := ⟨_, rfl⟩
  have HL : Hid (L = lf ix en tk rc am) := hL
  rw [← hL] at S6 HMB
  have HI : Hid ((Tryz.prog.info? 39).map (·.size) = some L.length) := by rw [hL]; exact info_lf HRC.out HAM.out
  have HLL : Hid (L.length = zLf.length) := by show _ = _; rw [hL, lf_len HRC.out HAM.out]; rfl
  have HO : Hid (L.toArray.all (·.oneCell') = true) := by rw [hL]; exact lf_all
  clear hL HIA HIW HRC HAM
  go_upto_region 11 with (first
    | (go_at_call 38; refine Calls.mono (rl_end KE.out S6.out) ?_; rintro e Y6 ⟨rfl, h⟩; have T6 : Hid (Rl w Y6 q P A cap bs p6 b L) := h; clear h)
    | (refine wpList_load_w rfl 39 (.tmp 6) rfl b 0 rfl L _ T6.out.rl.all Tryz.underlying39 rfl HI.out ?_; simp only [Act.put, List.setIfInBounds_toArray, List.set_cons_zero, List.set_cons_succ])
    | (go_at_call 22; refine Calls.mono (HMB.out Y6) ?_; rintro e Y7 ⟨rfl, h⟩; have T7 : Hid (Rl w Y7 q P A cap bs p6 b L) := T6.out.keep h; clear h))
  go_wp2_with (first
    | (refine wpList_load_w rfl 39 (.tmp 6) rfl b 0 rfl L _ T7.out.rl.all Tryz.underlying39 rfl HI.out ?_; simp only [Act.put, List.setIfInBounds_toArray, List.set_cons_zero, List.set_cons_succ])
    | (refine wpList_storeL rfl 39 (.tmp 2) (.tmp 39) rfl q L zLf 39 rfl rfl T7.out.rq HLL.out HI.out HO.out ?_; intro X9 q1 q2; have E9 : Hid (X9 = _) := q1; have R9 : Hid (Row X9 q L 39) := q2; clear q1 q2; simp only [Act.put]))
  have hE : Below w.heap.size w X9 := by rw [E9.out]; exact below_setCells T7.out.be (by rw [HQ0.out]; exact Nat.le_refl _) _
  refine bodyPost_ret (results_rowS_tmp Tryz.results13 _ _ q 39 L (.int .i64 0) rfl rfl R9.out Tryz.underlying39 HI.out) rfl ?_
  rw [← HL.out]
  exact ⟨rfl, hE⟩
theorem byE_at {bs : List (BitVec 8)} {x : BitVec 8} {r : List (BitVec 8)} (h : bs = x :: r) : byE bs 0 = 0 ∧ at8 bs 0 = x.toNat := by
  subst h
  exact ⟨by unfold byE; rw [if_neg (by simp)], rfl⟩
/-- What is read of a leaf's bytes. -/
theorem read_leaf (ix en tk : Int) (rc : List (BitVec 8)) (am : List Nat) (hrc : rc.length = 20) (ham : am.length = 4) (hq4 : ∀ x ∈ am, x < 18446744073709551616) (hm : may ix en tk am = true) (bs : List (BitVec 8)) (hbs : bs = lfb ix en tk rc am)
    (B : Option Addr) (n cb : Nat) (hb : bs.length = n) (hnil : B = none → cb = 0) (w : World) (hv : SlAt w (.slice B n cb) bs) : Calls Tryz.prog 13 #[.slice B n cb] w fun e w' => e = .returned (.tuple #[.agg (lf ix en tk rc am).toArray, .int .i64 0]) ∧ Below w.heap.size w w' := by
  obtain ⟨i0, i1, n0, n1, t0, t1⟩ := may_in hm
  obtain ⟨y1, y2⟩ := byE_at (bs := bs) (x := 76#8) (r := nf ix ++ nf en ++ nf tk ++ rc ++ wf am) (by rw [hbs]; rfl)
  obtain ⟨a1, a2, a3⟩ := at_num [76#8] (nf en ++ nf tk ++ rc ++ wf am) bs ix 1 i0 (by omega) (by rw [hbs]; simp [lfb]) rfl
  obtain ⟨b1, b2, b3⟩ := at_num ([76#8] ++ nf ix) (nf tk ++ rc ++ wf am) bs en (1 + (nf ix).length) n0 (by omega) (by rw [hbs]; simp [lfb]) (by simp; omega)
  obtain ⟨c1, c2, c3⟩ := at_num ([76#8] ++ nf ix ++ nf en) (rc ++ wf am) bs tk (1 + (nf ix).length + (nf en).length) t0 (by omega) (by rw [hbs]; simp [lfb]) (by simp; omega)
  obtain ⟨d1, d2⟩ := at_adr ([76#8] ++ nf ix ++ nf en ++ nf tk) (wf am) rc bs (1 + (nf ix).length + (nf en).length + (nf tk).length) (by rw [hbs]; simp [lfb]) (by simp; omega) hrc
  obtain ⟨f1, f2, f3⟩ := at_wide ([76#8] ++ nf ix ++ nf en ++ nf tk ++ rc) [] bs am (1 + (nf ix).length + (nf en).length + (nf tk).length + 20) ham hq4 (by rw [hbs]; simp [lfb]) (by simp [hrc]; omega)
  have hl := lfb_len ix en tk rc am hrc
  refine read_go ix en tk rc am hrc ham hm bs _ _ _ _ _ y1 (by rw [y2]; rfl) a1 a2 a3 b1 b2 b3 c1 c2 c3 d1 d2 rfl f1 f2 f3 ?_ B n cb hb (by rw [← hb, hbs]; omega) hnil w hv
  rw [hbs]
  simp [lfb, hrc]
  omega

end Go.Proofs.YtbfahgdienppoaaGreatDoor
