/-
  LadderBytes: the document's Read.
-/
import Derived.Test.YtfommclhnfcioaaLbQ
import Derived.Test.YtfommclhnfcioaaLbD
namespace Go.Proofs.Ytfommclhnfcioaa
open Go Go.RowKit
open Sha

set_option maxRecDepth 100000 in
theorem qend_ok (D g : Nat) (A : Option Addr) (cap : Nat) (ao : Nat) (bs : List (BitVec 8)) (a : Nat) (w : World) (h : Rq w D g A cap ao bs a 0) :
    Calls Try.prog 54 #[.pointer (some ⟨D, 0, none⟩)] w fun e w' => e = .returned (.int .i64 (if a < bs.length then 33 else 0)) ∧ ∃ m, w' = w.drewN m := by
  have HL : Hid _ := qleft D g A cap ao bs a 0 w h
  have g2 := h.row.cell 2 _ rfl
  have hle := h.le
  have hln := h.len
  have HH : Hid _ := h
  clear h
  by_cases hlt : a < bs.length
  · have c1 : (0 : Int) < (bs.length : Int) - (a : Int) := by omega
    generalize (bs.length : Int) - (a : Int) = q at *
    go_enter Try.func54, Try.ntmps54
    go_wp2_with fail
    refine Calls.mono HL.out ?_
    rintro e w3 ⟨rfl, m, hm⟩
    have HM : Hid _ := hm
    clear hm
    go_wp2_with fail
    go_ret
    exact ⟨rfl, m, HM.out⟩
  · have c1 : (bs.length : Int) - (a : Int) = 0 := by omega
    rw [c1] at HL
    go_enter Try.func54, Try.ntmps54
    go_wp2_with fail
    refine Calls.mono HL.out ?_
    rintro e w3 ⟨rfl, m, hm⟩
    have k2 : w3.cell? ⟨D, 2, none⟩ = some (.int .i64 0) := by rw [hm]; exact g2
    have HM : Hid _ := hm
    clear hm
    go_wp2_with fail
    go_ret
    exact ⟨rfl, m, HM.out⟩
set_option maxRecDepth 100000 in
theorem qend_no (D g : Nat) (A : Option Addr) (cap : Nat) (ao : Nat) (bs : List (BitVec 8)) (a : Nat) (f : Int) (hf : ¬ f = 0) (w : World) (h : Rq w D g A cap ao bs a f) :
    Calls Try.prog 54 #[.pointer (some ⟨D, 0, none⟩)] w fun e w' => e = .returned (.int .i64 f) ∧ w' = w := by
  have g2 := h.row.cell 2 _ rfl
  have hb : (f == 0) = false := by simp [hf]
  clear h
  go_enter Try.func54, Try.ntmps54
  go_wp2_with fail
  go_ret
  exact ⟨rfl, rfl⟩
/-- The document's reader, with a fault or without; a commit that is filled; the answer's place. -/
structure Rz (w0 w : World) (q D g : Nat) (A : Option Addr) (cap : Nat) (ao : Nat) (bs : List (BitVec 8)) (a : Nat) (f : Int) (b : Nat) (L : List Value) : Prop where
  rx : Rq w D g A cap ao bs a f
  rl : Row w b L tC
  rq : Row w q zC.cells tC
  qb : q < b
  q0 : q = w0.heap.size
  p0 : w0.heap.size ≤ D
  gl : 0 < bs.length → g < w0.heap.size
  be : Below w0.heap.size w0 w
section
variable {w0 w w' : World} {q D g cap a a' b : Nat} {f f' : Int} {A : Option Addr} {ao : Nat} {bs : List (BitVec 8)} {L M : List Value}
theorem Rz.keep (h : Rz w0 w q D g A cap ao bs a f b L) (k : Below w.heap.size w w') : Rz w0 w' q D g A cap ao bs a f b L :=
  ⟨h.rx.be k, Row.below h.rl k h.rl.lt, Row.below h.rq k h.rq.lt, h.qb, h.q0, h.p0, h.gl, h.be.trans (k.mono h.be.size)⟩
theorem Rz.took (h : Rz w0 w q D g A cap ao bs a f b L) (r : Rq w' D g A cap ao bs a' f') (k : Gp D w w') : Rz w0 w' q D g A cap ao bs a' f' b L :=
  ⟨r, k.row h.rl (row_ne h.rl h.rx.row (by decide)), k.row h.rq (row_ne h.rq h.rx.row (by decide)), h.qb, h.q0, h.p0, h.gl, h.be.trans (k.to_below h.be.size (fun g e => by rw [e]; exact h.p0))⟩
theorem Rz.put (h : Rz w0 w q D g A cap ao bs a f b L) (r : Row w' b M tC) (k : Gro (· = b) w w') : Rz w0 w' q D g A cap ao bs a f b M :=
  ⟨h.rx.gro k (row_ne h.rx.row h.rl (by decide)) (fun e q => by have h1 := h.gl e; have h2 := h.qb; have h3 := h.q0; omega), r, k.row h.rq (Nat.ne_of_lt h.qb), h.qb, h.q0, h.p0, h.gl, h.be.trans (k.to_below h.be.size (fun g e => by rw [e]; have h1 := h.qb; have h2 := h.q0; omega))⟩
theorem rz_number (h : Rz w0 w q D g A cap ao bs a f b L) : Calls Try.prog 52 #[.pointer (some ⟨D, 0, none⟩)] w fun e w' => e = .returned (.int .i64 ((nV bs a f : Nat) : Int)) ∧ Rz w0 w' q D g A cap ao bs (nA bs a f) (nF bs a f) b L :=
  (q_number h.rx).mono fun _ _ ⟨h1, h2, h3⟩ => ⟨h1, h.took h2 h3⟩
theorem rz_digest (h : Rz w0 w q D g A cap ao bs a f b L) : Calls Try.prog 53 #[.pointer (some ⟨D, 0, none⟩)] w fun e w' => e = .returned (.agg (vB (dV bs a f)).toArray) ∧ Rz w0 w' q D g A cap ao bs (dA bs a f) (dF bs a f) b L :=
  (q_digest h.rx).mono fun _ _ ⟨h1, h2, h3⟩ => ⟨h1, h.took h2 h3⟩
theorem rz_end (h : Rz w0 w q D g A cap ao bs a f b L) : Calls Try.prog 54 #[.pointer (some ⟨D, 0, none⟩)] w fun e w' => e = .returned (.int .i64 (if f = 0 then (if a < bs.length then 33 else 0) else f)) ∧ Rz w0 w' q D g A cap ao bs a f b L := by
  by_cases hf : f = 0
  · subst hf
    refine (qend_ok D g A cap ao bs a w h.rx).mono ?_
    rintro e w' ⟨rfl, m, rfl⟩
    exact ⟨by rw [if_pos rfl], h.keep ⟨rfl, rfl, rfl, Nat.le_refl _, fun _ _ => rfl⟩⟩
  · refine (qend_no D g A cap ao bs a f hf w h.rx).mono ?_
    rintro e w' ⟨rfl, rfl⟩
    exact ⟨by rw [if_neg hf], h⟩
end
set_option maxRecDepth 100000 in
set_option maxHeartbeats 4000000 in
theorem dread_x (bs : List (BitVec 8)) (m x1 x2 a1 a2 a3 a4 a5 : Nat) (f1 f2 f3 f4 f5 : Int) (ds dd : List (BitVec 8))
    (hm : m = bV bs 0 (f0 bs)) (h1a : a1 = bA bs 0 (f0 bs)) (h1f : f1 = bF bs 0 (f0 bs)) (h2v : x1 = nV bs a1 f1) (h2a : a2 = nA bs a1 f1) (h2f : f2 = nF bs a1 f1) (h3v : ds = dV bs a2 f2) (h3a : a3 = dA bs a2 f2) (h3f : f3 = dF bs a2 f2) (h4v : dd = dV bs a3 f3) (h4a : a4 = dA bs a3 f3) (h4f : f4 = dF bs a3 f3) (h5v : x2 = nV bs a4 f4) (h5a : a5 = nA bs a4 f4) (h5f : f5 = nF bs a4 f4)
    (V : Cm) (RE : Int) (hyes : (f5 = 0 ∧ ¬ a5 < bs.length ∧ m = 65 ∧ mayB ⟨(x1 : Int), ds, dd, (x2 : Int)⟩ = true) → V = ⟨(x1 : Int), ds, dd, (x2 : Int)⟩ ∧ RE = 0) (hno : ¬ (f5 = 0 ∧ ¬ a5 < bs.length ∧ m = 65 ∧ mayB ⟨(x1 : Int), ds, dd, (x2 : Int)⟩ = true) → V = zC ∧ RE = 160)
    (g : Nat) (A : Option Addr) (cap : Nat) (ao : Nat) (n : Nat) (hb : bs.length = n) (hl : n ≤ 140737488355328) (hc : n ≤ cap) (hlies : (bs = [] ∧ (A = none → cap = 0)) ∨ A = some ⟨g, ao, none⟩) (w : World) (hr : 0 < bs.length → w.rangeAt g ao (vB bs)) : Calls Try.prog 13 #[.slice A n cap] w fun e w' => e = .returned (.tuple #[.agg V.cells.toArray, .int .i64 RE]) ∧ Below w.heap.size w w' := by
  have hds : ds.length = 32 := by rw [h3v]; exact dV_len _ _ _
  have hdd : dd.length = 32 := by rw [h4v]; exact dV_len _ _ _
  obtain ⟨K, hK⟩ : ∃ K : Cm, K = ⟨(x1 : Int), ds, dd, (x2 : Int)⟩ := ⟨_, rfl⟩
  have hKW : K.Wf := by rw [hK]; exact ⟨hds, hdd⟩
  have HMB : Hid (∀ X, Calls Try.prog 40 #[.agg K.cells.toArray] X fun e w' => e = .returned (.bool (mayB K)) ∧ Below X.heap.size X w') := fun X => formed_any K hKW _ rfl X
  have HK : Hid (K = ⟨(x1 : Int), ds, dd, (x2 : Int)⟩) := hK
  have HKW : Hid K.Wf := hKW
  have HDS : Hid (ds.length = 32) := hds
  have HDD : Hid (dd.length = 32) := hdd
  have HIA : Hid ((Try.prog.info? 23).map (·.size) = some (vB ds).length) := info_Dg _ hds
  have HIW : Hid ((Try.prog.info? 23).map (·.size) = some (vB dd).length) := info_Dg _ hdd
  have H0v : Hid (m = bV bs 0 (f0 bs)) := hm
  have H0a : Hid (a1 = bA bs 0 (f0 bs)) := h1a
  have H0f : Hid (f1 = bF bs 0 (f0 bs)) := h1f
  have H1v : Hid (x1 = nV bs a1 f1) := h2v
  have H1a : Hid (a2 = nA bs a1 f1) := h2a
  have H1f : Hid (f2 = nF bs a1 f1) := h2f
  have H2v : Hid (ds = dV bs a2 f2) := h3v
  have H2a : Hid (a3 = dA bs a2 f2) := h3a
  have H2f : Hid (f3 = dF bs a2 f2) := h3f
  have H3v : Hid (dd = dV bs a3 f3) := h4v
  have H3a : Hid (a4 = dA bs a3 f3) := h4a
  have H3f : Hid (f4 = dF bs a3 f3) := h4f
  have H4v : Hid (x2 = nV bs a4 f4) := h5v
  have H4a : Hid (a5 = nA bs a4 f4) := h5a
  have H4f : Hid (f5 = nF bs a4 f4) := h5f
  have HGL0 : Hid (0 < bs.length → g < w.heap.size) := fun e => range_lt (hr e) e
  have HRD : Hid (∀ X, Below w.heap.size w X → Calls Try.prog 50 #[.slice A n cap] X fun e w' => e = .returned (.pointer (some ⟨X.heap.size, 0, none⟩)) ∧ Rq w' X.heap.size g A cap ao bs 0 (f0 bs) ∧ Below X.heap.size X w') := fun X k => qread_any g A cap ao bs n hb hl hc hlies X (fun e => range_be (hr e) k)
  have HYE : Hid ((f5 = 0 ∧ ¬ a5 < bs.length ∧ m = 65 ∧ mayB K = true) → V = K ∧ RE = 0) := by rw [hK]; exact hyes
  have HNE : Hid (¬ (f5 = 0 ∧ ¬ a5 < bs.length ∧ m = 65 ∧ mayB K = true) → V = zC ∧ RE = 160) := by rw [hK]; exact hno
  clear hyes hno hm h1a h1f h2v h2a h2f h3v h3a h3f h4v h4a h4f h5v h5a h5f hb hl hc hlies hr hds hdd hK hKW
  go_enter Try.func13, Try.ntmps13
  go_upto_region 1 with (refine wpList_alC rfl rfl ?_; intro X0 q1 q2 q3; have RQ : Hid (Row X0 w.heap.size zC.cells tC) := q1; have B0 : Hid (Below w.heap.size w X0) := q2; clear q1 q2 q3; simp only [Act.put, List.setIfInBounds_toArray, List.set_cons_zero, List.set_cons_succ])
  go_upto_region 2 with (go_at_call 50; refine Calls.mono (HRD.out X0 B0.out) ?_; rintro e X1 ⟨rfl, q1, q2⟩; have G1 : Hid (Rq X1 X0.heap.size g A cap ao bs 0 (f0 bs)) := q1; have B1 : Hid (Below X0.heap.size X0 X1) := q2; clear q1 q2)
  have RQ1 : Row X1 w.heap.size zC.cells tC := Row.below RQ.out B1.out RQ.out.lt
  have B01 : Below w.heap.size w X1 := B0.out.trans (B1.out.mono B0.out.size)
  obtain ⟨D, hD⟩ : ∃ D, D = X0.heap.size := ⟨_, rfl⟩
  have HP0 : Hid (w.heap.size ≤ D) := by show _ ≤ _; rw [hD]; exact B0.out.size
  rw [← hD] at G1 ⊢
  have HFB : Hid (Calls Try.prog 51 #[.pointer (some ⟨D, 0, none⟩)] X1 fun e w' => e = .returned (.int .u8 (m : Int)) ∧ Rq w' D g A cap ao bs a1 f1 ∧ Row w' w.heap.size zC.cells tC ∧ Below w.heap.size w w') := by
    refine (q_byte G1.out).mono ?_
    rintro e w' ⟨rfl, h2, k⟩
    exact ⟨by rw [H0v.out], by rw [H0a.out, H0f.out]; exact h2, k.row RQ1 (row_ne RQ1 G1.out.row (by decide)), B01.trans (k.to_below B01.size (fun g e => by rw [e]; exact HP0.out))⟩
  clear RQ1 B01 hD
  go_upto_region 3 with (go_at_call 51; refine Calls.mono HFB.out ?_; rintro e X2 ⟨rfl, q1, q2, q3⟩; have G2 : Hid (Rq X2 D g A cap ao bs a1 f1) := q1; have RQ2 : Hid (Row X2 w.heap.size zC.cells tC) := q2; have B2 : Hid (Below w.heap.size w X2) := q3; clear q1 q2 q3)
  go_upto_region 4 with (refine wpList_alC rfl rfl ?_; intro X3 q1 q2 q3; have RB : Hid (Row X3 X2.heap.size zC.cells tC) := q1; have B3 : Hid (Below X2.heap.size X2 X3) := q2; clear q1 q2 q3; simp only [Act.put, List.setIfInBounds_toArray, List.set_cons_zero, List.set_cons_succ])
  have S1' : Rz w X3 w.heap.size D g A cap ao bs a1 f1 X2.heap.size zC.cells := ⟨G2.out.be B3.out, RB.out, Row.below RQ2.out B3.out RQ2.out.lt, RQ2.out.lt, rfl, HP0.out, HGL0.out, B2.out.trans (B3.out.mono B2.out.size)⟩
  obtain ⟨q, hq⟩ : ∃ q, q = w.heap.size := ⟨_, rfl⟩
  obtain ⟨b, hb⟩ : ∃ b, b = X2.heap.size := ⟨_, rfl⟩
  rw [← hb] at S1' ⊢
  rw [← hq] at S1' ⊢
  have S1 : Hid (Rz w X3 q D g A cap ao bs a1 f1 b (Cm.cells zC)) := S1'
  have HQ0 : Hid (q = w.heap.size) := hq
  clear hq hb S1' RB B3 G2 HFB B1 G1 HRD RQ B0 RQ2 B2
  go_upto_region 5 with (first
    | (go_at_call 52; refine Calls.mono (rz_number S1.out) ?_; rintro e Y ⟨rfl, h⟩; rw [← H1v.out]; have T1 : Hid (Rz w Y q D g A cap ao bs a2 f2 b (Cm.cells zC)) := (by rw [H1a.out, H1f.out]; exact h); clear h)
    | (refine wpList_st1 rfl 3 (.tmp 14) (.tmp 13) rfl b 0 (.int .i64 (x1 : Int)) (Cm.cells zC) tC rfl rfl rfl T1.out.rl (by rw [Cm.len zC_wf]; decide) info_int rfl ?_; intro Z q1 q2; have q1 : Row Z b (Cm.cells ⟨(x1 : Int), zD, zD, 0⟩) tC := q1; have S2 : Hid (Rz w Z q D g A cap ao bs a2 f2 b (Cm.cells ⟨(x1 : Int), zD, zD, 0⟩)) := T1.out.put q1 q2; clear q1 q2; simp only [Act.put]))
  clear S1 T1
  go_upto_region 6 with (first
    | (go_at_call 53; refine Calls.mono (rz_digest S2.out) ?_; rintro e Y ⟨rfl, h⟩; rw [← H2v.out]; have T2 : Hid (Rz w Y q D g A cap ao bs a3 f3 b (Cm.cells ⟨(x1 : Int), zD, zD, 0⟩)) := (by rw [H2a.out, H2f.out]; exact h); clear h)
    | (refine wpList_stM rfl 23 (.tmp 17) (.tmp 16) rfl b 1 (vB ds) (Cm.cells ⟨(x1 : Int), zD, zD, 0⟩) tC rfl rfl T2.out.rl (by rw [Cm.len (⟨zD_len, zD_len⟩ : Cm.Wf ⟨(x1 : Int), zD, zD, 0⟩), vB_length, HDS.out]; decide) HIA.out (vB_allD _) ?_; intro Z q1 q2; rw [Cm.put_s _ _ _ _ _ zD_len HDS.out] at q1; have S3 : Hid (Rz w Z q D g A cap ao bs a3 f3 b (Cm.cells ⟨(x1 : Int), ds, zD, 0⟩)) := T2.out.put q1 q2; clear q1 q2; simp only [Act.put]))
  clear S2 T2
  go_upto_region 7 with (first
    | (go_at_call 53; refine Calls.mono (rz_digest S3.out) ?_; rintro e Y ⟨rfl, h⟩; rw [← H3v.out]; have T3 : Hid (Rz w Y q D g A cap ao bs a4 f4 b (Cm.cells ⟨(x1 : Int), ds, zD, 0⟩)) := (by rw [H3a.out, H3f.out]; exact h); clear h)
    | (refine wpList_stM rfl 23 (.tmp 20) (.tmp 19) rfl b 33 (vB dd) (Cm.cells ⟨(x1 : Int), ds, zD, 0⟩) tC rfl rfl T3.out.rl (by rw [Cm.len (⟨HDS.out, zD_len⟩ : Cm.Wf ⟨(x1 : Int), ds, zD, 0⟩), vB_length, HDD.out]; decide) HIW.out (vB_allD _) ?_; intro Z q1 q2; rw [Cm.put_o _ _ _ _ _ HDS.out zD_len HDD.out] at q1; have S4 : Hid (Rz w Z q D g A cap ao bs a4 f4 b (Cm.cells ⟨(x1 : Int), ds, dd, 0⟩)) := T3.out.put q1 q2; clear q1 q2; simp only [Act.put]))
  clear S3 T3
  go_upto_region 8 with (first
    | (go_at_call 52; refine Calls.mono (rz_number S4.out) ?_; rintro e Y ⟨rfl, h⟩; rw [← H4v.out]; have T4 : Hid (Rz w Y q D g A cap ao bs a5 f5 b (Cm.cells ⟨(x1 : Int), ds, dd, 0⟩)) := (by rw [H4a.out, H4f.out]; exact h); clear h)
    | (refine wpList_st1 rfl 3 (.tmp 23) (.tmp 22) rfl b 65 (.int .i64 (x2 : Int)) (Cm.cells ⟨(x1 : Int), ds, dd, 0⟩) tC rfl rfl rfl T4.out.rl (by rw [Cm.len (⟨HDS.out, HDD.out⟩ : Cm.Wf ⟨(x1 : Int), ds, dd, 0⟩)]; decide) info_int rfl ?_; intro Z q1 q2; rw [Cm.put_k HDS.out HDD.out] at q1; have S5 : Hid (Rz w Z q D g A cap ao bs a5 f5 b (Cm.cells ⟨(x1 : Int), ds, dd, (x2 : Int)⟩)) := T4.out.put q1 q2; clear q1 q2; simp only [Act.put]))
  clear S4 T4
  rw [← HK.out] at S5
  have HI : Hid ((Try.prog.info? tC).map (·.size) = some K.cells.length) := Cm.info HKW.out
  have HLL : Hid (K.cells.length = zC.cells.length) := by show _ = _; rw [Cm.len HKW.out, Cm.len zC_wf]
  have HO : Hid (K.cells.toArray.all (·.oneCell') = true) := all_one (Cm.one K)
  have HIZ : Hid ((Try.prog.info? tC).map (·.size) = some zC.cells.length) := Cm.info zC_wf
  have HOZ : Hid (zC.cells.toArray.all (·.oneCell') = true) := all_one (Cm.one zC)
  obtain ⟨L, hL⟩ : ∃ L, L = K.cells := ⟨_, rfl⟩
  have HL : Hid (L = K.cells) := hL
  obtain ⟨Z0, hZ0⟩ : ∃ L, L = zC.cells := ⟨_, rfl⟩
  have HZ0 : Hid (Z0 = zC.cells) := hZ0
  have HBZ : Hid (Try.prog.built tC [] = some Z0.toArray) := by rw [hZ0]; exact built_zC
  rw [← hL] at S5 HMB HI HLL HO
  rw [← hZ0] at HLL HIZ HOZ
  have SQ : Hid (Row Z q Z0 tC) := by rw [hZ0]; exact S5.out.rq
  obtain ⟨ee, hee⟩ : ∃ ee, ee = (if f5 = 0 then (if a5 < bs.length then (33 : Int) else 0) else f5) := ⟨_, rfl⟩
  have HEN : Hid _ := rz_end S5.out
  rw [← hee] at HEN
  have HEE : Hid (ee = 0 ↔ (f5 = 0 ∧ ¬ a5 < bs.length)) := by
    rw [hee]
    by_cases z1 : f5 = 0
    · rw [if_pos z1]
      by_cases z2 : a5 < bs.length
      · rw [if_pos z2]; exact ⟨(fun z => by cases z), fun z => absurd z2 z.2⟩
      · rw [if_neg z2]; exact ⟨fun _ => ⟨z1, z2⟩, fun _ => rfl⟩
    · rw [if_neg z1]; exact ⟨fun z => absurd z z1, fun z => absurd z.1 z1⟩
  obtain ⟨M, hM⟩ : ∃ M, M = mayB K := ⟨_, rfl⟩
  have HM : Hid (M = mayB K) := hM
  rw [← hM] at HMB
  clear hL hZ0 HIA HIW HDS HDD hee hM SQ
  go_upto_region 9 with (go_at_call 54; refine Calls.mono HEN.out ?_; rintro e Y6 ⟨rfl, h⟩; have T6 : Hid (Rz w Y6 q D g A cap ao bs a5 f5 b L) := h; have T7 : Hid (Rz w Y6 q D g A cap ao bs a5 f5 b L) := h; clear h)
  by_cases z1 : ee = 0
  · by_cases z2 : m = 65
    · cases z3 : M with
      | true =>
        have HYES : Hid (V = K ∧ RE = 0) := HYE.out ⟨(HEE.out.1 z1).1, (HEE.out.1 z1).2, z2, by rw [← HM.out]; exact z3⟩
        rw [z3] at HMB
        subst z1 z2
        clear z3
        go_upto_region 11 with (first
          | (refine wpList_ldS rfl tC (.tmp 6) rfl b 0 rfl L _ T6.out.rl.all Try.underlying25 rfl HI.out ?_; simp only [Act.put, List.setIfInBounds_toArray, List.set_cons_zero, List.set_cons_succ])
          | (go_at_call 40; refine Calls.mono (HMB.out Y6) ?_; rintro e Y7 ⟨rfl, h⟩; have T8 : Hid (Rz w Y7 q D g A cap ao bs a5 f5 b L) := T6.out.keep h; clear T7; have T7 : Hid (Rz w Y7 q D g A cap ao bs a5 f5 b L) := T8.out; clear h T8))
        go_wp2_with (first
          | (refine wpList_ldS rfl tC (.tmp 6) rfl b 0 rfl L _ T7.out.rl.all Try.underlying25 rfl HI.out ?_; simp only [Act.put, List.setIfInBounds_toArray, List.set_cons_zero, List.set_cons_succ])
          | (refine wpList_stL rfl tC (.tmp 2) (.tmp 38) rfl q L Z0 tC rfl rfl (by rw [HZ0.out]; exact T7.out.rq) HLL.out HI.out HO.out ?_; intro X9 q1 q2; have R9 : Hid (Row X9 q L tC) := q1; have B9 : Hid (Below w.heap.size w X9) := gro_newL T7.out.be (by rw [HQ0.out]; exact Nat.le_refl _) q2; clear q1 q2; simp only [Act.put]))
        exact bodyPost_ret (results_rSt Try.results13 _ _ q tC L (.int .i64 0) rfl rfl R9.out Try.underlying25 HI.out) rfl ⟨by rw [HYES.out.1, HYES.out.2, HL.out], B9.out⟩
      | false =>
        have HNOT : Hid (V = zC ∧ RE = 160) := HNE.out (fun z => by have := z.2.2.2; rw [← HM.out, z3] at this; cases this)
        rw [z3] at HMB
        subst z1 z2
        clear z3
        go_wp2_with (first
          | (refine wpList_ldS rfl tC (.tmp 6) rfl b 0 rfl L _ T6.out.rl.all Try.underlying25 rfl HI.out ?_; simp only [Act.put, List.setIfInBounds_toArray, List.set_cons_zero, List.set_cons_succ])
          | (go_at_call 40; refine Calls.mono (HMB.out Y6) ?_; rintro e Y7 ⟨rfl, h⟩; have T8 : Hid (Rz w Y7 q D g A cap ao bs a5 f5 b L) := T6.out.keep h; clear T7; have T7 : Hid (Rz w Y7 q D g A cap ao bs a5 f5 b L) := T8.out; clear h T8)
          | (refine wpList_blt rfl tC _ rfl [] rfl Z0 HBZ.out ?_; simp only [Act.put, List.setIfInBounds_toArray, List.set_cons_zero, List.set_cons_succ])
          | (refine wpList_stL rfl tC (.tmp 2) (.tmp 37) rfl q Z0 Z0 tC rfl rfl (by rw [HZ0.out]; exact T7.out.rq) rfl HIZ.out HOZ.out ?_; intro X9 q1 q2; have R9 : Hid (Row X9 q Z0 tC) := q1; have B9 : Hid (Below w.heap.size w X9) := gro_newL T7.out.be (by rw [HQ0.out]; exact Nat.le_refl _) q2; clear q1 q2; simp only [Act.put]))
        exact bodyPost_ret (results_rSt Try.results13 _ _ q tC Z0 (.int .i64 160) rfl rfl R9.out Try.underlying25 HIZ.out) rfl ⟨by rw [HNOT.out.1, HNOT.out.2, HZ0.out], B9.out⟩
    · have HNOT : Hid (V = zC ∧ RE = 160) := HNE.out (fun z => z2 z.2.2.1)
      have ez2 : ((m : Int) != 65) = true := by simp; omega
      subst z1
      go_wp2_with (first
        | (refine wpList_blt rfl tC _ rfl [] rfl Z0 HBZ.out ?_; simp only [Act.put, List.setIfInBounds_toArray, List.set_cons_zero, List.set_cons_succ])
        | (refine wpList_stL rfl tC (.tmp 2) (.tmp 37) rfl q Z0 Z0 tC rfl rfl (by rw [HZ0.out]; exact T7.out.rq) rfl HIZ.out HOZ.out ?_; intro X9 q1 q2; have R9 : Hid (Row X9 q Z0 tC) := q1; have B9 : Hid (Below w.heap.size w X9) := gro_newL T7.out.be (by rw [HQ0.out]; exact Nat.le_refl _) q2; clear q1 q2; simp only [Act.put]))
      exact bodyPost_ret (results_rSt Try.results13 _ _ q tC Z0 (.int .i64 160) rfl rfl R9.out Try.underlying25 HIZ.out) rfl ⟨by rw [HNOT.out.1, HNOT.out.2, HZ0.out], B9.out⟩
  · have HNOT : Hid (V = zC ∧ RE = 160) := HNE.out (fun z => z1 (HEE.out.2 ⟨z.1, z.2.1⟩))
    have ez1 : (ee != 0) = true := by simpa using z1
    clear z1
    go_wp2_with (first
      | (refine wpList_blt rfl tC _ rfl [] rfl Z0 HBZ.out ?_; simp only [Act.put, List.setIfInBounds_toArray, List.set_cons_zero, List.set_cons_succ])
      | (refine wpList_stL rfl tC (.tmp 2) (.tmp 37) rfl q Z0 Z0 tC rfl rfl (by rw [HZ0.out]; exact T7.out.rq) rfl HIZ.out HOZ.out ?_; intro X9 q1 q2; have R9 : Hid (Row X9 q Z0 tC) := q1; have B9 : Hid (Below w.heap.size w X9) := gro_newL T7.out.be (by rw [HQ0.out]; exact Nat.le_refl _) q2; clear q1 q2; simp only [Act.put]))
    exact bodyPost_ret (results_rSt Try.results13 _ _ q tC Z0 (.int .i64 160) rfl rfl R9.out Try.underlying25 HIZ.out) rfl ⟨by rw [HNOT.out.1, HNOT.out.2, HZ0.out], B9.out⟩

end Go.Proofs.Ytfommclhnfcioaa
