/-
  LadderBytes: the program's Read.
-/
import Derived.Test.YtfommclhnfcioaaLbA
namespace Go.Proofs.Ytfommclhnfcioaa
open Go Go.RowKit
open Sha

def bV (bs : List (BitVec 8)) (a : Nat) (f : Int) : Nat := if f = 0 ∧ byE bs a = 0 then at8 bs a else 0
def bA (bs : List (BitVec 8)) (a : Nat) (f : Int) : Nat := if f = 0 ∧ byE bs a = 0 then a + 1 else a
def bF (bs : List (BitVec 8)) (a : Nat) (f : Int) : Int := if f = 0 then byE bs a else f
def dV (bs : List (BitVec 8)) (a : Nat) (f : Int) : List (BitVec 8) := if f = 0 ∧ dgE 32 bs a = 0 then sub bs a 32 else List.replicate 32 0#8
def dA (bs : List (BitVec 8)) (a : Nat) (f : Int) : Nat := if f = 0 ∧ dgE 32 bs a = 0 then a + 32 else a
def dF (bs : List (BitVec 8)) (a : Nat) (f : Int) : Int := if f = 0 then dgE 32 bs a else f
theorem dV_len (bs : List (BitVec 8)) (a : Nat) (f : Int) : (dV bs a f).length = 32 := by
  unfold dV
  split
  · rename_i h
    have := dgE_ok h.2
    unfold sub
    rw [List.length_take, List.length_drop]
    omega
  · simp
/-- A reader, with a fault or without; a commit that is filled; the answer's place. -/
structure Rv (w0 w : World) (q P : Nat) (A : Option Addr) (cap : Nat) (bs : List (BitVec 8)) (a : Nat) (f : Int) (b : Nat) (L : List Value) : Prop where
  rx : Rx w P A cap bs a f
  rl : Row w b L tC
  rq : Row w q zC.cells tC
  qb : q < b
  q0 : q = w0.heap.size
  be : Below w0.heap.size w0 w
section
variable {w0 w w' : World} {q P cap a a' b : Nat} {f f' : Int} {A : Option Addr} {bs : List (BitVec 8)} {L M : List Value}
theorem Rx.at_row (h : Rx w P A cap bs a f) : ∃ v, Row w P [v, .int .i64 (a : Int), .int .i64 f] 129 := Rx.row h
theorem Rv.keep (h : Rv w0 w q P A cap bs a f b L) (k : Below w.heap.size w w') : Rv w0 w' q P A cap bs a f b L :=
  ⟨h.rx.be k, Row.below h.rl k h.rl.lt, Row.below h.rq k h.rq.lt, h.qb, h.q0, h.be.trans (k.mono h.be.size)⟩
theorem Rv.took (h : Rv w0 w q P A cap bs a f b L) (p0 : w0.heap.size ≤ P) (r : Rx w' P A cap bs a' f') (k : Gp P w w') : Rv w0 w' q P A cap bs a' f' b L := by
  obtain ⟨v, hr⟩ := h.rx.at_row
  exact ⟨r, k.row h.rl (row_ne h.rl hr (by decide)), k.row h.rq (row_ne h.rq hr (by decide)), h.qb, h.q0, h.be.trans (k.to_below h.be.size (fun g e => by rw [e]; exact p0))⟩
theorem Rv.put (h : Rv w0 w q P A cap bs a f b L) (r : Row w' b M tC) (k : Gro (· = b) w w') : Rv w0 w' q P A cap bs a f b M := by
  obtain ⟨v, hr⟩ := h.rx.at_row
  refine ⟨Rx.gro h.rx k (row_ne hr h.rl (by decide)) (fun hf g e => ?_), r, k.row h.rq (Nat.ne_of_lt h.qb), h.qb, h.q0, h.be.trans (k.to_below h.be.size (fun g e => by rw [e]; have h1 := h.qb; have h2 := h.q0; omega))⟩
  rcases h.rx with ⟨_, hg⟩ | ⟨hn, _⟩
  · exact Bw.ne hg.bw h.rl (by decide) g e
  · exact absurd hf hn
theorem rv_number (p0 : w0.heap.size ≤ P) (h : Rv w0 w q P A cap bs a f b L) : Calls Try.prog 47 #[.pointer (some ⟨P, 0, none⟩)] w fun e w' => e = .returned (.int .i64 ((nV bs a f : Nat) : Int)) ∧ Rv w0 w' q P A cap bs (nA bs a f) (nF bs a f) b L := by
  refine (number_x P A cap bs a f w h.rx).mono ?_
  rintro e w' ⟨rfl, h2, h3⟩
  exact ⟨rfl, h.took p0 h2 h3⟩
theorem rv_digest (p0 : w0.heap.size ≤ P) (h : Rv w0 w q P A cap bs a f b L) : Calls Try.prog 48 #[.pointer (some ⟨P, 0, none⟩)] w fun e w' => e = .returned (.agg (vB (dV bs a f)).toArray) ∧ Rv w0 w' q P A cap bs (dA bs a f) (dF bs a f) b L := by
  rcases h.rx with ⟨hf, hg⟩ | ⟨hf, hg⟩
  · subst hf
    refine (face_digest P A cap bs a w hg).mono ?_
    rintro e w' ⟨h1, h2, h3⟩
    by_cases hz : dgE 32 bs a = 0
    · obtain ⟨rfl, hr⟩ := h1 hz
      have e1 : dV bs a 0 = sub bs a 32 := by unfold dV; rw [if_pos ⟨rfl, hz⟩]
      have e2 : dA bs a 0 = a + 32 := by unfold dA; rw [if_pos ⟨rfl, hz⟩]
      have e3 : dF bs a 0 = 0 := by unfold dF; rw [if_pos rfl, hz]
      rw [e1, e2, e3]
      exact ⟨rfl, h.took p0 (.inl ⟨rfl, hr⟩) h3⟩
    · obtain ⟨rfl, hr⟩ := h2 hz
      have e1 : dV bs a 0 = List.replicate 32 0#8 := by unfold dV; rw [if_neg (fun q => hz q.2)]
      have e2 : dA bs a 0 = a := by unfold dA; rw [if_neg (fun q => hz q.2)]
      have e3 : dF bs a 0 = dgE 32 bs a := by unfold dF; rw [if_pos rfl]
      rw [e1, e2, e3]
      exact ⟨rfl, h.took p0 (.inr ⟨hz, hr⟩) h3⟩
  · refine (none_dig P _ (a : Int) f hf w hg).mono ?_
    rintro e w' ⟨rfl, hb⟩
    have e1 : dV bs a f = List.replicate 32 0#8 := by unfold dV; rw [if_neg (fun q => hf q.1)]
    have e2 : dA bs a f = a := by unfold dA; rw [if_neg (fun q => hf q.1)]
    have e3 : dF bs a f = f := by unfold dF; rw [if_neg hf]
    rw [e1, e2, e3]
    exact ⟨rfl, h.keep hb⟩
theorem rv_end (h : Rv w0 w q P A cap bs a f b L) : Calls Try.prog 49 #[.pointer (some ⟨P, 0, none⟩)] w fun e w' => e = .returned (.int .i64 (if f = 0 then (if a < bs.length then 33 else 0) else f)) ∧ Rv w0 w' q P A cap bs a f b L := by
  rcases h.rx with ⟨hf, hg⟩ | ⟨hf, hg⟩
  · subst hf
    refine (end_rest P A cap bs a w hg).mono ?_
    rintro e w' ⟨rfl, m, rfl⟩
    exact ⟨by rw [if_pos rfl], h.keep ⟨rfl, rfl, rfl, Nat.le_refl _, fun _ _ => rfl⟩⟩
  · refine (end_shut P _ (a : Int) f hf w hg).mono ?_
    rintro e w' ⟨rfl, rfl⟩
    exact ⟨by rw [if_neg hf], h⟩
end
theorem Cm.put_s (n : Int) (s s' o : List (BitVec 8)) (k : Int) (h : s.length = 32) (h' : s'.length = 32) : (Cm.cells ⟨n, s, o, k⟩).take 1 ++ vB s' ++ (Cm.cells ⟨n, s, o, k⟩).drop (1 + (vB s').length) = Cm.cells ⟨n, s', o, k⟩ := by
  unfold Cm.cells
  rw [vB_length, h', List.take_succ_cons, List.take_zero, Nat.add_comm, List.drop_succ_cons, List.drop_left' (by rw [vB_length, h])]
  simp
theorem Cm.put_o (n : Int) (s o o' : List (BitVec 8)) (k : Int) (hs : s.length = 32) (h : o.length = 32) (h' : o'.length = 32) : (Cm.cells ⟨n, s, o, k⟩).take 33 ++ vB o' ++ (Cm.cells ⟨n, s, o, k⟩).drop (33 + (vB o').length) = Cm.cells ⟨n, s, o', k⟩ := by
  unfold Cm.cells
  have e1 : (Value.int .i64 n :: (vB s ++ (vB o ++ [.int .i64 k]))).take 33 = .int .i64 n :: vB s := by
    rw [List.take_succ_cons, List.take_left' (by rw [vB_length, hs])]
  have e2 : (Value.int .i64 n :: (vB s ++ (vB o ++ [.int .i64 k]))).drop (33 + (vB o').length) = [.int .i64 k] := by
    rw [vB_length, h', show 33 + 32 = (32 + 32) + 1 from rfl, List.drop_succ_cons, ← List.append_assoc, List.drop_left' (by simp [vB_length, hs, h])]
  rw [e1, e2]
  simp
theorem Cm.put_k {n : Int} {s o : List (BitVec 8)} {k : Int} (hs : s.length = 32) (h : o.length = 32) (k' : Int) : (Cm.cells ⟨n, s, o, k⟩).set 65 (.int .i64 k') = Cm.cells ⟨n, s, o, k'⟩ := by
  unfold Cm.cells
  rw [List.set_cons_succ, List.set_append_right _ _ (by rw [vB_length, hs]; decide), vB_length, hs, List.set_append_right _ _ (by rw [vB_length, h]; decide), vB_length, h]
  rfl
theorem zD_len : zD.length = 32 := by decide
theorem built_zC : Try.prog.built tC [] = some zC.cells.toArray := by kernel_rfl
theorem vB_allD (l : List (BitVec 8)) : (vB l).toArray.all (·.oneCell') = true := all_one (vB_one l)
set_option maxRecDepth 100000 in
set_option maxHeartbeats 4000000 in
theorem lread_x (bs : List (BitVec 8)) (m x1 x2 a1 a2 a3 a4 a5 : Nat) (f1 f2 f3 f4 f5 : Int) (ds dd : List (BitVec 8))
    (hm : m = bV bs 0 (f0 bs)) (h1a : a1 = bA bs 0 (f0 bs)) (h1f : f1 = bF bs 0 (f0 bs)) (h2v : x1 = nV bs a1 f1) (h2a : a2 = nA bs a1 f1) (h2f : f2 = nF bs a1 f1) (h3v : ds = dV bs a2 f2) (h3a : a3 = dA bs a2 f2) (h3f : f3 = dF bs a2 f2) (h4v : dd = dV bs a3 f3) (h4a : a4 = dA bs a3 f3) (h4f : f4 = dF bs a3 f3) (h5v : x2 = nV bs a4 f4) (h5a : a5 = nA bs a4 f4) (h5f : f5 = nF bs a4 f4)
    (V : Cm) (RE : Int) (hyes : (f5 = 0 ∧ ¬ a5 < bs.length ∧ m = 65 ∧ mayB ⟨(x1 : Int), ds, dd, (x2 : Int)⟩ = true) → V = ⟨(x1 : Int), ds, dd, (x2 : Int)⟩ ∧ RE = 0) (hno : ¬ (f5 = 0 ∧ ¬ a5 < bs.length ∧ m = 65 ∧ mayB ⟨(x1 : Int), ds, dd, (x2 : Int)⟩ = true) → V = zC ∧ RE = 160)
    (B : Option Addr) (n cb : Nat) (hb : bs.length = n) (hnil : B = none → cb = 0) (w : World) (hv : SlAt w (.slice B n cb) bs) : Calls Try.prog 12 #[.slice B n cb] w fun e w' => e = .returned (.tuple #[.agg V.cells.toArray, .int .i64 RE]) ∧ Below w.heap.size w w' := by
  have hds : ds.length = 32 := by rw [h3v]; exact dV_len _ _ _
  have hdd : dd.length = 32 := by rw [h4v]; exact dV_len _ _ _
  obtain ⟨K, hK⟩ : ∃ K : Cm, K = ⟨(x1 : Int), ds, dd, (x2 : Int)⟩ := ⟨_, rfl⟩
  have hKW : K.Wf := by rw [hK]; exact ⟨hds, hdd⟩
  have HMB : Hid (∀ X, Calls Try.prog 34 #[.agg K.cells.toArray] X fun e w' => e = .returned (.bool (mayB K)) ∧ Below X.heap.size X w') := fun X => mayBe_any K hKW _ rfl X
  have HK : Hid (K = ⟨(x1 : Int), ds, dd, (x2 : Int)⟩) := hK
  have HKW : Hid K.Wf := hKW
  have HDS : Hid (ds.length = 32) := hds
  have HDD : Hid (dd.length = 32) := hdd
  have HIA : Hid ((Try.prog.info? 23).map (·.size) = some (vB ds).length) := info_Dg _ hds
  have HIW : Hid ((Try.prog.info? 23).map (·.size) = some (vB dd).length) := info_Dg _ hdd
  have H0v : Hid (m = bV bs 0 (f0 bs)) := hm
  have H0a : Hid (a1 = bA bs 0 (f0 bs)) := h1a
  have H0f : Hid (f1 = bF bs 0 (f0 bs)) := h1f
  have H1v : Hid (x1 = nV bs a1 f1) := h2v
  have H1a : Hid (a2 = nA bs a1 f1) := h2a
  have H1f : Hid (f2 = nF bs a1 f1) := h2f
  have H2v : Hid (ds = dV bs a2 f2) := h3v
  have H2a : Hid (a3 = dA bs a2 f2) := h3a
  have H2f : Hid (f3 = dF bs a2 f2) := h3f
  have H3v : Hid (dd = dV bs a3 f3) := h4v
  have H3a : Hid (a4 = dA bs a3 f3) := h4a
  have H3f : Hid (f4 = dF bs a3 f3) := h4f
  have H4v : Hid (x2 = nV bs a4 f4) := h5v
  have H4a : Hid (a5 = nA bs a4 f4) := h5a
  have H4f : Hid (f5 = nF bs a4 f4) := h5f
  have HBL : Hid (bs.length = n ∧ (B = none → cb = 0)) := ⟨hb, hnil⟩
  have HV : Hid (SlAt w (.slice B n cb) bs) := hv
  have HYE : Hid ((f5 = 0 ∧ ¬ a5 < bs.length ∧ m = 65 ∧ mayB K = true) → V = K ∧ RE = 0) := by rw [hK]; exact hyes
  have HNE : Hid (¬ (f5 = 0 ∧ ¬ a5 < bs.length ∧ m = 65 ∧ mayB K = true) → V = zC ∧ RE = 160) := by rw [hK]; exact hno
  clear hyes hno hm h1a h1f h2v h2a h2f h3v h3a h3f h4v h4a h4f h5v h5a h5f hb hnil hv hds hdd hK hKW
  go_enter Try.func12, Try.ntmps12
  go_upto_region 1 with (refine wpList_alC rfl rfl ?_; intro X0 q1 q2 q3; have RQ : Hid (Row X0 w.heap.size zC.cells tC) := q1; have B0 : Hid (Below w.heap.size w X0) := q2; clear q1 q2 q3; simp only [Act.put, List.setIfInBounds_toArray, List.set_cons_zero, List.set_cons_succ])
  have HNR : Hid _ := newReader_x B n cb bs HBL.out.1 HBL.out.2 X0 (SlAt.be HV.out B0.out)
  go_upto_region 2 with (go_at_call 45; refine Calls.mono HNR.out ?_; rintro e X1 ⟨P, A, cap, rfl, q1, q2, q3, q4⟩; have G1 : Hid (Rx X1 P A cap bs 0 (f0 bs)) := q1; have HP : Hid (X0.heap.size ≤ P) := q2; have B1 : Hid (Below X0.heap.size X0 X1) := q4; clear q1 q2 q3 q4)
  have HP0 : Hid (w.heap.size ≤ P) := Nat.le_trans B0.out.size HP.out
  have RQ1 : Row X1 w.heap.size zC.cells tC := Row.below RQ.out B1.out RQ.out.lt
  have B01 : Below w.heap.size w X1 := B0.out.trans (B1.out.mono B0.out.size)
  have HFB : Hid (Calls Try.prog 46 #[.pointer (some ⟨P, 0, none⟩)] X1 fun e w' => e = .returned (.int .u8 (m : Int)) ∧ Rx w' P A cap bs a1 f1 ∧ Row w' w.heap.size zC.cells tC ∧ Below w.heap.size w w') := by
    have gg : ∀ w', Rx w' P A cap bs a1 f1 → Gp P X1 w' → Rx w' P A cap bs a1 f1 ∧ Row w' w.heap.size zC.cells tC ∧ Below w.heap.size w w' := fun w' r k => by
      obtain ⟨v, hr⟩ := G1.out.at_row
      exact ⟨r, k.row RQ1 (row_ne RQ1 hr (by decide)), B01.trans (k.to_below B01.size (fun g e => by rw [e]; exact HP0.out))⟩
    rcases G1.out with ⟨hf, hg⟩ | ⟨hf, hg⟩
    · refine (face_byte P A cap bs 0 X1 hg).mono ?_
      rintro e w' ⟨h1, h2, h3⟩
      by_cases hz : byE bs 0 = 0
      · obtain ⟨rfl, hr⟩ := h1 hz
        have e1 : m = at8 bs 0 := by rw [H0v.out]; unfold bV; rw [if_pos ⟨hf, hz⟩]
        have e2 : a1 = 0 + 1 := by rw [H0a.out]; unfold bA; rw [if_pos ⟨hf, hz⟩]
        have e3 : f1 = 0 := by rw [H0f.out]; unfold bF; rw [if_pos hf, hz]
        exact ⟨by rw [e1], gg w' (by rw [e2, e3]; exact .inl ⟨rfl, hr⟩) h3⟩
      · obtain ⟨rfl, hr⟩ := h2 hz
        have e1 : m = 0 := by rw [H0v.out]; unfold bV; rw [if_neg (fun q => hz q.2)]
        have e2 : a1 = 0 := by rw [H0a.out]; unfold bA; rw [if_neg (fun q => hz q.2)]
        have e3 : f1 = byE bs 0 := by rw [H0f.out]; unfold bF; rw [if_pos hf]
        exact ⟨by rw [e1]; rfl, gg w' (by rw [e2, e3]; exact .inr ⟨hz, hr⟩) h3⟩
    · refine (none_byte P _ ((0 : Nat) : Int) (f0 bs) hf X1 hg).mono ?_
      rintro e w' ⟨rfl, hb⟩
      have e1 : m = 0 := by rw [H0v.out]; unfold bV; rw [if_neg (fun q => hf q.1)]
      have e2 : a1 = 0 := by rw [H0a.out]; unfold bA; rw [if_neg (fun q => hf q.1)]
      have e3 : f1 = f0 bs := by rw [H0f.out]; unfold bF; rw [if_neg hf]
      exact ⟨by rw [e1]; rfl, gg w' (by rw [e2, e3]; exact G1.out.be hb) (Gro.of_below hb)⟩
  go_upto_region 3 with (go_at_call 46; refine Calls.mono HFB.out ?_; rintro e X2 ⟨rfl, q1, q2, q3⟩; have G2 : Hid (Rx X2 P A cap bs a1 f1) := q1; have RQ2 : Hid (Row X2 w.heap.size zC.cells tC) := q2; have B2 : Hid (Below w.heap.size w X2) := q3; clear q1 q2 q3)
  go_upto_region 4 with (refine wpList_alC rfl rfl ?_; intro X3 q1 q2 q3; have RB : Hid (Row X3 X2.heap.size zC.cells tC) := q1; have B3 : Hid (Below X2.heap.size X2 X3) := q2; clear q1 q2 q3; simp only [Act.put, List.setIfInBounds_toArray, List.set_cons_zero, List.set_cons_succ])
  have S1' : Rv w X3 w.heap.size P A cap bs a1 f1 X2.heap.size zC.cells := ⟨G2.out.be B3.out, RB.out, Row.below RQ2.out B3.out RQ2.out.lt, RQ2.out.lt, rfl, B2.out.trans (B3.out.mono B2.out.size)⟩
  obtain ⟨q, hq⟩ : ∃ q, q = w.heap.size := ⟨_, rfl⟩
  obtain ⟨b, hb⟩ : ∃ b, b = X2.heap.size := ⟨_, rfl⟩
  rw [← hb] at S1' ⊢
  rw [← hq] at S1' ⊢
  have S1 : Hid (Rv w X3 q P A cap bs a1 f1 b (Cm.cells zC)) := S1'
  have HQ0 : Hid (q = w.heap.size) := hq
  clear hq hb S1' RB B3 G2 HFB B1 HP G1 HNR RQ B0 RQ1 B01 RQ2 B2
  go_upto_region 5 with (first
    | (go_at_call 47; refine Calls.mono (rv_number HP0.out S1.out) ?_; rintro e Y ⟨rfl, h⟩; rw [← H1v.out]; have T1 : Hid (Rv w Y q P A cap bs a2 f2 b (Cm.cells zC)) := (by rw [H1a.out, H1f.out]; exact h); clear h)
    | (refine wpList_st1 rfl 3 (.tmp 13) (.tmp 12) rfl b 0 (.int .i64 (x1 : Int)) (Cm.cells zC) tC rfl rfl rfl T1.out.rl (by rw [Cm.len zC_wf]; decide) info_int rfl ?_; intro Z q1 q2; have q1 : Row Z b (Cm.cells ⟨(x1 : Int), zD, zD, 0⟩) tC := q1; have S2 : Hid (Rv w Z q P A cap bs a2 f2 b (Cm.cells ⟨(x1 : Int), zD, zD, 0⟩)) := T1.out.put q1 q2; clear q1 q2; simp only [Act.put]))
  clear S1 T1
  go_upto_region 6 with (first
    | (go_at_call 48; refine Calls.mono (rv_digest HP0.out S2.out) ?_; rintro e Y ⟨rfl, h⟩; rw [← H2v.out]; have T2 : Hid (Rv w Y q P A cap bs a3 f3 b (Cm.cells ⟨(x1 : Int), zD, zD, 0⟩)) := (by rw [H2a.out, H2f.out]; exact h); clear h)
    | (refine wpList_stM rfl 23 (.tmp 16) (.tmp 15) rfl b 1 (vB ds) (Cm.cells ⟨(x1 : Int), zD, zD, 0⟩) tC rfl rfl T2.out.rl (by rw [Cm.len (⟨zD_len, zD_len⟩ : Cm.Wf ⟨(x1 : Int), zD, zD, 0⟩), vB_length, HDS.out]; decide) HIA.out (vB_allD _) ?_; intro Z q1 q2; rw [Cm.put_s _ _ _ _ _ zD_len HDS.out] at q1; have S3 : Hid (Rv w Z q P A cap bs a3 f3 b (Cm.cells ⟨(x1 : Int), ds, zD, 0⟩)) := T2.out.put q1 q2; clear q1 q2; simp only [Act.put]))
  clear S2 T2
  go_upto_region 7 with (first
    | (go_at_call 48; refine Calls.mono (rv_digest HP0.out S3.out) ?_; rintro e Y ⟨rfl, h⟩; rw [← H3v.out]; have T3 : Hid (Rv w Y q P A cap bs a4 f4 b (Cm.cells ⟨(x1 : Int), ds, zD, 0⟩)) := (by rw [H3a.out, H3f.out]; exact h); clear h)
    | (refine wpList_stM rfl 23 (.tmp 19) (.tmp 18) rfl b 33 (vB dd) (Cm.cells ⟨(x1 : Int), ds, zD, 0⟩) tC rfl rfl T3.out.rl (by rw [Cm.len (⟨HDS.out, zD_len⟩ : Cm.Wf ⟨(x1 : Int), ds, zD, 0⟩), vB_length, HDD.out]; decide) HIW.out (vB_allD _) ?_; intro Z q1 q2; rw [Cm.put_o _ _ _ _ _ HDS.out zD_len HDD.out] at q1; have S4 : Hid (Rv w Z q P A cap bs a4 f4 b (Cm.cells ⟨(x1 : Int), ds, dd, 0⟩)) := T3.out.put q1 q2; clear q1 q2; simp only [Act.put]))
  clear S3 T3
  go_upto_region 8 with (first
    | (go_at_call 47; refine Calls.mono (rv_number HP0.out S4.out) ?_; rintro e Y ⟨rfl, h⟩; rw [← H4v.out]; have T4 : Hid (Rv w Y q P A cap bs a5 f5 b (Cm.cells ⟨(x1 : Int), ds, dd, 0⟩)) := (by rw [H4a.out, H4f.out]; exact h); clear h)
    | (refine wpList_st1 rfl 3 (.tmp 22) (.tmp 21) rfl b 65 (.int .i64 (x2 : Int)) (Cm.cells ⟨(x1 : Int), ds, dd, 0⟩) tC rfl rfl rfl T4.out.rl (by rw [Cm.len (⟨HDS.out, HDD.out⟩ : Cm.Wf ⟨(x1 : Int), ds, dd, 0⟩)]; decide) info_int rfl ?_; intro Z q1 q2; rw [Cm.put_k HDS.out HDD.out] at q1; have S5 : Hid (Rv w Z q P A cap bs a5 f5 b (Cm.cells ⟨(x1 : Int), ds, dd, (x2 : Int)⟩)) := T4.out.put q1 q2; clear q1 q2; simp only [Act.put]))
  clear S4 T4
  rw [← HK.out] at S5
  have HI : Hid ((Try.prog.info? tC).map (·.size) = some K.cells.length) := Cm.info HKW.out
  have HLL : Hid (K.cells.length = zC.cells.length) := by show _ = _; rw [Cm.len HKW.out, Cm.len zC_wf]
  have HO : Hid (K.cells.toArray.all (·.oneCell') = true) := all_one (Cm.one K)
  have HIZ : Hid ((Try.prog.info? tC).map (·.size) = some zC.cells.length) := Cm.info zC_wf
  have HOZ : Hid (zC.cells.toArray.all (·.oneCell') = true) := all_one (Cm.one zC)
  obtain ⟨L, hL⟩ : ∃ L, L = K.cells := ⟨_, rfl⟩
  have HL : Hid (L = K.cells) := hL
  obtain ⟨Z0, hZ0⟩ : ∃ L, L = zC.cells := ⟨_, rfl⟩
  have HZ0 : Hid (Z0 = zC.cells) := hZ0
  have HBZ : Hid (Try.prog.built tC [] = some Z0.toArray) := by rw [hZ0]; exact built_zC
  rw [← hL] at S5 HMB HI HLL HO
  rw [← hZ0] at HLL HIZ HOZ
  have SQ : Hid (Row Z q Z0 tC) := by rw [hZ0]; exact S5.out.rq
  obtain ⟨ee, hee⟩ : ∃ ee, ee = (if f5 = 0 then (if a5 < bs.length then (33 : Int) else 0) else f5) := ⟨_, rfl⟩
  have HEN : Hid _ := rv_end S5.out
  rw [← hee] at HEN
  have HEE : Hid (ee = 0 ↔ (f5 = 0 ∧ ¬ a5 < bs.length)) := by
    rw [hee]
    by_cases z1 : f5 = 0
    · rw [if_pos z1]
      by_cases z2 : a5 < bs.length
      · rw [if_pos z2]; exact ⟨(fun z => by cases z), fun z => absurd z2 z.2⟩
      · rw [if_neg z2]; exact ⟨fun _ => ⟨z1, z2⟩, fun _ => rfl⟩
    · rw [if_neg z1]; exact ⟨fun z => absurd z z1, fun z => absurd z.1 z1⟩
  obtain ⟨M, hM⟩ : ∃ M, M = mayB K := ⟨_, rfl⟩
  have HM : Hid (M = mayB K) := hM
  rw [← hM] at HMB
  clear hL hZ0 HIA HIW HDS HDD hee hM SQ
  by_cases z2 : m = 65
  · by_cases z1 : ee = 0
    · cases z3 : M with
      | true =>
        have HYES : Hid (V = K ∧ RE = 0) := HYE.out ⟨(HEE.out.1 z1).1, (HEE.out.1 z1).2, z2, by rw [← HM.out]; exact z3⟩
        rw [z3] at HMB
        rw [z1] at HEN
        subst z2
        clear z1 z3
        go_upto_region 10 with (first
          | (go_at_call 49; refine Calls.mono HEN.out ?_; rintro e Y6 ⟨rfl, h⟩; have T6 : Hid (Rv w Y6 q P A cap bs a5 f5 b L) := h; have T7 : Hid (Rv w Y6 q P A cap bs a5 f5 b L) := h; clear h)
          | (refine wpList_ldS rfl tC (.tmp 6) rfl b 0 rfl L _ T6.out.rl.all Try.underlying25 rfl HI.out ?_; simp only [Act.put, List.setIfInBounds_toArray, List.set_cons_zero, List.set_cons_succ])
          | (go_at_call 34; refine Calls.mono (HMB.out Y6) ?_; rintro e Y7 ⟨rfl, h⟩; have T8 : Hid (Rv w Y7 q P A cap bs a5 f5 b L) := T6.out.keep h; clear T7; have T7 : Hid (Rv w Y7 q P A cap bs a5 f5 b L) := T8.out; clear h T8))
        go_wp2_with (first
          | (refine wpList_ldS rfl tC (.tmp 6) rfl b 0 rfl L _ T7.out.rl.all Try.underlying25 rfl HI.out ?_; simp only [Act.put, List.setIfInBounds_toArray, List.set_cons_zero, List.set_cons_succ])
          | (refine wpList_stL rfl tC (.tmp 2) (.tmp 36) rfl q L Z0 tC rfl rfl (by rw [HZ0.out]; exact T7.out.rq) HLL.out HI.out HO.out ?_; intro X9 q1 q2; have R9 : Hid (Row X9 q L tC) := q1; have B9 : Hid (Below w.heap.size w X9) := gro_newL T7.out.be (by rw [HQ0.out]; exact Nat.le_refl _) q2; clear q1 q2; simp only [Act.put]))
        exact bodyPost_ret (results_rSt Try.results12 _ _ q tC L (.int .i64 0) rfl rfl R9.out Try.underlying25 HI.out) rfl ⟨by rw [HYES.out.1, HYES.out.2, HL.out], B9.out⟩
      | false =>
        have HNOT : Hid (V = zC ∧ RE = 160) := HNE.out (fun z => by have := z.2.2.2; rw [← HM.out, z3] at this; cases this)
        rw [z3] at HMB
        rw [z1] at HEN
        subst z2
        clear z1 z3
        go_wp2_with (first
          | (go_at_call 49; refine Calls.mono HEN.out ?_; rintro e Y6 ⟨rfl, h⟩; have T6 : Hid (Rv w Y6 q P A cap bs a5 f5 b L) := h; have T7 : Hid (Rv w Y6 q P A cap bs a5 f5 b L) := h; clear h)
          | (refine wpList_ldS rfl tC (.tmp 6) rfl b 0 rfl L _ T6.out.rl.all Try.underlying25 rfl HI.out ?_; simp only [Act.put, List.setIfInBounds_toArray, List.set_cons_zero, List.set_cons_succ])
          | (go_at_call 34; refine Calls.mono (HMB.out Y6) ?_; rintro e Y7 ⟨rfl, h⟩; have T8 : Hid (Rv w Y7 q P A cap bs a5 f5 b L) := T6.out.keep h; clear T7; have T7 : Hid (Rv w Y7 q P A cap bs a5 f5 b L) := T8.out; clear h T8)
          | (refine wpList_blt rfl tC _ rfl [] rfl Z0 HBZ.out ?_; simp only [Act.put, List.setIfInBounds_toArray, List.set_cons_zero, List.set_cons_succ])
          | (refine wpList_stL rfl tC (.tmp 2) (.tmp 35) rfl q Z0 Z0 tC rfl rfl (by rw [HZ0.out]; exact T7.out.rq) rfl HIZ.out HOZ.out ?_; intro X9 q1 q2; have R9 : Hid (Row X9 q Z0 tC) := q1; have B9 : Hid (Below w.heap.size w X9) := gro_newL T7.out.be (by rw [HQ0.out]; exact Nat.le_refl _) q2; clear q1 q2; simp only [Act.put]))
        exact bodyPost_ret (results_rSt Try.results12 _ _ q tC Z0 (.int .i64 160) rfl rfl R9.out Try.underlying25 HIZ.out) rfl ⟨by rw [HNOT.out.1, HNOT.out.2, HZ0.out], B9.out⟩
    · have HNOT : Hid (V = zC ∧ RE = 160) := HNE.out (fun z => z1 (HEE.out.2 ⟨z.1, z.2.1⟩))
      have ez1 : (ee != 0) = true := by simpa using z1
      subst z2
      clear z1
      go_wp2_with (first
        | (go_at_call 49; refine Calls.mono HEN.out ?_; rintro e Y6 ⟨rfl, h⟩; have T6 : Hid (Rv w Y6 q P A cap bs a5 f5 b L) := h; have T7 : Hid (Rv w Y6 q P A cap bs a5 f5 b L) := h; clear h)
        | (refine wpList_blt rfl tC _ rfl [] rfl Z0 HBZ.out ?_; simp only [Act.put, List.setIfInBounds_toArray, List.set_cons_zero, List.set_cons_succ])
        | (refine wpList_stL rfl tC (.tmp 2) (.tmp 35) rfl q Z0 Z0 tC rfl rfl (by rw [HZ0.out]; exact T7.out.rq) rfl HIZ.out HOZ.out ?_; intro X9 q1 q2; have R9 : Hid (Row X9 q Z0 tC) := q1; have B9 : Hid (Below w.heap.size w X9) := gro_newL T7.out.be (by rw [HQ0.out]; exact Nat.le_refl _) q2; clear q1 q2; simp only [Act.put]))
      exact bodyPost_ret (results_rSt Try.results12 _ _ q tC Z0 (.int .i64 160) rfl rfl R9.out Try.underlying25 HIZ.out) rfl ⟨by rw [HNOT.out.1, HNOT.out.2, HZ0.out], B9.out⟩
  · have HNOT : Hid (V = zC ∧ RE = 160) := HNE.out (fun z => z2 z.2.2.1)
    have ez2 : ((m : Int) != 65) = true := by simp; omega
    have T7 : Hid (Rv w Z q P A cap bs a5 f5 b L) := S5.out
    go_wp2_with (first
      | (refine wpList_blt rfl tC _ rfl [] rfl Z0 HBZ.out ?_; simp only [Act.put, List.setIfInBounds_toArray, List.set_cons_zero, List.set_cons_succ])
      | (refine wpList_stL rfl tC (.tmp 2) (.tmp 35) rfl q Z0 Z0 tC rfl rfl (by rw [HZ0.out]; exact T7.out.rq) rfl HIZ.out HOZ.out ?_; intro X9 q1 q2; have R9 : Hid (Row X9 q Z0 tC) := q1; have B9 : Hid (Below w.heap.size w X9) := gro_newL T7.out.be (by rw [HQ0.out]; exact Nat.le_refl _) q2; clear q1 q2; simp only [Act.put]))
    exact bodyPost_ret (results_rSt Try.results12 _ _ q tC Z0 (.int .i64 160) rfl rfl R9.out Try.underlying25 HIZ.out) rfl ⟨by rw [HNOT.out.1, HNOT.out.2, HZ0.out], B9.out⟩

end Go.Proofs.Ytfommclhnfcioaa
