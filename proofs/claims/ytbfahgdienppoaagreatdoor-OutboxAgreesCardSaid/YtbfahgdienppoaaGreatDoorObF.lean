/-
  the outbox: Read of any bytes.
-/
import Derived.Test.YtbfahgdienppoaaGreatDoorObB

namespace Go.Proofs.YtbfahgdienppoaaGreatDoor
open Go Go.RowKit
open Sha

def bV (bs : List (BitVec 8)) (a : Nat) (f : Int) : Nat := if f = 0 ∧ byE bs a = 0 then at8 bs a else 0
def bA (bs : List (BitVec 8)) (a : Nat) (f : Int) : Nat := if f = 0 ∧ byE bs a = 0 then a + 1 else a
def bF (bs : List (BitVec 8)) (a : Nat) (f : Int) : Int := if f = 0 then byE bs a else f
def dV (bs : List (BitVec 8)) (a : Nat) (f : Int) : List (BitVec 8) := if f = 0 ∧ dgE 20 bs a = 0 then sub bs a 20 else List.replicate 20 0#8
def dA (bs : List (BitVec 8)) (a : Nat) (f : Int) : Nat := if f = 0 ∧ dgE 20 bs a = 0 then a + 20 else a
def dF (bs : List (BitVec 8)) (a : Nat) (f : Int) : Int := if f = 0 then dgE 20 bs a else f
def wV (bs : List (BitVec 8)) (a : Nat) (f : Int) : List Nat := if f = 0 ∧ hiF 32 bs a = 0 then [lb bs (a + 1 + at8 bs a) 0 (at8 bs a), lb bs (a + 1 + at8 bs a) 1 (at8 bs a), lb bs (a + 1 + at8 bs a) 2 (at8 bs a), lb bs (a + 1 + at8 bs a) 3 (at8 bs a)] else List.replicate 4 0
def wA (bs : List (BitVec 8)) (a : Nat) (f : Int) : Nat := if f = 0 ∧ hiF 32 bs a = 0 then a + 1 + at8 bs a else a
def wF (bs : List (BitVec 8)) (a : Nat) (f : Int) : Int := if f = 0 then hiF 32 bs a else f
theorem dV_len (bs : List (BitVec 8)) (a : Nat) (f : Int) : (dV bs a f).length = 20 := by
  unfold dV
  split
  · rename_i h
    have := dgE_ok h.2
    unfold sub
    rw [List.length_take, List.length_drop]
    omega
  · simp
theorem wV_len (bs : List (BitVec 8)) (a : Nat) (f : Int) : (wV bs a f).length = 4 := by
  unfold wV
  split <;> rfl
theorem wV_lt (bs : List (BitVec 8)) (a : Nat) (f : Int) : ∀ x ∈ wV bs a f, x < 18446744073709551616 := by
  unfold wV
  split
  · intro x hx
    simp only [List.mem_cons, List.not_mem_nil, or_false] at hx
    rcases hx with rfl | rfl | rfl | rfl <;> exact lb_64 _ _ _ _
  · intro x hx
    obtain ⟨_, rfl⟩ := List.mem_replicate.1 hx
    decide
/-- A reader, with a fault or without; a leaf that is filled; the answer's place. -/
structure Rv (w0 w : World) (q P : Nat) (A : Option Addr) (cap : Nat) (bs : List (BitVec 8)) (a : Nat) (f : Int) (b : Nat) (L : List Value) : Prop where
  rx : Rx w P A cap bs a f
  rl : Row w b L 39
  rq : Row w q zLf 39
  qb : q < b
  q0 : q = w0.heap.size
  be : Below w0.heap.size w0 w
section
variable {w0 w w' : World} {q P cap a a' b : Nat} {f f' : Int} {A : Option Addr} {bs : List (BitVec 8)} {L M : List Value}
theorem Rx.at_row (h : Rx w P A cap bs a f) : ∃ v, Row w P [v, .int .i64 (a : Int), .int .i64 f] 127 := Rx.row h
theorem Rv.keep (h : Rv w0 w q P A cap bs a f b L) (k : Below w.heap.size w w') : Rv w0 w' q P A cap bs a f b L :=
  ⟨h.rx.be k, Row.below h.rl k h.rl.lt, Row.below h.rq k h.rq.lt, h.qb, h.q0, h.be.trans (k.mono h.be.size)⟩
theorem Rv.took (h : Rv w0 w q P A cap bs a f b L) (p0 : w0.heap.size ≤ P) (r : Rx w' P A cap bs a' f') (k : Gp P w w') : Rv w0 w' q P A cap bs a' f' b L := by
  obtain ⟨v, hr⟩ := h.rx.at_row
  exact ⟨r, k.row h.rl (row_ne h.rl hr (by decide)), k.row h.rq (row_ne h.rq hr (by decide)), h.qb, h.q0, h.be.trans (k.to_below h.be.size (fun g e => by rw [e]; exact p0))⟩
theorem Rv.put (h : Rv w0 w q P A cap bs a f b L) (r : Row w' b M 39) (k : Gro (· = b) w w') : Rv w0 w' q P A cap bs a f b M := by
  obtain ⟨v, hr⟩ := h.rx.at_row
  refine ⟨Rx.gro h.rx k (row_ne hr h.rl (by decide)) (fun hf g e => ?_), r, k.row h.rq (Nat.ne_of_lt h.qb), h.qb, h.q0, h.be.trans (k.to_below h.be.size (fun g e => by rw [e]; have h1 := h.qb; have h2 := h.q0; omega))⟩
  rcases h.rx with ⟨_, hg⟩ | ⟨hn, _⟩
  · exact Bw.ne hg.bw h.rl (by decide) g e
  · exact absurd hf hn
theorem rv_number (p0 : w0.heap.size ≤ P) (h : Rv w0 w q P A cap bs a f b L) : Calls Tryz.prog 35 #[.pointer (some ⟨P, 0, none⟩)] w fun e w' => e = .returned (.int .i64 ((nV bs a f : Nat) : Int)) ∧ Rv w0 w' q P A cap bs (nA bs a f) (nF bs a f) b L := by
  refine (number_x P A cap bs a f w h.rx).mono ?_
  rintro e w' ⟨rfl, h2, h3⟩
  exact ⟨rfl, h.took p0 h2 h3⟩
theorem rv_byte (p0 : w0.heap.size ≤ P) (h : Rv w0 w q P A cap bs a f b L) : Calls Tryz.prog 34 #[.pointer (some ⟨P, 0, none⟩)] w fun e w' => e = .returned (.int .u8 ((bV bs a f : Nat) : Int)) ∧ Rv w0 w' q P A cap bs (bA bs a f) (bF bs a f) b L := by
  rcases h.rx with ⟨hf, hg⟩ | ⟨hf, hg⟩
  · subst hf
    refine (face_byte P A cap bs a w hg).mono ?_
    rintro e w' ⟨h1, h2, h3⟩
    by_cases hz : byE bs a = 0
    · obtain ⟨rfl, hr⟩ := h1 hz
      have e1 : bV bs a 0 = at8 bs a := by unfold bV; rw [if_pos ⟨rfl, hz⟩]
      have e2 : bA bs a 0 = a + 1 := by unfold bA; rw [if_pos ⟨rfl, hz⟩]
      have e3 : bF bs a 0 = 0 := by unfold bF; rw [if_pos rfl, hz]
      rw [e1, e2, e3]
      exact ⟨rfl, h.took p0 (.inl ⟨rfl, hr⟩) h3⟩
    · obtain ⟨rfl, hr⟩ := h2 hz
      have e1 : bV bs a 0 = 0 := by unfold bV; rw [if_neg (fun q => hz q.2)]
      have e2 : bA bs a 0 = a := by unfold bA; rw [if_neg (fun q => hz q.2)]
      have e3 : bF bs a 0 = byE bs a := by unfold bF; rw [if_pos rfl]
      rw [e1, e2, e3]
      exact ⟨rfl, h.took p0 (.inr ⟨hz, hr⟩) h3⟩
  · refine (none_byte P _ (a : Int) f hf w hg).mono ?_
    rintro e w' ⟨rfl, hb⟩
    have e1 : bV bs a f = 0 := by unfold bV; rw [if_neg (fun q => hf q.1)]
    have e2 : bA bs a f = a := by unfold bA; rw [if_neg (fun q => hf q.1)]
    have e3 : bF bs a f = f := by unfold bF; rw [if_neg hf]
    rw [e1, e2, e3]
    exact ⟨rfl, h.keep hb⟩
theorem rv_address (p0 : w0.heap.size ≤ P) (h : Rv w0 w q P A cap bs a f b L) : Calls Tryz.prog 36 #[.pointer (some ⟨P, 0, none⟩)] w fun e w' => e = .returned (.agg (vB (dV bs a f)).toArray) ∧ Rv w0 w' q P A cap bs (dA bs a f) (dF bs a f) b L := by
  rcases h.rx with ⟨hf, hg⟩ | ⟨hf, hg⟩
  · subst hf
    refine (face_address P A cap bs a w hg).mono ?_
    rintro e w' ⟨h1, h2, h3⟩
    by_cases hz : dgE 20 bs a = 0
    · obtain ⟨rfl, hr⟩ := h1 hz
      have e1 : dV bs a 0 = sub bs a 20 := by unfold dV; rw [if_pos ⟨rfl, hz⟩]
      have e2 : dA bs a 0 = a + 20 := by unfold dA; rw [if_pos ⟨rfl, hz⟩]
      have e3 : dF bs a 0 = 0 := by unfold dF; rw [if_pos rfl, hz]
      rw [e1, e2, e3]
      exact ⟨rfl, h.took p0 (.inl ⟨rfl, hr⟩) h3⟩
    · obtain ⟨rfl, hr⟩ := h2 hz
      have e1 : dV bs a 0 = List.replicate 20 0#8 := by unfold dV; rw [if_neg (fun q => hz q.2)]
      have e2 : dA bs a 0 = a := by unfold dA; rw [if_neg (fun q => hz q.2)]
      have e3 : dF bs a 0 = dgE 20 bs a := by unfold dF; rw [if_pos rfl]
      rw [e1, e2, e3]
      exact ⟨rfl, h.took p0 (.inr ⟨hz, hr⟩) h3⟩
  · refine (none_addr P _ (a : Int) f hf w hg).mono ?_
    rintro e w' ⟨rfl, hb⟩
    have e1 : dV bs a f = List.replicate 20 0#8 := by unfold dV; rw [if_neg (fun q => hf q.1)]
    have e2 : dA bs a f = a := by unfold dA; rw [if_neg (fun q => hf q.1)]
    have e3 : dF bs a f = f := by unfold dF; rw [if_neg hf]
    rw [e1, e2, e3]
    exact ⟨rfl, h.keep hb⟩
theorem rv_wide (p0 : w0.heap.size ≤ P) (h : Rv w0 w q P A cap bs a f b L) : Calls Tryz.prog 37 #[.pointer (some ⟨P, 0, none⟩)] w fun e w' => e = .returned (.agg (vQ (wV bs a f)).toArray) ∧ Rv w0 w' q P A cap bs (wA bs a f) (wF bs a f) b L := by
  rcases h.rx with ⟨hf, hg⟩ | ⟨hf, hg⟩
  · subst hf
    refine (face_wide P A cap bs a w hg).mono ?_
    rintro e w' ⟨h1, h2, h3⟩
    by_cases hz : hiF 32 bs a = 0
    · obtain ⟨rfl, hr⟩ := h1 hz
      have e1 : wV bs a 0 = [lb bs (a + 1 + at8 bs a) 0 (at8 bs a), lb bs (a + 1 + at8 bs a) 1 (at8 bs a), lb bs (a + 1 + at8 bs a) 2 (at8 bs a), lb bs (a + 1 + at8 bs a) 3 (at8 bs a)] := by unfold wV; rw [if_pos ⟨rfl, hz⟩]
      have e2 : wA bs a 0 = a + 1 + at8 bs a := by unfold wA; rw [if_pos ⟨rfl, hz⟩]
      have e3 : wF bs a 0 = 0 := by unfold wF; rw [if_pos rfl, hz]
      rw [e1, e2, e3]
      exact ⟨rfl, h.took p0 (.inl ⟨rfl, hr⟩) h3⟩
    · obtain ⟨rfl, hr⟩ := h2 hz
      have e1 : wV bs a 0 = List.replicate 4 0 := by unfold wV; rw [if_neg (fun q => hz q.2)]
      have e2 : wA bs a 0 = a := by unfold wA; rw [if_neg (fun q => hz q.2)]
      have e3 : wF bs a 0 = hiF 32 bs a := by unfold wF; rw [if_pos rfl]
      rw [e1, e2, e3]
      exact ⟨rfl, h.took p0 (.inr ⟨hz, hr⟩) h3⟩
  · refine (none_wide P _ (a : Int) f hf w hg).mono ?_
    rintro e w' ⟨rfl, hb⟩
    have e1 : wV bs a f = List.replicate 4 0 := by unfold wV; rw [if_neg (fun q => hf q.1)]
    have e2 : wA bs a f = a := by unfold wA; rw [if_neg (fun q => hf q.1)]
    have e3 : wF bs a f = f := by unfold wF; rw [if_neg hf]
    rw [e1, e2, e3]
    exact ⟨rfl, h.keep hb⟩
theorem rv_end (h : Rv w0 w q P A cap bs a f b L) : Calls Tryz.prog 38 #[.pointer (some ⟨P, 0, none⟩)] w fun e w' => e = .returned (.int .i64 (if f = 0 then (if a < bs.length then 33 else 0) else f)) ∧ Rv w0 w' q P A cap bs a f b L := by
  rcases h.rx with ⟨hf, hg⟩ | ⟨hf, hg⟩
  · subst hf
    refine (end_rest P A cap bs a w hg).mono ?_
    rintro e w' ⟨rfl, m, rfl⟩
    exact ⟨by rw [if_pos rfl], h.keep ⟨rfl, rfl, rfl, Nat.le_refl _, fun _ _ => rfl⟩⟩
  · refine (end_shut P _ (a : Int) f hf w hg).mono ?_
    rintro e w' ⟨rfl, rfl⟩
    exact ⟨by rw [if_neg hf], h⟩
end

end Go.Proofs.YtbfahgdienppoaaGreatDoor

namespace Go.Proofs.YtbfahgdienppoaaGreatDoor
open Go Go.RowKit
open Sha

theorem built_zl : Tryz.prog.built 39 [] = some zLf.toArray := by kernel_rfl
section
variable {ops : Array Oper} {rest : List Oper} {op : Oper} {a : Act} {w : World} {Q : Exit → Act → World → Prop}
theorem wpList_buildZL (hgd : op.guard = none) (ho : op.op = .build 39 #[]) (h : wpList Tryz.prog ops Q rest (a.put op.dst (.agg zLf.toArray)) w) : wpList Tryz.prog ops Q (op :: rest) a w :=
  wpList_plain hgd fun _ hK => by
    have hr := run_build (P := Tryz.prog) w 39 #[] _ built_zl
    unfold Oper.wp execOp
    simp only [ho, List.map_toArray, List.map_nil, Sem.run_bind, hr, Result.andThen_ok, Sem.run_pure, Oper.upon_value]
    exact hK _ _ h
end
set_option maxRecDepth 100000 in
set_option maxHeartbeats 4000000 in
theorem read_x (bs : List (BitVec 8)) (m x1 x2 x3 a1 a2 a3 a4 a5 a6 : Nat) (f1 f2 f3 f4 f5 f6 : Int) (rc : List (BitVec 8)) (am : List Nat)
    (hm : m = bV bs 0 (f0 bs)) (h1a : a1 = bA bs 0 (f0 bs)) (h1f : f1 = bF bs 0 (f0 bs)) (h2v : x1 = nV bs a1 f1) (h2a : a2 = nA bs a1 f1) (h2f : f2 = nF bs a1 f1) (h3v : x2 = nV bs a2 f2) (h3a : a3 = nA bs a2 f2) (h3f : f3 = nF bs a2 f2) (h4v : x3 = nV bs a3 f3) (h4a : a4 = nA bs a3 f3) (h4f : f4 = nF bs a3 f3) (h5v : rc = dV bs a4 f4) (h5a : a5 = dA bs a4 f4) (h5f : f5 = dF bs a4 f4) (h6v : am = wV bs a5 f5) (h6a : a6 = wA bs a5 f5) (h6f : f6 = wF bs a5 f5)
    (RV : List Value) (RE : Int) (hyes : (f6 = 0 ∧ ¬ a6 < bs.length ∧ m = 76 ∧ may (x1 : Int) (x2 : Int) (x3 : Int) am = true) → RV = lf (x1 : Int) (x2 : Int) (x3 : Int) rc am ∧ RE = 0) (hno : ¬ (f6 = 0 ∧ ¬ a6 < bs.length ∧ m = 76 ∧ may (x1 : Int) (x2 : Int) (x3 : Int) am = true) → RV = zLf ∧ RE = 110)
    (B : Option Addr) (n cb : Nat) (hb : bs.length = n) (hnil : B = none → cb = 0) (w : World) (hv : SlAt w (.slice B n cb) bs) : Calls Tryz.prog 13 #[.slice B n cb] w fun e w' => e = .returned (.tuple #[.agg RV.toArray, .int .i64 RE]) ∧ Below w.heap.size w w' := by
  have hrc : rc.length = 20 := by rw [h5v]; exact dV_len _ _ _
  have ham : am.length = 4 := by rw [h6v]; exact wV_len _ _ _
  have HMB : Hid (∀ X, Calls Tryz.prog 22 #[.agg (lf (x1 : Int) (x2 : Int) (x3 : Int) rc am).toArray] X fun e w' => e = .returned (.bool (may (x1 : Int) (x2 : Int) (x3 : Int) am)) ∧ Below X.heap.size X w') := fun X => mayBe_any _ _ _ rc am hrc ham _ rfl X
  have HRC : Hid (rc.length = 20) := hrc
  have HAM : Hid (am.length = 4) := ham
  have HIA : Hid ((Tryz.prog.info? 34).map (·.size) = some (vB rc).length) := info_Ad rc hrc
  have HIW : Hid ((Tryz.prog.info? 37).map (·.size) = some (vQ am).length) := info_Wd am ham
  have H0v : Hid (m = bV bs 0 (f0 bs)) := hm
  have H0a : Hid (a1 = bA bs 0 (f0 bs)) := h1a
  have H0f : Hid (f1 = bF bs 0 (f0 bs)) := h1f
  have H1v : Hid (x1 = nV bs a1 f1) := h2v
  have H1a : Hid (a2 = nA bs a1 f1) := h2a
  have H1f : Hid (f2 = nF bs a1 f1) := h2f
  have H2v : Hid (x2 = nV bs a2 f2) := h3v
  have H2a : Hid (a3 = nA bs a2 f2) := h3a
  have H2f : Hid (f3 = nF bs a2 f2) := h3f
  have H3v : Hid (x3 = nV bs a3 f3) := h4v
  have H3a : Hid (a4 = nA bs a3 f3) := h4a
  have H3f : Hid (f4 = nF bs a3 f3) := h4f
  have H4v : Hid (rc = dV bs a4 f4) := h5v
  have H4a : Hid (a5 = dA bs a4 f4) := h5a
  have H4f : Hid (f5 = dF bs a4 f4) := h5f
  have H5v : Hid (am = wV bs a5 f5) := h6v
  have H5a : Hid (a6 = wA bs a5 f5) := h6a
  have H5f : Hid (f6 = wF bs a5 f5) := h6f
  have HBL : Hid (bs.length = n ∧ (B = none → cb = 0)) := ⟨hb, hnil⟩
  have HV : Hid (SlAt w (.slice B n cb) bs) := hv
  have HYE : Hid ((f6 = 0 ∧ ¬ a6 < bs.length ∧ m = 76 ∧ may (x1 : Int) (x2 : Int) (x3 : Int) am = true) → RV = lf (x1 : Int) (x2 : Int) (x3 : Int) rc am ∧ RE = 0) := hyes
  have HNE : Hid (¬ (f6 = 0 ∧ ¬ a6 < bs.length ∧ m = 76 ∧ may (x1 : Int) (x2 : Int) (x3 : Int) am = true) → RV = zLf ∧ RE = 110) := hno
  clear hyes hno hm h1a h1f h2v h2a h2f h3v h3a h3f h4v h4a h4f h5v h5a h5f h6v h6a h6f hb hnil hv hrc ham
  go_enter Tryz.func13, Tryz.ntmps13
  go_upto_region 1 with (refine wpList_allocLf rfl rfl ?_; intro X0 q1 q2 q3; have RQ : Hid (Row X0 w.heap.size zLf 39) := q1; have B0 : Hid (Below w.heap.size w X0) := q2; clear q1 q2 q3; simp only [Act.put, List.setIfInBounds_toArray, List.set_cons_zero, List.set_cons_succ])
  have HNR : Hid _ := newReader_x B n cb bs HBL.out.1 HBL.out.2 X0 (SlAt.be HV.out B0.out)
  go_upto_region 2 with (go_at_call 33; refine Calls.mono HNR.out ?_; rintro e X1 ⟨P, A, cap, rfl, q1, q2, q3, q4⟩; have G1 : Hid (Rx X1 P A cap bs 0 (f0 bs)) := q1; have HP : Hid (X0.heap.size ≤ P) := q2; have B1 : Hid (Below X0.heap.size X0 X1) := q4; clear q1 q2 q3 q4)
  have HP0 : Hid (w.heap.size ≤ P) := Nat.le_trans B0.out.size HP.out
  have RQ1 : Row X1 w.heap.size zLf 39 := Row.below RQ.out B1.out RQ.out.lt
  have B01 : Below w.heap.size w X1 := B0.out.trans (B1.out.mono B0.out.size)
  have HFB : Hid (Calls Tryz.prog 34 #[.pointer (some ⟨P, 0, none⟩)] X1 fun e w' => e = .returned (.int .u8 (m : Int)) ∧ Rx w' P A cap bs a1 f1 ∧ Row w' w.heap.size zLf 39 ∧ Below w.heap.size w w') := by
    have gg : ∀ w', Rx w' P A cap bs a1 f1 → Gp P X1 w' → Rx w' P A cap bs a1 f1 ∧ Row w' w.heap.size zLf 39 ∧ Below w.heap.size w w' := fun w' r k => by
      obtain ⟨v, hr⟩ := G1.out.at_row
      exact ⟨r, k.row RQ1 (row_ne RQ1 hr (by decide)), B01.trans (k.to_below B01.size (fun g e => by rw [e]; exact HP0.out))⟩
    rcases G1.out with ⟨hf, hg⟩ | ⟨hf, hg⟩
    · refine (face_byte P A cap bs 0 X1 hg).mono ?_
      rintro e w' ⟨h1, h2, h3⟩
      by_cases hz : byE bs 0 = 0
      · obtain ⟨rfl, hr⟩ := h1 hz
        have e1 : m = at8 bs 0 := by rw [H0v.out]; unfold bV; rw [if_pos ⟨hf, hz⟩]
        have e2 : a1 = 0 + 1 := by rw [H0a.out]; unfold bA; rw [if_pos ⟨hf, hz⟩]
        have e3 : f1 = 0 := by rw [H0f.out]; unfold bF; rw [if_pos hf, hz]
        exact ⟨by rw [e1], gg w' (by rw [e2, e3]; exact .inl ⟨rfl, hr⟩) h3⟩
      · obtain ⟨rfl, hr⟩ := h2 hz
        have e1 : m = 0 := by rw [H0v.out]; unfold bV; rw [if_neg (fun q => hz q.2)]
        have e2 : a1 = 0 := by rw [H0a.out]; unfold bA; rw [if_neg (fun q => hz q.2)]
        have e3 : f1 = byE bs 0 := by rw [H0f.out]; unfold bF; rw [if_pos hf]
        exact ⟨by rw [e1]; rfl, gg w' (by rw [e2, e3]; exact .inr ⟨hz, hr⟩) h3⟩
    · refine (none_byte P _ ((0 : Nat) : Int) (f0 bs) hf X1 hg).mono ?_
      rintro e w' ⟨rfl, hb⟩
      have e1 : m = 0 := by rw [H0v.out]; unfold bV; rw [if_neg (fun q => hf q.1)]
      have e2 : a1 = 0 := by rw [H0a.out]; unfold bA; rw [if_neg (fun q => hf q.1)]
      have e3 : f1 = f0 bs := by rw [H0f.out]; unfold bF; rw [if_neg hf]
      exact ⟨by rw [e1]; rfl, gg w' (by rw [e2, e3]; exact G1.out.be hb) (Gro.of_below hb)⟩
  go_upto_region 3 with (go_at_call 34; refine Calls.mono HFB.out ?_; rintro e X2 ⟨rfl, q1, q2, q3⟩; have G2 : Hid (Rx X2 P A cap bs a1 f1) := q1; have RQ2 : Hid (Row X2 w.heap.size zLf 39) := q2; have B2 : Hid (Below w.heap.size w X2) := q3; clear q1 q2 q3)
  go_upto_region 4 with (refine wpList_allocLf rfl rfl ?_; intro X3 q1 q2 q3; have RB : Hid (Row X3 X2.heap.size zLf 39) := q1; have B3 : Hid (Below X2.heap.size X2 X3) := q2; clear q1 q2 q3; simp only [Act.put, List.setIfInBounds_toArray, List.set_cons_zero, List.set_cons_succ])
  have S1' : Rv w X3 w.heap.size P A cap bs a1 f1 X2.heap.size zLf := ⟨G2.out.be B3.out, RB.out, Row.below RQ2.out B3.out RQ2.out.lt, RQ2.out.lt, rfl, B2.out.trans (B3.out.mono B2.out.size)⟩
  obtain ⟨q, hq⟩ : ∃ q, q = w.heap.size := ⟨_, rfl⟩
  obtain ⟨b, hb⟩ : ∃ b, b = X2.heap.size := ⟨_, rfl⟩
  rw [← hb] at S1' ⊢
  rw [← hq] at S1' ⊢
  have S1 : Hid (Rv w X3 q P A cap bs a1 f1 b (lf 0 0 0 (List.replicate 20 0#8) (List.replicate 4 0))) := S1'
  have HQ0 : Hid (q = w.heap.size) := hq
  clear hq hb S1' RB B3 G2 HFB B1 HP G1 HNR RQ B0 RQ1 B01 RQ2 B2
  go_upto_region 5 with (first
    | (go_at_call 35; refine Calls.mono (rv_number HP0.out S1.out) ?_; rintro e Y1 ⟨rfl, h⟩; rw [← H1v.out]; have T1 : Hid (Rv w Y1 q P A cap bs a2 f2 b (lf 0 0 0 (List.replicate 20 0#8) (List.replicate 4 0))) := (by rw [H1a.out, H1f.out]; exact h); clear h)
    | (refine wpList_set1 rfl 3 (.tmp 13) (.tmp 12) rfl b 0 (.int .i64 (x1 : Int)) (lf 0 0 0 (List.replicate 20 0#8) (List.replicate 4 0)) 39 rfl rfl rfl T1.out.rl (by rw [lf_len (List.length_replicate ..) (List.length_replicate ..)]; decide) info_int1 rfl ?_; intro Z q1 q2 q3; have S2 : Hid (Rv w Z q P A cap bs a2 f2 b (lf (x1 : Int) 0 0 (List.replicate 20 0#8) (List.replicate 4 0))) := T1.out.put (M := lf (x1 : Int) 0 0 (List.replicate 20 0#8) (List.replicate 4 0)) q1 q2; clear q1 q2 q3; simp only [Act.put]))
  clear S1 T1
  go_upto_region 6 with (first
    | (go_at_call 35; refine Calls.mono (rv_number HP0.out S2.out) ?_; rintro e Y2 ⟨rfl, h⟩; rw [← H2v.out]; have T2 : Hid (Rv w Y2 q P A cap bs a3 f3 b (lf (x1 : Int) 0 0 (List.replicate 20 0#8) (List.replicate 4 0))) := (by rw [H2a.out, H2f.out]; exact h); clear h)
    | (refine wpList_set1 rfl 3 (.tmp 16) (.tmp 15) rfl b 1 (.int .i64 (x2 : Int)) (lf (x1 : Int) 0 0 (List.replicate 20 0#8) (List.replicate 4 0)) 39 rfl rfl rfl T2.out.rl (by rw [lf_len (List.length_replicate ..) (List.length_replicate ..)]; decide) info_int1 rfl ?_; intro Z q1 q2 q3; have S3 : Hid (Rv w Z q P A cap bs a3 f3 b (lf (x1 : Int) (x2 : Int) 0 (List.replicate 20 0#8) (List.replicate 4 0))) := T2.out.put (M := lf (x1 : Int) (x2 : Int) 0 (List.replicate 20 0#8) (List.replicate 4 0)) q1 q2; clear q1 q2 q3; simp only [Act.put]))
  clear S2 T2
  go_upto_region 7 with (first
    | (go_at_call 35; refine Calls.mono (rv_number HP0.out S3.out) ?_; rintro e Y3 ⟨rfl, h⟩; rw [← H3v.out]; have T3 : Hid (Rv w Y3 q P A cap bs a4 f4 b (lf (x1 : Int) (x2 : Int) 0 (List.replicate 20 0#8) (List.replicate 4 0))) := (by rw [H3a.out, H3f.out]; exact h); clear h)
    | (refine wpList_set1 rfl 3 (.tmp 19) (.tmp 18) rfl b 2 (.int .i64 (x3 : Int)) (lf (x1 : Int) (x2 : Int) 0 (List.replicate 20 0#8) (List.replicate 4 0)) 39 rfl rfl rfl T3.out.rl (by rw [lf_len (List.length_replicate ..) (List.length_replicate ..)]; decide) info_int1 rfl ?_; intro Z q1 q2 q3; have S4 : Hid (Rv w Z q P A cap bs a4 f4 b (lf (x1 : Int) (x2 : Int) (x3 : Int) (List.replicate 20 0#8) (List.replicate 4 0))) := T3.out.put (M := lf (x1 : Int) (x2 : Int) (x3 : Int) (List.replicate 20 0#8) (List.replicate 4 0)) q1 q2; clear q1 q2 q3; simp only [Act.put]))
  clear S3 T3
  go_upto_region 8 with (first
    | (go_at_call 36; refine Calls.mono (rv_address HP0.out S4.out) ?_; rintro e Y4 ⟨rfl, h⟩; rw [← H4v.out]; have T4 : Hid (Rv w Y4 q P A cap bs a5 f5 b (lf (x1 : Int) (x2 : Int) (x3 : Int) (List.replicate 20 0#8) (List.replicate 4 0))) := (by rw [H4a.out, H4f.out]; exact h); clear h)
    | (refine wpList_storeM rfl 34 (.tmp 22) (.tmp 21) rfl b 3 (vB rc) (lf (x1 : Int) (x2 : Int) (x3 : Int) (List.replicate 20 0#8) (List.replicate 4 0)) 39 rfl rfl T4.out.rl (by rw [lf_len (List.length_replicate ..) (List.length_replicate ..), vB_length, HRC.out]; decide) HIA.out (vB_all rc) ?_; intro Z q1 q2; rw [lf_put_rc _ _ _ _ _ _ (List.length_replicate ..) HRC.out] at q1; have S5 : Hid (Rv w Z q P A cap bs a5 f5 b (lf (x1 : Int) (x2 : Int) (x3 : Int) rc (List.replicate 4 0))) := T4.out.put q1 q2; clear q1 q2; simp only [Act.put]))
  clear S4 T4
  go_upto_region 9 with (first
    | (go_at_call 37; refine Calls.mono (rv_wide HP0.out S5.out) ?_; rintro e Y5 ⟨rfl, h⟩; rw [← H5v.out]; have T5 : Hid (Rv w Y5 q P A cap bs a6 f6 b (lf (x1 : Int) (x2 : Int) (x3 : Int) rc (List.replicate 4 0))) := (by rw [H5a.out, H5f.out]; exact h); clear h)
    | (refine wpList_storeM rfl 37 (.tmp 25) (.tmp 24) rfl b 23 (vQ am) (lf (x1 : Int) (x2 : Int) (x3 : Int) rc (List.replicate 4 0)) 39 rfl rfl T5.out.rl (by rw [lf_len HRC.out (List.length_replicate ..), vQ_len, HAM.out]; decide) HIW.out (vQ_all am) ?_; intro Z q1 q2; rw [lf_put_am _ _ _ _ _ _ HRC.out (List.length_replicate ..) HAM.out] at q1; have S6 : Hid (Rv w Z q P A cap bs a6 f6 b (lf (x1 : Int) (x2 : Int) (x3 : Int) rc am)) := T5.out.put q1 q2; clear q1 q2; simp only [Act.put]))
  clear S5 T5
  obtain ⟨L, hL⟩ : ∃ L, L = lf (x1 : Int) (x2 : Int) (x3 : Int) rc am := ⟨_, rfl⟩
  have HL : Hid (L = lf (x1 : Int) (x2 : Int) (x3 : Int) rc am) := hL
  rw [← hL] at S6 HMB
  have HI : Hid ((Tryz.prog.info? 39).map (·.size) = some L.length) := by rw [hL]; exact info_lf HRC.out HAM.out
  have HLL : Hid (L.length = zLf.length) := by show _ = _; rw [hL, lf_len HRC.out HAM.out]; rfl
  have HO : Hid (L.toArray.all (·.oneCell') = true) := by rw [hL]; exact lf_all
  have HIZ : Hid ((Tryz.prog.info? 39).map (·.size) = some zLf.length) := info_lf (List.length_replicate ..) (List.length_replicate ..)
  have HOZ : Hid (zLf.toArray.all (·.oneCell') = true) := lf_all
  obtain ⟨ee, hee⟩ : ∃ ee, ee = (if f6 = 0 then (if a6 < bs.length then (33 : Int) else 0) else f6) := ⟨_, rfl⟩
  have HEN : Hid _ := rv_end S6.out
  rw [← hee] at HEN
  have HEE : Hid (ee = 0 ↔ (f6 = 0 ∧ ¬ a6 < bs.length)) := by
    rw [hee]
    by_cases z1 : f6 = 0
    · rw [if_pos z1]
      by_cases z2 : a6 < bs.length
      · rw [if_pos z2]; exact ⟨(fun z => by cases z), fun z => absurd z2 z.2⟩
      · rw [if_neg z2]; exact ⟨fun _ => ⟨z1, z2⟩, fun _ => rfl⟩
    · rw [if_neg z1]; exact ⟨fun z => absurd z z1, fun z => absurd z.1 z1⟩
  obtain ⟨M, hM⟩ : ∃ M, M = may (x1 : Int) (x2 : Int) (x3 : Int) am := ⟨_, rfl⟩
  have HM : Hid (M = may (x1 : Int) (x2 : Int) (x3 : Int) am) := hM
  rw [← hM] at HMB
  clear hL HIA HIW HRC HAM hee hM
  by_cases z1 : ee = 0
  · by_cases z2 : m = 76
    · cases z3 : M with
      | true =>
        have HYES : Hid (RV = lf (x1 : Int) (x2 : Int) (x3 : Int) rc am ∧ RE = 0) := HYE.out ⟨(HEE.out.1 z1).1, (HEE.out.1 z1).2, z2, by rw [← HM.out]; exact z3⟩
        rw [z3] at HMB
        rw [z1] at HEN
        subst z2
        clear z1 z3
        go_upto_region 11 with (first
          | (go_at_call 38; refine Calls.mono HEN.out ?_; rintro e Y6 ⟨rfl, h⟩; have T6 : Hid (Rv w Y6 q P A cap bs a6 f6 b L) := h; clear h)
          | (refine wpList_load_w rfl 39 (.tmp 6) rfl b 0 rfl L _ T6.out.rl.all Tryz.underlying39 rfl HI.out ?_; simp only [Act.put, List.setIfInBounds_toArray, List.set_cons_zero, List.set_cons_succ])
          | (go_at_call 22; refine Calls.mono (HMB.out Y6) ?_; rintro e Y7 ⟨rfl, h⟩; have T7 : Hid (Rv w Y7 q P A cap bs a6 f6 b L) := T6.out.keep h; clear h))
        go_wp2_with (first
          | (refine wpList_load_w rfl 39 (.tmp 6) rfl b 0 rfl L _ T7.out.rl.all Tryz.underlying39 rfl HI.out ?_; simp only [Act.put, List.setIfInBounds_toArray, List.set_cons_zero, List.set_cons_succ])
          | (refine wpList_storeL rfl 39 (.tmp 2) (.tmp 39) rfl q L zLf 39 rfl rfl T7.out.rq HLL.out HI.out HO.out ?_; intro X9 q1 q2; have E9 : Hid (X9 = _) := q1; have R9 : Hid (Row X9 q L 39) := q2; clear q1 q2; simp only [Act.put]))
        have hE : Below w.heap.size w X9 := by rw [E9.out]; exact below_setCells T7.out.be (by rw [HQ0.out]; exact Nat.le_refl _) _
        exact bodyPost_ret (results_rowS_tmp Tryz.results13 _ _ q 39 L (.int .i64 0) rfl rfl R9.out Tryz.underlying39 HI.out) rfl ⟨by rw [HYES.out.1, HYES.out.2, ← HL.out], hE⟩
      | false =>
        have HNOT : Hid (RV = zLf ∧ RE = 110) := HNE.out (fun z => by have := z.2.2.2; rw [← HM.out, z3] at this; cases this)
        rw [z3] at HMB
        rw [z1] at HEN
        subst z2
        clear z1 z3
        go_wp2_with (first
          | (go_at_call 38; refine Calls.mono HEN.out ?_; rintro e Y6 ⟨rfl, h⟩; have T6 : Hid (Rv w Y6 q P A cap bs a6 f6 b L) := h; have T7 : Hid (Rv w Y6 q P A cap bs a6 f6 b L) := h; clear h)
          | (refine wpList_load_w rfl 39 (.tmp 6) rfl b 0 rfl L _ T6.out.rl.all Tryz.underlying39 rfl HI.out ?_; simp only [Act.put, List.setIfInBounds_toArray, List.set_cons_zero, List.set_cons_succ])
          | (go_at_call 22; refine Calls.mono (HMB.out Y6) ?_; rintro e Y7 ⟨rfl, h⟩; have T7 : Hid (Rv w Y7 q P A cap bs a6 f6 b L) := T6.out.keep h; clear h)
          | (refine wpList_buildZL rfl rfl ?_; simp only [Act.put, List.setIfInBounds_toArray, List.set_cons_zero, List.set_cons_succ])
          | (refine wpList_storeL rfl 39 (.tmp 2) (.tmp 38) rfl q zLf zLf 39 rfl rfl T7.out.rq rfl HIZ.out HOZ.out ?_; intro X9 q1 q2; have E9 : Hid (X9 = _) := q1; have R9 : Hid (Row X9 q zLf 39) := q2; clear q1 q2; simp only [Act.put]))
        have hE : Below w.heap.size w X9 := by rw [E9.out]; exact below_setCells T7.out.be (by rw [HQ0.out]; exact Nat.le_refl _) _
        exact bodyPost_ret (results_rowS_tmp Tryz.results13 _ _ q 39 zLf (.int .i64 110) rfl rfl R9.out Tryz.underlying39 HIZ.out) rfl ⟨by rw [HNOT.out.1, HNOT.out.2], hE⟩
    · have HNOT : Hid (RV = zLf ∧ RE = 110) := HNE.out (fun z => z2 z.2.2.1)
      rw [z1] at HEN
      have ez2 : ((m : Int) != 76) = true := by simp; omega
      clear z1
      go_wp2_with (first
        | (go_at_call 38; refine Calls.mono HEN.out ?_; rintro e Y6 ⟨rfl, h⟩; have T6 : Hid (Rv w Y6 q P A cap bs a6 f6 b L) := h; have T7 : Hid (Rv w Y6 q P A cap bs a6 f6 b L) := h; clear h)
        | (refine wpList_load_w rfl 39 (.tmp 6) rfl b 0 rfl L _ T6.out.rl.all Tryz.underlying39 rfl HI.out ?_; simp only [Act.put, List.setIfInBounds_toArray, List.set_cons_zero, List.set_cons_succ])
        | (go_at_call 22; refine Calls.mono (HMB.out Y6) ?_; rintro e Y7 ⟨rfl, h⟩; have T7 : Hid (Rv w Y7 q P A cap bs a6 f6 b L) := T6.out.keep h; clear h)
        | (refine wpList_buildZL rfl rfl ?_; simp only [Act.put, List.setIfInBounds_toArray, List.set_cons_zero, List.set_cons_succ])
        | (refine wpList_storeL rfl 39 (.tmp 2) (.tmp 38) rfl q zLf zLf 39 rfl rfl T7.out.rq rfl HIZ.out HOZ.out ?_; intro X9 q1 q2; have E9 : Hid (X9 = _) := q1; have R9 : Hid (Row X9 q zLf 39) := q2; clear q1 q2; simp only [Act.put]))
      have hE : Below w.heap.size w X9 := by rw [E9.out]; exact below_setCells T7.out.be (by rw [HQ0.out]; exact Nat.le_refl _) _
      exact bodyPost_ret (results_rowS_tmp Tryz.results13 _ _ q 39 zLf (.int .i64 110) rfl rfl R9.out Tryz.underlying39 HIZ.out) rfl ⟨by rw [HNOT.out.1, HNOT.out.2], hE⟩
  · have HNOT : Hid (RV = zLf ∧ RE = 110) := HNE.out (fun z => z1 (HEE.out.2 ⟨z.1, z.2.1⟩))
    have ez1 : (ee != 0) = true := by simpa using z1
    clear z1
    go_wp2_with (first
      | (go_at_call 38; refine Calls.mono HEN.out ?_; rintro e Y6 ⟨rfl, h⟩; have T6 : Hid (Rv w Y6 q P A cap bs a6 f6 b L) := h; have T7 : Hid (Rv w Y6 q P A cap bs a6 f6 b L) := h; clear h)
      | (refine wpList_load_w rfl 39 (.tmp 6) rfl b 0 rfl L _ T6.out.rl.all Tryz.underlying39 rfl HI.out ?_; simp only [Act.put, List.setIfInBounds_toArray, List.set_cons_zero, List.set_cons_succ])
      | (go_at_call 22; refine Calls.mono (HMB.out Y6) ?_; rintro e Y7 ⟨rfl, h⟩; have T7 : Hid (Rv w Y7 q P A cap bs a6 f6 b L) := T6.out.keep h; clear h)
      | (refine wpList_buildZL rfl rfl ?_; simp only [Act.put, List.setIfInBounds_toArray, List.set_cons_zero, List.set_cons_succ])
      | (refine wpList_storeL rfl 39 (.tmp 2) (.tmp 38) rfl q zLf zLf 39 rfl rfl T7.out.rq rfl HIZ.out HOZ.out ?_; intro X9 q1 q2; have E9 : Hid (X9 = _) := q1; have R9 : Hid (Row X9 q zLf 39) := q2; clear q1 q2; simp only [Act.put]))
    have hE : Below w.heap.size w X9 := by rw [E9.out]; exact below_setCells T7.out.be (by rw [HQ0.out]; exact Nat.le_refl _) _
    exact bodyPost_ret (results_rowS_tmp Tryz.results13 _ _ q 39 zLf (.int .i64 110) rfl rfl R9.out Tryz.underlying39 HIZ.out) rfl ⟨by rw [HNOT.out.1, HNOT.out.2], hE⟩

end Go.Proofs.YtbfahgdienppoaaGreatDoor
