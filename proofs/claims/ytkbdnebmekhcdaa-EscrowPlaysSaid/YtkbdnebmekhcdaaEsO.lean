/-
  Steps; the law's changing.
-/
import Derived.Test.YtkbdnebmekhcdaaEsM
namespace Go.Proofs.Ytkbdnebmekhcdaa
open Go Go.RowKit Go.Maps
open Wd

/-- A step. -/
structure Stv where
  wh : Int
  kd : Int
  tk : Int
  ix : Int
  m : Nat
def Stv.cells (r : Stv) : List Value := .int .i64 r.wh :: .int .i64 r.kd :: .int .i64 r.tk :: .int .i64 r.ix :: vQ (dgs r.m 4)
structure Stv.Ok (r : Stv) : Prop where
  wh : I64 r.wh
  kd : I64 r.kd
  tk : I64 r.tk
  ix : I64 r.ix
  m : r.m < 2 ^ 256
theorem Stv.len (r : Stv) : r.cells.length = 8 := by simp [Stv.cells, vQ_length, dgs_length]
theorem Stv.one (r : Stv) : r.cells.toArray.all (·.oneCell') = true := all_oneCell_toArray (by
  intro v hv
  simp only [Stv.cells, List.mem_cons] at hv
  rcases hv with rfl | rfl | rfl | rfl | h
  · rfl
  · rfl
  · rfl
  · rfl
  · exact vQ_one _ v h)
theorem Stv.am {w : World} {g : Nat} {r : Stv} {ty : TypeId} (h : Row w g r.cells ty) : w.rangeAt g 4 (vQ (dgs r.m 4)) := h.range 4 _ (fun j v hv => by rw [Nat.add_comm]; exact hv)
/-- What a step of kind k does. -/
def act (s : St) (k : Int) (r : Stv) : St × Int :=
  if k = 0 then sList s r.tk else if k = 1 then sStop s r.tk true else if k = 2 then sStop s r.tk false else if k = 3 then sDep s r.tk r.m else if k = 4 then sPay s r.ix r.tk r.m else if k = 5 then sLock s r.m else if k = 6 then sFree s r.m else (s, 0)
/-- Behind a call: the state it leaves, what stays. -/
def VtB (w : World) (p c : Nat) (m1 m2 : Value) (s : St) (w' : World) : Prop :=
  ∃ n1 n2, Vt w' p (c + 2) n1 n2 s ∧ Nw w m1 n1 ∧ Nw w m2 n2 ∧ Gro (Vb p m1 m2) w w'
theorem VtB.be {w X w' : World} {p c : Nat} {m1 m2 : Value} {s : St} (hB : Below w.heap.size w X) (h : VtB X p c m1 m2 s w') : VtB w p c m1 m2 s w' := by
  obtain ⟨n1, n2, hV, k1, k2, g⟩ := h
  exact ⟨n1, n2, hV, k1.be hB.size, k2.be hB.size, (Gro.of_below hB).trans g⟩
theorem VtB.same {w X : World} {p c : Nat} {m1 m2 : Value} {s : St} (hV : Vt w p c m1 m2 s) (hB : Below w.heap.size w X) : VtB w p c m1 m2 s X :=
  ⟨m1, m2, (hV.be hB).mono (by omega), .inl rfl, .inl rfl, Gro.of_below hB⟩
set_option maxRecDepth 100000 in
set_option maxHeartbeats 4000000 in
theorem changing_any {w : World} {p c : Nat} {m1 m2 : Value} {s : St} (hV : Vt w p c m1 m2 s) (hc : c + 1 < maxLen) (r : Stv) (hr : r.Ok) :
    Calls Try.prog 12 #[.pointer (some ⟨p, 0, none⟩), .agg r.cells.toArray] w fun e w' => e = .returned (.tuple #[.bool (decide (pk r.kd 11 < 7)), .int .i64 (act s (pk r.kd 11) r).2]) ∧ VtB w p c m1 m2 (act s (pk r.kd 11) r).1 w' := by
  have HV : Hid (Vt w p c m1 m2 s) := hV
  have HC : Hid (c + 1 < maxLen) := hc
  obtain ⟨wh, kd, tk, ix, m⟩ := r
  obtain ⟨rc, hrc⟩ : ∃ c, c = (Stv.mk wh kd tk ix m).cells := ⟨_, rfl⟩
  have HL : Hid (rc.length = 8) := by rw [hrc]; exact Stv.len _
  have H1 : Hid (rc[1]? = some (.int .i64 kd)) := by rw [hrc]; exact rfl
  have H2 : Hid (rc[2]? = some (.int .i64 tk)) := by rw [hrc]; exact rfl
  have H3 : Hid (rc[3]? = some (.int .i64 ix)) := by rw [hrc]; exact rfl
  have HM : Hid (m < 2 ^ 256) := hr.m
  obtain ⟨cm, hcm⟩ : ∃ c, c = vQ (dgs m 4) := ⟨_, rfl⟩
  have HWM : Hid (Wc cm m) := hcm
  have HRA : Hid (∀ X g, Row X g rc 35 → X.rangeAt g 4 cm) := fun X g h => by rw [hcm]; rw [hrc] at h; exact Stv.am h
  obtain ⟨k, hk⟩ : ∃ k, pk kd 11 = k := ⟨_, rfl⟩
  have hkr := pk_range kd 11 (by decide)
  have hkd := (i64_iff kd).1 hr.kd
  have HP : Hid (∀ X, Calls Try.prog 11 #[.int .i64 kd, .int .i64 11] X fun e w' => e = .returned (.int .i64 k) ∧ w' = X) := fun X => by rw [← hk]; exact pick_any kd 11 (by decide) hkd.1 (by omega) (by decide) X
  obtain ⟨rs, hrs⟩ : ∃ x, x = act s k (Stv.mk wh kd tk ix m) := ⟨_, rfl⟩
  have HRS : Hid (rs = act s k (Stv.mk wh kd tk ix m)) := hrs
  obtain ⟨ch, hch⟩ : ∃ x, x = decide (k < 7) := ⟨_, rfl⟩
  have HCH : Hid (ch = decide (k < 7)) := hch
  show Calls _ _ _ _ fun e w' => e = .returned (.tuple #[.bool (decide (pk kd 11 < 7)), .int .i64 (act s (pk kd 11) (Stv.mk wh kd tk ix m)).2]) ∧ VtB w p c m1 m2 (act s (pk kd 11) (Stv.mk wh kd tk ix m)).1 w'
  rw [hk] at hkr ⊢
  rw [← hrc, ← hrs, ← hch]
  clear hV hc hr hrc hcm hk hkd hrs hch
  go_enter Try.func12, Try.ntmps12
  go_upto_region 1 with (refine wpList_boxG 35 rfl (.tmp 1) rfl rc rfl ?_; intro X2 q1 q2; have RR : Hid (Row X2 w.heap.size rc 35) := q1; have B1 : Hid (Below w.heap.size w X2) := q2; clear q1 q2)
  obtain ⟨bs, hbs⟩ : ∃ b, b = w.heap.size := ⟨_, rfl⟩
  rw [← hbs] at RR ⊢
  clear hbs
  have c1 := RR.out.cell 1 _ H1.out
  have c2 := RR.out.cell 2 _ H2.out
  have c3 := RR.out.cell 3 _ H3.out
  have V2 : Hid (Vt X2 p c m1 m2 s) := HV.out.be B1.out
  have RMA : Hid (X2.rangeAt bs 4 cm) := HRA.out X2 bs RR.out
  go_upto_region 2 with (go_at_call 11; refine Calls.mono (HP.out X2) ?_; rintro e X ⟨rfl, hqq⟩; obtain rfl := hqq.symm)
  clear HP H1 H2 H3 HRA HL
  have hkk : k = 0 ∨ k = 1 ∨ k = 2 ∨ k = 3 ∨ k = 4 ∨ k = 5 ∨ k = 6 ∨ (¬ k = 0 ∧ ¬ k = 1 ∧ ¬ k = 2 ∧ ¬ k = 3 ∧ ¬ k = 4 ∧ ¬ k = 5 ∧ ¬ k = 6 ∧ ¬ k < 7) := by omega
  clear hkr
  rcases hkk with rfl | rfl | rfl | rfl | rfl | rfl | rfl | ⟨g0, g1, g2, g3, g4, g5, g6, g7⟩
  · have HRI : Hid (rs = sList s tk) := HRS.out
    have HCI : Hid (ch = true) := HCH.out
    clear HRS HCH
    go_wp2_with (go_at_call 23; refine Calls.mono ((by have h := list_any V2.out HC.out tk; rw [← HRI.out] at h; exact h)) ?_; rintro e X3 ⟨rfl, h9⟩; have HD : Hid (VtB X2 p c m1 m2 rs.1 X3) := h9; clear h9)
    go_ret2
    exact ⟨by rw [HCI.out]; rfl, HD.out.be B1.out⟩
  · have HRI : Hid (rs = sStop s tk true) := HRS.out
    have HCI : Hid (ch = true) := HCH.out
    clear HRS HCH
    go_wp2_with (go_at_call 27; refine Calls.mono ((by have h := stop_any V2.out HC.out tk true; rw [← HRI.out] at h; exact h)) ?_; rintro e X3 ⟨rfl, h9⟩; have HD : Hid (VtB X2 p c m1 m2 rs.1 X3) := h9; clear h9)
    go_ret2
    exact ⟨by rw [HCI.out]; rfl, HD.out.be B1.out⟩
  · have HRI : Hid (rs = sStop s tk false) := HRS.out
    have HCI : Hid (ch = true) := HCH.out
    clear HRS HCH
    go_wp2_with (go_at_call 27; refine Calls.mono ((by have h := stop_any V2.out HC.out tk false; rw [← HRI.out] at h; exact h)) ?_; rintro e X3 ⟨rfl, h9⟩; have HD : Hid (VtB X2 p c m1 m2 rs.1 X3) := h9; clear h9)
    go_ret2
    exact ⟨by rw [HCI.out]; rfl, HD.out.be B1.out⟩
  · have HRI : Hid (rs = sDep s tk m) := HRS.out
    have HCI : Hid (ch = true) := HCH.out
    clear HRS HCH
    go_wp2_with (first
      | (refine wpList_load_w rfl 33 (.tmp 32) rfl bs 4 rfl cm _ RMA.out Try.underlying33 rfl HWM.out.info ?_)
      | (go_at_call 24; refine Calls.mono ((by have h := dep_any V2.out HC.out tk m HM.out; rw [← HRI.out, ← HWM.out] at h; exact h)) ?_; rintro e X3 ⟨rfl, h9⟩; have HD : Hid (VtB X2 p c m1 m2 rs.1 X3) := h9; clear h9))
    go_ret2
    exact ⟨by rw [HCI.out]; rfl, HD.out.be B1.out⟩
  · have HRI : Hid (rs = sPay s ix tk m) := HRS.out
    have HCI : Hid (ch = true) := HCH.out
    clear HRS HCH
    go_wp2_with (first
      | (refine wpList_load_w rfl 33 (.tmp 42) rfl bs 4 rfl cm _ RMA.out Try.underlying33 rfl HWM.out.info ?_)
      | (go_at_call 25; refine Calls.mono ((by have h := pay_any V2.out HC.out ix tk m HM.out; rw [← HRI.out, ← HWM.out] at h; exact h)) ?_; rintro e X3 ⟨rfl, h9⟩; have HD : Hid (VtB X2 p c m1 m2 rs.1 X3) := h9; clear h9))
    go_ret2
    exact ⟨by rw [HCI.out]; rfl, HD.out.be B1.out⟩
  · have HRI : Hid (rs = sLock s m) := HRS.out
    have HCI : Hid (ch = true) := HCH.out
    clear HRS HCH
    go_wp2_with (first
      | (refine wpList_load_w rfl 33 (.tmp 48) rfl bs 4 rfl cm _ RMA.out Try.underlying33 rfl HWM.out.info ?_)
      | (go_at_call 28; refine Calls.mono ((by have h := lock_any V2.out m HM.out; rw [← HRI.out, ← HWM.out] at h; exact h)) ?_; rintro e X3 ⟨rfl, h9⟩; have HD : Hid (VtB X2 p c m1 m2 rs.1 X3) := h9; clear h9))
    go_ret2
    exact ⟨by rw [HCI.out]; rfl, HD.out.be B1.out⟩
  · have HRI : Hid (rs = sFree s m) := HRS.out
    have HCI : Hid (ch = true) := HCH.out
    clear HRS HCH
    go_wp2_with (first
      | (refine wpList_load_w rfl 33 (.tmp 54) rfl bs 4 rfl cm _ RMA.out Try.underlying33 rfl HWM.out.info ?_)
      | (go_at_call 29; refine Calls.mono ((by have h := free_any V2.out m HM.out; rw [← HRI.out, ← HWM.out] at h; exact h)) ?_; rintro e X3 ⟨rfl, h9⟩; have HD : Hid (VtB X2 p c m1 m2 rs.1 X3) := h9; clear h9))
    go_ret2
    exact ⟨by rw [HCI.out]; rfl, HD.out.be B1.out⟩
  · have HRI : Hid (rs = (s, 0)) := by rw [HRS.out]; unfold act; rw [if_neg g0, if_neg g1, if_neg g2, if_neg g3, if_neg g4, if_neg g5, if_neg g6]; rfl
    have HCI : Hid (ch = false) := by rw [HCH.out]; exact decide_eq_false g7
    clear HRS HCH g7
    go_wp2_with fail
    go_ret2
    exact ⟨by rw [HCI.out, HRI.out]; rfl, by rw [HRI.out]; exact VtB.same HV.out B1.out⟩


end Go.Proofs.Ytkbdnebmekhcdaa
