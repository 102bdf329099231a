/-
  what a program that may be is; mayBe, Clone.
-/
import Derived.Test.YtabcglakdlkdcaaMkFf
import Derived.Test.YtabcglakdlkdcaaMkDc

namespace Go.Proofs.Ytabcglakdlkdcaa
open Go Go.RowKit
open Sha
open Wd

/-- What run.all answers. -/
def rans2 (G : Nat) : Except Int (Nat × Nat) → List Value × Int
  | .ok (v, l1) => (wq v ++ [.int .i64 ((G - l1 : Nat) : Int)], 0)
  | .error E => (zR, E)
/-- What a program's instructions are. -/
def PgOk (n : Nat) (ls : List Ins) : Prop := ∀ y ∈ ls, y.c < 28 ∧ (y.c = 4 → y.n ≤ 15) ∧ (y.c = 5 → 1 ≤ y.n ∧ y.n ≤ 15) ∧ (y.c = 14 ∨ y.c = 15 → y.n < n ∧ ∃ m, stf ls y.n = m + 1 ∧ m ≤ 100000) ∧ (y.c = 16 → y.n ≤ 1000)
section
variable {wS : World} {hb r T gs n : Nat} {pl : Value} {C : List Value} {av : Value} {ls : List Ins} {ags : List Nat} {rv iv : Value} {rs : List (Nat × Int)} {inn : List (BitVec 8)} {w w' : World} {stk : Value} {ss : List Nat} {l nx : Nat} {an : List Value} {qv : Value} {qs : List (List Value)}
theorem Lr.keep (H : Lr wS hb r T gs n pl C av ls ags rv iv rs inn w stk ss l nx an qv qs) (k : Below w.heap.size w w') : Lr wS hb r T gs n pl C av ls ags rv iv rs inn w' stk ss l nx an qv qs := by
  obtain ⟨w1, a1, a2, a3, a4, a5⟩ := H
  exact ⟨w1, a1, a2, (a3.keep k).rebase, a4.below k, a5⟩
theorem Lr.gro (H : Lr wS hb r T gs n pl C av ls ags rv iv rs inn w stk ss l nx an qv qs) : Gro (· = hb) wS w := by
  obtain ⟨w1, a1, a2, a3, a4, a5⟩ := H
  exact a2.below a3.be
theorem Lr.row (H : Lr wS hb r T gs n pl C av ls ags rv iv rs inn w stk ss l nx an qv qs) : Row w r (rc T pl (.slice (some ⟨gs, 0, none⟩) n n) C (.iface 48 (.pointer (some ⟨hb, 0, none⟩))) stk l nx an) 70 ∧ C.length = 48 := by
  obtain ⟨w1, a1, a2, a3, a4, a5⟩ := H
  exact ⟨a3.row, a3.clen⟩
theorem Lr.prg (H : Lr wS hb r T gs n pl C av ls ags rv iv rs inn w stk ss l nx an qv qs) : Lw w 77 7 pl ls.length (fl ls) := by
  obtain ⟨w1, a1, a2, a3, a4, a5⟩ := H
  exact a3.prg
theorem Lr.hst (H : Lr wS hb r T gs n pl C av ls ags rv iv rs inn w stk ss l nx an qv qs) : Hst w hb rv qv iv rs qs inn := by
  obtain ⟨w1, a1, a2, a3, a4, a5⟩ := H
  exact a4
end
/-- What stands from round to round. -/
def Rd (cl : Cl) (ags : List Nat) (ls : List Ins) (rs : List (Nat × Int)) (R : Except Int (Nat × Nat)) (Q : List (List Value)) (G : Nat) (st : List Nat) (l nx : Nat) (qs : List (List Value)) : Prop :=
  (∃ f Qf, ev2 cl ags ls rs f st l nx qs.length = (R, Qf) ∧ Q = qs ++ Qf ∧ l < f) ∧ qs.length * 200 + l ≤ 10000 ∧ l ≤ G ∧ (∀ a ∈ st, a < 2 ^ 256) ∧ st.length ≤ 64
theorem Rd.step {cl : Cl} {ags : List Nat} {ls : List Ins} {rs : List (Nat × Int)} {R : Except Int (Nat × Nat)} {Q : List (List Value)} {G : Nat} {st : List Nat} {l nx : Nat} {qs : List (List Value)} (V : Vals (2 ^ 256) cl ags ls rs) (h : Rd cl ags ls rs R Q G st l nx qs) (x : Ins) (hx : ls[nx]? = some x) (hc : x.c < 28) :
    (∀ E q, stU cl ags ls rs x st l nx qs.length = (.error E, q) → R = .error E ∧ Q = qs ++ q ∧ E ≠ 0) ∧
    (∀ st' nx' q, stU cl ags ls rs x st l nx qs.length = (.ok (st', nx'), q) → (x.c = 1 → R = .ok (st.getD 0 0, l - 1) ∧ Q = qs ++ q ∧ 1 ≤ l ∧ l - 1 ≤ G) ∧ (x.c ≠ 1 → Rd cl ags ls rs R Q G st' (l - gT x.c) nx' (qs ++ q) ∧ nx' ≤ ls.length ∧ l - gT x.c < l)) := by
  obtain ⟨⟨f, Qf, h1, h2, h3⟩, h4, h5, h6, h7⟩ := h
  have hm : x ∈ ls := List.mem_of_getElem? hx
  have hlt : nx < ls.length := (List.getElem?_eq_some_iff.1 hx).1
  have hinv := stU_inv V x hm hc st h6 l nx qs.length (by omega) (by omega)
  have hg1 := gT_pos x.c hc
  obtain ⟨f', rfl⟩ : ∃ f', f = f' + 1 := ⟨f - 1, by omega⟩
  unfold ev2 at h1
  rw [hx] at h1
  simp only at h1
  refine ⟨fun E q he => ?_, fun st' nx' q he => ?_⟩
  · rw [he] at h1
    simp only [Prod.mk.injEq] at h1
    exact ⟨h1.1.symm, by rw [h2, h1.2], hinv.2 E (by rw [he])⟩
  · have hgl : gT x.c ≤ l := stU_gas (y := (st', nx')) (by rw [he])
    have hi := hinv.1 st' nx' (by rw [he])
    rw [he] at h1
    simp only at h1
    refine ⟨fun hc1 => ?_, fun hc1 => ?_⟩
    · rw [if_pos hc1] at h1
      simp only [Prod.mk.injEq] at h1
      rw [hc1] at hgl
      have : gT 1 = 1 := rfl
      exact ⟨h1.1.symm, by rw [h2, h1.2], by omega, by omega⟩
    · rw [if_neg hc1] at h1
      simp only [Prod.mk.injEq] at h1
      have hql : (qs ++ q).length = qs.length + q.length := List.length_append
      have h200 : q.length * 200 + (l - gT x.c) ≤ l := by
        by_cases hq : q = []
        · rw [hq, List.length_nil]; omega
        · have h2' := stU_200 (cl := cl) (ags := ags) (ls := ls) (rs := rs) (x := x) (st := st) (l := l) (nx := nx) (nq := qs.length) hc (by rw [he]; exact hq)
          have h1' := stU_one (cl := cl) (ags := ags) (ls := ls) (rs := rs) (x := x) (st := st) (l := l) (nx := nx) (nq := qs.length)
          rw [he] at h1'
          rcases h1' with h1' | ⟨a, h1', _⟩
          · exact absurd h1' hq
          · simp only at h1'
            rw [h1', List.length_singleton]
            omega
      refine ⟨⟨⟨f', (ev2 cl ags ls rs f' st' (l - gT x.c) nx' (qs ++ q).length).2, ?_, ?_, by omega⟩, ?_, by omega, hi.1, hi.2.1⟩, hi.2.2, by omega⟩
      · rw [hql]
        exact Prod.ext h1.1 rfl
      · rw [h2, ← h1.2, hql, List.append_assoc]
      · rw [hql, Nat.add_mul]
        omega
theorem ends {wS X Y : World} {hb b2 : Nat} {rv iv : Value} {rs : List (Nat × Int)} {qs Q : List (List Value)} {inn : List (BitVec 8)} {cs : List Value} (h : ∃ qv', Hst X hb rv qv' iv rs qs inn ∧ Gro (· = hb) wS X) (k : Gro (· = b2) X Y) (r : Row X b2 cs 35) (hl : wS.heap.size ≤ b2) (hQ : Q = qs) : ∃ qv', Hst Y hb rv qv' iv rs Q inn ∧ Gro (· = hb) wS Y := by
  obtain ⟨qv', h1, h2⟩ := h
  refine ⟨qv', ?_, h2.then k (fun g e => .inr (by rw [e]; exact hl))⟩
  rw [hQ]
  exact h1.kh fun bb cs t ht rr => k.row rr (fun e => by
    have hne : t ≠ 35 := by rcases ht with h | h | h | h <;> rw [h] <;> decide
    exact row_ne2 rr r hne e)
set_option maxRecDepth 100000 in
set_option maxHeartbeats 8000000 in
theorem all_any {inn : List (BitVec 8)} (HNX : NextOK inn) (wS : World) (hb r T gs n : Nat) (pl : Value) (C : List Value) (av : Value) (ls : List Ins) (ags : List Nat) (rv iv : Value) (rs : List (Nat × Int)) (cl : Cl) (hcl : cl.In C) (V : Vals (2 ^ 256) cl ags ls rs) (hpos : 0 < ls.length) (hls : ls.length ≤ 1024) (hpg : PgOk n ls) (G : Nat) (hG : G ≤ 10000) (hgas : C[47]? = some (.int .i64 (G : Int))) (stk0 : Value) (an : List Value) (qv : Value) (R : Except Int (Nat × Nat)) (Q : List (List Value)) (hev : ev2 cl ags ls rs 10001 [] G 0 0 = (R, Q)) (RV : List Value) (RE : Int) (hR : rans2 G R = (RV, RE)) (w : World) (H : Lr wS hb r T gs n pl C av ls ags rv iv rs inn w stk0 [] G 0 an qv []) :
    Calls Try.prog 16 #[.pointer (some ⟨r, 0, none⟩)] w fun e w' => e = .returned (.tuple #[.agg RV.toArray, .int .i64 RE]) ∧ ∃ qv', Hst w' hb rv qv' iv rs Q inn ∧ Gro (· = hb) wS w' := by
  obtain ⟨g, cp, hpl, hcp⟩ := Lw.open H.prg hpos
  subst hpl
  obtain ⟨N, hN⟩ : ∃ N, N = ls.length := ⟨_, rfl⟩
  have HN : Hid (N = ls.length) := hN
  have HH : Hid (Lr wS hb r T gs n (.slice (some ⟨g, 0, none⟩) N cp) C av ls ags rv iv rs inn w stk0 ([]) G 0 an qv ([])) := by rw [hN]; exact H
  have HG : Hid (C[47]? = some (.int .i64 (G : Int))) := hgas
  have HV : Hid (Vals (2 ^ 256) cl ags ls rs ∧ PgOk n ls ∧ cl.In C ∧ NextOK inn) := ⟨V, hpg, hcl, HNX⟩
  have HRD0 : Hid (Rd cl ags ls rs R Q G [] G 0 []) := ⟨⟨10001, Q, hev, rfl, by omega⟩, by simp; omega, Nat.le_refl _, (fun a ha => by cases ha), Nat.zero_le _⟩
  have HRR : Hid (rans2 G R = (RV, RE)) := hR
  have hNl : N ≤ 1024 := by omega
  have HWS : Hid (wS.heap.size ≤ w.heap.size) := H.gro.size
  clear H hgas hcp V hev hpos hls hN hcl hpg HNX hR
  go_enter Try.func16, Try.ntmps16
  go_upto_region 1 with (refine wpList_allocR rfl rfl ?_; intro X0 q1 q2 q3; have RB0 : Hid (Row X0 w.heap.size zR 35) := q1; have HR0 : Hid (Lr wS hb r T gs n (.slice (some ⟨g, 0, none⟩) N cp) C av ls ags rv iv rs inn X0 stk0 ([]) G 0 an qv ([])) := HH.out.keep q2; clear q1 q2 q3; simp only [Act.put, List.setIfInBounds_toArray, List.set_cons_zero, List.set_cons_succ])
  obtain ⟨b2, hb2⟩ : ∃ b, b = w.heap.size := ⟨_, rfl⟩
  rw [← hb2] at RB0
  rw [← hb2]
  have HB2 : Hid (wS.heap.size ≤ b2) := by show _ ≤ _; rw [hb2]; exact HWS.out
  clear hb2 HH HWS
  have c1 : X0.cell? ⟨r, 1, none⟩ = some (.slice (some ⟨g, 0, none⟩) N cp) := HR0.out.row.1.cell 1 _ rfl
  go_step3
  go_wp2_with fail
  go_step3
  go_wp2_with fail
  clear c1
  go_loopw [6] (fun _ wr => ∃ (nx l : Nat) (st : List Nat) (stk qv : Value) (an : List Value) (qs : List (List Value)), Hid (Lr wS hb r T gs n (.slice (some ⟨g, 0, none⟩) N cp) C av ls ags rv iv rs inn wr stk (st.reverse) l nx an qv (qs)) ∧ Hid (Row wr b2 zR 35) ∧ Hid (Rd cl ags ls rs R Q G st l nx qs) ∧ nx ≤ N ∧ l ≤ 10000) (fun _ wr => (match wr.cell? ⟨r, 53, none⟩ with | some u => (intOf u).toNat | none => 0))
  case atStart => exact ⟨0, G, [], stk0, qv, an, [], HR0, RB0, HRD0, Nat.zero_le _, hG⟩
  case round =>
    clear HR0 RB0 HRD0 an qv
    obtain ⟨nx, l, st, stk, qv, an, qs, HR1, RB1, HRD, hnx, hl⟩ := hrel
    have c54 : wr.cell? ⟨r, 54, none⟩ = some (.int .i64 (nx : Int)) := HR1.out.row.1.cell 54 _ (rc_hi HR1.out.row.2 3)
    by_cases hlt : nx < N
    · obtain ⟨x, hx⟩ : ∃ x, ls[nx]? = some x := ⟨_, List.getElem?_eq_getElem (by rw [← HN.out]; exact hlt)⟩
      have hxm : x ∈ ls := List.mem_of_getElem? hx
      have hpx := HV.out.2.1 x hxm
      have hds := HRD.out.step HV.out.1 x hx hpx.1
      have c53 : wr.cell? ⟨r, 53, none⟩ = some (.int .i64 (l : Int)) := HR1.out.row.1.cell 53 _ (rc_hi HR1.out.row.2 2)
      have hNx : ((nx : Int) == (N : Int)) = false := by simp; omega
      obtain ⟨L, hL⟩ : ∃ L, L = ic x.c x.p x.a x.n := ⟨_, rfl⟩
      have HL : Hid (L = ic x.c x.p x.a x.n) := hL
      have RG : Hid (wr.rangeAt g (nx * 7) L) := by rw [hL]; exact fl_at (Lw.range (by have := HR1.out.prg; rwa [← HN.out] at this)) nx x hx
      have HI : Hid ((Try.prog.info? 77).map (·.size) = some L.length) := by show _ = _; rw [hL]; exact info_Ic _ _ _ _
      have HN7 : Hid (L.length = zI.length) := by show _ = _; rw [hL]; exact ic_len _ _ _ _
      have HO : Hid (L.toArray.all (·.oneCell') = true) := by show _ = _; rw [hL]; exact ic_one _ _ _ _
      have HDS : Hid _ := hds
      have HPX : Hid _ := hpx
      have HM : Hid (∀ (wz : World) (lz : Nat), lz < l → wz.cell? ⟨r, 53, none⟩ = some (.int .i64 (lz : Int)) → (match wz.cell? ⟨r, 53, none⟩ with | some u => (intOf u).toNat | none => 0) < (match wr.cell? ⟨r, 53, none⟩ with | some u => (intOf u).toNat | none => 0)) := fun wz lz hlz hz => by rw [hz, c53]; simp [intOf]; omega
      clear hL hx hxm hpx hds c53
      go_upto_region 5 with (first
        | (refine wpList_load_w rfl 77 (.tmp 25) rfl g (nx * 7) rfl L _ RG.out Try.underlying77 rfl HI.out ?_; simp only [Act.put, List.setIfInBounds_toArray, List.set_cons_zero, List.set_cons_succ])
        | (refine wpList_allocI rfl rfl ?_; intro Y1 q1 q2 q3; have R2 : Hid (Row Y1 wr.heap.size zI 77) := q1; have B2 : Hid (Below wr.heap.size wr Y1) := q2; clear q1 q2 q3; simp only [Act.put, List.setIfInBounds_toArray, List.set_cons_zero, List.set_cons_succ])
        | (refine wpList_storeL rfl 77 (.tmp 5) (.tmp 26) rfl wr.heap.size L zI 77 rfl rfl R2.out HN7.out HI.out HO.out ?_; intro Y2 q1 q2; have E2 : Hid (Y2 = _) := q1; have R3 : Hid (Row Y2 wr.heap.size L 77) := q2; clear q1 q2; simp only [Act.put]))
      have BY : Below wr.heap.size wr Y2 := by rw [E2.out]; exact below_setCells B2.out (Nat.le_refl _) _
      have HRY : Hid (Lr wS hb r T gs n (.slice (some ⟨g, 0, none⟩) N cp) C av ls ags rv iv rs inn Y2 stk (st.reverse) l nx an qv (qs)) := HR1.out.keep BY
      have RBY : Hid (Row Y2 b2 zR 35) := Row.below RB1.out BY RB1.out.lt
      obtain ⟨b5, hb5⟩ : ∃ b, b = wr.heap.size := ⟨_, rfl⟩
      rw [← hb5] at R3
      rw [← hb5]
      have hrd := HRD.out
      have HSU : Hid (Calls Try.prog 47 #[.pointer (some ⟨r, 0, none⟩), .agg L.toArray] Y2 fun e w' => ∃ v, e = .returned (.int .i64 v) ∧ Kr Y2 w' ∧ UP wS hb r T gs n (.slice (some ⟨g, 0, none⟩) N cp) C av ls ags rv iv rs inn cl x st l nx an qs v w') := by
        rw [HL.out]
        exact step_u HV.out.2.2.2 HV.out.2.2.1 HV.out.1.al x HPX.out.2.1 HPX.out.2.2.1 HPX.out.2.2.2.1 HPX.out.2.2.2.2 st l nx an stk qv qs hrd.2.2.2.1 (by omega) hrd.2.2.2.2 (by omega) (by have := hrd.2.1; omega) Y2 HRY.out HPX.out.1
      have ci : L[0]? = some (.int .i64 (x.c : Int)) := by rw [HL.out]; exact ic_0 _ _ _ _
      have HCI : Hid (L[0]? = some (.int .i64 (x.c : Int))) := ci
      clear ci hb5 c54 E2 R2 B2 BY RG HN7 HO HR1 RB1 hrd HRD HL HPX HRY
      rcases hstu : stU cl ags ls rs x st l nx qs.length with ⟨rr, q⟩
      cases rr with
      | error E =>
        have hd := HDS.out.1 E q hstu
        have HS : Hid (Calls Try.prog 47 #[.pointer (some ⟨r, 0, none⟩), .agg L.toArray] Y2 fun e w' => e = .returned (.int .i64 E) ∧ Row w' b2 zR 35 ∧ ∃ qv', Hst w' hb rv qv' iv rs (qs ++ q) inn ∧ Gro (· = hb) wS w') := by
          refine Calls.mono HSU.out ?_
          rintro e w' ⟨v, rfl, k, u⟩
          unfold UP at u
          rw [hstu] at u
          obtain ⟨rfl, stk', ss', l', nx', an', qv', u⟩ := u
          exact ⟨rfl, k _ _ _ (by decide) (by decide) (by decide) (by decide) RBY.out, qv', u.hst, u.gro⟩
        have HD : Hid (R = .error E ∧ Q = qs ++ q) := ⟨hd.1, hd.2.1⟩
        have hE0 : ¬ E = 0 := hd.2.2
        have hE1 : (E != 0) = true := by simpa using hE0
        clear hd HDS hstu HSU HCI
        go_upto_region 7 with (first
          | (refine wpList_load_w rfl 77 (.tmp 5) rfl b5 0 rfl L _ R3.out.all Try.underlying77 rfl HI.out ?_; simp only [Act.put, List.setIfInBounds_toArray, List.set_cons_zero, List.set_cons_succ])
          | (go_at_call 47; refine Calls.mono HS.out ?_; rintro e X2 ⟨rfl, q1, q2⟩; have RB2 : Hid (Row X2 b2 zR 35) := q1; have HF2 : Hid (∃ qv', Hst X2 hb rv qv' iv rs (qs ++ q) inn ∧ Gro (· = hb) wS X2) := q2; clear q1 q2))
        go_wp2_with (refine wpList_storeL rfl 35 (.tmp 2) (.tmp 33) rfl b2 zR zR 35 rfl rfl RB2.out rfl info_Ran zR_one ?_; intro X9 q1 q2; have E9 : Hid (X9 = _) := q1; have R9 : Hid (Row X9 b2 zR 35) := q2; clear q1 q2; simp only [Act.put])
        rw [Exit.noGoto_ret]
        have hG9 : Gro (· = b2) X2 X9 := by rw [E9.out]; exact gro_setCells b2 _ 0 X2 X2 (Gro.refl _ X2)
        have hr := HRR.out
        rw [HD.out.1] at hr
        obtain ⟨hv1, hv2⟩ := Prod.mk.inj hr
        refine bodyPost_ret (results_rowS_tmp Try.results16 _ _ b2 35 zR (.int .i64 E) rfl rfl R9.out Try.underlying35 info_Ran) rfl ?_
        exact ⟨by rw [← hv1, ← hv2], ends HF2.out hG9 RB2.out HB2.out HD.out.2⟩
      | ok y =>
        obtain ⟨st', nx'⟩ := y
        have hd := HDS.out.2 st' nx' q hstu
        by_cases hc1 : x.c = 1
        · have hd1 := hd.1 hc1
          obtain ⟨lz, hlz⟩ : ∃ lz, lz = l - gT x.c := ⟨_, rfl⟩
          obtain ⟨v, hv⟩ : ∃ v, v = st.getD 0 0 := ⟨_, rfl⟩
          have eg : gT x.c = 1 := by rw [hc1]; rfl
          have HS : Hid (Calls Try.prog 47 #[.pointer (some ⟨r, 0, none⟩), .agg L.toArray] Y2 fun e w' => e = .returned (.int .i64 0) ∧ Row w' b2 zR 35 ∧ Row w' b5 L 77 ∧ ∃ stk' qv', Lr wS hb r T gs n (.slice (some ⟨g, 0, none⟩) N cp) C av ls ags rv iv rs inn w' stk' (st'.reverse) lz nx' (wq v) qv' (qs ++ q)) := by
            refine Calls.mono HSU.out ?_
            rintro e w' ⟨v', rfl, k, u⟩
            unfold UP at u
            rw [hstu] at u
            obtain ⟨rfl, stk', qv', u⟩ := u
            rw [if_pos hc1, ← hlz, ← hv] at u
            exact ⟨rfl, k _ _ _ (by decide) (by decide) (by decide) (by decide) RBY.out, k _ _ _ (by decide) (by decide) (by decide) (by decide) R3.out, stk', qv', u⟩
          have HCI1 : Hid (L[0]? = some (.int .i64 1)) := by have := HCI.out; rw [hc1] at this; exact this
          have HD : Hid (R = .ok (v, lz) ∧ Q = qs ++ q) := ⟨by rw [hv, hlz, eg]; exact hd1.1, hd1.2.1⟩
          have hlzG : lz ≤ G := by rw [hlz, eg]; exact hd1.2.2.2
          clear hd hd1 HDS hstu HSU HCI hlz hv eg hc1 RBY
          go_upto_region 6 with (first
            | (refine wpList_load_w rfl 77 (.tmp 5) rfl b5 0 rfl L _ R3.out.all Try.underlying77 rfl HI.out ?_; simp only [Act.put, List.setIfInBounds_toArray, List.set_cons_zero, List.set_cons_succ])
            | (go_at_call 47; refine Calls.mono HS.out ?_; rintro e X4 ⟨rfl, q1, q2, stk4, qv4, q3⟩; have RB4 : Hid (Row X4 b2 zR 35) := q1; have R5 : Hid (Row X4 b5 L 77) := q2; have HR4 : Hid (Lr wS hb r T gs n (.slice (some ⟨g, 0, none⟩) N cp) C av ls ags rv iv rs inn X4 stk4 (st'.reverse) lz nx' (wq v) qv4 (qs ++ q)) := q3; clear q1 q2 q3))
          have ci0 : X4.cell? ⟨b5, 0, none⟩ = some (.int .i64 1) := R5.out.cell 0 _ HCI1.out
          clear HS R3 R5 HI
          have hwv : ∃ a0 a1 a2 a3 : Int, wq v = [.int .u64 a0, .int .u64 a1, .int .u64 a2, .int .u64 a3] := ⟨_, _, _, _, wq_cells v⟩
          obtain ⟨a0, a1, a2, a3, hwv⟩ := hwv
          have HWV : Hid (wq v = [.int .u64 a0, .int .u64 a1, .int .u64 a2, .int .u64 a3]) := hwv
          have r55 : ∀ j u, (wq v)[j]? = some u → X4.cell? ⟨r, j + 55, none⟩ = some u := fun j u hj => HR4.out.row.1.cell (j + 55) _ ((rc_hi HR4.out.row.2 (j + 4)).trans hj)
          rw [hwv] at r55
          have d0 : X4.cell? ⟨r, 55, none⟩ = some (.int .u64 a0) := r55 0 _ rfl
          have d1 : X4.cell? ⟨r, 56, none⟩ = some (.int .u64 a1) := r55 1 _ rfl
          have d2 : X4.cell? ⟨r, 57, none⟩ = some (.int .u64 a2) := r55 2 _ rfl
          have d3 : X4.cell? ⟨r, 58, none⟩ = some (.int .u64 a3) := r55 3 _ rfl
          have d4 : X4.cell? ⟨r, 50, none⟩ = some (.int .i64 (G : Int)) := HR4.out.row.1.cell 50 _ ((rc_low HR4.out.row.2 47 (by decide)).trans HG.out)
          have d5 : X4.cell? ⟨r, 53, none⟩ = some (.int .i64 (lz : Int)) := HR4.out.row.1.cell 53 _ (rc_hi HR4.out.row.2 2)
          have e0 := RB4.out.cell 0 _ rfl
          have f0 := RB4.out.thaw 0
          have e1 := RB4.out.cell 1 _ rfl
          have f1 := RB4.out.thaw 1
          have e2 := RB4.out.cell 2 _ rfl
          have f2 := RB4.out.thaw 2
          have e3 := RB4.out.cell 3 _ rfl
          have f3 := RB4.out.thaw 3
          have e4 := RB4.out.cell 4 _ rfl
          have f4 := RB4.out.thaw 4
          have HF4 : Hid (∃ qv', Hst X4 hb rv qv' iv rs (qs ++ q) inn ∧ Gro (· = hb) wS X4) := ⟨_, HR4.out.hst, HR4.out.gro⟩
          obtain ⟨df, hdf⟩ : ∃ d : Int, d = (G : Int) - (lz : Int) := ⟨_, rfl⟩
          have hw : IntKind.i64.wrap ((G : Int) - (lz : Int)) = df := by rw [IntKind.wrap_i64]; omega
          have HDF : Hid (df = (G : Int) - (lz : Int)) := hdf
          clear r55 hwv HR4 hdf
          go_upto_region 9 with fail
          go_region
          have RF := ((((RB4.out.set 0 (.int .u64 a0)).set 1 (.int .u64 a1)).set 2 (.int .u64 a2)).set 3 (.int .u64 a3)).set 4 (.int .i64 df)
          have GF : Gro (· = b2) X4 _ := (((((Gro.refl (· = b2) X4).set b2 0 (.int .u64 a0) rfl).set b2 1 (.int .u64 a1) rfl).set b2 2 (.int .u64 a2) rfl).set b2 3 (.int .u64 a3) rfl).set b2 4 (.int .i64 df) rfl
          have RFD := RF.drew
          have GFD := gro_drew GF
          have hr := HRR.out
          rw [HD.out.1] at hr
          obtain ⟨hv1, hv2⟩ := Prod.mk.inj hr
          have hvv : RV = [.int .u64 a0, .int .u64 a1, .int .u64 a2, .int .u64 a3, .int .i64 df] := by
            rw [← hv1, HWV.out, show ((G - lz : Nat) : Int) = df by rw [HDF.out]; omega]
            rfl
          have HVV : Hid (RV = [.int .u64 a0, .int .u64 a1, .int .u64 a2, .int .u64 a3, .int .i64 df] ∧ RE = 0) := ⟨hvv, hv2.symm⟩
          clear d0 d1 d2 d3 d4 d5 e0 e1 e2 e3 e4 f0 f1 f2 f3 f4 ci0 hr hv1 hv2 hvv hw
          go_wp2_with fail
          rw [Exit.noGoto_ret]
          refine bodyPost_ret (results_rowS_tmp Try.results16 _ _ b2 35 [.int .u64 a0, .int .u64 a1, .int .u64 a2, .int .u64 a3, .int .i64 df] (.int .i64 0) rfl rfl RFD Try.underlying35 info_Ran) rfl ?_
          exact ⟨by rw [HVV.out.1, HVV.out.2], ends HF4.out GFD RB4.out HB2.out HD.out.2⟩
        · have hd1 := hd.2 hc1
          obtain ⟨lz, hlz⟩ : ∃ lz, lz = l - gT x.c := ⟨_, rfl⟩
          have HS : Hid (Calls Try.prog 47 #[.pointer (some ⟨r, 0, none⟩), .agg L.toArray] Y2 fun e w' => e = .returned (.int .i64 0) ∧ Row w' b2 zR 35 ∧ Row w' b5 L 77 ∧ ∃ stk' qv', Lr wS hb r T gs n (.slice (some ⟨g, 0, none⟩) N cp) C av ls ags rv iv rs inn w' stk' (st'.reverse) lz nx' an qv' (qs ++ q)) := by
            refine Calls.mono HSU.out ?_
            rintro e w' ⟨v', rfl, k, u⟩
            unfold UP at u
            rw [hstu] at u
            obtain ⟨rfl, stk', qv', u⟩ := u
            rw [if_neg hc1, ← hlz] at u
            exact ⟨rfl, k _ _ _ (by decide) (by decide) (by decide) (by decide) RBY.out, k _ _ _ (by decide) (by decide) (by decide) (by decide) R3.out, stk', qv', u⟩
          rw [← hlz] at hd1
          have HRD2 : Hid (Rd cl ags ls rs R Q G st' lz nx' (qs ++ q)) := hd1.1
          have HNX2 : Hid (nx' ≤ N ∧ lz < l ∧ lz ≤ 10000) := ⟨by rw [HN.out]; exact hd1.2.1, hd1.2.2, by have := hd1.2.2; omega⟩
          obtain ⟨xc, hxc⟩ : ∃ xc, xc = x.c := ⟨_, rfl⟩
          rw [← hxc] at HCI
          have ex1 : ((xc : Int) == 1) = false := by simp; omega
          clear hd hd1 HDS hstu HSU hlz hc1 RBY hxc
          go_upto_region 6 with (first
            | (refine wpList_load_w rfl 77 (.tmp 5) rfl b5 0 rfl L _ R3.out.all Try.underlying77 rfl HI.out ?_; simp only [Act.put, List.setIfInBounds_toArray, List.set_cons_zero, List.set_cons_succ])
            | (go_at_call 47; refine Calls.mono HS.out ?_; rintro e X2 ⟨rfl, q1, q2, stk2, qv2, q3⟩; have RB2 : Hid (Row X2 b2 zR 35) := q1; have R5 : Hid (Row X2 b5 L 77) := q2; have HR2 : Hid (Lr wS hb r T gs n (.slice (some ⟨g, 0, none⟩) N cp) C av ls ags rv iv rs inn X2 stk2 (st'.reverse) lz nx' an qv2 (qs ++ q)) := q3; clear q1 q2 q3))
          have ci0 : X2.cell? ⟨b5, 0, none⟩ = some (.int .i64 (xc : Int)) := R5.out.cell 0 _ HCI.out
          have c532 : X2.cell? ⟨r, 53, none⟩ = some (.int .i64 (lz : Int)) := HR2.out.row.1.cell 53 _ (rc_hi HR2.out.row.2 2)
          have HD : Hid _ := HM.out X2 lz HNX2.out.2.1 c532
          clear c532 HS R3 R5 HI
          go_wp2_with fail
          exact ⟨⟨nx', lz, st', stk2, qv2, an, qs ++ q, HR2, RB2, HRD2, HNX2.out.1, HNX2.out.2.2⟩, HD.out⟩
    · have hN2 : nx = N := by omega
      obtain ⟨⟨f, Qf, h1, h2, h3⟩, _⟩ := HRD.out
      obtain ⟨f', rfl⟩ : ∃ f', f = f' + 1 := ⟨f - 1, by omega⟩
      unfold ev2 at h1
      rw [List.getElem?_eq_none (by rw [← HN.out]; omega)] at h1
      simp only [Prod.mk.injEq] at h1
      have HD : Hid (R = .error 106 ∧ Q = qs ++ []) := ⟨h1.1.symm, by rw [h2, ← h1.2]⟩
      have hNx : ((nx : Int) == (N : Int)) = true := by simp; omega
      have HF2 : Hid (∃ qv', Hst wr hb rv qv' iv rs (qs ++ []) inn ∧ Gro (· = hb) wS wr) := ⟨_, by rw [List.append_nil]; exact HR1.out.hst, HR1.out.gro⟩
      clear h1 h2 h3 hN2 HRD hlt
      go_wp2_with (refine wpList_storeL rfl 35 (.tmp 2) (.tmp 19) rfl b2 zR zR 35 rfl rfl RB1.out rfl info_Ran zR_one ?_; intro X9 q1 q2; have E9 : Hid (X9 = _) := q1; have R9 : Hid (Row X9 b2 zR 35) := q2; clear q1 q2; simp only [Act.put])
      rw [Exit.noGoto_ret]
      have hG9 : Gro (· = b2) wr X9 := by rw [E9.out]; exact gro_setCells b2 _ 0 wr wr (Gro.refl _ wr)
      have hr := HRR.out
      rw [HD.out.1] at hr
      obtain ⟨hv1, hv2⟩ := Prod.mk.inj hr
      refine bodyPost_ret (results_rowS_tmp Try.results16 _ _ b2 35 zR (.int .i64 106) rfl rfl R9.out Try.underlying35 info_Ran) rfl ?_
      exact ⟨by rw [← hv1, ← hv2], ends HF2.out hG9 RB1.out HB2.out HD.out.2⟩

end Go.Proofs.Ytabcglakdlkdcaa

namespace Go.Proofs.Ytabcglakdlkdcaa
open Go Go.RowKit
open Sha
open Wd

theorem pg_mem2 {d : List (BitVec 8)} : ∀ {f p : Nat} {ls : List Ins}, pg d f p = some ls → ∀ x ∈ ls, x.p < d.length ∧ ∃ s, ri (d.drop x.p) = some (x.c, x.a, x.n, s)
  | 0, _, _, h => by cases h
  | f + 1, p, ls, h => by
    by_cases hp : d.length ≤ p
    · rw [pg_end hp] at h
      obtain rfl := Option.some.inj h
      intro x hx
      cases hx
    · cases hri : ri (d.drop p) with
      | none => rw [pg_none (by omega) hri] at h; cases h
      | some y =>
        obtain ⟨c, a, m, z⟩ := y
        rw [pg_some (by omega) hri] at h
        cases hr : pg d f (p + z) with
        | none => rw [hr] at h; cases h
        | some r =>
          rw [hr] at h
          simp only [Option.map_some, Option.some.injEq] at h
          subst h
          intro x hx
          rcases List.mem_cons.1 hx with rfl | hx
          · exact ⟨by show p < _; omega, z, hri⟩
          · exact pg_mem2 hr x hx
theorem ri_head2 {b : List (BitVec 8)} {c a n s : Nat} (h : ri b = some (c, a, n, s)) : ∃ x r, b = x :: r ∧ x.toNat = c ∧ ow (oper c) r ≤ r.length ∧ ro (oper c) (r.take (ow (oper c) r)) = some (a, n) := by
  cases b with
  | nil => cases h
  | cons x r =>
    unfold ri at h
    simp only at h
    split at h
    · cases h
    · split at h
      · cases h
      · split at h
        · cases h
        · rename_i h1 h2 _ _ _ h3
          simp only [Option.some.injEq, Prod.mk.injEq] at h
          obtain ⟨rfl, rfl, rfl, rfl⟩ := h
          exact ⟨x, r, rfl, rfl, by omega, h3⟩
theorem ri_small {b : List (BitVec 8)} {c a n s : Nat} (h : ri b = some (c, a, n, s)) : (c = 4 → n ≤ 15) ∧ (c = 5 → 1 ≤ n ∧ n ≤ 15) ∧ (c = 16 → n ≤ 1000) := by
  obtain ⟨x, r, rfl, hx, hl, ho⟩ := ri_head2 h
  unfold ro at ho
  refine ⟨fun hc => ?_, fun hc => ?_, fun hc => ?_⟩
  · rw [hc, show oper 4 = 2 from rfl, if_neg (by decide), show lo 2 = 0 from rfl, show hi 2 = 15 from rfl] at ho
    split at ho
    · cases ho
    · rw [if_neg (by decide), if_neg (by decide)] at ho
      simp only [Option.some.injEq, Prod.mk.injEq] at ho
      omega
  · rw [hc, show oper 5 = 3 from rfl, if_neg (by decide), show lo 3 = 1 from rfl, show hi 3 = 15 from rfl] at ho
    split at ho
    · cases ho
    · rw [if_neg (by decide), if_neg (by decide)] at ho
      simp only [Option.some.injEq, Prod.mk.injEq] at ho
      omega
  · rw [hc, show oper 16 = 4 from rfl, if_neg (by decide), show lo 4 = 0 from rfl, show hi 4 = 255 from rfl] at ho
    split at ho
    · cases ho
    · rw [if_neg (by decide), if_neg (by decide)] at ho
      simp only [Option.some.injEq, Prod.mk.injEq] at ho
      omega
theorem pg_len {d : List (BitVec 8)} : ∀ {f p : Nat} {ls : List Ins}, pg d f p = some ls → p ≤ d.length → ls.length + p ≤ d.length
  | 0, _, _, h, _ => by cases h
  | f + 1, p, ls, h, hp0 => by
    by_cases hp : d.length ≤ p
    · rw [pg_end hp] at h
      obtain rfl := Option.some.inj h
      simpa using hp0
    · cases hri : ri (d.drop p) with
      | none => rw [pg_none (by omega) hri] at h; cases h
      | some y =>
        obtain ⟨c, a, m, z⟩ := y
        have hz := ri_size hri
        rw [List.length_drop] at hz
        rw [pg_some (by omega) hri] at h
        cases hr : pg d f (p + z) with
        | none => rw [hr] at h; cases h
        | some r =>
          rw [hr] at h
          simp only [Option.map_some, Option.some.injEq] at h
          subst h
          have := pg_len hr (by omega)
          rw [List.length_cons]
          omega
/-- What a program that may be is. -/
theorem chk_ok {d : List (BitVec 8)} {ls : List Ins} (h : chk d = some ls) : 0 < ls.length ∧ ls.length ≤ 1024 ∧ PgOk d.length ls ∧ (∀ y ∈ ls, y.a < 2 ^ 256) ∧ (∀ y ∈ ls, y.c = 14 ∨ y.c = 15 → stf ls y.n ≠ 0) ∧ 0 < d.length ∧ d.length ≤ 1024 := by
  unfold chk at h
  split at h
  · cases h
  rename_i hl
  cases hp : pg d (d.length + 1) 0 with
  | none => rw [hp] at h; cases h
  | some l =>
    rw [hp] at h
    simp only at h
    split at h
    · rename_i hle
      obtain rfl := Option.some.inj h
      have hlen := pg_len hp (Nat.zero_le _)
      have hmem := pg_mem2 hp
      have h0 : 0 < l.length := by
        cases hri : ri (d.drop 0) with
        | none => rw [pg_none (by omega) hri] at hp; cases hp
        | some y =>
          obtain ⟨c, a, m, z⟩ := y
          rw [pg_some (by omega) hri] at hp
          cases hr : pg d d.length (0 + z) with
          | none => rw [hr] at hp; cases hp
          | some r =>
            rw [hr] at hp
            simp only [Option.map_some, Option.some.injEq] at hp
            rw [← hp]
            simp
      have hj : ∀ y ∈ l, y.c = 14 ∨ y.c = 15 → l.any (fun j => j.p == y.n) = true := fun y hy hc => by
        unfold leads at hle
        have := List.all_eq_true.1 hle y hy
        have ho : oper y.c = 5 := by rcases hc with hc | hc <;> rw [hc] <;> rfl
        simpa [ho] using this
      refine ⟨h0, by omega, fun y hy => ?_, fun y hy => ?_, fun y hy hc => (stf_pos l y.n).2 (hj y hy hc), by omega, by omega⟩
      · obtain ⟨_, s, hs⟩ := hmem y hy
        have h1 := ri_size hs
        have h2 := ri_small hs
        refine ⟨h1.1, h2.1, h2.2.1, fun hc => ?_, h2.2.2⟩
        have ha := hj y hy hc
        have hp0 := (stf_pos l y.n).2 ha
        have hsl := stf_le l y.n
        obtain ⟨j, hj1, hj2⟩ := List.any_eq_true.1 ha
        have hj3 : j.p = y.n := by simpa using hj2
        have := (hmem j hj1).1
        exact ⟨by omega, stf l y.n - 1, by omega, by omega⟩
      · obtain ⟨_, s, hs⟩ := hmem y hy
        exact (ri_vals hs).2
    · cases h
/-- A call, but for its arguments. -/
structure Ca where
  sf : List (BitVec 8)
  cr : List (BitVec 8)
  tok : Int
  amt : Nat
  tm : Int
  gas : Int
def Ca.cl (c : Ca) : Cl := ⟨c.sf, c.cr, c.tok.toNat, c.amt, c.tm.toNat⟩
def Ca.cs (c : Ca) (v : Value) : List Value := vB c.sf ++ (vB c.cr ++ (.int .i64 c.tok :: (wq c.amt ++ [v, .int .i64 c.tm, .int .i64 c.gas])))
structure Ca.Wf (c : Ca) : Prop where
  l1 : c.sf.length = 20
  l2 : c.cr.length = 20
  amt : c.amt < 2 ^ 256
theorem vB_len (l : List (BitVec 8)) : (vB l).length = l.length := by simp [vB]
theorem Ca.len {c : Ca} (h : c.Wf) (v : Value) : (c.cs v).length = 48 := by
  unfold Ca.cs
  simp only [List.length_append, List.length_cons, vB_len, h.l1, h.l2, wq_len, List.length_nil]
theorem Ca.hi {c : Ca} (h : c.Wf) (v : Value) (j : Nat) : (c.cs v)[40 + j]? = (Value.int .i64 c.tok :: (wq c.amt ++ [v, .int .i64 c.tm, .int .i64 c.gas]))[j]? := by
  unfold Ca.cs
  rw [List.getElem?_append_right (by rw [vB_len, h.l1]; omega), List.getElem?_append_right (by rw [vB_len, vB_len, h.l1, h.l2]; omega), vB_len, vB_len, h.l1, h.l2, show 40 + j - 20 - 20 = j by omega]
theorem Ca.at40 {c : Ca} (h : c.Wf) (v : Value) : (c.cs v)[40]? = some (.int .i64 c.tok) := Ca.hi h v 0
theorem Ca.top {c : Ca} (h : c.Wf) (v : Value) (j : Nat) : (c.cs v)[45 + j]? = [v, .int .i64 c.tm, .int .i64 c.gas][j]? := by
  rw [show 45 + j = 40 + ((j + 4) + 1) by omega, Ca.hi h v, List.getElem?_cons_succ, List.getElem?_append_right (by rw [wq_len]; omega), wq_len, Nat.add_sub_cancel]
theorem Ca.at45 {c : Ca} (h : c.Wf) (v : Value) : (c.cs v)[45]? = some v := Ca.top h v 0
theorem Ca.at46 {c : Ca} (h : c.Wf) (v : Value) : (c.cs v)[46]? = some (.int .i64 c.tm) := Ca.top h v 1
theorem Ca.at47 {c : Ca} (h : c.Wf) (v : Value) : (c.cs v)[47]? = some (.int .i64 c.gas) := Ca.top h v 2
theorem Ca.set45 {c : Ca} (h : c.Wf) (v : Value) (u : Value) : (c.cs v).set 45 u = c.cs u := by
  unfold Ca.cs
  rw [List.set_append, if_neg (by rw [vB_len, h.l1]; decide), List.set_append, if_neg (by rw [vB_len, vB_len, h.l1, h.l2]; decide), vB_len, vB_len, h.l1, h.l2, show 45 - 20 - 20 = 4 + 1 by decide, List.set_cons_succ, List.set_append, if_neg (by rw [wq_len]; decide), wq_len]
  rfl
theorem Ca.one {c : Ca} (v : Value) (hv : v.oneCell' = true) : (c.cs v).toArray.all (·.oneCell') = true := by
  rw [← Array.all_toList]
  unfold Ca.cs
  have hb : ∀ l : List (BitVec 8), (vB l).all (·.oneCell') = true := fun l => List.all_eq_true.2 fun u hu => by
    obtain ⟨x, _, rfl⟩ := List.mem_map.1 hu
    rfl
  have hw := wq_one c.amt
  rw [← Array.all_toList] at hw
  simp only [List.all_append, List.all_cons, List.all_nil, hb, hv, Bool.and_true, Bool.true_and]
  rw [hw]
  rfl
theorem Ca.inC {c : Ca} (h : c.Wf) (v : Value) (h1 : 0 ≤ c.tok) (h2 : c.tok < 64) (h3 : 0 ≤ c.tm) (h4 : c.tm ≤ 4611686018427387904) : c.cl.In (c.cs v) := by
  refine ⟨h.l1, h.l2, fun j u hj => ?_, fun j u hj => ?_, ?_, ?_, fun j u hj => ?_, h.amt, ?_, ?_⟩
  · replace hj : (vB c.sf)[j]? = some u := hj
    rw [Nat.zero_add]
    unfold Ca.cs
    rw [List.getElem?_append_left (List.getElem?_eq_some_iff.1 hj).1]
    exact hj
  · replace hj : (vB c.cr)[j]? = some u := hj
    unfold Ca.cs
    rw [List.getElem?_append_right (by rw [vB_len, h.l1]; omega), vB_len, h.l1, Nat.add_sub_cancel_left, List.getElem?_append_left (List.getElem?_eq_some_iff.1 hj).1]
    exact hj
  · rw [Ca.at40 h v]
    show some (Value.int .i64 c.tok) = some (.int .i64 ((c.tok.toNat : Nat) : Int))
    rw [Int.toNat_of_nonneg h1]
  · show c.tok.toNat < _
    omega
  · replace hj : (wq c.amt)[j]? = some u := hj
    rw [show 41 + j = 40 + (j + 1) by omega, Ca.hi h v, List.getElem?_cons_succ, List.getElem?_append_left (List.getElem?_eq_some_iff.1 hj).1]
    exact hj
  · rw [Ca.at46 h v]
    show some (Value.int .i64 c.tm) = some (.int .i64 ((c.tm.toNat : Nat) : Int))
    rw [Int.toNat_of_nonneg h3]
  · show c.tm.toNat < _
    omega
/-- May a program be called so? -/
def Ca.may (c : Ca) (na : Nat) : Prop := 0 ≤ c.tok ∧ c.tok < 64 ∧ na ≤ 8 ∧ 0 ≤ c.tm ∧ c.tm ≤ 4611686018427387904 ∧ 1 ≤ c.gas ∧ c.gas ≤ 10000
set_option maxRecDepth 100000 in
set_option maxHeartbeats 4000000 in
theorem mayBe_all (C : List Value) (A : Option Addr) (n c : Nat) (tok tm gas : Int) (h0 : C[40]? = some (.int .i64 tok)) (h1 : C[45]? = some (.slice A n c)) (h2 : C[46]? = some (.int .i64 tm)) (h3 : C[47]? = some (.int .i64 gas)) (w : World) :
    ((0 ≤ tok ∧ tok < 64 ∧ n ≤ 8 ∧ 0 ≤ tm ∧ tm ≤ 4611686018427387904 ∧ 1 ≤ gas ∧ gas ≤ 10000) → Calls Try.prog 14 #[.agg C.toArray] w fun e w' => e = .returned (.bool true) ∧ Below w.heap.size w w') ∧ (¬ (0 ≤ tok ∧ tok < 64 ∧ n ≤ 8 ∧ 0 ≤ tm ∧ tm ≤ 4611686018427387904 ∧ 1 ≤ gas ∧ gas ≤ 10000) → Calls Try.prog 14 #[.agg C.toArray] w fun e w' => e = .returned (.bool false) ∧ Below w.heap.size w w') := by
  have H0 : Hid (C[40]? = some (.int .i64 tok)) := h0
  have H1 : Hid (C[45]? = some (.slice A n c)) := h1
  have H2 : Hid (C[46]? = some (.int .i64 tm)) := h2
  have H3 : Hid (C[47]? = some (.int .i64 gas)) := h3
  clear h0 h1 h2 h3
  refine ⟨fun hm => ?_, fun hm => ?_⟩
  · obtain ⟨k1, k2, k3, k4, k5, k6, k7⟩ := hm
    have t0 : ¬ (tok < 0) := by omega
    have t1 : ¬ (64 ≤ tok) := by omega
    have t1a : tok < 64 := by omega
    have n0 : ¬ ((8 : Int) < (n : Int)) := by omega
    have n0a : (n : Int) ≤ 8 := by omega
    have m0 : ¬ (tm < 0) := by omega
    have m1 : ¬ (4611686018427387904 < tm) := by omega
    have m1a : decide (4611686018427387904 < tm) = false := by simp; omega
    go_enter Try.func14, Try.ntmps14
    go_upto_region 1 with (refine wpList_boxG 30 rfl (.tmp 0) rfl C rfl ?_; intro X q1 q2 q3; have c0 := q1.cell 40 _ H0.out; have c1 := q1.cell 45 _ H1.out; have c2 := q1.cell 46 _ H2.out; have c3 := q1.cell 47 _ H3.out; have B1 : Hid (Below w.heap.size w X) := q2; clear q1 q2 q3; simp only [Act.put, List.setIfInBounds_toArray, List.set_cons_zero, List.set_cons_succ])
    go_wp2
    go_ret
    exact ⟨rfl, B1.out⟩
  · by_cases a1 : tok < 0
    · clear hm
      go_enter Try.func14, Try.ntmps14
      go_upto_region 1 with (refine wpList_boxG 30 rfl (.tmp 0) rfl C rfl ?_; intro X q1 q2 q3; have c0 := q1.cell 40 _ H0.out; have c1 := q1.cell 45 _ H1.out; have c2 := q1.cell 46 _ H2.out; have c3 := q1.cell 47 _ H3.out; have B1 : Hid (Below w.heap.size w X) := q2; clear q1 q2 q3; simp only [Act.put, List.setIfInBounds_toArray, List.set_cons_zero, List.set_cons_succ])
      go_wp2
      go_ret
      exact ⟨rfl, B1.out⟩
    by_cases a2 : 64 ≤ tok
    · clear hm
      have t0 : ¬ (tok < 0) := by omega
      go_enter Try.func14, Try.ntmps14
      go_upto_region 1 with (refine wpList_boxG 30 rfl (.tmp 0) rfl C rfl ?_; intro X q1 q2 q3; have c0 := q1.cell 40 _ H0.out; have c1 := q1.cell 45 _ H1.out; have c2 := q1.cell 46 _ H2.out; have c3 := q1.cell 47 _ H3.out; have B1 : Hid (Below w.heap.size w X) := q2; clear q1 q2 q3; simp only [Act.put, List.setIfInBounds_toArray, List.set_cons_zero, List.set_cons_succ])
      go_wp2
      go_ret
      exact ⟨rfl, B1.out⟩
    by_cases a3 : 8 < n
    · clear hm
      have t1a : tok < 64 := by omega
      have n1 : (8 : Int) < (n : Int) := by omega
      go_enter Try.func14, Try.ntmps14
      go_upto_region 1 with (refine wpList_boxG 30 rfl (.tmp 0) rfl C rfl ?_; intro X q1 q2 q3; have c0 := q1.cell 40 _ H0.out; have c1 := q1.cell 45 _ H1.out; have c2 := q1.cell 46 _ H2.out; have c3 := q1.cell 47 _ H3.out; have B1 : Hid (Below w.heap.size w X) := q2; clear q1 q2 q3; simp only [Act.put, List.setIfInBounds_toArray, List.set_cons_zero, List.set_cons_succ])
      go_wp2
      go_ret
      exact ⟨rfl, B1.out⟩
    by_cases a4 : tm < 0
    · clear hm
      have t1a : tok < 64 := by omega
      have n0 : ¬ ((8 : Int) < (n : Int)) := by omega
      have n0a : (n : Int) ≤ 8 := by omega
      go_enter Try.func14, Try.ntmps14
      go_upto_region 1 with (refine wpList_boxG 30 rfl (.tmp 0) rfl C rfl ?_; intro X q1 q2 q3; have c0 := q1.cell 40 _ H0.out; have c1 := q1.cell 45 _ H1.out; have c2 := q1.cell 46 _ H2.out; have c3 := q1.cell 47 _ H3.out; have B1 : Hid (Below w.heap.size w X) := q2; clear q1 q2 q3; simp only [Act.put, List.setIfInBounds_toArray, List.set_cons_zero, List.set_cons_succ])
      go_wp2
      go_ret
      exact ⟨rfl, B1.out⟩
    by_cases a5 : 4611686018427387904 < tm
    · clear hm
      have t1a : tok < 64 := by omega
      have n0 : ¬ ((8 : Int) < (n : Int)) := by omega
      have n0a : (n : Int) ≤ 8 := by omega
      have m2 : decide (4611686018427387904 < tm) = true := by simpa using a5
      go_enter Try.func14, Try.ntmps14
      go_upto_region 1 with (refine wpList_boxG 30 rfl (.tmp 0) rfl C rfl ?_; intro X q1 q2 q3; have c0 := q1.cell 40 _ H0.out; have c1 := q1.cell 45 _ H1.out; have c2 := q1.cell 46 _ H2.out; have c3 := q1.cell 47 _ H3.out; have B1 : Hid (Below w.heap.size w X) := q2; clear q1 q2 q3; simp only [Act.put, List.setIfInBounds_toArray, List.set_cons_zero, List.set_cons_succ])
      go_wp2
      go_ret
      exact ⟨rfl, B1.out⟩
    by_cases a6 : 1 ≤ gas
    · have a7 : ¬ (gas ≤ 10000) := fun h => hm ⟨by omega, by omega, by omega, by omega, by omega, a6, h⟩
      clear hm
      have t1a : tok < 64 := by omega
      have n0 : ¬ ((8 : Int) < (n : Int)) := by omega
      have n0a : (n : Int) ≤ 8 := by omega
      have m1a : decide (4611686018427387904 < tm) = false := by simpa using a5
      go_enter Try.func14, Try.ntmps14
      go_upto_region 1 with (refine wpList_boxG 30 rfl (.tmp 0) rfl C rfl ?_; intro X q1 q2 q3; have c0 := q1.cell 40 _ H0.out; have c1 := q1.cell 45 _ H1.out; have c2 := q1.cell 46 _ H2.out; have c3 := q1.cell 47 _ H3.out; have B1 : Hid (Below w.heap.size w X) := q2; clear q1 q2 q3; simp only [Act.put, List.setIfInBounds_toArray, List.set_cons_zero, List.set_cons_succ])
      go_wp2
      go_ret
      exact ⟨rfl, B1.out⟩
    · clear hm
      have t1a : tok < 64 := by omega
      have n0 : ¬ ((8 : Int) < (n : Int)) := by omega
      have n0a : (n : Int) ≤ 8 := by omega
      have m1a : decide (4611686018427387904 < tm) = false := by simpa using a5
      go_enter Try.func14, Try.ntmps14
      go_upto_region 1 with (refine wpList_boxG 30 rfl (.tmp 0) rfl C rfl ?_; intro X q1 q2 q3; have c0 := q1.cell 40 _ H0.out; have c1 := q1.cell 45 _ H1.out; have c2 := q1.cell 46 _ H2.out; have c3 := q1.cell 47 _ H3.out; have B1 : Hid (Below w.heap.size w X) := q2; clear q1 q2 q3; simp only [Act.put, List.setIfInBounds_toArray, List.set_cons_zero, List.set_cons_succ])
      go_wp2
      go_ret
      exact ⟨rfl, B1.out⟩
theorem wnil_eq (w : World) : (binOp .eql 28 (.slice none 0 0) (.slice none 0 0)).run Try.prog w = .ok (.bool true) w := by
  have h1 : ∀ d, (Op.equalIn (d + 1) 28 (.slice none 0 0) (.slice none 0 0)).run Try.prog w = .ok true w := fun d => by simp [Op.equalIn, run_underlying Try.underlying28]
  have h2 : (Op.equal 28 (.slice none 0 0) (.slice none 0 0)).run Try.prog w = .ok true w := h1 9999
  simp only [binOp]
  simp [h2]
/-- Arguments, as Clone takes them. -/
def Agv (w : World) (v : Value) (ags : List Nat) : Prop := (v = .slice none 0 0 ∧ ags = []) ∨ ∃ g c, v = .slice (some ⟨g, 0, none⟩) ags.length c ∧ w.rangeAt g 0 (fw ags)
set_option maxRecDepth 100000 in
set_option maxHeartbeats 4000000 in
theorem clone_all (ags : List Nat) (hn : ags.length ≤ 100) (v : Value) (w : World) (h : Agv w v ags) : Calls Try.prog 15 #[v] w fun e w' => ∃ A c, e = .returned (.slice A ags.length c) ∧ Lw w' 27 4 (.slice A ags.length c) ags.length (fw ags) ∧ Below w.heap.size w w' := by
  rcases h with ⟨rfl, rfl⟩ | ⟨g, c, rfl, hr⟩
  · have hq := wnil_eq
    go_enter Try.func15, Try.ntmps15
    go_wp2
    go_ret
    exact ⟨none, 0, rfl, Lw.nil _ _ _, Below.refl _ _⟩
  · refine Calls.mono (wclone_any ags hn g c w hr) ?_
    rintro e w' ⟨A, c', q1, q2, _, q3⟩
    exact ⟨A, c', q1, q2, q3⟩

end Go.Proofs.Ytabcglakdlkdcaa
