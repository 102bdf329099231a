/-
  LadderRefused: its walk.
-/
import Derived.Test.YtdilgeikleddbaaLaN
namespace Go.Proofs.Ytdilgeikleddbaa
open Go Go.RowKit
open Sha

theorem post_ref {st st' : La} {c : Cm} {ad : List (BitVec 8)} {ib now N E : Int} (h : st.post c ad ib now = (st', N, E)) (hE : E ≠ 0) : st' = st ∧ N = 0 := by
  unfold La.post at h
  split at h
  · cases h; exact ⟨rfl, rfl⟩
  · split at h
    · cases h; exact ⟨rfl, rfl⟩
    · split at h
      · cases h; exact ⟨rfl, rfl⟩
      · split at h
        · cases h; exact ⟨rfl, rfl⟩
        · split at h
          · cases h; exact ⟨rfl, rfl⟩
          · cases h; exact absurd rfl hE
theorem confirm_ref {st st' : La} {now E : Int} {y : Pn} (h : st.confirm now = (st', y, E)) (hE : E ≠ 0) : st' = st ∧ y = zP := by
  unfold La.confirm at h
  split at h
  · cases h; exact ⟨rfl, rfl⟩
  · split at h
    · cases h; exact ⟨rfl, rfl⟩
    · split at h
      · cases h; exact ⟨rfl, rfl⟩
      · split at h
        · cases h; exact ⟨rfl, rfl⟩
        · cases h; exact absurd rfl hE
theorem drop_ref {st st' : La} {nr E : Int} {y : List Pn} (h : st.drop nr = (st', y, E)) (hE : E ≠ 0) : st' = st ∧ y = [] := by
  unfold La.drop at h
  split at h
  · cases h; exact ⟨rfl, rfl⟩
  · cases h; exact absurd rfl hE
theorem hold_ref {st st' : La} {nr now E : Int} (h : st.hold nr now = (st', E)) (hE : E ≠ 0) : st' = st := by
  unfold La.hold at h
  split at h
  · cases h; rfl
  · split at h
    · cases h; rfl
    · split at h
      · cases h; rfl
      · split at h
        · cases h; rfl
        · cases h; exact absurd rfl hE
theorem rel_ref {st st' : La} {nr E : Int} (h : st.rel nr = (st', E)) (hE : E ≠ 0) : st' = st := by
  unfold La.rel at h
  split at h
  · cases h; rfl
  · split at h
    · cases h; rfl
    · split at h
      · cases h; rfl
      · cases h; exact absurd rfl hE
def zSt : Sp16 := ⟨0, 0, 0, zC, zA, 0, 0, 0, 0, 0⟩
theorem zSt_ok : zSt.Ok := ⟨zC_wf, by decide⟩
theorem confirm_wf {B : Int} {st st' : La} {now E : Int} {y : Pn} (hok : st.Ok B) (h : st.confirm now = (st', y, E)) : y.Wf := by
  unfold La.confirm at h
  split at h
  · cases h; exact zP_wf
  · split at h
    · cases h; exact zP_wf
    · rename_i x rest hp
      split at h
      · cases h; exact zP_wf
      · split at h
        · cases h; exact zP_wf
        · cases h; exact hok.pw y (by rw [hp]; exact List.mem_cons_self ..)
section
variable {ops : Array Oper} {rest : List Oper} {op : Oper} {a : Act} {w : World} {Q : Exit → Act → World → Prop}
set_option maxRecDepth 100000 in
theorem wpList_alSt (hgd : op.guard = none) (ho : op.op = .alloc 53) (h : ∀ X, Row X w.heap.size zSt.cells 53 → Below w.heap.size w X → X.heap.size = w.heap.size + 1 → wpList Try.prog ops Q rest (a.put op.dst (.pointer (some ⟨w.heap.size, 0, none⟩))) X) : wpList Try.prog ops Q (op :: rest) a w :=
  wpList_plain hgd fun _ hK => by
    unfold Oper.wp execOp
    simp only [ho]
    go_simp
    exact hK _ _ (h _ (Row.new' (cs := zSt.cells) rfl rfl) ((Below.refl _ _).alloc (Nat.le_refl _) _) (by simp))
end
set_option maxRecDepth 100000 in
set_option maxHeartbeats 16000000 in
theorem refused_walk (c : Cm) (hc : c.Wf) (win : Int) (rs : List Sp16) (A : Option Addr) (n cap : Nat) (hn : rs.length = n) (hn2 : n < 35184372088832) (M : List Value) (hM : M = scr c win (.slice A n cap)) (w : World) (hss : SsAt w A rs) : Calls Try.prog 6 #[.agg M.toArray] w fun e w' => e = .returned (.bool true) ∧ Below w.heap.size w w' := by
  have HCW : Hid c.Wf := hc
  have HIC : Hid ((Try.prog.info? tC).map (·.size) = some c.cells.length) := Cm.info hc
  have HM66 : Hid (M[66]? = some (.int .i64 win)) := by show _ = _; rw [hM]; exact scr_66 hc _ _
  have HM67 : Hid (M[67]? = some (.slice A n cap)) := by show _ = _; rw [hM]; exact scr_67 hc _ _
  have HMC : Hid (∀ j u, c.cells[j]? = some u → M[0 + j]? = some u) := fun j u hj => by rw [hM]; exact scr_c c _ _ j u hj
  have HSS : Hid (SsAt w A rs) := hss
  have HNR : Hid (rs.length = n) := hn
  by_cases hE : newE c win = 0
  case neg =>
    obtain ⟨E, hEE⟩ : ∃ E, newE c win = E := ⟨_, rfl⟩
    have HNEW : Hid (∀ X, Calls Try.prog 21 #[.agg c.cells.toArray, .int .i64 win] X fun e w' => e = .returned (.tuple #[.pointer none, .int .i64 E]) ∧ Below X.heap.size X w') := fun X => new_no c hc win _ rfl E hEE (by rw [← hEE]; exact hE) X
    have hne : ¬ E = 0 := by rw [← hEE]; exact hE
    have hne2 : (E != 0) = true := by simpa using hne
    clear hEE hE hc hM hss hn hn2
    go_enter Try.func6, Try.ntmps6
    go_wp2_with (first
      | (refine wpList_bxG 37 rfl (.tmp 0) rfl M rfl ?_; intro X0 q1 q2 q3; clear q3; have H0 : Hid (Hp w X0 [(w.heap.size, M, 37)] []) := (Hp.nil w).addR q2 q1 (Nat.le_refl _); clear q1 q2; simp only [Act.put, List.setIfInBounds_toArray, List.set_cons_zero, List.set_cons_succ])
      | (go_at_call 9; refine Calls.mono (awake_any _) ?_; rintro e X1 ⟨rfl, q⟩; have H1 : Hid (Hp w X1 [(w.heap.size, M, 37)] []) := H0.out.below q; have c66 : X1.cell? ⟨w.heap.size, 66, none⟩ = some (.int .i64 win) := (H1.out.row _ (List.mem_cons_self ..)).cell 66 _ HM66.out; clear q H0)
      | (refine wpList_ldS rfl tC (.tmp 22) rfl w.heap.size 0 rfl c.cells _ ((H1.out.row _ (List.mem_cons_self ..)).range 0 _ HMC.out) Try.underlying25 rfl HIC.out ?_; simp only [Act.put, List.setIfInBounds_toArray, List.set_cons_zero, List.set_cons_succ])
      | (go_at_call 21; refine Calls.mono (HNEW.out _) ?_; rintro e X2 ⟨rfl, q⟩; have B2 : Hid (Below w.heap.size w X2) := H1.out.be.trans (q.mono H1.out.be.size); clear q))
    go_ret
    exact ⟨rfl, B2.out⟩
  case pos =>
  obtain ⟨S0, hS0⟩ : ∃ S, S = La0 c win := ⟨_, rfl⟩
  have HNEW : Hid (∀ X, Calls Try.prog 21 #[.agg c.cells.toArray, .int .i64 win] X fun e w' => ∃ p, e = .returned (.tuple #[.pointer (some ⟨p, 0, none⟩), .int .i64 0]) ∧ Ld w' p (.slice none 0 0) 0 S0 ∧ X.heap.size ≤ p ∧ Below X.heap.size X w') := fun X => by rw [hS0]; exact new_ok c hc win _ rfl hE (Int.le_refl 0) X
  clear hc hM hss hn hE hS0
  go_enter Try.func6, Try.ntmps6
  go_wp2_with (first
    | (refine wpList_bxG 37 rfl (.tmp 0) rfl M rfl ?_; intro X0 q1 q2 q3; clear q3; have H0 : Hid (Hp w X0 [(w.heap.size, M, 37)] []) := (Hp.nil w).addR q2 q1 (Nat.le_refl _); clear q1 q2; simp only [Act.put, List.setIfInBounds_toArray, List.set_cons_zero, List.set_cons_succ])
    | (go_at_call 9; refine Calls.mono (awake_any _) ?_; rintro e X1 ⟨rfl, q⟩; have H1 : Hid (Hp w X1 [(w.heap.size, M, 37)] []) := H0.out.below q; have c66 : X1.cell? ⟨w.heap.size, 66, none⟩ = some (.int .i64 win) := (H1.out.row _ (List.mem_cons_self ..)).cell 66 _ HM66.out; clear q H0)
    | (refine wpList_ldS rfl tC (.tmp 22) rfl w.heap.size 0 rfl c.cells _ ((H1.out.row _ (List.mem_cons_self ..)).range 0 _ HMC.out) Try.underlying25 rfl HIC.out ?_; simp only [Act.put, List.setIfInBounds_toArray, List.set_cons_zero, List.set_cons_succ])
    | (go_at_call 21; refine Calls.mono (HNEW.out _) ?_; rintro e X2 ⟨p, rfl, q1, q2, q3⟩; have H2 : Hid (Hp w X2 [(w.heap.size, M, 37)] [(p, .slice none 0 0, 0, S0)]) := H1.out.addL q3 q1 (fun g hg => by { rcases hg with rfl | hg; exact q2; cases hg }); have c67 : X2.cell? ⟨w.heap.size, 67, none⟩ = some (.slice A n cap) := (H2.out.row _ (List.mem_cons_self ..)).cell 67 _ HM67.out; clear q1 q2 q3 H1 c66))
  clear c67 HNEW
  go_loopw [6] (fun i wr => ∃ (t : Nat) (v : Value), t ≤ n ∧ i = .int .i64 (t : Int) ∧ Hp w wr [(w.heap.size, M, 37)] [(p, v, (t : Int), S0.runS (rs.take t))]) (fun i _ => n - (intOf i).toNat)
  case atStart => exact ⟨0, _, Nat.zero_le _, rfl, H2.out⟩
  case round =>
    clear H2
    obtain ⟨t, v, hta, rfl, hH⟩ := hrel
    obtain ⟨S, hS⟩ : ∃ S, S = S0.runS (rs.take t) := ⟨_, rfl⟩
    rw [← hS] at hH
    have HH : Hid (Hp w wr [(w.heap.size, M, 37)] [(p, v, (t : Int), S)]) := hH
    clear hH
    by_cases htn : t < n
    case neg =>
      have hlt2 : ¬ ((t : Int) < (n : Int)) := by omega
      have c67 : wr.cell? ⟨w.heap.size, 67, none⟩ = some (.slice A n cap) := (HH.out.row _ (List.mem_cons_self ..)).cell 67 _ HM67.out
      clear hS
      go_wp2
      go_ret
      exact ⟨rfl, HH.out.be⟩
    case pos =>
      have hlt2 : (t : Int) < (n : Int) := by omega
      obtain ⟨x, hx⟩ : ∃ x, rs[t]? = some x := ⟨_, List.getElem?_eq_getElem (by rw [HNR.out]; omega)⟩
      obtain ⟨hxo, b, o, rfl, hrg⟩ := HSS.out.get HH.out.be hx
      have HRG : Hid (wr.rangeAt b (o + t * 94) x.cells) := hrg
      have HXO : Hid x.Ok := hxo
      have HXI : Hid ((Try.prog.info? 53).map (·.size) = some x.cells.length) := Sp16.info hxo
      have HIA : Hid ((Try.prog.info? tAd).map (·.size) = some (vB x.ad).length) := by show _ = _; rw [vB_length, hxo.a]; exact info_A
      have c67 : wr.cell? ⟨w.heap.size, 67, none⟩ = some (.slice (some ⟨b, o, none⟩) n cap) := (HH.out.row _ (List.mem_cons_self ..)).cell 67 _ HM67.out
      have hok : S.Ok (t : Int) := (HH.out.lad _ (List.mem_cons_self ..)).ok
      obtain ⟨S', hS'⟩ : ∃ S', S' = S.doS x := ⟨_, rfl⟩
      have HS' : Hid (S0.runS (rs.take (t + 1)) = S') := by show _ = _; rw [runS_succ S0 rs t x hx, ← hS, hS']
      have HOK2 : Hid (S'.Ok ((t + 1 : Nat) : Int)) := by rw [hS']; exact doS_ok hok (by omega) x hxo
      obtain ⟨m, hm⟩ : ∃ m, m = S.pend.length := ⟨_, rfl⟩
      obtain ⟨cf, hcf⟩ : ∃ c, c = S.conf := ⟨_, rfl⟩
      have HPW : Hid (∀ q ∈ S.pend, q.Wf) := hok.pw
      have HML : Hid (S.pend.length = m) := hm.symm
      have HMB : Hid (m ≤ 1000000) := by show _ ≤ _; have := hok.pl; omega
      have HCFW : Hid cf.Wf := by rw [hcf]; exact hok.cf
      have HCFE : Hid (cf = S.conf) := hcf
      have HICF : Hid ((Try.prog.info? tC).map (·.size) = some cf.cells.length) := Cm.info HCFW.out
      have HLCF : Hid (cf.cells.length = zC.cells.length) := (Cm.len HCFW.out).trans (Cm.len zC_wf).symm
      have HPN : Hid (∀ X p v, Ld X p v (t : Int) S → Calls Try.prog 22 #[.pointer (some ⟨p, 0, none⟩)] X fun r w' => ∃ A' c', r = .returned (.slice A' m c') ∧ Lw w' tP 90 (.slice A' m c') m (pcs S.pend) ∧ Fresh X.heap.size (.slice A' m c') ∧ Below X.heap.size X w') := fun X p v h => pending_any h m hm
      have HCF : Hid (∀ X p v, Ld X p v (t : Int) S → Calls Try.prog 30 #[.pointer (some ⟨p, 0, none⟩)] X fun e w' => e = .returned (.agg cf.cells.toArray) ∧ Below X.heap.size X w') := fun X p v h => confirmed_any h cf hcf
      have HOKS : Hid (S.Ok (t : Int)) := hok
      obtain ⟨kd, hkd⟩ : ∃ k, x.kd = k := ⟨_, rfl⟩
      have HKD : Hid (x.kd = kd) := hkd
      have HSD : Hid (S' = S.doS x) := hS'
      clear hx hxo hrg hok hm hcf hS' hS hkd
      go_upto_region 12 with (first
        | (refine wpList_ixL 35 53 (.tmp 48) (.tmp 49) rfl b o n cap t 94 rfl rfl htn Try.underlying35 info_St rfl ?_; simp only [Act.put, List.setIfInBounds_toArray, List.set_cons_zero, List.set_cons_succ])
        | (refine wpList_ldS rfl 53 (.tmp 50) rfl b (o + t * 94) rfl x.cells _ HRG.out Try.underlying53 rfl HXI.out ?_; simp only [Act.put, List.setIfInBounds_toArray, List.set_cons_zero, List.set_cons_succ])
        | (refine wpList_alSt rfl rfl ?_; intro Z0 q1 q2 q3; clear q3; have RA : Hid (Row Z0 wr.heap.size zSt.cells 53) := q1; have BA : Hid (Below wr.heap.size wr Z0) := q2; clear q1 q2; simp only [Act.put, List.setIfInBounds_toArray, List.set_cons_zero, List.set_cons_succ])
        | (refine wpList_stL rfl 53 (.tmp 7) (.tmp 51) rfl wr.heap.size x.cells zSt.cells 53 rfl rfl RA.out ((Sp16.len HXO.out).trans (Sp16.len zSt_ok).symm) HXI.out (all_one (Sp16.one x)) ?_; intro Z1 q1 q2; have HZ1 : Hid (Hp w Z1 [(wr.heap.size, x.cells, 53), (w.heap.size, M, 37)] [(p, v, (t : Int), S)]) := HH.out.addR (gro_newL BA.out (Nat.le_refl _) q2) q1 (Nat.le_refl _); clear q1 q2 HH RA BA c67)
        | (go_at_call 22; refine Calls.mono (HPN.out _ _ _ (HZ1.out.lad _ (List.mem_cons_self ..))) ?_; rintro e Z2 ⟨A1, k1, rfl, q1, q2, q3⟩; obtain ⟨R1, q4, q5⟩ := Lw.rows q1 HML.out HPW.out q2; have HZ2 : Hid (Hp w Z2 (R1 ++ [(wr.heap.size, x.cells, 53), (w.heap.size, M, 37)]) [(p, v, (t : Int), S)]) := HZ1.out.addRs q3 q4; have HR1 : Hid (∀ X, (∀ r ∈ R1, Row X r.1 r.2.1 r.2.2) → Pr X A1 m S.pend) := q5; clear q1 q2 q3 q4 q5 HZ1)
        | (go_at_call 30; refine Calls.mono (HCF.out _ _ _ (HZ2.out.lad _ (List.mem_cons_self ..))) ?_; rintro e Z3 ⟨rfl, q⟩; have HZ3 : Hid (Hp w Z3 (R1 ++ [(wr.heap.size, x.cells, 53), (w.heap.size, M, 37)]) [(p, v, (t : Int), S)]) := HZ2.out.below q; clear q HZ2)
        | (refine wpList_alC rfl rfl ?_; intro Z4 q1 q2 q3; clear q3; have RB : Hid (Row Z4 Z3.heap.size zC.cells tC) := q1; have BB : Hid (Below Z3.heap.size Z3 Z4) := q2; clear q1 q2; simp only [Act.put, List.setIfInBounds_toArray, List.set_cons_zero, List.set_cons_succ])
        | (refine wpList_stL rfl tC (.tmp 9) (.tmp 55) rfl Z3.heap.size cf.cells zC.cells tC rfl rfl RB.out HLCF.out HICF.out (all_one (Cm.one cf)) ?_; intro Z5 q1 q2; have q3 := HZ3.out.addR (gro_newL BB.out (Nat.le_refl _) q2) q1 (Nat.le_refl _); have HZ5 : Hid (Hp w Z5 ((Z3.heap.size, cf.cells, tC) :: (R1 ++ [(wr.heap.size, x.cells, 53), (w.heap.size, M, 37)])) [(p, v, (t : Int), S)]) := q3; have ck := (q3.row _ (List.mem_cons_of_mem _ (List.mem_append_right _ (List.mem_cons_self ..)))).cell 0 _ (Sp16.at_kd x); rw [HKD.out] at ck; have c89 := (q3.row _ (List.mem_cons_of_mem _ (List.mem_append_right _ (List.mem_cons_self ..)))).cell 89 _ (Sp16.at_ib HXO.out); have c90 := (q3.row _ (List.mem_cons_of_mem _ (List.mem_append_right _ (List.mem_cons_self ..)))).cell 90 _ (Sp16.at_now HXO.out); have c91 := (q3.row _ (List.mem_cons_of_mem _ (List.mem_append_right _ (List.mem_cons_self ..)))).cell 91 _ (Sp16.at_nr HXO.out); clear q1 q2 q3 HZ3 RB BB))
      by_cases hk : kd = 1
      · subst hk
        have hst : S' = (S.post x.c x.ad x.ib x.now).1 := by rw [HSD.out, La.doS]; simp only [HKD.out]; rfl
        obtain ⟨N, E, hp⟩ : ∃ N E, S.post x.c x.ad x.ib x.now = (S', N, E) := ⟨(S.post x.c x.ad x.ib x.now).2.1, (S.post x.c x.ad x.ib x.now).2.2, by rw [hst]⟩
        by_cases hE : E = 0
        · subst hE
          have HC : Hid (∀ X p v, Ld X p v (t : Int) S → Calls Try.prog 23 #[.pointer (some ⟨p, 0, none⟩), .agg x.c.cells.toArray, .agg (vB x.ad).toArray, .int .i64 x.ib, .int .i64 x.now] X fun e w' => e = .returned (.tuple #[.int .i64 N, .int .i64 0]) ∧ Tn X w' p v ((t + 1 : Nat) : Int) S') := fun X p v h => post_any h (by omega) (by omega) x.c HXO.out.c x.ad HXO.out.a x.ib x.now _ rfl S' N 0 hp
          clear hp hst
          obtain ⟨m2, hm2⟩ : ∃ m, m = S'.pend.length := ⟨_, rfl⟩
          obtain ⟨cg, hcg⟩ : ∃ c, c = S'.conf := ⟨_, rfl⟩
          have HPW2 : Hid (∀ q ∈ S'.pend, q.Wf) := HOK2.out.pw
          have HML2 : Hid (S'.pend.length = m2) := hm2.symm
          have HCGW : Hid cg.Wf := by rw [hcg]; exact HOK2.out.cf
          have HICG : Hid ((Try.prog.info? tC).map (·.size) = some cg.cells.length) := Cm.info HCGW.out
          have HLCG : Hid (cg.cells.length = zC.cells.length) := (Cm.len HCGW.out).trans (Cm.len zC_wf).symm
          have HPN2 : Hid (∀ X p v, Ld X p v ((t + 1 : Nat) : Int) S' → Calls Try.prog 22 #[.pointer (some ⟨p, 0, none⟩)] X fun r w' => ∃ A' c', r = .returned (.slice A' m2 c') ∧ Lw w' tP 90 (.slice A' m2 c') m2 (pcs S'.pend) ∧ Fresh X.heap.size (.slice A' m2 c') ∧ Below X.heap.size X w') := fun X p v h => pending_any h m2 hm2
          have HCF2 : Hid (∀ X p v, Ld X p v ((t + 1 : Nat) : Int) S' → Calls Try.prog 30 #[.pointer (some ⟨p, 0, none⟩)] X fun e w' => e = .returned (.agg cg.cells.toArray) ∧ Below X.heap.size X w') := fun X p v h => confirmed_any h cg hcg
          clear hm2 hcg
          go_wp2_with (first
            | (refine wpList_ldS rfl tC (.tmp 62) rfl wr.heap.size 3 rfl x.c.cells _ ((HZ5.out.row _ (List.mem_cons_of_mem _ (List.mem_append_right _ (List.mem_cons_self ..)))).range 3 _ (fun j u hj => Sp16.c_range x j u hj)) Try.underlying25 rfl (Cm.info HXO.out.c) ?_; simp only [Act.put, List.setIfInBounds_toArray, List.set_cons_zero, List.set_cons_succ])
            | (refine wpList_ldS rfl tAd (.tmp 64) rfl wr.heap.size 69 rfl (vB x.ad) _ ((HZ5.out.row _ (List.mem_cons_of_mem _ (List.mem_append_right _ (List.mem_cons_self ..)))).range 69 _ (fun j u hj => Sp16.a_range HXO.out j u hj)) Try.underlying51 rfl HIA.out ?_; simp only [Act.put, List.setIfInBounds_toArray, List.set_cons_zero, List.set_cons_succ])
            | (go_at_call 23; refine Calls.mono (HC.out _ _ _ (HZ5.out.lad _ (List.mem_cons_self ..))) ?_; rintro e Y ⟨rfl, q1⟩; obtain ⟨v9, q2, _⟩ := HZ5.out.turn 0 rfl q1; have HY : Hid (Hp w Y ((Z3.heap.size, cf.cells, tC) :: (R1 ++ [(wr.heap.size, x.cells, 53), (w.heap.size, M, 37)])) [(p, v9, ((t + 1 : Nat) : Int), S')]) := q2; clear q1 q2 HZ5 ck c89 c90 c91)
            | (go_at_call 22; refine Calls.mono (HPN2.out _ _ _ (HY.out.lad _ (List.mem_cons_self ..))) ?_; rintro e Y2 ⟨A2, k2, rfl, q1, q2, q3⟩; have P2 : Hid (Pr Y2 A2 m2 S'.pend) := Pr.of q1 HML2.out HPW2.out; have HY2 : Hid (Hp w Y2 ((Z3.heap.size, cf.cells, tC) :: (R1 ++ [(wr.heap.size, x.cells, 53), (w.heap.size, M, 37)])) [(p, v9, ((t + 1 : Nat) : Int), S')]) := HY.out.below q3; clear q1 q2 q3 HY)
            | (go_at_call 30; refine Calls.mono (HCF2.out _ _ _ (HY2.out.lad _ (List.mem_cons_self ..))) ?_; rintro e Y3 ⟨rfl, q⟩; have P3 : Hid (Pr Y3 A2 m2 S'.pend) := P2.out.be q; have HY3 : Hid (Hp w Y3 ((Z3.heap.size, cf.cells, tC) :: (R1 ++ [(wr.heap.size, x.cells, 53), (w.heap.size, M, 37)])) [(p, v9, ((t + 1 : Nat) : Int), S')]) := HY2.out.below q; clear q HY2 P2)
            | (refine wpList_alC rfl rfl ?_; intro Y4 q1 q2 q3; clear q3; have RC : Hid (Row Y4 Y3.heap.size zC.cells tC) := q1; have BC : Hid (Below Y3.heap.size Y3 Y4) := q2; clear q1 q2; simp only [Act.put, List.setIfInBounds_toArray, List.set_cons_zero, List.set_cons_succ])
            | (refine wpList_stL rfl tC (.tmp 18) (.tmp 131) rfl Y3.heap.size cg.cells zC.cells tC rfl rfl RC.out HLCG.out HICG.out (all_one (Cm.one cg)) ?_; intro Y5 q1 q2; have P5 : Hid (Pr Y5 A2 m2 S'.pend) := P3.out.be (gro_newL BC.out (Nat.le_refl _) q2); have HY5 : Hid (Hp w Y5 ((Y3.heap.size, cg.cells, tC) :: ((Z3.heap.size, cf.cells, tC) :: (R1 ++ [(wr.heap.size, x.cells, 53), (w.heap.size, M, 37)]))) [(p, v9, ((t + 1 : Nat) : Int), S')]) := HY3.out.addR (gro_newL BC.out (Nat.le_refl _) q2) q1 (Nat.le_refl _); clear q1 q2 HY3 P3 RC BC))
          refine ⟨⟨t + 1, v9, by omega, by go_num, ?_⟩, by simp [intOf]; omega⟩
          rw [HS'.out]
          exact HY5.out.dropR (fun r hr => by
            obtain rfl := List.mem_singleton.1 hr
            exact (List.mem_cons_of_mem _ (List.mem_cons_of_mem _ (List.mem_append_right _ (List.mem_cons_of_mem _ (List.mem_cons_self ..))))))
        · have hne2 : (E != 0) = true := by simpa using hE
          obtain ⟨hs2, hN0⟩ := post_ref hp hE
          subst hN0
          have HSS2 : Hid (S' = S) := hs2
          clear hs2
          have HC : Hid (∀ X p v, Ld X p v (t : Int) S → Calls Try.prog 23 #[.pointer (some ⟨p, 0, none⟩), .agg x.c.cells.toArray, .agg (vB x.ad).toArray, .int .i64 x.ib, .int .i64 x.now] X fun e w' => e = .returned (.tuple #[.int .i64 0, .int .i64 E]) ∧ Tn X w' p v ((t + 1 : Nat) : Int) S') := fun X p v h => post_any h (by omega) (by omega) x.c HXO.out.c x.ad HXO.out.a x.ib x.now _ rfl S' 0 E hp
          clear hp hst
          obtain ⟨m2, hm2⟩ : ∃ m, m = S'.pend.length := ⟨_, rfl⟩
          obtain ⟨cg, hcg⟩ : ∃ c, c = S'.conf := ⟨_, rfl⟩
          have HPW2 : Hid (∀ q ∈ S'.pend, q.Wf) := HOK2.out.pw
          have HML2 : Hid (S'.pend.length = m2) := hm2.symm
          have HCGW : Hid cg.Wf := by rw [hcg]; exact HOK2.out.cf
          have HICG : Hid ((Try.prog.info? tC).map (·.size) = some cg.cells.length) := Cm.info HCGW.out
          have HLCG : Hid (cg.cells.length = zC.cells.length) := (Cm.len HCGW.out).trans (Cm.len zC_wf).symm
          have HPN2 : Hid (∀ X p v, Ld X p v ((t + 1 : Nat) : Int) S' → Calls Try.prog 22 #[.pointer (some ⟨p, 0, none⟩)] X fun r w' => ∃ A' c', r = .returned (.slice A' m2 c') ∧ Lw w' tP 90 (.slice A' m2 c') m2 (pcs S'.pend) ∧ Fresh X.heap.size (.slice A' m2 c') ∧ Below X.heap.size X w') := fun X p v h => pending_any h m2 hm2
          have HCF2 : Hid (∀ X p v, Ld X p v ((t + 1 : Nat) : Int) S' → Calls Try.prog 30 #[.pointer (some ⟨p, 0, none⟩)] X fun e w' => e = .returned (.agg cg.cells.toArray) ∧ Below X.heap.size X w') := fun X p v h => confirmed_any h cg hcg
          have HSA : Hid (∀ X Aa Ab cb, Pr X Aa m S.pend → Pr X Ab m2 S'.pend → Calls Try.prog 26 #[.slice Aa m k1, .slice Ab m2 cb] X fun e w' => e = .returned (.bool true) ∧ Below X.heap.size X w') := fun X Aa Ab cb h1 h2 => same_any X Aa Ab m m2 k1 cb S.pend S'.pend h1 h2 HMB.out true (decide_eq_true (by rw [HSS2.out])).symm
          have HNC : Hid ((!decide (cg = cf)) = false) := by show _ = _; rw [hcg, HCFE.out, HSS2.out, decide_eq_true rfl]; rfl
          clear hm2 hcg
          go_wp2_with (first
            | (refine wpList_ldS rfl tC (.tmp 62) rfl wr.heap.size 3 rfl x.c.cells _ ((HZ5.out.row _ (List.mem_cons_of_mem _ (List.mem_append_right _ (List.mem_cons_self ..)))).range 3 _ (fun j u hj => Sp16.c_range x j u hj)) Try.underlying25 rfl (Cm.info HXO.out.c) ?_; simp only [Act.put, List.setIfInBounds_toArray, List.set_cons_zero, List.set_cons_succ])
            | (refine wpList_ldS rfl tAd (.tmp 64) rfl wr.heap.size 69 rfl (vB x.ad) _ ((HZ5.out.row _ (List.mem_cons_of_mem _ (List.mem_append_right _ (List.mem_cons_self ..)))).range 69 _ (fun j u hj => Sp16.a_range HXO.out j u hj)) Try.underlying51 rfl HIA.out ?_; simp only [Act.put, List.setIfInBounds_toArray, List.set_cons_zero, List.set_cons_succ])
            | (go_at_call 23; refine Calls.mono (HC.out _ _ _ (HZ5.out.lad _ (List.mem_cons_self ..))) ?_; rintro e Y ⟨rfl, q1⟩; obtain ⟨v9, q2, _⟩ := HZ5.out.turn 0 rfl q1; have HY : Hid (Hp w Y ((Z3.heap.size, cf.cells, tC) :: (R1 ++ [(wr.heap.size, x.cells, 53), (w.heap.size, M, 37)])) [(p, v9, ((t + 1 : Nat) : Int), S')]) := q2; clear q1 q2 HZ5 ck c89 c90 c91)
            | (go_at_call 22; refine Calls.mono (HPN2.out _ _ _ (HY.out.lad _ (List.mem_cons_self ..))) ?_; rintro e Y2 ⟨A2, k2, rfl, q1, q2, q3⟩; have P2 : Hid (Pr Y2 A2 m2 S'.pend) := Pr.of q1 HML2.out HPW2.out; have HY2 : Hid (Hp w Y2 ((Z3.heap.size, cf.cells, tC) :: (R1 ++ [(wr.heap.size, x.cells, 53), (w.heap.size, M, 37)])) [(p, v9, ((t + 1 : Nat) : Int), S')]) := HY.out.below q3; clear q1 q2 q3 HY)
            | (go_at_call 30; refine Calls.mono (HCF2.out _ _ _ (HY2.out.lad _ (List.mem_cons_self ..))) ?_; rintro e Y3 ⟨rfl, q⟩; have P3 : Hid (Pr Y3 A2 m2 S'.pend) := P2.out.be q; have HY3 : Hid (Hp w Y3 ((Z3.heap.size, cf.cells, tC) :: (R1 ++ [(wr.heap.size, x.cells, 53), (w.heap.size, M, 37)])) [(p, v9, ((t + 1 : Nat) : Int), S')]) := HY2.out.below q; clear q HY2 P2)
            | (refine wpList_alC rfl rfl ?_; intro Y4 q1 q2 q3; clear q3; have RC : Hid (Row Y4 Y3.heap.size zC.cells tC) := q1; have BC : Hid (Below Y3.heap.size Y3 Y4) := q2; clear q1 q2; simp only [Act.put, List.setIfInBounds_toArray, List.set_cons_zero, List.set_cons_succ])
            | (refine wpList_stL rfl tC (.tmp 18) (.tmp 131) rfl Y3.heap.size cg.cells zC.cells tC rfl rfl RC.out HLCG.out HICG.out (all_one (Cm.one cg)) ?_; intro Y5 q1 q2; have P5 : Hid (Pr Y5 A2 m2 S'.pend) := P3.out.be (gro_newL BC.out (Nat.le_refl _) q2); have HY5 : Hid (Hp w Y5 ((Y3.heap.size, cg.cells, tC) :: ((Z3.heap.size, cf.cells, tC) :: (R1 ++ [(wr.heap.size, x.cells, 53), (w.heap.size, M, 37)]))) [(p, v9, ((t + 1 : Nat) : Int), S')]) := HY3.out.addR (gro_newL BC.out (Nat.le_refl _) q2) q1 (Nat.le_refl _); clear q1 q2 HY3 P3 RC BC)
            | (go_at_call 26; refine Calls.mono (HSA.out _ _ _ _ (HR1.out _ (fun r hr => HY5.out.row r (List.mem_cons_of_mem _ (List.mem_cons_of_mem _ (List.mem_append_left _ hr))))) P5.out) ?_; rintro e Y6 ⟨rfl, q⟩; have HY6 : Hid (Hp w Y6 ((Y3.heap.size, cg.cells, tC) :: ((Z3.heap.size, cf.cells, tC) :: (R1 ++ [(wr.heap.size, x.cells, 53), (w.heap.size, M, 37)]))) [(p, v9, ((t + 1 : Nat) : Int), S')]) := HY5.out.below q; clear q HY5 P5)
            | (refine wpList_ldS rfl tC (.tmp 18) rfl Y3.heap.size 0 rfl cg.cells _ (HY6.out.row _ (List.mem_cons_self ..)).all Try.underlying25 rfl HICG.out ?_; simp only [Act.put, List.setIfInBounds_toArray, List.set_cons_zero, List.set_cons_succ])
            | (refine wpList_ldS rfl tC (.tmp 9) rfl Z3.heap.size 0 rfl cf.cells _ (HY6.out.row _ (List.mem_cons_of_mem _ (List.mem_cons_self ..))).all Try.underlying25 rfl HICF.out ?_; simp only [Act.put, List.setIfInBounds_toArray, List.set_cons_zero, List.set_cons_succ])
            | (refine wpList_neC rfl (.tmp 140) (.tmp 141) _ rfl cg cf HCGW.out HCFW.out rfl rfl false HNC.out ?_; simp only [Act.put, List.setIfInBounds_toArray, List.set_cons_zero, List.set_cons_succ]))
          refine ⟨⟨t + 1, v9, by omega, by go_num, ?_⟩, by simp [intOf]; omega⟩
          rw [HS'.out]
          exact HY6.out.dropR (fun r hr => by
            obtain rfl := List.mem_singleton.1 hr
            exact (List.mem_cons_of_mem _ (List.mem_cons_of_mem _ (List.mem_append_right _ (List.mem_cons_of_mem _ (List.mem_cons_self ..))))))
      have n1 := hk
      clear hk
      by_cases hk : kd = 2
      · subst hk
        have hst : S' = (S.confirm x.now).1 := by rw [HSD.out, La.doS]; simp only [HKD.out]; rfl
        obtain ⟨y, E, hp⟩ : ∃ y E, S.confirm x.now = (S', y, E) := ⟨(S.confirm x.now).2.1, (S.confirm x.now).2.2, by rw [hst]⟩
        have HYW : Hid y.Wf := confirm_wf HOKS.out hp
        by_cases hE : E = 0
        · subst hE
          have HC : Hid (∀ X p v, Ld X p v (t : Int) S → Calls Try.prog 24 #[.pointer (some ⟨p, 0, none⟩), .int .i64 x.now] X fun e w' => e = .returned (.tuple #[.agg y.cells.toArray, .int .i64 0]) ∧ Ts X w' p v (t : Int) S') := fun X p v h => confirm_any h x.now S' y 0 hp
          clear hp hst n1
          obtain ⟨m2, hm2⟩ : ∃ m, m = S'.pend.length := ⟨_, rfl⟩
          obtain ⟨cg, hcg⟩ : ∃ c, c = S'.conf := ⟨_, rfl⟩
          have HPW2 : Hid (∀ q ∈ S'.pend, q.Wf) := HOK2.out.pw
          have HML2 : Hid (S'.pend.length = m2) := hm2.symm
          have HCGW : Hid cg.Wf := by rw [hcg]; exact HOK2.out.cf
          have HICG : Hid ((Try.prog.info? tC).map (·.size) = some cg.cells.length) := Cm.info HCGW.out
          have HLCG : Hid (cg.cells.length = zC.cells.length) := (Cm.len HCGW.out).trans (Cm.len zC_wf).symm
          have HPN2 : Hid (∀ X p v, Ld X p v ((t + 1 : Nat) : Int) S' → Calls Try.prog 22 #[.pointer (some ⟨p, 0, none⟩)] X fun r w' => ∃ A' c', r = .returned (.slice A' m2 c') ∧ Lw w' tP 90 (.slice A' m2 c') m2 (pcs S'.pend) ∧ Fresh X.heap.size (.slice A' m2 c') ∧ Below X.heap.size X w') := fun X p v h => pending_any h m2 hm2
          have HCF2 : Hid (∀ X p v, Ld X p v ((t + 1 : Nat) : Int) S' → Calls Try.prog 30 #[.pointer (some ⟨p, 0, none⟩)] X fun e w' => e = .returned (.agg cg.cells.toArray) ∧ Below X.heap.size X w') := fun X p v h => confirmed_any h cg hcg
          clear hm2 hcg
          go_wp2_with (first
            | (go_at_call 24; refine Calls.mono (HC.out _ _ _ (HZ5.out.lad _ (List.mem_cons_self ..))) ?_; rintro e Y0 ⟨rfl, q1⟩; obtain ⟨v9, q2, _⟩ := HZ5.out.turn 0 rfl (q1.tn.mono (show (t : Int) ≤ ((t + 1 : Nat) : Int) by omega)); have HY0 : Hid (Hp w Y0 ((Z3.heap.size, cf.cells, tC) :: (R1 ++ [(wr.heap.size, x.cells, 53), (w.heap.size, M, 37)])) [(p, v9, ((t + 1 : Nat) : Int), S')]) := q2; clear q1 q2 HZ5 ck c89 c90 c91)
            | (refine wpList_alP rfl rfl ?_; intro Y1 q1 q2 q3; clear q3; have RD : Hid (Row Y1 Y0.heap.size zP.cells tP) := q1; have BD : Hid (Below Y0.heap.size Y0 Y1) := q2; clear q1 q2; simp only [Act.put, List.setIfInBounds_toArray, List.set_cons_zero, List.set_cons_succ])
            | (refine wpList_stL rfl tP (.tmp 13) (.tmp 87) rfl Y0.heap.size y.cells zP.cells tP rfl rfl RD.out ((Pn.len HYW.out).trans (Pn.len zP_wf).symm) (Pn.info HYW.out) (all_one (Pn.one y)) ?_; intro Y q1 q2; have RY : Hid (Row Y Y0.heap.size y.cells tP) := q1; have HY : Hid (Hp w Y ((Z3.heap.size, cf.cells, tC) :: (R1 ++ [(wr.heap.size, x.cells, 53), (w.heap.size, M, 37)])) [(p, v9, ((t + 1 : Nat) : Int), S')]) := HY0.out.below (gro_newL BD.out (Nat.le_refl _) q2); clear q1 q2 HY0 RD BD)
            | (go_at_call 22; refine Calls.mono (HPN2.out _ _ _ (HY.out.lad _ (List.mem_cons_self ..))) ?_; rintro e Y2 ⟨A2, k2, rfl, q1, q2, q3⟩; have P2 : Hid (Pr Y2 A2 m2 S'.pend) := Pr.of q1 HML2.out HPW2.out; have HY2 : Hid (Hp w Y2 ((Z3.heap.size, cf.cells, tC) :: (R1 ++ [(wr.heap.size, x.cells, 53), (w.heap.size, M, 37)])) [(p, v9, ((t + 1 : Nat) : Int), S')]) := HY.out.below q3; clear q1 q2 q3 HY)
            | (go_at_call 30; refine Calls.mono (HCF2.out _ _ _ (HY2.out.lad _ (List.mem_cons_self ..))) ?_; rintro e Y3 ⟨rfl, q⟩; have P3 : Hid (Pr Y3 A2 m2 S'.pend) := P2.out.be q; have HY3 : Hid (Hp w Y3 ((Z3.heap.size, cf.cells, tC) :: (R1 ++ [(wr.heap.size, x.cells, 53), (w.heap.size, M, 37)])) [(p, v9, ((t + 1 : Nat) : Int), S')]) := HY2.out.below q; clear q HY2 P2)
            | (refine wpList_alC rfl rfl ?_; intro Y4 q1 q2 q3; clear q3; have RC : Hid (Row Y4 Y3.heap.size zC.cells tC) := q1; have BC : Hid (Below Y3.heap.size Y3 Y4) := q2; clear q1 q2; simp only [Act.put, List.setIfInBounds_toArray, List.set_cons_zero, List.set_cons_succ])
            | (refine wpList_stL rfl tC (.tmp 18) (.tmp 131) rfl Y3.heap.size cg.cells zC.cells tC rfl rfl RC.out HLCG.out HICG.out (all_one (Cm.one cg)) ?_; intro Y5 q1 q2; have P5 : Hid (Pr Y5 A2 m2 S'.pend) := P3.out.be (gro_newL BC.out (Nat.le_refl _) q2); have HY5 : Hid (Hp w Y5 ((Y3.heap.size, cg.cells, tC) :: ((Z3.heap.size, cf.cells, tC) :: (R1 ++ [(wr.heap.size, x.cells, 53), (w.heap.size, M, 37)]))) [(p, v9, ((t + 1 : Nat) : Int), S')]) := HY3.out.addR (gro_newL BC.out (Nat.le_refl _) q2) q1 (Nat.le_refl _); clear q1 q2 HY3 P3 RC BC))
          refine ⟨⟨t + 1, v9, by omega, by go_num, ?_⟩, by simp [intOf]; omega⟩
          rw [HS'.out]
          exact HY5.out.dropR (fun r hr => by
            obtain rfl := List.mem_singleton.1 hr
            exact (List.mem_cons_of_mem _ (List.mem_cons_of_mem _ (List.mem_append_right _ (List.mem_cons_of_mem _ (List.mem_cons_self ..))))))
        · have hne2 : (E != 0) = true := by simpa using hE
          obtain ⟨hs2, hN0⟩ := confirm_ref hp hE
          subst hN0
          have HSS2 : Hid (S' = S) := hs2
          clear hs2
          have HC : Hid (∀ X p v, Ld X p v (t : Int) S → Calls Try.prog 24 #[.pointer (some ⟨p, 0, none⟩), .int .i64 x.now] X fun e w' => e = .returned (.tuple #[.agg zP.cells.toArray, .int .i64 E]) ∧ Ts X w' p v (t : Int) S') := fun X p v h => confirm_any h x.now S' zP E hp
          clear hp hst n1
          obtain ⟨m2, hm2⟩ : ∃ m, m = S'.pend.length := ⟨_, rfl⟩
          obtain ⟨cg, hcg⟩ : ∃ c, c = S'.conf := ⟨_, rfl⟩
          have HPW2 : Hid (∀ q ∈ S'.pend, q.Wf) := HOK2.out.pw
          have HML2 : Hid (S'.pend.length = m2) := hm2.symm
          have HCGW : Hid cg.Wf := by rw [hcg]; exact HOK2.out.cf
          have HICG : Hid ((Try.prog.info? tC).map (·.size) = some cg.cells.length) := Cm.info HCGW.out
          have HLCG : Hid (cg.cells.length = zC.cells.length) := (Cm.len HCGW.out).trans (Cm.len zC_wf).symm
          have HPN2 : Hid (∀ X p v, Ld X p v ((t + 1 : Nat) : Int) S' → Calls Try.prog 22 #[.pointer (some ⟨p, 0, none⟩)] X fun r w' => ∃ A' c', r = .returned (.slice A' m2 c') ∧ Lw w' tP 90 (.slice A' m2 c') m2 (pcs S'.pend) ∧ Fresh X.heap.size (.slice A' m2 c') ∧ Below X.heap.size X w') := fun X p v h => pending_any h m2 hm2
          have HCF2 : Hid (∀ X p v, Ld X p v ((t + 1 : Nat) : Int) S' → Calls Try.prog 30 #[.pointer (some ⟨p, 0, none⟩)] X fun e w' => e = .returned (.agg cg.cells.toArray) ∧ Below X.heap.size X w') := fun X p v h => confirmed_any h cg hcg
          have HSA : Hid (∀ X Aa Ab cb, Pr X Aa m S.pend → Pr X Ab m2 S'.pend → Calls Try.prog 26 #[.slice Aa m k1, .slice Ab m2 cb] X fun e w' => e = .returned (.bool true) ∧ Below X.heap.size X w') := fun X Aa Ab cb h1 h2 => same_any X Aa Ab m m2 k1 cb S.pend S'.pend h1 h2 HMB.out true (decide_eq_true (by rw [HSS2.out])).symm
          have HNC : Hid ((!decide (cg = cf)) = false) := by show _ = _; rw [hcg, HCFE.out, HSS2.out, decide_eq_true rfl]; rfl
          clear hm2 hcg
          go_wp2_with (first
            | (go_at_call 24; refine Calls.mono (HC.out _ _ _ (HZ5.out.lad _ (List.mem_cons_self ..))) ?_; rintro e Y0 ⟨rfl, q1⟩; obtain ⟨v9, q2, _⟩ := HZ5.out.turn 0 rfl (q1.tn.mono (show (t : Int) ≤ ((t + 1 : Nat) : Int) by omega)); have HY0 : Hid (Hp w Y0 ((Z3.heap.size, cf.cells, tC) :: (R1 ++ [(wr.heap.size, x.cells, 53), (w.heap.size, M, 37)])) [(p, v9, ((t + 1 : Nat) : Int), S')]) := q2; clear q1 q2 HZ5 ck c89 c90 c91)
            | (refine wpList_alP rfl rfl ?_; intro Y1 q1 q2 q3; clear q3; have RD : Hid (Row Y1 Y0.heap.size zP.cells tP) := q1; have BD : Hid (Below Y0.heap.size Y0 Y1) := q2; clear q1 q2; simp only [Act.put, List.setIfInBounds_toArray, List.set_cons_zero, List.set_cons_succ])
            | (refine wpList_stL rfl tP (.tmp 13) (.tmp 87) rfl Y0.heap.size zP.cells zP.cells tP rfl rfl RD.out ((Pn.len zP_wf).trans (Pn.len zP_wf).symm) (Pn.info zP_wf) (all_one (Pn.one zP)) ?_; intro Y q1 q2; have RY : Hid (Row Y Y0.heap.size zP.cells tP) := q1; have HY : Hid (Hp w Y ((Z3.heap.size, cf.cells, tC) :: (R1 ++ [(wr.heap.size, x.cells, 53), (w.heap.size, M, 37)])) [(p, v9, ((t + 1 : Nat) : Int), S')]) := HY0.out.below (gro_newL BD.out (Nat.le_refl _) q2); clear q1 q2 HY0 RD BD)
            | (refine wpList_ldS rfl tP (.tmp 13) rfl Y0.heap.size 0 rfl zP.cells _ RY.out.all Try.underlying66 rfl (Pn.info zP_wf) ?_; simp only [Act.put, List.setIfInBounds_toArray, List.set_cons_zero, List.set_cons_succ])
            | (refine wpList_blt rfl tP _ rfl [] rfl zP.cells built_p0 ?_; simp only [Act.put, List.setIfInBounds_toArray, List.set_cons_zero, List.set_cons_succ])
            | (refine wpList_neP rfl (.tmp 93) (.tmp 94) _ rfl zP zP zP_wf zP_wf rfl rfl false (by rw [decide_eq_true rfl]; rfl) ?_; simp only [Act.put, List.setIfInBounds_toArray, List.set_cons_zero, List.set_cons_succ])
            | (go_at_call 22; refine Calls.mono (HPN2.out _ _ _ (HY.out.lad _ (List.mem_cons_self ..))) ?_; rintro e Y2 ⟨A2, k2, rfl, q1, q2, q3⟩; have P2 : Hid (Pr Y2 A2 m2 S'.pend) := Pr.of q1 HML2.out HPW2.out; have HY2 : Hid (Hp w Y2 ((Z3.heap.size, cf.cells, tC) :: (R1 ++ [(wr.heap.size, x.cells, 53), (w.heap.size, M, 37)])) [(p, v9, ((t + 1 : Nat) : Int), S')]) := HY.out.below q3; clear q1 q2 q3 HY)
            | (go_at_call 30; refine Calls.mono (HCF2.out _ _ _ (HY2.out.lad _ (List.mem_cons_self ..))) ?_; rintro e Y3 ⟨rfl, q⟩; have P3 : Hid (Pr Y3 A2 m2 S'.pend) := P2.out.be q; have HY3 : Hid (Hp w Y3 ((Z3.heap.size, cf.cells, tC) :: (R1 ++ [(wr.heap.size, x.cells, 53), (w.heap.size, M, 37)])) [(p, v9, ((t + 1 : Nat) : Int), S')]) := HY2.out.below q; clear q HY2 P2)
            | (refine wpList_alC rfl rfl ?_; intro Y4 q1 q2 q3; clear q3; have RC : Hid (Row Y4 Y3.heap.size zC.cells tC) := q1; have BC : Hid (Below Y3.heap.size Y3 Y4) := q2; clear q1 q2; simp only [Act.put, List.setIfInBounds_toArray, List.set_cons_zero, List.set_cons_succ])
            | (refine wpList_stL rfl tC (.tmp 18) (.tmp 131) rfl Y3.heap.size cg.cells zC.cells tC rfl rfl RC.out HLCG.out HICG.out (all_one (Cm.one cg)) ?_; intro Y5 q1 q2; have P5 : Hid (Pr Y5 A2 m2 S'.pend) := P3.out.be (gro_newL BC.out (Nat.le_refl _) q2); have HY5 : Hid (Hp w Y5 ((Y3.heap.size, cg.cells, tC) :: ((Z3.heap.size, cf.cells, tC) :: (R1 ++ [(wr.heap.size, x.cells, 53), (w.heap.size, M, 37)]))) [(p, v9, ((t + 1 : Nat) : Int), S')]) := HY3.out.addR (gro_newL BC.out (Nat.le_refl _) q2) q1 (Nat.le_refl _); clear q1 q2 HY3 P3 RC BC)
            | (go_at_call 26; refine Calls.mono (HSA.out _ _ _ _ (HR1.out _ (fun r hr => HY5.out.row r (List.mem_cons_of_mem _ (List.mem_cons_of_mem _ (List.mem_append_left _ hr))))) P5.out) ?_; rintro e Y6 ⟨rfl, q⟩; have HY6 : Hid (Hp w Y6 ((Y3.heap.size, cg.cells, tC) :: ((Z3.heap.size, cf.cells, tC) :: (R1 ++ [(wr.heap.size, x.cells, 53), (w.heap.size, M, 37)]))) [(p, v9, ((t + 1 : Nat) : Int), S')]) := HY5.out.below q; clear q HY5 P5)
            | (refine wpList_ldS rfl tC (.tmp 18) rfl Y3.heap.size 0 rfl cg.cells _ (HY6.out.row _ (List.mem_cons_self ..)).all Try.underlying25 rfl HICG.out ?_; simp only [Act.put, List.setIfInBounds_toArray, List.set_cons_zero, List.set_cons_succ])
            | (refine wpList_ldS rfl tC (.tmp 9) rfl Z3.heap.size 0 rfl cf.cells _ (HY6.out.row _ (List.mem_cons_of_mem _ (List.mem_cons_self ..))).all Try.underlying25 rfl HICF.out ?_; simp only [Act.put, List.setIfInBounds_toArray, List.set_cons_zero, List.set_cons_succ])
            | (refine wpList_neC rfl (.tmp 140) (.tmp 141) _ rfl cg cf HCGW.out HCFW.out rfl rfl false HNC.out ?_; simp only [Act.put, List.setIfInBounds_toArray, List.set_cons_zero, List.set_cons_succ]))
          refine ⟨⟨t + 1, v9, by omega, by go_num, ?_⟩, by simp [intOf]; omega⟩
          rw [HS'.out]
          exact HY6.out.dropR (fun r hr => by
            obtain rfl := List.mem_singleton.1 hr
            exact (List.mem_cons_of_mem _ (List.mem_cons_of_mem _ (List.mem_append_right _ (List.mem_cons_of_mem _ (List.mem_cons_self ..))))))
      have n2 := hk
      clear hk
      by_cases hk : kd = 3
      · subst hk
        have hst : S' = (S.drop x.nr).1 := by rw [HSD.out, La.doS]; simp only [HKD.out]; rfl
        obtain ⟨y, E, hp⟩ : ∃ y E, S.drop x.nr = (S', y, E) := ⟨(S.drop x.nr).2.1, (S.drop x.nr).2.2, by rw [hst]⟩
        by_cases hE : E = 0
        · subst hE
          have HC : Hid (∀ X p v, Ld X p v (t : Int) S → Calls Try.prog 25 #[.pointer (some ⟨p, 0, none⟩), .int .i64 x.nr] X fun e w' => ∃ A' m c', e = .returned (.tuple #[.slice A' m c', .int .i64 0]) ∧ y.length = m ∧ Lw w' tP 90 (.slice A' m c') m (pcs y) ∧ Fresh X.heap.size (.slice A' m c') ∧ Ts X w' p v (t : Int) S') := fun X p v h => drop_any h x.nr S' y 0 hp
          clear hp hst n1 n2
          obtain ⟨m2, hm2⟩ : ∃ m, m = S'.pend.length := ⟨_, rfl⟩
          obtain ⟨cg, hcg⟩ : ∃ c, c = S'.conf := ⟨_, rfl⟩
          have HPW2 : Hid (∀ q ∈ S'.pend, q.Wf) := HOK2.out.pw
          have HML2 : Hid (S'.pend.length = m2) := hm2.symm
          have HCGW : Hid cg.Wf := by rw [hcg]; exact HOK2.out.cf
          have HICG : Hid ((Try.prog.info? tC).map (·.size) = some cg.cells.length) := Cm.info HCGW.out
          have HLCG : Hid (cg.cells.length = zC.cells.length) := (Cm.len HCGW.out).trans (Cm.len zC_wf).symm
          have HPN2 : Hid (∀ X p v, Ld X p v ((t + 1 : Nat) : Int) S' → Calls Try.prog 22 #[.pointer (some ⟨p, 0, none⟩)] X fun r w' => ∃ A' c', r = .returned (.slice A' m2 c') ∧ Lw w' tP 90 (.slice A' m2 c') m2 (pcs S'.pend) ∧ Fresh X.heap.size (.slice A' m2 c') ∧ Below X.heap.size X w') := fun X p v h => pending_any h m2 hm2
          have HCF2 : Hid (∀ X p v, Ld X p v ((t + 1 : Nat) : Int) S' → Calls Try.prog 30 #[.pointer (some ⟨p, 0, none⟩)] X fun e w' => e = .returned (.agg cg.cells.toArray) ∧ Below X.heap.size X w') := fun X p v h => confirmed_any h cg hcg
          clear hm2 hcg
          go_wp2_with (first
            | (go_at_call 25; refine Calls.mono (HC.out _ _ _ (HZ5.out.lad _ (List.mem_cons_self ..))) ?_; rintro e Y ⟨A3, m3, c3, rfl, q3, q4, q5, q6⟩; obtain ⟨v9, q2, _⟩ := HZ5.out.turn 0 rfl (q6.tn.mono (show (t : Int) ≤ ((t + 1 : Nat) : Int) by omega)); have HY : Hid (Hp w Y ((Z3.heap.size, cf.cells, tC) :: (R1 ++ [(wr.heap.size, x.cells, 53), (w.heap.size, M, 37)])) [(p, v9, ((t + 1 : Nat) : Int), S')]) := q2; clear q2 q3 q4 q5 q6 HZ5 ck c89 c90 c91)
            | (go_at_call 22; refine Calls.mono (HPN2.out _ _ _ (HY.out.lad _ (List.mem_cons_self ..))) ?_; rintro e Y2 ⟨A2, k2, rfl, q1, q2, q3⟩; have P2 : Hid (Pr Y2 A2 m2 S'.pend) := Pr.of q1 HML2.out HPW2.out; have HY2 : Hid (Hp w Y2 ((Z3.heap.size, cf.cells, tC) :: (R1 ++ [(wr.heap.size, x.cells, 53), (w.heap.size, M, 37)])) [(p, v9, ((t + 1 : Nat) : Int), S')]) := HY.out.below q3; clear q1 q2 q3 HY)
            | (go_at_call 30; refine Calls.mono (HCF2.out _ _ _ (HY2.out.lad _ (List.mem_cons_self ..))) ?_; rintro e Y3 ⟨rfl, q⟩; have P3 : Hid (Pr Y3 A2 m2 S'.pend) := P2.out.be q; have HY3 : Hid (Hp w Y3 ((Z3.heap.size, cf.cells, tC) :: (R1 ++ [(wr.heap.size, x.cells, 53), (w.heap.size, M, 37)])) [(p, v9, ((t + 1 : Nat) : Int), S')]) := HY2.out.below q; clear q HY2 P2)
            | (refine wpList_alC rfl rfl ?_; intro Y4 q1 q2 q3; clear q3; have RC : Hid (Row Y4 Y3.heap.size zC.cells tC) := q1; have BC : Hid (Below Y3.heap.size Y3 Y4) := q2; clear q1 q2; simp only [Act.put, List.setIfInBounds_toArray, List.set_cons_zero, List.set_cons_succ])
            | (refine wpList_stL rfl tC (.tmp 18) (.tmp 131) rfl Y3.heap.size cg.cells zC.cells tC rfl rfl RC.out HLCG.out HICG.out (all_one (Cm.one cg)) ?_; intro Y5 q1 q2; have P5 : Hid (Pr Y5 A2 m2 S'.pend) := P3.out.be (gro_newL BC.out (Nat.le_refl _) q2); have HY5 : Hid (Hp w Y5 ((Y3.heap.size, cg.cells, tC) :: ((Z3.heap.size, cf.cells, tC) :: (R1 ++ [(wr.heap.size, x.cells, 53), (w.heap.size, M, 37)]))) [(p, v9, ((t + 1 : Nat) : Int), S')]) := HY3.out.addR (gro_newL BC.out (Nat.le_refl _) q2) q1 (Nat.le_refl _); clear q1 q2 HY3 P3 RC BC))
          refine ⟨⟨t + 1, v9, by omega, by go_num, ?_⟩, by simp [intOf]; omega⟩
          rw [HS'.out]
          exact HY5.out.dropR (fun r hr => by
            obtain rfl := List.mem_singleton.1 hr
            exact (List.mem_cons_of_mem _ (List.mem_cons_of_mem _ (List.mem_append_right _ (List.mem_cons_of_mem _ (List.mem_cons_self ..))))))
        · have hne2 : (E != 0) = true := by simpa using hE
          obtain ⟨hs2, hN0⟩ := drop_ref hp hE
          subst hN0
          have HSS2 : Hid (S' = S) := hs2
          clear hs2
          have HC : Hid (∀ X p v, Ld X p v (t : Int) S → Calls Try.prog 25 #[.pointer (some ⟨p, 0, none⟩), .int .i64 x.nr] X fun e w' => ∃ A' m c', e = .returned (.tuple #[.slice A' m c', .int .i64 E]) ∧ ([] : List Pn).length = m ∧ Lw w' tP 90 (.slice A' m c') m (pcs []) ∧ Fresh X.heap.size (.slice A' m c') ∧ Ts X w' p v (t : Int) S') := fun X p v h => drop_any h x.nr S' [] E hp
          clear hp hst n1 n2
          obtain ⟨m2, hm2⟩ : ∃ m, m = S'.pend.length := ⟨_, rfl⟩
          obtain ⟨cg, hcg⟩ : ∃ c, c = S'.conf := ⟨_, rfl⟩
          have HPW2 : Hid (∀ q ∈ S'.pend, q.Wf) := HOK2.out.pw
          have HML2 : Hid (S'.pend.length = m2) := hm2.symm
          have HCGW : Hid cg.Wf := by rw [hcg]; exact HOK2.out.cf
          have HICG : Hid ((Try.prog.info? tC).map (·.size) = some cg.cells.length) := Cm.info HCGW.out
          have HLCG : Hid (cg.cells.length = zC.cells.length) := (Cm.len HCGW.out).trans (Cm.len zC_wf).symm
          have HPN2 : Hid (∀ X p v, Ld X p v ((t + 1 : Nat) : Int) S' → Calls Try.prog 22 #[.pointer (some ⟨p, 0, none⟩)] X fun r w' => ∃ A' c', r = .returned (.slice A' m2 c') ∧ Lw w' tP 90 (.slice A' m2 c') m2 (pcs S'.pend) ∧ Fresh X.heap.size (.slice A' m2 c') ∧ Below X.heap.size X w') := fun X p v h => pending_any h m2 hm2
          have HCF2 : Hid (∀ X p v, Ld X p v ((t + 1 : Nat) : Int) S' → Calls Try.prog 30 #[.pointer (some ⟨p, 0, none⟩)] X fun e w' => e = .returned (.agg cg.cells.toArray) ∧ Below X.heap.size X w') := fun X p v h => confirmed_any h cg hcg
          have HSA : Hid (∀ X Aa Ab cb, Pr X Aa m S.pend → Pr X Ab m2 S'.pend → Calls Try.prog 26 #[.slice Aa m k1, .slice Ab m2 cb] X fun e w' => e = .returned (.bool true) ∧ Below X.heap.size X w') := fun X Aa Ab cb h1 h2 => same_any X Aa Ab m m2 k1 cb S.pend S'.pend h1 h2 HMB.out true (decide_eq_true (by rw [HSS2.out])).symm
          have HNC : Hid ((!decide (cg = cf)) = false) := by show _ = _; rw [hcg, HCFE.out, HSS2.out, decide_eq_true rfl]; rfl
          clear hm2 hcg
          go_wp2_with (first
            | (go_at_call 25; refine Calls.mono (HC.out _ _ _ (HZ5.out.lad _ (List.mem_cons_self ..))) ?_; rintro e Y ⟨A3, m3, c3, rfl, q3, q4, q5, q6⟩; obtain rfl : m3 = 0 := q3.symm; obtain ⟨v9, q2, _⟩ := HZ5.out.turn 0 rfl (q6.tn.mono (show (t : Int) ≤ ((t + 1 : Nat) : Int) by omega)); have HY : Hid (Hp w Y ((Z3.heap.size, cf.cells, tC) :: (R1 ++ [(wr.heap.size, x.cells, 53), (w.heap.size, M, 37)])) [(p, v9, ((t + 1 : Nat) : Int), S')]) := q2; clear q2 q3 q4 q5 q6 HZ5 ck c89 c90 c91)
            | (go_at_call 22; refine Calls.mono (HPN2.out _ _ _ (HY.out.lad _ (List.mem_cons_self ..))) ?_; rintro e Y2 ⟨A2, k2, rfl, q1, q2, q3⟩; have P2 : Hid (Pr Y2 A2 m2 S'.pend) := Pr.of q1 HML2.out HPW2.out; have HY2 : Hid (Hp w Y2 ((Z3.heap.size, cf.cells, tC) :: (R1 ++ [(wr.heap.size, x.cells, 53), (w.heap.size, M, 37)])) [(p, v9, ((t + 1 : Nat) : Int), S')]) := HY.out.below q3; clear q1 q2 q3 HY)
            | (go_at_call 30; refine Calls.mono (HCF2.out _ _ _ (HY2.out.lad _ (List.mem_cons_self ..))) ?_; rintro e Y3 ⟨rfl, q⟩; have P3 : Hid (Pr Y3 A2 m2 S'.pend) := P2.out.be q; have HY3 : Hid (Hp w Y3 ((Z3.heap.size, cf.cells, tC) :: (R1 ++ [(wr.heap.size, x.cells, 53), (w.heap.size, M, 37)])) [(p, v9, ((t + 1 : Nat) : Int), S')]) := HY2.out.below q; clear q HY2 P2)
            | (refine wpList_alC rfl rfl ?_; intro Y4 q1 q2 q3; clear q3; have RC : Hid (Row Y4 Y3.heap.size zC.cells tC) := q1; have BC : Hid (Below Y3.heap.size Y3 Y4) := q2; clear q1 q2; simp only [Act.put, List.setIfInBounds_toArray, List.set_cons_zero, List.set_cons_succ])
            | (refine wpList_stL rfl tC (.tmp 18) (.tmp 131) rfl Y3.heap.size cg.cells zC.cells tC rfl rfl RC.out HLCG.out HICG.out (all_one (Cm.one cg)) ?_; intro Y5 q1 q2; have P5 : Hid (Pr Y5 A2 m2 S'.pend) := P3.out.be (gro_newL BC.out (Nat.le_refl _) q2); have HY5 : Hid (Hp w Y5 ((Y3.heap.size, cg.cells, tC) :: ((Z3.heap.size, cf.cells, tC) :: (R1 ++ [(wr.heap.size, x.cells, 53), (w.heap.size, M, 37)]))) [(p, v9, ((t + 1 : Nat) : Int), S')]) := HY3.out.addR (gro_newL BC.out (Nat.le_refl _) q2) q1 (Nat.le_refl _); clear q1 q2 HY3 P3 RC BC)
            | (go_at_call 26; refine Calls.mono (HSA.out _ _ _ _ (HR1.out _ (fun r hr => HY5.out.row r (List.mem_cons_of_mem _ (List.mem_cons_of_mem _ (List.mem_append_left _ hr))))) P5.out) ?_; rintro e Y6 ⟨rfl, q⟩; have HY6 : Hid (Hp w Y6 ((Y3.heap.size, cg.cells, tC) :: ((Z3.heap.size, cf.cells, tC) :: (R1 ++ [(wr.heap.size, x.cells, 53), (w.heap.size, M, 37)]))) [(p, v9, ((t + 1 : Nat) : Int), S')]) := HY5.out.below q; clear q HY5 P5)
            | (refine wpList_ldS rfl tC (.tmp 18) rfl Y3.heap.size 0 rfl cg.cells _ (HY6.out.row _ (List.mem_cons_self ..)).all Try.underlying25 rfl HICG.out ?_; simp only [Act.put, List.setIfInBounds_toArray, List.set_cons_zero, List.set_cons_succ])
            | (refine wpList_ldS rfl tC (.tmp 9) rfl Z3.heap.size 0 rfl cf.cells _ (HY6.out.row _ (List.mem_cons_of_mem _ (List.mem_cons_self ..))).all Try.underlying25 rfl HICF.out ?_; simp only [Act.put, List.setIfInBounds_toArray, List.set_cons_zero, List.set_cons_succ])
            | (refine wpList_neC rfl (.tmp 140) (.tmp 141) _ rfl cg cf HCGW.out HCFW.out rfl rfl false HNC.out ?_; simp only [Act.put, List.setIfInBounds_toArray, List.set_cons_zero, List.set_cons_succ]))
          refine ⟨⟨t + 1, v9, by omega, by go_num, ?_⟩, by simp [intOf]; omega⟩
          rw [HS'.out]
          exact HY6.out.dropR (fun r hr => by
            obtain rfl := List.mem_singleton.1 hr
            exact (List.mem_cons_of_mem _ (List.mem_cons_of_mem _ (List.mem_append_right _ (List.mem_cons_of_mem _ (List.mem_cons_self ..))))))
      have n3 := hk
      clear hk
      by_cases hk : kd = 4
      · subst hk
        have hst : S' = (S.hold x.nr x.now).1 := by rw [HSD.out, La.doS]; simp only [HKD.out]; rfl
        obtain ⟨E, hp⟩ : ∃ E, S.hold x.nr x.now = (S', E) := ⟨(S.hold x.nr x.now).2, by rw [hst]⟩
        by_cases hE : E = 0
        · subst hE
          have HC : Hid (∀ X p v, Ld X p v (t : Int) S → Calls Try.prog 27 #[.pointer (some ⟨p, 0, none⟩), .int .i64 x.nr, .int .i64 x.now] X fun e w' => e = .returned (.int .i64 0) ∧ Tn X w' p v ((t + 1 : Nat) : Int) S') := fun X p v h => hold_any h (by omega) x.nr x.now S' 0 hp
          clear hp hst n1 n2 n3
          obtain ⟨m2, hm2⟩ : ∃ m, m = S'.pend.length := ⟨_, rfl⟩
          obtain ⟨cg, hcg⟩ : ∃ c, c = S'.conf := ⟨_, rfl⟩
          have HPW2 : Hid (∀ q ∈ S'.pend, q.Wf) := HOK2.out.pw
          have HML2 : Hid (S'.pend.length = m2) := hm2.symm
          have HCGW : Hid cg.Wf := by rw [hcg]; exact HOK2.out.cf
          have HICG : Hid ((Try.prog.info? tC).map (·.size) = some cg.cells.length) := Cm.info HCGW.out
          have HLCG : Hid (cg.cells.length = zC.cells.length) := (Cm.len HCGW.out).trans (Cm.len zC_wf).symm
          have HPN2 : Hid (∀ X p v, Ld X p v ((t + 1 : Nat) : Int) S' → Calls Try.prog 22 #[.pointer (some ⟨p, 0, none⟩)] X fun r w' => ∃ A' c', r = .returned (.slice A' m2 c') ∧ Lw w' tP 90 (.slice A' m2 c') m2 (pcs S'.pend) ∧ Fresh X.heap.size (.slice A' m2 c') ∧ Below X.heap.size X w') := fun X p v h => pending_any h m2 hm2
          have HCF2 : Hid (∀ X p v, Ld X p v ((t + 1 : Nat) : Int) S' → Calls Try.prog 30 #[.pointer (some ⟨p, 0, none⟩)] X fun e w' => e = .returned (.agg cg.cells.toArray) ∧ Below X.heap.size X w') := fun X p v h => confirmed_any h cg hcg
          clear hm2 hcg
          go_wp2_with (first
            | (go_at_call 27; refine Calls.mono (HC.out _ _ _ (HZ5.out.lad _ (List.mem_cons_self ..))) ?_; rintro e Y ⟨rfl, q1⟩; obtain ⟨v9, q2, _⟩ := HZ5.out.turn 0 rfl q1; have HY : Hid (Hp w Y ((Z3.heap.size, cf.cells, tC) :: (R1 ++ [(wr.heap.size, x.cells, 53), (w.heap.size, M, 37)])) [(p, v9, ((t + 1 : Nat) : Int), S')]) := q2; clear q1 q2 HZ5 ck c89 c90 c91)
            | (go_at_call 22; refine Calls.mono (HPN2.out _ _ _ (HY.out.lad _ (List.mem_cons_self ..))) ?_; rintro e Y2 ⟨A2, k2, rfl, q1, q2, q3⟩; have P2 : Hid (Pr Y2 A2 m2 S'.pend) := Pr.of q1 HML2.out HPW2.out; have HY2 : Hid (Hp w Y2 ((Z3.heap.size, cf.cells, tC) :: (R1 ++ [(wr.heap.size, x.cells, 53), (w.heap.size, M, 37)])) [(p, v9, ((t + 1 : Nat) : Int), S')]) := HY.out.below q3; clear q1 q2 q3 HY)
            | (go_at_call 30; refine Calls.mono (HCF2.out _ _ _ (HY2.out.lad _ (List.mem_cons_self ..))) ?_; rintro e Y3 ⟨rfl, q⟩; have P3 : Hid (Pr Y3 A2 m2 S'.pend) := P2.out.be q; have HY3 : Hid (Hp w Y3 ((Z3.heap.size, cf.cells, tC) :: (R1 ++ [(wr.heap.size, x.cells, 53), (w.heap.size, M, 37)])) [(p, v9, ((t + 1 : Nat) : Int), S')]) := HY2.out.below q; clear q HY2 P2)
            | (refine wpList_alC rfl rfl ?_; intro Y4 q1 q2 q3; clear q3; have RC : Hid (Row Y4 Y3.heap.size zC.cells tC) := q1; have BC : Hid (Below Y3.heap.size Y3 Y4) := q2; clear q1 q2; simp only [Act.put, List.setIfInBounds_toArray, List.set_cons_zero, List.set_cons_succ])
            | (refine wpList_stL rfl tC (.tmp 18) (.tmp 131) rfl Y3.heap.size cg.cells zC.cells tC rfl rfl RC.out HLCG.out HICG.out (all_one (Cm.one cg)) ?_; intro Y5 q1 q2; have P5 : Hid (Pr Y5 A2 m2 S'.pend) := P3.out.be (gro_newL BC.out (Nat.le_refl _) q2); have HY5 : Hid (Hp w Y5 ((Y3.heap.size, cg.cells, tC) :: ((Z3.heap.size, cf.cells, tC) :: (R1 ++ [(wr.heap.size, x.cells, 53), (w.heap.size, M, 37)]))) [(p, v9, ((t + 1 : Nat) : Int), S')]) := HY3.out.addR (gro_newL BC.out (Nat.le_refl _) q2) q1 (Nat.le_refl _); clear q1 q2 HY3 P3 RC BC))
          refine ⟨⟨t + 1, v9, by omega, by go_num, ?_⟩, by simp [intOf]; omega⟩
          rw [HS'.out]
          exact HY5.out.dropR (fun r hr => by
            obtain rfl := List.mem_singleton.1 hr
            exact (List.mem_cons_of_mem _ (List.mem_cons_of_mem _ (List.mem_append_right _ (List.mem_cons_of_mem _ (List.mem_cons_self ..))))))
        · have hne2 : (E != 0) = true := by simpa using hE
          have hs2 := hold_ref hp hE
          have HSS2 : Hid (S' = S) := hs2
          clear hs2
          have HC : Hid (∀ X p v, Ld X p v (t : Int) S → Calls Try.prog 27 #[.pointer (some ⟨p, 0, none⟩), .int .i64 x.nr, .int .i64 x.now] X fun e w' => e = .returned (.int .i64 E) ∧ Tn X w' p v ((t + 1 : Nat) : Int) S') := fun X p v h => hold_any h (by omega) x.nr x.now S' E hp
          clear hp hst n1 n2 n3
          obtain ⟨m2, hm2⟩ : ∃ m, m = S'.pend.length := ⟨_, rfl⟩
          obtain ⟨cg, hcg⟩ : ∃ c, c = S'.conf := ⟨_, rfl⟩
          have HPW2 : Hid (∀ q ∈ S'.pend, q.Wf) := HOK2.out.pw
          have HML2 : Hid (S'.pend.length = m2) := hm2.symm
          have HCGW : Hid cg.Wf := by rw [hcg]; exact HOK2.out.cf
          have HICG : Hid ((Try.prog.info? tC).map (·.size) = some cg.cells.length) := Cm.info HCGW.out
          have HLCG : Hid (cg.cells.length = zC.cells.length) := (Cm.len HCGW.out).trans (Cm.len zC_wf).symm
          have HPN2 : Hid (∀ X p v, Ld X p v ((t + 1 : Nat) : Int) S' → Calls Try.prog 22 #[.pointer (some ⟨p, 0, none⟩)] X fun r w' => ∃ A' c', r = .returned (.slice A' m2 c') ∧ Lw w' tP 90 (.slice A' m2 c') m2 (pcs S'.pend) ∧ Fresh X.heap.size (.slice A' m2 c') ∧ Below X.heap.size X w') := fun X p v h => pending_any h m2 hm2
          have HCF2 : Hid (∀ X p v, Ld X p v ((t + 1 : Nat) : Int) S' → Calls Try.prog 30 #[.pointer (some ⟨p, 0, none⟩)] X fun e w' => e = .returned (.agg cg.cells.toArray) ∧ Below X.heap.size X w') := fun X p v h => confirmed_any h cg hcg
          have HSA : Hid (∀ X Aa Ab cb, Pr X Aa m S.pend → Pr X Ab m2 S'.pend → Calls Try.prog 26 #[.slice Aa m k1, .slice Ab m2 cb] X fun e w' => e = .returned (.bool true) ∧ Below X.heap.size X w') := fun X Aa Ab cb h1 h2 => same_any X Aa Ab m m2 k1 cb S.pend S'.pend h1 h2 HMB.out true (decide_eq_true (by rw [HSS2.out])).symm
          have HNC : Hid ((!decide (cg = cf)) = false) := by show _ = _; rw [hcg, HCFE.out, HSS2.out, decide_eq_true rfl]; rfl
          clear hm2 hcg
          go_wp2_with (first
            | (go_at_call 27; refine Calls.mono (HC.out _ _ _ (HZ5.out.lad _ (List.mem_cons_self ..))) ?_; rintro e Y ⟨rfl, q1⟩; obtain ⟨v9, q2, _⟩ := HZ5.out.turn 0 rfl q1; have HY : Hid (Hp w Y ((Z3.heap.size, cf.cells, tC) :: (R1 ++ [(wr.heap.size, x.cells, 53), (w.heap.size, M, 37)])) [(p, v9, ((t + 1 : Nat) : Int), S')]) := q2; clear q1 q2 HZ5 ck c89 c90 c91)
            | (go_at_call 22; refine Calls.mono (HPN2.out _ _ _ (HY.out.lad _ (List.mem_cons_self ..))) ?_; rintro e Y2 ⟨A2, k2, rfl, q1, q2, q3⟩; have P2 : Hid (Pr Y2 A2 m2 S'.pend) := Pr.of q1 HML2.out HPW2.out; have HY2 : Hid (Hp w Y2 ((Z3.heap.size, cf.cells, tC) :: (R1 ++ [(wr.heap.size, x.cells, 53), (w.heap.size, M, 37)])) [(p, v9, ((t + 1 : Nat) : Int), S')]) := HY.out.below q3; clear q1 q2 q3 HY)
            | (go_at_call 30; refine Calls.mono (HCF2.out _ _ _ (HY2.out.lad _ (List.mem_cons_self ..))) ?_; rintro e Y3 ⟨rfl, q⟩; have P3 : Hid (Pr Y3 A2 m2 S'.pend) := P2.out.be q; have HY3 : Hid (Hp w Y3 ((Z3.heap.size, cf.cells, tC) :: (R1 ++ [(wr.heap.size, x.cells, 53), (w.heap.size, M, 37)])) [(p, v9, ((t + 1 : Nat) : Int), S')]) := HY2.out.below q; clear q HY2 P2)
            | (refine wpList_alC rfl rfl ?_; intro Y4 q1 q2 q3; clear q3; have RC : Hid (Row Y4 Y3.heap.size zC.cells tC) := q1; have BC : Hid (Below Y3.heap.size Y3 Y4) := q2; clear q1 q2; simp only [Act.put, List.setIfInBounds_toArray, List.set_cons_zero, List.set_cons_succ])
            | (refine wpList_stL rfl tC (.tmp 18) (.tmp 131) rfl Y3.heap.size cg.cells zC.cells tC rfl rfl RC.out HLCG.out HICG.out (all_one (Cm.one cg)) ?_; intro Y5 q1 q2; have P5 : Hid (Pr Y5 A2 m2 S'.pend) := P3.out.be (gro_newL BC.out (Nat.le_refl _) q2); have HY5 : Hid (Hp w Y5 ((Y3.heap.size, cg.cells, tC) :: ((Z3.heap.size, cf.cells, tC) :: (R1 ++ [(wr.heap.size, x.cells, 53), (w.heap.size, M, 37)]))) [(p, v9, ((t + 1 : Nat) : Int), S')]) := HY3.out.addR (gro_newL BC.out (Nat.le_refl _) q2) q1 (Nat.le_refl _); clear q1 q2 HY3 P3 RC BC)
            | (go_at_call 26; refine Calls.mono (HSA.out _ _ _ _ (HR1.out _ (fun r hr => HY5.out.row r (List.mem_cons_of_mem _ (List.mem_cons_of_mem _ (List.mem_append_left _ hr))))) P5.out) ?_; rintro e Y6 ⟨rfl, q⟩; have HY6 : Hid (Hp w Y6 ((Y3.heap.size, cg.cells, tC) :: ((Z3.heap.size, cf.cells, tC) :: (R1 ++ [(wr.heap.size, x.cells, 53), (w.heap.size, M, 37)]))) [(p, v9, ((t + 1 : Nat) : Int), S')]) := HY5.out.below q; clear q HY5 P5)
            | (refine wpList_ldS rfl tC (.tmp 18) rfl Y3.heap.size 0 rfl cg.cells _ (HY6.out.row _ (List.mem_cons_self ..)).all Try.underlying25 rfl HICG.out ?_; simp only [Act.put, List.setIfInBounds_toArray, List.set_cons_zero, List.set_cons_succ])
            | (refine wpList_ldS rfl tC (.tmp 9) rfl Z3.heap.size 0 rfl cf.cells _ (HY6.out.row _ (List.mem_cons_of_mem _ (List.mem_cons_self ..))).all Try.underlying25 rfl HICF.out ?_; simp only [Act.put, List.setIfInBounds_toArray, List.set_cons_zero, List.set_cons_succ])
            | (refine wpList_neC rfl (.tmp 140) (.tmp 141) _ rfl cg cf HCGW.out HCFW.out rfl rfl false HNC.out ?_; simp only [Act.put, List.setIfInBounds_toArray, List.set_cons_zero, List.set_cons_succ]))
          refine ⟨⟨t + 1, v9, by omega, by go_num, ?_⟩, by simp [intOf]; omega⟩
          rw [HS'.out]
          exact HY6.out.dropR (fun r hr => by
            obtain rfl := List.mem_singleton.1 hr
            exact (List.mem_cons_of_mem _ (List.mem_cons_of_mem _ (List.mem_append_right _ (List.mem_cons_of_mem _ (List.mem_cons_self ..))))))
      have n4 := hk
      clear hk
      by_cases hk : kd = 5
      · subst hk
        have hst : S' = (S.rel x.nr).1 := by rw [HSD.out, La.doS]; simp only [HKD.out]; rfl
        obtain ⟨E, hp⟩ : ∃ E, S.rel x.nr = (S', E) := ⟨(S.rel x.nr).2, by rw [hst]⟩
        by_cases hE : E = 0
        · subst hE
          have HC : Hid (∀ X p v, Ld X p v (t : Int) S → Calls Try.prog 28 #[.pointer (some ⟨p, 0, none⟩), .int .i64 x.nr] X fun e w' => e = .returned (.int .i64 0) ∧ Tn X w' p v (t : Int) S') := fun X p v h => release_any h (by omega) x.nr S' 0 hp
          clear hp hst n1 n2 n3 n4
          obtain ⟨m2, hm2⟩ : ∃ m, m = S'.pend.length := ⟨_, rfl⟩
          obtain ⟨cg, hcg⟩ : ∃ c, c = S'.conf := ⟨_, rfl⟩
          have HPW2 : Hid (∀ q ∈ S'.pend, q.Wf) := HOK2.out.pw
          have HML2 : Hid (S'.pend.length = m2) := hm2.symm
          have HCGW : Hid cg.Wf := by rw [hcg]; exact HOK2.out.cf
          have HICG : Hid ((Try.prog.info? tC).map (·.size) = some cg.cells.length) := Cm.info HCGW.out
          have HLCG : Hid (cg.cells.length = zC.cells.length) := (Cm.len HCGW.out).trans (Cm.len zC_wf).symm
          have HPN2 : Hid (∀ X p v, Ld X p v ((t + 1 : Nat) : Int) S' → Calls Try.prog 22 #[.pointer (some ⟨p, 0, none⟩)] X fun r w' => ∃ A' c', r = .returned (.slice A' m2 c') ∧ Lw w' tP 90 (.slice A' m2 c') m2 (pcs S'.pend) ∧ Fresh X.heap.size (.slice A' m2 c') ∧ Below X.heap.size X w') := fun X p v h => pending_any h m2 hm2
          have HCF2 : Hid (∀ X p v, Ld X p v ((t + 1 : Nat) : Int) S' → Calls Try.prog 30 #[.pointer (some ⟨p, 0, none⟩)] X fun e w' => e = .returned (.agg cg.cells.toArray) ∧ Below X.heap.size X w') := fun X p v h => confirmed_any h cg hcg
          clear hm2 hcg
          go_wp2_with (first
            | (go_at_call 28; refine Calls.mono (HC.out _ _ _ (HZ5.out.lad _ (List.mem_cons_self ..))) ?_; rintro e Y ⟨rfl, q1⟩; obtain ⟨v9, q2, _⟩ := HZ5.out.turn 0 rfl (q1.mono (show (t : Int) ≤ ((t + 1 : Nat) : Int) by omega)); have HY : Hid (Hp w Y ((Z3.heap.size, cf.cells, tC) :: (R1 ++ [(wr.heap.size, x.cells, 53), (w.heap.size, M, 37)])) [(p, v9, ((t + 1 : Nat) : Int), S')]) := q2; clear q1 q2 HZ5 ck c89 c90 c91)
            | (go_at_call 22; refine Calls.mono (HPN2.out _ _ _ (HY.out.lad _ (List.mem_cons_self ..))) ?_; rintro e Y2 ⟨A2, k2, rfl, q1, q2, q3⟩; have P2 : Hid (Pr Y2 A2 m2 S'.pend) := Pr.of q1 HML2.out HPW2.out; have HY2 : Hid (Hp w Y2 ((Z3.heap.size, cf.cells, tC) :: (R1 ++ [(wr.heap.size, x.cells, 53), (w.heap.size, M, 37)])) [(p, v9, ((t + 1 : Nat) : Int), S')]) := HY.out.below q3; clear q1 q2 q3 HY)
            | (go_at_call 30; refine Calls.mono (HCF2.out _ _ _ (HY2.out.lad _ (List.mem_cons_self ..))) ?_; rintro e Y3 ⟨rfl, q⟩; have P3 : Hid (Pr Y3 A2 m2 S'.pend) := P2.out.be q; have HY3 : Hid (Hp w Y3 ((Z3.heap.size, cf.cells, tC) :: (R1 ++ [(wr.heap.size, x.cells, 53), (w.heap.size, M, 37)])) [(p, v9, ((t + 1 : Nat) : Int), S')]) := HY2.out.below q; clear q HY2 P2)
            | (refine wpList_alC rfl rfl ?_; intro Y4 q1 q2 q3; clear q3; have RC : Hid (Row Y4 Y3.heap.size zC.cells tC) := q1; have BC : Hid (Below Y3.heap.size Y3 Y4) := q2; clear q1 q2; simp only [Act.put, List.setIfInBounds_toArray, List.set_cons_zero, List.set_cons_succ])
            | (refine wpList_stL rfl tC (.tmp 18) (.tmp 131) rfl Y3.heap.size cg.cells zC.cells tC rfl rfl RC.out HLCG.out HICG.out (all_one (Cm.one cg)) ?_; intro Y5 q1 q2; have P5 : Hid (Pr Y5 A2 m2 S'.pend) := P3.out.be (gro_newL BC.out (Nat.le_refl _) q2); have HY5 : Hid (Hp w Y5 ((Y3.heap.size, cg.cells, tC) :: ((Z3.heap.size, cf.cells, tC) :: (R1 ++ [(wr.heap.size, x.cells, 53), (w.heap.size, M, 37)]))) [(p, v9, ((t + 1 : Nat) : Int), S')]) := HY3.out.addR (gro_newL BC.out (Nat.le_refl _) q2) q1 (Nat.le_refl _); clear q1 q2 HY3 P3 RC BC))
          refine ⟨⟨t + 1, v9, by omega, by go_num, ?_⟩, by simp [intOf]; omega⟩
          rw [HS'.out]
          exact HY5.out.dropR (fun r hr => by
            obtain rfl := List.mem_singleton.1 hr
            exact (List.mem_cons_of_mem _ (List.mem_cons_of_mem _ (List.mem_append_right _ (List.mem_cons_of_mem _ (List.mem_cons_self ..))))))
        · have hne2 : (E != 0) = true := by simpa using hE
          have hs2 := rel_ref hp hE
          have HSS2 : Hid (S' = S) := hs2
          clear hs2
          have HC : Hid (∀ X p v, Ld X p v (t : Int) S → Calls Try.prog 28 #[.pointer (some ⟨p, 0, none⟩), .int .i64 x.nr] X fun e w' => e = .returned (.int .i64 E) ∧ Tn X w' p v (t : Int) S') := fun X p v h => release_any h (by omega) x.nr S' E hp
          clear hp hst n1 n2 n3 n4
          obtain ⟨m2, hm2⟩ : ∃ m, m = S'.pend.length := ⟨_, rfl⟩
          obtain ⟨cg, hcg⟩ : ∃ c, c = S'.conf := ⟨_, rfl⟩
          have HPW2 : Hid (∀ q ∈ S'.pend, q.Wf) := HOK2.out.pw
          have HML2 : Hid (S'.pend.length = m2) := hm2.symm
          have HCGW : Hid cg.Wf := by rw [hcg]; exact HOK2.out.cf
          have HICG : Hid ((Try.prog.info? tC).map (·.size) = some cg.cells.length) := Cm.info HCGW.out
          have HLCG : Hid (cg.cells.length = zC.cells.length) := (Cm.len HCGW.out).trans (Cm.len zC_wf).symm
          have HPN2 : Hid (∀ X p v, Ld X p v ((t + 1 : Nat) : Int) S' → Calls Try.prog 22 #[.pointer (some ⟨p, 0, none⟩)] X fun r w' => ∃ A' c', r = .returned (.slice A' m2 c') ∧ Lw w' tP 90 (.slice A' m2 c') m2 (pcs S'.pend) ∧ Fresh X.heap.size (.slice A' m2 c') ∧ Below X.heap.size X w') := fun X p v h => pending_any h m2 hm2
          have HCF2 : Hid (∀ X p v, Ld X p v ((t + 1 : Nat) : Int) S' → Calls Try.prog 30 #[.pointer (some ⟨p, 0, none⟩)] X fun e w' => e = .returned (.agg cg.cells.toArray) ∧ Below X.heap.size X w') := fun X p v h => confirmed_any h cg hcg
          have HSA : Hid (∀ X Aa Ab cb, Pr X Aa m S.pend → Pr X Ab m2 S'.pend → Calls Try.prog 26 #[.slice Aa m k1, .slice Ab m2 cb] X fun e w' => e = .returned (.bool true) ∧ Below X.heap.size X w') := fun X Aa Ab cb h1 h2 => same_any X Aa Ab m m2 k1 cb S.pend S'.pend h1 h2 HMB.out true (decide_eq_true (by rw [HSS2.out])).symm
          have HNC : Hid ((!decide (cg = cf)) = false) := by show _ = _; rw [hcg, HCFE.out, HSS2.out, decide_eq_true rfl]; rfl
          clear hm2 hcg
          go_wp2_with (first
            | (go_at_call 28; refine Calls.mono (HC.out _ _ _ (HZ5.out.lad _ (List.mem_cons_self ..))) ?_; rintro e Y ⟨rfl, q1⟩; obtain ⟨v9, q2, _⟩ := HZ5.out.turn 0 rfl (q1.mono (show (t : Int) ≤ ((t + 1 : Nat) : Int) by omega)); have HY : Hid (Hp w Y ((Z3.heap.size, cf.cells, tC) :: (R1 ++ [(wr.heap.size, x.cells, 53), (w.heap.size, M, 37)])) [(p, v9, ((t + 1 : Nat) : Int), S')]) := q2; clear q1 q2 HZ5 ck c89 c90 c91)
            | (go_at_call 22; refine Calls.mono (HPN2.out _ _ _ (HY.out.lad _ (List.mem_cons_self ..))) ?_; rintro e Y2 ⟨A2, k2, rfl, q1, q2, q3⟩; have P2 : Hid (Pr Y2 A2 m2 S'.pend) := Pr.of q1 HML2.out HPW2.out; have HY2 : Hid (Hp w Y2 ((Z3.heap.size, cf.cells, tC) :: (R1 ++ [(wr.heap.size, x.cells, 53), (w.heap.size, M, 37)])) [(p, v9, ((t + 1 : Nat) : Int), S')]) := HY.out.below q3; clear q1 q2 q3 HY)
            | (go_at_call 30; refine Calls.mono (HCF2.out _ _ _ (HY2.out.lad _ (List.mem_cons_self ..))) ?_; rintro e Y3 ⟨rfl, q⟩; have P3 : Hid (Pr Y3 A2 m2 S'.pend) := P2.out.be q; have HY3 : Hid (Hp w Y3 ((Z3.heap.size, cf.cells, tC) :: (R1 ++ [(wr.heap.size, x.cells, 53), (w.heap.size, M, 37)])) [(p, v9, ((t + 1 : Nat) : Int), S')]) := HY2.out.below q; clear q HY2 P2)
            | (refine wpList_alC rfl rfl ?_; intro Y4 q1 q2 q3; clear q3; have RC : Hid (Row Y4 Y3.heap.size zC.cells tC) := q1; have BC : Hid (Below Y3.heap.size Y3 Y4) := q2; clear q1 q2; simp only [Act.put, List.setIfInBounds_toArray, List.set_cons_zero, List.set_cons_succ])
            | (refine wpList_stL rfl tC (.tmp 18) (.tmp 131) rfl Y3.heap.size cg.cells zC.cells tC rfl rfl RC.out HLCG.out HICG.out (all_one (Cm.one cg)) ?_; intro Y5 q1 q2; have P5 : Hid (Pr Y5 A2 m2 S'.pend) := P3.out.be (gro_newL BC.out (Nat.le_refl _) q2); have HY5 : Hid (Hp w Y5 ((Y3.heap.size, cg.cells, tC) :: ((Z3.heap.size, cf.cells, tC) :: (R1 ++ [(wr.heap.size, x.cells, 53), (w.heap.size, M, 37)]))) [(p, v9, ((t + 1 : Nat) : Int), S')]) := HY3.out.addR (gro_newL BC.out (Nat.le_refl _) q2) q1 (Nat.le_refl _); clear q1 q2 HY3 P3 RC BC)
            | (go_at_call 26; refine Calls.mono (HSA.out _ _ _ _ (HR1.out _ (fun r hr => HY5.out.row r (List.mem_cons_of_mem _ (List.mem_cons_of_mem _ (List.mem_append_left _ hr))))) P5.out) ?_; rintro e Y6 ⟨rfl, q⟩; have HY6 : Hid (Hp w Y6 ((Y3.heap.size, cg.cells, tC) :: ((Z3.heap.size, cf.cells, tC) :: (R1 ++ [(wr.heap.size, x.cells, 53), (w.heap.size, M, 37)]))) [(p, v9, ((t + 1 : Nat) : Int), S')]) := HY5.out.below q; clear q HY5 P5)
            | (refine wpList_ldS rfl tC (.tmp 18) rfl Y3.heap.size 0 rfl cg.cells _ (HY6.out.row _ (List.mem_cons_self ..)).all Try.underlying25 rfl HICG.out ?_; simp only [Act.put, List.setIfInBounds_toArray, List.set_cons_zero, List.set_cons_succ])
            | (refine wpList_ldS rfl tC (.tmp 9) rfl Z3.heap.size 0 rfl cf.cells _ (HY6.out.row _ (List.mem_cons_of_mem _ (List.mem_cons_self ..))).all Try.underlying25 rfl HICF.out ?_; simp only [Act.put, List.setIfInBounds_toArray, List.set_cons_zero, List.set_cons_succ])
            | (refine wpList_neC rfl (.tmp 140) (.tmp 141) _ rfl cg cf HCGW.out HCFW.out rfl rfl false HNC.out ?_; simp only [Act.put, List.setIfInBounds_toArray, List.set_cons_zero, List.set_cons_succ]))
          refine ⟨⟨t + 1, v9, by omega, by go_num, ?_⟩, by simp [intOf]; omega⟩
          rw [HS'.out]
          exact HY6.out.dropR (fun r hr => by
            obtain rfl := List.mem_singleton.1 hr
            exact (List.mem_cons_of_mem _ (List.mem_cons_of_mem _ (List.mem_append_right _ (List.mem_cons_of_mem _ (List.mem_cons_self ..))))))
      have hst : S' = S := by rw [HSD.out, La.doS]; simp only [HKD.out]; rw [if_neg n1, if_neg n2, if_neg n3, if_neg n4, if_neg hk]
      subst hst
      obtain ⟨v9, hq9⟩ : ∃ v9, Hp w Z5 ((Z3.heap.size, cf.cells, tC) :: (R1 ++ [(wr.heap.size, x.cells, 53), (w.heap.size, M, 37)])) [(p, v9, ((t + 1 : Nat) : Int), S')] := by
        obtain ⟨v', q2, _⟩ := HZ5.out.turn 0 rfl (Tn.mono (Tn.same (HZ5.out.lad _ (List.mem_cons_self ..)) (Below.refl _ _)) (show (t : Int) ≤ ((t + 1 : Nat) : Int) by omega))
        exact ⟨v', q2⟩
      have HY : Hid (Hp w Z5 ((Z3.heap.size, cf.cells, tC) :: (R1 ++ [(wr.heap.size, x.cells, 53), (w.heap.size, M, 37)])) [(p, v9, ((t + 1 : Nat) : Int), S')]) := hq9
      clear hq9 HZ5 c89 c90 c91
      obtain ⟨m2, hm2⟩ : ∃ m, m = S'.pend.length := ⟨_, rfl⟩
      obtain ⟨cg, hcg⟩ : ∃ c, c = S'.conf := ⟨_, rfl⟩
      have HPW2 : Hid (∀ q ∈ S'.pend, q.Wf) := HOK2.out.pw
      have HML2 : Hid (S'.pend.length = m2) := hm2.symm
      have HCGW : Hid cg.Wf := by rw [hcg]; exact HOK2.out.cf
      have HICG : Hid ((Try.prog.info? tC).map (·.size) = some cg.cells.length) := Cm.info HCGW.out
      have HLCG : Hid (cg.cells.length = zC.cells.length) := (Cm.len HCGW.out).trans (Cm.len zC_wf).symm
      have HPN2 : Hid (∀ X p v, Ld X p v ((t + 1 : Nat) : Int) S' → Calls Try.prog 22 #[.pointer (some ⟨p, 0, none⟩)] X fun r w' => ∃ A' c', r = .returned (.slice A' m2 c') ∧ Lw w' tP 90 (.slice A' m2 c') m2 (pcs S'.pend) ∧ Fresh X.heap.size (.slice A' m2 c') ∧ Below X.heap.size X w') := fun X p v h => pending_any h m2 hm2
      have HCF2 : Hid (∀ X p v, Ld X p v ((t + 1 : Nat) : Int) S' → Calls Try.prog 30 #[.pointer (some ⟨p, 0, none⟩)] X fun e w' => e = .returned (.agg cg.cells.toArray) ∧ Below X.heap.size X w') := fun X p v h => confirmed_any h cg hcg
      clear hm2 hcg
      go_wp2_with (first
        | (go_at_call 22; refine Calls.mono (HPN2.out _ _ _ (HY.out.lad _ (List.mem_cons_self ..))) ?_; rintro e Y2 ⟨A2, k2, rfl, q1, q2, q3⟩; have P2 : Hid (Pr Y2 A2 m2 S'.pend) := Pr.of q1 HML2.out HPW2.out; have HY2 : Hid (Hp w Y2 ((Z3.heap.size, cf.cells, tC) :: (R1 ++ [(wr.heap.size, x.cells, 53), (w.heap.size, M, 37)])) [(p, v9, ((t + 1 : Nat) : Int), S')]) := HY.out.below q3; clear q1 q2 q3 HY)
        | (go_at_call 30; refine Calls.mono (HCF2.out _ _ _ (HY2.out.lad _ (List.mem_cons_self ..))) ?_; rintro e Y3 ⟨rfl, q⟩; have P3 : Hid (Pr Y3 A2 m2 S'.pend) := P2.out.be q; have HY3 : Hid (Hp w Y3 ((Z3.heap.size, cf.cells, tC) :: (R1 ++ [(wr.heap.size, x.cells, 53), (w.heap.size, M, 37)])) [(p, v9, ((t + 1 : Nat) : Int), S')]) := HY2.out.below q; clear q HY2 P2)
        | (refine wpList_alC rfl rfl ?_; intro Y4 q1 q2 q3; clear q3; have RC : Hid (Row Y4 Y3.heap.size zC.cells tC) := q1; have BC : Hid (Below Y3.heap.size Y3 Y4) := q2; clear q1 q2; simp only [Act.put, List.setIfInBounds_toArray, List.set_cons_zero, List.set_cons_succ])
        | (refine wpList_stL rfl tC (.tmp 18) (.tmp 131) rfl Y3.heap.size cg.cells zC.cells tC rfl rfl RC.out HLCG.out HICG.out (all_one (Cm.one cg)) ?_; intro Y5 q1 q2; have P5 : Hid (Pr Y5 A2 m2 S'.pend) := P3.out.be (gro_newL BC.out (Nat.le_refl _) q2); have HY5 : Hid (Hp w Y5 ((Y3.heap.size, cg.cells, tC) :: ((Z3.heap.size, cf.cells, tC) :: (R1 ++ [(wr.heap.size, x.cells, 53), (w.heap.size, M, 37)]))) [(p, v9, ((t + 1 : Nat) : Int), S')]) := HY3.out.addR (gro_newL BC.out (Nat.le_refl _) q2) q1 (Nat.le_refl _); clear q1 q2 HY3 P3 RC BC))
      refine ⟨⟨t + 1, v9, by omega, by go_num, ?_⟩, by simp [intOf]; omega⟩
      rw [HS'.out]
      exact HY5.out.dropR (fun r hr => by
        obtain rfl := List.mem_singleton.1 hr
        exact (List.mem_cons_of_mem _ (List.mem_cons_of_mem _ (List.mem_append_right _ (List.mem_cons_of_mem _ (List.mem_cons_self ..))))))

end Go.Proofs.Ytdilgeikleddbaa
