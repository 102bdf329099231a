/-
  LadderOnce: its walk.
-/
import Derived.Test.YtdilgeikleddbaaLaR0
namespace Go.Proofs.Ytdilgeikleddbaa
open Go Go.RowKit
open Sha

theorem Pn.at_a {p : Pn} (h : p.Wf) (j : Nat) (u : Value) (hj : (vB p.ad)[j]? = some u) : p.cells[67 + j]? = some u := by
  unfold Pn.cells
  rw [show 67 + j = (66 + j) + 1 by omega, List.getElem?_cons_succ, List.getElem?_append_right (by rw [Cm.len h.c]; omega), Cm.len h.c, Nat.add_sub_cancel_left, List.getElem?_append_left ((List.getElem?_eq_some_iff.1 hj).1)]
  exact hj
theorem wpList_stE {P : Program} {ops : Array Oper} {rest : List Oper} {op : Oper} {a : Act} {w : World} {Q : Exit → Act → World → Prop} (hgd : op.guard = none) (ty : TypeId) (x y : Operand) (ho : op.op = .store ty x y)
    (b i : Nat) (v : Value) (cs : List Value) (t : TypeId) {i' : Nat} (hx : a.eval x = .pointer (some ⟨b, i', none⟩)) (e : i' = i) (hy : a.eval y = v) (hcs : v.cells = #[v]) (r : Row w b cs t) (hl : i < cs.length) (hi : (P.info? ty).map (·.size) = some 1) (h1 : v.oneCell' = true)
    (h : ∀ X, Row X b (cs.set i v) t → Gro (· = b) w X → wpList P ops Q rest (a.put op.dst undef) X) : wpList P ops Q (op :: rest) a w := by
  subst e
  exact wpList_st1 hgd ty x y ho b i' v cs t hx hy hcs r hl hi h1 h
set_option maxRecDepth 100000 in
set_option maxHeartbeats 32000000 in
theorem once_walk (c : Cm) (hc : c.Wf) (win : Int) (rs : List Sp16) (A : Option Addr) (n cap : Nat) (hn : rs.length = n) (hn2 : n * 168 ≤ 140737488351232) (M : List Value) (hM : M = scr c win (.slice A n cap)) (w : World) (hss : SsAt w A rs) : Calls Try.prog 5 #[.agg M.toArray] w fun e w' => e = .returned (.bool true) ∧ Below w.heap.size w w' := by
  have HCW : Hid c.Wf := hc
  have HIC : Hid ((Try.prog.info? tC).map (·.size) = some c.cells.length) := Cm.info hc
  have HM66 : Hid (M[66]? = some (.int .i64 win)) := by show _ = _; rw [hM]; exact scr_66 hc _ _
  have HM67 : Hid (M[67]? = some (.slice A n cap)) := by show _ = _; rw [hM]; exact scr_67 hc _ _
  have HMC : Hid (∀ j u, c.cells[j]? = some u → M[0 + j]? = some u) := fun j u hj => by rw [hM]; exact scr_c c _ _ j u hj
  have HSS : Hid (SsAt w A rs) := hss
  have HNR : Hid (rs.length = n) := hn
  by_cases hE : newE c win = 0
  case neg =>
    obtain ⟨E, hEE⟩ : ∃ E, newE c win = E := ⟨_, rfl⟩
    have HNEW : Hid (∀ X, Calls Try.prog 21 #[.agg c.cells.toArray, .int .i64 win] X fun e w' => e = .returned (.tuple #[.pointer none, .int .i64 E]) ∧ Below X.heap.size X w') := fun X => new_no c hc win _ rfl E hEE (by rw [← hEE]; exact hE) X
    have hne : ¬ E = 0 := by rw [← hEE]; exact hE
    have hne2 : (E != 0) = true := by simpa using hne
    clear hEE hE hc hM hss hn hn2
    go_enter Try.func5, Try.ntmps5
    go_wp2_with (first
      | (refine wpList_bxG 37 rfl (.tmp 0) rfl M rfl ?_; intro X0 q1 q2 q3; clear q3; have H0 : Hid (Hp w X0 [(w.heap.size, M, 37)] []) := (Hp.nil w).addR q2 q1 (Nat.le_refl _); clear q1 q2; simp only [Act.put, List.setIfInBounds_toArray, List.set_cons_zero, List.set_cons_succ])
      | (go_at_call 9; refine Calls.mono (awake_any _) ?_; rintro e X1 ⟨rfl, q⟩; have H1 : Hid (Hp w X1 [(w.heap.size, M, 37)] []) := H0.out.below q; have c66 : X1.cell? ⟨w.heap.size, 66, none⟩ = some (.int .i64 win) := (H1.out.row _ (List.mem_cons_self ..)).cell 66 _ HM66.out; clear q H0)
      | (refine wpList_ldS rfl tC (.tmp 30) rfl w.heap.size 0 rfl c.cells _ ((H1.out.row _ (List.mem_cons_self ..)).range 0 _ HMC.out) Try.underlying25 rfl HIC.out ?_; simp only [Act.put, List.setIfInBounds_toArray, List.set_cons_zero, List.set_cons_succ])
      | (go_at_call 21; refine Calls.mono (HNEW.out _) ?_; rintro e X2 ⟨rfl, q⟩; have B2 : Hid (Below w.heap.size w X2) := H1.out.be.trans (q.mono H1.out.be.size); clear q))
    go_ret
    exact ⟨rfl, B2.out⟩
  case pos =>
  obtain ⟨S0, hS0⟩ : ∃ S, S = La0 c win := ⟨_, rfl⟩
  have HNEW : Hid (∀ X, Calls Try.prog 21 #[.agg c.cells.toArray, .int .i64 win] X fun e w' => ∃ p, e = .returned (.tuple #[.pointer (some ⟨p, 0, none⟩), .int .i64 0]) ∧ Ld w' p (.slice none 0 0) 0 S0 ∧ X.heap.size ≤ p ∧ Below X.heap.size X w') := fun X => by rw [hS0]; exact new_ok c hc win _ rfl hE (Int.le_refl 0) X
  have HI0 : Hid (Inv S0 [] win) := by rw [hS0]; exact Inv.first c win
  have HC0 : Hid (c.n = S0.conf.n) := by show _ = _; rw [hS0]; rfl
  have HN2 : Hid (n * 168 ≤ 140737488351232) := hn2
  replace hn2 : n < 35184372088832 := by omega
  clear hc hM hss hn hE hS0
  go_enter Try.func5, Try.ntmps5
  go_wp2_with (first
    | (refine wpList_bxG 37 rfl (.tmp 0) rfl M rfl ?_; intro X0 q1 q2 q3; clear q3; have H0 : Hid (Hp w X0 [(w.heap.size, M, 37)] []) := (Hp.nil w).addR q2 q1 (Nat.le_refl _); clear q1 q2; simp only [Act.put, List.setIfInBounds_toArray, List.set_cons_zero, List.set_cons_succ])
    | (go_at_call 9; refine Calls.mono (awake_any _) ?_; rintro e X1 ⟨rfl, q⟩; have H1 : Hid (Hp w X1 [(w.heap.size, M, 37)] []) := H0.out.below q; have c66 : X1.cell? ⟨w.heap.size, 66, none⟩ = some (.int .i64 win) := (H1.out.row _ (List.mem_cons_self ..)).cell 66 _ HM66.out; clear q H0)
    | (refine wpList_ldS rfl tC (.tmp 30) rfl w.heap.size 0 rfl c.cells _ ((H1.out.row _ (List.mem_cons_self ..)).range 0 _ HMC.out) Try.underlying25 rfl HIC.out ?_; simp only [Act.put, List.setIfInBounds_toArray, List.set_cons_zero, List.set_cons_succ])
    | (go_at_call 21; refine Calls.mono (HNEW.out _) ?_; rintro e X2 ⟨p, rfl, q1, q2, q3⟩; have H2 : Hid (Hp w X2 [(w.heap.size, M, 37)] [(p, .slice none 0 0, 0, S0)]) := H1.out.addL q3 q1 (fun g hg => by { rcases hg with rfl | hg; exact q2; cases hg }); have c67 : X2.cell? ⟨w.heap.size, 67, none⟩ = some (.slice A n cap) := (H2.out.row _ (List.mem_cons_self ..)).cell 67 _ HM67.out; have c00 : X2.cell? ⟨w.heap.size, 0, none⟩ = some (.int .i64 c.n) := (H2.out.row _ (List.mem_cons_self ..)).cell 0 _ (HMC.out 0 _ (Cm.at_n c)); clear q1 q2 q3 H1 c66))
  clear c67 c00 HNEW
  go_loopw [6, 7, 8] (fun bv cnv i wr => ∃ (t : Nat) (v : Value) (bk : List Bk) (Ab : Option Addr) (cb k : Nat), t ≤ n ∧ i = .int .i64 (t : Int) ∧ k ≤ t ∧ bv = .slice Ab k cb ∧ cnv = .int .i64 (S0.runS (rs.take t)).conf.n ∧ Oc w wr [(w.heap.size, M, 37)] [(p, v, (t : Int), S0.runS (rs.take t))] bk Ab k cb ∧ Inv (S0.runS (rs.take t)) bk win) (fun _ _ i _ => n - (intOf i).toNat)
  case atStart => exact ⟨0, _, [], none, 0, 0, Nat.zero_le _, rfl, Nat.le_refl _, rfl, by rw [HC0.out]; rfl, ⟨H2.out, Lw.nil _ _ _, rfl, (fun g e => by cases e), (fun r hr => by obtain rfl := List.mem_singleton.1 hr; exact (by decide : (37 : TypeId) ≠ tPo)), (fun b hb => by cases hb)⟩, HI0.out⟩
  case round =>
    clear H2 HI0 HC0
    obtain ⟨t, v, bk, Ab, cb, k, hta, rfl, hkt, rfl, rfl, hH, hI⟩ := hrel
    obtain ⟨S, hS⟩ : ∃ S, S = S0.runS (rs.take t) := ⟨_, rfl⟩
    rw [← hS] at hH hI ⊢
    have HH : Hid (Oc w wr [(w.heap.size, M, 37)] [(p, v, (t : Int), S)] bk Ab k cb) := hH
    have HIN : Hid (Inv S bk win) := hI
    have HKT : Hid (k ≤ t) := hkt
    obtain ⟨cn, hcn⟩ : ∃ cn, cn = S.conf.n := ⟨_, rfl⟩
    rw [← hcn]
    have HCN : Hid (cn = S.conf.n) := hcn
    clear hH hI hkt hcn
    by_cases htn : t < n
    case neg =>
      have hlt2 : ¬ ((t : Int) < (n : Int)) := by omega
      have c67 : wr.cell? ⟨w.heap.size, 67, none⟩ = some (.slice A n cap) := (HH.out.hp.row _ (List.mem_cons_self ..)).cell 67 _ HM67.out
      obtain ⟨m, hm⟩ : ∃ m, m = S.pend.length := ⟨_, rfl⟩
      have hok : S.Ok (t : Int) := (HH.out.hp.lad _ (List.mem_cons_self ..)).ok
      have HPW : Hid (∀ q ∈ S.pend, q.Wf) := hok.pw
      have HML : Hid (S.pend.length = m) := hm.symm
      have hm32 : m ≤ 32 := by rw [hm]; exact hok.pl
      have HPN : Hid (∀ X p v, Ld X p v (t : Int) S → Calls Try.prog 22 #[.pointer (some ⟨p, 0, none⟩)] X fun r w' => ∃ A' c', r = .returned (.slice A' m c') ∧ Lw w' tP 90 (.slice A' m c') m (pcs S.pend) ∧ Fresh X.heap.size (.slice A' m c') ∧ Below X.heap.size X w') := fun X p v h => pending_any h m hm
      have HKL : Hid (bk.length = k) := HH.out.kl
      have hkb : k < 35184372088832 := by have := HKT.out; omega
      clear hok hm hS
      go_wp2_with (go_at_call 22; refine Calls.mono (HPN.out _ _ _ (HH.out.hp.lad _ (List.mem_cons_self ..))) ?_; rintro e Z ⟨A4, k4, rfl, q1, q2, q3⟩; have P4 : Hid (Pr Z A4 m S.pend) := Pr.of q1 HML.out HPW.out; have OZ : Hid (Oc w Z [(w.heap.size, M, 37)] [(p, v, (t : Int), S)] bk Ab k cb) := HH.out.below q3; clear q1 q2 q3 HH c67)
      go_loopw [24, 25] (fun lf iv wq => ∃ j : Nat, j ≤ k ∧ iv = .int .i64 (j : Int) ∧ lf = .int .i64 ((cnt0 bk j : Nat) : Int) ∧ Oc w wq [(w.heap.size, M, 37)] [(p, v, (t : Int), S)] bk Ab k cb ∧ Pr wq A4 m S.pend) (fun _ iv _ => k - (intOf iv).toNat)
      case atStart => exact ⟨0, Nat.zero_le _, rfl, rfl, OZ.out, P4.out⟩
      case round =>
        clear OZ P4
        obtain ⟨j, hjk0, rfl, rfl, hO, hP⟩ := hrel
        have OZ : Hid (Oc w wr [(w.heap.size, M, 37)] [(p, v, (t : Int), S)] bk Ab k cb) := hO
        have P4 : Hid (Pr wr A4 m S.pend) := hP
        clear hO hP
        have hcl := cnt0_le bk j
        obtain ⟨cc, hcc⟩ : ∃ cc, cc = cnt0 bk j := ⟨_, rfl⟩
        rw [← hcc] at hcl ⊢
        have HCC : Hid (cc = cnt0 bk j) := hcc
        clear hcc
        by_cases hj : j < k
        · have hj2 : (j : Int) < (k : Int) := by omega
          obtain ⟨bq, hbq⟩ : ∃ b, bk[j]? = some b := ⟨_, List.getElem?_eq_getElem (by rw [HKL.out]; exact hj)⟩
          obtain ⟨gb, cur, hAb, hjk, hrb, hlb, hrgb, hset⟩ := OZ.out.at hbq
          subst hAb
          have d87 := hrgb 87 _ (Bk.at_gone (OZ.out.bw bq (List.mem_of_getElem? hbq)))
          have d87' := d87
          rw [Nat.zero_add] at d87'
          have HCS : Hid (cnt0 bk (j + 1) = cc + (if bq.gone = 0 then 1 else 0)) := by rw [HCC.out]; exact cnt0_succ hbq
          have hadd : IntKind.i64.wrap ((cc : Int) + 1) = ((cc + 1 : Nat) : Int) := by rw [IntKind.wrap_i64]; omega
          obtain ⟨c1, hc1⟩ : ∃ c1 : Int, c1 = ((cc + 1 : Nat) : Int) := ⟨_, rfl⟩
          rw [← hc1] at hadd
          have HC1 : Hid (c1 = ((cc + 1 : Nat) : Int)) := hc1
          clear hbq hrb hlb hrgb hset hc1
          by_cases hg : bq.gone = 0
          · rw [hg] at d87 d87'
            go_wp2_with (refine wpList_ixL tPos tPo (.tmp 306) (.tmp 307) rfl gb 0 k cb j 88 rfl rfl hjk Try.underlying59 info_Po rfl ?_; simp only [Act.put, List.setIfInBounds_toArray, List.set_cons_zero, List.set_cons_succ])
            exact ⟨⟨j + 1, hj, by go_num, by rw [HCS.out, if_pos hg, HC1.out], OZ.out, P4.out⟩, by simp [intOf]; omega⟩
          · have hg2 : (bq.gone == 0) = false := by simpa using hg
            go_wp2_with (refine wpList_ixL tPos tPo (.tmp 306) (.tmp 307) rfl gb 0 k cb j 88 rfl rfl hjk Try.underlying59 info_Po rfl ?_; simp only [Act.put, List.setIfInBounds_toArray, List.set_cons_zero, List.set_cons_succ])
            exact ⟨⟨j + 1, hj, by go_num, by rw [HCS.out, if_neg hg, Nat.add_zero], OZ.out, P4.out⟩, by simp [intOf]; omega⟩
        · have hj2 : ¬ ((j : Int) < (k : Int)) := by omega
          have HCM : Hid (cc = m) := by show _ = _; rw [HCC.out, ← HML.out, ← HIN.out.cnt, HKL.out, show j = k by omega]
          obtain ⟨Z2, hZ2⟩ : ∃ Z2, Z2 = wr := ⟨_, rfl⟩
          subst hZ2
          go_wp2
          go_loopw [26] (fun iv wq => ∃ j : Nat, j ≤ m ∧ iv = .int .i64 (j : Int) ∧ Oc w wq [(w.heap.size, M, 37)] [(p, v, (t : Int), S)] bk Ab k cb ∧ Pr wq A4 m S.pend) (fun iv _ => m - (intOf iv).toNat)
          case atStart => exact ⟨0, Nat.zero_le _, rfl, OZ.out, P4.out⟩
          case round =>
            clear OZ P4
            obtain ⟨j, hjk0, rfl, hO, hP⟩ := hrel
            have OZ : Hid (Oc w wr [(w.heap.size, M, 37)] [(p, v, (t : Int), S)] bk Ab k cb) := hO
            have P4 : Hid (Pr wr A4 m S.pend) := hP
            clear hO hP
            by_cases hj : j < m
            case neg =>
              have hj3 : ¬ ((j : Int) < (m : Int)) := by omega
              rw [HCM.out]
              go_wp2
              go_ret
              exact ⟨by first | rfl | simp, OZ.out.hp.be⟩
            case pos =>
              have hj3 : (j : Int) < (m : Int) := by omega
              obtain ⟨q, hq⟩ : ∃ q, S.pend[j]? = some q := ⟨_, List.getElem?_eq_getElem (by rw [HML.out]; exact hj)⟩
              have hqm := List.mem_of_getElem? hq
              obtain ⟨bq, z1, z2, z3, z4, z5, z6, z7⟩ := HIN.out.at hqm
              obtain ⟨jq, hjq⟩ : ∃ jq, jq = (q.nr - 1).toNat := ⟨_, rfl⟩
              rw [← hjq] at z1
              obtain ⟨g4, o4, hA4, hrq⟩ := P4.out.get hq
              subst hA4
              have c0 := hrq 0 _ (Pn.at_nr q)
              rw [Nat.add_zero] at c0
              obtain ⟨gb, cur, hAb, hjk, hrb, hlb, hrgb, hset⟩ := OZ.out.at z1
              subst hAb
              have HBWq : Hid bq.Wf := OZ.out.bw bq (List.mem_of_getElem? z1)
              have HQW : Hid q.Wf := HPW.out q hqm
              have hd8 := hrgb 87 _ (Bk.at_gone HBWq.out)
              rw [z2] at hd8
              have HJK : Hid (jq < k) := hjk
              have HSB : Hid (IntKind.i64.wrap (q.nr - 1) = (jq : Int)) := by show _ = _; rw [IntKind.wrap_i64]; rw [HKL.out] at z7; omega
              have HF1 : Hid (decide (q.nr < 1) = false) := decide_eq_false (by omega)
              have HF2 : Hid (decide ((k : Int) < q.nr) = false) := decide_eq_false (by rw [HKL.out] at z7; omega)
              have HNQ : Hid ((!decide (bq.c = q.c)) = false) := by show _ = _; rw [z3, decide_eq_true rfl]; rfl
              have HIBC : Hid ((Try.prog.info? tC).map (·.size) = some bq.c.cells.length) := Cm.info HBWq.out.c
              have HIQC : Hid ((Try.prog.info? tC).map (·.size) = some q.c.cells.length) := Cm.info HQW.out.c
              obtain ⟨V, hV⟩ : ∃ V, V = wr := ⟨_, rfl⟩
              have HD8 : Hid (∀ X, Below V.heap.size V X → X.cell? ⟨gb, 0 + jq * 88 + 87, none⟩ = some (.int .i64 0)) := fun X k => by rw [hV] at k; exact cell_be hd8 k
              have HRC : Hid (∀ X, Below V.heap.size V X → X.rangeAt gb (0 + jq * 88) bq.c.cells) := fun X k j u hu => by
                rw [hV] at k
                have := range_be hrgb k (0 + j) u (Bk.at_c bq j u hu)
                rwa [Nat.zero_add j] at this
              have HRQ : Hid (∀ X, Below V.heap.size V X → X.rangeAt g4 (o4 + j * 90 + 1) q.c.cells) := fun X k i u hu => by
                rw [hV] at k
                have := range_be hrq k (1 + i) u (Pn.at_c q i u hu)
                rwa [← Nat.add_assoc] at this
              clear hq hqm z1 z2 z3 z4 z5 z6 z7 hjq hrq hjk hrb hlb hrgb hset hd8
              go_upto_region 61 with (refine wpList_ixL tPs tP (.tmp 320) (.tmp 321) rfl g4 o4 m k4 j 90 rfl rfl hj Try.underlying42 info_P rfl ?_; simp only [Act.put, List.setIfInBounds_toArray, List.set_cons_zero, List.set_cons_succ])
              rw [← hV] at OZ P4 ⊢
              have hb1 := Below.refl V.heap.size V
              clear hV c0
              refine wp_named fun a0 ha0 => ?_
              have hsz : a0.tmps.size = 360 := by rw [ha0]; rfl
              have zs6 : a0.eval (.tmp 6) = .slice (some ⟨gb, 0, none⟩) k cb := by rw [ha0]; rfl
              have zs23 : a0.eval (.tmp 23) = .slice (some ⟨g4, o4, none⟩) m k4 := by rw [ha0]; rfl
              have zs26 : a0.eval (.tmp 26) = .int .i64 (j : Int) := by rw [ha0]; rfl
              have zs27 : a0.eval (.tmp 27) = .int .i64 q.nr := by rw [ha0]; rfl
              obtain ⟨D, hD⟩ : ∃ D : List (Tmp × SP), D = [(325, SP.is (.int .i64 q.nr)), (326, SP.is (.bool false)), (327, SP.is (.bool false)), (328, SP.is (.int .i64 q.nr)), (329, SP.is (.slice (some ⟨gb, 0, none⟩) k cb)), (330, SP.is (.int .i64 (k : Int))), (331, SP.is (.bool false)), (332, SP.is (.bool false)), (333, SP.is (.bool false)), (334, SP.is (.slice (some ⟨gb, 0, none⟩) k cb)), (335, SP.is (.int .i64 q.nr)), (336, SP.is (.int .i64 (jq : Int))), (337, SP.is (.pointer (some ⟨gb, 0 + jq * 88, none⟩))), (338, SP.is (.pointer (some ⟨gb, 0 + jq * 88 + 87, none⟩))), (339, SP.is (.int .i64 0)), (340, SP.is (.bool false)), (341, SP.is (.bool false)), (342, SP.is (.bool false)), (343, SP.is (.slice (some ⟨gb, 0, none⟩) k cb)), (344, SP.is (.int .i64 q.nr)), (345, SP.is (.int .i64 (jq : Int))), (346, SP.is (.pointer (some ⟨gb, 0 + jq * 88, none⟩))), (347, SP.is (.pointer (some ⟨gb, 0 + jq * 88, none⟩))), (348, SP.is (.agg bq.c.cells.toArray)), (349, SP.is (.slice (some ⟨g4, o4, none⟩) m k4)), (350, SP.is (.int .i64 (j : Int))), (351, SP.is (.pointer (some ⟨g4, o4 + j * 90, none⟩))), (352, SP.is (.pointer (some ⟨g4, o4 + j * 90 + 1, none⟩))), (353, SP.is (.agg q.c.cells.toArray)), (354, SP.is (.bool false)), (355, SP.is (.bool false))] := ⟨_, rfl⟩
              refine wp_region_down (by kernel_rfl) (fun listed ac W => listed.size = 31 ∧ Fp D a0 listed ac W ∧ Below V.heap.size V W) ?_ ?_ ?_
              · exact ⟨by simp, Fp.start D a0 _ _, Below.drew hb1⟩
              · clear ha0 hb1  
                intro listed ac W k hI hdn hk
                obtain ⟨hl, hF, hb1⟩ := hI
                have hk1 : k < 31 := List.mem_range.1 (List.mem_filter.1 hk).1
                have hl2 : ∀ j, (listed.setIfInBounds j true).size = 31 := fun j => by rw [Array.size_setIfInBounds]; exact hl
                rcases (show k = 0 ∨ k = 1 ∨ k = 2 ∨ k = 3 ∨ k = 4 ∨ k = 5 ∨ k = 6 ∨ k = 7 ∨ k = 8 ∨ k = 9 ∨ k = 10 ∨ k = 11 ∨ k = 12 ∨ k = 13 ∨ k = 14 ∨ k = 15 ∨ k = 16 ∨ k = 17 ∨ k = 18 ∨ k = 19 ∨ k = 20 ∨ k = 21 ∨ k = 22 ∨ k = 23 ∨ k = 24 ∨ k = 25 ∨ k = 26 ∨ k = 27 ∨ k = 28 ∨ k = 29 ∨ k = 30 by omega) with rfl | rfl | rfl | rfl | rfl | rfl | rfl | rfl | rfl | rfl | rfl | rfl | rfl | rfl | rfl | rfl | rfl | rfl | rfl | rfl | rfl | rfl | rfl | rfl | rfl | rfl | rfl | rfl | rfl | rfl | rfl
                · have hk3 := hk
                  exact wpOp_plain rfl rfl (wp_move_v (ac.eval (.tmp 27)) rfl rfl ⟨hl2 0, (hF.put 0 325 (SP.is (.int .i64 q.nr)) (ac.eval (.tmp 27)) (by rw [hD]; rfl) (((hF.keep 27 (by rw [hD]; rfl)).trans zs27)) (by rw [hD]; rfl) (by rw [hsz]; decide) (by rw [hl]; decide)), hb1⟩)
                · have hk3 := hk
                  have e0 := (hF.done 0 (325, SP.is (.int .i64 q.nr)) (by rw [hD]; rfl) (ready_dep hk 0 (by kernel_rfl)))
                  exact wpOp_plain rfl rfl (wp_lssI rfl rfl q.nr 1 false e0 rfl HF1.out ⟨hl2 1, (hF.put 1 326 (SP.is (.bool false)) (.bool false) (by rw [hD]; rfl) rfl (by rw [hD]; rfl) (by rw [hsz]; decide) (by rw [hl]; decide)), hb1⟩)
                · have hk3 := hk
                  exact wpOp_plain rfl rfl (wp_move_v (ac.eval (.tmp 326)) rfl rfl ⟨hl2 2, (hF.put 2 327 (SP.is (.bool false)) (ac.eval (.tmp 326)) (by rw [hD]; rfl) ((hF.done 1 (326, SP.is (.bool false)) (by rw [hD]; rfl) (ready_dep hk 1 (by kernel_rfl)))) (by rw [hD]; rfl) (by rw [hsz]; decide) (by rw [hl]; decide)), hb1⟩)
                · have hk3 := hk
                  exact wpOp_wanted rfl (wanted_g (g := 2) (b := false) rfl rfl (hF.done 2 (327, SP.is (.bool false)) (by rw [hD]; rfl) (ready_dep hk 2 (by kernel_rfl))) (by rw [hF.size, hsz]; decide)) (wp_move_v (ac.eval (.tmp 27)) rfl rfl ⟨hl2 3, (hF.put 3 328 (SP.is (.int .i64 q.nr)) (ac.eval (.tmp 27)) (by rw [hD]; rfl) (((hF.keep 27 (by rw [hD]; rfl)).trans zs27)) (by rw [hD]; rfl) (by rw [hsz]; decide) (by rw [hl]; decide)), hb1⟩)
                · have hk3 := hk
                  exact wpOp_wanted rfl (wanted_g (g := 2) (b := false) rfl rfl (hF.done 2 (327, SP.is (.bool false)) (by rw [hD]; rfl) (ready_dep hk 2 (by kernel_rfl))) (by rw [hF.size, hsz]; decide)) (wp_move_v (ac.eval (.tmp 6)) rfl rfl ⟨hl2 4, (hF.put 4 329 (SP.is (.slice (some ⟨gb, 0, none⟩) k cb)) (ac.eval (.tmp 6)) (by rw [hD]; rfl) (((hF.keep 6 (by rw [hD]; rfl)).trans zs6)) (by rw [hD]; rfl) (by rw [hsz]; decide) (by rw [hl]; decide)), hb1⟩)
                · have hk3 := hk
                  have e0 := (hF.done 4 (329, SP.is (.slice (some ⟨gb, 0, none⟩) k cb)) (by rw [hD]; rfl) (ready_dep hk 4 (by kernel_rfl)))
                  exact wpOp_wanted rfl (wanted_g (g := 2) (b := false) rfl rfl (hF.done 2 (327, SP.is (.bool false)) (by rw [hD]; rfl) (ready_dep hk 2 (by kernel_rfl))) (by rw [hF.size, hsz]; decide)) (wp_lenL tPos tPo (some ⟨gb, 0, none⟩) k cb rfl Try.underlying59 e0 ⟨hl2 5, (hF.put 5 330 (SP.is (.int .i64 (k : Int))) (.int .i64 (k : Int)) (by rw [hD]; rfl) rfl (by rw [hD]; rfl) (by rw [hsz]; decide) (by rw [hl]; decide)), hb1⟩)
                · have hk3 := hk
                  have e0 := (hF.done 3 (328, SP.is (.int .i64 q.nr)) (by rw [hD]; rfl) (ready_dep hk 3 (by kernel_rfl)))
                  have e1 := (hF.done 5 (330, SP.is (.int .i64 (k : Int))) (by rw [hD]; rfl) (ready_dep hk 5 (by kernel_rfl)))
                  exact wpOp_wanted rfl (wanted_g (g := 2) (b := false) rfl rfl (hF.done 2 (327, SP.is (.bool false)) (by rw [hD]; rfl) (ready_dep hk 2 (by kernel_rfl))) (by rw [hF.size, hsz]; decide)) (wp_gtrI rfl rfl q.nr (k : Int) false e0 e1 HF2.out ⟨hl2 6, (hF.put 6 331 (SP.is (.bool false)) (.bool false) (by rw [hD]; rfl) rfl (by rw [hD]; rfl) (by rw [hsz]; decide) (by rw [hl]; decide)), hb1⟩)
                · have hk3 := hk
                  have e0 := (hF.done 2 (327, SP.is (.bool false)) (by rw [hD]; rfl) (ready_dep hk 2 (by kernel_rfl)))
                  have e1 := (hF.done 6 (331, SP.is (.bool false)) (by rw [hD]; rfl) (ready_dep hk 6 (by kernel_rfl)))
                  exact wpOp_plain rfl rfl (wp_pickF (.bool false) rfl e0 e1 ⟨hl2 7, (hF.put 7 332 (SP.is (.bool false)) (.bool false) (by rw [hD]; rfl) rfl (by rw [hD]; rfl) (by rw [hsz]; decide) (by rw [hl]; decide)), hb1⟩)
                · have hk3 := hk
                  exact wpOp_plain rfl rfl (wp_move_v (ac.eval (.tmp 332)) rfl rfl ⟨hl2 8, (hF.put 8 333 (SP.is (.bool false)) (ac.eval (.tmp 332)) (by rw [hD]; rfl) ((hF.done 7 (332, SP.is (.bool false)) (by rw [hD]; rfl) (ready_dep hk 7 (by kernel_rfl)))) (by rw [hD]; rfl) (by rw [hsz]; decide) (by rw [hl]; decide)), hb1⟩)
                · have hk3 := hk
                  exact wpOp_wanted rfl (wanted_g (g := 8) (b := false) rfl rfl (hF.done 8 (333, SP.is (.bool false)) (by rw [hD]; rfl) (ready_dep hk 8 (by kernel_rfl))) (by rw [hF.size, hsz]; decide)) (wp_move_v (ac.eval (.tmp 6)) rfl rfl ⟨hl2 9, (hF.put 9 334 (SP.is (.slice (some ⟨gb, 0, none⟩) k cb)) (ac.eval (.tmp 6)) (by rw [hD]; rfl) (((hF.keep 6 (by rw [hD]; rfl)).trans zs6)) (by rw [hD]; rfl) (by rw [hsz]; decide) (by rw [hl]; decide)), hb1⟩)
                · have hk3 := hk
                  exact wpOp_wanted rfl (wanted_g (g := 8) (b := false) rfl rfl (hF.done 8 (333, SP.is (.bool false)) (by rw [hD]; rfl) (ready_dep hk 8 (by kernel_rfl))) (by rw [hF.size, hsz]; decide)) (wp_move_v (ac.eval (.tmp 27)) rfl rfl ⟨hl2 10, (hF.put 10 335 (SP.is (.int .i64 q.nr)) (ac.eval (.tmp 27)) (by rw [hD]; rfl) (((hF.keep 27 (by rw [hD]; rfl)).trans zs27)) (by rw [hD]; rfl) (by rw [hsz]; decide) (by rw [hl]; decide)), hb1⟩)
                · have hk3 := hk
                  have e0 := (hF.done 10 (335, SP.is (.int .i64 q.nr)) (by rw [hD]; rfl) (ready_dep hk 10 (by kernel_rfl)))
                  exact wpOp_wanted rfl (wanted_g (g := 8) (b := false) rfl rfl (hF.done 8 (333, SP.is (.bool false)) (by rw [hD]; rfl) (ready_dep hk 8 (by kernel_rfl))) (by rw [hF.size, hsz]; decide)) (wp_subI rfl rfl q.nr 1 (jq : Int) e0 rfl HSB.out ⟨hl2 11, (hF.put 11 336 (SP.is (.int .i64 (jq : Int))) (.int .i64 (jq : Int)) (by rw [hD]; rfl) rfl (by rw [hD]; rfl) (by rw [hsz]; decide) (by rw [hl]; decide)), hb1⟩)
                · have hk3 := hk
                  have e0 := (hF.done 9 (334, SP.is (.slice (some ⟨gb, 0, none⟩) k cb)) (by rw [hD]; rfl) (ready_dep hk 9 (by kernel_rfl)))
                  have e1 := (hF.done 11 (336, SP.is (.int .i64 (jq : Int))) (by rw [hD]; rfl) (ready_dep hk 11 (by kernel_rfl)))
                  exact wpOp_wanted rfl (wanted_g (g := 8) (b := false) rfl rfl (hF.done 8 (333, SP.is (.bool false)) (by rw [hD]; rfl) (ready_dep hk 8 (by kernel_rfl))) (by rw [hF.size, hsz]; decide)) (wp_ixL tPos tPo rfl gb 0 k cb jq 88 e0 e1 HJK.out Try.underlying59 info_Po ⟨hl2 12, (hF.put 12 337 (SP.is (.pointer (some ⟨gb, 0 + jq * 88, none⟩))) (.pointer (some ⟨gb, 0 + jq * 88, none⟩)) (by rw [hD]; rfl) rfl (by rw [hD]; rfl) (by rw [hsz]; decide) (by rw [hl]; decide)), hb1⟩)
                · have hk3 := hk
                  have e0 := (hF.done 12 (337, SP.is (.pointer (some ⟨gb, 0 + jq * 88, none⟩))) (by rw [hD]; rfl) (ready_dep hk 12 (by kernel_rfl)))
                  exact wpOp_wanted rfl (wanted_g (g := 8) (b := false) rfl rfl (hF.done 8 (333, SP.is (.bool false)) (by rw [hD]; rfl) (ready_dep hk 8 (by kernel_rfl))) (by rw [hF.size, hsz]; decide)) (wp_Po3 rfl gb (0 + jq * 88) e0 ⟨hl2 13, (hF.put 13 338 (SP.is (.pointer (some ⟨gb, 0 + jq * 88 + 87, none⟩))) (.pointer (some ⟨gb, 0 + jq * 88 + 87, none⟩)) (by rw [hD]; rfl) rfl (by rw [hD]; rfl) (by rw [hsz]; decide) (by rw [hl]; decide)), hb1⟩)
                · have hk3 := hk
                  have e0 := (hF.done 13 (338, SP.is (.pointer (some ⟨gb, 0 + jq * 88 + 87, none⟩))) (by rw [hD]; rfl) (ready_dep hk 13 (by kernel_rfl)))
                  exact wpOp_wanted rfl (wanted_g (g := 8) (b := false) rfl rfl (hF.done 8 (333, SP.is (.bool false)) (by rw [hD]; rfl) (ready_dep hk 8 (by kernel_rfl))) (by rw [hF.size, hsz]; decide)) (wp_ld1 gb (0 + jq * 88 + 87) (.int .i64 0) rfl e0 (ld_int W gb (0 + jq * 88 + 87) _ (HD8.out W hb1)) ⟨hl2 14, (hF.put 14 339 (SP.is (.int .i64 0)) (.int .i64 0) (by rw [hD]; rfl) rfl (by rw [hD]; rfl) (by rw [hsz]; decide) (by rw [hl]; decide)), hb1⟩)
                · have hk3 := hk
                  have e0 := (hF.done 14 (339, SP.is (.int .i64 0)) (by rw [hD]; rfl) (ready_dep hk 14 (by kernel_rfl)))
                  exact wpOp_wanted rfl (wanted_g (g := 8) (b := false) rfl rfl (hF.done 8 (333, SP.is (.bool false)) (by rw [hD]; rfl) (ready_dep hk 8 (by kernel_rfl))) (by rw [hF.size, hsz]; decide)) (wp_neI rfl rfl 0 0 false e0 rfl (by decide) ⟨hl2 15, (hF.put 15 340 (SP.is (.bool false)) (.bool false) (by rw [hD]; rfl) rfl (by rw [hD]; rfl) (by rw [hsz]; decide) (by rw [hl]; decide)), hb1⟩)
                · have hk3 := hk
                  have e0 := (hF.done 8 (333, SP.is (.bool false)) (by rw [hD]; rfl) (ready_dep hk 8 (by kernel_rfl)))
                  have e1 := (hF.done 15 (340, SP.is (.bool false)) (by rw [hD]; rfl) (ready_dep hk 15 (by kernel_rfl)))
                  exact wpOp_plain rfl rfl (wp_pickF (.bool false) rfl e0 e1 ⟨hl2 16, (hF.put 16 341 (SP.is (.bool false)) (.bool false) (by rw [hD]; rfl) rfl (by rw [hD]; rfl) (by rw [hsz]; decide) (by rw [hl]; decide)), hb1⟩)
                · have hk3 := hk
                  exact wpOp_plain rfl rfl (wp_move_v (ac.eval (.tmp 341)) rfl rfl ⟨hl2 17, (hF.put 17 342 (SP.is (.bool false)) (ac.eval (.tmp 341)) (by rw [hD]; rfl) ((hF.done 16 (341, SP.is (.bool false)) (by rw [hD]; rfl) (ready_dep hk 16 (by kernel_rfl)))) (by rw [hD]; rfl) (by rw [hsz]; decide) (by rw [hl]; decide)), hb1⟩)
                · have hk3 := hk
                  exact wpOp_wanted rfl (wanted_g (g := 17) (b := false) rfl rfl (hF.done 17 (342, SP.is (.bool false)) (by rw [hD]; rfl) (ready_dep hk 17 (by kernel_rfl))) (by rw [hF.size, hsz]; decide)) (wp_move_v (ac.eval (.tmp 6)) rfl rfl ⟨hl2 18, (hF.put 18 343 (SP.is (.slice (some ⟨gb, 0, none⟩) k cb)) (ac.eval (.tmp 6)) (by rw [hD]; rfl) (((hF.keep 6 (by rw [hD]; rfl)).trans zs6)) (by rw [hD]; rfl) (by rw [hsz]; decide) (by rw [hl]; decide)), hb1⟩)
                · have hk3 := hk
                  exact wpOp_wanted rfl (wanted_g (g := 17) (b := false) rfl rfl (hF.done 17 (342, SP.is (.bool false)) (by rw [hD]; rfl) (ready_dep hk 17 (by kernel_rfl))) (by rw [hF.size, hsz]; decide)) (wp_move_v (ac.eval (.tmp 27)) rfl rfl ⟨hl2 19, (hF.put 19 344 (SP.is (.int .i64 q.nr)) (ac.eval (.tmp 27)) (by rw [hD]; rfl) (((hF.keep 27 (by rw [hD]; rfl)).trans zs27)) (by rw [hD]; rfl) (by rw [hsz]; decide) (by rw [hl]; decide)), hb1⟩)
                · have hk3 := hk
                  have e0 := (hF.done 19 (344, SP.is (.int .i64 q.nr)) (by rw [hD]; rfl) (ready_dep hk 19 (by kernel_rfl)))
                  exact wpOp_wanted rfl (wanted_g (g := 17) (b := false) rfl rfl (hF.done 17 (342, SP.is (.bool false)) (by rw [hD]; rfl) (ready_dep hk 17 (by kernel_rfl))) (by rw [hF.size, hsz]; decide)) (wp_subI rfl rfl q.nr 1 (jq : Int) e0 rfl HSB.out ⟨hl2 20, (hF.put 20 345 (SP.is (.int .i64 (jq : Int))) (.int .i64 (jq : Int)) (by rw [hD]; rfl) rfl (by rw [hD]; rfl) (by rw [hsz]; decide) (by rw [hl]; decide)), hb1⟩)
                · have hk3 := hk
                  have e0 := (hF.done 18 (343, SP.is (.slice (some ⟨gb, 0, none⟩) k cb)) (by rw [hD]; rfl) (ready_dep hk 18 (by kernel_rfl)))
                  have e1 := (hF.done 20 (345, SP.is (.int .i64 (jq : Int))) (by rw [hD]; rfl) (ready_dep hk 20 (by kernel_rfl)))
                  exact wpOp_wanted rfl (wanted_g (g := 17) (b := false) rfl rfl (hF.done 17 (342, SP.is (.bool false)) (by rw [hD]; rfl) (ready_dep hk 17 (by kernel_rfl))) (by rw [hF.size, hsz]; decide)) (wp_ixL tPos tPo rfl gb 0 k cb jq 88 e0 e1 HJK.out Try.underlying59 info_Po ⟨hl2 21, (hF.put 21 346 (SP.is (.pointer (some ⟨gb, 0 + jq * 88, none⟩))) (.pointer (some ⟨gb, 0 + jq * 88, none⟩)) (by rw [hD]; rfl) rfl (by rw [hD]; rfl) (by rw [hsz]; decide) (by rw [hl]; decide)), hb1⟩)
                · have hk3 := hk
                  have e0 := (hF.done 21 (346, SP.is (.pointer (some ⟨gb, 0 + jq * 88, none⟩))) (by rw [hD]; rfl) (ready_dep hk 21 (by kernel_rfl)))
                  exact wpOp_wanted rfl (wanted_g (g := 17) (b := false) rfl rfl (hF.done 17 (342, SP.is (.bool false)) (by rw [hD]; rfl) (ready_dep hk 17 (by kernel_rfl))) (by rw [hF.size, hsz]; decide)) (wp_Po0 rfl gb (0 + jq * 88) e0 ⟨hl2 22, (hF.put 22 347 (SP.is (.pointer (some ⟨gb, 0 + jq * 88, none⟩))) (.pointer (some ⟨gb, 0 + jq * 88, none⟩)) (by rw [hD]; rfl) rfl (by rw [hD]; rfl) (by rw [hsz]; decide) (by rw [hl]; decide)), hb1⟩)
                · have hk3 := hk
                  have e0 := (hF.done 22 (347, SP.is (.pointer (some ⟨gb, 0 + jq * 88, none⟩))) (by rw [hD]; rfl) (ready_dep hk 22 (by kernel_rfl)))
                  exact wpOp_wanted rfl (wanted_g (g := 17) (b := false) rfl rfl (hF.done 17 (342, SP.is (.bool false)) (by rw [hD]; rfl) (ready_dep hk 17 (by kernel_rfl))) (by rw [hF.size, hsz]; decide)) (wp_load_mid tC (.tmp 347) rfl gb (0 + jq * 88) e0 bq.c.cells _ (HRC.out W hb1) Try.underlying25 rfl HIBC.out ⟨hl2 23, (hF.put 23 348 (SP.is (.agg bq.c.cells.toArray)) (.agg bq.c.cells.toArray) (by rw [hD]; rfl) rfl (by rw [hD]; rfl) (by rw [hsz]; decide) (by rw [hl]; decide)), hb1⟩)
                · have hk3 := hk
                  exact wpOp_wanted rfl (wanted_g (g := 17) (b := false) rfl rfl (hF.done 17 (342, SP.is (.bool false)) (by rw [hD]; rfl) (ready_dep hk 17 (by kernel_rfl))) (by rw [hF.size, hsz]; decide)) (wp_move_v (ac.eval (.tmp 23)) rfl rfl ⟨hl2 24, (hF.put 24 349 (SP.is (.slice (some ⟨g4, o4, none⟩) m k4)) (ac.eval (.tmp 23)) (by rw [hD]; rfl) (((hF.keep 23 (by rw [hD]; rfl)).trans zs23)) (by rw [hD]; rfl) (by rw [hsz]; decide) (by rw [hl]; decide)), hb1⟩)
                · have hk3 := hk
                  exact wpOp_wanted rfl (wanted_g (g := 17) (b := false) rfl rfl (hF.done 17 (342, SP.is (.bool false)) (by rw [hD]; rfl) (ready_dep hk 17 (by kernel_rfl))) (by rw [hF.size, hsz]; decide)) (wp_move_v (ac.eval (.tmp 26)) rfl rfl ⟨hl2 25, (hF.put 25 350 (SP.is (.int .i64 (j : Int))) (ac.eval (.tmp 26)) (by rw [hD]; rfl) (((hF.keep 26 (by rw [hD]; rfl)).trans zs26)) (by rw [hD]; rfl) (by rw [hsz]; decide) (by rw [hl]; decide)), hb1⟩)
                · have hk3 := hk
                  have e0 := (hF.done 24 (349, SP.is (.slice (some ⟨g4, o4, none⟩) m k4)) (by rw [hD]; rfl) (ready_dep hk 24 (by kernel_rfl)))
                  have e1 := (hF.done 25 (350, SP.is (.int .i64 (j : Int))) (by rw [hD]; rfl) (ready_dep hk 25 (by kernel_rfl)))
                  exact wpOp_wanted rfl (wanted_g (g := 17) (b := false) rfl rfl (hF.done 17 (342, SP.is (.bool false)) (by rw [hD]; rfl) (ready_dep hk 17 (by kernel_rfl))) (by rw [hF.size, hsz]; decide)) (wp_ixL tPs tP rfl g4 o4 m k4 j 90 e0 e1 hj Try.underlying42 info_P ⟨hl2 26, (hF.put 26 351 (SP.is (.pointer (some ⟨g4, o4 + j * 90, none⟩))) (.pointer (some ⟨g4, o4 + j * 90, none⟩)) (by rw [hD]; rfl) rfl (by rw [hD]; rfl) (by rw [hsz]; decide) (by rw [hl]; decide)), hb1⟩)
                · have hk3 := hk
                  have e0 := (hF.done 26 (351, SP.is (.pointer (some ⟨g4, o4 + j * 90, none⟩))) (by rw [hD]; rfl) (ready_dep hk 26 (by kernel_rfl)))
                  exact wpOp_wanted rfl (wanted_g (g := 17) (b := false) rfl rfl (hF.done 17 (342, SP.is (.bool false)) (by rw [hD]; rfl) (ready_dep hk 17 (by kernel_rfl))) (by rw [hF.size, hsz]; decide)) (wp_P1 rfl g4 (o4 + j * 90) e0 ⟨hl2 27, (hF.put 27 352 (SP.is (.pointer (some ⟨g4, o4 + j * 90 + 1, none⟩))) (.pointer (some ⟨g4, o4 + j * 90 + 1, none⟩)) (by rw [hD]; rfl) rfl (by rw [hD]; rfl) (by rw [hsz]; decide) (by rw [hl]; decide)), hb1⟩)
                · have hk3 := hk
                  have e0 := (hF.done 27 (352, SP.is (.pointer (some ⟨g4, o4 + j * 90 + 1, none⟩))) (by rw [hD]; rfl) (ready_dep hk 27 (by kernel_rfl)))
                  exact wpOp_wanted rfl (wanted_g (g := 17) (b := false) rfl rfl (hF.done 17 (342, SP.is (.bool false)) (by rw [hD]; rfl) (ready_dep hk 17 (by kernel_rfl))) (by rw [hF.size, hsz]; decide)) (wp_load_mid tC (.tmp 352) rfl g4 (o4 + j * 90 + 1) e0 q.c.cells _ (HRQ.out W hb1) Try.underlying25 rfl HIQC.out ⟨hl2 28, (hF.put 28 353 (SP.is (.agg q.c.cells.toArray)) (.agg q.c.cells.toArray) (by rw [hD]; rfl) rfl (by rw [hD]; rfl) (by rw [hsz]; decide) (by rw [hl]; decide)), hb1⟩)
                · have hk3 := hk
                  have e0 := (hF.done 23 (348, SP.is (.agg bq.c.cells.toArray)) (by rw [hD]; rfl) (ready_dep hk 23 (by kernel_rfl)))
                  have e1 := (hF.done 28 (353, SP.is (.agg q.c.cells.toArray)) (by rw [hD]; rfl) (ready_dep hk 28 (by kernel_rfl)))
                  exact wpOp_wanted rfl (wanted_g (g := 17) (b := false) rfl rfl (hF.done 17 (342, SP.is (.bool false)) (by rw [hD]; rfl) (ready_dep hk 17 (by kernel_rfl))) (by rw [hF.size, hsz]; decide)) (wp_neCm (.tmp 348) (.tmp 353) _ rfl bq.c q.c HBWq.out.c HQW.out.c e0 e1 false HNQ.out ⟨hl2 29, (hF.put 29 354 (SP.is (.bool false)) (.bool false) (by rw [hD]; rfl) rfl (by rw [hD]; rfl) (by rw [hsz]; decide) (by rw [hl]; decide)), hb1⟩)
                · have hk3 := hk
                  have e0 := (hF.done 17 (342, SP.is (.bool false)) (by rw [hD]; rfl) (ready_dep hk 17 (by kernel_rfl)))
                  have e1 := (hF.done 29 (354, SP.is (.bool false)) (by rw [hD]; rfl) (ready_dep hk 29 (by kernel_rfl)))
                  exact wpOp_plain rfl rfl (wp_pickF (.bool false) rfl e0 e1 ⟨hl2 30, (hF.put 30 355 (SP.is (.bool false)) (.bool false) (by rw [hD]; rfl) rfl (by rw [hD]; rfl) (by rw [hsz]; decide) (by rw [hl]; decide)), hb1⟩)
              · clear hb1  
                intro listed ac W hI hr
                obtain ⟨hl, hF, hb1⟩ := hI
                have hall := all_listed (by kernel_rfl) hl hr
                have h325 : ac.eval (.tmp 325) = .int .i64 q.nr := hF.done 0 (325, SP.is (.int .i64 q.nr)) (by rw [hD]; rfl) (hall 0 (by decide))
                have h326 : ac.eval (.tmp 326) = .bool false := hF.done 1 (326, SP.is (.bool false)) (by rw [hD]; rfl) (hall 1 (by decide))
                have h327 : ac.eval (.tmp 327) = .bool false := hF.done 2 (327, SP.is (.bool false)) (by rw [hD]; rfl) (hall 2 (by decide))
                have h328 : ac.eval (.tmp 328) = .int .i64 q.nr := hF.done 3 (328, SP.is (.int .i64 q.nr)) (by rw [hD]; rfl) (hall 3 (by decide))
                have h329 : ac.eval (.tmp 329) = .slice (some ⟨gb, 0, none⟩) k cb := hF.done 4 (329, SP.is (.slice (some ⟨gb, 0, none⟩) k cb)) (by rw [hD]; rfl) (hall 4 (by decide))
                have h330 : ac.eval (.tmp 330) = .int .i64 (k : Int) := hF.done 5 (330, SP.is (.int .i64 (k : Int))) (by rw [hD]; rfl) (hall 5 (by decide))
                have h331 : ac.eval (.tmp 331) = .bool false := hF.done 6 (331, SP.is (.bool false)) (by rw [hD]; rfl) (hall 6 (by decide))
                have h332 : ac.eval (.tmp 332) = .bool false := hF.done 7 (332, SP.is (.bool false)) (by rw [hD]; rfl) (hall 7 (by decide))
                have h333 : ac.eval (.tmp 333) = .bool false := hF.done 8 (333, SP.is (.bool false)) (by rw [hD]; rfl) (hall 8 (by decide))
                have h334 : ac.eval (.tmp 334) = .slice (some ⟨gb, 0, none⟩) k cb := hF.done 9 (334, SP.is (.slice (some ⟨gb, 0, none⟩) k cb)) (by rw [hD]; rfl) (hall 9 (by decide))
                have h335 : ac.eval (.tmp 335) = .int .i64 q.nr := hF.done 10 (335, SP.is (.int .i64 q.nr)) (by rw [hD]; rfl) (hall 10 (by decide))
                have h336 : ac.eval (.tmp 336) = .int .i64 (jq : Int) := hF.done 11 (336, SP.is (.int .i64 (jq : Int))) (by rw [hD]; rfl) (hall 11 (by decide))
                have h337 : ac.eval (.tmp 337) = .pointer (some ⟨gb, 0 + jq * 88, none⟩) := hF.done 12 (337, SP.is (.pointer (some ⟨gb, 0 + jq * 88, none⟩))) (by rw [hD]; rfl) (hall 12 (by decide))
                have h338 : ac.eval (.tmp 338) = .pointer (some ⟨gb, 0 + jq * 88 + 87, none⟩) := hF.done 13 (338, SP.is (.pointer (some ⟨gb, 0 + jq * 88 + 87, none⟩))) (by rw [hD]; rfl) (hall 13 (by decide))
                have h339 : ac.eval (.tmp 339) = .int .i64 0 := hF.done 14 (339, SP.is (.int .i64 0)) (by rw [hD]; rfl) (hall 14 (by decide))
                have h340 : ac.eval (.tmp 340) = .bool false := hF.done 15 (340, SP.is (.bool false)) (by rw [hD]; rfl) (hall 15 (by decide))
                have h341 : ac.eval (.tmp 341) = .bool false := hF.done 16 (341, SP.is (.bool false)) (by rw [hD]; rfl) (hall 16 (by decide))
                have h342 : ac.eval (.tmp 342) = .bool false := hF.done 17 (342, SP.is (.bool false)) (by rw [hD]; rfl) (hall 17 (by decide))
                have h343 : ac.eval (.tmp 343) = .slice (some ⟨gb, 0, none⟩) k cb := hF.done 18 (343, SP.is (.slice (some ⟨gb, 0, none⟩) k cb)) (by rw [hD]; rfl) (hall 18 (by decide))
                have h344 : ac.eval (.tmp 344) = .int .i64 q.nr := hF.done 19 (344, SP.is (.int .i64 q.nr)) (by rw [hD]; rfl) (hall 19 (by decide))
                have h345 : ac.eval (.tmp 345) = .int .i64 (jq : Int) := hF.done 20 (345, SP.is (.int .i64 (jq : Int))) (by rw [hD]; rfl) (hall 20 (by decide))
                have h346 : ac.eval (.tmp 346) = .pointer (some ⟨gb, 0 + jq * 88, none⟩) := hF.done 21 (346, SP.is (.pointer (some ⟨gb, 0 + jq * 88, none⟩))) (by rw [hD]; rfl) (hall 21 (by decide))
                have h347 : ac.eval (.tmp 347) = .pointer (some ⟨gb, 0 + jq * 88, none⟩) := hF.done 22 (347, SP.is (.pointer (some ⟨gb, 0 + jq * 88, none⟩))) (by rw [hD]; rfl) (hall 22 (by decide))
                have h348 : ac.eval (.tmp 348) = .agg bq.c.cells.toArray := hF.done 23 (348, SP.is (.agg bq.c.cells.toArray)) (by rw [hD]; rfl) (hall 23 (by decide))
                have h349 : ac.eval (.tmp 349) = .slice (some ⟨g4, o4, none⟩) m k4 := hF.done 24 (349, SP.is (.slice (some ⟨g4, o4, none⟩) m k4)) (by rw [hD]; rfl) (hall 24 (by decide))
                have h350 : ac.eval (.tmp 350) = .int .i64 (j : Int) := hF.done 25 (350, SP.is (.int .i64 (j : Int))) (by rw [hD]; rfl) (hall 25 (by decide))
                have h351 : ac.eval (.tmp 351) = .pointer (some ⟨g4, o4 + j * 90, none⟩) := hF.done 26 (351, SP.is (.pointer (some ⟨g4, o4 + j * 90, none⟩))) (by rw [hD]; rfl) (hall 26 (by decide))
                have h352 : ac.eval (.tmp 352) = .pointer (some ⟨g4, o4 + j * 90 + 1, none⟩) := hF.done 27 (352, SP.is (.pointer (some ⟨g4, o4 + j * 90 + 1, none⟩))) (by rw [hD]; rfl) (hall 27 (by decide))
                have h353 : ac.eval (.tmp 353) = .agg q.c.cells.toArray := hF.done 28 (353, SP.is (.agg q.c.cells.toArray)) (by rw [hD]; rfl) (hall 28 (by decide))
                have h354 : ac.eval (.tmp 354) = .bool false := hF.done 29 (354, SP.is (.bool false)) (by rw [hD]; rfl) (hall 29 (by decide))
                have h355 : ac.eval (.tmp 355) = .bool false := hF.done 30 (355, SP.is (.bool false)) (by rw [hD]; rfl) (hall 30 (by decide))
                have ea := hF.lay [(325, .int .i64 q.nr), (326, .bool false), (327, .bool false), (328, .int .i64 q.nr), (329, .slice (some ⟨gb, 0, none⟩) k cb), (330, .int .i64 (k : Int)), (331, .bool false), (332, .bool false), (333, .bool false), (334, .slice (some ⟨gb, 0, none⟩) k cb), (335, .int .i64 q.nr), (336, .int .i64 (jq : Int)), (337, .pointer (some ⟨gb, 0 + jq * 88, none⟩)), (338, .pointer (some ⟨gb, 0 + jq * 88 + 87, none⟩)), (339, .int .i64 0), (340, .bool false), (341, .bool false), (342, .bool false), (343, .slice (some ⟨gb, 0, none⟩) k cb), (344, .int .i64 q.nr), (345, .int .i64 (jq : Int)), (346, .pointer (some ⟨gb, 0 + jq * 88, none⟩)), (347, .pointer (some ⟨gb, 0 + jq * 88, none⟩)), (348, .agg bq.c.cells.toArray), (349, .slice (some ⟨g4, o4, none⟩) m k4), (350, .int .i64 (j : Int)), (351, .pointer (some ⟨g4, o4 + j * 90, none⟩)), (352, .pointer (some ⟨g4, o4 + j * 90 + 1, none⟩)), (353, .agg q.c.cells.toArray), (354, .bool false), (355, .bool false)] (by rw [hD, hsz]; rfl) (by simp only [List.forall_mem_cons, List.not_mem_nil, false_implies, implies_true, and_true]; exact ⟨h325, h326, h327, h328, h329, h330, h331, h332, h333, h334, h335, h336, h337, h338, h339, h340, h341, h342, h343, h344, h345, h346, h347, h348, h349, h350, h351, h352, h353, h354, h355⟩)
                rw [ha0] at ea
                simp only [List.foldl_cons, List.foldl_nil, List.setIfInBounds_toArray, List.set_cons_zero, List.set_cons_succ] at ea
                clear hF hall hr hl hD  zs6 zs23 zs26 zs27 ha0 hsz h325 h326 h327 h328 h329 h330 h331 h332 h333 h334 h335 h336 h337 h338 h339 h340 h341 h342 h343 h344 h345 h346 h347 h348 h349 h350 h351 h352 h353 h354 h355
                subst ea
                have OW : Hid (Oc w W [(w.heap.size, M, 37)] [(p, v, (t : Int), S)] bk (some ⟨gb, 0, none⟩) k cb) := OZ.out.below hb1
                have PW4 : Hid (Pr W (some ⟨g4, o4, none⟩) m S.pend) := P4.out.be hb1
                clear hb1 OZ P4 HD8 HRC HRQ
                go_wp2
                exact ⟨⟨j + 1, hj, by go_num, OW.out, PW4.out⟩, by simp [intOf]; omega⟩
    case pos =>
      have hlt2 : (t : Int) < (n : Int) := by omega
      obtain ⟨x, hx⟩ : ∃ x, rs[t]? = some x := ⟨_, List.getElem?_eq_getElem (by rw [HNR.out]; omega)⟩
      obtain ⟨hxo, b, o, rfl, hrg⟩ := HSS.out.get HH.out.hp.be hx
      have HRG : Hid (wr.rangeAt b (o + t * 94) x.cells) := hrg
      have HXO : Hid x.Ok := hxo
      have HXI : Hid ((Try.prog.info? 53).map (·.size) = some x.cells.length) := Sp16.info hxo
      have HIA : Hid ((Try.prog.info? tAd).map (·.size) = some (vB x.ad).length) := by show _ = _; rw [vB_length, hxo.a]; exact info_A
      have c67 : wr.cell? ⟨w.heap.size, 67, none⟩ = some (.slice (some ⟨b, o, none⟩) n cap) := (HH.out.hp.row _ (List.mem_cons_self ..)).cell 67 _ HM67.out
      have hok : S.Ok (t : Int) := (HH.out.hp.lad _ (List.mem_cons_self ..)).ok
      obtain ⟨S', hS'⟩ : ∃ S', S' = S.doS x := ⟨_, rfl⟩
      have HS' : Hid (S0.runS (rs.take (t + 1)) = S') := by show _ = _; rw [runS_succ S0 rs t x hx, ← hS, hS']
      have HOK2 : Hid (S'.Ok ((t + 1 : Nat) : Int)) := by rw [hS']; exact doS_ok hok (by omega) x hxo
      obtain ⟨m, hm⟩ : ∃ m, m = S.pend.length := ⟨_, rfl⟩
      have HPW : Hid (∀ q ∈ S.pend, q.Wf) := hok.pw
      have HML : Hid (S.pend.length = m) := hm.symm
      have HMB : Hid (m ≤ 1000000) := by show _ ≤ _; have := hok.pl; omega
      have HPN : Hid (∀ X p v, Ld X p v (t : Int) S → Calls Try.prog 22 #[.pointer (some ⟨p, 0, none⟩)] X fun r w' => ∃ A' c', r = .returned (.slice A' m c') ∧ Lw w' tP 90 (.slice A' m c') m (pcs S.pend) ∧ Fresh X.heap.size (.slice A' m c') ∧ Below X.heap.size X w') := fun X p v h => pending_any h m hm
      have HOKS : Hid (S.Ok (t : Int)) := hok
      have HKL : Hid (bk.length = k) := HH.out.kl
      obtain ⟨kd, hkd⟩ : ∃ k, x.kd = k := ⟨_, rfl⟩
      have HKD : Hid (x.kd = kd) := hkd
      have HSD : Hid (S' = S.doS x) := hS'
      clear hx hxo hrg hok hm hS' hS hkd
      go_upto_region 12 with (first
        | (refine wpList_ixL 35 53 (.tmp 59) (.tmp 60) rfl b o n cap t 94 rfl rfl htn Try.underlying35 info_St rfl ?_; simp only [Act.put, List.setIfInBounds_toArray, List.set_cons_zero, List.set_cons_succ])
        | (refine wpList_ldS rfl 53 (.tmp 61) rfl b (o + t * 94) rfl x.cells _ HRG.out Try.underlying53 rfl HXI.out ?_; simp only [Act.put, List.setIfInBounds_toArray, List.set_cons_zero, List.set_cons_succ])
        | (refine wpList_alSt rfl rfl ?_; intro Z0 q1 q2 q3; clear q3; have RA : Hid (Row Z0 wr.heap.size zSt.cells 53) := q1; have BA : Hid (Below wr.heap.size wr Z0) := q2; clear q1 q2; simp only [Act.put, List.setIfInBounds_toArray, List.set_cons_zero, List.set_cons_succ])
        | (refine wpList_stL rfl 53 (.tmp 9) (.tmp 62) rfl wr.heap.size x.cells zSt.cells 53 rfl rfl RA.out ((Sp16.len HXO.out).trans (Sp16.len zSt_ok).symm) HXI.out (all_one (Sp16.one x)) ?_; intro Z1 q1 q2; have HZ1 : Hid (Oc w Z1 [(wr.heap.size, x.cells, 53), (w.heap.size, M, 37)] [(p, v, (t : Int), S)] bk Ab k cb) := HH.out.addR (gro_newL BA.out (Nat.le_refl _) q2) q1 (Nat.le_refl _) (by decide); clear q1 q2 HH RA BA c67)
        | (go_at_call 22; refine Calls.mono (HPN.out _ _ _ (HZ1.out.hp.lad _ (List.mem_cons_self ..))) ?_; rintro e Z ⟨A1, k1, rfl, q1, q2, q3⟩; obtain ⟨R1, q4, q5⟩ := Lw.rowsT q1 HML.out HPW.out q2; have q6 := HZ1.out.addRs q3 q4; have HZ : Hid (Oc w Z (R1 ++ [(wr.heap.size, x.cells, 53), (w.heap.size, M, 37)]) [(p, v, (t : Int), S)] bk Ab k cb) := q6; have HR1 : Hid (∀ X, (∀ r ∈ R1, Row X r.1 r.2.1 r.2.2) → Pr X A1 m S.pend) := q5; have HK1 : Hid (m ≤ k1) := (by { obtain ⟨_, c9, e9, l9, _⟩ := Lw.form q1; cases e9; exact l9 }); have ck := (q6.hp.row _ (List.mem_append_right _ (List.mem_cons_self ..))).cell 0 _ (Sp16.at_kd x); rw [HKD.out] at ck; have c89 := (q6.hp.row _ (List.mem_append_right _ (List.mem_cons_self ..))).cell 89 _ (Sp16.at_ib HXO.out); have c90 := (q6.hp.row _ (List.mem_append_right _ (List.mem_cons_self ..))).cell 90 _ (Sp16.at_now HXO.out); have c91 := (q6.hp.row _ (List.mem_append_right _ (List.mem_cons_self ..))).cell 91 _ (Sp16.at_nr HXO.out); clear q1 q2 q3 q4 q5 q6 HZ1))
      rename_i K1 hK1 K0 hK0
      refine wp_frL (fun L0 hL0 => ?_)
      have HTL : Hid (∀ (l' : List Value) (w' : World), wipeL l' [false, false, true, false, false, false, true, true, false, false, false, true, true, true, true, true, true, true, true, true, true, false, false, false, false, false, false, false, false, false, false, false, false, false, false, false, false, false, false, false, false, false, false, false, false, false, false, false, false, false, false, false, false, false, false, false, false, false, false, false, false, false, false, false, false, true, true, true, true, true, true, true, true, true, true, true, true, true, true, true, true, true, true, true, true, true, true, true, true, true, true, true, true, true, true, true, true, true, true, true, true, true, true, true, true, true, true, true, true, true, true, true, true, true, true, true, true, true, true, true, true, true, true, true, true, true, true, true, true, true, true, true, true, true, true, true, true, true, true, true, true, true, true, true, true, true, true, true, true, true, true, true, true, true, true, true, true, true, true, true, true, true, true, true, true, true, true, true, true, true, true, true, true, true, true, true, true, true, true, true, true, true, true, true, true, true, true, true, true, true, true, true, true, true, true, true, true, true, true, true, true, true, true, true, true, true, true, true, true, true, true, true, true, true, true, true, true, true, true, true, true, true, true, true, true, true, true, true, true, true, true, true, true, true, true, true, true, true, true, true, true, true, true, true, true, true, true, true, true, true, true, true, true, true, true, true, true, true, true, true, true, true, true, true, true, true, true, true, true, true, true, true, true, true, true, true, true, true, true, true, true, true, true, true, false, false, false, false, false, false, false, false, false, false, false, false, false, false, false, false, false, false, false, false, false, false, false, false, false, false, false, false, false, false, false, false, false, false, false, false, false, false, false, false, false, false, false, false, false, false, false, false, false, false, false, false, false, false, false, false, false, false, false, false, false, false, false, false, false, false, false, false, false, false, false, false, false, false, false, false] = wipeL L0 [false, false, true, false, false, false, true, true, false, false, false, true, true, true, true, true, true, true, true, true, true, false, false, false, false, false, false, false, false, false, false, false, false, false, false, false, false, false, false, false, false, false, false, false, false, false, false, false, false, false, false, false, false, false, false, false, false, false, false, false, false, false, false, false, false, true, true, true, true, true, true, true, true, true, true, true, true, true, true, true, true, true, true, true, true, true, true, true, true, true, true, true, true, true, true, true, true, true, true, true, true, true, true, true, true, true, true, true, true, true, true, true, true, true, true, true, true, true, true, true, true, true, true, true, true, true, true, true, true, true, true, true, true, true, true, true, true, true, true, true, true, true, true, true, true, true, true, true, true, true, true, true, true, true, true, true, true, true, true, true, true, true, true, true, true, true, true, true, true, true, true, true, true, true, true, true, true, true, true, true, true, true, true, true, true, true, true, true, true, true, true, true, true, true, true, true, true, true, true, true, true, true, true, true, true, true, true, true, true, true, true, true, true, true, true, true, true, true, true, true, true, true, true, true, true, true, true, true, true, true, true, true, true, true, true, true, true, true, true, true, true, true, true, true, true, true, true, true, true, true, true, true, true, true, true, true, true, true, true, true, true, true, true, true, true, true, true, true, true, true, true, true, true, true, true, true, true, true, true, true, true, true, true, true, false, false, false, false, false, false, false, false, false, false, false, false, false, false, false, false, false, false, false, false, false, false, false, false, false, false, false, false, false, false, false, false, false, false, false, false, false, false, false, false, false, false, false, false, false, false, false, false, false, false, false, false, false, false, false, false, false, false, false, false, false, false, false, false, false, false, false, false, false, false, false, false, false, false, false, false] → l'.length = L0.length → (∃ (v9 : Value) (bk2 : List Bk) (Ab2 : Option Addr) (k2 cb2 : Nat) (cn2 : Int), l'.getD 6 undef = .slice Ab2 k2 cb2 ∧ l'.getD 7 undef = .int .i64 cn2 ∧ cn2 = S'.conf.n ∧ k2 ≤ t + 1 ∧ Oc w w' [(w.heap.size, M, 37)] [(p, v9, ((t + 1 : Nat) : Int), S')] bk2 Ab2 k2 cb2 ∧ Inv S' bk2 win) → K1 ⟨l'.toArray, []⟩ w') := by
        intro l' Y h1 h2 h3
        obtain ⟨v9, bk2, Ab2, k2, cb2, cn2, e6, e7, hcn, hk2, hoc, hinv⟩ := h3
        obtain ⟨f, hf⟩ : ∃ f : Nat → Value, f = fun k => l'.getD k undef := ⟨_, rfl⟩
        have e6' : f 6 = .slice Ab2 k2 cb2 := by rw [hf]; exact e6
        have e7' : f 7 = .int .i64 cn2 := by rw [hf]; exact e7
        rw [over_eq [false, false, true, false, false, false, true, true, false, false, false, true, true, true, true, true, true, true, true, true, true, false, false, false, false, false, false, false, false, false, false, false, false, false, false, false, false, false, false, false, false, false, false, false, false, false, false, false, false, false, false, false, false, false, false, false, false, false, false, false, false, false, false, false, false, true, true, true, true, true, true, true, true, true, true, true, true, true, true, true, true, true, true, true, true, true, true, true, true, true, true, true, true, true, true, true, true, true, true, true, true, true, true, true, true, true, true, true, true, true, true, true, true, true, true, true, true, true, true, true, true, true, true, true, true, true, true, true, true, true, true, true, true, true, true, true, true, true, true, true, true, true, true, true, true, true, true, true, true, true, true, true, true, true, true, true, true, true, true, true, true, true, true, true, true, true, true, true, true, true, true, true, true, true, true, true, true, true, true, true, true, true, true, true, true, true, true, true, true, true, true, true, true, true, true, true, true, true, true, true, true, true, true, true, true, true, true, true, true, true, true, true, true, true, true, true, true, true, true, true, true, true, true, true, true, true, true, true, true, true, true, true, true, true, true, true, true, true, true, true, true, true, true, true, true, true, true, true, true, true, true, true, true, true, true, true, true, true, true, true, true, true, true, true, true, true, true, true, true, true, true, true, true, true, true, true, true, true, true, true, true, true, true, true, false, false, false, false, false, false, false, false, false, false, false, false, false, false, false, false, false, false, false, false, false, false, false, false, false, false, false, false, false, false, false, false, false, false, false, false, false, false, false, false, false, false, false, false, false, false, false, false, false, false, false, false, false, false, false, false, false, false, false, false, false, false, false, false, false, false, false, false, false, false, false, false, false, false, false, false] L0 l' 0 f h2 (fun k => by rw [Nat.zero_add, hf]) h1, hL0]
        simp only [overL, cond_true, cond_false, Nat.reduceAdd]
        rw [e6', e7']
        have OY : Hid (Oc w Y [(w.heap.size, M, 37)] [(p, v9, ((t + 1 : Nat) : Int), S')] bk2 Ab2 k2 cb2) := hoc
        have HIN2 : Hid (Inv S' bk2 win) := hinv
        have HCN2 : Hid (cn2 = S'.conf.n) := hcn
        have HK2 : Hid (k2 ≤ t + 1) := hk2
        clear h1 h2 e6 e7 hcn hk2 hoc hinv hf e6' e7' hL0 hK0 HZ ck c89 c90 c91
        have c66 : Y.cell? ⟨w.heap.size, 66, none⟩ = some (.int .i64 win) := (OY.out.hp.row _ (List.mem_cons_self ..)).cell 66 _ HM66.out
        have HSH : Hid (∀ X p v, Ld X p v ((t + 1 : Nat) : Int) S' → Calls Try.prog 29 #[.pointer (some ⟨p, 0, none⟩), .int .i64 win] X fun e w' => e = .returned (.bool true) ∧ Below X.heap.size X w') := fun X p v h => shape_any h win HIN2.out.ch HIN2.out.wi
        obtain ⟨cg, hcg⟩ : ∃ c, c = S'.conf := ⟨_, rfl⟩
        have HCGW : Hid cg.Wf := by rw [hcg]; exact HOK2.out.cf
        have HCGN : Hid (cg.n = cn2) := by show _ = _; rw [hcg, HCN2.out]
        have HICG : Hid ((Try.prog.info? tC).map (·.size) = some cg.cells.length) := Cm.info HCGW.out
        have HLCG : Hid (cg.cells.length = zC.cells.length) := (Cm.len HCGW.out).trans (Cm.len zC_wf).symm
        have HCF : Hid (∀ X p v, Ld X p v ((t + 1 : Nat) : Int) S' → Calls Try.prog 30 #[.pointer (some ⟨p, 0, none⟩)] X fun e w' => e = .returned (.agg cg.cells.toArray) ∧ Below X.heap.size X w') := fun X p v h => confirmed_any h cg hcg
        clear hcg
        refine hK1 _ _ ?_
        clear hK1
        go_wp2_with (first
          | (go_at_call 29; refine Calls.mono (HSH.out _ _ _ (OY.out.hp.lad _ (List.mem_cons_self ..))) ?_; rintro e Y1 ⟨rfl, q⟩; have OY1 : Hid (Oc w Y1 [(w.heap.size, M, 37)] [(p, v9, ((t + 1 : Nat) : Int), S')] bk2 Ab2 k2 cb2) := OY.out.below q; clear q OY c66)
          | (go_at_call 30; refine Calls.mono (HCF.out _ _ _ (OY1.out.hp.lad _ (List.mem_cons_self ..))) ?_; rintro e Y2 ⟨rfl, q⟩; have OY2 : Hid (Oc w Y2 [(w.heap.size, M, 37)] [(p, v9, ((t + 1 : Nat) : Int), S')] bk2 Ab2 k2 cb2) := OY1.out.below q; clear q OY1)
          | (refine wpList_alC rfl rfl ?_; intro Y3 q1 q2 q3; clear q3; have RT : Hid (Row Y3 Y2.heap.size zC.cells tC) := q1; have BT : Hid (Below Y2.heap.size Y2 Y3) := q2; clear q1 q2; simp only [Act.put, List.setIfInBounds_toArray, List.set_cons_zero, List.set_cons_succ])
          | (refine wpList_stL rfl tC (.tmp 22) (.tmp 289) rfl Y2.heap.size cg.cells zC.cells tC rfl rfl RT.out HLCG.out HICG.out (all_one (Cm.one cg)) ?_; intro Y4 q1 q2; have OY4 : Hid (Oc w Y4 [(w.heap.size, M, 37)] [(p, v9, ((t + 1 : Nat) : Int), S')] bk2 Ab2 k2 cb2) := OY2.out.below (gro_newL BT.out (Nat.le_refl _) q2); have c22 : Y4.cell? ⟨Y2.heap.size, 0, none⟩ = some (.int .i64 cn2) := by { have := q1.cell 0 _ (Cm.at_n cg); rw [HCGN.out] at this; exact this }; clear q1 q2 OY2 RT BT))
        exact ⟨⟨t + 1, v9, bk2, Ab2, cb2, k2, by omega, by go_num, HK2.out, rfl, by rw [HS'.out, ← HCN2.out], by rw [HS'.out]; exact OY4.out, by rw [HS'.out]; exact HIN2.out⟩, by simp [intOf]; omega⟩
      subst hL0
      clear hK1
      by_cases hk : kd = 1
      · subst hk
        have hst : S' = (S.post x.c x.ad x.ib x.now).1 := by rw [HSD.out, La.doS]; simp only [HKD.out]; rfl
        obtain ⟨N, E, hp⟩ : ∃ N E, S.post x.c x.ad x.ib x.now = (S', N, E) := ⟨(S.post x.c x.ad x.ib x.now).2.1, (S.post x.c x.ad x.ib x.now).2.2, by rw [hst]⟩
        by_cases hE : E = 0
        · subst hE
          obtain ⟨hN, hib, hinv, hcf⟩ := HIN.out.post HOKS.out HXO.out.c HXO.out.a hp
          rw [HKL.out] at hN
          subst hN
          have HINV : Hid (Inv S' (bk ++ [⟨x.c, x.ad, x.now, 0⟩]) win) := hinv
          have HCFE : Hid (S'.conf = S.conf) := hcf
          have HC : Hid (∀ X p v, Ld X p v (t : Int) S → Calls Try.prog 23 #[.pointer (some ⟨p, 0, none⟩), .agg x.c.cells.toArray, .agg (vB x.ad).toArray, .int .i64 x.ib, .int .i64 x.now] X fun e w' => e = .returned (.tuple #[.int .i64 ((k + 1 : Nat) : Int), .int .i64 0]) ∧ Tn X w' p v ((t + 1 : Nat) : Int) S') := fun X p v h => post_any h (by omega) (by omega) x.c HXO.out.c x.ad HXO.out.a x.ib x.now _ rfl S' _ 0 hp
          clear hp hst hinv hcf
          obtain ⟨bn, hbn⟩ : ∃ b : Bk, b = ⟨x.c, x.ad, x.now, 0⟩ := ⟨_, rfl⟩
          have HBW : Hid bn.Wf := by rw [hbn]; exact ⟨HXO.out.c, HXO.out.a⟩
          have HBB : Hid (Try.prog.built tPo [(0, .agg x.c.cells.toArray), (1, .agg (vB x.ad).toArray), (2, .int .i64 x.now)] = some bn.cells.toArray) := by have := built_bk bn HBW.out (by rw [hbn]); rw [hbn] at this ⊢; exact this
          rw [← hbn] at HINV
          have HKB : Hid ((k + 1) * 120 ≤ 140737488355328) := by show _ ≤ _; have := HKT.out; have := HN2.out; omega
          clear hbn
          go_wp2_with (first
            | (refine wpList_ldS rfl tC (.tmp 71) rfl wr.heap.size 3 rfl x.c.cells _ ((HZ.out.hp.row _ (List.mem_append_right _ (List.mem_cons_self ..))).range 3 _ (fun j u hj => Sp16.c_range x j u hj)) Try.underlying25 rfl (Cm.info HXO.out.c) ?_; simp only [Act.put, List.setIfInBounds_toArray, List.set_cons_zero, List.set_cons_succ])
            | (refine wpList_ldS rfl tAd (.tmp 73) rfl wr.heap.size 69 rfl (vB x.ad) _ ((HZ.out.hp.row _ (List.mem_append_right _ (List.mem_cons_self ..))).range 69 _ (fun j u hj => Sp16.a_range HXO.out j u hj)) Try.underlying51 rfl HIA.out ?_; simp only [Act.put, List.setIfInBounds_toArray, List.set_cons_zero, List.set_cons_succ])
            | (go_at_call 23; refine Calls.mono (HC.out _ _ _ (HZ.out.hp.lad _ (List.mem_cons_self ..))) ?_; rintro e Y0 ⟨rfl, q1⟩; obtain ⟨v9, q2⟩ := HZ.out.turn 0 rfl q1; have HY0 : Hid (Oc w Y0 (R1 ++ [(wr.heap.size, x.cells, 53), (w.heap.size, M, 37)]) [(p, v9, ((t + 1 : Nat) : Int), S')] bk Ab k cb) := q2; clear q2 HZ ck; clear q1 c89 c90 c91; have c90 := (HY0.out.hp.row _ (List.mem_append_right _ (List.mem_cons_self ..))).cell 90 _ (Sp16.at_now HXO.out))
            | (refine wpList_ldS rfl tC (.tmp 85) rfl wr.heap.size 3 rfl x.c.cells _ ((HY0.out.hp.row _ (List.mem_append_right _ (List.mem_cons_self ..))).range 3 _ (fun j u hj => Sp16.c_range x j u hj)) Try.underlying25 rfl (Cm.info HXO.out.c) ?_; simp only [Act.put, List.setIfInBounds_toArray, List.set_cons_zero, List.set_cons_succ])
            | (refine wpList_ldS rfl tAd (.tmp 87) rfl wr.heap.size 69 rfl (vB x.ad) _ ((HY0.out.hp.row _ (List.mem_append_right _ (List.mem_cons_self ..))).range 69 _ (fun j u hj => Sp16.a_range HXO.out j u hj)) Try.underlying51 rfl HIA.out ?_; simp only [Act.put, List.setIfInBounds_toArray, List.set_cons_zero, List.set_cons_succ])
            | (refine wpList_blt rfl tPo _ rfl [(0, .agg x.c.cells.toArray), (1, .agg (vB x.ad).toArray), (2, .int .i64 x.now)] rfl bn.cells HBB.out ?_; simp only [Act.put, List.setIfInBounds_toArray, List.set_cons_zero, List.set_cons_succ])
            | (refine wpList_bPo rfl (.tmp 91) rfl bn.cells (Bk.len HBW.out) rfl ?_; intro Y1 q1 q2; have RP : Hid (Row Y1 Y0.heap.size bn.cells tPo) := q1; have HY1 : Hid (Oc w Y1 (R1 ++ [(wr.heap.size, x.cells, 53), (w.heap.size, M, 37)]) [(p, v9, ((t + 1 : Nat) : Int), S')] bk Ab k cb) := HY0.out.below q2; clear q1 q2 HY0 c90; simp only [Act.put, List.setIfInBounds_toArray, List.set_cons_zero, List.set_cons_succ])
            | (refine wpList_appO HY1.out rfl (.tmp 84) (.tmp 92) rfl rfl Y0.heap.size bn HBW.out rfl RP.out.all HKB.out ?_; intro Ab2 cb2 Y q1; have HY : Hid (Oc w Y (R1 ++ [(wr.heap.size, x.cells, 53), (w.heap.size, M, 37)]) [(p, v9, ((t + 1 : Nat) : Int), S')] (bk ++ [bn]) Ab2 (k + 1) cb2) := q1; have c3 := (q1.hp.row _ (List.mem_append_right _ (List.mem_cons_self ..))).cell 3 _ (Sp16.c_range x 0 _ (Cm.at_n x.c)); have c89 := (q1.hp.row _ (List.mem_append_right _ (List.mem_cons_self ..))).cell 89 _ (Sp16.at_ib HXO.out); clear q1 HY1 RP; simp only [Act.put, List.setIfInBounds_toArray, List.set_cons_zero, List.set_cons_succ]))
          have OY : Hid (Oc w Y [(w.heap.size, M, 37)] [(p, v9, ((t + 1 : Nat) : Int), S')] (bk ++ [bn]) Ab2 (k + 1) cb2) := HY.out.dropR (fun r hr => by { obtain rfl := List.mem_singleton.1 hr; exact (List.mem_append_right _ (List.mem_cons_of_mem _ (List.mem_cons_self ..))) })
          exact HTL.out _ _ (by kernel_rfl) (by kernel_rfl) ⟨v9, (bk ++ [bn]), Ab2, (k + 1), cb2, cn, rfl, rfl, (by rw [HCFE.out]; exact HCN.out), (by have := HKT.out; omega), OY.out, HINV.out⟩
        · have hne2 : (E == 0) = false := by simpa using hE
          obtain ⟨hs2, hN0⟩ := post_ref hp hE
          subst hN0
          have HSS2 : Hid (S' = S) := hs2
          have HC : Hid (∀ X p v, Ld X p v (t : Int) S → Calls Try.prog 23 #[.pointer (some ⟨p, 0, none⟩), .agg x.c.cells.toArray, .agg (vB x.ad).toArray, .int .i64 x.ib, .int .i64 x.now] X fun e w' => e = .returned (.tuple #[.int .i64 0, .int .i64 E]) ∧ Tn X w' p v ((t + 1 : Nat) : Int) S') := fun X p v h => post_any h (by omega) (by omega) x.c HXO.out.c x.ad HXO.out.a x.ib x.now _ rfl S' 0 E hp
          clear hp hst hs2
          go_wp2_with (first
            | (refine wpList_ldS rfl tC (.tmp 71) rfl wr.heap.size 3 rfl x.c.cells _ ((HZ.out.hp.row _ (List.mem_append_right _ (List.mem_cons_self ..))).range 3 _ (fun j u hj => Sp16.c_range x j u hj)) Try.underlying25 rfl (Cm.info HXO.out.c) ?_; simp only [Act.put, List.setIfInBounds_toArray, List.set_cons_zero, List.set_cons_succ])
            | (refine wpList_ldS rfl tAd (.tmp 73) rfl wr.heap.size 69 rfl (vB x.ad) _ ((HZ.out.hp.row _ (List.mem_append_right _ (List.mem_cons_self ..))).range 69 _ (fun j u hj => Sp16.a_range HXO.out j u hj)) Try.underlying51 rfl HIA.out ?_; simp only [Act.put, List.setIfInBounds_toArray, List.set_cons_zero, List.set_cons_succ])
            | (go_at_call 23; refine Calls.mono (HC.out _ _ _ (HZ.out.hp.lad _ (List.mem_cons_self ..))) ?_; rintro e Y ⟨rfl, q1⟩; obtain ⟨v9, q2⟩ := HZ.out.turn 0 rfl q1; have HY : Hid (Oc w Y (R1 ++ [(wr.heap.size, x.cells, 53), (w.heap.size, M, 37)]) [(p, v9, ((t + 1 : Nat) : Int), S')] bk Ab k cb) := q2; clear q2 HZ ck; clear q1 c89 c90 c91))
          have OY : Hid (Oc w Y [(w.heap.size, M, 37)] [(p, v9, ((t + 1 : Nat) : Int), S')] bk Ab k cb) := HY.out.dropR (fun r hr => by { obtain rfl := List.mem_singleton.1 hr; exact (List.mem_append_right _ (List.mem_cons_of_mem _ (List.mem_cons_self ..))) })
          exact HTL.out _ _ (by kernel_rfl) (by kernel_rfl) ⟨v9, bk, Ab, k, cb, cn, rfl, rfl, (by rw [HSS2.out]; exact HCN.out), (by have := HKT.out; omega), OY.out, (by rw [HSS2.out]; exact HIN.out)⟩
      have n1 := hk
      clear hk
      by_cases hk : kd = 2
      · subst hk
        have hst : S' = (S.confirm x.now).1 := by rw [HSD.out, La.doS]; simp only [HKD.out]; rfl
        obtain ⟨y, E, hp⟩ : ∃ y E, S.confirm x.now = (S', y, E) := ⟨(S.confirm x.now).2.1, (S.confirm x.now).2.2, by rw [hst]⟩
        have HYW : Hid y.Wf := confirm_wf HOKS.out hp
        by_cases hE : E = 0
        · subst hE
          obtain ⟨rest, hpe, hdu, hdl, hse⟩ : ∃ rest, S.pend = y :: rest ∧ ¬ 0 < y.du ∧ ¬ x.now < y.dl ∧ S' = { S with last := x.now, conf := y.c, pend := rest } := by
            unfold La.confirm at hp
            split at hp
            · cases hp
            · split at hp
              · cases hp
              · rename_i z rest hz
                split at hp
                · cases hp
                · rename_i d1
                  split at hp
                  · cases hp
                  · rename_i d2
                    cases hp
                    exact ⟨rest, hz, d1, d2, rfl⟩
          have hym : y ∈ S.pend := by rw [hpe]; exact List.mem_cons_self ..
          obtain ⟨bj, j1, j2, j3, j4, j5, j6, j7⟩ := HIN.out.at hym
          have hch := HIN.out.ch
          rw [hpe] at hch
          have hd0 := HOKS.out.pd y hym
          obtain ⟨jj, hjj⟩ : ∃ j, j = (y.nr - 1).toNat := ⟨_, rfl⟩
          rw [← hjj] at j1
          have HINV : Hid (Inv S' (bk.set jj { bj with gone := 1 }) win) := by
            have := HIN.out.confirmed (now := x.now) hpe
            rw [← hse] at this
            unfold bgo at this
            rw [← hjj, j1] at this
            exact this
          have HM0 : Hid (((m : Int) == 0) = false) := by show _ = _; have : m = rest.length + 1 := by rw [← HML.out, hpe]; rfl
                                                          simp; omega
          have HMP : Hid (0 < m) := by show _ < _; rw [← HML.out, hpe]; exact Nat.succ_pos _
          have HP0 : Hid (S.pend[0]? = some y) := by show _ = _; rw [hpe]; rfl
          have HDU : Hid ((y.du != 0) = false) := by show _ = _; have : y.du = 0 := by omega
                                                     rw [this]; rfl
          have HNR1 : Hid (decide (y.nr < 1) = false) := decide_eq_false (by omega)
          have HNRK : Hid (decide ((k : Int) < y.nr) = false) := decide_eq_false (by rw [HKL.out] at j7; omega)
          have HIY : Hid ((Try.prog.info? tP).map (·.size) = some y.cells.length) := Pn.info HYW.out
          have HIYC : Hid ((Try.prog.info? tC).map (·.size) = some y.c.cells.length) := Cm.info HYW.out.c
          have HIYA : Hid ((Try.prog.info? tAd).map (·.size) = some (vB y.ad).length) := by show _ = _; rw [vB_length, HYW.out.a]; exact info_A
          have HBJ : Hid (bk[jj]? = some bj) := j1
          have HJ3 : Hid (bj.c = y.c ∧ bj.ad = y.ad) := ⟨j3, j4⟩
          have hs1 : IntKind.i64.wrap (y.nr - 1) = (jj : Int) := by rw [IntKind.wrap_i64]; have := HKT.out; rw [HKL.out] at j7; omega
          have f1 : ¬ x.now < y.dl := hdl
          have f2 : ¬ y.c.n ≤ cn := by rw [HCN.out]; have := hch.2.1; omega
          have HG0 : Hid (bj.gone = 0) := j2
          have HNW : Hid (bj.now = y.po) := j5
          have HCF' : Hid (S'.conf = y.c) := by show _ = _; rw [hse]
          have HC : Hid (∀ X p v, Ld X p v (t : Int) S → Calls Try.prog 24 #[.pointer (some ⟨p, 0, none⟩), .int .i64 x.now] X fun e w' => e = .returned (.tuple #[.agg y.cells.toArray, .int .i64 0]) ∧ Ts X w' p v (t : Int) S') := fun X p v h => confirm_any h x.now S' y 0 hp
          clear hp hst hpe hdu hdl hse hym j1 j2 j3 j4 j5 j6 j7 hch hd0 hjj
          go_upto_region 22 with (first
            | (go_at_call 24; refine Calls.mono (HC.out _ _ _ (HZ.out.hp.lad _ (List.mem_cons_self ..))) ?_; rintro e Y0 ⟨rfl, q1⟩; obtain ⟨v9, q2⟩ := HZ.out.turn 0 rfl (q1.tn.mono (show (t : Int) ≤ ((t + 1 : Nat) : Int) by omega)); have HY0 : Hid (Oc w Y0 (R1 ++ [(wr.heap.size, x.cells, 53), (w.heap.size, M, 37)]) [(p, v9, ((t + 1 : Nat) : Int), S')] bk Ab k cb) := q2; clear q2 HZ ck; clear q1 c89 c90 c91)
            | (refine wpList_alP rfl rfl ?_; intro Y1 q1 q2 q3; clear q3; have RD : Hid (Row Y1 Y0.heap.size zP.cells tP) := q1; have BD : Hid (Below Y0.heap.size Y0 Y1) := q2; clear q1 q2; simp only [Act.put, List.setIfInBounds_toArray, List.set_cons_zero, List.set_cons_succ])
            | (refine wpList_stL rfl tP (.tmp 13) (.tmp 113) rfl Y0.heap.size y.cells zP.cells tP rfl rfl RD.out ((Pn.len HYW.out).trans (Pn.len zP_wf).symm) (Pn.info HYW.out) (all_one (Pn.one y)) ?_; intro Y q1 q2; have HY : Hid (Oc w Y ((Y0.heap.size, y.cells, tP) :: (R1 ++ [(wr.heap.size, x.cells, 53), (w.heap.size, M, 37)])) [(p, v9, ((t + 1 : Nat) : Int), S')] bk Ab k cb) := HY0.out.addR (gro_newL BD.out (Nat.le_refl _) q2) q1 (Nat.le_refl _) (by decide); clear q1 q2 HY0 RD BD))
          obtain ⟨V, hV⟩ : ∃ V, V = Y := ⟨_, rfl⟩
          subst hV
          obtain ⟨b13, hb13⟩ : ∃ b, b = Y0.heap.size := ⟨_, rfl⟩
          rw [← hb13] at HY ⊢
          clear hb13
          obtain ⟨ga, oa, hA1, hra⟩ := (HR1.out V (fun r hr => HY.out.hp.row r (List.mem_cons_of_mem _ (List.mem_append_left _ hr)))).get HP0.out
          subst hA1
          have HRA : Hid (∀ X, Below V.heap.size V X → X.rangeAt ga (oa + 0 * 90) y.cells) := fun X q => range_be hra q
          have hb1 := Below.refl V.heap.size V
          have rY : Row V b13 y.cells tP := HY.out.hp.row _ (List.mem_cons_self ..)
          clear hra
          refine wp_named fun a0 ha0 => ?_
          have hsz : a0.tmps.size = 360 := by rw [ha0]; rfl
          have zs6 : a0.eval (.tmp 6) = .slice Ab k cb := by rw [ha0]; rfl
          have zs10 : a0.eval (.tmp 10) = .slice (some ⟨ga, oa, none⟩) m k1 := by rw [ha0]; rfl
          have zs13 : a0.eval (.tmp 13) = .pointer (some ⟨b13, 0, none⟩) := by rw [ha0]; rfl
          obtain ⟨D, hD⟩ : ∃ D : List (Tmp × SP), D = [(117, SP.is (.slice (some ⟨ga, oa, none⟩) m k1)), (118, SP.is (.int .i64 (m : Int))), (119, SP.is (.bool false)), (120, SP.is (.bool false)), (121, SP.is (.agg y.cells.toArray)), (122, SP.is (.slice (some ⟨ga, oa, none⟩) m k1)), (123, SP.is (.pointer (some ⟨ga, oa + 0 * 90, none⟩))), (124, SP.is (.agg y.cells.toArray)), (125, SP.is (.bool false)), (126, SP.is (.bool false)), (127, SP.is (.bool false)), (128, SP.is (.pointer (some ⟨b13, 0 + 89, none⟩))), (129, SP.is (.int .i64 y.du)), (130, SP.is (.bool false)), (131, SP.is (.bool false)), (132, SP.is (.bool false)), (133, SP.is (.pointer (some ⟨b13, 0, none⟩))), (134, SP.is (.int .i64 y.nr)), (135, SP.is (.bool false)), (136, SP.is (.bool false)), (137, SP.is (.bool false)), (138, SP.is (.pointer (some ⟨b13, 0, none⟩))), (139, SP.is (.int .i64 y.nr)), (140, SP.is (.slice Ab k cb)), (141, SP.is (.int .i64 (k : Int))), (142, SP.is (.bool false)), (143, SP.is (.bool false))] := ⟨_, rfl⟩
          refine wp_region_down (by kernel_rfl) (fun listed ac W => listed.size = 27 ∧ Fp D a0 listed ac W ∧ Below V.heap.size V W ∧ Row W b13 y.cells tP) ?_ ?_ ?_
          · exact ⟨by simp, Fp.start D a0 _ _, Below.drew hb1, Row.drew rY⟩
          · clear ha0 hb1 rY 
            intro listed ac W k hI hdn hk
            obtain ⟨hl, hF, hb1, rY⟩ := hI
            have hk1 : k < 27 := List.mem_range.1 (List.mem_filter.1 hk).1
            have hl2 : ∀ j, (listed.setIfInBounds j true).size = 27 := fun j => by rw [Array.size_setIfInBounds]; exact hl
            rcases (show k = 0 ∨ k = 1 ∨ k = 2 ∨ k = 3 ∨ k = 4 ∨ k = 5 ∨ k = 6 ∨ k = 7 ∨ k = 8 ∨ k = 9 ∨ k = 10 ∨ k = 11 ∨ k = 12 ∨ k = 13 ∨ k = 14 ∨ k = 15 ∨ k = 16 ∨ k = 17 ∨ k = 18 ∨ k = 19 ∨ k = 20 ∨ k = 21 ∨ k = 22 ∨ k = 23 ∨ k = 24 ∨ k = 25 ∨ k = 26 by omega) with rfl | rfl | rfl | rfl | rfl | rfl | rfl | rfl | rfl | rfl | rfl | rfl | rfl | rfl | rfl | rfl | rfl | rfl | rfl | rfl | rfl | rfl | rfl | rfl | rfl | rfl | rfl
            · have hk3 := hk
              exact wpOp_plain rfl rfl (wp_move_v (ac.eval (.tmp 10)) rfl rfl ⟨hl2 0, (hF.put 0 117 (SP.is (.slice (some ⟨ga, oa, none⟩) m k1)) (ac.eval (.tmp 10)) (by rw [hD]; rfl) (((hF.keep 10 (by rw [hD]; rfl)).trans zs10)) (by rw [hD]; rfl) (by rw [hsz]; decide) (by rw [hl]; decide)), hb1, rY⟩)
            · have hk3 := hk
              have e0 := (hF.done 0 (117, SP.is (.slice (some ⟨ga, oa, none⟩) m k1)) (by rw [hD]; rfl) (ready_dep hk 0 (by kernel_rfl)))
              exact wpOp_plain rfl rfl (wp_lenL tPs tP (some ⟨ga, oa, none⟩) m k1 rfl Try.underlying42 e0 ⟨hl2 1, (hF.put 1 118 (SP.is (.int .i64 (m : Int))) (.int .i64 (m : Int)) (by rw [hD]; rfl) rfl (by rw [hD]; rfl) (by rw [hsz]; decide) (by rw [hl]; decide)), hb1, rY⟩)
            · have hk3 := hk
              have e0 := (hF.done 1 (118, SP.is (.int .i64 (m : Int))) (by rw [hD]; rfl) (ready_dep hk 1 (by kernel_rfl)))
              exact wpOp_plain rfl rfl (wp_eqI rfl rfl (m : Int) 0 false e0 rfl HM0.out ⟨hl2 2, (hF.put 2 119 (SP.is (.bool false)) (.bool false) (by rw [hD]; rfl) rfl (by rw [hD]; rfl) (by rw [hsz]; decide) (by rw [hl]; decide)), hb1, rY⟩)
            · have hk3 := hk
              exact wpOp_plain rfl rfl (wp_move_v (ac.eval (.tmp 119)) rfl rfl ⟨hl2 3, (hF.put 3 120 (SP.is (.bool false)) (ac.eval (.tmp 119)) (by rw [hD]; rfl) ((hF.done 2 (119, SP.is (.bool false)) (by rw [hD]; rfl) (ready_dep hk 2 (by kernel_rfl)))) (by rw [hD]; rfl) (by rw [hsz]; decide) (by rw [hl]; decide)), hb1, rY⟩)
            · have hk3 := hk
              have e0 := ((hF.keep 13 (by rw [hD]; rfl)).trans zs13)
              exact wpOp_wanted rfl (wanted_g (g := 3) (b := false) rfl rfl (hF.done 3 (120, SP.is (.bool false)) (by rw [hD]; rfl) (ready_dep hk 3 (by kernel_rfl))) (by rw [hF.size, hsz]; decide)) (wp_load_mid tP (.tmp 13) rfl b13 0 e0 y.cells _ rY.all Try.underlying66 rfl HIY.out ⟨hl2 4, (hF.put 4 121 (SP.is (.agg y.cells.toArray)) (.agg y.cells.toArray) (by rw [hD]; rfl) rfl (by rw [hD]; rfl) (by rw [hsz]; decide) (by rw [hl]; decide)), hb1, rY⟩)
            · have hk3 := hk
              exact wpOp_wanted rfl (wanted_g (g := 3) (b := false) rfl rfl (hF.done 3 (120, SP.is (.bool false)) (by rw [hD]; rfl) (ready_dep hk 3 (by kernel_rfl))) (by rw [hF.size, hsz]; decide)) (wp_move_v (ac.eval (.tmp 10)) rfl rfl ⟨hl2 5, (hF.put 5 122 (SP.is (.slice (some ⟨ga, oa, none⟩) m k1)) (ac.eval (.tmp 10)) (by rw [hD]; rfl) (((hF.keep 10 (by rw [hD]; rfl)).trans zs10)) (by rw [hD]; rfl) (by rw [hsz]; decide) (by rw [hl]; decide)), hb1, rY⟩)
            · have hk3 := hk
              have e0 := (hF.done 5 (122, SP.is (.slice (some ⟨ga, oa, none⟩) m k1)) (by rw [hD]; rfl) (ready_dep hk 5 (by kernel_rfl)))
              exact wpOp_wanted rfl (wanted_g (g := 3) (b := false) rfl rfl (hF.done 3 (120, SP.is (.bool false)) (by rw [hD]; rfl) (ready_dep hk 3 (by kernel_rfl))) (by rw [hF.size, hsz]; decide)) (wp_ixL tPs tP rfl ga oa m k1 0 90 e0 rfl HMP.out Try.underlying42 info_P ⟨hl2 6, (hF.put 6 123 (SP.is (.pointer (some ⟨ga, oa + 0 * 90, none⟩))) (.pointer (some ⟨ga, oa + 0 * 90, none⟩)) (by rw [hD]; rfl) rfl (by rw [hD]; rfl) (by rw [hsz]; decide) (by rw [hl]; decide)), hb1, rY⟩)
            · have hk3 := hk
              have e0 := (hF.done 6 (123, SP.is (.pointer (some ⟨ga, oa + 0 * 90, none⟩))) (by rw [hD]; rfl) (ready_dep hk 6 (by kernel_rfl)))
              exact wpOp_wanted rfl (wanted_g (g := 3) (b := false) rfl rfl (hF.done 3 (120, SP.is (.bool false)) (by rw [hD]; rfl) (ready_dep hk 3 (by kernel_rfl))) (by rw [hF.size, hsz]; decide)) (wp_load_mid tP (.tmp 123) rfl ga (oa + 0 * 90) e0 y.cells _ (HRA.out W hb1) Try.underlying66 rfl HIY.out ⟨hl2 7, (hF.put 7 124 (SP.is (.agg y.cells.toArray)) (.agg y.cells.toArray) (by rw [hD]; rfl) rfl (by rw [hD]; rfl) (by rw [hsz]; decide) (by rw [hl]; decide)), hb1, rY⟩)
            · have hk3 := hk
              have e0 := (hF.done 4 (121, SP.is (.agg y.cells.toArray)) (by rw [hD]; rfl) (ready_dep hk 4 (by kernel_rfl)))
              have e1 := (hF.done 7 (124, SP.is (.agg y.cells.toArray)) (by rw [hD]; rfl) (ready_dep hk 7 (by kernel_rfl)))
              exact wpOp_wanted rfl (wanted_g (g := 3) (b := false) rfl rfl (hF.done 3 (120, SP.is (.bool false)) (by rw [hD]; rfl) (ready_dep hk 3 (by kernel_rfl))) (by rw [hF.size, hsz]; decide)) (wp_neP (.tmp 121) (.tmp 124) _ rfl y y HYW.out HYW.out e0 e1 false (by rw [decide_eq_true rfl]; rfl) ⟨hl2 8, (hF.put 8 125 (SP.is (.bool false)) (.bool false) (by rw [hD]; rfl) rfl (by rw [hD]; rfl) (by rw [hsz]; decide) (by rw [hl]; decide)), hb1, rY⟩)
            · have hk3 := hk
              have e0 := (hF.done 3 (120, SP.is (.bool false)) (by rw [hD]; rfl) (ready_dep hk 3 (by kernel_rfl)))
              have e1 := (hF.done 8 (125, SP.is (.bool false)) (by rw [hD]; rfl) (ready_dep hk 8 (by kernel_rfl)))
              exact wpOp_plain rfl rfl (wp_pickF (.bool false) rfl e0 e1 ⟨hl2 9, (hF.put 9 126 (SP.is (.bool false)) (.bool false) (by rw [hD]; rfl) rfl (by rw [hD]; rfl) (by rw [hsz]; decide) (by rw [hl]; decide)), hb1, rY⟩)
            · have hk3 := hk
              exact wpOp_plain rfl rfl (wp_move_v (ac.eval (.tmp 126)) rfl rfl ⟨hl2 10, (hF.put 10 127 (SP.is (.bool false)) (ac.eval (.tmp 126)) (by rw [hD]; rfl) ((hF.done 9 (126, SP.is (.bool false)) (by rw [hD]; rfl) (ready_dep hk 9 (by kernel_rfl)))) (by rw [hD]; rfl) (by rw [hsz]; decide) (by rw [hl]; decide)), hb1, rY⟩)
            · have hk3 := hk
              have e0 := ((hF.keep 13 (by rw [hD]; rfl)).trans zs13)
              exact wpOp_wanted rfl (wanted_g (g := 10) (b := false) rfl rfl (hF.done 10 (127, SP.is (.bool false)) (by rw [hD]; rfl) (ready_dep hk 10 (by kernel_rfl))) (by rw [hF.size, hsz]; decide)) (wp_P5 rfl b13 0 e0 ⟨hl2 11, (hF.put 11 128 (SP.is (.pointer (some ⟨b13, 0 + 89, none⟩))) (.pointer (some ⟨b13, 0 + 89, none⟩)) (by rw [hD]; rfl) rfl (by rw [hD]; rfl) (by rw [hsz]; decide) (by rw [hl]; decide)), hb1, rY⟩)
            · have hk3 := hk
              have e0 := (hF.done 11 (128, SP.is (.pointer (some ⟨b13, 0 + 89, none⟩))) (by rw [hD]; rfl) (ready_dep hk 11 (by kernel_rfl)))
              exact wpOp_wanted rfl (wanted_g (g := 10) (b := false) rfl rfl (hF.done 10 (127, SP.is (.bool false)) (by rw [hD]; rfl) (ready_dep hk 10 (by kernel_rfl))) (by rw [hF.size, hsz]; decide)) (wp_ld1 b13 (0 + 89) (.int .i64 y.du) rfl e0 (ld_int W b13 (0 + 89) _ (rY.cell 89 _ (Pn.at_du HYW.out))) ⟨hl2 12, (hF.put 12 129 (SP.is (.int .i64 y.du)) (.int .i64 y.du) (by rw [hD]; rfl) rfl (by rw [hD]; rfl) (by rw [hsz]; decide) (by rw [hl]; decide)), hb1, rY⟩)
            · have hk3 := hk
              have e0 := (hF.done 12 (129, SP.is (.int .i64 y.du)) (by rw [hD]; rfl) (ready_dep hk 12 (by kernel_rfl)))
              exact wpOp_wanted rfl (wanted_g (g := 10) (b := false) rfl rfl (hF.done 10 (127, SP.is (.bool false)) (by rw [hD]; rfl) (ready_dep hk 10 (by kernel_rfl))) (by rw [hF.size, hsz]; decide)) (wp_neI rfl rfl y.du 0 false e0 rfl HDU.out ⟨hl2 13, (hF.put 13 130 (SP.is (.bool false)) (.bool false) (by rw [hD]; rfl) rfl (by rw [hD]; rfl) (by rw [hsz]; decide) (by rw [hl]; decide)), hb1, rY⟩)
            · have hk3 := hk
              have e0 := (hF.done 10 (127, SP.is (.bool false)) (by rw [hD]; rfl) (ready_dep hk 10 (by kernel_rfl)))
              have e1 := (hF.done 13 (130, SP.is (.bool false)) (by rw [hD]; rfl) (ready_dep hk 13 (by kernel_rfl)))
              exact wpOp_plain rfl rfl (wp_pickF (.bool false) rfl e0 e1 ⟨hl2 14, (hF.put 14 131 (SP.is (.bool false)) (.bool false) (by rw [hD]; rfl) rfl (by rw [hD]; rfl) (by rw [hsz]; decide) (by rw [hl]; decide)), hb1, rY⟩)
            · have hk3 := hk
              exact wpOp_plain rfl rfl (wp_move_v (ac.eval (.tmp 131)) rfl rfl ⟨hl2 15, (hF.put 15 132 (SP.is (.bool false)) (ac.eval (.tmp 131)) (by rw [hD]; rfl) ((hF.done 14 (131, SP.is (.bool false)) (by rw [hD]; rfl) (ready_dep hk 14 (by kernel_rfl)))) (by rw [hD]; rfl) (by rw [hsz]; decide) (by rw [hl]; decide)), hb1, rY⟩)
            · have hk3 := hk
              have e0 := ((hF.keep 13 (by rw [hD]; rfl)).trans zs13)
              exact wpOp_wanted rfl (wanted_g (g := 15) (b := false) rfl rfl (hF.done 15 (132, SP.is (.bool false)) (by rw [hD]; rfl) (ready_dep hk 15 (by kernel_rfl))) (by rw [hF.size, hsz]; decide)) (wp_P0 rfl b13 0 e0 ⟨hl2 16, (hF.put 16 133 (SP.is (.pointer (some ⟨b13, 0, none⟩))) (.pointer (some ⟨b13, 0, none⟩)) (by rw [hD]; rfl) rfl (by rw [hD]; rfl) (by rw [hsz]; decide) (by rw [hl]; decide)), hb1, rY⟩)
            · have hk3 := hk
              have e0 := (hF.done 16 (133, SP.is (.pointer (some ⟨b13, 0, none⟩))) (by rw [hD]; rfl) (ready_dep hk 16 (by kernel_rfl)))
              exact wpOp_wanted rfl (wanted_g (g := 15) (b := false) rfl rfl (hF.done 15 (132, SP.is (.bool false)) (by rw [hD]; rfl) (ready_dep hk 15 (by kernel_rfl))) (by rw [hF.size, hsz]; decide)) (wp_ld1 b13 0 (.int .i64 y.nr) rfl e0 (ld_int W b13 0 _ (rY.cell 0 _ (Pn.at_nr y))) ⟨hl2 17, (hF.put 17 134 (SP.is (.int .i64 y.nr)) (.int .i64 y.nr) (by rw [hD]; rfl) rfl (by rw [hD]; rfl) (by rw [hsz]; decide) (by rw [hl]; decide)), hb1, rY⟩)
            · have hk3 := hk
              have e0 := (hF.done 17 (134, SP.is (.int .i64 y.nr)) (by rw [hD]; rfl) (ready_dep hk 17 (by kernel_rfl)))
              exact wpOp_wanted rfl (wanted_g (g := 15) (b := false) rfl rfl (hF.done 15 (132, SP.is (.bool false)) (by rw [hD]; rfl) (ready_dep hk 15 (by kernel_rfl))) (by rw [hF.size, hsz]; decide)) (wp_lssI rfl rfl y.nr 1 false e0 rfl HNR1.out ⟨hl2 18, (hF.put 18 135 (SP.is (.bool false)) (.bool false) (by rw [hD]; rfl) rfl (by rw [hD]; rfl) (by rw [hsz]; decide) (by rw [hl]; decide)), hb1, rY⟩)
            · have hk3 := hk
              have e0 := (hF.done 15 (132, SP.is (.bool false)) (by rw [hD]; rfl) (ready_dep hk 15 (by kernel_rfl)))
              have e1 := (hF.done 18 (135, SP.is (.bool false)) (by rw [hD]; rfl) (ready_dep hk 18 (by kernel_rfl)))
              exact wpOp_plain rfl rfl (wp_pickF (.bool false) rfl e0 e1 ⟨hl2 19, (hF.put 19 136 (SP.is (.bool false)) (.bool false) (by rw [hD]; rfl) rfl (by rw [hD]; rfl) (by rw [hsz]; decide) (by rw [hl]; decide)), hb1, rY⟩)
            · have hk3 := hk
              exact wpOp_plain rfl rfl (wp_move_v (ac.eval (.tmp 136)) rfl rfl ⟨hl2 20, (hF.put 20 137 (SP.is (.bool false)) (ac.eval (.tmp 136)) (by rw [hD]; rfl) ((hF.done 19 (136, SP.is (.bool false)) (by rw [hD]; rfl) (ready_dep hk 19 (by kernel_rfl)))) (by rw [hD]; rfl) (by rw [hsz]; decide) (by rw [hl]; decide)), hb1, rY⟩)
            · have hk3 := hk
              have e0 := ((hF.keep 13 (by rw [hD]; rfl)).trans zs13)
              exact wpOp_wanted rfl (wanted_g (g := 20) (b := false) rfl rfl (hF.done 20 (137, SP.is (.bool false)) (by rw [hD]; rfl) (ready_dep hk 20 (by kernel_rfl))) (by rw [hF.size, hsz]; decide)) (wp_P0 rfl b13 0 e0 ⟨hl2 21, (hF.put 21 138 (SP.is (.pointer (some ⟨b13, 0, none⟩))) (.pointer (some ⟨b13, 0, none⟩)) (by rw [hD]; rfl) rfl (by rw [hD]; rfl) (by rw [hsz]; decide) (by rw [hl]; decide)), hb1, rY⟩)
            · have hk3 := hk
              have e0 := (hF.done 21 (138, SP.is (.pointer (some ⟨b13, 0, none⟩))) (by rw [hD]; rfl) (ready_dep hk 21 (by kernel_rfl)))
              exact wpOp_wanted rfl (wanted_g (g := 20) (b := false) rfl rfl (hF.done 20 (137, SP.is (.bool false)) (by rw [hD]; rfl) (ready_dep hk 20 (by kernel_rfl))) (by rw [hF.size, hsz]; decide)) (wp_ld1 b13 0 (.int .i64 y.nr) rfl e0 (ld_int W b13 0 _ (rY.cell 0 _ (Pn.at_nr y))) ⟨hl2 22, (hF.put 22 139 (SP.is (.int .i64 y.nr)) (.int .i64 y.nr) (by rw [hD]; rfl) rfl (by rw [hD]; rfl) (by rw [hsz]; decide) (by rw [hl]; decide)), hb1, rY⟩)
            · have hk3 := hk
              exact wpOp_wanted rfl (wanted_g (g := 20) (b := false) rfl rfl (hF.done 20 (137, SP.is (.bool false)) (by rw [hD]; rfl) (ready_dep hk 20 (by kernel_rfl))) (by rw [hF.size, hsz]; decide)) (wp_move_v (ac.eval (.tmp 6)) rfl rfl ⟨hl2 23, (hF.put 23 140 (SP.is (.slice Ab k cb)) (ac.eval (.tmp 6)) (by rw [hD]; rfl) (((hF.keep 6 (by rw [hD]; rfl)).trans zs6)) (by rw [hD]; rfl) (by rw [hsz]; decide) (by rw [hl]; decide)), hb1, rY⟩)
            · have hk3 := hk
              have e0 := (hF.done 23 (140, SP.is (.slice Ab k cb)) (by rw [hD]; rfl) (ready_dep hk 23 (by kernel_rfl)))
              exact wpOp_wanted rfl (wanted_g (g := 20) (b := false) rfl rfl (hF.done 20 (137, SP.is (.bool false)) (by rw [hD]; rfl) (ready_dep hk 20 (by kernel_rfl))) (by rw [hF.size, hsz]; decide)) (wp_lenL tPos tPo Ab k cb rfl Try.underlying59 e0 ⟨hl2 24, (hF.put 24 141 (SP.is (.int .i64 (k : Int))) (.int .i64 (k : Int)) (by rw [hD]; rfl) rfl (by rw [hD]; rfl) (by rw [hsz]; decide) (by rw [hl]; decide)), hb1, rY⟩)
            · have hk3 := hk
              have e0 := (hF.done 22 (139, SP.is (.int .i64 y.nr)) (by rw [hD]; rfl) (ready_dep hk 22 (by kernel_rfl)))
              have e1 := (hF.done 24 (141, SP.is (.int .i64 (k : Int))) (by rw [hD]; rfl) (ready_dep hk 24 (by kernel_rfl)))
              exact wpOp_wanted rfl (wanted_g (g := 20) (b := false) rfl rfl (hF.done 20 (137, SP.is (.bool false)) (by rw [hD]; rfl) (ready_dep hk 20 (by kernel_rfl))) (by rw [hF.size, hsz]; decide)) (wp_gtrI rfl rfl y.nr (k : Int) false e0 e1 HNRK.out ⟨hl2 25, (hF.put 25 142 (SP.is (.bool false)) (.bool false) (by rw [hD]; rfl) rfl (by rw [hD]; rfl) (by rw [hsz]; decide) (by rw [hl]; decide)), hb1, rY⟩)
            · have hk3 := hk
              have e0 := (hF.done 20 (137, SP.is (.bool false)) (by rw [hD]; rfl) (ready_dep hk 20 (by kernel_rfl)))
              have e1 := (hF.done 25 (142, SP.is (.bool false)) (by rw [hD]; rfl) (ready_dep hk 25 (by kernel_rfl)))
              exact wpOp_plain rfl rfl (wp_pickF (.bool false) rfl e0 e1 ⟨hl2 26, (hF.put 26 143 (SP.is (.bool false)) (.bool false) (by rw [hD]; rfl) rfl (by rw [hD]; rfl) (by rw [hsz]; decide) (by rw [hl]; decide)), hb1, rY⟩)
          · clear hb1 rY 
            intro listed ac W hI hr
            obtain ⟨hl, hF, hb1, rY⟩ := hI
            have hall := all_listed (by kernel_rfl) hl hr
            have h117 : ac.eval (.tmp 117) = .slice (some ⟨ga, oa, none⟩) m k1 := hF.done 0 (117, SP.is (.slice (some ⟨ga, oa, none⟩) m k1)) (by rw [hD]; rfl) (hall 0 (by decide))
            have h118 : ac.eval (.tmp 118) = .int .i64 (m : Int) := hF.done 1 (118, SP.is (.int .i64 (m : Int))) (by rw [hD]; rfl) (hall 1 (by decide))
            have h119 : ac.eval (.tmp 119) = .bool false := hF.done 2 (119, SP.is (.bool false)) (by rw [hD]; rfl) (hall 2 (by decide))
            have h120 : ac.eval (.tmp 120) = .bool false := hF.done 3 (120, SP.is (.bool false)) (by rw [hD]; rfl) (hall 3 (by decide))
            have h121 : ac.eval (.tmp 121) = .agg y.cells.toArray := hF.done 4 (121, SP.is (.agg y.cells.toArray)) (by rw [hD]; rfl) (hall 4 (by decide))
            have h122 : ac.eval (.tmp 122) = .slice (some ⟨ga, oa, none⟩) m k1 := hF.done 5 (122, SP.is (.slice (some ⟨ga, oa, none⟩) m k1)) (by rw [hD]; rfl) (hall 5 (by decide))
            have h123 : ac.eval (.tmp 123) = .pointer (some ⟨ga, oa + 0 * 90, none⟩) := hF.done 6 (123, SP.is (.pointer (some ⟨ga, oa + 0 * 90, none⟩))) (by rw [hD]; rfl) (hall 6 (by decide))
            have h124 : ac.eval (.tmp 124) = .agg y.cells.toArray := hF.done 7 (124, SP.is (.agg y.cells.toArray)) (by rw [hD]; rfl) (hall 7 (by decide))
            have h125 : ac.eval (.tmp 125) = .bool false := hF.done 8 (125, SP.is (.bool false)) (by rw [hD]; rfl) (hall 8 (by decide))
            have h126 : ac.eval (.tmp 126) = .bool false := hF.done 9 (126, SP.is (.bool false)) (by rw [hD]; rfl) (hall 9 (by decide))
            have h127 : ac.eval (.tmp 127) = .bool false := hF.done 10 (127, SP.is (.bool false)) (by rw [hD]; rfl) (hall 10 (by decide))
            have h128 : ac.eval (.tmp 128) = .pointer (some ⟨b13, 0 + 89, none⟩) := hF.done 11 (128, SP.is (.pointer (some ⟨b13, 0 + 89, none⟩))) (by rw [hD]; rfl) (hall 11 (by decide))
            have h129 : ac.eval (.tmp 129) = .int .i64 y.du := hF.done 12 (129, SP.is (.int .i64 y.du)) (by rw [hD]; rfl) (hall 12 (by decide))
            have h130 : ac.eval (.tmp 130) = .bool false := hF.done 13 (130, SP.is (.bool false)) (by rw [hD]; rfl) (hall 13 (by decide))
            have h131 : ac.eval (.tmp 131) = .bool false := hF.done 14 (131, SP.is (.bool false)) (by rw [hD]; rfl) (hall 14 (by decide))
            have h132 : ac.eval (.tmp 132) = .bool false := hF.done 15 (132, SP.is (.bool false)) (by rw [hD]; rfl) (hall 15 (by decide))
            have h133 : ac.eval (.tmp 133) = .pointer (some ⟨b13, 0, none⟩) := hF.done 16 (133, SP.is (.pointer (some ⟨b13, 0, none⟩))) (by rw [hD]; rfl) (hall 16 (by decide))
            have h134 : ac.eval (.tmp 134) = .int .i64 y.nr := hF.done 17 (134, SP.is (.int .i64 y.nr)) (by rw [hD]; rfl) (hall 17 (by decide))
            have h135 : ac.eval (.tmp 135) = .bool false := hF.done 18 (135, SP.is (.bool false)) (by rw [hD]; rfl) (hall 18 (by decide))
            have h136 : ac.eval (.tmp 136) = .bool false := hF.done 19 (136, SP.is (.bool false)) (by rw [hD]; rfl) (hall 19 (by decide))
            have h137 : ac.eval (.tmp 137) = .bool false := hF.done 20 (137, SP.is (.bool false)) (by rw [hD]; rfl) (hall 20 (by decide))
            have h138 : ac.eval (.tmp 138) = .pointer (some ⟨b13, 0, none⟩) := hF.done 21 (138, SP.is (.pointer (some ⟨b13, 0, none⟩))) (by rw [hD]; rfl) (hall 21 (by decide))
            have h139 : ac.eval (.tmp 139) = .int .i64 y.nr := hF.done 22 (139, SP.is (.int .i64 y.nr)) (by rw [hD]; rfl) (hall 22 (by decide))
            have h140 : ac.eval (.tmp 140) = .slice Ab k cb := hF.done 23 (140, SP.is (.slice Ab k cb)) (by rw [hD]; rfl) (hall 23 (by decide))
            have h141 : ac.eval (.tmp 141) = .int .i64 (k : Int) := hF.done 24 (141, SP.is (.int .i64 (k : Int))) (by rw [hD]; rfl) (hall 24 (by decide))
            have h142 : ac.eval (.tmp 142) = .bool false := hF.done 25 (142, SP.is (.bool false)) (by rw [hD]; rfl) (hall 25 (by decide))
            have h143 : ac.eval (.tmp 143) = .bool false := hF.done 26 (143, SP.is (.bool false)) (by rw [hD]; rfl) (hall 26 (by decide))
            have ea := hF.lay [(117, .slice (some ⟨ga, oa, none⟩) m k1), (118, .int .i64 (m : Int)), (119, .bool false), (120, .bool false), (121, .agg y.cells.toArray), (122, .slice (some ⟨ga, oa, none⟩) m k1), (123, .pointer (some ⟨ga, oa + 0 * 90, none⟩)), (124, .agg y.cells.toArray), (125, .bool false), (126, .bool false), (127, .bool false), (128, .pointer (some ⟨b13, 0 + 89, none⟩)), (129, .int .i64 y.du), (130, .bool false), (131, .bool false), (132, .bool false), (133, .pointer (some ⟨b13, 0, none⟩)), (134, .int .i64 y.nr), (135, .bool false), (136, .bool false), (137, .bool false), (138, .pointer (some ⟨b13, 0, none⟩)), (139, .int .i64 y.nr), (140, .slice Ab k cb), (141, .int .i64 (k : Int)), (142, .bool false), (143, .bool false)] (by rw [hD, hsz]; rfl) (by simp only [List.forall_mem_cons, List.not_mem_nil, false_implies, implies_true, and_true]; exact ⟨h117, h118, h119, h120, h121, h122, h123, h124, h125, h126, h127, h128, h129, h130, h131, h132, h133, h134, h135, h136, h137, h138, h139, h140, h141, h142, h143⟩)
            rw [ha0] at ea
            simp only [List.foldl_cons, List.foldl_nil, List.setIfInBounds_toArray, List.set_cons_zero, List.set_cons_succ] at ea
            clear hF hall hr hl hD  zs6 zs10 zs13 ha0 hsz h117 h118 h119 h120 h121 h122 h123 h124 h125 h126 h127 h128 h129 h130 h131 h132 h133 h134 h135 h136 h137 h138 h139 h140 h141 h142 h143
            subst ea
            have HU : Hid (Oc w W ((b13, y.cells, tP) :: (R1 ++ [(wr.heap.size, x.cells, 53), (w.heap.size, M, 37)])) [(p, v9, ((t + 1 : Nat) : Int), S')] bk Ab k cb) := HY.out.below hb1
            have RY : Hid (Row W b13 y.cells tP) := rY
            have e13 := rY.cell 0 _ (Pn.at_nr y)
            clear hb1 rY HRA HY
            obtain ⟨gb, cur, hAb, hjk, hrb, hlb, hrg, hset⟩ := HU.out.at HBJ.out
            subst hAb
            have HBWj : Hid bj.Wf := HU.out.bw bj (List.mem_of_getElem? HBJ.out)
            have HRB : Hid (W.rangeAt gb (0 + jj * 88) bj.cells) := hrg
            have HJK : Hid (jj < k) := hjk
            have HIB : Hid ((Try.prog.info? tPo).map (·.size) = some bj.cells.length) := Bk.info HBWj.out
            have HIBC : Hid ((Try.prog.info? tC).map (·.size) = some bj.c.cells.length) := Cm.info HBWj.out.c
            have HIBA : Hid ((Try.prog.info? tAd).map (·.size) = some (vB bj.ad).length) := by show _ = _; rw [vB_length, HBWj.out.a]; exact info_A
            have HNC : Hid ((!decide (bj.c = y.c)) = false) := by show _ = _; rw [HJ3.out.1, decide_eq_true rfl]; rfl
            have HNA : Hid ((!decide (bj.ad = y.ad)) = false) := by show _ = _; rw [HJ3.out.2, decide_eq_true rfl]; rfl
            clear hjk hrb hlb hrg hset
            go_upto_region 27 with (first
              | (refine wpList_ixL tPos tPo (.tmp 144) (.tmp 147) rfl gb 0 k cb jj 88 rfl rfl HJK.out Try.underlying59 info_Po rfl ?_; simp only [Act.put, List.setIfInBounds_toArray, List.set_cons_zero, List.set_cons_succ])
              | (refine wpList_ldS rfl tPo (.tmp 148) rfl gb (0 + jj * 88) rfl bj.cells _ HRB.out Try.underlying64 rfl HIB.out ?_; simp only [Act.put, List.setIfInBounds_toArray, List.set_cons_zero, List.set_cons_succ])
              | (refine wpList_alPo rfl rfl ?_; intro U1 q1 q2 q3; clear q3; have RE : Hid (Row U1 W.heap.size zB.cells tPo) := q1; have BE : Hid (Below W.heap.size W U1) := q2; clear q1 q2; simp only [Act.put, List.setIfInBounds_toArray, List.set_cons_zero, List.set_cons_succ])
              | (refine wpList_stL rfl tPo (.tmp 15) (.tmp 149) rfl W.heap.size bj.cells zB.cells tPo rfl rfl RE.out ((Bk.len HBWj.out).trans (Bk.len zB_wf).symm) HIB.out (all_one (Bk.one bj)) ?_; intro U2 q1 q2; have q3 := gro_newL BE.out (Nat.le_refl _) q2; have RU : Hid (Row U2 W.heap.size bj.cells tPo) := q1; have HU2 : Hid (Oc w U2 ((b13, y.cells, tP) :: (R1 ++ [(wr.heap.size, x.cells, 53), (w.heap.size, M, 37)])) [(p, v9, ((t + 1 : Nat) : Int), S')] bk (some ⟨gb, 0, none⟩) k cb) := HU.out.below q3; have rY2 : Row U2 b13 y.cells tP := Row.below RY.out q3 RY.out.lt; have RY2 : Hid (Row U2 b13 y.cells tP) := rY2; have d87 : U2.cell? ⟨W.heap.size, 87, none⟩ = some (.int .i64 0) := by { have := q1.cell 87 _ (Bk.at_gone HBWj.out); rw [HG0.out] at this; exact this }; have d86 : U2.cell? ⟨W.heap.size, 86, none⟩ = some (.int .i64 y.po) := by { have := q1.cell 86 _ (Bk.at_now HBWj.out); rw [HNW.out] at this; exact this }; have e0 := rY2.cell 0 _ (Pn.at_nr y); have e1 := rY2.cell 1 _ (Pn.at_c y 0 _ (Cm.at_n y.c)); have e87 := rY2.cell 87 _ (Pn.at_po HYW.out); have e88 := rY2.cell 88 _ (Pn.at_dl HYW.out); have x90 := (HU2.out.hp.row _ (List.mem_cons_of_mem _ (List.mem_append_right _ (List.mem_cons_self ..)))).cell 90 _ (Sp16.at_now HXO.out); clear q1 q2 q3 rY2 RE BE HU RY e13)
              | (refine wpList_ldS rfl tC (.tmp 154) rfl W.heap.size 0 rfl bj.c.cells _ (RU.out.range 0 _ (fun j u hj => Bk.at_c bj j u hj)) Try.underlying25 rfl HIBC.out ?_; simp only [Act.put, List.setIfInBounds_toArray, List.set_cons_zero, List.set_cons_succ])
              | (refine wpList_ldS rfl tC (.tmp 156) rfl b13 1 rfl y.c.cells _ (RY2.out.range 1 _ (fun j u hj => Pn.at_c y j u hj)) Try.underlying25 rfl HIYC.out ?_; simp only [Act.put, List.setIfInBounds_toArray, List.set_cons_zero, List.set_cons_succ])
              | (refine wpList_neC rfl (.tmp 155) (.tmp 157) _ rfl bj.c y.c HBWj.out.c HYW.out.c rfl rfl false HNC.out ?_; simp only [Act.put, List.setIfInBounds_toArray, List.set_cons_zero, List.set_cons_succ])
              | (refine wpList_ldS rfl tAd (.tmp 161) rfl W.heap.size 66 rfl (vB bj.ad) _ (RU.out.range 66 _ (fun j u hj => Bk.at_a HBWj.out j u hj)) Try.underlying51 rfl HIBA.out ?_; simp only [Act.put, List.setIfInBounds_toArray, List.set_cons_zero, List.set_cons_succ])
              | (refine wpList_ldS rfl tAd (.tmp 163) rfl b13 67 rfl (vB y.ad) _ (RY2.out.range 67 _ (fun j u hj => Pn.at_a HYW.out j u hj)) Try.underlying51 rfl HIYA.out ?_; simp only [Act.put, List.setIfInBounds_toArray, List.set_cons_zero, List.set_cons_succ])
              | (refine wpList_neA rfl (.tmp 162) (.tmp 164) _ rfl bj.ad y.ad HBWj.out.a HYW.out.a rfl rfl false HNA.out ?_; simp only [Act.put, List.setIfInBounds_toArray, List.set_cons_zero, List.set_cons_succ]))
            obtain ⟨gb2, cur2, hAb2, _, hrb2, hlb2, _, hset2⟩ := HU2.out.at HBJ.out
            obtain rfl : gb = gb2 := by simpa using hAb2
            have HRB2 : Hid (Row U2 gb cur2 tPo) := hrb2
            rw [Nat.zero_add] at hset2
            have HLB2 : Hid (jj * 88 + 87 < cur2.length) := by show _ < _; omega
            have HST2 : Hid (∀ (X : World) (z : Int), Row X gb (cur2.set (jj * 88 + 87) (.int .i64 z)) tPo → Gro (· = gb) U2 X → Oc w X ((b13, y.cells, tP) :: (R1 ++ [(wr.heap.size, x.cells, 53), (w.heap.size, M, 37)])) [(p, v9, ((t + 1 : Nat) : Int), S')] (bk.set jj { bj with gone := z }) (some ⟨gb, 0, none⟩) k cb) := hset2
            clear hAb2 hrb2 hlb2 hset2 d86 d87 e87 e88 x90 e1
            go_wp2_with (first
              | (refine wpList_ixL tPos tPo (.tmp 188) (.tmp 191) rfl gb 0 k cb jj 88 rfl rfl HJK.out Try.underlying59 info_Po rfl ?_; simp only [Act.put, List.setIfInBounds_toArray, List.set_cons_zero, List.set_cons_succ])
              | (refine wpList_stE rfl 3 (.tmp 193) (.const (.int .i64 1)) rfl gb (jj * 88 + 87) (.int .i64 1) cur2 tPo rfl (by omega) rfl rfl HRB2.out HLB2.out info_int rfl ?_; intro Y5 q1 q2; have q3 := HST2.out Y5 1 q1 q2; have HY5 : Hid (Oc w Y5 ((b13, y.cells, tP) :: (R1 ++ [(wr.heap.size, x.cells, 53), (w.heap.size, M, 37)])) [(p, v9, ((t + 1 : Nat) : Int), S')] (bk.set jj { bj with gone := 1 }) (some ⟨gb, 0, none⟩) k cb) := q3; have e1 : Y5.cell? ⟨b13, 1, none⟩ = some (.int .i64 y.c.n) := (q3.hp.row _ (List.mem_cons_self ..)).cell 1 _ (Pn.at_c y 0 _ (Cm.at_n y.c)); clear q1 q2 q3 HU2 e0))
            have OY : Hid (Oc w Y5 [(w.heap.size, M, 37)] [(p, v9, ((t + 1 : Nat) : Int), S')] (bk.set jj { bj with gone := 1 }) (some ⟨gb, 0, none⟩) k cb) := HY5.out.dropR (fun r hr => by { obtain rfl := List.mem_singleton.1 hr; exact (List.mem_cons_of_mem _ (List.mem_append_right _ (List.mem_cons_of_mem _ (List.mem_cons_self ..)))) })
            exact HTL.out _ _ (by kernel_rfl) (by kernel_rfl) ⟨v9, (bk.set jj { bj with gone := 1 }), (some ⟨gb, 0, none⟩), k, cb, y.c.n, rfl, rfl, (by rw [HCF'.out]), (by have := HKT.out; omega), OY.out, HINV.out⟩
        · have hne2 : (E == 0) = false := by simpa using hE
          obtain ⟨hs2, hN0⟩ := confirm_ref hp hE
          subst hN0
          have HSS2 : Hid (S' = S) := hs2
          have HC : Hid (∀ X p v, Ld X p v (t : Int) S → Calls Try.prog 24 #[.pointer (some ⟨p, 0, none⟩), .int .i64 x.now] X fun e w' => e = .returned (.tuple #[.agg zP.cells.toArray, .int .i64 E]) ∧ Ts X w' p v (t : Int) S') := fun X p v h => confirm_any h x.now S' zP E hp
          clear hp hst hs2
          go_wp2_with (first
            | (go_at_call 24; refine Calls.mono (HC.out _ _ _ (HZ.out.hp.lad _ (List.mem_cons_self ..))) ?_; rintro e Y0 ⟨rfl, q1⟩; obtain ⟨v9, q2⟩ := HZ.out.turn 0 rfl (q1.tn.mono (show (t : Int) ≤ ((t + 1 : Nat) : Int) by omega)); have HY0 : Hid (Oc w Y0 (R1 ++ [(wr.heap.size, x.cells, 53), (w.heap.size, M, 37)]) [(p, v9, ((t + 1 : Nat) : Int), S')] bk Ab k cb) := q2; clear q2 HZ ck; clear q1 c89 c90 c91)
            | (refine wpList_alP rfl rfl ?_; intro Y1 q1 q2 q3; clear q3; have RD : Hid (Row Y1 Y0.heap.size zP.cells tP) := q1; have BD : Hid (Below Y0.heap.size Y0 Y1) := q2; clear q1 q2; simp only [Act.put, List.setIfInBounds_toArray, List.set_cons_zero, List.set_cons_succ])
            | (refine wpList_stL rfl tP (.tmp 13) (.tmp 113) rfl Y0.heap.size zP.cells zP.cells tP rfl rfl RD.out ((Pn.len zP_wf).trans (Pn.len zP_wf).symm) (Pn.info zP_wf) (all_one (Pn.one zP)) ?_; intro Y q1 q2; have HY : Hid (Oc w Y ((Y0.heap.size, zP.cells, tP) :: (R1 ++ [(wr.heap.size, x.cells, 53), (w.heap.size, M, 37)])) [(p, v9, ((t + 1 : Nat) : Int), S')] bk Ab k cb) := HY0.out.addR (gro_newL BD.out (Nat.le_refl _) q2) q1 (Nat.le_refl _) (by decide); clear q1 q2 HY0 RD BD))
          have OY : Hid (Oc w Y [(w.heap.size, M, 37)] [(p, v9, ((t + 1 : Nat) : Int), S')] bk Ab k cb) := HY.out.dropR (fun r hr => by { obtain rfl := List.mem_singleton.1 hr; exact (List.mem_cons_of_mem _ (List.mem_append_right _ (List.mem_cons_of_mem _ (List.mem_cons_self ..)))) })
          exact HTL.out _ _ (by kernel_rfl) (by kernel_rfl) ⟨v9, bk, Ab, k, cb, cn, rfl, rfl, (by rw [HSS2.out]; exact HCN.out), (by have := HKT.out; omega), OY.out, (by rw [HSS2.out]; exact HIN.out)⟩
      have n2 := hk
      clear hk
      by_cases hk : kd = 3
      · subst hk
        have hst : S' = (S.drop x.nr).1 := by rw [HSD.out, La.doS]; simp only [HKD.out]; rfl
        obtain ⟨gone, E, hp⟩ : ∃ y E, S.drop x.nr = (S', y, E) := ⟨(S.drop x.nr).2.1, (S.drop x.nr).2.2, by rw [hst]⟩
        by_cases hE : E = 0
        · subst hE
          obtain ⟨i, hfi, hse, hge⟩ : ∃ i, fiN S.pend x.nr = some i ∧ S' = { S with pend := S.pend.take i } ∧ gone = S.pend.drop i := by
            unfold La.drop at hp
            split at hp
            · cases hp
            · rename_i i hfi
              cases hp
              exact ⟨i, hfi, rfl, rfl⟩
          obtain ⟨hil, y0, hy0, hyn⟩ := fiN_lt hfi
          rw [HML.out] at hil
          obtain ⟨m3, hm3⟩ : ∃ m3, m3 = m - i := ⟨_, rfl⟩
          have HM3E : Hid (m3 = m - i) := hm3
          have HGL : Hid (gone.length = m3) := by show _ = _; rw [hge, List.length_drop, HML.out, hm3]
          have HPI : Hid (S.pend[i]? = some y0) := hy0
          have HGW : Hid (∀ q ∈ gone, q.Wf) := fun q hq => HPW.out q (by rw [hge] at hq; exact List.mem_of_mem_drop hq)
          have HG0 : Hid (gone[0]? = some y0) := by show _ = _; rw [hge, List.getElem?_drop, Nat.add_zero]; exact hy0
          have HYN : Hid (y0.nr = x.nr) := hyn
          have HGE : Hid (gone = S.pend.drop i) := hge
          have HINV : Hid (Inv S' (bgos bk gone 2) win) := by have := HIN.out.dropped i; rw [← hse, ← hge] at this; exact this
          have HCF' : Hid (S'.conf = S.conf) := by show _ = _; rw [hse]
          have HGS : Hid (∀ q ∈ gone, q ∈ S.pend) := fun q hq => by rw [hge] at hq; exact List.mem_of_mem_drop hq
          have HIM : Hid (i ≤ m) := by show _ ≤ _; omega
          have HILT : Hid (i < m) := hil
          have HI0 : Hid (decide ((i : Int) < 0) = false) := decide_eq_false (by omega)
          have HNOD : Hid (∀ (j1 j2 : Nat) (q1 q2 : Pn), j1 < j2 → gone[j1]? = some q1 → gone[j2]? = some q2 → q1.nr < q2.nr) := fun j1 j2 q1 q2 hj h1 h2 => by
            rw [hge, List.getElem?_drop] at h1 h2
            have hpw := pw_nr HIN.out
            rw [List.pairwise_iff_getElem] at hpw
            obtain ⟨l1, e1⟩ := List.getElem?_eq_some_iff.1 h1
            obtain ⟨l2, e2⟩ := List.getElem?_eq_some_iff.1 h2
            have := hpw (i + j1) (i + j2) (by rw [List.length_map]; exact l1) (by rw [List.length_map]; exact l2) (by omega)
            rw [List.getElem_map, List.getElem_map, e1, e2] at this
            exact this
          have HC : Hid (∀ X p v, Ld X p v (t : Int) S → Calls Try.prog 25 #[.pointer (some ⟨p, 0, none⟩), .int .i64 x.nr] X fun e w' => ∃ A' m c', e = .returned (.tuple #[.slice A' m c', .int .i64 0]) ∧ gone.length = m ∧ Lw w' tP 90 (.slice A' m c') m (pcs gone) ∧ Fresh X.heap.size (.slice A' m c') ∧ Ts X w' p v (t : Int) S') := fun X p v h => drop_any h x.nr S' gone 0 hp
          clear hp hst hfi hse hge hil hy0 hyn hm3
          have hmm : m ≤ 1000000 := HMB.out
          have hsub : IntKind.i64.wrap ((m : Int) - (m3 : Int)) = (i : Int) := by rw [IntKind.wrap_i64]; have := HIM.out; have := HM3E.out; omega
          go_upto_region 33 with (first
            | (go_at_call 25; refine Calls.mono (HC.out _ _ _ (HZ.out.hp.lad _ (List.mem_cons_self ..))) ?_; rintro e Y ⟨A3, m4, c3, rfl, q3, q4, q5, q6⟩; obtain rfl : m4 = m3 := q3.symm.trans HGL.out; obtain ⟨R3, q8, q9⟩ := Lw.rowsT q4 q3 HGW.out q5; obtain ⟨v9, q2, q10⟩ := HZ.out.turnS 0 rfl q6 (show (t : Int) ≤ ((t + 1 : Nat) : Int) by omega); have HY : Hid (Oc w Y (R3 ++ (R1 ++ [(wr.heap.size, x.cells, 53), (w.heap.size, M, 37)])) [(p, v9, ((t + 1 : Nat) : Int), S')] bk Ab k cb) := q2.addN q8 (fun l hl g hg => by { obtain rfl := List.mem_singleton.1 hl; exact (HZ.out.hp.lad _ (List.mem_cons_self ..)).lt g (hg.imp id (fun z => by { rw [← q10]; exact z })) }); have HR3 : Hid (∀ X, (∀ r ∈ R3, Row X r.1 r.2.1 r.2.2) → Pr X A3 m4 gone) := q9; clear q2 q3 q4 q5 q6 q8 q9 q10 ck c89 c90 c91 HZ))
          obtain ⟨V, hV⟩ : ∃ V, V = Y := ⟨_, rfl⟩
          subst hV
          obtain ⟨m3, hm9⟩ : ∃ m3, m3 = m4 := ⟨_, rfl⟩
          subst hm9
          have hpa := HR1.out V (fun r hr => HY.out.hp.row r (List.mem_append_right _ (List.mem_append_left _ hr)))
          have hpg := HR3.out V (fun r hr => HY.out.hp.row r (List.mem_append_left _ hr))
          obtain ⟨ga, oa, hA1, _⟩ := hpa.get HPI.out
          subst hA1
          obtain ⟨g3, o3, hA3, hrg3⟩ := hpg.get HG0.out
          subst hA3
          have HRN : Hid (∀ X, Below V.heap.size V X → X.cell? ⟨g3, o3 + 0 * 90, none⟩ = some (.int .i64 x.nr)) := fun X q => by
            have := range_be hrg3 q 0 _ (Pn.at_nr y0)
            rw [HYN.out] at this
            exact this
          have HSAM : Hid (∀ X, Below V.heap.size V X → Calls Try.prog 26 #[.slice (some ⟨g3, o3, none⟩) m3 c3, .slice (cutL (some ⟨ga, oa, none⟩) k1 i 90) (m - i) (k1 - i)] X fun e w' => e = .returned (.bool true) ∧ Below X.heap.size X w') := fun X q => by
            refine same_any X _ _ m3 (m - i) c3 (k1 - i) gone (S.pend.drop i) (hpg.be q) ⟨by rw [List.length_drop, HML.out], fun z hz => HPW.out z (List.mem_of_mem_drop hz), fun e => ?_, fun ad e => ?_⟩ (by have := HM3E.out; omega) true (decide_eq_true HGE.out).symm
            · rw [cutL_some (by have := HK1.out; have := HILT.out; omega)] at e; cases e
            · rw [cutL_some (by have := HK1.out; have := HILT.out; omega)] at e
              obtain ⟨g', o', e', hr'⟩ := (hpa.be q).at_ _ rfl
              obtain ⟨rfl, rfl⟩ : ga = g' ∧ oa = o' := by simpa using e'
              refine ⟨ga, oa + i * 90, (Option.some.inj e).symm, fun j u hj => ?_⟩
              rw [Nat.add_assoc]
              refine hr' _ u ?_
              rw [← List.getElem?_drop, pcs_drop HPW.out]
              exact hj
          have HM30 : Hid (((m3 : Int) == 0) = false) := by show _ = _; have := HM3E.out; have := HILT.out; simp; omega
          have HM3P : Hid (0 < m3) := by show _ < _; have := HM3E.out; have := HILT.out; omega
          obtain ⟨b9, hb9⟩ : ∃ b, b = wr.heap.size := ⟨_, rfl⟩
          rw [← hb9] at HY HTL ⊢
          have HB9 : Hid (b9 = wr.heap.size) := hb9
          have rX : Row V b9 x.cells 53 := HY.out.hp.row _ (List.mem_append_right _ (List.mem_append_right _ (List.mem_cons_self ..)))
          have hb1 := Below.refl V.heap.size V
          have HPG : Hid (Pr V (some ⟨g3, o3, none⟩) m3 gone) := hpg
          clear hpa hpg hrg3 hb9 hsub
          refine wp_named fun a0 ha0 => ?_
          have hsz : a0.tmps.size = 360 := by rw [ha0]; rfl
          have zs9 : a0.eval (.tmp 9) = .pointer (some ⟨b9, 0, none⟩) := by rw [ha0]; rfl
          have zs10 : a0.eval (.tmp 10) = .slice (some ⟨ga, oa, none⟩) m k1 := by rw [ha0]; rfl
          have zs16 : a0.eval (.tmp 16) = .slice (some ⟨g3, o3, none⟩) m3 c3 := by rw [ha0]; rfl
          have zs18 : a0.eval (.tmp 18) = .int .i64 (i : Int) := by rw [ha0]; rfl
          obtain ⟨D, hD⟩ : ∃ D : List (Tmp × SP), D = [(213, SP.is (.int .i64 (i : Int))), (214, SP.is (.bool false)), (215, SP.is (.bool false)), (216, SP.is (.slice (some ⟨g3, o3, none⟩) m3 c3)), (217, SP.is (.int .i64 (m3 : Int))), (218, SP.is (.bool false)), (219, SP.is (.bool false)), (220, SP.is (.bool false)), (221, SP.is (.slice (some ⟨g3, o3, none⟩) m3 c3)), (222, SP.is (.pointer (some ⟨g3, o3 + 0 * 90, none⟩))), (223, SP.is (.pointer (some ⟨g3, o3 + 0 * 90, none⟩))), (224, SP.is (.int .i64 x.nr)), (225, SP.is (.pointer (some ⟨b9, 0 + 91, none⟩))), (226, SP.is (.int .i64 x.nr)), (227, SP.is (.bool false)), (228, SP.is (.bool false)), (229, SP.is (.bool false)), (230, SP.is (.slice (some ⟨g3, o3, none⟩) m3 c3)), (231, SP.is (.slice (some ⟨ga, oa, none⟩) m k1)), (232, SP.is (.int .i64 (i : Int))), (233, SP.is (.slice (cutL (some ⟨ga, oa, none⟩) k1 i 90) (m - i) (k1 - i))), (234, SP.is (.bool true)), (235, SP.is (.bool (!true))), (236, SP.is (.bool (!true)))] := ⟨_, rfl⟩
          refine wp_region_down (by kernel_rfl) (fun listed ac W => listed.size = 24 ∧ Fp D a0 listed ac W ∧ Below V.heap.size V W ∧ Row W b9 x.cells 53) ?_ ?_ ?_
          · exact ⟨by simp, Fp.start D a0 _ _, Below.drew hb1, Row.drew rX⟩
          · clear ha0 hb1 rX 
            intro listed ac W k hI hdn hk
            obtain ⟨hl, hF, hb1, rX⟩ := hI
            have hk1 : k < 24 := List.mem_range.1 (List.mem_filter.1 hk).1
            have hl2 : ∀ j, (listed.setIfInBounds j true).size = 24 := fun j => by rw [Array.size_setIfInBounds]; exact hl
            rcases (show k = 0 ∨ k = 1 ∨ k = 2 ∨ k = 3 ∨ k = 4 ∨ k = 5 ∨ k = 6 ∨ k = 7 ∨ k = 8 ∨ k = 9 ∨ k = 10 ∨ k = 11 ∨ k = 12 ∨ k = 13 ∨ k = 14 ∨ k = 15 ∨ k = 16 ∨ k = 17 ∨ k = 18 ∨ k = 19 ∨ k = 20 ∨ k = 21 ∨ k = 22 ∨ k = 23 by omega) with rfl | rfl | rfl | rfl | rfl | rfl | rfl | rfl | rfl | rfl | rfl | rfl | rfl | rfl | rfl | rfl | rfl | rfl | rfl | rfl | rfl | rfl | rfl | rfl
            · have hk3 := hk
              exact wpOp_plain rfl rfl (wp_move_v (ac.eval (.tmp 18)) rfl rfl ⟨hl2 0, (hF.put 0 213 (SP.is (.int .i64 (i : Int))) (ac.eval (.tmp 18)) (by rw [hD]; rfl) (((hF.keep 18 (by rw [hD]; rfl)).trans zs18)) (by rw [hD]; rfl) (by rw [hsz]; decide) (by rw [hl]; decide)), hb1, rX⟩)
            · have hk3 := hk
              have e0 := (hF.done 0 (213, SP.is (.int .i64 (i : Int))) (by rw [hD]; rfl) (ready_dep hk 0 (by kernel_rfl)))
              exact wpOp_plain rfl rfl (wp_lssI rfl rfl (i : Int) 0 false e0 rfl HI0.out ⟨hl2 1, (hF.put 1 214 (SP.is (.bool false)) (.bool false) (by rw [hD]; rfl) rfl (by rw [hD]; rfl) (by rw [hsz]; decide) (by rw [hl]; decide)), hb1, rX⟩)
            · have hk3 := hk
              exact wpOp_plain rfl rfl (wp_move_v (ac.eval (.tmp 214)) rfl rfl ⟨hl2 2, (hF.put 2 215 (SP.is (.bool false)) (ac.eval (.tmp 214)) (by rw [hD]; rfl) ((hF.done 1 (214, SP.is (.bool false)) (by rw [hD]; rfl) (ready_dep hk 1 (by kernel_rfl)))) (by rw [hD]; rfl) (by rw [hsz]; decide) (by rw [hl]; decide)), hb1, rX⟩)
            · have hk3 := hk
              exact wpOp_wanted rfl (wanted_g (g := 2) (b := false) rfl rfl (hF.done 2 (215, SP.is (.bool false)) (by rw [hD]; rfl) (ready_dep hk 2 (by kernel_rfl))) (by rw [hF.size, hsz]; decide)) (wp_move_v (ac.eval (.tmp 16)) rfl rfl ⟨hl2 3, (hF.put 3 216 (SP.is (.slice (some ⟨g3, o3, none⟩) m3 c3)) (ac.eval (.tmp 16)) (by rw [hD]; rfl) (((hF.keep 16 (by rw [hD]; rfl)).trans zs16)) (by rw [hD]; rfl) (by rw [hsz]; decide) (by rw [hl]; decide)), hb1, rX⟩)
            · have hk3 := hk
              have e0 := (hF.done 3 (216, SP.is (.slice (some ⟨g3, o3, none⟩) m3 c3)) (by rw [hD]; rfl) (ready_dep hk 3 (by kernel_rfl)))
              exact wpOp_wanted rfl (wanted_g (g := 2) (b := false) rfl rfl (hF.done 2 (215, SP.is (.bool false)) (by rw [hD]; rfl) (ready_dep hk 2 (by kernel_rfl))) (by rw [hF.size, hsz]; decide)) (wp_lenL tPs tP (some ⟨g3, o3, none⟩) m3 c3 rfl Try.underlying42 e0 ⟨hl2 4, (hF.put 4 217 (SP.is (.int .i64 (m3 : Int))) (.int .i64 (m3 : Int)) (by rw [hD]; rfl) rfl (by rw [hD]; rfl) (by rw [hsz]; decide) (by rw [hl]; decide)), hb1, rX⟩)
            · have hk3 := hk
              have e0 := (hF.done 4 (217, SP.is (.int .i64 (m3 : Int))) (by rw [hD]; rfl) (ready_dep hk 4 (by kernel_rfl)))
              exact wpOp_wanted rfl (wanted_g (g := 2) (b := false) rfl rfl (hF.done 2 (215, SP.is (.bool false)) (by rw [hD]; rfl) (ready_dep hk 2 (by kernel_rfl))) (by rw [hF.size, hsz]; decide)) (wp_eqI rfl rfl (m3 : Int) 0 false e0 rfl HM30.out ⟨hl2 5, (hF.put 5 218 (SP.is (.bool false)) (.bool false) (by rw [hD]; rfl) rfl (by rw [hD]; rfl) (by rw [hsz]; decide) (by rw [hl]; decide)), hb1, rX⟩)
            · have hk3 := hk
              have e0 := (hF.done 2 (215, SP.is (.bool false)) (by rw [hD]; rfl) (ready_dep hk 2 (by kernel_rfl)))
              have e1 := (hF.done 5 (218, SP.is (.bool false)) (by rw [hD]; rfl) (ready_dep hk 5 (by kernel_rfl)))
              exact wpOp_plain rfl rfl (wp_pickF (.bool false) rfl e0 e1 ⟨hl2 6, (hF.put 6 219 (SP.is (.bool false)) (.bool false) (by rw [hD]; rfl) rfl (by rw [hD]; rfl) (by rw [hsz]; decide) (by rw [hl]; decide)), hb1, rX⟩)
            · have hk3 := hk
              exact wpOp_plain rfl rfl (wp_move_v (ac.eval (.tmp 219)) rfl rfl ⟨hl2 7, (hF.put 7 220 (SP.is (.bool false)) (ac.eval (.tmp 219)) (by rw [hD]; rfl) ((hF.done 6 (219, SP.is (.bool false)) (by rw [hD]; rfl) (ready_dep hk 6 (by kernel_rfl)))) (by rw [hD]; rfl) (by rw [hsz]; decide) (by rw [hl]; decide)), hb1, rX⟩)
            · have hk3 := hk
              exact wpOp_wanted rfl (wanted_g (g := 7) (b := false) rfl rfl (hF.done 7 (220, SP.is (.bool false)) (by rw [hD]; rfl) (ready_dep hk 7 (by kernel_rfl))) (by rw [hF.size, hsz]; decide)) (wp_move_v (ac.eval (.tmp 16)) rfl rfl ⟨hl2 8, (hF.put 8 221 (SP.is (.slice (some ⟨g3, o3, none⟩) m3 c3)) (ac.eval (.tmp 16)) (by rw [hD]; rfl) (((hF.keep 16 (by rw [hD]; rfl)).trans zs16)) (by rw [hD]; rfl) (by rw [hsz]; decide) (by rw [hl]; decide)), hb1, rX⟩)
            · have hk3 := hk
              have e0 := (hF.done 8 (221, SP.is (.slice (some ⟨g3, o3, none⟩) m3 c3)) (by rw [hD]; rfl) (ready_dep hk 8 (by kernel_rfl)))
              exact wpOp_wanted rfl (wanted_g (g := 7) (b := false) rfl rfl (hF.done 7 (220, SP.is (.bool false)) (by rw [hD]; rfl) (ready_dep hk 7 (by kernel_rfl))) (by rw [hF.size, hsz]; decide)) (wp_ixL tPs tP rfl g3 o3 m3 c3 0 90 e0 rfl HM3P.out Try.underlying42 info_P ⟨hl2 9, (hF.put 9 222 (SP.is (.pointer (some ⟨g3, o3 + 0 * 90, none⟩))) (.pointer (some ⟨g3, o3 + 0 * 90, none⟩)) (by rw [hD]; rfl) rfl (by rw [hD]; rfl) (by rw [hsz]; decide) (by rw [hl]; decide)), hb1, rX⟩)
            · have hk3 := hk
              have e0 := (hF.done 9 (222, SP.is (.pointer (some ⟨g3, o3 + 0 * 90, none⟩))) (by rw [hD]; rfl) (ready_dep hk 9 (by kernel_rfl)))
              exact wpOp_wanted rfl (wanted_g (g := 7) (b := false) rfl rfl (hF.done 7 (220, SP.is (.bool false)) (by rw [hD]; rfl) (ready_dep hk 7 (by kernel_rfl))) (by rw [hF.size, hsz]; decide)) (wp_P0 rfl g3 (o3 + 0 * 90) e0 ⟨hl2 10, (hF.put 10 223 (SP.is (.pointer (some ⟨g3, o3 + 0 * 90, none⟩))) (.pointer (some ⟨g3, o3 + 0 * 90, none⟩)) (by rw [hD]; rfl) rfl (by rw [hD]; rfl) (by rw [hsz]; decide) (by rw [hl]; decide)), hb1, rX⟩)
            · have hk3 := hk
              have e0 := (hF.done 10 (223, SP.is (.pointer (some ⟨g3, o3 + 0 * 90, none⟩))) (by rw [hD]; rfl) (ready_dep hk 10 (by kernel_rfl)))
              exact wpOp_wanted rfl (wanted_g (g := 7) (b := false) rfl rfl (hF.done 7 (220, SP.is (.bool false)) (by rw [hD]; rfl) (ready_dep hk 7 (by kernel_rfl))) (by rw [hF.size, hsz]; decide)) (wp_ld1 g3 (o3 + 0 * 90) (.int .i64 x.nr) rfl e0 (ld_int W g3 (o3 + 0 * 90) _ (HRN.out W hb1)) ⟨hl2 11, (hF.put 11 224 (SP.is (.int .i64 x.nr)) (.int .i64 x.nr) (by rw [hD]; rfl) rfl (by rw [hD]; rfl) (by rw [hsz]; decide) (by rw [hl]; decide)), hb1, rX⟩)
            · have hk3 := hk
              have e0 := ((hF.keep 9 (by rw [hD]; rfl)).trans zs9)
              exact wpOp_wanted rfl (wanted_g (g := 7) (b := false) rfl rfl (hF.done 7 (220, SP.is (.bool false)) (by rw [hD]; rfl) (ready_dep hk 7 (by kernel_rfl))) (by rw [hF.size, hsz]; decide)) (wp_St7 rfl b9 0 e0 ⟨hl2 12, (hF.put 12 225 (SP.is (.pointer (some ⟨b9, 0 + 91, none⟩))) (.pointer (some ⟨b9, 0 + 91, none⟩)) (by rw [hD]; rfl) rfl (by rw [hD]; rfl) (by rw [hsz]; decide) (by rw [hl]; decide)), hb1, rX⟩)
            · have hk3 := hk
              have e0 := (hF.done 12 (225, SP.is (.pointer (some ⟨b9, 0 + 91, none⟩))) (by rw [hD]; rfl) (ready_dep hk 12 (by kernel_rfl)))
              exact wpOp_wanted rfl (wanted_g (g := 7) (b := false) rfl rfl (hF.done 7 (220, SP.is (.bool false)) (by rw [hD]; rfl) (ready_dep hk 7 (by kernel_rfl))) (by rw [hF.size, hsz]; decide)) (wp_ld1 b9 (0 + 91) (.int .i64 x.nr) rfl e0 (ld_int W b9 (0 + 91) _ (rX.cell 91 _ (Sp16.at_nr HXO.out))) ⟨hl2 13, (hF.put 13 226 (SP.is (.int .i64 x.nr)) (.int .i64 x.nr) (by rw [hD]; rfl) rfl (by rw [hD]; rfl) (by rw [hsz]; decide) (by rw [hl]; decide)), hb1, rX⟩)
            · have hk3 := hk
              have e0 := (hF.done 11 (224, SP.is (.int .i64 x.nr)) (by rw [hD]; rfl) (ready_dep hk 11 (by kernel_rfl)))
              have e1 := (hF.done 13 (226, SP.is (.int .i64 x.nr)) (by rw [hD]; rfl) (ready_dep hk 13 (by kernel_rfl)))
              exact wpOp_wanted rfl (wanted_g (g := 7) (b := false) rfl rfl (hF.done 7 (220, SP.is (.bool false)) (by rw [hD]; rfl) (ready_dep hk 7 (by kernel_rfl))) (by rw [hF.size, hsz]; decide)) (wp_neI rfl rfl x.nr x.nr false e0 e1 (by simp) ⟨hl2 14, (hF.put 14 227 (SP.is (.bool false)) (.bool false) (by rw [hD]; rfl) rfl (by rw [hD]; rfl) (by rw [hsz]; decide) (by rw [hl]; decide)), hb1, rX⟩)
            · have hk3 := hk
              have e0 := (hF.done 7 (220, SP.is (.bool false)) (by rw [hD]; rfl) (ready_dep hk 7 (by kernel_rfl)))
              have e1 := (hF.done 14 (227, SP.is (.bool false)) (by rw [hD]; rfl) (ready_dep hk 14 (by kernel_rfl)))
              exact wpOp_plain rfl rfl (wp_pickF (.bool false) rfl e0 e1 ⟨hl2 15, (hF.put 15 228 (SP.is (.bool false)) (.bool false) (by rw [hD]; rfl) rfl (by rw [hD]; rfl) (by rw [hsz]; decide) (by rw [hl]; decide)), hb1, rX⟩)
            · have hk3 := hk
              exact wpOp_plain rfl rfl (wp_move_v (ac.eval (.tmp 228)) rfl rfl ⟨hl2 16, (hF.put 16 229 (SP.is (.bool false)) (ac.eval (.tmp 228)) (by rw [hD]; rfl) ((hF.done 15 (228, SP.is (.bool false)) (by rw [hD]; rfl) (ready_dep hk 15 (by kernel_rfl)))) (by rw [hD]; rfl) (by rw [hsz]; decide) (by rw [hl]; decide)), hb1, rX⟩)
            · have hk3 := hk
              exact wpOp_wanted rfl (wanted_g (g := 16) (b := false) rfl rfl (hF.done 16 (229, SP.is (.bool false)) (by rw [hD]; rfl) (ready_dep hk 16 (by kernel_rfl))) (by rw [hF.size, hsz]; decide)) (wp_move_v (ac.eval (.tmp 16)) rfl rfl ⟨hl2 17, (hF.put 17 230 (SP.is (.slice (some ⟨g3, o3, none⟩) m3 c3)) (ac.eval (.tmp 16)) (by rw [hD]; rfl) (((hF.keep 16 (by rw [hD]; rfl)).trans zs16)) (by rw [hD]; rfl) (by rw [hsz]; decide) (by rw [hl]; decide)), hb1, rX⟩)
            · have hk3 := hk
              exact wpOp_wanted rfl (wanted_g (g := 16) (b := false) rfl rfl (hF.done 16 (229, SP.is (.bool false)) (by rw [hD]; rfl) (ready_dep hk 16 (by kernel_rfl))) (by rw [hF.size, hsz]; decide)) (wp_move_v (ac.eval (.tmp 10)) rfl rfl ⟨hl2 18, (hF.put 18 231 (SP.is (.slice (some ⟨ga, oa, none⟩) m k1)) (ac.eval (.tmp 10)) (by rw [hD]; rfl) (((hF.keep 10 (by rw [hD]; rfl)).trans zs10)) (by rw [hD]; rfl) (by rw [hsz]; decide) (by rw [hl]; decide)), hb1, rX⟩)
            · have hk3 := hk
              exact wpOp_wanted rfl (wanted_g (g := 16) (b := false) rfl rfl (hF.done 16 (229, SP.is (.bool false)) (by rw [hD]; rfl) (ready_dep hk 16 (by kernel_rfl))) (by rw [hF.size, hsz]; decide)) (wp_move_v (ac.eval (.tmp 18)) rfl rfl ⟨hl2 19, (hF.put 19 232 (SP.is (.int .i64 (i : Int))) (ac.eval (.tmp 18)) (by rw [hD]; rfl) (((hF.keep 18 (by rw [hD]; rfl)).trans zs18)) (by rw [hD]; rfl) (by rw [hsz]; decide) (by rw [hl]; decide)), hb1, rX⟩)
            · have hk3 := hk
              have e0 := (hF.done 18 (231, SP.is (.slice (some ⟨ga, oa, none⟩) m k1)) (by rw [hD]; rfl) (ready_dep hk 18 (by kernel_rfl)))
              have e1 := (hF.done 19 (232, SP.is (.int .i64 (i : Int))) (by rw [hD]; rfl) (ready_dep hk 19 (by kernel_rfl)))
              exact wpOp_wanted rfl (wanted_g (g := 16) (b := false) rfl rfl (hF.done 16 (229, SP.is (.bool false)) (by rw [hD]; rfl) (ready_dep hk 16 (by kernel_rfl))) (by rw [hF.size, hsz]; decide)) (wp_cutF tPs tP (.tmp 231) (.tmp 232) (some ⟨ga, oa, none⟩) m k1 i 90 rfl e0 e1 HIM.out Try.underlying42 info_P ⟨hl2 20, (hF.put 20 233 (SP.is (.slice (cutL (some ⟨ga, oa, none⟩) k1 i 90) (m - i) (k1 - i))) (.slice (cutL (some ⟨ga, oa, none⟩) k1 i 90) (m - i) (k1 - i)) (by rw [hD]; rfl) rfl (by rw [hD]; rfl) (by rw [hsz]; decide) (by rw [hl]; decide)), hb1, rX⟩)
            · have hk3 := hk
              have ea := (hF.done 17 (230, SP.is (.slice (some ⟨g3, o3, none⟩) m3 c3)) (by rw [hD]; rfl) (ready_dep hk 17 (by kernel_rfl)))
              have eb := (hF.done 20 (233, SP.is (.slice (cutL (some ⟨ga, oa, none⟩) k1 i 90) (m - i) (k1 - i))) (by rw [hD]; rfl) (ready_dep hk 20 (by kernel_rfl)))
              refine wpOp_wanted rfl (wanted_g (g := 16) (b := false) rfl rfl (hF.done 16 (229, SP.is (.bool false)) (by rw [hD]; rfl) (ready_dep hk 16 (by kernel_rfl))) (by rw [hF.size, hsz]; decide)) (wp_fcall_v 26 #[.slice (some ⟨g3, o3, none⟩) m3 c3, .slice (cutL (some ⟨ga, oa, none⟩) k1 i 90) (m - i) (k1 - i)] rfl rfl (by show [ac.eval (.tmp 230), ac.eval (.tmp 233)] = _; rw [show ac.eval (.tmp 230) = _ from ea, show ac.eval (.tmp 233) = _ from eb]) (by go_simp) ((HSAM.out W hb1).mono ?_))
              rintro e W2 ⟨rfl, hB⟩
              exact ⟨_, rfl, hl2 21, ((hF.world hB).put 21 234 (SP.is (.bool true)) (.bool true) (by rw [hD]; rfl) rfl (by rw [hD]; rfl) (by rw [hsz]; decide) (by rw [hl]; decide)), hb1.trans (hB.mono hb1.size), Row.below rX hB (Row.lt rX)⟩
            · have hk3 := hk
              have e0 := (hF.done 21 (234, SP.is (.bool true)) (by rw [hD]; rfl) (ready_dep hk 21 (by kernel_rfl)))
              exact wpOp_wanted rfl (wanted_g (g := 16) (b := false) rfl rfl (hF.done 16 (229, SP.is (.bool false)) (by rw [hD]; rfl) (ready_dep hk 16 (by kernel_rfl))) (by rw [hF.size, hsz]; decide)) (wp_notL rfl true e0 ⟨hl2 22, (hF.put 22 235 (SP.is (.bool (!true))) (.bool (!true)) (by rw [hD]; rfl) rfl (by rw [hD]; rfl) (by rw [hsz]; decide) (by rw [hl]; decide)), hb1, rX⟩)
            · have hk3 := hk
              have e0 := (hF.done 16 (229, SP.is (.bool false)) (by rw [hD]; rfl) (ready_dep hk 16 (by kernel_rfl)))
              have e1 := (hF.done 22 (235, SP.is (.bool (!true))) (by rw [hD]; rfl) (ready_dep hk 22 (by kernel_rfl)))
              exact wpOp_plain rfl rfl (wp_pickF (.bool (!true)) rfl e0 e1 ⟨hl2 23, (hF.put 23 236 (SP.is (.bool (!true))) (.bool (!true)) (by rw [hD]; rfl) rfl (by rw [hD]; rfl) (by rw [hsz]; decide) (by rw [hl]; decide)), hb1, rX⟩)
          · clear hb1 rX 
            intro listed ac W hI hr
            obtain ⟨hl, hF, hb1, rX⟩ := hI
            have hall := all_listed (by kernel_rfl) hl hr
            have h213 : ac.eval (.tmp 213) = .int .i64 (i : Int) := hF.done 0 (213, SP.is (.int .i64 (i : Int))) (by rw [hD]; rfl) (hall 0 (by decide))
            have h214 : ac.eval (.tmp 214) = .bool false := hF.done 1 (214, SP.is (.bool false)) (by rw [hD]; rfl) (hall 1 (by decide))
            have h215 : ac.eval (.tmp 215) = .bool false := hF.done 2 (215, SP.is (.bool false)) (by rw [hD]; rfl) (hall 2 (by decide))
            have h216 : ac.eval (.tmp 216) = .slice (some ⟨g3, o3, none⟩) m3 c3 := hF.done 3 (216, SP.is (.slice (some ⟨g3, o3, none⟩) m3 c3)) (by rw [hD]; rfl) (hall 3 (by decide))
            have h217 : ac.eval (.tmp 217) = .int .i64 (m3 : Int) := hF.done 4 (217, SP.is (.int .i64 (m3 : Int))) (by rw [hD]; rfl) (hall 4 (by decide))
            have h218 : ac.eval (.tmp 218) = .bool false := hF.done 5 (218, SP.is (.bool false)) (by rw [hD]; rfl) (hall 5 (by decide))
            have h219 : ac.eval (.tmp 219) = .bool false := hF.done 6 (219, SP.is (.bool false)) (by rw [hD]; rfl) (hall 6 (by decide))
            have h220 : ac.eval (.tmp 220) = .bool false := hF.done 7 (220, SP.is (.bool false)) (by rw [hD]; rfl) (hall 7 (by decide))
            have h221 : ac.eval (.tmp 221) = .slice (some ⟨g3, o3, none⟩) m3 c3 := hF.done 8 (221, SP.is (.slice (some ⟨g3, o3, none⟩) m3 c3)) (by rw [hD]; rfl) (hall 8 (by decide))
            have h222 : ac.eval (.tmp 222) = .pointer (some ⟨g3, o3 + 0 * 90, none⟩) := hF.done 9 (222, SP.is (.pointer (some ⟨g3, o3 + 0 * 90, none⟩))) (by rw [hD]; rfl) (hall 9 (by decide))
            have h223 : ac.eval (.tmp 223) = .pointer (some ⟨g3, o3 + 0 * 90, none⟩) := hF.done 10 (223, SP.is (.pointer (some ⟨g3, o3 + 0 * 90, none⟩))) (by rw [hD]; rfl) (hall 10 (by decide))
            have h224 : ac.eval (.tmp 224) = .int .i64 x.nr := hF.done 11 (224, SP.is (.int .i64 x.nr)) (by rw [hD]; rfl) (hall 11 (by decide))
            have h225 : ac.eval (.tmp 225) = .pointer (some ⟨b9, 0 + 91, none⟩) := hF.done 12 (225, SP.is (.pointer (some ⟨b9, 0 + 91, none⟩))) (by rw [hD]; rfl) (hall 12 (by decide))
            have h226 : ac.eval (.tmp 226) = .int .i64 x.nr := hF.done 13 (226, SP.is (.int .i64 x.nr)) (by rw [hD]; rfl) (hall 13 (by decide))
            have h227 : ac.eval (.tmp 227) = .bool false := hF.done 14 (227, SP.is (.bool false)) (by rw [hD]; rfl) (hall 14 (by decide))
            have h228 : ac.eval (.tmp 228) = .bool false := hF.done 15 (228, SP.is (.bool false)) (by rw [hD]; rfl) (hall 15 (by decide))
            have h229 : ac.eval (.tmp 229) = .bool false := hF.done 16 (229, SP.is (.bool false)) (by rw [hD]; rfl) (hall 16 (by decide))
            have h230 : ac.eval (.tmp 230) = .slice (some ⟨g3, o3, none⟩) m3 c3 := hF.done 17 (230, SP.is (.slice (some ⟨g3, o3, none⟩) m3 c3)) (by rw [hD]; rfl) (hall 17 (by decide))
            have h231 : ac.eval (.tmp 231) = .slice (some ⟨ga, oa, none⟩) m k1 := hF.done 18 (231, SP.is (.slice (some ⟨ga, oa, none⟩) m k1)) (by rw [hD]; rfl) (hall 18 (by decide))
            have h232 : ac.eval (.tmp 232) = .int .i64 (i : Int) := hF.done 19 (232, SP.is (.int .i64 (i : Int))) (by rw [hD]; rfl) (hall 19 (by decide))
            have h233 : ac.eval (.tmp 233) = .slice (cutL (some ⟨ga, oa, none⟩) k1 i 90) (m - i) (k1 - i) := hF.done 20 (233, SP.is (.slice (cutL (some ⟨ga, oa, none⟩) k1 i 90) (m - i) (k1 - i))) (by rw [hD]; rfl) (hall 20 (by decide))
            have h234 : ac.eval (.tmp 234) = .bool true := hF.done 21 (234, SP.is (.bool true)) (by rw [hD]; rfl) (hall 21 (by decide))
            have h235 : ac.eval (.tmp 235) = .bool (!true) := hF.done 22 (235, SP.is (.bool (!true))) (by rw [hD]; rfl) (hall 22 (by decide))
            have h236 : ac.eval (.tmp 236) = .bool (!true) := hF.done 23 (236, SP.is (.bool (!true))) (by rw [hD]; rfl) (hall 23 (by decide))
            have ea := hF.lay [(213, .int .i64 (i : Int)), (214, .bool false), (215, .bool false), (216, .slice (some ⟨g3, o3, none⟩) m3 c3), (217, .int .i64 (m3 : Int)), (218, .bool false), (219, .bool false), (220, .bool false), (221, .slice (some ⟨g3, o3, none⟩) m3 c3), (222, .pointer (some ⟨g3, o3 + 0 * 90, none⟩)), (223, .pointer (some ⟨g3, o3 + 0 * 90, none⟩)), (224, .int .i64 x.nr), (225, .pointer (some ⟨b9, 0 + 91, none⟩)), (226, .int .i64 x.nr), (227, .bool false), (228, .bool false), (229, .bool false), (230, .slice (some ⟨g3, o3, none⟩) m3 c3), (231, .slice (some ⟨ga, oa, none⟩) m k1), (232, .int .i64 (i : Int)), (233, .slice (cutL (some ⟨ga, oa, none⟩) k1 i 90) (m - i) (k1 - i)), (234, .bool true), (235, .bool (!true)), (236, .bool (!true))] (by rw [hD, hsz]; rfl) (by simp only [List.forall_mem_cons, List.not_mem_nil, false_implies, implies_true, and_true]; exact ⟨h213, h214, h215, h216, h217, h218, h219, h220, h221, h222, h223, h224, h225, h226, h227, h228, h229, h230, h231, h232, h233, h234, h235, h236⟩)
            rw [ha0] at ea
            simp only [List.foldl_cons, List.foldl_nil, List.setIfInBounds_toArray, List.set_cons_zero, List.set_cons_succ] at ea
            clear hF hall hr hl hD  zs9 zs10 zs16 zs18 ha0 hsz h213 h214 h215 h216 h217 h218 h219 h220 h221 h222 h223 h224 h225 h226 h227 h228 h229 h230 h231 h232 h233 h234 h235 h236
            subst ea
            have HU : Hid (Oc w W (R3 ++ (R1 ++ [(b9, x.cells, 53), (w.heap.size, M, 37)])) [(p, v9, ((t + 1 : Nat) : Int), S')] bk Ab k cb) := HY.out.below hb1
            clear hb1 rX HRN HSAM HY
            go_wp2
            go_loopw [19] (fun iv wq => ∃ j : Nat, j ≤ m3 ∧ iv = .int .i64 (j : Int) ∧ Oc w wq (R3 ++ (R1 ++ [(b9, x.cells, 53), (w.heap.size, M, 37)])) [(p, v9, ((t + 1 : Nat) : Int), S')] (bgos bk (gone.take j) 2) Ab k cb) (fun iv _ => m3 - (intOf iv).toNat)
            case atStart => exact ⟨0, Nat.zero_le _, rfl, HU.out⟩
            case round =>
              clear HU
              obtain ⟨j, hjm, rfl, hH⟩ := hrel
              have HJH : Hid (Oc w wr (R3 ++ (R1 ++ [(b9, x.cells, 53), (w.heap.size, M, 37)])) [(p, v9, ((t + 1 : Nat) : Int), S')] (bgos bk (gone.take j) 2) Ab k cb) := hH
              clear hH
              by_cases hj : j < m3
              · have hj2 : (j : Int) < (m3 : Int) := by omega
                have hm3b : m3 ≤ 1000000 := by have := HM3E.out; have := HMB.out; omega
                obtain ⟨q, hq⟩ : ∃ q, gone[j]? = some q := ⟨_, List.getElem?_eq_getElem (by rw [HGL.out]; exact hj)⟩
                have hqm := HGS.out q (List.mem_of_getElem? hq)
                obtain ⟨bq, z1, z2, z3, z4, z5, z6, z7⟩ := HIN.out.at hqm
                obtain ⟨jq, hjq⟩ : ∃ jq, jq = (q.nr - 1).toNat := ⟨_, rfl⟩
                rw [← hjq] at z1
                have hbq : (bgos bk (gone.take j) 2)[jq]? = some bq := by
                  rw [bgos_ne (fun y hy e => ?_)]
                  · exact z1
                  · obtain ⟨i1, hi1, rfl⟩ := List.getElem_of_mem hy
                    rw [List.length_take] at hi1
                    have g1 : gone[i1]? = some (gone.take j)[i1] := by rw [List.getElem_take, List.getElem?_eq_getElem]
                    have l1 := HNOD.out i1 j _ q (by omega) g1 hq
                    obtain ⟨_, _, _, _, _, _, y6, _⟩ := HIN.out.at (HGS.out _ (List.mem_of_getElem? g1))
                    omega
                have hpg := HR3.out wr (fun r hr => HJH.out.hp.row r (List.mem_append_left _ hr))
                obtain ⟨g4, o4, e4, hrq⟩ := hpg.get hq
                obtain ⟨rfl, rfl⟩ : g3 = g4 ∧ o3 = o4 := by simpa using e4
                have c0 := hrq 0 _ (Pn.at_nr q)
                rw [Nat.add_zero] at c0
                obtain ⟨gb, cur, hAb, hjk, hrb, hlb, hrgb, hset⟩ := HJH.out.at hbq
                subst hAb
                have d87 := hrgb 87 _ (Bk.at_gone (HJH.out.bw bq (List.mem_of_getElem? hbq)))
                rw [z2] at d87
                have d87' := d87
                rw [Nat.zero_add] at d87'
                have HJK : Hid (jq < k) := hjk
                have hs1 : IntKind.i64.wrap (q.nr - 1) = (jq : Int) := by rw [IntKind.wrap_i64]; have := HKT.out; rw [HKL.out] at z7; omega
                have f1 : ¬ q.nr < 1 := by omega
                have f2 : ¬ (k : Int) < q.nr := by rw [HKL.out] at z7; omega
                have HRB : Hid (Row wr gb cur tPo) := hrb
                rw [Nat.zero_add] at hset
                have HLB : Hid (jq * 88 + 87 < cur.length) := by show _ < _; omega
                have HST : Hid (∀ (X : World) (z : Int), Row X gb (cur.set (jq * 88 + 87) (.int .i64 z)) tPo → Gro (· = gb) wr X → Oc w X (R3 ++ (R1 ++ [(b9, x.cells, 53), (w.heap.size, M, 37)])) [(p, v9, ((t + 1 : Nat) : Int), S')] ((bgos bk (gone.take j) 2).set jq { bq with gone := z }) (some ⟨gb, 0, none⟩) k cb) := hset
                have HNX : Hid (bgos bk (gone.take (j + 1)) 2 = (bgos bk (gone.take j) 2).set jq { bq with gone := 2 }) := by
                  show _ = _
                  rw [List.take_add_one, hq]
                  show bgos bk (gone.take j ++ [q]) 2 = _
                  rw [bgos_snoc]
                  unfold bgo
                  rw [← hjq, hbq]
                clear hq hqm z1 z2 z3 z4 z5 z6 z7 hjq hbq hpg hrq hjk hrb hlb hrgb hset e4
                go_wp2_with (first
                  | (refine wpList_ixL tPs tP (.tmp 243) (.tmp 244) rfl g3 o3 m3 c3 j 90 rfl rfl hj Try.underlying42 info_P rfl ?_; simp only [Act.put, List.setIfInBounds_toArray, List.set_cons_zero, List.set_cons_succ])
                  | (refine wpList_ixL tPos tPo (.tmp 257) (.tmp 259) rfl gb 0 k cb jq 88 rfl rfl HJK.out Try.underlying59 info_Po rfl ?_; simp only [Act.put, List.setIfInBounds_toArray, List.set_cons_zero, List.set_cons_succ])
                  | (refine wpList_ixL tPos tPo (.tmp 265) (.tmp 267) rfl gb 0 k cb jq 88 rfl rfl HJK.out Try.underlying59 info_Po rfl ?_; simp only [Act.put, List.setIfInBounds_toArray, List.set_cons_zero, List.set_cons_succ])
                  | (refine wpList_stE rfl 3 (.tmp 269) (.const (.int .i64 2)) rfl gb (jq * 88 + 87) (.int .i64 2) cur tPo rfl (by omega) rfl rfl HRB.out HLB.out info_int rfl ?_; intro U5 q1 q2; have HU5 : Hid (Oc w U5 (R3 ++ (R1 ++ [(b9, x.cells, 53), (w.heap.size, M, 37)])) [(p, v9, ((t + 1 : Nat) : Int), S')] (bgos bk (gone.take (j + 1)) 2) (some ⟨gb, 0, none⟩) k cb) := by { rw [HNX.out]; exact HST.out U5 2 q1 q2 }; clear q1 q2 HJH c0 d87 d87'))
                exact ⟨⟨j + 1, hj, by go_num, HU5.out⟩, by simp [intOf]; omega⟩
              · have hj2 : ¬ ((j : Int) < (m3 : Int)) := by omega
                have HE2 : Hid (bgos bk (gone.take j) 2 = bgos bk gone 2) := by show _ = _; rw [List.take_of_length_le (by rw [HGL.out]; omega)]
                go_wp2
                exact HTL.out _ _ (by kernel_rfl) (by kernel_rfl) ⟨v9, bgos bk gone 2, Ab, k, cb, cn, rfl, rfl, (by rw [HCF'.out]; exact HCN.out), (by have := HKT.out; omega), (by rw [← HE2.out]; exact HJH.out.dropR (fun r hr => by { obtain rfl := List.mem_singleton.1 hr; exact List.mem_append_right _ (List.mem_append_right _ (List.mem_cons_of_mem _ (List.mem_cons_self ..))) })), HINV.out⟩
        · have hne2 : (E == 0) = false := by simpa using hE
          obtain ⟨hs2, hN0⟩ := drop_ref hp hE
          subst hN0
          have HSS2 : Hid (S' = S) := hs2
          have HC : Hid (∀ X p v, Ld X p v (t : Int) S → Calls Try.prog 25 #[.pointer (some ⟨p, 0, none⟩), .int .i64 x.nr] X fun e w' => ∃ A' m c', e = .returned (.tuple #[.slice A' m c', .int .i64 E]) ∧ ([] : List Pn).length = m ∧ Lw w' tP 90 (.slice A' m c') m (pcs []) ∧ Fresh X.heap.size (.slice A' m c') ∧ Ts X w' p v (t : Int) S') := fun X p v h => drop_any h x.nr S' [] E hp
          clear hp hst hs2
          go_wp2_with (first
            | (go_at_call 25; refine Calls.mono (HC.out _ _ _ (HZ.out.hp.lad _ (List.mem_cons_self ..))) ?_; rintro e Y ⟨A3, m4, c3, rfl, q3, q4, q5, q6⟩; obtain ⟨v9, q2⟩ := HZ.out.turn 0 rfl (q6.tn.mono (show (t : Int) ≤ ((t + 1 : Nat) : Int) by omega)); have HY : Hid (Oc w Y (R1 ++ [(wr.heap.size, x.cells, 53), (w.heap.size, M, 37)]) [(p, v9, ((t + 1 : Nat) : Int), S')] bk Ab k cb) := q2; clear q2 q3 q4 q5 q6 ck c89 c90 c91 HZ))
          have OY : Hid (Oc w Y [(w.heap.size, M, 37)] [(p, v9, ((t + 1 : Nat) : Int), S')] bk Ab k cb) := HY.out.dropR (fun r hr => by { obtain rfl := List.mem_singleton.1 hr; exact (List.mem_append_right _ (List.mem_cons_of_mem _ (List.mem_cons_self ..))) })
          exact HTL.out _ _ (by kernel_rfl) (by kernel_rfl) ⟨v9, bk, Ab, k, cb, cn, rfl, rfl, (by rw [HSS2.out]; exact HCN.out), (by have := HKT.out; omega), OY.out, (by rw [HSS2.out]; exact HIN.out)⟩
      have n3 := hk
      clear hk
      by_cases hk : kd = 4
      · subst hk
        have hst : S' = (S.hold x.nr x.now).1 := by rw [HSD.out, La.doS]; simp only [HKD.out]; rfl
        obtain ⟨E, hp⟩ : ∃ E, S.hold x.nr x.now = (S', E) := ⟨(S.hold x.nr x.now).2, by rw [hst]⟩
        obtain ⟨hinv, hcf⟩ := HIN.out.held HOKS.out hp
        have HINV : Hid (Inv S' bk win) := hinv
        have HCFE : Hid (S'.conf = S.conf) := hcf
        have HC : Hid (∀ X p v, Ld X p v (t : Int) S → Calls Try.prog 27 #[.pointer (some ⟨p, 0, none⟩), .int .i64 x.nr, .int .i64 x.now] X fun e w' => e = .returned (.int .i64 E) ∧ Tn X w' p v ((t + 1 : Nat) : Int) S') := fun X p v h => hold_any h (by omega) x.nr x.now S' E hp
        clear hp hst hinv hcf
        go_wp2_with (first
          | (go_at_call 27; refine Calls.mono (HC.out _ _ _ (HZ.out.hp.lad _ (List.mem_cons_self ..))) ?_; rintro e Y ⟨rfl, q1⟩; obtain ⟨v9, q2⟩ := HZ.out.turn 0 rfl q1; have HY : Hid (Oc w Y (R1 ++ [(wr.heap.size, x.cells, 53), (w.heap.size, M, 37)]) [(p, v9, ((t + 1 : Nat) : Int), S')] bk Ab k cb) := q2; clear q2 HZ ck; clear q1 c89 c90 c91))
        have OY : Hid (Oc w Y [(w.heap.size, M, 37)] [(p, v9, ((t + 1 : Nat) : Int), S')] bk Ab k cb) := HY.out.dropR (fun r hr => by { obtain rfl := List.mem_singleton.1 hr; exact (List.mem_append_right _ (List.mem_cons_of_mem _ (List.mem_cons_self ..))) })
        exact HTL.out _ _ (by kernel_rfl) (by kernel_rfl) ⟨v9, bk, Ab, k, cb, cn, rfl, rfl, (by rw [HCFE.out]; exact HCN.out), (by have := HKT.out; omega), OY.out, (HINV.out)⟩
      have n4 := hk
      clear hk
      by_cases hk : kd = 5
      · subst hk
        have hst : S' = (S.rel x.nr).1 := by rw [HSD.out, La.doS]; simp only [HKD.out]; rfl
        obtain ⟨E, hp⟩ : ∃ E, S.rel x.nr = (S', E) := ⟨(S.rel x.nr).2, by rw [hst]⟩
        obtain ⟨hinv, hcf⟩ := HIN.out.released HOKS.out hp
        have HINV : Hid (Inv S' bk win) := hinv
        have HCFE : Hid (S'.conf = S.conf) := hcf
        have HC : Hid (∀ X p v, Ld X p v (t : Int) S → Calls Try.prog 28 #[.pointer (some ⟨p, 0, none⟩), .int .i64 x.nr] X fun e w' => e = .returned (.int .i64 E) ∧ Tn X w' p v (t : Int) S') := fun X p v h => release_any h (by omega) x.nr S' E hp
        clear hp hst hinv hcf
        go_wp2_with (first
          | (go_at_call 28; refine Calls.mono (HC.out _ _ _ (HZ.out.hp.lad _ (List.mem_cons_self ..))) ?_; rintro e Y ⟨rfl, q1⟩; obtain ⟨v9, q2⟩ := HZ.out.turn 0 rfl (q1.mono (show (t : Int) ≤ ((t + 1 : Nat) : Int) by omega)); have HY : Hid (Oc w Y (R1 ++ [(wr.heap.size, x.cells, 53), (w.heap.size, M, 37)]) [(p, v9, ((t + 1 : Nat) : Int), S')] bk Ab k cb) := q2; clear q2 HZ ck; clear q1 c89 c90 c91))
        have OY : Hid (Oc w Y [(w.heap.size, M, 37)] [(p, v9, ((t + 1 : Nat) : Int), S')] bk Ab k cb) := HY.out.dropR (fun r hr => by { obtain rfl := List.mem_singleton.1 hr; exact (List.mem_append_right _ (List.mem_cons_of_mem _ (List.mem_cons_self ..))) })
        exact HTL.out _ _ (by kernel_rfl) (by kernel_rfl) ⟨v9, bk, Ab, k, cb, cn, rfl, rfl, (by rw [HCFE.out]; exact HCN.out), (by have := HKT.out; omega), OY.out, (HINV.out)⟩
      have hst : S' = S := by rw [HSD.out, La.doS]; simp only [HKD.out]; rw [if_neg n1, if_neg n2, if_neg n3, if_neg n4, if_neg hk]
      obtain ⟨v9, hq9⟩ : ∃ v9, Oc w Z (R1 ++ [(wr.heap.size, x.cells, 53), (w.heap.size, M, 37)]) [(p, v9, ((t + 1 : Nat) : Int), S')] bk Ab k cb := by
        rw [hst]
        exact HZ.out.turn 0 rfl (Tn.mono (Tn.same (HZ.out.hp.lad _ (List.mem_cons_self ..)) (Below.refl _ _)) (show (t : Int) ≤ ((t + 1 : Nat) : Int) by omega))
      have HSS2 : Hid (S' = S) := hst
      have OYZ : Hid (Oc w Z [(w.heap.size, M, 37)] [(p, v9, ((t + 1 : Nat) : Int), S')] bk Ab k cb) := hq9.dropR (fun r hr => by { obtain rfl := List.mem_singleton.1 hr; exact (List.mem_append_right _ (List.mem_cons_of_mem _ (List.mem_cons_self ..))) })
      clear hq9 hst
      clear HZ c89 c90 c91
      go_wp2
      exact HTL.out _ _ (by kernel_rfl) (by kernel_rfl) ⟨v9, bk, Ab, k, cb, cn, rfl, rfl, (by rw [HSS2.out]; exact HCN.out), (by have := HKT.out; omega), OYZ.out, (by rw [HSS2.out]; exact HIN.out)⟩

end Go.Proofs.Ytdilgeikleddbaa
