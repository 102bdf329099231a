/-
  LadderApart: its walk.
-/
import Derived.Test.YtfdbjcdcfmnicaaLaM
namespace Go.Proofs.Ytfdbjcdcfmnicaa
open Go Go.RowKit
open Sha

theorem Hp.addRs {w0 w w' : World} {rs rs' : List (Nat × List Value × TypeId)} {ls : List (Nat × Value × Int × La)} (h : Hp w0 w rs ls) (k : Below w.heap.size w w') (hr : ∀ r ∈ rs', Row w' r.1 r.2.1 r.2.2 ∧ w.heap.size ≤ r.1) : Hp w0 w' (rs' ++ rs) ls := by
  have h2 := h.below k
  refine ⟨h2.be, fun q hq => ?_, h2.lad, h2.new, fun q hq l hl => ?_, h2.ll⟩
  · rcases List.mem_append.1 hq with hq | hq
    · exact (hr q hq).1
    · exact h2.row q hq
  · rcases List.mem_append.1 hq with hq | hq
    · intro z
      have := (h.lad l hl).lt _ z
      have := (hr q hq).2
      omega
    · exact h2.rl q hq l hl
/-- A list that was told, as rows. -/
theorem Lw.rows {w : World} {A : Option Addr} {n c N : Nat} {l : List Pn} (h : Lw w tP 90 (.slice A n c) n (pcs l)) (hn : l.length = n) (hw : ∀ p ∈ l, p.Wf) (hf : Fresh N (.slice A n c)) : ∃ rs : List (Nat × List Value × TypeId), (∀ r ∈ rs, Row w r.1 r.2.1 r.2.2 ∧ N ≤ r.1) ∧ ∀ X, (∀ r ∈ rs, Row X r.1 r.2.1 r.2.2) → Pr X A n l := by
  rcases h.2 with ⟨h2, h3⟩ | ⟨g, cap, cur, hv, _, hh, hc, _, hs, ht⟩
  · obtain ⟨rfl, rfl⟩ : A = none ∧ n = 0 := by cases h2; exact ⟨rfl, rfl⟩
    exact ⟨[], (fun r hr => by cases hr), fun X _ => ⟨hn, hw, fun _ => rfl, fun ad e => by cases e⟩⟩
  · obtain ⟨rfl, rfl⟩ : A = some ⟨g, 0, none⟩ ∧ c = cap := by simpa using hv
    have hr : Row w g cur.toList tP := by unfold Row; rw [hh]
    refine ⟨[(g, cur.toList, tP)], fun r hr' => ?_, fun X hX => ⟨hn, hw, (fun e => by cases e), fun ad e => ⟨g, 0, (Option.some.inj e).symm, ?_⟩⟩⟩
    · obtain rfl := List.mem_singleton.1 hr'
      exact ⟨hr, hf g rfl⟩
    · refine (hX _ (List.mem_singleton.2 rfl)).range 0 _ (fun j u hj => ?_)
      rw [Nat.zero_add]
      rw [← ht] at hj
      have hj2 : j < n * 90 := by have := (List.getElem?_eq_some_iff.1 hj).1; rw [List.length_take] at this; omega
      rwa [List.getElem?_take_of_lt hj2] at hj
def La.runS (st : La) (l : List Sp16) : La := l.foldl La.doS st
theorem runS_succ (st : La) (l : List Sp16) (t : Nat) (x : Sp16) (h : l[t]? = some x) : st.runS (l.take (t + 1)) = (st.runS (l.take t)).doS x := by
  unfold La.runS
  rw [List.take_add_one, h, List.foldl_append]
  rfl
theorem scr_len {c : Cm} (h : c.Wf) (win : Int) (v : Value) : (scr c win v).length = 68 := by unfold scr; rw [List.length_append, Cm.len h]; rfl
theorem scr_66 {c : Cm} (h : c.Wf) (win : Int) (v : Value) : (scr c win v)[66]? = some (.int .i64 win) := by unfold scr; rw [List.getElem?_append_right (by rw [Cm.len h]; decide), Cm.len h]; rfl
theorem scr_67 {c : Cm} (h : c.Wf) (win : Int) (v : Value) : (scr c win v)[67]? = some v := by unfold scr; rw [List.getElem?_append_right (by rw [Cm.len h]; decide), Cm.len h]; rfl
theorem scr_c (c : Cm) (win : Int) (v : Value) (j : Nat) (u : Value) (hj : c.cells[j]? = some u) : (scr c win v)[0 + j]? = some u := by unfold scr; rw [Nat.zero_add, List.getElem?_append_left ((List.getElem?_eq_some_iff.1 hj).1)]; exact hj
theorem SsAt.get {w w' : World} {A : Option Addr} {rs : List Sp16} (h : SsAt w A rs) (k : Below w.heap.size w w') {t : Nat} {x : Sp16} (hx : rs[t]? = some x) : x.Ok ∧ ∃ b o, A = some ⟨b, o, none⟩ ∧ w'.rangeAt b (o + t * 94) x.cells := by
  obtain ⟨h1, b, o, h2, h3⟩ := h t x hx
  exact ⟨h1, b, o, h2, range_be h3 k⟩
theorem Sp16.info {s : Sp16} (h : s.Ok) : (Try.prog.info? 53).map (·.size) = some s.cells.length := by rw [Sp16.len h]; exact info_St
theorem newE_cases {c : Cm} {win : Int} (h : newE c win = 0) : c.May ∧ 1 ≤ win ∧ win ≤ 4611686018427387904 := by
  unfold newE at h
  split at h
  · rename_i h1
    split at h
    · rename_i h2; exact ⟨(mayB_iff c).1 h1, h2⟩
    · cases h
  · cases h
theorem doS_ok {B : Int} {st : La} (h : st.Ok B) (hB : 0 ≤ B) (s : Sp16) (hs : s.Ok) : (st.doS s).Ok (B + 1) := by
  have h1 := h.mono (show B ≤ B + 1 by omega)
  unfold La.doS
  split
  · unfold La.post
    split
    · exact h1
    · rename_i ht
      split
      · exact h1
      · split
        · exact h1
        · rename_i hf
          split
          · exact h1
          · split
            · exact h1
            · rename_i hl
              have htm : 0 ≤ s.now ∧ s.now ≤ 4611686018427387904 := by
                have : (tmB s.now && decide (st.last ≤ s.now)) = true := by simpa using ht
                unfold tmB at this
                simp only [Bool.and_eq_true, decide_eq_true_eq] at this
                exact this.1
              have hfo : folB s.c st.top = true := by simpa using hf
              have hm : s.c.May := by
                unfold folB at hfo
                simp only [Bool.and_eq_true] at hfo
                exact (mayB_iff _).1 hfo.1.1.1
              exact La.post_ok h htm.1 htm.2 hs.c hm hs.a (by omega) hB
  · split
    · unfold La.confirm
      split
      · exact h1
      · rename_i ht
        have htm : 0 ≤ s.now ∧ s.now ≤ 4611686018427387904 := by
          have : (tmB s.now && decide (st.last ≤ s.now)) = true := by simpa using ht
          unfold tmB at this
          simp only [Bool.and_eq_true, decide_eq_true_eq] at this
          exact this.1
        split
        · exact h1
        · rename_i x rest hp
          split
          · exact h1
          · split
            · exact h1
            · exact (La.confirm_ok h htm.1 htm.2 hp).mono (by omega)
    · split
      · unfold La.drop
        split
        · exact h1
        · exact (La.take_ok h _).mono (by omega)
      · split
        · unfold La.hold
          split
          · exact h1
          · split
            · exact h1
            · rename_i i hf
              split
              · exact h1
              · rename_i x hx
                split
                · exact h1
                · have := h.pd x (List.mem_of_getElem? hx)
                  exact La.setDu_ok h hx _ (by omega) (by omega) (by omega)
        · split
          · unfold La.rel
            split
            · exact h1
            · rename_i i hf
              split
              · exact h1
              · rename_i x hx
                split
                · exact h1
                · have := h.pd x (List.mem_of_getElem? hx)
                  exact La.setDu_ok h hx _ (by omega) (by omega) (by omega)
          · exact h1
set_option maxRecDepth 100000 in
set_option maxHeartbeats 8000000 in
theorem apart_walk (c : Cm) (hc : c.Wf) (win cut : Int) (hcut : B64 cut) (rs : List Sp16) (A : Option Addr) (n cap : Nat) (hn : rs.length = n) (hn2 : n < 35184372088832) (M : List Value) (hM : M = scr c win (.slice A n cap)) (w : World) (hss : SsAt w A rs) : Calls Try.prog 8 #[.agg M.toArray, .int .i64 cut] w fun e w' => e = .returned (.bool true) ∧ Below w.heap.size w w' := by
  have HCW : Hid c.Wf := hc
  have HIC : Hid ((Try.prog.info? tC).map (·.size) = some c.cells.length) := Cm.info hc
  have HM66 : Hid (M[66]? = some (.int .i64 win)) := by show _ = _; rw [hM]; exact scr_66 hc _ _
  have HM67 : Hid (M[67]? = some (.slice A n cap)) := by show _ = _; rw [hM]; exact scr_67 hc _ _
  have HMC : Hid (∀ j u, c.cells[j]? = some u → M[0 + j]? = some u) := fun j u hj => by rw [hM]; exact scr_c c _ _ j u hj
  have HSS : Hid (SsAt w A rs) := hss
  have HNR : Hid (rs.length = n) := hn
  by_cases hE : newE c win = 0
  case neg =>
    obtain ⟨E, hEE⟩ : ∃ E, newE c win = E := ⟨_, rfl⟩
    have HNEW : Hid (∀ X, Calls Try.prog 21 #[.agg c.cells.toArray, .int .i64 win] X fun e w' => e = .returned (.tuple #[.pointer none, .int .i64 E]) ∧ Below X.heap.size X w') := fun X => new_no c hc win _ rfl E hEE (by rw [← hEE]; exact hE) X
    have hne : ¬ E = 0 := by rw [← hEE]; exact hE
    have hne2 : (E != 0) = true := by simpa using hne
    clear hEE hE hc hM hss hn hcut
    go_enter Try.func8, Try.ntmps8
    go_wp2_with (first
      | (refine wpList_bxG 37 rfl (.tmp 0) rfl M rfl ?_; intro X0 q1 q2 q3; clear q3; have H0 : Hid (Hp w X0 [(w.heap.size, M, 37)] []) := (Hp.nil w).addR q2 q1 (Nat.le_refl _); clear q1 q2; simp only [Act.put, List.setIfInBounds_toArray, List.set_cons_zero, List.set_cons_succ])
      | (go_at_call 9; refine Calls.mono (awake_any _) ?_; rintro e X1 ⟨rfl, q⟩; have H1 : Hid (Hp w X1 [(w.heap.size, M, 37)] []) := H0.out.below q; have c66 : X1.cell? ⟨w.heap.size, 66, none⟩ = some (.int .i64 win) := (H1.out.row _ (List.mem_cons_self ..)).cell 66 _ HM66.out; clear q H0)
      | (refine wpList_ldS rfl tC (.tmp 25) rfl w.heap.size 0 rfl c.cells _ ((H1.out.row _ (List.mem_cons_self ..)).range 0 _ HMC.out) Try.underlying25 rfl HIC.out ?_; simp only [Act.put, List.setIfInBounds_toArray, List.set_cons_zero, List.set_cons_succ])
      | (go_at_call 21; refine Calls.mono (HNEW.out _) ?_; rintro e X2 ⟨rfl, q⟩; have B2 : Hid (Below w.heap.size w X2) := H1.out.be.trans (q.mono H1.out.be.size); clear q))
    go_ret
    exact ⟨rfl, B2.out⟩
  case pos =>
  obtain ⟨S0, hS0⟩ : ∃ S, S = La0 c win := ⟨_, rfl⟩
  have HNEW : Hid (∀ X, Calls Try.prog 21 #[.agg c.cells.toArray, .int .i64 win] X fun e w' => ∃ p, e = .returned (.tuple #[.pointer (some ⟨p, 0, none⟩), .int .i64 0]) ∧ Ld w' p (.slice none 0 0) 0 S0 ∧ X.heap.size ≤ p ∧ Below X.heap.size X w') := fun X => by rw [hS0]; exact new_ok c hc win _ rfl hE (Int.le_refl 0) X
  have hadd : IntKind.i64.wrap ((n : Int) + 1) = ((n + 1 : Nat) : Int) := by rw [IntKind.wrap_i64]; omega
  obtain ⟨a, ha⟩ : ∃ a, a = pk cut (n + 1) := ⟨_, rfl⟩
  have HPK : Hid (∀ X, Calls Try.prog 16 #[.int .i64 cut, .int .i64 ((n + 1 : Nat) : Int)] X fun e w' => e = .returned (.int .i64 (a : Int)) ∧ w' = X) := fun X => by rw [ha]; exact pick_any cut (n + 1) hcut (by omega) (by omega) X
  have han : a ≤ n := by
    have q1 := Int.emod_nonneg (if cut < 0 then -(cut + 1) else cut) (show ((n + 1 : Nat) : Int) ≠ 0 by omega)
    have q2 := Int.emod_lt_of_pos (if cut < 0 then -(cut + 1) else cut) (show (0 : Int) < ((n + 1 : Nat) : Int) by omega)
    rw [ha]; unfold pk; omega
  have HDO : Hid (∀ X p v (t : Nat) (x : Sp16), t < n → rs[t]? = some x → x.Ok → Ld X p v (t : Int) (S0.runS (rs.take t)) → Calls Try.prog 33 #[.pointer (some ⟨p, 0, none⟩), .agg x.cells.toArray] X fun e w' => e = .returned (.tuple #[]) ∧ Tn X w' p v ((t + 1 : Nat) : Int) (S0.runS (rs.take (t + 1)))) := fun X p v t x ht hx hxo h => by
    have := do_any h (by omega) (by omega) x hxo _ rfl _ (runS_succ S0 rs t x hx).symm
    exact this
  obtain ⟨N1, hN1⟩ : ∃ N1 : Int, N1 = ((n + 1 : Nat) : Int) := ⟨_, rfl⟩
  rw [← hN1] at hadd HPK
  clear hc hM hss hn hE hS0 hcut ha hN1
  go_enter Try.func8, Try.ntmps8
  go_wp2_with (first
    | (refine wpList_bxG 37 rfl (.tmp 0) rfl M rfl ?_; intro X0 q1 q2 q3; clear q3; have H0 : Hid (Hp w X0 [(w.heap.size, M, 37)] []) := (Hp.nil w).addR q2 q1 (Nat.le_refl _); clear q1 q2; simp only [Act.put, List.setIfInBounds_toArray, List.set_cons_zero, List.set_cons_succ])
    | (go_at_call 9; refine Calls.mono (awake_any _) ?_; rintro e X1 ⟨rfl, q⟩; have H1 : Hid (Hp w X1 [(w.heap.size, M, 37)] []) := H0.out.below q; have c66 : X1.cell? ⟨w.heap.size, 66, none⟩ = some (.int .i64 win) := (H1.out.row _ (List.mem_cons_self ..)).cell 66 _ HM66.out; clear q H0)
    | (refine wpList_ldS rfl tC (.tmp 25) rfl w.heap.size 0 rfl c.cells _ ((H1.out.row _ (List.mem_cons_self ..)).range 0 _ HMC.out) Try.underlying25 rfl HIC.out ?_; simp only [Act.put, List.setIfInBounds_toArray, List.set_cons_zero, List.set_cons_succ])
    | (go_at_call 21; refine Calls.mono (HNEW.out _) ?_; rintro e X2 ⟨p, rfl, q1, q2, q3⟩; have H2 : Hid (Hp w X2 [(w.heap.size, M, 37)] [(p, .slice none 0 0, 0, S0)]) := H1.out.addL q3 q1 (fun g hg => by { rcases hg with rfl | hg; exact q2; cases hg }); have c67 : X2.cell? ⟨w.heap.size, 67, none⟩ = some (.slice A n cap) := (H2.out.row _ (List.mem_cons_self ..)).cell 67 _ HM67.out; clear q1 q2 q3 H1 c66)
    | (go_at_call 16; refine Calls.mono (HPK.out _) ?_; rintro e X ⟨rfl, hq⟩; obtain rfl := hq.symm; clear hq))
  clear c67 HPK HNEW hadd
  go_loopw [9] (fun i wr => ∃ (t : Nat) (v : Value), t ≤ a ∧ i = .int .i64 (t : Int) ∧ Hp w wr [(w.heap.size, M, 37)] [(p, v, (t : Int), S0.runS (rs.take t))]) (fun i _ => a - (intOf i).toNat)
  case atStart => exact ⟨0, _, Nat.zero_le _, rfl, H2.out⟩
  case round =>
    clear H2
    obtain ⟨t, v, hta, rfl, hH⟩ := hrel
    have HH : Hid (Hp w wr [(w.heap.size, M, 37)] [(p, v, (t : Int), S0.runS (rs.take t))]) := hH
    clear hH
    by_cases hlt : t < a
    · have hlt2 : (t : Int) < (a : Int) := by omega
      obtain ⟨x, hx⟩ : ∃ x, rs[t]? = some x := ⟨_, List.getElem?_eq_getElem (by rw [HNR.out]; omega)⟩
      obtain ⟨hxo, b, o, rfl, hrg⟩ := HSS.out.get HH.out.be hx
      have HRG : Hid (wr.rangeAt b (o + t * 94) x.cells) := hrg
      have HXI : Hid ((Try.prog.info? 53).map (·.size) = some x.cells.length) := Sp16.info hxo
      have HCD : Hid (Calls Try.prog 33 #[.pointer (some ⟨p, 0, none⟩), .agg x.cells.toArray] wr fun e w' => e = .returned (.tuple #[]) ∧ Tn wr w' p v ((t + 1 : Nat) : Int) (S0.runS (rs.take (t + 1)))) := HDO.out wr p v t x (by omega) hx hxo (HH.out.lad _ (List.mem_cons_self ..))
      have c67 : wr.cell? ⟨w.heap.size, 67, none⟩ = some (.slice (some ⟨b, o, none⟩) n cap) := (HH.out.row _ (List.mem_cons_self ..)).cell 67 _ HM67.out
      have htn : t < n := by omega
      clear hx hxo hrg
      go_wp2_with (first
        | (refine wpList_ixL 35 53 (.tmp 56) (.tmp 57) rfl b o n cap t 94 rfl rfl htn Try.underlying35 info_St rfl ?_; simp only [Act.put, List.setIfInBounds_toArray, List.set_cons_zero, List.set_cons_succ])
        | (refine wpList_ldS rfl 53 (.tmp 58) rfl b (o + t * 94) rfl x.cells _ HRG.out Try.underlying53 rfl HXI.out ?_; simp only [Act.put, List.setIfInBounds_toArray, List.set_cons_zero, List.set_cons_succ])
        | (go_at_call 33; refine Calls.mono HCD.out ?_; rintro e Y ⟨rfl, q1⟩; obtain ⟨v9, q2, _⟩ := HH.out.turn 0 rfl q1; have HY : Hid (Hp w Y [(w.heap.size, M, 37)] [(p, v9, ((t + 1 : Nat) : Int), S0.runS (rs.take (t + 1)))]) := q2; clear q1 q2))
      exact ⟨⟨t + 1, v9, by omega, by go_num, HY.out⟩, by simp [intOf]; omega⟩
    obtain ⟨Z, hZ⟩ : ∃ Z, Z = wr := ⟨_, rfl⟩
    subst hZ
    obtain ⟨S1, hS1⟩ : ∃ S, S = S0.runS (rs.take a) := ⟨_, rfl⟩
    have eta : t = a := by omega
    have HZ0 : Hid (Hp w Z [(w.heap.size, M, 37)] [(p, v, (a : Int), S1)]) := by rw [hS1, ← eta]; exact HH.out
    have hlt2 : ¬ ((t : Int) < (a : Int)) := by omega
    obtain ⟨m, hm⟩ : ∃ m, m = S1.pend.length := ⟨_, rfl⟩
    obtain ⟨cf, hcf⟩ : ∃ cf, cf = S1.conf := ⟨_, rfl⟩
    have hok1 := (HZ0.out.lad _ (List.mem_cons_self ..)).ok
    have HPW : Hid (∀ q ∈ S1.pend, q.Wf) := hok1.pw
    have HML : Hid (S1.pend.length = m) := hm.symm
    have HMB : Hid (m ≤ 1000000) := by show _ ≤ _; have : S1.pend.length ≤ 32 := hok1.pl; omega
    have HCFW : Hid cf.Wf := by rw [hcf]; exact hok1.cf
    have HPN : Hid (∀ X p v, Ld X p v (a : Int) S1 → Calls Try.prog 22 #[.pointer (some ⟨p, 0, none⟩)] X fun r w' => ∃ A' c', r = .returned (.slice A' m c') ∧ Lw w' tP 90 (.slice A' m c') m (pcs S1.pend) ∧ Fresh X.heap.size (.slice A' m c') ∧ Below X.heap.size X w') := fun X p v h => pending_any h m hm
    have HCF : Hid (∀ X p v, Ld X p v (a : Int) S1 → Calls Try.prog 30 #[.pointer (some ⟨p, 0, none⟩)] X fun e w' => e = .returned (.agg cf.cells.toArray) ∧ Below X.heap.size X w') := fun X p v h => confirmed_any h cf hcf
    have HCP : Hid (∀ X p v, Ld X p v (a : Int) S1 → Calls Try.prog 32 #[.pointer (some ⟨p, 0, none⟩)] X fun e w' => ∃ p' v', e = .returned (.pointer (some ⟨p', 0, none⟩)) ∧ Ld w' p' v' (a : Int) S1 ∧ X.heap.size ≤ p' ∧ Fresh X.heap.size v' ∧ Below X.heap.size X w') := fun X p v h => copy_any h
    have HICF : Hid ((Try.prog.info? tC).map (·.size) = some cf.cells.length) := Cm.info HCFW.out
    have HLCF : Hid (cf.cells.length = zC.cells.length) := (Cm.len HCFW.out).trans (Cm.len zC_wf).symm
    clear HH hlt hok1 hm hcf
    go_wp2_with (first
      | (go_at_call 32; refine Calls.mono (HCP.out _ _ _ (HZ0.out.lad _ (List.mem_cons_self ..))) ?_; rintro e Z1 ⟨p2, v2, rfl, q1, q2, q3, q4⟩; have HZ1 : Hid (Hp w Z1 [(w.heap.size, M, 37)] [(p2, v2, (a : Int), S1), (p, v, (a : Int), S1)]) := HZ0.out.addL q4 q1 (fun g hg => by { rcases hg with rfl | hg; exact q2; exact q3 g hg }); clear q1 q2 q3 q4 HZ0)
      | (go_at_call 22; refine Calls.mono (HPN.out _ _ _ (HZ1.out.lad _ (List.mem_cons_of_mem _ (List.mem_cons_self ..)))) ?_; rintro e Z2 ⟨A1, k1, rfl, q1, q2, q3⟩; obtain ⟨R1, q4, q5⟩ := Lw.rows q1 HML.out HPW.out q2; have HZ2 : Hid (Hp w Z2 (R1 ++ [(w.heap.size, M, 37)]) [(p2, v2, (a : Int), S1), (p, v, (a : Int), S1)]) := HZ1.out.addRs q3 q4; have HR1 : Hid (∀ X, (∀ r ∈ R1, Row X r.1 r.2.1 r.2.2) → Pr X A1 m S1.pend) := q5; clear q1 q2 q3 q4 q5 HZ1)
      | (go_at_call 30; refine Calls.mono (HCF.out _ _ _ (HZ2.out.lad _ (List.mem_cons_of_mem _ (List.mem_cons_self ..)))) ?_; rintro e Z3 ⟨rfl, q⟩; have HZ3 : Hid (Hp w Z3 (R1 ++ [(w.heap.size, M, 37)]) [(p2, v2, (a : Int), S1), (p, v, (a : Int), S1)]) := HZ2.out.below q; clear q HZ2)
      | (refine wpList_alC rfl rfl ?_; intro Z4 q1 q2 q3; clear q3; have RA : Hid (Row Z4 Z3.heap.size zC.cells tC) := q1; have BA : Hid (Below Z3.heap.size Z3 Z4) := q2; clear q1 q2; simp only [Act.put, List.setIfInBounds_toArray, List.set_cons_zero, List.set_cons_succ])
      | (refine wpList_stL rfl tC (.tmp 12) (.tmp 68) rfl Z3.heap.size cf.cells zC.cells tC rfl rfl RA.out HLCF.out HICF.out (all_one (Cm.one cf)) ?_; intro Z5 q1 q2; have HZ5 : Hid (Hp w Z5 ((Z3.heap.size, cf.cells, tC) :: (R1 ++ [(w.heap.size, M, 37)])) [(p2, v2, (a : Int), S1), (p, v, (a : Int), S1)]) := HZ3.out.addR (gro_newL BA.out (Nat.le_refl _) q2) q1 (Nat.le_refl _); clear q1 q2 HZ3 RA BA))
    obtain ⟨b12, hb12⟩ : ∃ b, b = Z3.heap.size := ⟨_, rfl⟩
    rw [← hb12] at HZ5 ⊢
    have HS1 : Hid (S1 = S0.runS (rs.take a)) := hS1
    clear hb12 hS1 eta hlt2 hta HCP
    go_loopw [13] (fun i wr => ∃ (t : Nat) (u : Value), a ≤ t ∧ t ≤ n ∧ i = .int .i64 (t : Int) ∧ Hp w wr ((b12, cf.cells, tC) :: (R1 ++ [(w.heap.size, M, 37)])) [(p2, u, (t : Int), S0.runS (rs.take t)), (p, v, (a : Int), S1)]) (fun i _ => n - (intOf i).toNat)
    case atStart => exact ⟨a, v2, Nat.le_refl _, han, rfl, by rw [← HS1.out]; exact HZ5.out⟩
    case round =>
      clear HZ5
      obtain ⟨t, u, hat, htn0, rfl, hH⟩ := hrel
      have HH : Hid (Hp w wr ((b12, cf.cells, tC) :: (R1 ++ [(w.heap.size, M, 37)])) [(p2, u, (t : Int), S0.runS (rs.take t)), (p, v, (a : Int), S1)]) := hH
      clear hH
      by_cases hlt : t < n
      · have hlt2 : (t : Int) < (n : Int) := by omega
        obtain ⟨x, hx⟩ : ∃ x, rs[t]? = some x := ⟨_, List.getElem?_eq_getElem (by rw [HNR.out]; omega)⟩
        obtain ⟨hxo, b, o, rfl, hrg⟩ := HSS.out.get HH.out.be hx
        have HRG : Hid (wr.rangeAt b (o + t * 94) x.cells) := hrg
        have HXI : Hid ((Try.prog.info? 53).map (·.size) = some x.cells.length) := Sp16.info hxo
        have HCD : Hid (Calls Try.prog 33 #[.pointer (some ⟨p2, 0, none⟩), .agg x.cells.toArray] wr fun e w' => e = .returned (.tuple #[]) ∧ Tn wr w' p2 u ((t + 1 : Nat) : Int) (S0.runS (rs.take (t + 1)))) := HDO.out wr p2 u t x (by omega) hx hxo (HH.out.lad _ (List.mem_cons_self ..))
        have c67 : wr.cell? ⟨w.heap.size, 67, none⟩ = some (.slice (some ⟨b, o, none⟩) n cap) := (HH.out.row _ (List.mem_cons_of_mem _ (List.mem_append_right _ (List.mem_cons_self ..)))).cell 67 _ HM67.out
        have htn : t < n := by omega
        clear hx hxo hrg
        go_wp2_with (first
          | (refine wpList_ixL 35 53 (.tmp 79) (.tmp 80) rfl b o n cap t 94 rfl rfl htn Try.underlying35 info_St rfl ?_; simp only [Act.put, List.setIfInBounds_toArray, List.set_cons_zero, List.set_cons_succ])
          | (refine wpList_ldS rfl 53 (.tmp 81) rfl b (o + t * 94) rfl x.cells _ HRG.out Try.underlying53 rfl HXI.out ?_; simp only [Act.put, List.setIfInBounds_toArray, List.set_cons_zero, List.set_cons_succ])
          | (go_at_call 33; refine Calls.mono HCD.out ?_; rintro e Y ⟨rfl, q1⟩; obtain ⟨v9, q2, _⟩ := HH.out.turn 0 rfl q1; have HY : Hid (Hp w Y ((b12, cf.cells, tC) :: (R1 ++ [(w.heap.size, M, 37)])) [(p2, v9, ((t + 1 : Nat) : Int), S0.runS (rs.take (t + 1))), (p, v, (a : Int), S1)]) := q2; clear q1 q2))
        exact ⟨⟨t + 1, v9, by omega, by omega, by go_num, HY.out⟩, by simp [intOf]; omega⟩
      obtain ⟨Y, hY⟩ : ∃ Y, Y = wr := ⟨_, rfl⟩
      subst hY
      obtain ⟨SN, hSN⟩ : ∃ S, S = S0.runS (rs.take n) := ⟨_, rfl⟩
      have etn : t = n := by omega
      have HY0 : Hid (Hp w Y ((b12, cf.cells, tC) :: (R1 ++ [(w.heap.size, M, 37)])) [(p2, u, (n : Int), SN), (p, v, (a : Int), S1)]) := by rw [hSN, ← etn]; exact HH.out
      have HSN : Hid (SN = S0.runS (rs.take n)) := hSN
      have hlt2 : ¬ ((t : Int) < (n : Int)) := by omega
      have c67 : Y.cell? ⟨w.heap.size, 67, none⟩ = some (.slice A n cap) := (HY0.out.row _ (List.mem_cons_of_mem _ (List.mem_append_right _ (List.mem_cons_self ..)))).cell 67 _ HM67.out
      have HSA : Hid (∀ X Ab cb, Pr X A1 m S1.pend → Pr X Ab m S1.pend → Calls Try.prog 26 #[.slice A1 m k1, .slice Ab m cb] X fun e w' => e = .returned (.bool true) ∧ Below X.heap.size X w') := fun X Ab cb h1 h2 => same_any X A1 Ab m m k1 cb S1.pend S1.pend h1 h2 HMB.out true (decide_eq_true rfl).symm
      clear HH hlt hSN
      go_wp2_with (first
        | (go_at_call 22; refine Calls.mono (HPN.out _ _ _ (HY0.out.lad _ (List.mem_cons_of_mem _ (List.mem_cons_self ..)))) ?_; rintro e Y2 ⟨A2, k2, rfl, q1, q2, q3⟩; have P2 : Hid (Pr Y2 A2 m S1.pend) := Pr.of q1 HML.out HPW.out; have HY2 : Hid (Hp w Y2 ((b12, cf.cells, tC) :: (R1 ++ [(w.heap.size, M, 37)])) [(p2, u, (n : Int), SN), (p, v, (a : Int), S1)]) := HY0.out.below q3; clear q1 q2 q3 HY0 c67)
        | (go_at_call 30; refine Calls.mono (HCF.out _ _ _ (HY2.out.lad _ (List.mem_cons_of_mem _ (List.mem_cons_self ..)))) ?_; rintro e Y3 ⟨rfl, q⟩; have P3 : Hid (Pr Y3 A2 m S1.pend) := P2.out.be q; have HY3 : Hid (Hp w Y3 ((b12, cf.cells, tC) :: (R1 ++ [(w.heap.size, M, 37)])) [(p2, u, (n : Int), SN), (p, v, (a : Int), S1)]) := HY2.out.below q; clear q HY2 P2)
        | (refine wpList_alC rfl rfl ?_; intro Y4 q1 q2 q3; clear q3; have RA : Hid (Row Y4 Y3.heap.size zC.cells tC) := q1; have BA : Hid (Below Y3.heap.size Y3 Y4) := q2; clear q1 q2; simp only [Act.put, List.setIfInBounds_toArray, List.set_cons_zero, List.set_cons_succ])
        | (refine wpList_stL rfl tC (.tmp 15) (.tmp 87) rfl Y3.heap.size cf.cells zC.cells tC rfl rfl RA.out HLCF.out HICF.out (all_one (Cm.one cf)) ?_; intro Y5 q1 q2; have P5 : Hid (Pr Y5 A2 m S1.pend) := P3.out.be (gro_newL BA.out (Nat.le_refl _) q2); have HY5 : Hid (Hp w Y5 ((Y3.heap.size, cf.cells, tC) :: (b12, cf.cells, tC) :: (R1 ++ [(w.heap.size, M, 37)])) [(p2, u, (n : Int), SN), (p, v, (a : Int), S1)]) := HY3.out.addR (gro_newL BA.out (Nat.le_refl _) q2) q1 (Nat.le_refl _); clear q1 q2 HY3 P3 RA BA)
        | (go_at_call 26; refine Calls.mono (HSA.out _ _ _ (HR1.out _ (fun r hr => HY5.out.row r (List.mem_cons_of_mem _ (List.mem_cons_of_mem _ (List.mem_append_left _ hr))))) P5.out) ?_; rintro e Y6 ⟨rfl, q⟩; have HY6 : Hid (Hp w Y6 ((Y3.heap.size, cf.cells, tC) :: (b12, cf.cells, tC) :: (R1 ++ [(w.heap.size, M, 37)])) [(p2, u, (n : Int), SN), (p, v, (a : Int), S1)]) := HY5.out.below q; clear q HY5 P5))
      obtain ⟨b15, hb15⟩ : ∃ b, b = Y3.heap.size := ⟨_, rfl⟩
      rw [← hb15] at HY6 ⊢
      clear hb15 HSA HPN HCF etn hlt2 hat htn0
      go_loopw [17] (fun i wr => ∃ (t : Nat) (z : Value), a ≤ t ∧ t ≤ n ∧ i = .int .i64 (t : Int) ∧ Hp w wr ((b15, cf.cells, tC) :: (b12, cf.cells, tC) :: (R1 ++ [(w.heap.size, M, 37)])) [(p2, u, (n : Int), SN), (p, z, (t : Int), S0.runS (rs.take t))]) (fun i _ => n - (intOf i).toNat)
      case atStart => exact ⟨a, v, Nat.le_refl _, han, rfl, by rw [← HS1.out]; exact HY6.out⟩
      case round =>
        clear HY6
        obtain ⟨t, z, hat, htn0, rfl, hH⟩ := hrel
        have HH : Hid (Hp w wr ((b15, cf.cells, tC) :: (b12, cf.cells, tC) :: (R1 ++ [(w.heap.size, M, 37)])) [(p2, u, (n : Int), SN), (p, z, (t : Int), S0.runS (rs.take t))]) := hH
        clear hH
        by_cases hlt : t < n
        · have hlt2 : (t : Int) < (n : Int) := by omega
          obtain ⟨x, hx⟩ : ∃ x, rs[t]? = some x := ⟨_, List.getElem?_eq_getElem (by rw [HNR.out]; omega)⟩
          obtain ⟨hxo, b, o, rfl, hrg⟩ := HSS.out.get HH.out.be hx
          have HRG : Hid (wr.rangeAt b (o + t * 94) x.cells) := hrg
          have HXI : Hid ((Try.prog.info? 53).map (·.size) = some x.cells.length) := Sp16.info hxo
          have HCD : Hid (Calls Try.prog 33 #[.pointer (some ⟨p, 0, none⟩), .agg x.cells.toArray] wr fun e w' => e = .returned (.tuple #[]) ∧ Tn wr w' p z ((t + 1 : Nat) : Int) (S0.runS (rs.take (t + 1)))) := HDO.out wr p z t x (by omega) hx hxo (HH.out.lad _ (List.mem_cons_of_mem _ (List.mem_cons_self ..)))
          have c67 : wr.cell? ⟨w.heap.size, 67, none⟩ = some (.slice (some ⟨b, o, none⟩) n cap) := (HH.out.row _ (List.mem_cons_of_mem _ (List.mem_cons_of_mem _ (List.mem_append_right _ (List.mem_cons_self ..))))).cell 67 _ HM67.out
          have htn : t < n := by omega
          clear hx hxo hrg
          go_wp2_with (first
            | (refine wpList_ixL 35 53 (.tmp 101) (.tmp 102) rfl b o n cap t 94 rfl rfl htn Try.underlying35 info_St rfl ?_; simp only [Act.put, List.setIfInBounds_toArray, List.set_cons_zero, List.set_cons_succ])
            | (refine wpList_ldS rfl 53 (.tmp 103) rfl b (o + t * 94) rfl x.cells _ HRG.out Try.underlying53 rfl HXI.out ?_; simp only [Act.put, List.setIfInBounds_toArray, List.set_cons_zero, List.set_cons_succ])
            | (go_at_call 33; refine Calls.mono HCD.out ?_; rintro e Y ⟨rfl, q1⟩; obtain ⟨v9, q2, _⟩ := HH.out.turn 1 rfl q1; have HY : Hid (Hp w Y ((b15, cf.cells, tC) :: (b12, cf.cells, tC) :: (R1 ++ [(w.heap.size, M, 37)])) [(p2, u, (n : Int), SN), (p, v9, ((t + 1 : Nat) : Int), S0.runS (rs.take (t + 1)))]) := q2; clear q1 q2))
          exact ⟨⟨t + 1, v9, by omega, by omega, by go_num, HY.out⟩, by simp [intOf]; omega⟩
        obtain ⟨V, hV⟩ : ∃ V, V = wr := ⟨_, rfl⟩
        subst hV
        have etn : t = n := by omega
        have HV0 : Hid (Hp w V ((b15, cf.cells, tC) :: (b12, cf.cells, tC) :: (R1 ++ [(w.heap.size, M, 37)])) [(p2, u, (n : Int), SN), (p, z, (n : Int), SN)]) := by rw [HSN.out]; have := HH.out; rw [etn, HSN.out] at this; exact this
        have hlt2 : ¬ ((t : Int) < (n : Int)) := by omega
        have c67 : V.cell? ⟨w.heap.size, 67, none⟩ = some (.slice A n cap) := (HV0.out.row _ (List.mem_cons_of_mem _ (List.mem_cons_of_mem _ (List.mem_append_right _ (List.mem_cons_self ..))))).cell 67 _ HM67.out
        have hok2 := (HV0.out.lad _ (List.mem_cons_self ..)).ok
        obtain ⟨m2, hm2⟩ : ∃ m, m = SN.pend.length := ⟨_, rfl⟩
        obtain ⟨cg, hcg⟩ : ∃ cf, cf = SN.conf := ⟨_, rfl⟩
        have HPW2 : Hid (∀ q ∈ SN.pend, q.Wf) := hok2.pw
        have HML2 : Hid (SN.pend.length = m2) := hm2.symm
        have HMB2 : Hid (m2 ≤ 1000000) := by show _ ≤ _; have : SN.pend.length ≤ 32 := hok2.pl; omega
        have HCGW : Hid cg.Wf := by rw [hcg]; exact hok2.cf
        have HPN2 : Hid (∀ X p v, Ld X p v (n : Int) SN → Calls Try.prog 22 #[.pointer (some ⟨p, 0, none⟩)] X fun r w' => ∃ A' c', r = .returned (.slice A' m2 c') ∧ Lw w' tP 90 (.slice A' m2 c') m2 (pcs SN.pend) ∧ Fresh X.heap.size (.slice A' m2 c') ∧ Below X.heap.size X w') := fun X p v h => pending_any h m2 hm2
        have HCF2 : Hid (∀ X p v, Ld X p v (n : Int) SN → Calls Try.prog 30 #[.pointer (some ⟨p, 0, none⟩)] X fun e w' => e = .returned (.agg cg.cells.toArray) ∧ Below X.heap.size X w') := fun X p v h => confirmed_any h cg hcg
        have HSA2 : Hid (∀ X Aa ca Ab cb, Pr X Aa m2 SN.pend → Pr X Ab m2 SN.pend → Calls Try.prog 26 #[.slice Aa m2 ca, .slice Ab m2 cb] X fun e w' => e = .returned (.bool true) ∧ Below X.heap.size X w') := fun X Aa ca Ab cb h1 h2 => same_any X Aa Ab m2 m2 ca cb SN.pend SN.pend h1 h2 HMB2.out true (decide_eq_true rfl).symm
        have HICG : Hid ((Try.prog.info? tC).map (·.size) = some cg.cells.length) := Cm.info HCGW.out
        have HLCG : Hid (cg.cells.length = zC.cells.length) := (Cm.len HCGW.out).trans (Cm.len zC_wf).symm
        clear HH hlt hok2 hm2 hcg
        go_wp2_with (first
          | (go_at_call 22; refine Calls.mono (HPN2.out _ _ _ (HV0.out.lad _ (List.mem_cons_of_mem _ (List.mem_cons_self ..)))) ?_; rintro e V2 ⟨A2, k2, rfl, q1, q2, q3⟩; have P2 : Hid (Pr V2 A2 m2 SN.pend) := Pr.of q1 HML2.out HPW2.out; have HV2 : Hid (Hp w V2 ((b15, cf.cells, tC) :: (b12, cf.cells, tC) :: (R1 ++ [(w.heap.size, M, 37)])) [(p2, u, (n : Int), SN), (p, z, (n : Int), SN)]) := HV0.out.below q3; clear q1 q2 q3 HV0 c67)
          | (go_at_call 22; refine Calls.mono (HPN2.out _ _ _ (HV2.out.lad _ (List.mem_cons_self ..))) ?_; rintro e V3 ⟨A3, k3, rfl, q1, q2, q3⟩; have Q2 : Hid (Pr V3 A3 m2 SN.pend) := Pr.of q1 HML2.out HPW2.out; have P3 : Hid (Pr V3 A2 m2 SN.pend) := P2.out.be q3; have HV3 : Hid (Hp w V3 ((b15, cf.cells, tC) :: (b12, cf.cells, tC) :: (R1 ++ [(w.heap.size, M, 37)])) [(p2, u, (n : Int), SN), (p, z, (n : Int), SN)]) := HV2.out.below q3; clear q1 q2 q3 HV2 P2)
          | (go_at_call 26; refine Calls.mono (HSA2.out _ _ _ _ _ P3.out Q2.out) ?_; rintro e V4 ⟨rfl, q⟩; have HV4 : Hid (Hp w V4 ((b15, cf.cells, tC) :: (b12, cf.cells, tC) :: (R1 ++ [(w.heap.size, M, 37)])) [(p2, u, (n : Int), SN), (p, z, (n : Int), SN)]) := HV3.out.below q; clear q HV3 P3 Q2)
          | (go_at_call 30; refine Calls.mono (HCF2.out _ _ _ (HV4.out.lad _ (List.mem_cons_of_mem _ (List.mem_cons_self ..)))) ?_; rintro e V5 ⟨rfl, q⟩; have HV5 : Hid (Hp w V5 ((b15, cf.cells, tC) :: (b12, cf.cells, tC) :: (R1 ++ [(w.heap.size, M, 37)])) [(p2, u, (n : Int), SN), (p, z, (n : Int), SN)]) := HV4.out.below q; clear q HV4)
          | (refine wpList_alC rfl rfl ?_; intro V6 q1 q2 q3; clear q3; have RA : Hid (Row V6 V5.heap.size zC.cells tC) := q1; have BA : Hid (Below V5.heap.size V5 V6) := q2; clear q1 q2; simp only [Act.put, List.setIfInBounds_toArray, List.set_cons_zero, List.set_cons_succ])
          | (refine wpList_stL rfl tC (.tmp 21) (.tmp 114) rfl V5.heap.size cg.cells zC.cells tC rfl rfl RA.out HLCG.out HICG.out (all_one (Cm.one cg)) ?_; intro V7 q1 q2; have HV7 : Hid (Hp w V7 ((V5.heap.size, cg.cells, tC) :: (b15, cf.cells, tC) :: (b12, cf.cells, tC) :: (R1 ++ [(w.heap.size, M, 37)])) [(p2, u, (n : Int), SN), (p, z, (n : Int), SN)]) := HV5.out.addR (gro_newL BA.out (Nat.le_refl _) q2) q1 (Nat.le_refl _); clear q1 q2 RA BA HV5)
          | (go_at_call 30; refine Calls.mono (HCF2.out _ _ _ (HV7.out.lad _ (List.mem_cons_self ..))) ?_; rintro e V8 ⟨rfl, q⟩; have HV8 : Hid (Hp w V8 ((V5.heap.size, cg.cells, tC) :: (b15, cf.cells, tC) :: (b12, cf.cells, tC) :: (R1 ++ [(w.heap.size, M, 37)])) [(p2, u, (n : Int), SN), (p, z, (n : Int), SN)]) := HV7.out.below q; clear q HV7)
          | (refine wpList_alC rfl rfl ?_; intro V9 q1 q2 q3; clear q3; have RB : Hid (Row V9 V8.heap.size zC.cells tC) := q1; have BB : Hid (Below V8.heap.size V8 V9) := q2; clear q1 q2; simp only [Act.put, List.setIfInBounds_toArray, List.set_cons_zero, List.set_cons_succ])
          | (refine wpList_stL rfl tC (.tmp 22) (.tmp 116) rfl V8.heap.size cg.cells zC.cells tC rfl rfl RB.out HLCG.out HICG.out (all_one (Cm.one cg)) ?_; intro U1 q1 q2; have HU : Hid (Hp w U1 ((V8.heap.size, cg.cells, tC) :: (V5.heap.size, cg.cells, tC) :: (b15, cf.cells, tC) :: (b12, cf.cells, tC) :: (R1 ++ [(w.heap.size, M, 37)])) [(p2, u, (n : Int), SN), (p, z, (n : Int), SN)]) := HV8.out.addR (gro_newL BB.out (Nat.le_refl _) q2) q1 (Nat.le_refl _); clear q1 q2 RB BB HV8)
          | (refine wpList_ldS rfl tC (.tmp 15) rfl b15 0 rfl cf.cells _ (HU.out.row _ (List.mem_cons_of_mem _ (List.mem_cons_of_mem _ (List.mem_cons_self ..)))).all Try.underlying25 rfl HICF.out ?_; simp only [Act.put, List.setIfInBounds_toArray, List.set_cons_zero, List.set_cons_succ])
          | (refine wpList_ldS rfl tC (.tmp 12) rfl b12 0 rfl cf.cells _ (HU.out.row _ (List.mem_cons_of_mem _ (List.mem_cons_of_mem _ (List.mem_cons_of_mem _ (List.mem_cons_self ..))))).all Try.underlying25 rfl HICF.out ?_; simp only [Act.put, List.setIfInBounds_toArray, List.set_cons_zero, List.set_cons_succ])
          | (refine wpList_eqC rfl (.tmp 122) (.tmp 123) _ rfl cf cf HCFW.out HCFW.out rfl rfl true (decide_eq_true rfl) ?_; simp only [Act.put, List.setIfInBounds_toArray, List.set_cons_zero, List.set_cons_succ])
          | (refine wpList_ldS rfl tC (.tmp 21) rfl V5.heap.size 0 rfl cg.cells _ (HU.out.row _ (List.mem_cons_of_mem _ (List.mem_cons_self ..))).all Try.underlying25 rfl HICG.out ?_; simp only [Act.put, List.setIfInBounds_toArray, List.set_cons_zero, List.set_cons_succ])
          | (refine wpList_ldS rfl tC (.tmp 22) rfl V8.heap.size 0 rfl cg.cells _ (HU.out.row _ (List.mem_cons_self ..)).all Try.underlying25 rfl HICG.out ?_; simp only [Act.put, List.setIfInBounds_toArray, List.set_cons_zero, List.set_cons_succ])
          | (refine wpList_eqC rfl (.tmp 127) (.tmp 128) _ rfl cg cg HCGW.out HCGW.out rfl rfl true (decide_eq_true rfl) ?_; simp only [Act.put, List.setIfInBounds_toArray, List.set_cons_zero, List.set_cons_succ]))
        go_ret
        exact ⟨rfl, HU.out.be⟩

end Go.Proofs.Ytfdbjcdcfmnicaa
