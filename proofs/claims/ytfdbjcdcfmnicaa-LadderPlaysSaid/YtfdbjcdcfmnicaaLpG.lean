/-
  LadderPlays: the law's owned.
-/
import Derived.Test.YtfdbjcdcfmnicaaLpF
namespace Go.Proofs.Ytfdbjcdcfmnicaa
open Go Go.RowKit
open Sha

theorem Lo.at0 {w : World} {A : Option Addr} {n m c : Nat} {l : List Pn} (h : Lo w tP 90 (.slice A n c) m (pcs l)) (h0 : 0 < n) : ∃ g o, A = some ⟨g, o, none⟩ ∧ w.rangeAt g o (pcs l) := by
  obtain ⟨A', cap, e1, _, h1, h2⟩ := h.form
  simp only [Value.slice.injEq] at e1
  obtain ⟨rfl, rfl, rfl⟩ := e1
  cases A with
  | none => have := (h1 rfl).1; omega
  | some ad => obtain ⟨g, o, rfl, r⟩ := h2 ad rfl; exact ⟨g, o, rfl, r⟩
set_option maxRecDepth 100000 in
set_option maxHeartbeats 4000000 in
theorem owned_any (n k : Nat) (hn : n ≤ 1000) (hk : k ≤ 1000) (A B : Option Addr) (ca cb : Nat) (xa xb : List Pn) (LA0 : xa.length = n) (LB0 : xb.length = k) (w : World) (R : Nat → Prop) (h : O3 w w R (.slice A n ca) (.slice B k cb) xa xb) :
    Calls Try.prog 59 #[.slice A n ca, .slice B k cb] w fun e w' => e = .returned (.bool true) ∧ Gro R w w' ∧ Kl tP w w' := by
  have LA : Hid (xa.length = n) := LA0
  have LB : Hid (xb.length = k) := LB0
  obtain ⟨m1, hm1⟩ : ∃ m, m = mk (-11) := ⟨_, rfl⟩
  obtain ⟨m2, hm2⟩ : ∃ m, m = mk (-22) := ⟨_, rfl⟩
  obtain ⟨M1, hM1⟩ : ∃ M, M = m1.cells := ⟨_, rfl⟩
  obtain ⟨M2, hM2⟩ : ∃ M, M = m2.cells := ⟨_, rfl⟩
  have HE1 : Hid (M1 = m1.cells ∧ m1.Wf ∧ m1.nr = -11) := ⟨hM1, by rw [hm1]; exact mk_wf _, by rw [hm1]; rfl⟩
  have HE2 : Hid (M2 = m2.cells ∧ m2.Wf ∧ m2.nr = -22) := ⟨hM2, by rw [hm2]; exact mk_wf _, by rw [hm2]; rfl⟩
  have HBM1 : Hid (Try.prog.built tP [(0, .int .i64 (-11))] = some M1.toArray) := by show _ = _; rw [hM1, hm1]; exact built_mk _
  have HBM2 : Hid (Try.prog.built tP [(0, .int .i64 (-22))] = some M2.toArray) := by show _ = _; rw [hM2, hm2]; exact built_mk _
  have HIM1 : Hid ((Try.prog.info? tP).map (·.size) = some M1.length) := by show _ = _; rw [hM1]; exact Pn.info HE1.out.2.1
  have HIM2 : Hid ((Try.prog.info? tP).map (·.size) = some M2.length) := by show _ = _; rw [hM2]; exact Pn.info HE2.out.2.1
  have HOM1 : Hid (∀ u ∈ M1, u.oneCell' = true) := by rw [hM1]; exact Pn.one m1
  have HOM2 : Hid (∀ u ∈ M2, u.oneCell' = true) := by rw [hM2]; exact Pn.one m2
  have HL1 : Hid (M1.length = 90) := by show _ = _; rw [hM1]; exact Pn.len HE1.out.2.1
  have HL2 : Hid (M2.length = 90) := by show _ = _; rw [hM2]; exact Pn.len HE2.out.2.1
  clear hm1 hm2 hM1 hM2 LA0 LB0
  go_enter Try.func59, Try.ntmps59
  go_wp2
  go_loopw [7] (fun i wr => ∃ t : Nat, t ≤ n ∧ i = .int .i64 (t : Int) ∧ O3 w wr R (.slice A n ca) (.slice B k cb) (List.replicate t m1 ++ xa.drop t) xb) (fun i _ => n - (intOf i).toNat)
  case atStart => exact ⟨0, Nat.zero_le _, rfl, by rw [List.drop_zero]; exact h⟩
  case round =>
    clear h
    obtain ⟨t, ht, rfl, h⟩ := hrel
    by_cases hlt : t < n
    · obtain ⟨g, o, cur, rfl, r, hc, hset⟩ := h.open (by omega) (rep_len n t m1 xa LA.out ht)
      have RR : Hid (Row wr g cur tP) := r
      have HC : Hid (o + t * 90 + M1.length ≤ cur.length) := by show _ ≤ _; rw [HL1.out]; have : (t + 1) * 90 ≤ n * 90 := Nat.mul_le_mul_right 90 hlt; omega
      have HS : Hid (∀ X, Row X g (cur.take (o + t * 90) ++ M1 ++ cur.drop (o + t * 90 + M1.length)) tP → Gro (· = g) wr X → O3 w X R (.slice (some ⟨g, o, none⟩) n ca) (.slice B k cb) (List.replicate (t + 1) m1 ++ xa.drop (t + 1)) xb) := fun X q1 q2 => by
        rw [HE1.out.1] at q1
        have := hset X t m1 hlt HE1.out.2.1 q1 q2
        rwa [rep_setP n t m1 xa LA.out hlt] at this
      clear h hset hc r
      go_wp2_with (first
        | (refine wpList_blt rfl tP _ rfl [(0, .int .i64 (-11))] rfl M1 HBM1.out ?_; simp only [Act.put, List.setIfInBounds_toArray, List.set_cons_zero, List.set_cons_succ])
        | (refine wpList_ixL tPs tP (.tmp 22) (.tmp 23) rfl g o n ca t 90 rfl rfl hlt Try.underlying42 info_P rfl ?_; simp only [Act.put, List.setIfInBounds_toArray, List.set_cons_zero, List.set_cons_succ])
        | (refine wpList_stM rfl tP (.tmp 25) (.tmp 24) rfl g (o + t * 90) M1 cur tP rfl rfl RR.out HC.out HIM1.out (all_one HOM1.out) ?_; intro X q1 q2; have H1 : Hid _ := HS.out X q1 q2; clear q1 q2; simp only [Act.put]))
      exact ⟨⟨t + 1, hlt, by go_num, H1.out⟩, by simp [intOf]; omega⟩
    · obtain rfl : t = n := by omega
      rw [List.drop_eq_nil_of_le (by rw [LA.out]; exact Nat.le_refl _), List.append_nil] at h
      clear hlt ht
      go_wp2
      go_loopw [8] (fun i wr => ∃ s : Nat, s ≤ k ∧ i = .int .i64 (s : Int) ∧ O3 w wr R (.slice A t ca) (.slice B k cb) (List.replicate t m1) (List.replicate s m2 ++ xb.drop s)) (fun i _ => k - (intOf i).toNat)
      case atStart => exact ⟨0, Nat.zero_le _, rfl, by rw [List.drop_zero]; exact h⟩
      case round =>
        clear h
        obtain ⟨s, hs, rfl, h⟩ := hrel
        by_cases hlt : s < k
        · obtain ⟨g, o, cur, rfl, r, hc, hset⟩ := h.symm.open (by omega) (rep_len k s m2 xb LB.out hs)
          have RR : Hid (Row wr g cur tP) := r
          have HC : Hid (o + s * 90 + M2.length ≤ cur.length) := by show _ ≤ _; rw [HL2.out]; have : (s + 1) * 90 ≤ k * 90 := Nat.mul_le_mul_right 90 hlt; omega
          have HS : Hid (∀ X, Row X g (cur.take (o + s * 90) ++ M2 ++ cur.drop (o + s * 90 + M2.length)) tP → Gro (· = g) wr X → O3 w X R (.slice A t ca) (.slice (some ⟨g, o, none⟩) k cb) (List.replicate t m1) (List.replicate (s + 1) m2 ++ xb.drop (s + 1))) := fun X q1 q2 => by
            rw [HE2.out.1] at q1
            have := (hset X s m2 hlt HE2.out.2.1 q1 q2).symm
            rwa [rep_setP k s m2 xb LB.out hlt] at this
          clear h hset hc r
          go_wp2_with (first
            | (refine wpList_blt rfl tP _ rfl [(0, .int .i64 (-22))] rfl M2 HBM2.out ?_; simp only [Act.put, List.setIfInBounds_toArray, List.set_cons_zero, List.set_cons_succ])
            | (refine wpList_ixL tPs tP (.tmp 31) (.tmp 32) rfl g o k cb s 90 rfl rfl hlt Try.underlying42 info_P rfl ?_; simp only [Act.put, List.setIfInBounds_toArray, List.set_cons_zero, List.set_cons_succ])
            | (refine wpList_stM rfl tP (.tmp 34) (.tmp 33) rfl g (o + s * 90) M2 cur tP rfl rfl RR.out HC.out HIM2.out (all_one HOM2.out) ?_; intro X q1 q2; have H1 : Hid _ := HS.out X q1 q2; clear q1 q2; simp only [Act.put]))
          exact ⟨⟨s + 1, hlt, by go_num, H1.out⟩, by simp [intOf]; omega⟩
        · obtain rfl : s = k := by omega
          rw [List.drop_eq_nil_of_le (by rw [LB.out]; exact Nat.le_refl _), List.append_nil] at h
          clear hlt hs LA LB
          go_wp2
          go_loopw [0, 9] (fun v i wr => ∃ u : Nat, u ≤ 9 ∧ i = .int .i64 (u : Int) ∧ O3 w wr R v (.slice B s cb) (List.replicate (t + u) m1) (List.replicate s m2)) (fun _ i _ => 9 - (intOf i).toNat)
          case atStart => exact ⟨0, Nat.zero_le _, rfl, h⟩
          case round =>
            clear h
            obtain ⟨u, hu, rfl, h⟩ := hrel
            obtain ⟨Av, cv, ev, _⟩ := h.a.form
            rw [List.length_replicate] at ev
            subst ev
            by_cases hlt : u < 9
            · have H0 : Hid _ := h
              clear h
              go_wp2_with (first
                | (refine wpList_blt rfl tP _ rfl [(0, .int .i64 (-11))] rfl M1 HBM1.out ?_; simp only [Act.put, List.setIfInBounds_toArray, List.set_cons_zero, List.set_cons_succ])
                | (refine wpList_bPn rfl (.tmp 40) rfl M1 HL1.out rfl ?_; intro X q1 q2; have RX : Hid (Row X wr.heap.size M1 tP) := q1; have H1 : Hid (O3 w X R (.slice Av (t + u) cv) (.slice B s cb) (List.replicate (t + u) m1) (List.replicate s m2)) := H0.out.be q2; clear q1 q2; simp only [Act.put, List.setIfInBounds_toArray, List.set_cons_zero, List.set_cons_succ])
                | (refine wpList_appLo2 rfl (.tmp 39) (.tmp 41) rfl (.slice Av (t + u) cv) (List.replicate (t + u) m1).length (pcs (List.replicate (t + u) m1)) M1 rfl H1.out.a wr.heap.size HL1.out rfl RX.out.all HOM1.out (by { rw [List.length_replicate]; omega }) ?_; intro v' X2 q1 q2 q3 q4; rw [HE1.out.1] at q1; have H2 : Hid _ := H1.out.grow HE1.out.2.1 q1 q2 q3 q4; clear q1 q2 q3 q4; simp only [Act.put, List.setIfInBounds_toArray, List.set_cons_zero, List.set_cons_succ]))
              refine ⟨⟨u + 1, hlt, by go_num, ?_⟩, by simp [intOf]; omega⟩
              rw [← Nat.add_assoc, List.replicate_succ']
              exact H2.out
            · obtain rfl : u = 9 := by omega
              clear hlt hu
              obtain ⟨t9, ht9⟩ : ∃ x, x = t + 9 := ⟨_, rfl⟩
              rw [← ht9] at h ⊢
              have HT9 : Hid (t9 = t + 9) := ht9
              clear ht9
              go_wp2
              go_loopw [1, 10] (fun v i wr => ∃ u : Nat, u ≤ 9 ∧ i = .int .i64 (u : Int) ∧ O3 w wr R (.slice Av t9 cv) v (List.replicate t9 m1) (List.replicate (s + u) m2)) (fun _ i _ => 9 - (intOf i).toNat)
              case atStart => exact ⟨0, Nat.zero_le _, rfl, h⟩
              case round =>
                clear h
                obtain ⟨u, hu, rfl, h⟩ := hrel
                obtain ⟨Bv, dv, ev, _⟩ := h.b.form
                rw [List.length_replicate] at ev
                subst ev
                by_cases hlt : u < 9
                · have H0 : Hid _ := h.symm
                  clear h
                  go_wp2_with (first
                    | (refine wpList_blt rfl tP _ rfl [(0, .int .i64 (-22))] rfl M2 HBM2.out ?_; simp only [Act.put, List.setIfInBounds_toArray, List.set_cons_zero, List.set_cons_succ])
                    | (refine wpList_bPn rfl (.tmp 48) rfl M2 HL2.out rfl ?_; intro X q1 q2; have RX : Hid (Row X wr.heap.size M2 tP) := q1; have H1 : Hid (O3 w X R (.slice Bv (s + u) dv) (.slice Av t9 cv) (List.replicate (s + u) m2) (List.replicate t9 m1)) := H0.out.be q2; clear q1 q2; simp only [Act.put, List.setIfInBounds_toArray, List.set_cons_zero, List.set_cons_succ])
                    | (refine wpList_appLo2 rfl (.tmp 47) (.tmp 49) rfl (.slice Bv (s + u) dv) (List.replicate (s + u) m2).length (pcs (List.replicate (s + u) m2)) M2 rfl H1.out.a wr.heap.size HL2.out rfl RX.out.all HOM2.out (by { rw [List.length_replicate]; omega }) ?_; intro v' X2 q1 q2 q3 q4; rw [HE2.out.1] at q1; have H2 : Hid _ := (H1.out.grow HE2.out.2.1 q1 q2 q3 q4).symm; clear q1 q2 q3 q4; simp only [Act.put, List.setIfInBounds_toArray, List.set_cons_zero, List.set_cons_succ]))
                  refine ⟨⟨u + 1, hlt, by go_num, ?_⟩, by simp [intOf]; omega⟩
                  rw [← Nat.add_assoc, List.replicate_succ']
                  exact H2.out
                · obtain rfl : u = 9 := by omega
                  clear hlt hu
                  obtain ⟨s9, hs9⟩ : ∃ x, x = s + 9 := ⟨_, rfl⟩
                  rw [← hs9] at h ⊢
                  have HS9 : Hid (s9 = s + 9) := hs9
                  clear hs9
                  have H0 : Hid _ := h
                  clear h
                  go_wp2
                  go_loopw [11] (fun i wq => ∃ q : Nat, q ≤ t9 ∧ i = .int .i64 (q : Int) ∧ wq = wr) (fun i _ => t9 - (intOf i).toNat)
                  case atStart => exact ⟨0, Nat.zero_le _, rfl, rfl⟩
                  case round =>
                    obtain ⟨q, hq, rfl, rfl⟩ := hrel
                    by_cases hlt : q < t9
                    · obtain ⟨g, o, rfl, rg⟩ := Lo.at0 H0.out.a (by omega)
                      have cq : _ = some (Value.int .i64 m1.nr) := rg (q * 90 + 0) _ (pcs_at H0.out.wa (by rw [List.getElem?_replicate, if_pos hlt]) 0 _ (Pn.at_nr m1))
                      rw [HE1.out.2.2, Nat.add_zero] at cq
                      clear rg
                      have hl2 : q < t + 9 := by have := HT9.out; omega
                      go_wp2_with (refine wpList_ixL tPs tP (.tmp 57) (.tmp 58) rfl g o t9 cv q 90 rfl rfl hlt Try.underlying42 info_P rfl ?_; simp only [Act.put, List.setIfInBounds_toArray, List.set_cons_zero, List.set_cons_succ])
                      exact ⟨⟨q + 1, hlt, by go_num, trivial⟩, by simp [intOf]; omega⟩
                    · obtain rfl : q = t9 := by omega
                      have hl2 : ¬ q < t + 9 := by have := HT9.out; omega
                      have hl3 : ¬ ((q : Int) < (t : Int) + 9) := by omega
                      clear hlt hq
                      go_wp2
                      go_loopw [12] (fun i wq => ∃ y : Nat, y ≤ s9 ∧ i = .int .i64 (y : Int) ∧ wq = wr) (fun i _ => s9 - (intOf i).toNat)
                      case atStart => exact ⟨0, Nat.zero_le _, rfl, rfl⟩
                      case round =>
                        obtain ⟨y, hy, rfl, rfl⟩ := hrel
                        by_cases hlt : y < s9
                        · obtain ⟨g, o, rfl, rg⟩ := Lo.at0 H0.out.b (by omega)
                          have cq : _ = some (Value.int .i64 m2.nr) := rg (y * 90 + 0) _ (pcs_at H0.out.wb (by rw [List.getElem?_replicate, if_pos hlt]) 0 _ (Pn.at_nr m2))
                          rw [HE2.out.2.2, Nat.add_zero] at cq
                          clear rg
                          have hl2 : y < s + 9 := by have := HS9.out; omega
                          go_wp2_with (refine wpList_ixL tPs tP (.tmp 69) (.tmp 70) rfl g o s9 dv y 90 rfl rfl hlt Try.underlying42 info_P rfl ?_; simp only [Act.put, List.setIfInBounds_toArray, List.set_cons_zero, List.set_cons_succ])
                          exact ⟨⟨y + 1, hlt, by go_num, trivial⟩, by simp [intOf]; omega⟩
                        · obtain rfl : y = s9 := by omega
                          have hl2 : ¬ y < s + 9 := by have := HS9.out; omega
                          have hl3 : ¬ ((y : Int) < (s : Int) + 9) := by omega
                          clear hlt hy
                          go_wp2
                          go_ret
                          exact ⟨rfl, H0.out.g, H0.out.kl⟩

end Go.Proofs.Ytfdbjcdcfmnicaa
