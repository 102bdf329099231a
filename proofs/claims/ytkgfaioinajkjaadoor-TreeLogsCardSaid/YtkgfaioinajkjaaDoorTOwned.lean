/-
  The law's owned: two lists are written over and grown.
-/
import Derived.Test.YtkgfaioinajkjaaDoorTMark
namespace Go.Proofs.YtkgfaioinajkjaaDoor
open Go Go.RowKit
open Sha

theorem rp_take (m : List (BitVec 8)) (h : m.length = 32) (n N : Nat) (hn : n ≤ N) : (vB (rp m N)).take (n * 32) = vB (rp m n) := by
  obtain ⟨d, rfl⟩ := Nat.exists_eq_add_of_le hn
  have e : rp m (n + d) = rp m n ++ rp m d := by unfold rp; rw [← List.replicate_append_replicate, List.flatten_append]
  rw [e, vB_append, List.take_append_of_le_length (by rw [vB_length, rp_len m h]; exact Nat.le_refl _), List.take_of_length_le (by rw [vB_length, rp_len m h]; exact Nat.le_refl _)]
/-- A list that was grown in its own place still is what it was told to be. -/
theorem Ow.under {w w' : World} {va v : Value} {n N : Nat} {m : List (BitVec 8)} (hm : m.length = 32) (h1 : Ow w va n (vB (rp m n))) (h2 : Ow w v N (vB (rp m N))) (hle : n ≤ N) (h3 : Ow w' v N (vB (rp m N))) (hg : w.grownBy w' v.ownBlock) : Ow w' va n (vB (rp m n)) := by
  rcases h1.2 with q | ⟨g, cap, cur, hv, hb, hh, r1, r2, r3, r4⟩
  · exact ⟨h1.1, .inl q⟩
  · by_cases e : v.ownBlock = some g
    · rcases h2.2 with ⟨q, _⟩ | ⟨g', cap', cur', hv', hb', hh', s1, s2, s3, s4⟩
      · rw [q] at e; simp [Value.ownBlock] at e
      · rw [hv'] at e
        simp only [Value.ownBlock, Option.some.injEq] at e
        subst e
        rw [hh] at hh'
        simp only [Option.some.injEq, Obj.cells.injEq] at hh'
        obtain ⟨rfl, _⟩ := hh'
        have ec : cap = cap' := by omega
        rcases h3.2 with ⟨q, _⟩ | ⟨g2, cap2, cur2, hv2, hb2, hh2, t1, t2, t3, t4⟩
        · rw [q] at hv'; cases hv'
        · rw [hv'] at hv2
          simp only [Value.slice.injEq, Option.some.injEq, Addr.mk.injEq] at hv2
          obtain ⟨⟨rfl, _⟩, _, rfl⟩ := hv2
          refine ⟨h1.1, .inr ⟨g', cap, cur2, hv, hb, hh2, r1, r2, by omega, ?_⟩⟩
          rw [← rp_take m hm n N hle, ← t4, List.take_take]
          congr 1; omega
    · exact h1.grown hg fun k hk => by
        rw [hv] at hk
        simp only [Value.ownBlock, Option.some.injEq] at hk
        subst hk
        exact fun e2 => e e2.symm
/-- In the list's own block, or in a new one. -/
def Frm (a : Value) (N : Nat) (v : Value) : Prop := ∀ g, v.ownBlock = some g → a.ownBlock = some g ∨ N ≤ g
/-- Of marks alone. -/
theorem Ow.marks {w : World} {v : Value} {n : Nat} {m : List (BitVec 8)} (h : Ow w v n (vB (rp m n))) (hm : m.length = 32) : PAt w v (List.replicate n m) :=
  Ow.pat (by rw [List.length_replicate]; exact h) (fun d hd => by rw [(List.mem_replicate.1 hd).2]; exact hm)

set_option maxRecDepth 100000 in
set_option maxHeartbeats 8000000 in
theorem owned_any (n k : Nat) (hn : (n + 20) * 32 ≤ 140737488355328) (hk : (k + 20) * 32 ≤ 140737488355328) (m1 m2 : List (BitVec 8)) (h1 : m1 = md 11#8) (h2 : m2 = md 22#8) (A B : Option Addr) (ca cb : Nat) (xa xb : List Value) (w : World)
    (oa : Ow w (.slice A n ca) n xa) (ob : Ow w (.slice B k cb) k xb) (ap : Ap (.slice A n ca) (.slice B k cb)) :
    Calls Tryd.prog 16 #[.slice A n ca, .slice B k cb] w fun e w' => e = .returned (.bool true) ∧ Ow w' (.slice A n ca) n (vB (rp m1 n)) ∧ Ow w' (.slice B k cb) k (vB (rp m2 k)) ∧ Gro (fun g => (Value.slice A n ca).ownBlock = some g ∨ (Value.slice B k cb).ownBlock = some g) w w' := by
  have Hm1 : Hid (m1 = md 11#8) := h1
  have Hm2 : Hid (m2 = md 22#8) := h2
  have D1 : Dl m1 := by rw [h1]; exact dl_md _
  have D2 : Dl m2 := by rw [h2]; exact dl_md _
  have HN : Hid ((n + 20) * 32 ≤ 140737488355328) := hn
  have HK : Hid ((k + 20) * 32 ≤ 140737488355328) := hk
  have LA : Hid (xa.length = n * 32) := oa.1
  have LB : Hid (xb.length = k * 32) := ob.1
  have WB : Hid (∀ g, (Value.slice B k cb).ownBlock = some g → g < w.heap.size) := ob.lt
  have WA : Hid (∀ g, (Value.slice A n ca).ownBlock = some g → g < w.heap.size) := oa.lt
  have AP : Hid (Ap _ _) := ap
  obtain ⟨R, hR⟩ : ∃ R : Nat → Prop, R = fun g => (Value.slice A n ca).ownBlock = some g ∨ (Value.slice B k cb).ownBlock = some g := ⟨_, rfl⟩
  have RA : Hid (∀ g, (Value.slice A n ca).ownBlock = some g → R g) := fun g e => by rw [hR]; exact .inl e
  have RB : Hid (∀ g, (Value.slice B k cb).ownBlock = some g → R g) := fun g e => by rw [hR]; exact .inr e
  rw [← hR]
  have hsn : n ≤ 4398046511104 := by omega
  have hsk : k ≤ 4398046511104 := by omega
  clear h1 h2 hn hk hR ap
  go_enter Tryd.func16, Tryd.ntmps16
  go_wp2
  go_loopw [7] (fun i wr => ∃ t : Nat, t ≤ n ∧ i = .int .i64 (t : Int) ∧ Ow wr (.slice A n ca) n (half m1 xa t) ∧ Ow wr (.slice B k cb) k xb ∧ Gro R w wr) (fun i _ => n - (intOf i).toNat)
  case atStart => exact ⟨0, Nat.zero_le _, rfl, by rw [half_zero]; exact oa, ob, Gro.refl _ _⟩
  case round =>
    clear oa ob
    obtain ⟨t, ht, rfl, oa, ob, hG⟩ := hrel
    by_cases hlt : t < n
    · obtain ⟨g, cap, eo⟩ := oa.open (by omega)
      simp only [Value.slice.injEq, true_and] at eo
      obtain ⟨rfl, rfl⟩ := eo
      have o1 := oa.set t hlt (vB m1) D1.len
      rw [half_step m1 D1 xa t] at o1
      have o2 := ob.set_other (g := g) (o := t * 32) (ys := vB m1) (fun j e h => AP.out g rfl (h ▸ e))
      have g1 := hG.sets g (t * 32) (vB m1) (RA.out g rfl)
      have T : wr.there g (t * 32) (vB m1).toArray.size := by rw [List.size_toArray, D1.len]; exact oa.there t hlt
      obtain ⟨o, eo⟩ : ∃ o, o = t * 32 := ⟨_, rfl⟩
      rw [← eo] at T o1 o2 g1
      have EO : Hid (0 + t * 32 = o) := by show _ = _; omega
      have HT : Hid _ := T
      have O1 : Hid _ := o1
      have O2 : Hid _ := o2
      have G1 : Hid _ := g1
      clear oa ob hG T o1 o2 g1 eo
      go_wp2_with (first
        | (refine wpList_buildx rfl (.const (.int .u8 11)) 11#8 m1 Hm1.out rfl rfl ?_; simp only [Act.put, List.setIfInBounds_toArray, List.set_cons_zero, List.set_cons_succ])
        | (refine wpList_index_d rfl (.tmp 24) (.tmp 25) rfl g 0 n ca t o EO.out _ rfl rfl rfl hlt ?_; simp only [Act.put, List.setIfInBounds_toArray, List.set_cons_zero, List.set_cons_succ])
        | (refine wpList_store_mid rfl 42 (.tmp 27) (.tmp 26) rfl g o (vB m1).toArray rfl rfl HT.out D1.info' D1.one ?_; simp only [Act.put]; (change wpList _ _ _ _ _ (World.setCells wr g o (vB m1)))))
      exact ⟨⟨t + 1, hlt, by go_num, O1.out, O2.out, G1.out⟩, by simp [intOf]; omega⟩
    · obtain rfl : t = n := by omega
      rw [half_all m1 xa t LA.out] at oa
      clear hlt ht
      go_wp2
      go_loopw [8] (fun i wr => ∃ s : Nat, s ≤ k ∧ i = .int .i64 (s : Int) ∧ Ow wr (.slice A t ca) t (vB (rp m1 t)) ∧ Ow wr (.slice B k cb) k (half m2 xb s) ∧ Gro R w wr) (fun i _ => k - (intOf i).toNat)
      case atStart => exact ⟨0, Nat.zero_le _, rfl, oa, by rw [half_zero]; exact ob, hG⟩
      case round =>
        clear oa ob hG
        obtain ⟨s, hs, rfl, oa, ob, hG⟩ := hrel
        by_cases hlt : s < k
        · obtain ⟨g, cap, eo⟩ := ob.open (by omega)
          simp only [Value.slice.injEq, true_and] at eo
          obtain ⟨rfl, rfl⟩ := eo
          have o1 := ob.set s hlt (vB m2) D2.len
          rw [half_step m2 D2 xb s] at o1
          have o2 := oa.set_other (g := g) (o := s * 32) (ys := vB m2) (fun j e h => AP.out g (h ▸ e) rfl)
          have g1 := hG.sets g (s * 32) (vB m2) (RB.out g rfl)
          have T : wr.there g (s * 32) (vB m2).toArray.size := by rw [List.size_toArray, D2.len]; exact ob.there s hlt
          obtain ⟨o, eo⟩ : ∃ o, o = s * 32 := ⟨_, rfl⟩
          rw [← eo] at T o1 o2 g1
          have EO : Hid (0 + s * 32 = o) := by show _ = _; omega
          have HT : Hid _ := T
          have O1 : Hid _ := o1
          have O2 : Hid _ := o2
          have G1 : Hid _ := g1
          clear oa ob hG T o1 o2 g1 eo
          go_wp2_with (first
            | (refine wpList_buildx rfl (.const (.int .u8 22)) 22#8 m2 Hm2.out rfl rfl ?_; simp only [Act.put, List.setIfInBounds_toArray, List.set_cons_zero, List.set_cons_succ])
            | (refine wpList_index_d rfl (.tmp 33) (.tmp 34) rfl g 0 k cb s o EO.out _ rfl rfl rfl hlt ?_; simp only [Act.put, List.setIfInBounds_toArray, List.set_cons_zero, List.set_cons_succ])
            | (refine wpList_store_mid rfl 42 (.tmp 36) (.tmp 35) rfl g o (vB m2).toArray rfl rfl HT.out D2.info' D2.one ?_; simp only [Act.put]; (change wpList _ _ _ _ _ (World.setCells wr g o (vB m2)))))
          exact ⟨⟨s + 1, hlt, by go_num, O2.out, O1.out, G1.out⟩, by simp [intOf]; omega⟩
        · obtain rfl : s = k := by omega
          rw [half_all m2 xb s LB.out] at ob
          clear hlt hs
          go_wp2
          go_loopw [0, 9] (fun v i wr => ∃ u : Nat, u ≤ 20 ∧ i = .int .i64 (u : Int) ∧ Ow wr v (t + u) (vB (rp m1 (t + u))) ∧ Frm (.slice A t ca) w.heap.size v ∧ Ow wr (.slice A t ca) t (vB (rp m1 t)) ∧ Ow wr (.slice B s cb) s (vB (rp m2 s)) ∧ Gro R w wr) (fun _ i _ => 20 - (intOf i).toNat)
          case atStart => exact ⟨0, Nat.zero_le _, rfl, oa, fun g e => .inl e, oa, ob, hG⟩
          case round =>
            clear oa ob hG
            obtain ⟨u, hu, rfl, ov, hf, oa, ob, hG⟩ := hrel
            by_cases hlt : u < 20
            · obtain ⟨Av1, cv1, ev1, _⟩ := ov.form
              subst ev1
              have hB1 : Below wr.heap.size wr (wr.alloc (.cells (vB m1).toArray 42)) := (Below.refl _ _).alloc (Nat.le_refl _) _
              have r1 : Row (wr.alloc (.cells (vB m1).toArray 42)) wr.heap.size (vB m1) 42 := Row.new' rfl rfl
              replace ov := ov.be hB1
              replace oa := oa.be hB1
              replace ob := ob.be hB1
              replace hG := hG.below hB1
              have hz : wr.heap.size ≤ (wr.alloc (.cells (vB m1).toArray 42)).heap.size := hB1.size
              have HK1 : Hid ((t + u + 1) * 32 ≤ 140737488355328) := Nat.le_trans (Nat.mul_le_mul_right 32 (Nat.add_le_add_left hlt t)) HN.out
              have Z_r1 : Hid _ := r1
              have Z_hf : Hid _ := hf
              have Z_hG : Hid _ := hG
              have Z_hz : Hid _ := hz
              have Z_ov : Hid _ := ov
              have Z_oa : Hid _ := oa
              have Z_ob : Hid _ := ob
              clear r1 hf hG hz hB1 ov oa ob
              go_wp2_with (first
                | (refine wpList_buildx rfl (.const (.int .u8 11)) 11#8 m1 Hm1.out rfl rfl ?_; simp only [Act.put, List.setIfInBounds_toArray, List.set_cons_zero, List.set_cons_succ])
                | (refine wpList_build_dd rfl (.tmp 42) rfl m1 D1 rfl ?_; simp only [Act.put, List.setIfInBounds_toArray, List.set_cons_zero, List.set_cons_succ])
                | (refine wpList_append_still rfl (.tmp 41) (.tmp 43) rfl wr.heap.size (t + u) _ _ m1 D1 rfl Z_ov.out rfl Z_r1.out HK1.out ?_; intro v' w' q1 q2 q3 q4; obtain ⟨Ax, cx, ex, _⟩ := q1.form; subst ex; simp only [Act.put, List.setIfInBounds_toArray, List.set_cons_zero, List.set_cons_succ]; have Q1 : Hid _ := q1; have Q2 : Hid _ := q2; have Q3 : Hid _ := q3; have Q4 : Hid _ := q4; clear q1 q2 q3 q4))
              refine ⟨⟨u + 1, hlt, by go_num, ?_, ?_, Ow.under D1 Z_oa.out Z_ov.out (Nat.le_add_right _ _) Q4.out Q2.out, Ow.grown Z_ob.out Q2.out ?_, Z_hG.out.grown Q2.out ?_⟩, by simp [intOf]; omega⟩
              · rw [← Nat.add_assoc, rp_more, vB_append]; exact Q1.out
              · intro g e
                rcases Q3.out with q | q
                · exact Z_hf.out g (q ▸ e)
                · rw [q] at e
                  simp only [Option.some.injEq] at e
                  exact .inr (by rw [← e]; exact Z_hG.out.size)
              · intro g e h
                rcases Z_hf.out g h.symm with q | q
                · exact AP.out g q e
                · have := WB.out g e; omega
              · intro g e
                rcases Z_hf.out g e with q | q
                · exact .inl (RA.out g q)
                · exact .inr q
            · obtain rfl : u = 20 := by omega
              clear hlt hu
              obtain ⟨N4, hN4⟩ : ∃ N4, N4 = wr.heap.size := ⟨_, rfl⟩
              have NW : Hid (w.heap.size ≤ N4) := by show _ ≤ _; rw [hN4]; exact hG.size
              have HF : Hid _ := hf
              obtain ⟨Av, cv, ev, _⟩ := ov.form
              subst ev
              have LE : Hid (N4 ≤ wr.heap.size) := Nat.le_of_eq hN4
              have NV : Hid (∀ g, (Value.slice Av (t + 20) cv).ownBlock = some g → g < N4) := fun g e => by rw [hN4]; exact ov.lt g e
              clear hf hN4
              go_wp2
              go_loopw [1, 10] (fun v i wq => ∃ u : Nat, u ≤ 20 ∧ i = .int .i64 (u : Int) ∧ Ow wq v (s + u) (vB (rp m2 (s + u))) ∧ Frm (.slice B s cb) N4 v ∧ Ow wq (.slice B s cb) s (vB (rp m2 s)) ∧ Ow wq (.slice A t ca) t (vB (rp m1 t)) ∧ Ow wq (.slice Av (t + 20) cv) (t + 20) (vB (rp m1 (t + 20))) ∧ Gro R w wq ∧ N4 ≤ wq.heap.size) (fun _ i _ => 20 - (intOf i).toNat)
              case atStart => exact ⟨0, Nat.zero_le _, rfl, ob, fun g e => .inl e, ob, oa, ov, hG, LE.out⟩
              case round =>
                clear oa ob hG ov LE
                obtain ⟨u, hu, rfl, ow, hf, ob, oa, ov, hG, hle⟩ := hrel
                by_cases hlt : u < 20
                · obtain ⟨Av1, cv1, ev1, _⟩ := ow.form
                  subst ev1
                  have hB1 : Below wr.heap.size wr (wr.alloc (.cells (vB m2).toArray 42)) := (Below.refl _ _).alloc (Nat.le_refl _) _
                  have r1 : Row (wr.alloc (.cells (vB m2).toArray 42)) wr.heap.size (vB m2) 42 := Row.new' rfl rfl
                  replace ow := ow.be hB1
                  replace oa := oa.be hB1
                  replace ob := ob.be hB1
                  replace ov := ov.be hB1
                  replace hG := hG.below hB1
                  have hz : wr.heap.size ≤ (wr.alloc (.cells (vB m2).toArray 42)).heap.size := hB1.size
                  have h0 := hle
                  have HK1 : Hid ((s + u + 1) * 32 ≤ 140737488355328) := Nat.le_trans (Nat.mul_le_mul_right 32 (Nat.add_le_add_left hlt s)) HK.out
                  have Z_r1 : Hid _ := r1
                  have Z_hf : Hid _ := hf
                  have Z_hG : Hid _ := hG
                  have Z_hz : Hid _ := hz
                  have Z_ow : Hid _ := ow
                  have Z_oa : Hid _ := oa
                  have Z_ob : Hid _ := ob
                  have Z_ov : Hid _ := ov
                  have Z_hle : Hid _ := hle
                  clear r1 hf hG hz hB1 ow oa ob ov hle
                  go_wp2_with (first
                    | (refine wpList_buildx rfl (.const (.int .u8 22)) 22#8 m2 Hm2.out rfl rfl ?_; simp only [Act.put, List.setIfInBounds_toArray, List.set_cons_zero, List.set_cons_succ])
                    | (refine wpList_build_dd rfl (.tmp 50) rfl m2 D2 rfl ?_; simp only [Act.put, List.setIfInBounds_toArray, List.set_cons_zero, List.set_cons_succ])
                    | (refine wpList_append_still rfl (.tmp 49) (.tmp 51) rfl wr.heap.size (s + u) _ _ m2 D2 rfl Z_ow.out rfl Z_r1.out HK1.out ?_; intro v' w' q1 q2 q3 q4; obtain ⟨Ax, cx, ex, _⟩ := q1.form; subst ex; simp only [Act.put, List.setIfInBounds_toArray, List.set_cons_zero, List.set_cons_succ]; have Q1 : Hid _ := q1; have Q2 : Hid _ := q2; have Q3 : Hid _ := q3; have Q4 : Hid _ := q4; clear q1 q2 q3 q4))
                  refine ⟨⟨u + 1, hlt, by go_num, ?_, ?_, Ow.under D2 Z_ob.out Z_ow.out (Nat.le_add_right _ _) Q4.out Q2.out, Ow.grown Z_oa.out Q2.out ?_, Ow.grown Z_ov.out Q2.out ?_, Z_hG.out.grown Q2.out ?_, Nat.le_trans Z_hle.out (Nat.le_trans Z_hz.out Q2.out.size)⟩, by simp [intOf]; omega⟩
                  · rw [← Nat.add_assoc, rp_more, vB_append]; exact Q1.out
                  · intro g e
                    rcases Q3.out with q | q
                    · exact Z_hf.out g (q ▸ e)
                    · rw [q] at e
                      simp only [Option.some.injEq] at e
                      exact .inr (by rw [← e]; exact Nat.le_trans Z_hle.out Z_hz.out)
                  · intro g e h
                    rcases Z_hf.out g h.symm with q | q
                    · exact AP.out g e q
                    · have := WA.out g e; have := NW.out; omega
                  · intro g e h
                    rcases Z_hf.out g h.symm with q | q
                    · rcases HF.out g e with p | p
                      · exact AP.out g p q
                      · have := WB.out g q; omega
                    · have := NV.out g e; omega
                  · intro g e
                    rcases Z_hf.out g e with q | q
                    · exact .inl (RB.out g q)
                    · exact .inr (Nat.le_trans NW.out q)
                · obtain rfl : u = 20 := by omega
                  obtain ⟨Aw, cw, ew, _⟩ := ow.form
                  subst ew
                  clear hlt hu hf hle
                  go_wp2_with fail
                  refine (marked_any (t + 20) HN.out _ (by omega) 11#8 _ rfl m1 Hm1.out wr).mono ?_
                  rintro e V1 ⟨v1, rfl, p1, f1, hB⟩
                  replace ow := ow.be hB; replace ov := ov.be hB; replace oa := oa.be hB; replace ob := ob.be hB; replace hG := hG.below hB
                  clear hB f1
                  obtain ⟨A1, c1, e1, _⟩ := p1.form
                  subst e1
                  go_wp2_with fail
                  refine (marked_any (s + 20) HK.out _ (by omega) 22#8 _ rfl m2 Hm2.out V1).mono ?_
                  rintro e V2 ⟨v2, rfl, p2, f2, hB⟩
                  replace ow := ow.be hB; replace ov := ov.be hB; replace oa := oa.be hB; replace ob := ob.be hB; replace hG := hG.below hB; replace p1 := p1.be hB
                  clear hB f2
                  obtain ⟨A2, c2, e2, _⟩ := p2.form
                  subst e2
                  go_wp2_with fail
                  refine (same_any (List.replicate (t + 20) m1) (t + 20) (List.length_replicate ..) (by have := HN.out; omega) _ _ _ _ V2 (ov.marks D1) (p1.marks D1)).mono ?_
                  rintro e V3 ⟨rfl, hB⟩
                  replace ow := ow.be hB; replace oa := oa.be hB; replace ob := ob.be hB; replace hG := hG.below hB; replace p2 := p2.be hB
                  clear hB ov p1
                  go_wp2_with fail
                  refine (same_any (List.replicate (s + 20) m2) (s + 20) (List.length_replicate ..) (by have := HK.out; omega) _ _ _ _ V3 (ow.marks D2) (p2.marks D2)).mono ?_
                  rintro e V4 ⟨rfl, hB⟩
                  replace oa := oa.be hB; replace ob := ob.be hB; replace hG := hG.below hB
                  clear hB ow p2
                  go_wp2_with fail
                  go_ret
                  exact ⟨rfl, oa, ob, hG⟩

end Go.Proofs.YtkgfaioinajkjaaDoor
