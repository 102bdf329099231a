/-
  The law's ownedThree.
-/
import Derived.Test.YtflllmhefehpgaaDoorTOwned
namespace Go.Proofs.YtflllmhefehpgaaDoor
open Go Go.RowKit
open Sha

theorem Gro.mono {R S : Nat → Prop} {a b : World} (h : Gro R a b) (k : ∀ g, R g → S g) : Gro S a b := ⟨h.os, h.tape, h.output, h.size, fun g hg hn => h.block g hg (fun q => hn (k g q))⟩
theorem Ow.range {w : World} {g cap n : Nat} {m : List (BitVec 8)} (h : Ow w (.slice (some ⟨g, 0, none⟩) n cap) n (vB (rp m n))) (hm : m.length = 32) (t : Nat) (ht : t < n) : w.rangeAt g (t * 32) (vB m) := by
  obtain ⟨b, o, e, r⟩ := pat_range (A := some ⟨g, 0, none⟩) (cap := cap) (ds := List.replicate n m) (by rw [List.length_replicate]; exact h.marks hm) t (by rw [List.length_replicate]; exact ht)
  simp only [Option.some.injEq, Addr.mk.injEq] at e
  rw [← e.1, ← e.2.1, Nat.zero_add, show (List.replicate n m).getD t [] = m by simp [List.getD_eq_getElem?_getD, ht]] at r
  exact r

set_option maxRecDepth 100000 in
set_option maxHeartbeats 8000000 in
theorem own3_any (n p q : Nat) (hn : (n + 20) * 32 ≤ 140737488355328) (hp : (p + 20) * 32 ≤ 140737488355328) (hq : (q + 20) * 32 ≤ 140737488355328) (A B C : Option Addr) (ca cb cc : Nat) (xa xb xc : List Value) (w : World)
    (oa : Ow w (.slice A p ca) p xa) (ob : Ow w (.slice B q cb) q xb) (oc : Ow w (.slice C n cc) n xc) (ab : Ap (.slice A p ca) (.slice B q cb)) (ac : Ap (.slice A p ca) (.slice C n cc)) (bc : Ap (.slice B q cb) (.slice C n cc)) :
    Calls Tryd.prog 26 #[.slice A p ca, .slice B q cb, .slice C n cc] w fun e w' => e = .returned (.bool true) ∧ Gro (fun g => (Value.slice A p ca).ownBlock = some g ∨ (Value.slice B q cb).ownBlock = some g ∨ (Value.slice C n cc).ownBlock = some g) w w' := by
  obtain ⟨m1, h1⟩ : ∃ m, m = md 11#8 := ⟨_, rfl⟩
  obtain ⟨m2, h2⟩ : ∃ m, m = md 22#8 := ⟨_, rfl⟩
  obtain ⟨m3, h3⟩ : ∃ m, m = md 33#8 := ⟨_, rfl⟩
  have Hm1 : Hid (m1 = md 11#8) := h1
  have Hm2 : Hid (m2 = md 22#8) := h2
  have Hm3 : Hid (m3 = md 33#8) := h3
  have D1 : Dl m1 := by rw [h1]; exact dl_md _
  have D2 : Dl m2 := by rw [h2]; exact dl_md _
  have D3 : Dl m3 := by rw [h3]; exact dl_md _
  have HN : Hid ((n + 20) * 32 ≤ 140737488355328) := hn
  have HP : Hid ((p + 20) * 32 ≤ 140737488355328) := hp
  have HQ : Hid ((q + 20) * 32 ≤ 140737488355328) := hq
  have LC : Hid (xc.length = n * 32) := oc.1
  have WA : Hid (∀ g, (Value.slice A p ca).ownBlock = some g → g < w.heap.size) := oa.lt
  have WB : Hid (∀ g, (Value.slice B q cb).ownBlock = some g → g < w.heap.size) := ob.lt
  have WC : Hid (∀ g, (Value.slice C n cc).ownBlock = some g → g < w.heap.size) := oc.lt
  have AB : Hid (Ap _ _) := ab
  have AC : Hid (Ap _ _) := ac
  have BC : Hid (Ap _ _) := bc
  obtain ⟨R, hR⟩ : ∃ R : Nat → Prop, R = fun g => (Value.slice A p ca).ownBlock = some g ∨ (Value.slice B q cb).ownBlock = some g ∨ (Value.slice C n cc).ownBlock = some g := ⟨_, rfl⟩
  have RA : Hid (∀ g, (Value.slice A p ca).ownBlock = some g → R g) := fun g e => by rw [hR]; exact .inl e
  have RB : Hid (∀ g, (Value.slice B q cb).ownBlock = some g → R g) := fun g e => by rw [hR]; exact .inr (.inl e)
  have RC : Hid (∀ g, (Value.slice C n cc).ownBlock = some g → R g) := fun g e => by rw [hR]; exact .inr (.inr e)
  rw [← hR]
  have hsn : n ≤ 4398046511104 := by omega
  have hsp : p ≤ 4398046511104 := by omega
  have hsq : q ≤ 4398046511104 := by omega
  clear h1 h2 h3 hn hp hq hR ab ac bc
  go_enter Tryd.func26, Tryd.ntmps26
  go_wp2
  go_loopw [8] (fun i wr => ∃ t : Nat, t ≤ n ∧ i = .int .i64 (t : Int) ∧ Ow wr (.slice C n cc) n (half m3 xc t) ∧ Ow wr (.slice A p ca) p xa ∧ Ow wr (.slice B q cb) q xb ∧ Gro R w wr) (fun i _ => n - (intOf i).toNat)
  case atStart => exact ⟨0, Nat.zero_le _, rfl, by rw [half_zero]; exact oc, oa, ob, Gro.refl _ _⟩
  case round =>
    clear oa ob oc
    obtain ⟨t, ht, rfl, oc, oa, ob, hG⟩ := hrel
    by_cases hlt : t < n
    · obtain ⟨g, cap, eo⟩ := oc.open (by omega)
      simp only [Value.slice.injEq, true_and] at eo
      obtain ⟨rfl, rfl⟩ := eo
      have o1 := oc.set t hlt (vB m3) D3.len
      rw [half_step m3 D3 xc t] at o1
      have o2 := oa.set_other (g := g) (o := t * 32) (ys := vB m3) (fun j e h => AC.out g (h ▸ e) rfl)
      have o3 := ob.set_other (g := g) (o := t * 32) (ys := vB m3) (fun j e h => BC.out g (h ▸ e) rfl)
      have g1 := hG.sets g (t * 32) (vB m3) (RC.out g rfl)
      have T : wr.there g (t * 32) (vB m3).toArray.size := by rw [List.size_toArray, D3.len]; exact oc.there t hlt
      obtain ⟨o, eo⟩ : ∃ o, o = t * 32 := ⟨_, rfl⟩
      rw [← eo] at T o1 o2 o3 g1
      have EO : Hid (0 + t * 32 = o) := by show _ = _; omega
      have HT : Hid _ := T
      have O1 : Hid _ := o1
      have O2 : Hid _ := o2
      have O3 : Hid _ := o3
      have G1 : Hid _ := g1
      clear oa ob oc hG T o1 o2 o3 g1 eo
      go_wp2_with (first
        | (refine wpList_buildx rfl (.const (.int .u8 33)) 33#8 m3 Hm3.out rfl rfl ?_; simp only [Act.put, List.setIfInBounds_toArray, List.set_cons_zero, List.set_cons_succ])
        | (refine wpList_index_d rfl (.tmp 22) (.tmp 23) rfl g 0 n cc t o EO.out _ rfl rfl rfl hlt ?_; simp only [Act.put, List.setIfInBounds_toArray, List.set_cons_zero, List.set_cons_succ])
        | (refine wpList_store_mid rfl 24 (.tmp 25) (.tmp 24) rfl g o (vB m3).toArray rfl rfl HT.out D3.info' D3.one ?_; simp only [Act.put]; (change wpList _ _ _ _ _ (World.setCells wr g o (vB m3)))))
      exact ⟨⟨t + 1, hlt, by go_num, O1.out, O2.out, O3.out, G1.out⟩, by simp [intOf]; omega⟩
    · obtain rfl : t = n := by omega
      rw [half_all m3 xc t LC.out] at oc
      clear hlt ht
      go_wp2_with fail
      refine (owned_any p q HP.out HQ.out m1 m2 Hm1.out Hm2.out A B ca cb xa xb wr oa ob AB.out).mono ?_
      rintro e V1 ⟨rfl, oa', ob', hg⟩
      clear oa ob
      have oc' := oc.gro hg (fun g e h => by rcases h with h | h; exact AC.out g h e; exact BC.out g h e)
      replace hG := hG.trans (hg.mono (fun g h => by rcases h with h | h; exact RA.out g h; exact RB.out g h))
      clear hg oc
      have OA : Hid _ := oa'
      have OB : Hid _ := ob'
      have OC : Hid _ := oc'
      have HG : Hid _ := hG
      clear oa' ob' oc' hG
      go_wp2_with fail
      go_loopw [10] (fun i wq => ∃ s : Nat, s ≤ t ∧ i = .int .i64 (s : Int) ∧ wq = V1) (fun i _ => t - (intOf i).toNat)
      case atStart => exact ⟨0, Nat.zero_le _, rfl, rfl⟩
      case round =>
        obtain ⟨s, hs, rfl, rfl⟩ := hrel
        by_cases hlt : s < t
        · obtain ⟨g, cap, eo⟩ := Ow.open OC.out (by omega)
          simp only [Value.slice.injEq, true_and] at eo
          obtain ⟨rfl, rfl⟩ := eo
          have rg := Ow.range OC.out D3 s hlt
          obtain ⟨o, eo⟩ : ∃ o, o = s * 32 := ⟨_, rfl⟩
          rw [← eo] at rg
          have EO : Hid (0 + s * 32 = o) := by show _ = _; omega
          have RG : Hid _ := rg
          clear rg eo
          go_wp2_with (first
            | (refine wpList_buildx rfl (.const (.int .u8 33)) 33#8 m3 Hm3.out rfl rfl ?_; simp only [Act.put, List.setIfInBounds_toArray, List.set_cons_zero, List.set_cons_succ])
            | (refine wpList_index_d rfl (.tmp 34) (.tmp 35) rfl g 0 t cc s o EO.out _ rfl rfl rfl hlt ?_; simp only [Act.put, List.setIfInBounds_toArray, List.set_cons_zero, List.set_cons_succ])
            | (refine wpList_load_w rfl 24 (.tmp 36) rfl g o rfl (vB m3) _ RG.out Tryd.underlying24 rfl D3.info ?_; simp only [Act.put, List.setIfInBounds_toArray, List.set_cons_zero, List.set_cons_succ])
            | (refine wpList_neq_dd rfl (.tmp 37) (.tmp 38) 24 rfl m3 m3 false (by simp) D3 D3 rfl rfl ?_; simp only [Act.put, List.setIfInBounds_toArray, List.set_cons_zero, List.set_cons_succ]))
          exact ⟨⟨s + 1, hlt, by go_num, trivial⟩, by simp [intOf]; omega⟩
        · obtain rfl : s = t := by omega
          have oa := OA.out
          have ob := OB.out
          have oc := OC.out
          have hG := HG.out
          clear hlt hs OA OB OC HG
          go_wp2
          go_loopw [2, 11] (fun v i wr => ∃ u : Nat, u ≤ 20 ∧ i = .int .i64 (u : Int) ∧ Ow wr v (s + u) (vB (rp m3 (s + u))) ∧ Frm (.slice C s cc) w.heap.size v ∧ Ow wr (.slice A p ca) p (vB (rp m1 p)) ∧ Ow wr (.slice B q cb) q (vB (rp m2 q)) ∧ Gro R w wr) (fun _ i _ => 20 - (intOf i).toNat)
          case atStart => exact ⟨0, Nat.zero_le _, rfl, oc, fun g e => .inl e, oa, ob, hG⟩
          case round =>
            clear oa ob oc hG
            obtain ⟨u, hu, rfl, ov, hf, oa, ob, hG⟩ := hrel
            by_cases hlt : u < 20
            · obtain ⟨Av1, cv1, ev1, _⟩ := ov.form
              subst ev1
              have hB1 : Below wr.heap.size wr (wr.alloc (.cells (vB m3).toArray 24)) := (Below.refl _ _).alloc (Nat.le_refl _) _
              have r1 : Row (wr.alloc (.cells (vB m3).toArray 24)) wr.heap.size (vB m3) 24 := Row.new' rfl rfl
              replace ov := ov.be hB1
              replace oa := oa.be hB1
              replace ob := ob.be hB1
              replace hG := hG.below hB1
              have hz : wr.heap.size ≤ (wr.alloc (.cells (vB m3).toArray 24)).heap.size := hB1.size
              have HK1 : Hid ((s + u + 1) * 32 ≤ 140737488355328) := Nat.le_trans (Nat.mul_le_mul_right 32 (Nat.add_le_add_left hlt s)) HN.out
              have Z_r1 : Hid _ := r1
              have Z_hf : Hid _ := hf
              have Z_hG : Hid _ := hG
              have Z_hz : Hid _ := hz
              have Z_ov : Hid _ := ov
              have Z_oa : Hid _ := oa
              have Z_ob : Hid _ := ob
              clear r1 hf hG hz hB1 ov oa ob
              go_wp2_with (first
                | (refine wpList_buildx rfl (.const (.int .u8 33)) 33#8 m3 Hm3.out rfl rfl ?_; simp only [Act.put, List.setIfInBounds_toArray, List.set_cons_zero, List.set_cons_succ])
                | (refine wpList_build_dd rfl (.tmp 45) rfl m3 D3 rfl ?_; simp only [Act.put, List.setIfInBounds_toArray, List.set_cons_zero, List.set_cons_succ])
                | (refine wpList_append_still rfl (.tmp 44) (.tmp 46) rfl wr.heap.size (s + u) _ _ m3 D3 rfl Z_ov.out rfl Z_r1.out HK1.out ?_; intro v' w' q1 q2 q3 q4; obtain ⟨Ax, cx, ex, _⟩ := q1.form; subst ex; simp only [Act.put, List.setIfInBounds_toArray, List.set_cons_zero, List.set_cons_succ]; have Q1 : Hid _ := q1; have Q2 : Hid _ := q2; have Q3 : Hid _ := q3; have Q4 : Hid _ := q4; clear q1 q2 q3 q4))
              refine ⟨⟨u + 1, hlt, by go_num, ?_, ?_, Ow.grown Z_oa.out Q2.out ?_, Ow.grown Z_ob.out Q2.out ?_, Z_hG.out.grown Q2.out ?_⟩, by simp [intOf]; omega⟩
              · rw [← Nat.add_assoc, rp_more, vB_append]; exact Q1.out
              · intro g e
                rcases Q3.out with q | q
                · exact Z_hf.out g (q ▸ e)
                · rw [q] at e
                  simp only [Option.some.injEq] at e
                  exact .inr (by rw [← e]; exact Z_hG.out.size)
              · intro g e h
                rcases Z_hf.out g h.symm with q | q
                · exact AC.out g e q
                · have := WA.out g e; omega
              · intro g e h
                rcases Z_hf.out g h.symm with q | q
                · exact BC.out g e q
                · have := WB.out g e; omega
              · intro g e
                rcases Z_hf.out g e with q | q
                · exact .inl (RC.out g q)
                · exact .inr q
            · obtain rfl : u = 20 := by omega
              obtain ⟨Av, cv, ev, _⟩ := ov.form
              subst ev
              clear hlt hu hf
              go_wp2_with fail
              refine (marked_any (s + 20) HN.out _ (by omega) 33#8 _ rfl m3 Hm3.out _).mono ?_
              rintro e V2 ⟨v1, rfl, p1, f1, hB⟩
              replace ov := ov.be hB; replace oa := oa.be hB; replace ob := ob.be hB; replace hG := hG.below hB
              clear hB f1
              obtain ⟨A1, c1, e1, _⟩ := p1.form
              subst e1
              go_wp2_with fail
              refine (marked_any p (by have := HP.out; omega) _ rfl 11#8 _ rfl m1 Hm1.out V2).mono ?_
              rintro e V3 ⟨v2, rfl, p2, f2, hB⟩
              replace ov := ov.be hB; replace oa := oa.be hB; replace ob := ob.be hB; replace hG := hG.below hB; replace p1 := p1.be hB
              clear hB f2
              obtain ⟨A2, c2, e2, _⟩ := p2.form
              subst e2
              go_wp2_with fail
              refine (marked_any q (by have := HQ.out; omega) _ rfl 22#8 _ rfl m2 Hm2.out V3).mono ?_
              rintro e V4 ⟨v3, rfl, p3, f3, hB⟩
              replace ov := ov.be hB; replace oa := oa.be hB; replace ob := ob.be hB; replace hG := hG.below hB; replace p1 := p1.be hB; replace p2 := p2.be hB
              clear hB f3
              obtain ⟨A3, c3, e3, _⟩ := p3.form
              subst e3
              have hN1 : s + 20 ≤ 4398046511104 := by have := HN.out; omega
              have hN2 : p ≤ 4398046511104 := by have := HP.out; omega
              have hN3 : q ≤ 4398046511104 := by have := HQ.out; omega
              have N1 : Hid _ := hN1
              have N2 : Hid _ := hN2
              have N3 : Hid _ := hN3
              clear hN1 hN2 hN3
              go_wp2_with fail
              refine (same_any (List.replicate (s + 20) m3) (s + 20) (List.length_replicate ..) N1.out _ _ _ _ V4 (ov.marks D3) (p1.marks D3)).mono ?_
              rintro e V5 ⟨rfl, hB⟩
              replace oa := oa.be hB; replace ob := ob.be hB; replace hG := hG.below hB; replace p2 := p2.be hB; replace p3 := p3.be hB
              clear hB ov p1
              go_wp2_with fail
              refine (same_any (List.replicate p m1) p (List.length_replicate ..) N2.out _ _ _ _ V5 (oa.marks D1) (p2.marks D1)).mono ?_
              rintro e V6 ⟨rfl, hB⟩
              replace ob := ob.be hB; replace hG := hG.below hB; replace p3 := p3.be hB
              clear hB oa p2
              go_wp2_with fail
              refine (same_any (List.replicate q m2) q (List.length_replicate ..) N3.out _ _ _ _ V6 (ob.marks D2) (p3.marks D2)).mono ?_
              rintro e V7 ⟨rfl, hB⟩
              replace hG := hG.below hB
              clear hB ob p3
              go_wp2_with fail
              go_ret
              exact ⟨rfl, hG⟩

end Go.Proofs.YtflllmhefehpgaaDoor
