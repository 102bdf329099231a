/-
  The law WireAsksOnce.
-/
import Derived.Test.YtmkmdbpibpbcjabXAl
import Derived.Test.YtmkmdbpibpbcjabXOwn
import Derived.Test.YtmkmdbpibpbcjabXLaw
import Derived.Deep.QuietTactic
namespace Go.Proofs.Ytmkmdbpibpbcjab
open Go Go.RowKit
open Sha

theorem rs_keep (bs : List (BitVec 8)) (a : Nat) (f : Int) (hf : ¬ f = 0) : ∀ t, rs bs a f t = (a, f)
  | 0 => rfl
  | t + 1 => by
    have ih := rs_keep bs a f hf t
    show (nA bs (rs bs a f t).1 (rs bs a f t).2, nF bs (rs bs a f t).1 (rs bs a f t).2) = _
    rw [ih]
    unfold nA nF
    rw [if_neg hf, if_neg hf]
theorem pk4 (c : Int) : 0 ≤ pk c 4 ∧ pk c 4 ≤ 3 := by
  unfold pk; split <;> omega
theorem few (bs : List (BitVec 8)) (k : Nat) (most : Int) : cV bs (rs bs 0 (f0 bs) k).1 (rs bs 0 (f0 bs) k).2 most ≤ 4194304 := by
  by_cases h : 4194304 < bs.length
  · have e : f0 bs = 30 := by unfold f0; rw [if_pos h]
    rw [e, rs_keep bs 0 30 (by decide) k]
    show cV bs 0 30 most ≤ _
    unfold cV
    rw [if_neg (by decide)]
    decide
  · exact Nat.le_trans (cV_le _ _ _ _) (by omega)

set_option maxRecDepth 100000 in
set_option maxHeartbeats 8000000 in
theorem asks_walk (B : Option Addr) (n cb : Nat) (bs : List (BitVec 8)) (hb : bs.length = n) (hl : n ≤ 140737488351232) (hnil : B = none → cb = 0) (most : Int) (ahead : Int) (h1 : -9223372036854775808 ≤ ahead) (h2 : ahead ≤ 9223372036854775807) (w : World) (hv : SlAt w (.slice B n cb) bs) :
    Calls Try.prog 5 #[.slice B n cb, .int .i64 most, .int .i64 ahead] w fun e w' => e = .returned (.bool true) ∧ Below w.heap.size w w' := by
  obtain ⟨p, hp⟩ : ∃ p : Nat, pk ahead 4 = (p : Int) := ⟨(pk ahead 4).toNat, by have := pk4 ahead; omega⟩
  have hp8 : p ≤ 3 := by have := pk4 ahead; omega
  have HP : Hid (∀ w, _) := fun w => pick_any ahead 4 (by decide) h1 h2 (by decide) w
  rw [hp] at HP
  have HNR : Hid _ := newReader_x B n cb bs hb hnil w hv
  have HV : Hid (SlAt w (.slice B n cb) bs) := hv
  have HBN : Hid (bs.length = n) := hb
  have HLN : Hid (n ≤ 140737488351232) := hl
  clear hv hb hl hnil h1 h2 hp
  go_enter Try.func5, Try.ntmps5
  go_wp2_with fail
  refine Calls.mono HNR.out ?_
  rintro e W1 ⟨P, A, cap, rfl, hr1, hP, hfr, hb1⟩
  have RX : Hid (Rx W1 P A cap bs 0 (f0 bs)) := hr1
  have HPP : Hid (w.heap.size ≤ P) := hP
  have HFR : Hid (Fresh w.heap.size (.slice A bs.length cap)) := hfr
  have B1 : Hid (Below w.heap.size w W1) := hb1
  clear hr1 hP hfr hb1 HNR
  go_wp2_with fail
  refine Calls.mono (own_any B n cb bs HBN.out HLN.out W1 (SlAt.be HV.out B1.out)) ?_
  rintro e W2 ⟨rfl, hr2, hb2⟩
  have RX2 : Hid (Rx W2 P A cap bs 0 (f0 bs)) := Rx.be RX.out hb2
  have R2 : Hid (Row W2 W1.heap.size (vB bs) 5) := hr2
  have B2 : Hid (Below w.heap.size w W2) := B1.out.trans (hb2.mono B1.out.size)
  have HG2 : Hid (w.heap.size ≤ W1.heap.size) := B1.out.size
  have HFA : Hid (∀ g, (Value.slice A bs.length cap).ownBlock = some g → f0 bs = 0 → g < W1.heap.size) := fun g e h0 => by
    rcases RX.out with ⟨_, q⟩ | ⟨q, _⟩
    · exact Bw.lt q.bw g e
    · exact absurd h0 q
  have HPL : Hid (P < W1.heap.size) := by obtain ⟨v, hv⟩ := RX.out.row; exact Row.lt hv
  clear hr2 hb2 RX B1
  generalize W1.heap.size = G at *
  go_wp2_with fail
  refine Calls.mono (read_any G bs n HBN.out HLN.out W2 R2.out) ?_
  rintro e W3 ⟨rfl, hr3, hb3⟩
  have RX3 : Hid (Rx W3 P A cap bs 0 (f0 bs)) := Rx.be RX2.out hb3
  have RR3 : Hid (Rr W3 W2.heap.size G bs 0 (f0 bs)) := hr3
  have B3 : Hid (Below w.heap.size w W3) := B2.out.trans (hb3.mono B2.out.size)
  have HD3 : Hid (G < W2.heap.size) := Row.lt R2.out
  have HD4 : Hid (w.heap.size ≤ W2.heap.size) := B2.out.size
  clear hr3 hb3 RX2 R2 B2
  generalize W2.heap.size = D at *
  go_wp2_with fail
  refine Calls.mono (known_any W3) ?_
  rintro e W4 ⟨rfl, hb4⟩
  have RX4 : Hid (Rx W4 P A cap bs 0 (f0 bs)) := Rx.be RX3.out hb4
  have RR4 : Hid (Rr W4 D G bs 0 (f0 bs)) := RR3.out.be hb4
  have B4 : Hid (Below w.heap.size w W4) := B3.out.trans (hb4.mono B3.out.size)
  clear hb4 RX3 RR3 B3
  go_wp2_with fail
  go_loopw [9] (fun i wr => ∃ t : Nat, t ≤ p ∧ i = .int .i64 (t : Int) ∧ Rx wr P A cap bs (rs bs 0 (f0 bs) t).1 (rs bs 0 (f0 bs) t).2 ∧ Rr wr D G bs (rs bs 0 (f0 bs) t).1 (rs bs 0 (f0 bs) t).2 ∧ Below w.heap.size w wr) (fun i _ => p - (intOf i).toNat)
  case atStart => exact ⟨0, Nat.zero_le _, rfl, RX4.out, RR4.out, B4.out⟩
  case round =>
    clear RX4 RR4 B4
    obtain ⟨t, ht, rfl, hrx, hrr, hbb⟩ := hrel
    have RX : Hid (Rx _ _ _ _ _ _ _) := hrx
    have RR : Hid (Rr _ _ _ _ _ _) := hrr
    have BB : Hid (Below w.heap.size w wr) := hbb
    clear hrx hrr hbb
    by_cases hlt : t < p
    · go_wp2_with (first
        | (go_at_call 9; refine Calls.mono (HP.out _) ?_; rintro e w2 ⟨rfl, hq⟩; obtain rfl := hq.symm)
        | fail)
      refine Calls.mono (number_x P A cap bs _ _ wr RX.out) ?_
      rintro e V1 ⟨rfl, hx1, hg1⟩
      have hneD : ¬ D = P := by have := HPL.out; have := HD3.out; omega
      have hneG : ¬ G = P := by have := HPL.out; omega
      have RX1 : Hid (Rx _ _ _ _ _ _ _) := hx1
      have RR1 : Hid (Rr V1 D G bs (rs bs 0 (f0 bs) t).1 (rs bs 0 (f0 bs) t).2) := RR.out.gro hg1 hneD hneG
      have BB1 : Hid (Below w.heap.size w V1) := BB.out.trans (hg1.to_below BB.out.size (fun k q => by rw [q]; exact HPP.out))
      clear hx1 hg1 hneD hneG
      generalize ((nV bs (rs bs 0 (f0 bs) t).1 (rs bs 0 (f0 bs) t).2 : Nat) : Int) = z
      go_wp2_with fail
      refine Calls.mono (rnum_x D G bs _ _ V1 RR1.out) ?_
      rintro e V2 ⟨rfl, hx2, hg2⟩
      have RX2 : Hid (Rx V2 P A cap bs (rs bs 0 (f0 bs) (t + 1)).1 (rs bs 0 (f0 bs) (t + 1)).2) := Rx.gro RX1.out hg2 (fun e => by have := HPL.out; have := HD3.out; omega) (fun h0 g e q => by
        have hz : f0 bs = 0 := by
          by_cases hz : f0 bs = 0
          · exact hz
          · exfalso
            have e2 := rs_keep bs 0 (f0 bs) hz (t + 1)
            have e3 : (rs bs 0 (f0 bs) (t + 1)).2 = 0 := h0
            rw [e2] at e3
            exact hz e3
        have := HFA.out g e hz
        have := HD3.out
        omega)
      have RR2 : Hid (Rr V2 D G bs (rs bs 0 (f0 bs) (t + 1)).1 (rs bs 0 (f0 bs) (t + 1)).2) := hx2
      have BB2 : Hid (Below w.heap.size w V2) := BB1.out.trans (hg2.to_below BB1.out.size (fun k q => by rw [q]; exact HD4.out))
      clear hx2 hg2 RX1 RR1 BB1
      generalize ((nV bs (rs bs 0 (f0 bs) t).1 (rs bs 0 (f0 bs) t).2 : Nat) : Int) = z2
      go_wp2_with fail
      exact ⟨⟨t + 1, hlt, by go_num, RX2.out, RR2.out, BB2.out⟩, by simp [intOf]; omega⟩
    · obtain rfl : t = p := by omega
      have hfew := few bs t most
      obtain ⟨a, ha⟩ : ∃ a, a = (rs bs 0 (f0 bs) t).1 := ⟨_, rfl⟩
      obtain ⟨f, hf⟩ : ∃ f, f = (rs bs 0 (f0 bs) t).2 := ⟨_, rfl⟩
      rw [← ha, ← hf] at RX RR hfew
      have hz0 : ¬ f0 bs = 0 → f = f0 bs := fun hz => by rw [hf, rs_keep bs 0 (f0 bs) hz t]
      have HZ0 : Hid (¬ f0 bs = 0 → f = f0 bs) := hz0
      clear ha hf hz0
      obtain ⟨a1, ha1⟩ : ∃ x, x = cA bs a f most := ⟨_, rfl⟩
      obtain ⟨f1, hf1⟩ : ∃ x, x = cF bs a f most := ⟨_, rfl⟩
      obtain ⟨m, hm⟩ : ∃ x, x = cV bs a f most := ⟨_, rfl⟩
      have RXW : Hid (Rx (wr.alloc (Obj.cells #[.int .i64 0] 3)) P A cap bs a f) := Rx.be RX.out ((Below.refl _ _).alloc (Nat.le_refl _) _)
      have RRW : Hid (Rr (wr.alloc (Obj.cells #[.int .i64 0] 3)) D G bs a f) := RR.out.be ((Below.refl _ _).alloc (Nat.le_refl _) _)
      have BBW : Hid (Below w.heap.size w (wr.alloc (Obj.cells #[.int .i64 0] 3))) := BB.out.trans ((Below.refl wr.heap.size wr).alloc (Nat.le_refl _) _ |>.mono BB.out.size)
      have RC : Hid (Row (wr.alloc (Obj.cells #[.int .i64 0] 3)) wr.heap.size [.int .i64 0] 3) := Row.new' rfl rfl
      have HCW : Hid (w.heap.size ≤ wr.heap.size) := BB.out.size
      have HDL : Hid (D < wr.heap.size) := Row.lt RR.out.row
      have HGL : Hid (G < wr.heap.size) := Row.lt RR.out.by'
      have HLA : Hid _ := list_asks P wr.heap.size A cap bs a f most _ (by rw [HBN.out]; exact HLN.out) RXW.out RC.out a1 f1 m ha1 hf1 hm (by rw [hm]; exact hfew)
      have hmf : ∀ (fn : Fn) (first cap : Array Value) (w : World), (Instr.makeFunc fn first cap).run Try.prog w = .ok (.func fn first cap) w := fun _ _ _ _ => rfl
      have HM : Hid (m = cV bs a f most) := hm
      have HA1 : Hid (a1 = cA bs a f most) := ha1
      have HF1 : Hid (f1 = cF bs a f most) := hf1
      have hm4 : m ≤ 4194304 := by rw [hm]; exact hfew
      clear RX RR BB hfew ha1 hf1 hm
      go_wp2_with (first
        | (go_at_call 9; refine Calls.mono (HP.out _) ?_; rintro e w2 ⟨rfl, hq⟩; obtain rfl := hq.symm)
        | fail)
      refine Calls.mono HLA.out ?_
      rintro e V1 ⟨T, A', c', hends, rfl, hx1, hc1, hg1⟩
      have hnDP : ¬ (D = P ∨ D = wr.heap.size) := by have := HPL.out; have := HD3.out; have := HDL.out; omega
      have hnGP : ¬ (G = P ∨ G = wr.heap.size) := by have := HPL.out; have := HGL.out; omega
      have RXT : Hid (Rx V1 P A cap bs (rs bs a1 f1 T).1 (rs bs a1 f1 T).2) := hx1
      have RCT : Hid (Row V1 wr.heap.size [.int .i64 (T : Int)] 3) := hc1
      have RR1 : Hid (Rr V1 D G bs a f) := RRW.out.gro hg1 hnDP hnGP
      have BB1 : Hid (Below w.heap.size w V1) := BBW.out.trans (hg1.to_below BBW.out.size (fun k q => by
        rcases q with q | q
        · rw [q]; exact HPP.out
        · rw [q]; exact HCW.out))
      have HE : Hid (Ends bs a1 f1 m T) := hends
      obtain ⟨k, hk⟩ : ∃ k, k = if (rs bs a1 f1 T).2 = 0 then T else 0 := ⟨_, rfl⟩
      rw [← hk]
      have HK : Hid (k = if (rs bs a1 f1 T).2 = 0 then T else 0) := hk
      clear hx1 hc1 hg1 hends hnDP hnGP HLA RXW RRW BBW RC hk
      generalize wr.heap.size = C at *
      go_wp2_with fail
      refine Calls.mono (rcount_x D G bs a f most V1 RR1.out) ?_
      rintro e V2 ⟨rfl, hr2, hg2⟩
      rw [← HM.out]
      have hr2' : Rr V2 D G bs (rs bs a1 f1 0).1 (rs bs a1 f1 0).2 := by
        show Rr V2 D G bs a1 f1
        rw [HA1.out, HF1.out]; exact hr2
      have RR2 : Hid (Rr V2 D G bs (rs bs a1 f1 0).1 (rs bs a1 f1 0).2) := hr2'
      have HF3 : Hid ((rs bs a1 f1 T).2 = 0 → f0 bs = 0) := fun h0 => by
        by_cases hz : f0 bs = 0
        · exact hz
        · exfalso
          have e1 := HZ0.out hz
          have hf : ¬ f = 0 := by rw [e1]; exact hz
          have e2 : f1 = f := by rw [HF1.out]; unfold cF; rw [if_neg hf]
          rw [e2, rs_keep bs a1 f hf T] at h0
          exact hf h0
      have HRX2 : Hid (∀ V', Gp D V1 V' → Rx V' P A cap bs (rs bs a1 f1 T).1 (rs bs a1 f1 T).2) := fun V' hg => Rx.gro RXT.out hg (fun e => by have := HPL.out; have := HD3.out; omega) (fun h0 g e q => by
        have := HFA.out g e (HF3.out h0)
        have := HD3.out
        omega)
      have HRC2 : Hid (∀ V', Gp D V1 V' → Row V' C [.int .i64 (T : Int)] 3) := fun V' hg => hg.row RCT.out (fun e => by have := HDL.out; omega)
      have HBB2 : Hid (∀ V', Gp D V1 V' → Below w.heap.size w V') := fun V' hg => BB1.out.trans (hg.to_below BB1.out.size (fun k q => by rw [q]; exact HD4.out))
      have HG2 : Hid (Gp D V1 V2) := hg2
      clear hr2 hr2' hg2 RXT RCT BB1 RR1
      go_wp2_with fail
      go_loopw [12, 14] (fun wa i wr => ∃ t : Nat, t ≤ m ∧ i = .int .i64 (t : Int) ∧ wa = .int .i64 (t : Int) ∧ Rr wr D G bs (rs bs a1 f1 t).1 (rs bs a1 f1 t).2 ∧ (∀ j, j < t → (rs bs a1 f1 j).2 = 0) ∧ Gp D V1 wr) (fun _ i _ => m - (intOf i).toNat)
      case atStart => exact ⟨0, Nat.zero_le _, rfl, rfl, RR2.out, (fun j hj => by omega), HG2.out⟩
      case round =>
        clear RR2 HG2
        obtain ⟨u, hu, rfl, rfl, hrr, hso, hgg⟩ := hrel
        have RR : Hid (Rr _ _ _ _ _ _) := hrr
        have HSO : Hid (∀ j, j < u → (rs bs a1 f1 j).2 = 0) := hso
        have HGG : Hid (Gp D V1 wr) := hgg
        have g2 := hrr.row.cell 2 _ rfl
        have g1 := hrr.row.cell 1 _ rfl
        clear hrr hso hgg
        by_cases hgo : u < m ∧ (rs bs a1 f1 u).2 = 0
        · obtain ⟨hlt, hz⟩ := hgo
          have HZ : Hid ((rs bs a1 f1 u).2 = 0) := hz
          rw [hz] at g2
          clear hz g1
          go_wp2_with fail
          refine Calls.mono (rnum_x D G bs _ _ wr RR.out) ?_
          rintro e V3 ⟨rfl, hx3, hg3⟩
          have RR3 : Hid (Rr V3 D G bs (rs bs a1 f1 (u + 1)).1 (rs bs a1 f1 (u + 1)).2) := hx3
          have HG3 : Hid (Gp D V1 V3) := HGG.out.trans hg3
          clear hx3 hg3 g2
          generalize ((nV bs (rs bs a1 f1 u).1 (rs bs a1 f1 u).2 : Nat) : Int) = z
          go_wp2_with fail
          refine ⟨⟨u + 1, hlt, by go_num, by go_num, RR3.out, fun j hj => ?_, HG3.out⟩, by simp [intOf]; omega⟩
          by_cases e : j < u
          · exact HSO.out j e
          · obtain rfl : j = u := by omega
            exact HZ.out
        · have hEnds : Ends bs a1 f1 m u := ⟨hu, by
            by_cases q : u = m
            · exact .inl q
            · exact .inr (fun q2 => hgo ⟨by omega, q2⟩), HSO.out⟩
          obtain rfl : T = u := HE.out.one hEnds
          have HX : Hid (Rx wr P A cap bs (rs bs a1 f1 T).1 (rs bs a1 f1 T).2) := HRX2.out wr HGG.out
          have rc := HRC2.out wr HGG.out
          have gc := rc.cell 0 _ rfl
          have HBB : Hid (Below w.heap.size w wr) := HBB2.out wr HGG.out
          obtain ⟨v0, hrow⟩ := HX.out.row
          have HE1 : Hid (∀ W, (∃ m, W = wr.drewN m) → Calls Try.prog 15 #[.pointer (some ⟨P, 0, none⟩)] W fun e w' => e = .returned (.int .i64 (rs bs a1 f1 T).2) ∧ w' = W) := fun W hW => by (obtain ⟨m, rfl⟩ := hW; exact err_ok P v0 _ _ (wr.drewN m) hrow)
          have HE2 : Hid (∀ W, (∃ m, W = wr.drewN m) → Calls Try.prog 30 #[.pointer (some ⟨P, 0, none⟩)] W fun e w' => e = .returned (.int .i64 ((rs bs a1 f1 T).1 : Int)) ∧ w' = W) := fun W hW => by (obtain ⟨m, rfl⟩ := hW; exact at_any P v0 _ _ (wr.drewN m) hrow)
          clear hEnds rc hrow HRX2 HRC2 HBB2 HX HSO
          generalize hat : ((rs bs a1 f1 T).1 : Int) = ai at *
          by_cases hz : (rs bs a1 f1 T).2 = 0
          · have ek : k = T := by rw [HK.out, if_pos hz]
            have hTm : ¬ (T : Int) < (m : Int) := by
              have : ¬ T < m := fun q => hgo ⟨q, hz⟩
              omega
            subst ek
            rw [hz] at g2 HE1
            clear hz hgo HK hat
            go_wp2
            go_quiet (first
              | (go_at_call 15; refine Calls.quiet_of_same (HE1.out _ ⟨_, rfl⟩))
              | (go_at_call 30; refine Calls.quiet_of_same (HE2.out _ ⟨_, rfl⟩)))
            go_wp2
            go_ret
            exact ⟨rfl, HBB.out.trans ((drew_below _ _).mono HBB.out.size)⟩
          · have ek : k = 0 := by rw [HK.out, if_neg hz]
            have hb0 : ((rs bs a1 f1 T).2 == 0) = false := by simp [hz]
            generalize (rs bs a1 f1 T).2 = fT at *
            have HB1 : Hid ((fT != 0) = true) := by (show _ = _; simp [hz])
            subst ek
            clear hgo HK hat
            by_cases hTm : T < m
            · go_wp2
              go_quiet (first
                | (go_at_call 15; refine Calls.quiet_of_same (HE1.out _ ⟨_, rfl⟩))
                | (go_at_call 30; refine Calls.quiet_of_same (HE2.out _ ⟨_, rfl⟩)))
              go_wp2
              go_ret
              exact ⟨by (show Ending.returned (Value.bool (fT != 0)) = _; rw [HB1.out]), HBB.out.trans ((drew_below _ _).mono HBB.out.size)⟩
            · go_wp2
              go_quiet (first
                | (go_at_call 15; refine Calls.quiet_of_same (HE1.out _ ⟨_, rfl⟩))
                | (go_at_call 30; refine Calls.quiet_of_same (HE2.out _ ⟨_, rfl⟩)))
              go_wp2
              go_ret
              exact ⟨by (show Ending.returned (Value.bool (fT != 0)) = _; rw [HB1.out]), HBB.out.trans ((drew_below _ _).mono HBB.out.size)⟩

end Go.Proofs.Ytmkmdbpibpbcjab
