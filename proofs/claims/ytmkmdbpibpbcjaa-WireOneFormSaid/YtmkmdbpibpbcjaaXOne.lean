/-
  The law WireOneForm.
-/
import Derived.Test.YtmkmdbpibpbcjaaXCp0
import Derived.Test.YtmkmdbpibpbcjaaXCp1
import Derived.Test.YtmkmdbpibpbcjaaXCp2
import Derived.Test.YtmkmdbpibpbcjaaXCp3
import Derived.Test.YtmkmdbpibpbcjaaXCp4
import Derived.Test.YtmkmdbpibpbcjaaXCp5
import Derived.Test.YtmkmdbpibpbcjaaXCp6
import Derived.Test.YtmkmdbpibpbcjaaXCp7
import Derived.Test.YtmkmdbpibpbcjaaXSteps
namespace Go.Proofs.Ytmkmdbpibpbcjaa
open Go Go.RowKit
open Sha

theorem pk8 (c : Int) : 0 ≤ pk c 8 ∧ pk c 8 < 8 := by
  unfold pk; split <;> omega
theorem copies_any (N P : Nat) (Ar : Option Addr) (capr : Nat) (bs : List (BitVec 8)) (a Q : Nat) (A : Option Addr) (cap : Nat) (K sN : Int) (h1K : -9223372036854775808 ≤ K) (h2K : K ≤ 9223372036854775807) (u : Value) (m0 m1 m2 m3 : Nat) (u2 : Value) (w : World) (h : Cp N w P Ar capr bs a 0 Q A cap (bs.take a)) :
    Calls Try.prog 26 #[.pointer (some ⟨P, 0, none⟩), .pointer (some ⟨Q, 0, none⟩), .agg (sc K sN u m0 m1 m2 m3 u2).toArray] w fun e w' => e = .returned (.tuple #[]) ∧ Cd N w w' P Ar capr bs a Q := by
  have hr := pk8 K
  rcases (show pk K 8 = 0 ∨ pk K 8 = 1 ∨ pk K 8 = 2 ∨ pk K 8 = 3 ∨ pk K 8 = 4 ∨ pk K 8 = 5 ∨ pk K 8 = 6 ∨ pk K 8 = 7 by omega) with e | e | e | e | e | e | e | e
  · exact copies_0 N P Ar capr bs a Q A cap K sN h1K h2K e u m0 m1 m2 m3 u2 w h
  · exact copies_1 N P Ar capr bs a Q A cap K sN h1K h2K e u m0 m1 m2 m3 u2 w h
  · exact copies_2 N P Ar capr bs a Q A cap K sN h1K h2K e u m0 m1 m2 m3 u2 w h
  · exact copies_3 N P Ar capr bs a Q A cap K sN h1K h2K e u m0 m1 m2 m3 u2 w h
  · exact copies_4 N P Ar capr bs a Q A cap K sN h1K h2K e u m0 m1 m2 m3 u2 w h
  · exact copies_5 N P Ar capr bs a Q A cap K sN h1K h2K e u m0 m1 m2 m3 u2 w h
  · exact copies_6 N P Ar capr bs a Q A cap K sN h1K h2K e u m0 m1 m2 m3 u2 w h
  · exact copies_7 N P Ar capr bs a Q A cap K sN h1K h2K e u m0 m1 m2 m3 u2 w h
theorem sl_take {w : World} {B : Option Addr} {n cb t : Nat} {bs : List (BitVec 8)} (h : SlAt w (.slice B n cb) bs) (hb : bs.length = n) (ht : t ≤ n) : SlAt w (.slice B t cb) (bs.take t) := by
  rcases h with ⟨h0, A', c', hv⟩ | ⟨ab, ao, c', hv, hc, hr⟩
  · subst h0
    simp only [List.length_nil] at hb
    exact .inl ⟨by simp, B, cb, by rw [show t = 0 by omega]⟩
  · simp only [Value.slice.injEq] at hv
    obtain ⟨rfl, _, rfl⟩ := hv
    have hl : (bs.take t).length = t := by rw [List.length_take]; omega
    exact .inr ⟨ab, ao, cb, by rw [hl], by omega, fun j v hj => hr j v (by
      unfold vB at hj ⊢
      rw [List.map_take, List.getElem?_take] at hj
      split at hj
      · exact hj
      · cases hj)⟩

set_option maxRecDepth 100000 in
set_option maxHeartbeats 8000000 in
theorem one_walk (B : Option Addr) (n cb : Nat) (bs : List (BitVec 8)) (hb : bs.length = n) (hl : n ≤ 140737488351232) (hnil : B = none → cb = 0) (hcap : n ≤ cb) (A2 : Option Addr) (n2 cap2 : Nat) (ss : List SV) (hn2 : n2 ≤ 1466015503658) (w : World) (hv : SlAt w (.slice B n cb) bs) (hS : Sps w A2 n2 ss) :
    Calls Try.prog 7 #[.slice B n cb, .slice A2 n2 cap2] w fun e w' => e = .returned (.bool true) ∧ Below w.heap.size w w' := by
  have HNR : Hid _ := newReader_x B n cb bs hb hnil w hv
  have HV : Hid (SlAt w (.slice B n cb) bs) := hv
  have HS : Hid (Sps w A2 n2 ss) := hS
  have HBN : Hid (bs.length = n) := hb
  have HNIL : Hid (B = none → cb = 0) := hnil
  clear hv hb hnil hS
  go_enter Try.func7, Try.ntmps7
  go_wp2_with fail
  refine Calls.mono HNR.out ?_
  rintro e W1 ⟨P, Ar, capr, rfl, hr1, hP, hfr, hb1⟩
  have RX : Hid (Rx W1 P Ar capr bs 0 (f0 bs)) := hr1
  have HPP : Hid (w.heap.size ≤ P) := hP
  have B1 : Hid (Below w.heap.size w W1) := hb1
  clear hr1 hP hfr hb1 HNR
  go_wp2_with fail
  refine Calls.mono (newWriter_any W1) ?_
  rintro e W2 ⟨rfl, hw2, hb2⟩
  have hPL : P < W1.heap.size := by obtain ⟨v, hv⟩ := RX.out.row; exact Row.lt hv
  have CP2 : Hid (Cp W1.heap.size W2 P Ar capr bs 0 (f0 bs) W1.heap.size none 0 []) := ⟨RX.out.be hb2, hw2, (fun g e => by simp [Value.ownBlock] at e), Nat.le_refl _, hPL, (fun h0 g e => by
    rcases RX.out with ⟨_, q⟩ | ⟨q, _⟩
    · exact Bw.lt q.bw g e
    · exact absurd h0 q), hb2.size⟩
  have B2 : Hid (Below w.heap.size w W2) := B1.out.trans (hb2.mono B1.out.size)
  have HNW : Hid (w.heap.size ≤ W1.heap.size) := B1.out.size
  clear hw2 hb2 hPL RX B1
  generalize W1.heap.size = N at *
  go_wp2_with fail
  refine Calls.mono (known_any W2) ?_
  rintro e W3 ⟨rfl, hb3⟩
  have CP3 : Hid (Cp N W3 P Ar capr bs 0 (f0 bs) N none 0 []) := CP2.out.be hb3
  have B3 : Hid (Below w.heap.size w W3) := B2.out.trans (hb3.mono B2.out.size)
  clear hb3 CP2 B2
  go_wp2_with fail
  by_cases hlong : 4194304 < n
  · have hf0 : f0 bs = 30 := by unfold f0; rw [HBN.out, if_pos hlong]
    have cp := CP3.out
    rw [hf0] at cp
    obtain ⟨v0, hrow⟩ := cp.rx.row
    have HE : Hid _ := err_ok P v0 _ 30 W3 hrow
    have HA : Hid _ := at_any P v0 _ 30 W3 hrow
    have c1 : (4194304 : Int) < (n : Int) := by omega
    clear cp hrow hf0 CP3 hlong
    go_loopw [7, 8, 9] (fun tk i _ wr => tk = .int .i64 0 ∧ i = .int .i64 0 ∧ wr = W3) (fun _ _ _ _ => 0)
    case atStart => exact ⟨rfl, rfl, rfl⟩
    case round =>
      obtain ⟨rfl, rfl, rfl⟩ := hrel
      by_cases h0 : (0 : Int) < (n2 : Int)
      · go_wp2_with (first
          | (go_at_call 15; refine Calls.mono HE.out ?_; rintro e w3 ⟨rfl, hq⟩; obtain rfl := hq.symm)
          | (go_at_call 16; refine Calls.mono HA.out ?_; rintro e w3 ⟨rfl, hq⟩; obtain rfl := hq.symm))
        go_ret
        exact ⟨rfl, B3.out⟩
      · go_wp2_with (first
          | (go_at_call 15; refine Calls.mono HE.out ?_; rintro e w3 ⟨rfl, hq⟩; obtain rfl := hq.symm)
          | (go_at_call 16; refine Calls.mono HA.out ?_; rintro e w3 ⟨rfl, hq⟩; obtain rfl := hq.symm))
        go_ret
        exact ⟨rfl, B3.out⟩
  · have hf0 : f0 bs = 0 := by unfold f0; rw [HBN.out, if_neg hlong]
    rw [hf0] at CP3
    have c1 : ¬ (4194304 : Int) < (n : Int) := by omega
    go_loopw [7, 8, 9] (fun tk i _ wr => ∃ (t k a : Nat) (f : Int) (A : Option Addr) (cap : Nat), t ≤ n2 ∧ k ≤ n ∧ i = .int .i64 (t : Int) ∧ tk = .int .i64 (k : Int) ∧ Cp N wr P Ar capr bs a f N A cap (bs.take k) ∧ (f = 0 → a = k) ∧ Below w.heap.size w wr) (fun _ i _ _ => n2 - (intOf i).toNat)
    case atStart => exact ⟨0, 0, 0, 0, none, 0, Nat.zero_le _, Nat.zero_le _, rfl, rfl, CP3.out, (fun _ => rfl), B3.out⟩
    case round =>
      clear CP3 B3
      obtain ⟨t, k, a, f, A, cap, ht, hk, rfl, rfl, hcp, hak, hbb⟩ := hrel
      have CP : Hid (Cp _ _ _ _ _ _ _ _ _ _ _ _) := hcp
      have BB : Hid (Below w.heap.size w wr) := hbb
      obtain ⟨v0, hrow⟩ := hcp.rx.row
      have HE : Hid _ := err_ok P v0 _ f wr hrow
      by_cases hgo : t < n2 ∧ f = 0
      · obtain ⟨hlt, rfl⟩ := hgo
        obtain rfl : a = k := hak rfl
        have hSp := HS.out.be BB.out
        obtain ⟨b, o, rfl, hc⟩ := hSp.at' (by omega)
        have hok := hSp.each t hlt
        obtain ⟨s, hs⟩ : ∃ s, s = ss.getD t sv0 := ⟨_, rfl⟩
        rw [← hs] at hok
        have RNG : Hid (wr.rangeAt b (o + t * 8) (sc s.K s.N (.slice s.B s.d.length s.cb) s.m0 s.m1 s.m2 s.m3 (.slice s.L s.ns.length s.cl))) := fun j v hj => hc t hlt j v (by rw [← hs]; exact hj)
        have HCO : Hid _ := copies_any N P Ar capr bs a N A cap s.K s.N hok.k1 hok.k2 (.slice s.B s.d.length s.cb) s.m0 s.m1 s.m2 s.m3 (.slice s.L s.ns.length s.cl) wr hcp
        clear hSp hc hs hok hcp hak hbb hrow
        generalize Value.slice s.B s.d.length s.cb = u1 at *
        generalize Value.slice s.L s.ns.length s.cl = u2 at *
        generalize s.K = sK at *
        generalize s.N = sN at *
        generalize s.m0 = k0 at *
        generalize s.m1 = k1 at *
        generalize s.m2 = k2 at *
        generalize s.m3 = k3 at *
        go_wp2_with (first
          | (go_at_call 15; refine Calls.mono HE.out ?_; rintro e w3 ⟨rfl, hq⟩; obtain rfl := hq.symm)
          | (refine wpList_load_w rfl 33 (.tmp 40) rfl b (o + t * 8) rfl (sc sK sN u1 k0 k1 k2 k3 u2) _ RNG.out Try.underlying33 rfl info_st ?_; simp only [Act.put, List.setIfInBounds_toArray, List.set_cons_zero, List.set_cons_succ])
          | fail)
        refine Calls.mono HCO.out ?_
        rintro e V ⟨rfl, a', f', A', cap', xs', cp', hz, hnz, hg⟩
        have BB' : Hid (Below w.heap.size w V) := BB.out.trans (hg.to_below BB.out.size (fun q r => by
          rcases r with r | r
          · rw [r]; exact HPP.out
          · exact Nat.le_trans HNW.out r))
        have hbn := HBN.out
        obtain ⟨v1, hrow1⟩ := cp'.rx.row
        have HE1 : Hid _ := err_ok P v1 _ f' V hrow1
        have HA1 : Hid _ := at_any P v1 _ f' V hrow1
        by_cases hf : f' = 0
        · obtain ⟨rfl, ha1, ha2⟩ := hz hf
          subst hf
          have CP' : Hid (Cp _ _ _ _ _ _ _ _ _ _ _ _) := cp'
          have d1 : ¬ (a' : Int) < (a : Int) := by omega
          have d2 : ¬ (n : Int) < (a' : Int) := by omega
          have HA2 : Hid (a' ≤ n) := by show _ ≤ _; omega
          clear cp' hz hnz hg hrow1 ha1 ha2 HCO HE RNG BB CP hbn
          go_wp2_with (first
            | (go_at_call 15; refine Calls.mono HE1.out ?_; rintro e w3 ⟨rfl, hq⟩; obtain rfl := hq.symm)
            | (go_at_call 16; refine Calls.mono HA1.out ?_; rintro e w3 ⟨rfl, hq⟩; obtain rfl := hq.symm))
          exact ⟨⟨t + 1, a', a', 0, A', cap', hlt, HA2.out, by go_num, rfl, CP'.out, (fun _ => rfl), BB'.out⟩, by simp [intOf]; omega⟩
        · obtain ⟨rfl, ha1, ha2⟩ := hnz hf
          have CP' : Hid (Cp _ _ _ _ _ _ _ _ _ _ _ _) := cp'
          have d1 : ¬ (a' : Int) < (a : Int) := by omega
          have d2 : ¬ (n : Int) < (a' : Int) := by omega
          have hb0 : (f' == 0) = false := by simp [hf]
          have HFN : Hid (¬ f' = 0) := hf
          clear cp' hz hnz hg hrow1 ha1 ha2 HCO HE RNG BB CP hbn
          go_wp2_with (first
            | (go_at_call 15; refine Calls.mono HE1.out ?_; rintro e w3 ⟨rfl, hq⟩; obtain rfl := hq.symm)
            | (go_at_call 16; refine Calls.mono HA1.out ?_; rintro e w3 ⟨rfl, hq⟩; obtain rfl := hq.symm))
          exact ⟨⟨t + 1, a, a', f', A', cap', hlt, hk, by go_num, rfl, CP'.out, (fun q => absurd q HFN.out), BB'.out⟩, by simp [intOf]; omega⟩
      · have hkl : (bs.take k).length = k := by rw [List.length_take, HBN.out]; omega
        have HDN : Hid _ := done_ok N A cap (bs.take k) (by rw [hkl]; omega) wr hcp.wr
        rw [hkl] at HDN
        have HKL : Hid ((bs.take k).length = k) := hkl
        have hkc : k ≤ cb := by omega
        clear hrow hak hbb hcp hkl
        by_cases hlt : t < n2
        · have hfz : ¬ f = 0 := fun q => hgo ⟨hlt, q⟩
          have hb0 : (f == 0) = false := by simp [hfz]
          clear hgo
          go_wp2_with (first
            | (go_at_call 15; refine Calls.mono HE.out ?_; rintro e w3 ⟨rfl, hq⟩; obtain rfl := hq.symm)
            | fail)
          refine Calls.mono HDN.out ?_
          rintro e W4 ⟨A3, c3, rfl, hbw, _, hb4⟩
          have B4 : Hid (Below w.heap.size w W4) := BB.out.trans (hb4.mono BB.out.size)
          have hs1 := Bw.sl hbw
          have HS1 : Hid (SlAt W4 (.slice A3 k c3) (bs.take k)) := hs1
          have HS2 : Hid (SlAt W4 (.slice B k cb) (bs.take k)) := sl_take (HV.out.be B4.out) HBN.out hk
          have HSM : Hid _ := same_any (bs.take k) (bs.take k) k k HKL.out HKL.out (by omega) (by omega) A3 B c3 cb W4 HS1.out HS2.out true (by simp)
          clear hbw hb4 hs1 HDN HS1 HS2
          cases B with
          | none =>
            have := HNIL.out rfl
            obtain rfl : cb = 0 := this
            obtain rfl : k = 0 := by omega
            go_wp2_with fail
            refine Calls.mono HSM.out ?_
            rintro e W5 ⟨rfl, q, hq⟩
            have HB5 : Hid (Below w.heap.size w W5) := by rw [hq]; exact B4.out.trans ((drew_below _ _).mono B4.out.size)
            clear hq
            go_wp2_with fail
            go_ret
            exact ⟨rfl, HB5.out⟩
          | some ad =>
            obtain ⟨ab, ao, sp⟩ := ad
            go_wp2_with fail
            refine Calls.mono HSM.out ?_
            rintro e W5 ⟨rfl, q, hq⟩
            have HB5 : Hid (Below w.heap.size w W5) := by rw [hq]; exact B4.out.trans ((drew_below _ _).mono B4.out.size)
            clear hq
            go_wp2_with fail
            go_ret
            exact ⟨rfl, HB5.out⟩
        · clear hgo
          go_wp2_with (first
            | (go_at_call 15; refine Calls.mono HE.out ?_; rintro e w3 ⟨rfl, hq⟩; obtain rfl := hq.symm)
            | fail)
          refine Calls.mono HDN.out ?_
          rintro e W4 ⟨A3, c3, rfl, hbw, _, hb4⟩
          have B4 : Hid (Below w.heap.size w W4) := BB.out.trans (hb4.mono BB.out.size)
          have hs1 := Bw.sl hbw
          have HS1 : Hid (SlAt W4 (.slice A3 k c3) (bs.take k)) := hs1
          have HS2 : Hid (SlAt W4 (.slice B k cb) (bs.take k)) := sl_take (HV.out.be B4.out) HBN.out hk
          have HSM : Hid _ := same_any (bs.take k) (bs.take k) k k HKL.out HKL.out (by omega) (by omega) A3 B c3 cb W4 HS1.out HS2.out true (by simp)
          clear hbw hb4 hs1 HDN HS1 HS2
          cases B with
          | none =>
            have := HNIL.out rfl
            obtain rfl : cb = 0 := this
            obtain rfl : k = 0 := by omega
            go_wp2_with fail
            refine Calls.mono HSM.out ?_
            rintro e W5 ⟨rfl, q, hq⟩
            have HB5 : Hid (Below w.heap.size w W5) := by rw [hq]; exact B4.out.trans ((drew_below _ _).mono B4.out.size)
            clear hq
            go_wp2_with fail
            go_ret
            exact ⟨rfl, HB5.out⟩
          | some ad =>
            obtain ⟨ab, ao, sp⟩ := ad
            go_wp2_with fail
            refine Calls.mono HSM.out ?_
            rintro e W5 ⟨rfl, q, hq⟩
            have HB5 : Hid (Below w.heap.size w W5) := by rw [hq]; exact B4.out.trans ((drew_below _ _).mono B4.out.size)
            clear hq
            go_wp2_with fail
            go_ret
            exact ⟨rfl, HB5.out⟩

end Go.Proofs.Ytmkmdbpibpbcjaa
