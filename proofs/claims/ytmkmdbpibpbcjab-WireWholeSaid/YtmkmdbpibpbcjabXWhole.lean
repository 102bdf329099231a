/-
  The law WireWhole.
-/
import Derived.Test.YtmkmdbpibpbcjabXMk
import Derived.Test.YtmkmdbpibpbcjabXRefd
import Derived.Test.YtmkmdbpibpbcjabXSteps
namespace Go.Proofs.Ytmkmdbpibpbcjab
open Go Go.RowKit
open Sha

theorem nb_3 (m : Nat) (h1 : 4194292 ≤ m) (h2 : m ≤ 4194300) : nb m 0 0 0 = 3 := by
  rcases (show m = 4194292 ∨ m = 4194293 ∨ m = 4194294 ∨ m = 4194295 ∨ m = 4194296 ∨ m = 4194297 ∨ m = 4194298 ∨ m = 4194299 ∨ m = 4194300 by omega) with rfl | rfl | rfl | rfl | rfl | rfl | rfl | rfl | rfl <;> decide
theorem pk_le (c : Int) : 0 ≤ pk c 9 ∧ pk c 9 ≤ 8 := by
  unfold pk; split <;> omega
theorem sl_first {w : World} {g n N : Nat} {d : List (BitVec 8)} (r : Row w g (vB d) 5) (hl : d.length = N) (hn : n ≤ N) : SlAt w (.slice (some ⟨g, 0, none⟩) n N) (d.take n) := by
  have e : (d.take n).length = n := by rw [List.length_take]; omega
  refine .inr ⟨g, 0, N, by rw [e], by omega, fun j v hj => r.all j v ?_⟩
  unfold vB at hj ⊢
  rw [List.map_take, List.getElem?_take] at hj
  split at hj
  · exact hj
  · cases hj

set_option maxRecDepth 100000 in
set_option maxHeartbeats 8000000 in
theorem whole_walk (more : Int) (h1 : -9223372036854775808 ≤ more) (h2 : more ≤ 9223372036854775807) (last : BitVec 8) (y : Int) (hy : y = c last) (A : Option Addr) (n cap : Nat) (ss : List SV) (hn : n ≤ 1466015503658) (w : World) (hS : Sps w A n ss) :
    Calls Try.prog 4 #[.int .i64 more, .int .u8 y, .slice A n cap] w fun e w' => e = .returned (.bool true) ∧ Below w.heap.size w w' := by
  have HS : Hid (Sps w A n ss) := hS
  obtain ⟨N, hN⟩ : ∃ N : Nat, N = 4194304 := ⟨_, rfl⟩
  have HN : Hid (N = 4194304) := hN
  obtain ⟨p, hp⟩ : ∃ p : Nat, pk more 9 = (p : Int) := ⟨(pk more 9).toNat, by have := pk_le more; omega⟩
  have hp8 : p ≤ 8 := by have := pk_le more; omega
  have HP : Hid (∀ w, _) := fun w => pick_any more 9 (by decide) h1 h2 (by decide) w
  rw [hp] at HP
  have HY : Hid (y = c last) := hy
  clear hS hy h1 h2 hp
  go_enter Try.func4, Try.ntmps4
  go_wp2_with fail
  refine (known_any w).mono ?_
  rintro e W1 ⟨rfl, hb1⟩
  have HB1 : Hid (Below w.heap.size w W1) := hb1
  have E1 : Hid ((4194304 : Int) = (N : Int)) := by show _ = _; rw [hN]; rfl
  have E2 : Hid (N ≤ 281474976710656) := by show _ ≤ _; omega
  clear hb1 hN
  obtain ⟨M, hM⟩ : ∃ M : Nat, (N : Int) - 1 = (M : Int) := ⟨N - 1, by have := HN.out; omega⟩
  have hMN : M < N := by omega
  have hM4 : M ≤ 4194304 := by have := HN.out; omega
  have HMN : Hid (M < N) := hMN
  go_wp2_with (refine wpList_make1 rfl _ _ rfl N _ _ E1.out E1.out rfl rfl E2.out ?_; intro W2 r2 hb2 sz2; have g2 := r2.cell M _ (vB_get (List.replicate N 0#8) M (by rw [List.length_replicate]; exact HMN.out)); have f2 := r2.thaw M; have R2 : Hid _ := r2; have B2 : Hid (Below W1.heap.size W1 W2) := hb2; generalize (List.replicate N 0#8).getD M 0 = z at g2; clear r2 hb2 sz2)
  clear f2 hM hMN hM4
  obtain ⟨bs, hbs⟩ : ∃ bs, bs = (List.replicate N 0#8).set M last := ⟨_, rfl⟩
  have R3 : Hid (Row (W2.setCell ⟨W1.heap.size, M, none⟩ (.int .u8 y)) W1.heap.size (vB bs) 5) := by
    have := Row.set R2.out M (.int .u8 y)
    rw [HY.out, vB_set, ← hbs] at this
    rw [HY.out]; exact this
  have HL : Hid (bs.length = N) := by show _ = _; rw [hbs, List.length_set, List.length_replicate]
  have B3 : Hid (Below w.heap.size w (W2.setCell ⟨W1.heap.size, M, none⟩ (.int .u8 y))) := (HB1.out.trans (B2.out.mono HB1.out.size)).setCell (p := ⟨W1.heap.size, M, none⟩) HB1.out.size _
  generalize W2.setCell ⟨W1.heap.size, M, none⟩ (.int .u8 y) = W3 at *
  clear B2 R2 HB1 hbs
  have HNR : Hid _ := newReader_ok W1.heap.size N bs (by have := HL.out; have := HMN.out; omega) (by have := HL.out; have := HN.out; omega) W3 (by have := sl_row R3.out; rw [HL.out] at this ⊢; exact this)
  rw [HL.out] at HNR
  generalize W1.heap.size = G at *
  refine Calls.mono HNR.out ?_
  rintro e W4 ⟨P, g, c', rfl, hr, hP, _, hb4⟩
  have RP : Hid (Rs W4 P _ 0 0) := hr.1
  have R4 : Hid (Row W4 G (vB bs) 5) := Row.below R3.out hb4 (Row.lt R3.out)
  have B4 : Hid (Below w.heap.size w W4) := B3.out.trans (hb4.mono B3.out.size)
  clear hr hP hb4 R3 B3 HNR
  obtain ⟨N2, hN2⟩ : ∃ N2 : Nat, N2 = 4194305 + p := ⟨_, rfl⟩
  have E3 : Hid ((4194305 : Int) + (p : Int) = (N2 : Int)) := by show _ = _; omega
  have E4 : Hid (N2 ≤ 281474976710656) := by show _ ≤ _; omega
  have E5 : Hid (4194304 < N2) := by show _ < _; omega
  clear hN2
  go_wp2_with (first
    | (go_at_call 9; refine Calls.mono (HP.out _) ?_; rintro e w2 ⟨rfl, hq⟩; obtain rfl := hq.symm)
    | (refine wpList_make1 rfl _ _ rfl N2 _ _ ?_ ?_ rfl rfl E4.out ?_; · exact E3.out
       · exact E3.out
       intro W5 r5 hb5 sz5; have B5 : Hid (Below W4.heap.size W4 W5) := hb5; clear r5 hb5 sz5))
  have RP5 : Hid (Rs W5 P _ 0 0) := Row.below RP.out B5.out (Row.lt RP.out)
  have R5 : Hid (Row W5 G (vB bs) 5) := Row.below R4.out B5.out (Row.lt R4.out)
  have B5' : Hid (Below w.heap.size w W5) := B4.out.trans (B5.out.mono B4.out.size)
  clear RP R4 B4 B5
  generalize W4.heap.size = G4 at *
  refine Calls.mono (newReader_long _ N2 _ E5.out W5) ?_
  rintro e W6 ⟨rfl, hq, hb6⟩
  have RQ : Hid (Rs W6 W5.heap.size (.slice none 0 0) 0 30) := hq
  have RP6 : Hid (Rs W6 P _ 0 0) := Row.below RP5.out hb6 (Row.lt RP5.out)
  have R6 : Hid (Row W6 G (vB bs) 5) := Row.below R5.out hb6 (Row.lt R5.out)
  have B6 : Hid (Below w.heap.size w W6) := B5'.out.trans (hb6.mono B5'.out.size)
  clear hq hb6 RP5 R5 B5' E3 E4 E5
  generalize W5.heap.size = Q at *
  have HE1 : Hid _ := err_ok P _ 0 0 W6 RP6.out
  have HE2 : Hid _ := err_ok Q _ 0 30 W6 RQ.out
  have HE3 : Hid _ := end_shut Q _ 0 30 (by decide) W6 RQ.out
  clear RP6
  go_wp2_with fail
  refine Calls.mono HE1.out ?_
  rintro e w2 ⟨rfl, rfl⟩
  go_wp2_with fail
  refine Calls.mono HE2.out ?_
  rintro e w2 ⟨rfl, rfl⟩
  go_wp2_with fail
  refine Calls.mono HE3.out ?_
  rintro e w2 ⟨rfl, rfl⟩
  clear HE1 HE2 HE3
  go_wp2_with fail
  go_loopw [11] (fun i wr => ∃ t : Nat, t ≤ n ∧ i = .int .i64 (t : Int) ∧ Below w2.heap.size w2 wr) (fun i _ => n - (intOf i).toNat)
  case atStart => exact ⟨0, Nat.zero_le _, rfl, Below.refl _ _⟩
  case round =>
    obtain ⟨t, ht, rfl, hbr⟩ := hrel
    have BR : Hid (Below w2.heap.size w2 wr) := hbr
    clear hbr
    by_cases hlt : t < n
    · have hSp := HS.out.be (B6.out.trans (BR.out.mono B6.out.size))
      obtain ⟨b, o, rfl, hc⟩ := hSp.at' (by omega)
      obtain ⟨s, hs⟩ : ∃ s, s = ss.getD t sv0 := ⟨_, rfl⟩
      have RNG : Hid (wr.rangeAt b (o + t * 8) (sc s.K s.N (.slice s.B s.d.length s.cb) s.m0 s.m1 s.m2 s.m3 (.slice s.L s.ns.length s.cl))) := fun j v hj => hc t hlt j v (by rw [← hs]; exact hj)
      generalize Value.slice s.B s.d.length s.cb = u1 at *
      generalize Value.slice s.L s.ns.length s.cl = u2 at *
      have RQ2 := Row.below RQ.out BR.out (Row.lt RQ.out)
      have HRF : Hid _ := refused_any Q _ 30 (by decide) s.K s.N u1 s.m0 s.m1 s.m2 s.m3 u2 wr RQ2
      generalize s.K = sK at *
      generalize s.N = sN at *
      generalize s.m0 = k0 at *
      generalize s.m1 = k1 at *
      generalize s.m2 = k2 at *
      generalize s.m3 = k3 at *
      clear hSp hc hs RQ2
      go_wp2_with (first
        | (refine wpList_load_w rfl 28 (.tmp 67) rfl b (o + t * 8) rfl (sc sK sN u1 k0 k1 k2 k3 u2) _ RNG.out Try.underlying28 rfl info_st ?_; simp only [Act.put, List.setIfInBounds_toArray, List.set_cons_zero, List.set_cons_succ])
        | (go_at_call 17; refine Calls.mono HRF.out ?_; rintro e w3 ⟨rfl, hb3⟩; have HB3 : Hid (Below wr.heap.size wr w3) := hb3; clear hb3))
      exact ⟨⟨t + 1, hlt, by go_num, BR.out.trans (HB3.out.mono BR.out.size)⟩, by simp [intOf]; omega⟩
    · obtain rfl : t = n := by omega
      have R7 : Hid (Row wr G (vB bs) 5) := Row.below R6.out BR.out (Row.lt R6.out)
      have B7 : Hid (Below w.heap.size w wr) := B6.out.trans (BR.out.mono B6.out.size)
      clear R6 B6 BR RQ HS
      go_wp2_with fail
      refine Calls.mono (newWriter_any wr) ?_
      rintro e W8 ⟨rfl, hw8, hb8⟩
      have WK : Hid (Wk w W8 wr.heap.size none 0 ([], 0)) := ⟨hw8, (fun g e => by simp [Value.ownBlock] at e), B7.out.size, by decide, B7.out.trans (hb8.mono B7.out.size)⟩
      have R8 : Hid (Row W8 G (vB bs) 5) := Row.below R7.out hb8 (Row.lt R7.out)
      have HGlt : Hid (G < wr.heap.size) := Row.lt R7.out
      clear hw8 hb8 R7 B7
      obtain ⟨m, hm⟩ : ∃ m : Nat, m + p = 4194300 := ⟨4194300 - p, by omega⟩
      have E6 : Hid ((4194300 : Int) - (p : Int) = (m : Int)) := by show _ = _; omega
      have e6 := E6.out
      have hmN : m ≤ N := by have := HN.out; omega
      generalize wr.heap.size = PW at *
      obtain ⟨D, hD⟩ : ∃ D, D = fm [m, 0, 0, 0] 3 ++ bs.take m := ⟨_, rfl⟩
      have HDL : Hid (D.length = 4 + m) := by show _ = _; rw [hD, List.length_append, fm_len, List.length_take, HL.out]; omega
      have HBY : Hid _ := bytes_lays PW none 0 [] 0 (by decide) (bs.take m) m (by rw [List.length_take, HL.out]; omega) (by omega) (some ⟨G, 0, none⟩) N (fun h => by cases h) 3 (nb_3 m (by omega) (by omega)).symm W8 WK.out.wr (fun W hG => sl_first (hG.row R8.out (fun h => by
        rcases h with h | h
        · have := HGlt.out; omega
        · simp [Value.ownBlock] at h)) HL.out hmN) (by omega)
      rw [← hD] at HBY
      clear hD
      go_wp2_with (first
        | (go_at_call 9; refine Calls.mono (HP.out _) ?_; rintro e w2 ⟨rfl, hq⟩; obtain rfl := hq.symm)
        | fail)
      refine Calls.mono HBY.out ?_
      rintro e W9 ⟨rfl, hbeh⟩
      obtain ⟨A9, c9, wk9⟩ := Wk.beh WK.out hbeh
      have hmore := wr_more (bs := []) (d := D) (f := 0) rfl (by have := HDL.out; simp only [List.length_nil]; omega)
      have WK9 : Hid (Wk w W9 PW A9 c9 (wrB [] 0 D, wrF [] 0 D)) := wk9
      rw [hmore.1] at WK9
      have HB9 : Hid ((wrB [] 0 D).length = 4 + m) := by show _ = _; rw [hmore.2, HDL.out]; simp
      clear hmore wk9 hbeh
      generalize wrB [] 0 D = B9 at *
      go_wp2_with fail
      clear WK R8 HBY HDL HGlt
      go_loopw [13] (fun i wr => ∃ (t : Nat) (A' : Option Addr) (c' : Nat) (bs' : List (BitVec 8)), t ≤ p ∧ i = .int .i64 (t : Int) ∧ Wk w wr PW A' c' (bs', 0) ∧ bs'.length = 4 + m + t) (fun i _ => p - (intOf i).toNat)
      case atStart => exact ⟨0, A9, c9, B9, Nat.zero_le _, rfl, WK9.out, HB9.out⟩
      case round =>
        clear WK9 HB9
        obtain ⟨j, A', c', bs', hj, rfl, hwk, hbl⟩ := hrel
        have WKJ : Hid (Wk w wr PW A' c' (bs', 0)) := hwk
        have HBL : Hid (bs'.length = 4 + m + j) := hbl
        clear hwk hbl
        by_cases hjp : j < p
        · go_wp2_with (first
            | (go_at_call 9; refine Calls.mono (HP.out _) ?_; rintro e w2 ⟨rfl, hq⟩; obtain rfl := hq.symm)
            | fail)
          refine Calls.mono (byte_any PW A' c' bs' 0 WKJ.out.len (BitVec.ofNat 8 j) _ (by show _ = (((BitVec.ofNat 8 j).toNat : Nat) : Int); rw [BitVec.toNat_ofNat]; omega) _ WKJ.out.wr) ?_
          rintro e W10 ⟨rfl, hbeh⟩
          obtain ⟨A10, c10, wk10⟩ := Wk.beh WKJ.out hbeh
          have hmore := wr_more (bs := bs') (d := [BitVec.ofNat 8 j]) (f := 0) rfl (by have := HBL.out; simp only [List.length_cons, List.length_nil]; omega)
          have WK10 : Hid (Wk w W10 PW A10 c10 (wrB bs' 0 [BitVec.ofNat 8 j], wrF bs' 0 [BitVec.ofNat 8 j])) := wk10
          rw [hmore.1] at WK10
          have HB10 : Hid ((wrB bs' 0 [BitVec.ofNat 8 j]).length = 4 + m + (j + 1)) := by show _ = _; rw [hmore.2, HBL.out]; rfl
          clear hmore wk10 hbeh
          generalize wrB bs' 0 [BitVec.ofNat 8 j] = B10 at *
          go_wp2_with fail
          exact ⟨⟨j + 1, A10, c10, B10, hjp, by go_num, WK10.out, HB10.out⟩, by simp [intOf]; omega⟩
        · obtain rfl : j = p := by omega
          have hlen : bs'.length = 4194304 := by have := HBL.out; omega
          have HDN : Hid _ := done_ok PW A' c' bs' (by omega) wr WKJ.out.wr
          rw [hlen] at HDN
          have HLEN : Hid (bs'.length = 4194304) := hlen
          clear hlen
          go_wp2_with (first
            | (go_at_call 9; refine Calls.mono (HP.out _) ?_; rintro e w2 ⟨rfl, hq⟩; obtain rfl := hq.symm)
            | (go_at_call 21; refine Calls.mono HDN.out ?_; rintro e W11 ⟨A2, c2, rfl, _, _, hb11⟩; have WK11 : Hid (Wk w W11 PW A' c' (bs', 0)) := WKJ.out.be hb11; clear hb11))
          refine Calls.mono (byte_any PW A' c' bs' 0 WK11.out.len last y HY.out W11 WK11.out.wr) ?_
          rintro e W12 ⟨rfl, hbeh⟩
          obtain ⟨A12, c12, wk12⟩ := Wk.beh WK11.out hbeh
          have hfull := wr_full (bs := bs') (d := [last]) (f := 0) rfl (by have := HLEN.out; simp only [List.length_cons, List.length_nil]; omega)
          have WK12 : Hid (Wk w W12 PW A12 c12 (wrB bs' 0 [last], wrF bs' 0 [last])) := wk12
          rw [hfull] at WK12
          clear hfull wk12 hbeh HDN WKJ WK11
          generalize wrB bs' 0 [last] = B12 at *
          go_wp2_with fail
          refine Calls.mono (done_shut PW _ 30 (by decide) W12 WK12.out.wr.1) ?_
          rintro e W13 ⟨rfl, m13, hm13⟩
          have WK13 : Hid (Wk w W13 PW A12 c12 (B12, 30)) := by rw [hm13]; exact WK12.out.be (drew_below _ _)
          clear hm13 WK12
          go_wp2_with fail
          refine Calls.mono (number_any PW A12 c12 B12 30 (-1) (by decide) WK13.out.len W13 _ rfl WK13.out.wr) ?_
          rintro e W14 ⟨rfl, ⟨A14, c14, hw14, hf14⟩, hG14⟩
          have WK14 : Hid (Wk w W14 PW A14 c14 (nuB B12 30 (-1), nuF B12 30 (-1))) := Wk.num (s := (B12, 30)) WK13.out hw14 hf14 hG14
          rw [show nuF B12 30 (-1) = 30 from rfl] at WK14
          clear hw14 hf14 hG14 WK13
          go_wp2_with fail
          refine Calls.mono (done_shut PW _ 30 (by decide) W14 WK14.out.wr.1) ?_
          rintro e W15 ⟨rfl, m15, hm15⟩
          have HB15 : Hid (Below w.heap.size w W15) := by rw [hm15]; exact (WK14.out.be (drew_below _ _)).below
          clear hm15 WK14
          go_wp2_with fail
          go_ret
          exact ⟨rfl, HB15.out⟩

end Go.Proofs.Ytmkmdbpibpbcjab
