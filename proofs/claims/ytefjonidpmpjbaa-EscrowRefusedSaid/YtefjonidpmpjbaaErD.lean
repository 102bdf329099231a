/-
  EscrowRefused: the walk.
-/
import Derived.Test.YtefjonidpmpjbaaErC
namespace Go.Proofs.Ytefjonidpmpjbaa
open Go Go.RowKit Go.Maps
open Wd

theorem wp_frL5 {P : Program} {s : Code} {Q : Exit → Act → World → Prop} {l : List Value} {d : List Deferred} {w : World} (h : ∀ L : List Value, L = l → s.wp P Q ⟨L.toArray, d⟩ w) : s.wp P Q ⟨l.toArray, d⟩ w := h l rfl
theorem okR {w0 w : World} {p c : Nat} {s : St} (h : Vl w0 w p c s) : s.Ok := by
  obtain ⟨m1, m2, hV, hl⟩ := h
  exact hV.ok
theorem hmR {s : St} (h : s.Ok) (t : Nat) : hm s t < 2 ^ 256 := fnd_lt h (s1 := (fnd s.T (t : Int)).1) (E := (fnd s.T (t : Int)).2.2) rfl
set_option maxRecDepth 100000 in
set_option maxHeartbeats 16000000 in
theorem refused5_walk (l : List Stv) (A0 : Option Addr) (N c0 : Nat) (hN : N = l.length) (hNb : N < 4398046511104) (w : World) (h0 : ∀ i r, l[i]? = some r → r.Ok ∧ ∃ b o, A0 = some ⟨b, o, none⟩ ∧ w.rangeAt b (o + i * 8) r.cells) :
    Calls Try.prog 6 #[.slice A0 N c0] w fun e w' => e = .returned (.bool true) ∧ Below w.heap.size w w' := by
  have HS : Hid (∀ i r, l[i]? = some r → r.Ok ∧ ∃ b o, A0 = some ⟨b, o, none⟩ ∧ w.rangeAt b (o + i * 8) r.cells) := h0
  have HNl : Hid (N = l.length) := hN
  have HNB : Hid (N < 4398046511104) := hNb
  clear hN h0 hNb
  go_enter Try.func6, Try.ntmps6
  go_wp2_with (first
    | (go_at_call 8; refine Calls.mono (known_any w) ?_; rintro e X1 ⟨rfl, q⟩; have B1 : Hid (Below w.heap.size w X1) := q; clear q)
    | (go_at_call 9; refine Calls.mono (new_l w X1 B1.out) ?_; rintro e X2 ⟨p, rfl, _, v, _⟩; have V0 : Hid (Vl w X2 p 0 k0) := v; clear v B1))
  go_loopw [5] (fun v5 wr => ∃ (i c : Nat) (s : St), i ≤ N ∧ c ≤ 2 * i ∧ v5 = .int .i64 (i : Int) ∧ Hid (Vl w wr p c s)) (fun v5 _ => N - (intOf v5).toNat)
  case atStart => exact ⟨0, 0, k0, Nat.zero_le _, Nat.le_refl _, rfl, V0⟩
  case round =>
    obtain ⟨i, c, s, hi, hci, hv5, WW⟩ := hrel
    clear V0
    subst hv5
    by_cases hiN : i < N
    · obtain ⟨r, hr⟩ : ∃ r, l[i]? = some r := ⟨_, List.getElem?_eq_getElem (by rw [← HNl.out]; exact hiN)⟩
      obtain ⟨hok, b, o, hA0, hrg0⟩ := HS.out i r hr
      subst hA0
      obtain ⟨kd, hkd⟩ : ∃ x, x = r.kd := ⟨_, rfl⟩
      obtain ⟨ix, hix⟩ : ∃ x, x = r.ix := ⟨_, rfl⟩
      obtain ⟨tk, htk⟩ : ∃ x, x = r.tk := ⟨_, rfl⟩
      obtain ⟨R, hR⟩ : ∃ R, R = r.cells := ⟨_, rfl⟩
      obtain ⟨k, hk⟩ : ∃ k, k = pk kd 11 := ⟨_, rfl⟩
      obtain ⟨s2, hs2⟩ : ∃ x, x = (act s k r).1 := ⟨_, rfl⟩
      obtain ⟨E, hE⟩ : ∃ x, x = (act s k r).2 := ⟨_, rfl⟩
      obtain ⟨LS, hLS⟩ : ∃ x, x = sv s := ⟨_, rfl⟩
      obtain ⟨LS2, hLS2⟩ : ∃ x, x = sv s2 := ⟨_, rfl⟩
      have hkr := pk_range kd 11 (by decide)
      rw [← hk] at hkr
      have HST : Hid (Stays s s2 k r E) := by rw [hs2, hE]; exact act_rest s k r
      have HLS : Hid (LS = sv s) := hLS
      have HLS2 : Hid (LS2 = sv s2) := hLS2
      have HIXR : Hid (ix = r.ix) := hix
      have HTKR : Hid (tk = r.tk) := htk
      have HIN : Hid (i < N) := hiN
      have HCI : Hid (c + 2 ≤ 2 * (i + 1)) := by show _ ≤ _; omega
      have hNB2 := HNB.out
      have hI : ∀ {z : Int}, I64 z → -9223372036854775808 ≤ z ∧ z ≤ 9223372036854775807 := fun h => bounds_i64 h
      have HRI : Hid ((Try.prog.info? 35).map (·.size) = some R.length) := by show _ = _; rw [hR, Stv.len]; exact info_S
      have HSJ : Hid (∀ j rj, l[j]? = some rj → rj.Ok ∧ ∀ X, Below w.heap.size w X → X.cell? ⟨b, o + j * 8 + 3, none⟩ = some (.int .i64 rj.ix)) := fun j rj hj => by
        obtain ⟨h1, b', o', e, h2⟩ := HS.out j rj hj
        obtain ⟨rfl, rfl⟩ : b = b' ∧ o = o' := by simpa using e
        exact ⟨h1, fun X hX => (range_be h2 hX) 3 (.int .i64 rj.ix) rfl⟩
      have HRG0 : Hid (∀ X, Below w.heap.size w X → X.rangeAt b (o + i * 8) R) := fun X h => by rw [hR]; exact range_be hrg0 h
      have HCK0 : Hid (∀ X, Below w.heap.size w X → X.cell? ⟨b, o + i * 8 + 1, none⟩ = some (.int .i64 kd)) := fun X h => HRG0.out X h 1 (.int .i64 kd) (by rw [hR, hkd]; rfl)
      have HCT0 : Hid (∀ X, Below w.heap.size w X → X.cell? ⟨b, o + i * 8 + 2, none⟩ = some (.int .i64 tk)) := fun X h => HRG0.out X h 2 (.int .i64 tk) (by rw [hR, htk]; rfl)
      have HCX0 : Hid (∀ X, Below w.heap.size w X → X.cell? ⟨b, o + i * 8 + 3, none⟩ = some (.int .i64 ix)) := fun X h => HRG0.out X h 3 (.int .i64 ix) (by rw [hR, hix]; rfl)
      have HPK2 : Hid (∀ X, Calls Try.prog 11 #[.int .i64 kd, .int .i64 11] X fun e w' => e = .returned (.int .i64 k) ∧ w' = X) := fun X => by rw [hk, hkd]; exact pick_any r.kd 11 (by decide) (hI hok.kd).1 (hI hok.kd).2 (by decide) X
      have HCH : Hid (∀ X, Vl w X p c s → Calls Try.prog 12 #[.pointer (some ⟨p, 0, none⟩), .agg R.toArray] X fun e w' => e = .returned (.tuple #[.bool (decide (k < 7)), .int .i64 E]) ∧ Vl w w' p (c + 2) s2 ∧ Kq p X w') := fun X h => by
        rw [hR]
        exact changing_l h (by show c + 1 < 2 ^ 63 - 1; omega) r hok (by rw [hk, hkd]) (by rw [hs2, hE])
      have HLK : Hid (∀ X, Vl w X p c s → Calls Try.prog 22 #[.pointer (some ⟨p, 0, none⟩)] X fun e w' => e = .returned (.agg LS.toArray) ∧ Below X.heap.size X w') := fun X h => look_any h LS hLS
      have HLK2 : Hid (∀ X, Vl w X p (c + 2) s2 → Calls Try.prog 22 #[.pointer (some ⟨p, 0, none⟩)] X fun e w' => e = .returned (.agg LS2.toArray) ∧ Below X.heap.size X w') := fun X h => look_any h LS2 hLS2
      have HSI : Hid ((Try.prog.info? tSn).map (·.size) = some LS.length) := by show _ = _; rw [hLS, sv, scs_len]; exact sn_info
      have HSZ : Hid (LS.length = zS.length) := by show _ = _; rw [hLS, sv, scs_len, zS, scs_len]
      have HSO : Hid (LS.toArray.all (·.oneCell') = true) := by show _ = _; rw [hLS]; exact scs_one _ _ _ _
      have HSI2 : Hid ((Try.prog.info? tSn).map (·.size) = some LS2.length) := by show _ = _; rw [hLS2, sv, scs_len]; exact sn_info
      have HSZ2 : Hid (LS2.length = zS.length) := by show _ = _; rw [hLS2, sv, scs_len, zS, scs_len]
      have HSO2 : Hid (LS2.toArray.all (·.oneCell') = true) := by show _ = _; rw [hLS2]; exact scs_one _ _ _ _
      have HOK1 : Hid s.Ok := okR WW.out
      clear hok hr hrg0 hkd hix htk hR hk hs2 hE hLS hLS2 hI
      go_upto_region 10 with (first
        | (go_at_call 22; refine Calls.mono (HLK.out _ WW.out) ?_; rintro e Y1 ⟨rfl, q⟩; have V1 : Hid (Vl w Y1 p c s) := WW.out.be q; clear q WW)
        | (refine wpList_stL rfl tSn (.tmp 6) (.tmp 32) rfl Y1.heap.size LS zS tSn rfl rfl A6.out HSZ.out HSI.out HSO.out ?_; intro Y3 q1 q2; have q3 : Below Y1.heap.size Y1 Y3 := gro_newL D6.out (Nat.le_refl _) q2; have RB0 : Hid (Rb w Y3 p c s Y1.heap.size LS (.slice none 0 0) 0 []) := ⟨V1.out.be q3, q1, Lw.nil _ _ _, fun g e => by { cases e }⟩; clear q1 q2 q3 A6 D6 V1)
        | (refine wpList_alS rfl rfl ?_; intro Y2 q1 q2 q3; have A6 : Hid (Row Y2 Y1.heap.size zS tSn) := q1; have D6 : Hid (Below Y1.heap.size Y1 Y2) := q2; clear q1 q2 q3; simp only [Act.put, List.setIfInBounds_toArray, List.set_cons_zero, List.set_cons_succ]))
      obtain ⟨b6, hb6⟩ : ∃ b, b = Y1.heap.size := ⟨_, rfl⟩
      rw [← hb6] at RB0 ⊢
      clear hb6
      rename_i K1 hK1 K0 hK0
      refine wp_frL5 (fun L0 hL0 => ?_)
      have HTA : Hid (∀ (l' : List Value) (wq : World), wipeL l' [false, false, false, false, false, false, false, true, true, false, false, false, false, false, false, false, false, false, false, false, false, false, false, false, false, false, false, false, false, false, false, false, false, true, true, true, true, true, true, true, true, true, true, true, true, true, true, true, true, true, true, true, true, false, false, false, false, false, false, false, false, false, false, false, false, false, false, false, false, false, false, false, false, false, false, false, false, false, false, false, false, false, false, false, false, false, false, false, false, false, false, false, false, false, false, false, false, false, false, false, false, false, false, false, false, false, false, false, false, false, false, false, false, false, false, false, false, false, false, false, false, false, false, false, false, false, false, false, false, false, false, false, false, false, false, false, false, false, false, false, false, false, false, false, false, false, false, false, false, false, false, false, false, false, false, false, false, false, false, false, false, false, false, false, false, false, false, false, false, false, false, false, false, false, false, false, false, false, false, false, false] = wipeL L0 [false, false, false, false, false, false, false, true, true, false, false, false, false, false, false, false, false, false, false, false, false, false, false, false, false, false, false, false, false, false, false, false, false, true, true, true, true, true, true, true, true, true, true, true, true, true, true, true, true, true, true, true, true, false, false, false, false, false, false, false, false, false, false, false, false, false, false, false, false, false, false, false, false, false, false, false, false, false, false, false, false, false, false, false, false, false, false, false, false, false, false, false, false, false, false, false, false, false, false, false, false, false, false, false, false, false, false, false, false, false, false, false, false, false, false, false, false, false, false, false, false, false, false, false, false, false, false, false, false, false, false, false, false, false, false, false, false, false, false, false, false, false, false, false, false, false, false, false, false, false, false, false, false, false, false, false, false, false, false, false, false, false, false, false, false, false, false, false, false, false, false, false, false, false, false, false, false, false, false, false, false] → l'.length = L0.length → (∃ (A7 : Option Addr) (J c7 : Nat), l'.getD 7 undef = .slice A7 J c7 ∧ J ≤ N ∧ J ≤ 40 ∧ Rb w wq p c s b6 LS (.slice A7 J c7) J (pbs s (l.take J))) → K1 ⟨l'.toArray, []⟩ wq) := by
        intro l' wq h1 h2 h3
        obtain ⟨A7, J, c7, e7, hJN, hJ40, hR⟩ := h3
        obtain ⟨f, hf⟩ : ∃ f : Nat → Value, f = fun k => l'.getD k undef := ⟨_, rfl⟩
        have e7' : f 7 = .slice A7 J c7 := by rw [hf]; exact e7
        rw [over_eq [false, false, false, false, false, false, false, true, true, false, false, false, false, false, false, false, false, false, false, false, false, false, false, false, false, false, false, false, false, false, false, false, false, true, true, true, true, true, true, true, true, true, true, true, true, true, true, true, true, true, true, true, true, false, false, false, false, false, false, false, false, false, false, false, false, false, false, false, false, false, false, false, false, false, false, false, false, false, false, false, false, false, false, false, false, false, false, false, false, false, false, false, false, false, false, false, false, false, false, false, false, false, false, false, false, false, false, false, false, false, false, false, false, false, false, false, false, false, false, false, false, false, false, false, false, false, false, false, false, false, false, false, false, false, false, false, false, false, false, false, false, false, false, false, false, false, false, false, false, false, false, false, false, false, false, false, false, false, false, false, false, false, false, false, false, false, false, false, false, false, false, false, false, false, false, false, false, false, false, false, false] L0 l' 0 f h2 (fun k => by rw [Nat.zero_add, hf]) h1, hL0]
        simp only [overL, cond_true, cond_false, Nat.reduceAdd]
        rw [e7']
        have HR : Hid (Rb w wq p c s b6 LS (.slice A7 J c7) J (pbs s (l.take J))) := hR
        have HJN : Hid (J ≤ N) := hJN
        have HJ40 : Hid (J ≤ 40) := hJ40
        have hJb : J ≤ 64 := by omega
        clear h1 h2 hf e7 e7' hJN hJ40 hR hL0 hK0 RB0
        refine hK1 _ _ ?_
        clear hK1
        go_upto_region 17 with (first
          | (refine wpList_ixs 22 35 (.tmp 55) (.tmp 56) rfl b o N c0 i 8 rfl rfl HIN.out und_Ss info_S rfl ?_; simp only [Act.put, List.setIfInBounds_toArray, List.set_cons_zero, List.set_cons_succ])
          | (refine wpList_ldS rfl 35 (.tmp 57) rfl b (o + i * 8) rfl R _ (HRG0.out _ HR.out.v.below) Try.underlying35 rfl HRI.out ?_; simp only [Act.put, List.setIfInBounds_toArray, List.set_cons_zero, List.set_cons_succ])
          | (go_at_call 12; refine Calls.mono (HCH.out _ HR.out.v) ?_; rintro e Z1 ⟨rfl, q1, q2⟩; have RZ1 : Hid (Rb w Z1 p (c + 2) s2 b6 LS (.slice A7 J c7) J (pbs s (l.take J))) := HR.out.turn q1 q2; have HOK2 : Hid s2.Ok := okR q1; clear q1 q2)
          | (go_at_call 22; refine Calls.mono (HLK2.out _ RZ1.out.v) ?_; rintro e Z2 ⟨rfl, q⟩; have RZ2 : Hid (Rb w Z2 p (c + 2) s2 b6 LS (.slice A7 J c7) J (pbs s (l.take J))) := RZ1.out.be q; clear q RZ1)
          | (refine wpList_stL rfl tSn (.tmp 11) (.tmp 63) rfl Z2.heap.size LS2 zS tSn rfl rfl A11.out HSZ2.out HSI2.out HSO2.out ?_; intro Z q1 q2; have q3 : Below Z2.heap.size Z2 Z := gro_newL D11.out (Nat.le_refl _) q2; have HRN0 : Hid (Row Z Z2.heap.size LS2 tSn) := q1; have HRZZ : Hid (Rb w Z p (c + 2) s2 b6 LS (.slice A7 J c7) J (pbs s (l.take J))) := RZ2.out.be q3; have ckd := HCK0.out Z HRZZ.out.v.below; clear q1 q2 q3 A11 D11 RZ2)
          | (refine wpList_alS rfl rfl ?_; intro Z3 q1 q2 q3; have A11 : Hid (Row Z3 Z2.heap.size zS tSn) := q1; have D11 : Hid (Below Z2.heap.size Z2 Z3) := q2; clear q1 q2 q3; simp only [Act.put, List.setIfInBounds_toArray, List.set_cons_zero, List.set_cons_succ])
          | (refine wpList_ixs 22 35 (.tmp 64) (.tmp 65) rfl b o N c0 i 8 rfl rfl HIN.out und_Ss info_S rfl ?_; simp only [Act.put, List.setIfInBounds_toArray, List.set_cons_zero, List.set_cons_succ])
          | (go_at_call 11; refine Calls.mono (HPK2.out _) ?_; rintro e Z ⟨rfl, rfl⟩))
        obtain ⟨b11, hb11⟩ : ∃ b, b = Z2.heap.size := ⟨_, rfl⟩
        rw [← hb11] at HRN0 ⊢
        have HRN : Hid (Row Z b11 LS2 tSn) := HRN0.out
        clear hb11 HRN0 ckd HR
        rename_i K1 hK1 K0 hK0
        refine wp_frL5 (fun L0 hL0 => ?_)
        have HTL : Hid (∀ (l' : List Value), wipeL l' [false, false, true, false, false, false, false, false, false, false, false, false, false, false, false, false, false, false, false, false, false, false, false, false, false, false, false, false, false, false, false, false, false, false, false, false, false, false, false, false, false, false, false, false, false, false, false, false, false, false, false, false, false, false, false, false, false, false, false, false, false, false, false, false, false, false, false, false, false, false, true, true, true, true, true, true, true, false, false, false, false, false, false, false, false, false, false, false, false, false, false, false, false, false, false, false, false, false, false, false, false, false, false, false, false, false, false, false, false, false, false, false, false, false, false, false, false, false, false, false, false, false, false, false, false, false, false, false, false, false, false, false, false, false, false, false, false, false, false, false, false, false, false, false, false, false, false, false, false, false, false, false, false, false, false, false, false, false, false, false, false, false, false, false, false, false, false, false, false, false, false, false, false, false, false, false, false, false, false, false, false] = wipeL L0 [false, false, true, false, false, false, false, false, false, false, false, false, false, false, false, false, false, false, false, false, false, false, false, false, false, false, false, false, false, false, false, false, false, false, false, false, false, false, false, false, false, false, false, false, false, false, false, false, false, false, false, false, false, false, false, false, false, false, false, false, false, false, false, false, false, false, false, false, false, false, true, true, true, true, true, true, true, false, false, false, false, false, false, false, false, false, false, false, false, false, false, false, false, false, false, false, false, false, false, false, false, false, false, false, false, false, false, false, false, false, false, false, false, false, false, false, false, false, false, false, false, false, false, false, false, false, false, false, false, false, false, false, false, false, false, false, false, false, false, false, false, false, false, false, false, false, false, false, false, false, false, false, false, false, false, false, false, false, false, false, false, false, false, false, false, false, false, false, false, false, false, false, false, false, false, false, false, false, false, false, false] → l'.length = L0.length → K1 ⟨l'.toArray, []⟩ Z) := by
          intro l' h1 h2
          obtain ⟨f, hf⟩ : ∃ f : Nat → Value, f = fun k => l'.getD k undef := ⟨_, rfl⟩
          rw [over_eq [false, false, true, false, false, false, false, false, false, false, false, false, false, false, false, false, false, false, false, false, false, false, false, false, false, false, false, false, false, false, false, false, false, false, false, false, false, false, false, false, false, false, false, false, false, false, false, false, false, false, false, false, false, false, false, false, false, false, false, false, false, false, false, false, false, false, false, false, false, false, true, true, true, true, true, true, true, false, false, false, false, false, false, false, false, false, false, false, false, false, false, false, false, false, false, false, false, false, false, false, false, false, false, false, false, false, false, false, false, false, false, false, false, false, false, false, false, false, false, false, false, false, false, false, false, false, false, false, false, false, false, false, false, false, false, false, false, false, false, false, false, false, false, false, false, false, false, false, false, false, false, false, false, false, false, false, false, false, false, false, false, false, false, false, false, false, false, false, false, false, false, false, false, false, false, false, false, false, false, false, false] L0 l' 0 f h2 (fun k => by rw [Nat.zero_add, hf]) h1, hL0]
          simp only [overL, cond_true, cond_false, Nat.reduceAdd]
          clear h1 h2 hf hL0 hK0
          refine hK1 _ _ ?_
          clear hK1
          go_wp2_with fail
          go_loopw [13] (fun v13 wq => ∃ q : Nat, q ≤ J ∧ v13 = .int .i64 (q : Int) ∧ Below Z.heap.size Z wq) (fun v13 _ => J - (intOf v13).toNat)
          case atStart => exact ⟨0, Nat.zero_le _, rfl, Below.refl _ _⟩
          case round =>
            rename World => wq
            obtain ⟨q, hq, rfl, hbq⟩ := hrel
            have HBQ : Hid (Below Z.heap.size Z wq) := hbq
            have HRZ : Hid (Rb w wq p (c + 2) s2 b6 LS (.slice A7 J c7) J (pbs s (l.take J))) := HRZZ.out.be hbq
            clear hbq
            by_cases hqJ : q < J
            · obtain ⟨rq, hrq⟩ : ∃ r, l[q]? = some r := ⟨_, List.getElem?_eq_getElem (by rw [← HNl.out]; have := HJN.out; omega)⟩
              obtain ⟨g7, cap7, hv7, hr7⟩ := bl_at HRZ.out.l (by omega)
              obtain ⟨rfl, rfl⟩ : A7 = some ⟨g7, 0, none⟩ ∧ c7 = cap7 := by simpa using hv7
              obtain ⟨xq, hxq⟩ : ∃ x, x = rq.ix := ⟨_, rfl⟩
              obtain ⟨P1, hP1⟩ : ∃ x, x = paid s.U xq := ⟨_, rfl⟩
              obtain ⟨P2, hP2⟩ : ∃ x, x = paid s2.U xq := ⟨_, rfl⟩
              have HP1 : Hid (P1 = paid s.U xq) := hP1
              have HP2 : Hid (P2 = paid s2.U xq) := hP2
              have HXO : Hid (I64 xq) := by rw [hxq]; exact (HSJ.out q rq hrq).1.ix
              have HXQ0 : Hid (∀ X, Below w.heap.size w X → X.cell? ⟨b, o + q * 8 + 3, none⟩ = some (.int .i64 xq)) := fun X h => by rw [hxq]; exact (HSJ.out q rq hrq).2 X h
              have HC70 : Hid (∀ X, Lw X tBo 1 (.slice (some ⟨g7, 0, none⟩) J c7) J (pbs s (l.take J)) → X.cell? ⟨g7, 0 + q * 1, none⟩ = some (.bool P1)) := fun X hl => by
                obtain ⟨g', cap', hv', hr'⟩ := bl_at hl (by omega)
                obtain ⟨rfl, _⟩ : g7 = g' ∧ c7 = cap' := by simpa using hv'
                rw [Nat.mul_one]
                exact hr' q (.bool P1) (by unfold pbs; rw [List.getElem?_map, List.getElem?_take_of_lt hqJ, hrq, hP1, hxq]; rfl)
              have HQJ : Hid (q < J) := hqJ
              have HQN : Hid (q < N) := by have := HJN.out; show _ < _; omega
              have hqb : q < 64 := by have := HJ40.out; omega
              clear hv7 hr7 hrq hxq hP1 hP2 hq hqJ
              go_upto_region 22 with fail
              by_cases hE0 : E = 0
              · have HEB : Hid ((E == 0) = true) := by show _ = _; simpa using hE0
                by_cases hk4 : k = 4
                · have HK4 : Hid ((k == 4) = true) := by show _ = _; simpa using hk4
                  obtain ⟨X, hX⟩ : ∃ x, x = (xq == ix) := ⟨_, rfl⟩
                  have HBX : Hid ((xq == ix) = X) := hX.symm
                  clear hX hE0 hk4
                  have hb1 := Below.refl wq.heap.size wq
                  have HXQ : Hid (∀ W, Below wq.heap.size wq W → W.cell? ⟨b, o + q * 8 + 3, none⟩ = some (.int .i64 xq)) := fun W k => HXQ0.out W (HRZ.out.be k).v.below
                  have HXI : Hid (∀ W, Below wq.heap.size wq W → W.cell? ⟨b, o + i * 8 + 3, none⟩ = some (.int .i64 ix)) := fun W k => HCX0.out W (HRZ.out.be k).v.below
                  refine wp_named fun a0 ha0 => ?_
                  have hsz : a0.tmps.size = 181 := by rw [ha0]; rfl
                  have zs0 : a0.eval (.tmp 0) = .slice (some ⟨b, o, none⟩) N c0 := by rw [ha0]; rfl
                  have zs5 : a0.eval (.tmp 5) = .int .i64 (i : Int) := by rw [ha0]; rfl
                  have zs10 : a0.eval (.tmp 10) = .int .i64 E := by rw [ha0]; rfl
                  have zs12 : a0.eval (.tmp 12) = .int .i64 k := by rw [ha0]; rfl
                  have zs13 : a0.eval (.tmp 13) = .int .i64 (q : Int) := by rw [ha0]; rfl
                  obtain ⟨D, hD⟩ : ∃ D : List (Tmp × SP), D = [(83, SP.is (.int .i64 E)), (84, SP.is (.bool true)), (85, SP.is (.bool true)), (86, SP.is (.int .i64 k)), (87, SP.is (.bool true)), (88, SP.is (.bool true)), (89, SP.is (.bool true)), (90, SP.is (.slice (some ⟨b, o, none⟩) N c0)), (91, SP.is (.int .i64 (q : Int))), (92, SP.is (.pointer (some ⟨b, o + q * 8, none⟩))), (93, SP.is (.pointer (some ⟨b, o + q * 8 + 3, none⟩))), (94, SP.is (.int .i64 xq)), (95, SP.is (.slice (some ⟨b, o, none⟩) N c0)), (96, SP.is (.int .i64 (i : Int))), (97, SP.is (.pointer (some ⟨b, o + i * 8, none⟩))), (98, SP.is (.pointer (some ⟨b, o + i * 8 + 3, none⟩))), (99, SP.is (.int .i64 ix)), (100, SP.is (.bool X)), (101, SP.is (.bool X)), (14, SP.is (.bool X))] := ⟨_, rfl⟩
                  refine wp_region_down (by kernel_rfl) (fun listed ac W => listed.size = 20 ∧ Fp D a0 listed ac W ∧ Below wq.heap.size wq W) ?_ ?_ ?_
                  · exact ⟨by simp, Fp.start D a0 _ _, Below.drew hb1⟩
                  · clear ha0 hb1  
                    intro listed ac W k hI hdn hk
                    obtain ⟨hl, hF, hb1⟩ := hI
                    have hk1 : k < 20 := List.mem_range.1 (List.mem_filter.1 hk).1
                    have hl2 : ∀ j, (listed.setIfInBounds j true).size = 20 := fun j => by rw [Array.size_setIfInBounds]; exact hl
                    rcases (show k = 0 ∨ k = 1 ∨ k = 2 ∨ k = 3 ∨ k = 4 ∨ k = 5 ∨ k = 6 ∨ k = 7 ∨ k = 8 ∨ k = 9 ∨ k = 10 ∨ k = 11 ∨ k = 12 ∨ k = 13 ∨ k = 14 ∨ k = 15 ∨ k = 16 ∨ k = 17 ∨ k = 18 ∨ k = 19 by omega) with rfl | rfl | rfl | rfl | rfl | rfl | rfl | rfl | rfl | rfl | rfl | rfl | rfl | rfl | rfl | rfl | rfl | rfl | rfl | rfl
                    · have hk3 := hk
                      exact wpOp_plain rfl rfl (wp_move_v (ac.eval (.tmp 10)) rfl rfl ⟨hl2 0, (hF.put 0 83 (SP.is (.int .i64 E)) (ac.eval (.tmp 10)) (by rw [hD]; rfl) (((hF.keep 10 (by rw [hD]; rfl)).trans zs10)) (by rw [hD]; rfl) (by rw [hsz]; decide) (by rw [hl]; decide)), hb1⟩)
                    · have hk3 := hk
                      have ea := (hF.done 0 (83, SP.is (.int .i64 E)) (by rw [hD]; rfl) (ready_dep hk 0 (by kernel_rfl)))
                      exact wpOp_plain rfl rfl (wpR_eqIb rfl E 0 true HEB.out ea rfl ⟨hl2 1, (hF.put 1 84 (SP.is (.bool true)) (.bool true) (by rw [hD]; rfl) rfl (by rw [hD]; rfl) (by rw [hsz]; decide) (by rw [hl]; decide)), hb1⟩)
                    · have hk3 := hk
                      exact wpOp_plain rfl rfl (wp_move_v (ac.eval (.tmp 84)) rfl rfl ⟨hl2 2, (hF.put 2 85 (SP.is (.bool true)) (ac.eval (.tmp 84)) (by rw [hD]; rfl) ((hF.done 1 (84, SP.is (.bool true)) (by rw [hD]; rfl) (ready_dep hk 1 (by kernel_rfl)))) (by rw [hD]; rfl) (by rw [hsz]; decide) (by rw [hl]; decide)), hb1⟩)
                    · have hk3 := hk
                      exact wpOp_wanted rfl (wanted_g (g := 2) (b := true) rfl rfl (hF.done 2 (85, SP.is (.bool true)) (by rw [hD]; rfl) (ready_dep hk 2 (by kernel_rfl))) (by rw [hF.size, hsz]; decide)) (wp_move_v (ac.eval (.tmp 12)) rfl rfl ⟨hl2 3, (hF.put 3 86 (SP.is (.int .i64 k)) (ac.eval (.tmp 12)) (by rw [hD]; rfl) (((hF.keep 12 (by rw [hD]; rfl)).trans zs12)) (by rw [hD]; rfl) (by rw [hsz]; decide) (by rw [hl]; decide)), hb1⟩)
                    · have hk3 := hk
                      have ea := (hF.done 3 (86, SP.is (.int .i64 k)) (by rw [hD]; rfl) (ready_dep hk 3 (by kernel_rfl)))
                      exact wpOp_wanted rfl (wanted_g (g := 2) (b := true) rfl rfl (hF.done 2 (85, SP.is (.bool true)) (by rw [hD]; rfl) (ready_dep hk 2 (by kernel_rfl))) (by rw [hF.size, hsz]; decide)) (wpR_eqIb rfl k 4 true HK4.out ea rfl ⟨hl2 4, (hF.put 4 87 (SP.is (.bool true)) (.bool true) (by rw [hD]; rfl) rfl (by rw [hD]; rfl) (by rw [hsz]; decide) (by rw [hl]; decide)), hb1⟩)
                    · have hk3 := hk
                      have ea := (hF.done 2 (85, SP.is (.bool true)) (by rw [hD]; rfl) (ready_dep hk 2 (by kernel_rfl)))
                      have eb := (hF.done 4 (87, SP.is (.bool true)) (by rw [hD]; rfl) (ready_dep hk 4 (by kernel_rfl)))
                      exact wpOp_plain rfl rfl (wpR_pickT (.bool true) rfl ea eb ⟨hl2 5, (hF.put 5 88 (SP.is (.bool true)) (.bool true) (by rw [hD]; rfl) rfl (by rw [hD]; rfl) (by rw [hsz]; decide) (by rw [hl]; decide)), hb1⟩)
                    · have hk3 := hk
                      exact wpOp_plain rfl rfl (wp_move_v (ac.eval (.tmp 88)) rfl rfl ⟨hl2 6, (hF.put 6 89 (SP.is (.bool true)) (ac.eval (.tmp 88)) (by rw [hD]; rfl) ((hF.done 5 (88, SP.is (.bool true)) (by rw [hD]; rfl) (ready_dep hk 5 (by kernel_rfl)))) (by rw [hD]; rfl) (by rw [hsz]; decide) (by rw [hl]; decide)), hb1⟩)
                    · have hk3 := hk
                      exact wpOp_wanted rfl (wanted_g (g := 6) (b := true) rfl rfl (hF.done 6 (89, SP.is (.bool true)) (by rw [hD]; rfl) (ready_dep hk 6 (by kernel_rfl))) (by rw [hF.size, hsz]; decide)) (wp_move_v (ac.eval (.tmp 0)) rfl rfl ⟨hl2 7, (hF.put 7 90 (SP.is (.slice (some ⟨b, o, none⟩) N c0)) (ac.eval (.tmp 0)) (by rw [hD]; rfl) (((hF.keep 0 (by rw [hD]; rfl)).trans zs0)) (by rw [hD]; rfl) (by rw [hsz]; decide) (by rw [hl]; decide)), hb1⟩)
                    · have hk3 := hk
                      exact wpOp_wanted rfl (wanted_g (g := 6) (b := true) rfl rfl (hF.done 6 (89, SP.is (.bool true)) (by rw [hD]; rfl) (ready_dep hk 6 (by kernel_rfl))) (by rw [hF.size, hsz]; decide)) (wp_move_v (ac.eval (.tmp 13)) rfl rfl ⟨hl2 8, (hF.put 8 91 (SP.is (.int .i64 (q : Int))) (ac.eval (.tmp 13)) (by rw [hD]; rfl) (((hF.keep 13 (by rw [hD]; rfl)).trans zs13)) (by rw [hD]; rfl) (by rw [hsz]; decide) (by rw [hl]; decide)), hb1⟩)
                    · have hk3 := hk
                      have ea := (hF.done 7 (90, SP.is (.slice (some ⟨b, o, none⟩) N c0)) (by rw [hD]; rfl) (ready_dep hk 7 (by kernel_rfl)))
                      have eb := (hF.done 8 (91, SP.is (.int .i64 (q : Int))) (by rw [hD]; rfl) (ready_dep hk 8 (by kernel_rfl)))
                      exact wpOp_wanted rfl (wanted_g (g := 6) (b := true) rfl rfl (hF.done 6 (89, SP.is (.bool true)) (by rw [hD]; rfl) (ready_dep hk 6 (by kernel_rfl))) (by rw [hF.size, hsz]; decide)) (wp_ixs 22 35 rfl b o N c0 q 8 ea eb HQN.out und_Ss info_S ⟨hl2 9, (hF.put 9 92 (SP.is (.pointer (some ⟨b, o + q * 8, none⟩))) (.pointer (some ⟨b, o + q * 8, none⟩)) (by rw [hD]; rfl) rfl (by rw [hD]; rfl) (by rw [hsz]; decide) (by rw [hl]; decide)), hb1⟩)
                    · have hk3 := hk
                      have ea := (hF.done 9 (92, SP.is (.pointer (some ⟨b, o + q * 8, none⟩))) (by rw [hD]; rfl) (ready_dep hk 9 (by kernel_rfl)))
                      exact wpOp_wanted rfl (wanted_g (g := 6) (b := true) rfl rfl (hF.done 6 (89, SP.is (.bool true)) (by rw [hD]; rfl) (ready_dep hk 6 (by kernel_rfl))) (by rw [hF.size, hsz]; decide)) (wpR_sf3 b (o + q * 8) rfl ea ⟨hl2 10, (hF.put 10 93 (SP.is (.pointer (some ⟨b, o + q * 8 + 3, none⟩))) (.pointer (some ⟨b, o + q * 8 + 3, none⟩)) (by rw [hD]; rfl) rfl (by rw [hD]; rfl) (by rw [hsz]; decide) (by rw [hl]; decide)), hb1⟩)
                    · have hk3 := hk
                      have ea := (hF.done 10 (93, SP.is (.pointer (some ⟨b, o + q * 8 + 3, none⟩))) (by rw [hD]; rfl) (ready_dep hk 10 (by kernel_rfl)))
                      exact wpOp_wanted rfl (wanted_g (g := 6) (b := true) rfl rfl (hF.done 6 (89, SP.is (.bool true)) (by rw [hD]; rfl) (ready_dep hk 6 (by kernel_rfl))) (by rw [hF.size, hsz]; decide)) (wp_load_1 b (o + q * 8 + 3) (.int .i64 xq) rfl ea (run_load_in W b (o + q * 8 + 3) (.int .i64 xq) (HXQ.out W hb1)) ⟨hl2 11, (hF.put 11 94 (SP.is (.int .i64 xq)) (.int .i64 xq) (by rw [hD]; rfl) rfl (by rw [hD]; rfl) (by rw [hsz]; decide) (by rw [hl]; decide)), hb1⟩)
                    · have hk3 := hk
                      exact wpOp_wanted rfl (wanted_g (g := 6) (b := true) rfl rfl (hF.done 6 (89, SP.is (.bool true)) (by rw [hD]; rfl) (ready_dep hk 6 (by kernel_rfl))) (by rw [hF.size, hsz]; decide)) (wp_move_v (ac.eval (.tmp 0)) rfl rfl ⟨hl2 12, (hF.put 12 95 (SP.is (.slice (some ⟨b, o, none⟩) N c0)) (ac.eval (.tmp 0)) (by rw [hD]; rfl) (((hF.keep 0 (by rw [hD]; rfl)).trans zs0)) (by rw [hD]; rfl) (by rw [hsz]; decide) (by rw [hl]; decide)), hb1⟩)
                    · have hk3 := hk
                      exact wpOp_wanted rfl (wanted_g (g := 6) (b := true) rfl rfl (hF.done 6 (89, SP.is (.bool true)) (by rw [hD]; rfl) (ready_dep hk 6 (by kernel_rfl))) (by rw [hF.size, hsz]; decide)) (wp_move_v (ac.eval (.tmp 5)) rfl rfl ⟨hl2 13, (hF.put 13 96 (SP.is (.int .i64 (i : Int))) (ac.eval (.tmp 5)) (by rw [hD]; rfl) (((hF.keep 5 (by rw [hD]; rfl)).trans zs5)) (by rw [hD]; rfl) (by rw [hsz]; decide) (by rw [hl]; decide)), hb1⟩)
                    · have hk3 := hk
                      have ea := (hF.done 12 (95, SP.is (.slice (some ⟨b, o, none⟩) N c0)) (by rw [hD]; rfl) (ready_dep hk 12 (by kernel_rfl)))
                      have eb := (hF.done 13 (96, SP.is (.int .i64 (i : Int))) (by rw [hD]; rfl) (ready_dep hk 13 (by kernel_rfl)))
                      exact wpOp_wanted rfl (wanted_g (g := 6) (b := true) rfl rfl (hF.done 6 (89, SP.is (.bool true)) (by rw [hD]; rfl) (ready_dep hk 6 (by kernel_rfl))) (by rw [hF.size, hsz]; decide)) (wp_ixs 22 35 rfl b o N c0 i 8 ea eb HIN.out und_Ss info_S ⟨hl2 14, (hF.put 14 97 (SP.is (.pointer (some ⟨b, o + i * 8, none⟩))) (.pointer (some ⟨b, o + i * 8, none⟩)) (by rw [hD]; rfl) rfl (by rw [hD]; rfl) (by rw [hsz]; decide) (by rw [hl]; decide)), hb1⟩)
                    · have hk3 := hk
                      have ea := (hF.done 14 (97, SP.is (.pointer (some ⟨b, o + i * 8, none⟩))) (by rw [hD]; rfl) (ready_dep hk 14 (by kernel_rfl)))
                      exact wpOp_wanted rfl (wanted_g (g := 6) (b := true) rfl rfl (hF.done 6 (89, SP.is (.bool true)) (by rw [hD]; rfl) (ready_dep hk 6 (by kernel_rfl))) (by rw [hF.size, hsz]; decide)) (wpR_sf3 b (o + i * 8) rfl ea ⟨hl2 15, (hF.put 15 98 (SP.is (.pointer (some ⟨b, o + i * 8 + 3, none⟩))) (.pointer (some ⟨b, o + i * 8 + 3, none⟩)) (by rw [hD]; rfl) rfl (by rw [hD]; rfl) (by rw [hsz]; decide) (by rw [hl]; decide)), hb1⟩)
                    · have hk3 := hk
                      have ea := (hF.done 15 (98, SP.is (.pointer (some ⟨b, o + i * 8 + 3, none⟩))) (by rw [hD]; rfl) (ready_dep hk 15 (by kernel_rfl)))
                      exact wpOp_wanted rfl (wanted_g (g := 6) (b := true) rfl rfl (hF.done 6 (89, SP.is (.bool true)) (by rw [hD]; rfl) (ready_dep hk 6 (by kernel_rfl))) (by rw [hF.size, hsz]; decide)) (wp_load_1 b (o + i * 8 + 3) (.int .i64 ix) rfl ea (run_load_in W b (o + i * 8 + 3) (.int .i64 ix) (HXI.out W hb1)) ⟨hl2 16, (hF.put 16 99 (SP.is (.int .i64 ix)) (.int .i64 ix) (by rw [hD]; rfl) rfl (by rw [hD]; rfl) (by rw [hsz]; decide) (by rw [hl]; decide)), hb1⟩)
                    · have hk3 := hk
                      have ea := (hF.done 11 (94, SP.is (.int .i64 xq)) (by rw [hD]; rfl) (ready_dep hk 11 (by kernel_rfl)))
                      have eb := (hF.done 16 (99, SP.is (.int .i64 ix)) (by rw [hD]; rfl) (ready_dep hk 16 (by kernel_rfl)))
                      exact wpOp_wanted rfl (wanted_g (g := 6) (b := true) rfl rfl (hF.done 6 (89, SP.is (.bool true)) (by rw [hD]; rfl) (ready_dep hk 6 (by kernel_rfl))) (by rw [hF.size, hsz]; decide)) (wpR_eqIb rfl xq ix X HBX.out ea eb ⟨hl2 17, (hF.put 17 100 (SP.is (.bool X)) (.bool X) (by rw [hD]; rfl) rfl (by rw [hD]; rfl) (by rw [hsz]; decide) (by rw [hl]; decide)), hb1⟩)
                    · have hk3 := hk
                      have ea := (hF.done 6 (89, SP.is (.bool true)) (by rw [hD]; rfl) (ready_dep hk 6 (by kernel_rfl)))
                      have eb := (hF.done 17 (100, SP.is (.bool X)) (by rw [hD]; rfl) (ready_dep hk 17 (by kernel_rfl)))
                      exact wpOp_plain rfl rfl (wpR_pickT (.bool X) rfl ea eb ⟨hl2 18, (hF.put 18 101 (SP.is (.bool X)) (.bool X) (by rw [hD]; rfl) rfl (by rw [hD]; rfl) (by rw [hsz]; decide) (by rw [hl]; decide)), hb1⟩)
                    · have hk3 := hk
                      exact wpOp_plain rfl rfl (wp_assign_v (ac.eval (.tmp 101)) rfl rfl ⟨hl2 19, (hF.put 19 14 (SP.is (.bool X)) (ac.eval (.tmp 101)) (by rw [hD]; rfl) ((hF.done 18 (101, SP.is (.bool X)) (by rw [hD]; rfl) (ready_dep hk 18 (by kernel_rfl)))) (by rw [hD]; rfl) (by rw [hsz]; decide) (by rw [hl]; decide)), hb1⟩)
                  · clear hb1  
                    intro listed ac W hI hr
                    obtain ⟨hl, hF, hb1⟩ := hI
                    have hall := all_listed (by kernel_rfl) hl hr
                    have h83 : ac.eval (.tmp 83) = .int .i64 E := hF.done 0 (83, SP.is (.int .i64 E)) (by rw [hD]; rfl) (hall 0 (by decide))
                    have h84 : ac.eval (.tmp 84) = .bool true := hF.done 1 (84, SP.is (.bool true)) (by rw [hD]; rfl) (hall 1 (by decide))
                    have h85 : ac.eval (.tmp 85) = .bool true := hF.done 2 (85, SP.is (.bool true)) (by rw [hD]; rfl) (hall 2 (by decide))
                    have h86 : ac.eval (.tmp 86) = .int .i64 k := hF.done 3 (86, SP.is (.int .i64 k)) (by rw [hD]; rfl) (hall 3 (by decide))
                    have h87 : ac.eval (.tmp 87) = .bool true := hF.done 4 (87, SP.is (.bool true)) (by rw [hD]; rfl) (hall 4 (by decide))
                    have h88 : ac.eval (.tmp 88) = .bool true := hF.done 5 (88, SP.is (.bool true)) (by rw [hD]; rfl) (hall 5 (by decide))
                    have h89 : ac.eval (.tmp 89) = .bool true := hF.done 6 (89, SP.is (.bool true)) (by rw [hD]; rfl) (hall 6 (by decide))
                    have h90 : ac.eval (.tmp 90) = .slice (some ⟨b, o, none⟩) N c0 := hF.done 7 (90, SP.is (.slice (some ⟨b, o, none⟩) N c0)) (by rw [hD]; rfl) (hall 7 (by decide))
                    have h91 : ac.eval (.tmp 91) = .int .i64 (q : Int) := hF.done 8 (91, SP.is (.int .i64 (q : Int))) (by rw [hD]; rfl) (hall 8 (by decide))
                    have h92 : ac.eval (.tmp 92) = .pointer (some ⟨b, o + q * 8, none⟩) := hF.done 9 (92, SP.is (.pointer (some ⟨b, o + q * 8, none⟩))) (by rw [hD]; rfl) (hall 9 (by decide))
                    have h93 : ac.eval (.tmp 93) = .pointer (some ⟨b, o + q * 8 + 3, none⟩) := hF.done 10 (93, SP.is (.pointer (some ⟨b, o + q * 8 + 3, none⟩))) (by rw [hD]; rfl) (hall 10 (by decide))
                    have h94 : ac.eval (.tmp 94) = .int .i64 xq := hF.done 11 (94, SP.is (.int .i64 xq)) (by rw [hD]; rfl) (hall 11 (by decide))
                    have h95 : ac.eval (.tmp 95) = .slice (some ⟨b, o, none⟩) N c0 := hF.done 12 (95, SP.is (.slice (some ⟨b, o, none⟩) N c0)) (by rw [hD]; rfl) (hall 12 (by decide))
                    have h96 : ac.eval (.tmp 96) = .int .i64 (i : Int) := hF.done 13 (96, SP.is (.int .i64 (i : Int))) (by rw [hD]; rfl) (hall 13 (by decide))
                    have h97 : ac.eval (.tmp 97) = .pointer (some ⟨b, o + i * 8, none⟩) := hF.done 14 (97, SP.is (.pointer (some ⟨b, o + i * 8, none⟩))) (by rw [hD]; rfl) (hall 14 (by decide))
                    have h98 : ac.eval (.tmp 98) = .pointer (some ⟨b, o + i * 8 + 3, none⟩) := hF.done 15 (98, SP.is (.pointer (some ⟨b, o + i * 8 + 3, none⟩))) (by rw [hD]; rfl) (hall 15 (by decide))
                    have h99 : ac.eval (.tmp 99) = .int .i64 ix := hF.done 16 (99, SP.is (.int .i64 ix)) (by rw [hD]; rfl) (hall 16 (by decide))
                    have h100 : ac.eval (.tmp 100) = .bool X := hF.done 17 (100, SP.is (.bool X)) (by rw [hD]; rfl) (hall 17 (by decide))
                    have h101 : ac.eval (.tmp 101) = .bool X := hF.done 18 (101, SP.is (.bool X)) (by rw [hD]; rfl) (hall 18 (by decide))
                    have h14 : ac.eval (.tmp 14) = .bool X := hF.done 19 (14, SP.is (.bool X)) (by rw [hD]; rfl) (hall 19 (by decide))
                    have ea := hF.lay [(83, .int .i64 E), (84, .bool true), (85, .bool true), (86, .int .i64 k), (87, .bool true), (88, .bool true), (89, .bool true), (90, .slice (some ⟨b, o, none⟩) N c0), (91, .int .i64 (q : Int)), (92, .pointer (some ⟨b, o + q * 8, none⟩)), (93, .pointer (some ⟨b, o + q * 8 + 3, none⟩)), (94, .int .i64 xq), (95, .slice (some ⟨b, o, none⟩) N c0), (96, .int .i64 (i : Int)), (97, .pointer (some ⟨b, o + i * 8, none⟩)), (98, .pointer (some ⟨b, o + i * 8 + 3, none⟩)), (99, .int .i64 ix), (100, .bool X), (101, .bool X), (14, .bool X)] (by rw [hD, hsz]; rfl) (by simp only [List.forall_mem_cons, List.not_mem_nil, false_implies, implies_true, and_true]; exact ⟨h83, h84, h85, h86, h87, h88, h89, h90, h91, h92, h93, h94, h95, h96, h97, h98, h99, h100, h101, h14⟩)
                    rw [ha0] at ea
                    simp only [List.foldl_cons, List.foldl_nil, List.setIfInBounds_toArray, List.set_cons_zero, List.set_cons_succ] at ea
                    clear hF hall hr hl hD  zs0 zs5 zs10 zs12 zs13 ha0 hsz h83 h84 h85 h86 h87 h88 h89 h90 h91 h92 h93 h94 h95 h96 h97 h98 h99 h100 h101 h14
                    subst ea
                    obtain ⟨wq3, hw3⟩ : ∃ V, V = W := ⟨_, rfl⟩
                    rw [← hw3] at hb1 ⊢
                    clear hw3 HXQ HXI
                    have HRZ3 : Hid (Rb w wq3 p (c + 2) s2 b6 LS (.slice (some ⟨g7, 0, none⟩) J c7) J (pbs s (l.take J))) := HRZ.out.be hb1
                    have HB3q : Hid (Below Z.heap.size Z wq3) := HBQ.out.trans (hb1.mono HBQ.out.size)
                    replace hb1 := Below.refl wq3.heap.size wq3
                    have HXQ : Hid (∀ W, Below wq3.heap.size wq3 W → W.cell? ⟨b, o + q * 8 + 3, none⟩ = some (.int .i64 xq)) := fun W k => HXQ0.out W (HRZ3.out.be k).v.below
                    have HPD : Hid (∀ W, Below wq3.heap.size wq3 W → Calls Try.prog 21 #[.pointer (some ⟨p, 0, none⟩), .int .i64 xq] W fun e w' => e = .returned (.bool P2) ∧ Below W.heap.size W w') := fun W k => by rw [HP2.out]; exact vlP (HRZ3.out.be k).v xq HXO.out
                    have HC7 : Hid (∀ W, Below wq3.heap.size wq3 W → W.cell? ⟨g7, 0 + q * 1, none⟩ = some (.bool P1)) := fun W k => HC70.out W (HRZ3.out.be k).l
                    go_upto_region 23 with fail
                    cases hdb : (P2 != P1) with
                    | true =>
                      have HDB : Hid ((P2 != P1) = true) := hdb
                      obtain rfl : X = true := by
                        rw [← HBX.out]
                        rcases HST.out.u xq with h | h
                        · rw [HP2.out, HP1.out, h] at hdb
                          simp at hdb
                        · rw [HIXR.out, h.2.2]
                          simp
                      clear hdb
                      refine wp_named fun a0 ha0 => ?_
                      have hsz : a0.tmps.size = 181 := by rw [ha0]; rfl
                      have zs0 : a0.eval (.tmp 0) = .slice (some ⟨b, o, none⟩) N c0 := by rw [ha0]; rfl
                      have zs4 : a0.eval (.tmp 4) = .pointer (some ⟨p, 0, none⟩) := by rw [ha0]; rfl
                      have zs7 : a0.eval (.tmp 7) = .slice (some ⟨g7, 0, none⟩) J c7 := by rw [ha0]; rfl
                      have zs13 : a0.eval (.tmp 13) = .int .i64 (q : Int) := by rw [ha0]; rfl
                      have zs14 : a0.eval (.tmp 14) = .bool true := by rw [ha0]; rfl
                      obtain ⟨D, hD⟩ : ∃ D : List (Tmp × SP), D = [(102, SP.is (.pointer (some ⟨p, 0, none⟩))), (103, SP.is (.slice (some ⟨b, o, none⟩) N c0)), (104, SP.is (.int .i64 (q : Int))), (105, SP.is (.pointer (some ⟨b, o + q * 8, none⟩))), (106, SP.is (.pointer (some ⟨b, o + q * 8 + 3, none⟩))), (107, SP.is (.int .i64 xq)), (108, SP.is (.bool P2)), (109, SP.is (.slice (some ⟨g7, 0, none⟩) J c7)), (110, SP.is (.int .i64 (q : Int))), (111, SP.is (.pointer (some ⟨g7, 0 + q * 1, none⟩))), (112, SP.is (.bool P1)), (113, SP.is (.bool true)), (114, SP.is (.bool true)), (115, SP.is (.bool true)), (116, SP.is (.bool false)), (117, SP.is (.bool false))] := ⟨_, rfl⟩
                      refine wp_region_down (by kernel_rfl) (fun listed ac W => listed.size = 16 ∧ Fp D a0 listed ac W ∧ Below wq3.heap.size wq3 W) ?_ ?_ ?_
                      · exact ⟨by simp, Fp.start D a0 _ _, Below.drew hb1⟩
                      · clear ha0 hb1  
                        intro listed ac W k hI hdn hk
                        obtain ⟨hl, hF, hb1⟩ := hI
                        have hk1 : k < 16 := List.mem_range.1 (List.mem_filter.1 hk).1
                        have hl2 : ∀ j, (listed.setIfInBounds j true).size = 16 := fun j => by rw [Array.size_setIfInBounds]; exact hl
                        rcases (show k = 0 ∨ k = 1 ∨ k = 2 ∨ k = 3 ∨ k = 4 ∨ k = 5 ∨ k = 6 ∨ k = 7 ∨ k = 8 ∨ k = 9 ∨ k = 10 ∨ k = 11 ∨ k = 12 ∨ k = 13 ∨ k = 14 ∨ k = 15 by omega) with rfl | rfl | rfl | rfl | rfl | rfl | rfl | rfl | rfl | rfl | rfl | rfl | rfl | rfl | rfl | rfl
                        · have hk3 := hk
                          exact wpOp_plain rfl rfl (wp_move_v (ac.eval (.tmp 4)) rfl rfl ⟨hl2 0, (hF.put 0 102 (SP.is (.pointer (some ⟨p, 0, none⟩))) (ac.eval (.tmp 4)) (by rw [hD]; rfl) (((hF.keep 4 (by rw [hD]; rfl)).trans zs4)) (by rw [hD]; rfl) (by rw [hsz]; decide) (by rw [hl]; decide)), hb1⟩)
                        · have hk3 := hk
                          exact wpOp_plain rfl rfl (wp_move_v (ac.eval (.tmp 0)) rfl rfl ⟨hl2 1, (hF.put 1 103 (SP.is (.slice (some ⟨b, o, none⟩) N c0)) (ac.eval (.tmp 0)) (by rw [hD]; rfl) (((hF.keep 0 (by rw [hD]; rfl)).trans zs0)) (by rw [hD]; rfl) (by rw [hsz]; decide) (by rw [hl]; decide)), hb1⟩)
                        · have hk3 := hk
                          exact wpOp_plain rfl rfl (wp_move_v (ac.eval (.tmp 13)) rfl rfl ⟨hl2 2, (hF.put 2 104 (SP.is (.int .i64 (q : Int))) (ac.eval (.tmp 13)) (by rw [hD]; rfl) (((hF.keep 13 (by rw [hD]; rfl)).trans zs13)) (by rw [hD]; rfl) (by rw [hsz]; decide) (by rw [hl]; decide)), hb1⟩)
                        · have hk3 := hk
                          have ea := (hF.done 1 (103, SP.is (.slice (some ⟨b, o, none⟩) N c0)) (by rw [hD]; rfl) (ready_dep hk 1 (by kernel_rfl)))
                          have eb := (hF.done 2 (104, SP.is (.int .i64 (q : Int))) (by rw [hD]; rfl) (ready_dep hk 2 (by kernel_rfl)))
                          exact wpOp_plain rfl rfl (wp_ixs 22 35 rfl b o N c0 q 8 ea eb HQN.out und_Ss info_S ⟨hl2 3, (hF.put 3 105 (SP.is (.pointer (some ⟨b, o + q * 8, none⟩))) (.pointer (some ⟨b, o + q * 8, none⟩)) (by rw [hD]; rfl) rfl (by rw [hD]; rfl) (by rw [hsz]; decide) (by rw [hl]; decide)), hb1⟩)
                        · have hk3 := hk
                          have ea := (hF.done 3 (105, SP.is (.pointer (some ⟨b, o + q * 8, none⟩))) (by rw [hD]; rfl) (ready_dep hk 3 (by kernel_rfl)))
                          exact wpOp_plain rfl rfl (wpR_sf3 b (o + q * 8) rfl ea ⟨hl2 4, (hF.put 4 106 (SP.is (.pointer (some ⟨b, o + q * 8 + 3, none⟩))) (.pointer (some ⟨b, o + q * 8 + 3, none⟩)) (by rw [hD]; rfl) rfl (by rw [hD]; rfl) (by rw [hsz]; decide) (by rw [hl]; decide)), hb1⟩)
                        · have hk3 := hk
                          have ea := (hF.done 4 (106, SP.is (.pointer (some ⟨b, o + q * 8 + 3, none⟩))) (by rw [hD]; rfl) (ready_dep hk 4 (by kernel_rfl)))
                          exact wpOp_plain rfl rfl (wp_load_1 b (o + q * 8 + 3) (.int .i64 xq) rfl ea (run_load_in W b (o + q * 8 + 3) (.int .i64 xq) (HXQ.out W hb1)) ⟨hl2 5, (hF.put 5 107 (SP.is (.int .i64 xq)) (.int .i64 xq) (by rw [hD]; rfl) rfl (by rw [hD]; rfl) (by rw [hsz]; decide) (by rw [hl]; decide)), hb1⟩)
                        · have hk3 := hk
                          have ea := (hF.done 0 (102, SP.is (.pointer (some ⟨p, 0, none⟩))) (by rw [hD]; rfl) (ready_dep hk 0 (by kernel_rfl)))
                          have eb := (hF.done 5 (107, SP.is (.int .i64 xq)) (by rw [hD]; rfl) (ready_dep hk 5 (by kernel_rfl)))
                          refine wpOp_plain rfl rfl (wp_fcall_v 21 #[.pointer (some ⟨p, 0, none⟩), .int .i64 xq] rfl rfl (by show [ac.eval (.tmp 102), ac.eval (.tmp 107)] = _; rw [show ac.eval (.tmp 102) = _ from ea, show ac.eval (.tmp 107) = _ from eb]) (by go_simp) ((HPD.out W hb1).mono ?_))
                          rintro e W2 ⟨rfl, hB⟩
                          exact ⟨_, rfl, hl2 6, ((hF.world hB).put 6 108 (SP.is (.bool P2)) (.bool P2) (by rw [hD]; rfl) rfl (by rw [hD]; rfl) (by rw [hsz]; decide) (by rw [hl]; decide)), hb1.trans (hB.mono hb1.size)⟩
                        · have hk3 := hk
                          exact wpOp_plain rfl rfl (wp_move_v (ac.eval (.tmp 7)) rfl rfl ⟨hl2 7, (hF.put 7 109 (SP.is (.slice (some ⟨g7, 0, none⟩) J c7)) (ac.eval (.tmp 7)) (by rw [hD]; rfl) (((hF.keep 7 (by rw [hD]; rfl)).trans zs7)) (by rw [hD]; rfl) (by rw [hsz]; decide) (by rw [hl]; decide)), hb1⟩)
                        · have hk3 := hk
                          exact wpOp_plain rfl rfl (wp_move_v (ac.eval (.tmp 13)) rfl rfl ⟨hl2 8, (hF.put 8 110 (SP.is (.int .i64 (q : Int))) (ac.eval (.tmp 13)) (by rw [hD]; rfl) (((hF.keep 13 (by rw [hD]; rfl)).trans zs13)) (by rw [hD]; rfl) (by rw [hsz]; decide) (by rw [hl]; decide)), hb1⟩)
                        · have hk3 := hk
                          have ea := (hF.done 7 (109, SP.is (.slice (some ⟨g7, 0, none⟩) J c7)) (by rw [hD]; rfl) (ready_dep hk 7 (by kernel_rfl)))
                          have eb := (hF.done 8 (110, SP.is (.int .i64 (q : Int))) (by rw [hD]; rfl) (ready_dep hk 8 (by kernel_rfl)))
                          exact wpOp_plain rfl rfl (wp_ixs tLB tBo rfl g7 0 J c7 q 1 ea eb HQJ.out und_LB bo_info ⟨hl2 9, (hF.put 9 111 (SP.is (.pointer (some ⟨g7, 0 + q * 1, none⟩))) (.pointer (some ⟨g7, 0 + q * 1, none⟩)) (by rw [hD]; rfl) rfl (by rw [hD]; rfl) (by rw [hsz]; decide) (by rw [hl]; decide)), hb1⟩)
                        · have hk3 := hk
                          have ea := (hF.done 9 (111, SP.is (.pointer (some ⟨g7, 0 + q * 1, none⟩))) (by rw [hD]; rfl) (ready_dep hk 9 (by kernel_rfl)))
                          exact wpOp_plain rfl rfl (wp_load_1 g7 (0 + q * 1) (.bool P1) rfl ea (ldBo W g7 (0 + q * 1) (.bool P1) (HC7.out W hb1)) ⟨hl2 10, (hF.put 10 112 (SP.is (.bool P1)) (.bool P1) (by rw [hD]; rfl) rfl (by rw [hD]; rfl) (by rw [hsz]; decide) (by rw [hl]; decide)), hb1⟩)
                        · have hk3 := hk
                          have ea := (hF.done 6 (108, SP.is (.bool P2)) (by rw [hD]; rfl) (ready_dep hk 6 (by kernel_rfl)))
                          have eb := (hF.done 10 (112, SP.is (.bool P1)) (by rw [hD]; rfl) (ready_dep hk 10 (by kernel_rfl)))
                          exact wpOp_plain rfl rfl (wpR_neBb rfl P2 P1 true HDB.out ea eb ⟨hl2 11, (hF.put 11 113 (SP.is (.bool true)) (.bool true) (by rw [hD]; rfl) rfl (by rw [hD]; rfl) (by rw [hsz]; decide) (by rw [hl]; decide)), hb1⟩)
                        · have hk3 := hk
                          exact wpOp_plain rfl rfl (wp_move_v (ac.eval (.tmp 113)) rfl rfl ⟨hl2 12, (hF.put 12 114 (SP.is (.bool true)) (ac.eval (.tmp 113)) (by rw [hD]; rfl) ((hF.done 11 (113, SP.is (.bool true)) (by rw [hD]; rfl) (ready_dep hk 11 (by kernel_rfl)))) (by rw [hD]; rfl) (by rw [hsz]; decide) (by rw [hl]; decide)), hb1⟩)
                        · have hk3 := hk
                          exact wpOp_wanted rfl (wanted_g (g := 12) (b := true) rfl rfl (hF.done 12 (114, SP.is (.bool true)) (by rw [hD]; rfl) (ready_dep hk 12 (by kernel_rfl))) (by rw [hF.size, hsz]; decide)) (wp_move_v (ac.eval (.tmp 14)) rfl rfl ⟨hl2 13, (hF.put 13 115 (SP.is (.bool true)) (ac.eval (.tmp 14)) (by rw [hD]; rfl) (((hF.keep 14 (by rw [hD]; rfl)).trans zs14)) (by rw [hD]; rfl) (by rw [hsz]; decide) (by rw [hl]; decide)), hb1⟩)
                        · have hk3 := hk
                          have ea := (hF.done 13 (115, SP.is (.bool true)) (by rw [hD]; rfl) (ready_dep hk 13 (by kernel_rfl)))
                          exact wpOp_wanted rfl (wanted_g (g := 12) (b := true) rfl rfl (hF.done 12 (114, SP.is (.bool true)) (by rw [hD]; rfl) (ready_dep hk 12 (by kernel_rfl))) (by rw [hF.size, hsz]; decide)) (wpR_not rfl true ea ⟨hl2 14, (hF.put 14 116 (SP.is (.bool false)) (.bool false) (by rw [hD]; rfl) rfl (by rw [hD]; rfl) (by rw [hsz]; decide) (by rw [hl]; decide)), hb1⟩)
                        · have hk3 := hk
                          have ea := (hF.done 12 (114, SP.is (.bool true)) (by rw [hD]; rfl) (ready_dep hk 12 (by kernel_rfl)))
                          have eb := (hF.done 14 (116, SP.is (.bool false)) (by rw [hD]; rfl) (ready_dep hk 14 (by kernel_rfl)))
                          exact wpOp_plain rfl rfl (wpR_pickT (.bool false) rfl ea eb ⟨hl2 15, (hF.put 15 117 (SP.is (.bool false)) (.bool false) (by rw [hD]; rfl) rfl (by rw [hD]; rfl) (by rw [hsz]; decide) (by rw [hl]; decide)), hb1⟩)
                      · clear hb1  
                        intro listed ac W hI hr
                        obtain ⟨hl, hF, hb1⟩ := hI
                        have hall := all_listed (by kernel_rfl) hl hr
                        have h102 : ac.eval (.tmp 102) = .pointer (some ⟨p, 0, none⟩) := hF.done 0 (102, SP.is (.pointer (some ⟨p, 0, none⟩))) (by rw [hD]; rfl) (hall 0 (by decide))
                        have h103 : ac.eval (.tmp 103) = .slice (some ⟨b, o, none⟩) N c0 := hF.done 1 (103, SP.is (.slice (some ⟨b, o, none⟩) N c0)) (by rw [hD]; rfl) (hall 1 (by decide))
                        have h104 : ac.eval (.tmp 104) = .int .i64 (q : Int) := hF.done 2 (104, SP.is (.int .i64 (q : Int))) (by rw [hD]; rfl) (hall 2 (by decide))
                        have h105 : ac.eval (.tmp 105) = .pointer (some ⟨b, o + q * 8, none⟩) := hF.done 3 (105, SP.is (.pointer (some ⟨b, o + q * 8, none⟩))) (by rw [hD]; rfl) (hall 3 (by decide))
                        have h106 : ac.eval (.tmp 106) = .pointer (some ⟨b, o + q * 8 + 3, none⟩) := hF.done 4 (106, SP.is (.pointer (some ⟨b, o + q * 8 + 3, none⟩))) (by rw [hD]; rfl) (hall 4 (by decide))
                        have h107 : ac.eval (.tmp 107) = .int .i64 xq := hF.done 5 (107, SP.is (.int .i64 xq)) (by rw [hD]; rfl) (hall 5 (by decide))
                        have h108 : ac.eval (.tmp 108) = .bool P2 := hF.done 6 (108, SP.is (.bool P2)) (by rw [hD]; rfl) (hall 6 (by decide))
                        have h109 : ac.eval (.tmp 109) = .slice (some ⟨g7, 0, none⟩) J c7 := hF.done 7 (109, SP.is (.slice (some ⟨g7, 0, none⟩) J c7)) (by rw [hD]; rfl) (hall 7 (by decide))
                        have h110 : ac.eval (.tmp 110) = .int .i64 (q : Int) := hF.done 8 (110, SP.is (.int .i64 (q : Int))) (by rw [hD]; rfl) (hall 8 (by decide))
                        have h111 : ac.eval (.tmp 111) = .pointer (some ⟨g7, 0 + q * 1, none⟩) := hF.done 9 (111, SP.is (.pointer (some ⟨g7, 0 + q * 1, none⟩))) (by rw [hD]; rfl) (hall 9 (by decide))
                        have h112 : ac.eval (.tmp 112) = .bool P1 := hF.done 10 (112, SP.is (.bool P1)) (by rw [hD]; rfl) (hall 10 (by decide))
                        have h113 : ac.eval (.tmp 113) = .bool true := hF.done 11 (113, SP.is (.bool true)) (by rw [hD]; rfl) (hall 11 (by decide))
                        have h114 : ac.eval (.tmp 114) = .bool true := hF.done 12 (114, SP.is (.bool true)) (by rw [hD]; rfl) (hall 12 (by decide))
                        have h115 : ac.eval (.tmp 115) = .bool true := hF.done 13 (115, SP.is (.bool true)) (by rw [hD]; rfl) (hall 13 (by decide))
                        have h116 : ac.eval (.tmp 116) = .bool false := hF.done 14 (116, SP.is (.bool false)) (by rw [hD]; rfl) (hall 14 (by decide))
                        have h117 : ac.eval (.tmp 117) = .bool false := hF.done 15 (117, SP.is (.bool false)) (by rw [hD]; rfl) (hall 15 (by decide))
                        have ea := hF.lay [(102, .pointer (some ⟨p, 0, none⟩)), (103, .slice (some ⟨b, o, none⟩) N c0), (104, .int .i64 (q : Int)), (105, .pointer (some ⟨b, o + q * 8, none⟩)), (106, .pointer (some ⟨b, o + q * 8 + 3, none⟩)), (107, .int .i64 xq), (108, .bool P2), (109, .slice (some ⟨g7, 0, none⟩) J c7), (110, .int .i64 (q : Int)), (111, .pointer (some ⟨g7, 0 + q * 1, none⟩)), (112, .bool P1), (113, .bool true), (114, .bool true), (115, .bool true), (116, .bool false), (117, .bool false)] (by rw [hD, hsz]; rfl) (by simp only [List.forall_mem_cons, List.not_mem_nil, false_implies, implies_true, and_true]; exact ⟨h102, h103, h104, h105, h106, h107, h108, h109, h110, h111, h112, h113, h114, h115, h116, h117⟩)
                        rw [ha0] at ea
                        simp only [List.foldl_cons, List.foldl_nil, List.setIfInBounds_toArray, List.set_cons_zero, List.set_cons_succ] at ea
                        clear hF hall hr hl hD  zs0 zs4 zs7 zs13 zs14 ha0 hsz h102 h103 h104 h105 h106 h107 h108 h109 h110 h111 h112 h113 h114 h115 h116 h117
                        subst ea
                        have HB4q : Hid (Below Z.heap.size Z W) := HB3q.out.trans (hb1.mono HB3q.out.size)
                        clear hb1
                        go_wp2_with fail
                        exact ⟨⟨q + 1, HQJ.out, by go_num, HB4q.out⟩, by simp [intOf]; have := HQJ.out; omega⟩
                    | false =>
                      have HDB : Hid ((P2 != P1) = false) := hdb
                      clear hdb
                      refine wp_named fun a0 ha0 => ?_
                      have hsz : a0.tmps.size = 181 := by rw [ha0]; rfl
                      have zs0 : a0.eval (.tmp 0) = .slice (some ⟨b, o, none⟩) N c0 := by rw [ha0]; rfl
                      have zs4 : a0.eval (.tmp 4) = .pointer (some ⟨p, 0, none⟩) := by rw [ha0]; rfl
                      have zs7 : a0.eval (.tmp 7) = .slice (some ⟨g7, 0, none⟩) J c7 := by rw [ha0]; rfl
                      have zs13 : a0.eval (.tmp 13) = .int .i64 (q : Int) := by rw [ha0]; rfl
                      have zs14 : a0.eval (.tmp 14) = .bool X := by rw [ha0]; rfl
                      obtain ⟨D, hD⟩ : ∃ D : List (Tmp × SP), D = [(102, SP.is (.pointer (some ⟨p, 0, none⟩))), (103, SP.is (.slice (some ⟨b, o, none⟩) N c0)), (104, SP.is (.int .i64 (q : Int))), (105, SP.is (.pointer (some ⟨b, o + q * 8, none⟩))), (106, SP.is (.pointer (some ⟨b, o + q * 8 + 3, none⟩))), (107, SP.is (.int .i64 xq)), (108, SP.is (.bool P2)), (109, SP.is (.slice (some ⟨g7, 0, none⟩) J c7)), (110, SP.is (.int .i64 (q : Int))), (111, SP.is (.pointer (some ⟨g7, 0 + q * 1, none⟩))), (112, SP.is (.bool P1)), (113, SP.is (.bool false)), (114, SP.is (.bool false)), (115, SP.is (undef)), (116, SP.is (undef)), (117, SP.is (.bool false))] := ⟨_, rfl⟩
                      refine wp_region_down (by kernel_rfl) (fun listed ac W => listed.size = 16 ∧ Fp D a0 listed ac W ∧ Below wq3.heap.size wq3 W) ?_ ?_ ?_
                      · exact ⟨by simp, Fp.start D a0 _ _, Below.drew hb1⟩
                      · clear ha0 hb1  
                        intro listed ac W k hI hdn hk
                        obtain ⟨hl, hF, hb1⟩ := hI
                        have hk1 : k < 16 := List.mem_range.1 (List.mem_filter.1 hk).1
                        have hl2 : ∀ j, (listed.setIfInBounds j true).size = 16 := fun j => by rw [Array.size_setIfInBounds]; exact hl
                        rcases (show k = 0 ∨ k = 1 ∨ k = 2 ∨ k = 3 ∨ k = 4 ∨ k = 5 ∨ k = 6 ∨ k = 7 ∨ k = 8 ∨ k = 9 ∨ k = 10 ∨ k = 11 ∨ k = 12 ∨ k = 13 ∨ k = 14 ∨ k = 15 by omega) with rfl | rfl | rfl | rfl | rfl | rfl | rfl | rfl | rfl | rfl | rfl | rfl | rfl | rfl | rfl | rfl
                        · have hk3 := hk
                          exact wpOp_plain rfl rfl (wp_move_v (ac.eval (.tmp 4)) rfl rfl ⟨hl2 0, (hF.put 0 102 (SP.is (.pointer (some ⟨p, 0, none⟩))) (ac.eval (.tmp 4)) (by rw [hD]; rfl) (((hF.keep 4 (by rw [hD]; rfl)).trans zs4)) (by rw [hD]; rfl) (by rw [hsz]; decide) (by rw [hl]; decide)), hb1⟩)
                        · have hk3 := hk
                          exact wpOp_plain rfl rfl (wp_move_v (ac.eval (.tmp 0)) rfl rfl ⟨hl2 1, (hF.put 1 103 (SP.is (.slice (some ⟨b, o, none⟩) N c0)) (ac.eval (.tmp 0)) (by rw [hD]; rfl) (((hF.keep 0 (by rw [hD]; rfl)).trans zs0)) (by rw [hD]; rfl) (by rw [hsz]; decide) (by rw [hl]; decide)), hb1⟩)
                        · have hk3 := hk
                          exact wpOp_plain rfl rfl (wp_move_v (ac.eval (.tmp 13)) rfl rfl ⟨hl2 2, (hF.put 2 104 (SP.is (.int .i64 (q : Int))) (ac.eval (.tmp 13)) (by rw [hD]; rfl) (((hF.keep 13 (by rw [hD]; rfl)).trans zs13)) (by rw [hD]; rfl) (by rw [hsz]; decide) (by rw [hl]; decide)), hb1⟩)
                        · have hk3 := hk
                          have ea := (hF.done 1 (103, SP.is (.slice (some ⟨b, o, none⟩) N c0)) (by rw [hD]; rfl) (ready_dep hk 1 (by kernel_rfl)))
                          have eb := (hF.done 2 (104, SP.is (.int .i64 (q : Int))) (by rw [hD]; rfl) (ready_dep hk 2 (by kernel_rfl)))
                          exact wpOp_plain rfl rfl (wp_ixs 22 35 rfl b o N c0 q 8 ea eb HQN.out und_Ss info_S ⟨hl2 3, (hF.put 3 105 (SP.is (.pointer (some ⟨b, o + q * 8, none⟩))) (.pointer (some ⟨b, o + q * 8, none⟩)) (by rw [hD]; rfl) rfl (by rw [hD]; rfl) (by rw [hsz]; decide) (by rw [hl]; decide)), hb1⟩)
                        · have hk3 := hk
                          have ea := (hF.done 3 (105, SP.is (.pointer (some ⟨b, o + q * 8, none⟩))) (by rw [hD]; rfl) (ready_dep hk 3 (by kernel_rfl)))
                          exact wpOp_plain rfl rfl (wpR_sf3 b (o + q * 8) rfl ea ⟨hl2 4, (hF.put 4 106 (SP.is (.pointer (some ⟨b, o + q * 8 + 3, none⟩))) (.pointer (some ⟨b, o + q * 8 + 3, none⟩)) (by rw [hD]; rfl) rfl (by rw [hD]; rfl) (by rw [hsz]; decide) (by rw [hl]; decide)), hb1⟩)
                        · have hk3 := hk
                          have ea := (hF.done 4 (106, SP.is (.pointer (some ⟨b, o + q * 8 + 3, none⟩))) (by rw [hD]; rfl) (ready_dep hk 4 (by kernel_rfl)))
                          exact wpOp_plain rfl rfl (wp_load_1 b (o + q * 8 + 3) (.int .i64 xq) rfl ea (run_load_in W b (o + q * 8 + 3) (.int .i64 xq) (HXQ.out W hb1)) ⟨hl2 5, (hF.put 5 107 (SP.is (.int .i64 xq)) (.int .i64 xq) (by rw [hD]; rfl) rfl (by rw [hD]; rfl) (by rw [hsz]; decide) (by rw [hl]; decide)), hb1⟩)
                        · have hk3 := hk
                          have ea := (hF.done 0 (102, SP.is (.pointer (some ⟨p, 0, none⟩))) (by rw [hD]; rfl) (ready_dep hk 0 (by kernel_rfl)))
                          have eb := (hF.done 5 (107, SP.is (.int .i64 xq)) (by rw [hD]; rfl) (ready_dep hk 5 (by kernel_rfl)))
                          refine wpOp_plain rfl rfl (wp_fcall_v 21 #[.pointer (some ⟨p, 0, none⟩), .int .i64 xq] rfl rfl (by show [ac.eval (.tmp 102), ac.eval (.tmp 107)] = _; rw [show ac.eval (.tmp 102) = _ from ea, show ac.eval (.tmp 107) = _ from eb]) (by go_simp) ((HPD.out W hb1).mono ?_))
                          rintro e W2 ⟨rfl, hB⟩
                          exact ⟨_, rfl, hl2 6, ((hF.world hB).put 6 108 (SP.is (.bool P2)) (.bool P2) (by rw [hD]; rfl) rfl (by rw [hD]; rfl) (by rw [hsz]; decide) (by rw [hl]; decide)), hb1.trans (hB.mono hb1.size)⟩
                        · have hk3 := hk
                          exact wpOp_plain rfl rfl (wp_move_v (ac.eval (.tmp 7)) rfl rfl ⟨hl2 7, (hF.put 7 109 (SP.is (.slice (some ⟨g7, 0, none⟩) J c7)) (ac.eval (.tmp 7)) (by rw [hD]; rfl) (((hF.keep 7 (by rw [hD]; rfl)).trans zs7)) (by rw [hD]; rfl) (by rw [hsz]; decide) (by rw [hl]; decide)), hb1⟩)
                        · have hk3 := hk
                          exact wpOp_plain rfl rfl (wp_move_v (ac.eval (.tmp 13)) rfl rfl ⟨hl2 8, (hF.put 8 110 (SP.is (.int .i64 (q : Int))) (ac.eval (.tmp 13)) (by rw [hD]; rfl) (((hF.keep 13 (by rw [hD]; rfl)).trans zs13)) (by rw [hD]; rfl) (by rw [hsz]; decide) (by rw [hl]; decide)), hb1⟩)
                        · have hk3 := hk
                          have ea := (hF.done 7 (109, SP.is (.slice (some ⟨g7, 0, none⟩) J c7)) (by rw [hD]; rfl) (ready_dep hk 7 (by kernel_rfl)))
                          have eb := (hF.done 8 (110, SP.is (.int .i64 (q : Int))) (by rw [hD]; rfl) (ready_dep hk 8 (by kernel_rfl)))
                          exact wpOp_plain rfl rfl (wp_ixs tLB tBo rfl g7 0 J c7 q 1 ea eb HQJ.out und_LB bo_info ⟨hl2 9, (hF.put 9 111 (SP.is (.pointer (some ⟨g7, 0 + q * 1, none⟩))) (.pointer (some ⟨g7, 0 + q * 1, none⟩)) (by rw [hD]; rfl) rfl (by rw [hD]; rfl) (by rw [hsz]; decide) (by rw [hl]; decide)), hb1⟩)
                        · have hk3 := hk
                          have ea := (hF.done 9 (111, SP.is (.pointer (some ⟨g7, 0 + q * 1, none⟩))) (by rw [hD]; rfl) (ready_dep hk 9 (by kernel_rfl)))
                          exact wpOp_plain rfl rfl (wp_load_1 g7 (0 + q * 1) (.bool P1) rfl ea (ldBo W g7 (0 + q * 1) (.bool P1) (HC7.out W hb1)) ⟨hl2 10, (hF.put 10 112 (SP.is (.bool P1)) (.bool P1) (by rw [hD]; rfl) rfl (by rw [hD]; rfl) (by rw [hsz]; decide) (by rw [hl]; decide)), hb1⟩)
                        · have hk3 := hk
                          have ea := (hF.done 6 (108, SP.is (.bool P2)) (by rw [hD]; rfl) (ready_dep hk 6 (by kernel_rfl)))
                          have eb := (hF.done 10 (112, SP.is (.bool P1)) (by rw [hD]; rfl) (ready_dep hk 10 (by kernel_rfl)))
                          exact wpOp_plain rfl rfl (wpR_neBb rfl P2 P1 false HDB.out ea eb ⟨hl2 11, (hF.put 11 113 (SP.is (.bool false)) (.bool false) (by rw [hD]; rfl) rfl (by rw [hD]; rfl) (by rw [hsz]; decide) (by rw [hl]; decide)), hb1⟩)
                        · have hk3 := hk
                          exact wpOp_plain rfl rfl (wp_move_v (ac.eval (.tmp 113)) rfl rfl ⟨hl2 12, (hF.put 12 114 (SP.is (.bool false)) (ac.eval (.tmp 113)) (by rw [hD]; rfl) ((hF.done 11 (113, SP.is (.bool false)) (by rw [hD]; rfl) (ready_dep hk 11 (by kernel_rfl)))) (by rw [hD]; rfl) (by rw [hsz]; decide) (by rw [hl]; decide)), hb1⟩)
                        · have hk3 := hk
                          exact wpOp_off rfl (unwanted_g (g := 12) (b := true) rfl rfl (hF.done 12 (114, SP.is (.bool false)) (by rw [hD]; rfl) (ready_dep hk 12 (by kernel_rfl))) (by rw [hF.size, hsz]; decide)) ⟨hl2 13, (hF.put 13 115 (SP.is (undef)) undef (by rw [hD]; rfl) rfl (by rw [hD]; rfl) (by rw [hsz]; decide) (by rw [hl]; decide)), hb1⟩
                        · have hk3 := hk
                          exact wpOp_off rfl (unwanted_g (g := 12) (b := true) rfl rfl (hF.done 12 (114, SP.is (.bool false)) (by rw [hD]; rfl) (ready_dep hk 12 (by kernel_rfl))) (by rw [hF.size, hsz]; decide)) ⟨hl2 14, (hF.put 14 116 (SP.is (undef)) undef (by rw [hD]; rfl) rfl (by rw [hD]; rfl) (by rw [hsz]; decide) (by rw [hl]; decide)), hb1⟩
                        · have hk3 := hk
                          have ea := (hF.done 12 (114, SP.is (.bool false)) (by rw [hD]; rfl) (ready_dep hk 12 (by kernel_rfl)))
                          exact wpOp_plain rfl rfl (wpR_pickF (.bool false) rfl ea rfl ⟨hl2 15, (hF.put 15 117 (SP.is (.bool false)) (.bool false) (by rw [hD]; rfl) rfl (by rw [hD]; rfl) (by rw [hsz]; decide) (by rw [hl]; decide)), hb1⟩)
                      · clear hb1  
                        intro listed ac W hI hr
                        obtain ⟨hl, hF, hb1⟩ := hI
                        have hall := all_listed (by kernel_rfl) hl hr
                        have h102 : ac.eval (.tmp 102) = .pointer (some ⟨p, 0, none⟩) := hF.done 0 (102, SP.is (.pointer (some ⟨p, 0, none⟩))) (by rw [hD]; rfl) (hall 0 (by decide))
                        have h103 : ac.eval (.tmp 103) = .slice (some ⟨b, o, none⟩) N c0 := hF.done 1 (103, SP.is (.slice (some ⟨b, o, none⟩) N c0)) (by rw [hD]; rfl) (hall 1 (by decide))
                        have h104 : ac.eval (.tmp 104) = .int .i64 (q : Int) := hF.done 2 (104, SP.is (.int .i64 (q : Int))) (by rw [hD]; rfl) (hall 2 (by decide))
                        have h105 : ac.eval (.tmp 105) = .pointer (some ⟨b, o + q * 8, none⟩) := hF.done 3 (105, SP.is (.pointer (some ⟨b, o + q * 8, none⟩))) (by rw [hD]; rfl) (hall 3 (by decide))
                        have h106 : ac.eval (.tmp 106) = .pointer (some ⟨b, o + q * 8 + 3, none⟩) := hF.done 4 (106, SP.is (.pointer (some ⟨b, o + q * 8 + 3, none⟩))) (by rw [hD]; rfl) (hall 4 (by decide))
                        have h107 : ac.eval (.tmp 107) = .int .i64 xq := hF.done 5 (107, SP.is (.int .i64 xq)) (by rw [hD]; rfl) (hall 5 (by decide))
                        have h108 : ac.eval (.tmp 108) = .bool P2 := hF.done 6 (108, SP.is (.bool P2)) (by rw [hD]; rfl) (hall 6 (by decide))
                        have h109 : ac.eval (.tmp 109) = .slice (some ⟨g7, 0, none⟩) J c7 := hF.done 7 (109, SP.is (.slice (some ⟨g7, 0, none⟩) J c7)) (by rw [hD]; rfl) (hall 7 (by decide))
                        have h110 : ac.eval (.tmp 110) = .int .i64 (q : Int) := hF.done 8 (110, SP.is (.int .i64 (q : Int))) (by rw [hD]; rfl) (hall 8 (by decide))
                        have h111 : ac.eval (.tmp 111) = .pointer (some ⟨g7, 0 + q * 1, none⟩) := hF.done 9 (111, SP.is (.pointer (some ⟨g7, 0 + q * 1, none⟩))) (by rw [hD]; rfl) (hall 9 (by decide))
                        have h112 : ac.eval (.tmp 112) = .bool P1 := hF.done 10 (112, SP.is (.bool P1)) (by rw [hD]; rfl) (hall 10 (by decide))
                        have h113 : ac.eval (.tmp 113) = .bool false := hF.done 11 (113, SP.is (.bool false)) (by rw [hD]; rfl) (hall 11 (by decide))
                        have h114 : ac.eval (.tmp 114) = .bool false := hF.done 12 (114, SP.is (.bool false)) (by rw [hD]; rfl) (hall 12 (by decide))
                        have h115 : ac.eval (.tmp 115) = undef := hF.done 13 (115, SP.is (undef)) (by rw [hD]; rfl) (hall 13 (by decide))
                        have h116 : ac.eval (.tmp 116) = undef := hF.done 14 (116, SP.is (undef)) (by rw [hD]; rfl) (hall 14 (by decide))
                        have h117 : ac.eval (.tmp 117) = .bool false := hF.done 15 (117, SP.is (.bool false)) (by rw [hD]; rfl) (hall 15 (by decide))
                        have ea := hF.lay [(102, .pointer (some ⟨p, 0, none⟩)), (103, .slice (some ⟨b, o, none⟩) N c0), (104, .int .i64 (q : Int)), (105, .pointer (some ⟨b, o + q * 8, none⟩)), (106, .pointer (some ⟨b, o + q * 8 + 3, none⟩)), (107, .int .i64 xq), (108, .bool P2), (109, .slice (some ⟨g7, 0, none⟩) J c7), (110, .int .i64 (q : Int)), (111, .pointer (some ⟨g7, 0 + q * 1, none⟩)), (112, .bool P1), (113, .bool false), (114, .bool false), (115, undef), (116, undef), (117, .bool false)] (by rw [hD, hsz]; rfl) (by simp only [List.forall_mem_cons, List.not_mem_nil, false_implies, implies_true, and_true]; exact ⟨h102, h103, h104, h105, h106, h107, h108, h109, h110, h111, h112, h113, h114, h115, h116, h117⟩)
                        rw [ha0] at ea
                        simp only [List.foldl_cons, List.foldl_nil, List.setIfInBounds_toArray, List.set_cons_zero, List.set_cons_succ] at ea
                        clear hF hall hr hl hD  zs0 zs4 zs7 zs13 zs14 ha0 hsz h102 h103 h104 h105 h106 h107 h108 h109 h110 h111 h112 h113 h114 h115 h116 h117
                        subst ea
                        have HB4q : Hid (Below Z.heap.size Z W) := HB3q.out.trans (hb1.mono HB3q.out.size)
                        clear hb1
                        go_wp2_with fail
                        exact ⟨⟨q + 1, HQJ.out, by go_num, HB4q.out⟩, by simp [intOf]; have := HQJ.out; omega⟩
                · have HK4 : Hid ((k == 4) = false) := by show _ = _; simpa using hk4
                  have HDB : Hid ((P2 != P1) = false) := by
                    show _ = _
                    rw [HP2.out, HP1.out]
                    rcases HST.out.u xq with h | h
                    · rw [h]; simp
                    · exact absurd h.2.1 hk4
                  clear hk4 hE0
                  have hb1 := Below.refl wq.heap.size wq
                  have HXQ : Hid (∀ W, Below wq.heap.size wq W → W.cell? ⟨b, o + q * 8 + 3, none⟩ = some (.int .i64 xq)) := fun W k => HXQ0.out W (HRZ.out.be k).v.below
                  have HXI : Hid (∀ W, Below wq.heap.size wq W → W.cell? ⟨b, o + i * 8 + 3, none⟩ = some (.int .i64 ix)) := fun W k => HCX0.out W (HRZ.out.be k).v.below
                  refine wp_named fun a0 ha0 => ?_
                  have hsz : a0.tmps.size = 181 := by rw [ha0]; rfl
                  have zs0 : a0.eval (.tmp 0) = .slice (some ⟨b, o, none⟩) N c0 := by rw [ha0]; rfl
                  have zs5 : a0.eval (.tmp 5) = .int .i64 (i : Int) := by rw [ha0]; rfl
                  have zs10 : a0.eval (.tmp 10) = .int .i64 E := by rw [ha0]; rfl
                  have zs12 : a0.eval (.tmp 12) = .int .i64 k := by rw [ha0]; rfl
                  have zs13 : a0.eval (.tmp 13) = .int .i64 (q : Int) := by rw [ha0]; rfl
                  obtain ⟨D, hD⟩ : ∃ D : List (Tmp × SP), D = [(83, SP.is (.int .i64 E)), (84, SP.is (.bool true)), (85, SP.is (.bool true)), (86, SP.is (.int .i64 k)), (87, SP.is (.bool false)), (88, SP.is (.bool false)), (89, SP.is (.bool false)), (90, SP.is (undef)), (91, SP.is (undef)), (92, SP.is (undef)), (93, SP.is (undef)), (94, SP.is (undef)), (95, SP.is (undef)), (96, SP.is (undef)), (97, SP.is (undef)), (98, SP.is (undef)), (99, SP.is (undef)), (100, SP.is (undef)), (101, SP.is (.bool false)), (14, SP.is (.bool false))] := ⟨_, rfl⟩
                  refine wp_region_down (by kernel_rfl) (fun listed ac W => listed.size = 20 ∧ Fp D a0 listed ac W ∧ Below wq.heap.size wq W) ?_ ?_ ?_
                  · exact ⟨by simp, Fp.start D a0 _ _, Below.drew hb1⟩
                  · clear ha0 hb1  
                    intro listed ac W k hI hdn hk
                    obtain ⟨hl, hF, hb1⟩ := hI
                    have hk1 : k < 20 := List.mem_range.1 (List.mem_filter.1 hk).1
                    have hl2 : ∀ j, (listed.setIfInBounds j true).size = 20 := fun j => by rw [Array.size_setIfInBounds]; exact hl
                    rcases (show k = 0 ∨ k = 1 ∨ k = 2 ∨ k = 3 ∨ k = 4 ∨ k = 5 ∨ k = 6 ∨ k = 7 ∨ k = 8 ∨ k = 9 ∨ k = 10 ∨ k = 11 ∨ k = 12 ∨ k = 13 ∨ k = 14 ∨ k = 15 ∨ k = 16 ∨ k = 17 ∨ k = 18 ∨ k = 19 by omega) with rfl | rfl | rfl | rfl | rfl | rfl | rfl | rfl | rfl | rfl | rfl | rfl | rfl | rfl | rfl | rfl | rfl | rfl | rfl | rfl
                    · have hk3 := hk
                      exact wpOp_plain rfl rfl (wp_move_v (ac.eval (.tmp 10)) rfl rfl ⟨hl2 0, (hF.put 0 83 (SP.is (.int .i64 E)) (ac.eval (.tmp 10)) (by rw [hD]; rfl) (((hF.keep 10 (by rw [hD]; rfl)).trans zs10)) (by rw [hD]; rfl) (by rw [hsz]; decide) (by rw [hl]; decide)), hb1⟩)
                    · have hk3 := hk
                      have ea := (hF.done 0 (83, SP.is (.int .i64 E)) (by rw [hD]; rfl) (ready_dep hk 0 (by kernel_rfl)))
                      exact wpOp_plain rfl rfl (wpR_eqIb rfl E 0 true HEB.out ea rfl ⟨hl2 1, (hF.put 1 84 (SP.is (.bool true)) (.bool true) (by rw [hD]; rfl) rfl (by rw [hD]; rfl) (by rw [hsz]; decide) (by rw [hl]; decide)), hb1⟩)
                    · have hk3 := hk
                      exact wpOp_plain rfl rfl (wp_move_v (ac.eval (.tmp 84)) rfl rfl ⟨hl2 2, (hF.put 2 85 (SP.is (.bool true)) (ac.eval (.tmp 84)) (by rw [hD]; rfl) ((hF.done 1 (84, SP.is (.bool true)) (by rw [hD]; rfl) (ready_dep hk 1 (by kernel_rfl)))) (by rw [hD]; rfl) (by rw [hsz]; decide) (by rw [hl]; decide)), hb1⟩)
                    · have hk3 := hk
                      exact wpOp_wanted rfl (wanted_g (g := 2) (b := true) rfl rfl (hF.done 2 (85, SP.is (.bool true)) (by rw [hD]; rfl) (ready_dep hk 2 (by kernel_rfl))) (by rw [hF.size, hsz]; decide)) (wp_move_v (ac.eval (.tmp 12)) rfl rfl ⟨hl2 3, (hF.put 3 86 (SP.is (.int .i64 k)) (ac.eval (.tmp 12)) (by rw [hD]; rfl) (((hF.keep 12 (by rw [hD]; rfl)).trans zs12)) (by rw [hD]; rfl) (by rw [hsz]; decide) (by rw [hl]; decide)), hb1⟩)
                    · have hk3 := hk
                      have ea := (hF.done 3 (86, SP.is (.int .i64 k)) (by rw [hD]; rfl) (ready_dep hk 3 (by kernel_rfl)))
                      exact wpOp_wanted rfl (wanted_g (g := 2) (b := true) rfl rfl (hF.done 2 (85, SP.is (.bool true)) (by rw [hD]; rfl) (ready_dep hk 2 (by kernel_rfl))) (by rw [hF.size, hsz]; decide)) (wpR_eqIb rfl k 4 false HK4.out ea rfl ⟨hl2 4, (hF.put 4 87 (SP.is (.bool false)) (.bool false) (by rw [hD]; rfl) rfl (by rw [hD]; rfl) (by rw [hsz]; decide) (by rw [hl]; decide)), hb1⟩)
                    · have hk3 := hk
                      have ea := (hF.done 2 (85, SP.is (.bool true)) (by rw [hD]; rfl) (ready_dep hk 2 (by kernel_rfl)))
                      have eb := (hF.done 4 (87, SP.is (.bool false)) (by rw [hD]; rfl) (ready_dep hk 4 (by kernel_rfl)))
                      exact wpOp_plain rfl rfl (wpR_pickT (.bool false) rfl ea eb ⟨hl2 5, (hF.put 5 88 (SP.is (.bool false)) (.bool false) (by rw [hD]; rfl) rfl (by rw [hD]; rfl) (by rw [hsz]; decide) (by rw [hl]; decide)), hb1⟩)
                    · have hk3 := hk
                      exact wpOp_plain rfl rfl (wp_move_v (ac.eval (.tmp 88)) rfl rfl ⟨hl2 6, (hF.put 6 89 (SP.is (.bool false)) (ac.eval (.tmp 88)) (by rw [hD]; rfl) ((hF.done 5 (88, SP.is (.bool false)) (by rw [hD]; rfl) (ready_dep hk 5 (by kernel_rfl)))) (by rw [hD]; rfl) (by rw [hsz]; decide) (by rw [hl]; decide)), hb1⟩)
                    · have hk3 := hk
                      exact wpOp_off rfl (unwanted_g (g := 6) (b := true) rfl rfl (hF.done 6 (89, SP.is (.bool false)) (by rw [hD]; rfl) (ready_dep hk 6 (by kernel_rfl))) (by rw [hF.size, hsz]; decide)) ⟨hl2 7, (hF.put 7 90 (SP.is (undef)) undef (by rw [hD]; rfl) rfl (by rw [hD]; rfl) (by rw [hsz]; decide) (by rw [hl]; decide)), hb1⟩
                    · have hk3 := hk
                      exact wpOp_off rfl (unwanted_g (g := 6) (b := true) rfl rfl (hF.done 6 (89, SP.is (.bool false)) (by rw [hD]; rfl) (ready_dep hk 6 (by kernel_rfl))) (by rw [hF.size, hsz]; decide)) ⟨hl2 8, (hF.put 8 91 (SP.is (undef)) undef (by rw [hD]; rfl) rfl (by rw [hD]; rfl) (by rw [hsz]; decide) (by rw [hl]; decide)), hb1⟩
                    · have hk3 := hk
                      exact wpOp_off rfl (unwanted_g (g := 6) (b := true) rfl rfl (hF.done 6 (89, SP.is (.bool false)) (by rw [hD]; rfl) (ready_dep hk 6 (by kernel_rfl))) (by rw [hF.size, hsz]; decide)) ⟨hl2 9, (hF.put 9 92 (SP.is (undef)) undef (by rw [hD]; rfl) rfl (by rw [hD]; rfl) (by rw [hsz]; decide) (by rw [hl]; decide)), hb1⟩
                    · have hk3 := hk
                      exact wpOp_off rfl (unwanted_g (g := 6) (b := true) rfl rfl (hF.done 6 (89, SP.is (.bool false)) (by rw [hD]; rfl) (ready_dep hk 6 (by kernel_rfl))) (by rw [hF.size, hsz]; decide)) ⟨hl2 10, (hF.put 10 93 (SP.is (undef)) undef (by rw [hD]; rfl) rfl (by rw [hD]; rfl) (by rw [hsz]; decide) (by rw [hl]; decide)), hb1⟩
                    · have hk3 := hk
                      exact wpOp_off rfl (unwanted_g (g := 6) (b := true) rfl rfl (hF.done 6 (89, SP.is (.bool false)) (by rw [hD]; rfl) (ready_dep hk 6 (by kernel_rfl))) (by rw [hF.size, hsz]; decide)) ⟨hl2 11, (hF.put 11 94 (SP.is (undef)) undef (by rw [hD]; rfl) rfl (by rw [hD]; rfl) (by rw [hsz]; decide) (by rw [hl]; decide)), hb1⟩
                    · have hk3 := hk
                      exact wpOp_off rfl (unwanted_g (g := 6) (b := true) rfl rfl (hF.done 6 (89, SP.is (.bool false)) (by rw [hD]; rfl) (ready_dep hk 6 (by kernel_rfl))) (by rw [hF.size, hsz]; decide)) ⟨hl2 12, (hF.put 12 95 (SP.is (undef)) undef (by rw [hD]; rfl) rfl (by rw [hD]; rfl) (by rw [hsz]; decide) (by rw [hl]; decide)), hb1⟩
                    · have hk3 := hk
                      exact wpOp_off rfl (unwanted_g (g := 6) (b := true) rfl rfl (hF.done 6 (89, SP.is (.bool false)) (by rw [hD]; rfl) (ready_dep hk 6 (by kernel_rfl))) (by rw [hF.size, hsz]; decide)) ⟨hl2 13, (hF.put 13 96 (SP.is (undef)) undef (by rw [hD]; rfl) rfl (by rw [hD]; rfl) (by rw [hsz]; decide) (by rw [hl]; decide)), hb1⟩
                    · have hk3 := hk
                      exact wpOp_off rfl (unwanted_g (g := 6) (b := true) rfl rfl (hF.done 6 (89, SP.is (.bool false)) (by rw [hD]; rfl) (ready_dep hk 6 (by kernel_rfl))) (by rw [hF.size, hsz]; decide)) ⟨hl2 14, (hF.put 14 97 (SP.is (undef)) undef (by rw [hD]; rfl) rfl (by rw [hD]; rfl) (by rw [hsz]; decide) (by rw [hl]; decide)), hb1⟩
                    · have hk3 := hk
                      exact wpOp_off rfl (unwanted_g (g := 6) (b := true) rfl rfl (hF.done 6 (89, SP.is (.bool false)) (by rw [hD]; rfl) (ready_dep hk 6 (by kernel_rfl))) (by rw [hF.size, hsz]; decide)) ⟨hl2 15, (hF.put 15 98 (SP.is (undef)) undef (by rw [hD]; rfl) rfl (by rw [hD]; rfl) (by rw [hsz]; decide) (by rw [hl]; decide)), hb1⟩
                    · have hk3 := hk
                      exact wpOp_off rfl (unwanted_g (g := 6) (b := true) rfl rfl (hF.done 6 (89, SP.is (.bool false)) (by rw [hD]; rfl) (ready_dep hk 6 (by kernel_rfl))) (by rw [hF.size, hsz]; decide)) ⟨hl2 16, (hF.put 16 99 (SP.is (undef)) undef (by rw [hD]; rfl) rfl (by rw [hD]; rfl) (by rw [hsz]; decide) (by rw [hl]; decide)), hb1⟩
                    · have hk3 := hk
                      exact wpOp_off rfl (unwanted_g (g := 6) (b := true) rfl rfl (hF.done 6 (89, SP.is (.bool false)) (by rw [hD]; rfl) (ready_dep hk 6 (by kernel_rfl))) (by rw [hF.size, hsz]; decide)) ⟨hl2 17, (hF.put 17 100 (SP.is (undef)) undef (by rw [hD]; rfl) rfl (by rw [hD]; rfl) (by rw [hsz]; decide) (by rw [hl]; decide)), hb1⟩
                    · have hk3 := hk
                      have ea := (hF.done 6 (89, SP.is (.bool false)) (by rw [hD]; rfl) (ready_dep hk 6 (by kernel_rfl)))
                      exact wpOp_plain rfl rfl (wpR_pickF (.bool false) rfl ea rfl ⟨hl2 18, (hF.put 18 101 (SP.is (.bool false)) (.bool false) (by rw [hD]; rfl) rfl (by rw [hD]; rfl) (by rw [hsz]; decide) (by rw [hl]; decide)), hb1⟩)
                    · have hk3 := hk
                      exact wpOp_plain rfl rfl (wp_assign_v (ac.eval (.tmp 101)) rfl rfl ⟨hl2 19, (hF.put 19 14 (SP.is (.bool false)) (ac.eval (.tmp 101)) (by rw [hD]; rfl) ((hF.done 18 (101, SP.is (.bool false)) (by rw [hD]; rfl) (ready_dep hk 18 (by kernel_rfl)))) (by rw [hD]; rfl) (by rw [hsz]; decide) (by rw [hl]; decide)), hb1⟩)
                  · clear hb1  
                    intro listed ac W hI hr
                    obtain ⟨hl, hF, hb1⟩ := hI
                    have hall := all_listed (by kernel_rfl) hl hr
                    have h83 : ac.eval (.tmp 83) = .int .i64 E := hF.done 0 (83, SP.is (.int .i64 E)) (by rw [hD]; rfl) (hall 0 (by decide))
                    have h84 : ac.eval (.tmp 84) = .bool true := hF.done 1 (84, SP.is (.bool true)) (by rw [hD]; rfl) (hall 1 (by decide))
                    have h85 : ac.eval (.tmp 85) = .bool true := hF.done 2 (85, SP.is (.bool true)) (by rw [hD]; rfl) (hall 2 (by decide))
                    have h86 : ac.eval (.tmp 86) = .int .i64 k := hF.done 3 (86, SP.is (.int .i64 k)) (by rw [hD]; rfl) (hall 3 (by decide))
                    have h87 : ac.eval (.tmp 87) = .bool false := hF.done 4 (87, SP.is (.bool false)) (by rw [hD]; rfl) (hall 4 (by decide))
                    have h88 : ac.eval (.tmp 88) = .bool false := hF.done 5 (88, SP.is (.bool false)) (by rw [hD]; rfl) (hall 5 (by decide))
                    have h89 : ac.eval (.tmp 89) = .bool false := hF.done 6 (89, SP.is (.bool false)) (by rw [hD]; rfl) (hall 6 (by decide))
                    have h90 : ac.eval (.tmp 90) = undef := hF.done 7 (90, SP.is (undef)) (by rw [hD]; rfl) (hall 7 (by decide))
                    have h91 : ac.eval (.tmp 91) = undef := hF.done 8 (91, SP.is (undef)) (by rw [hD]; rfl) (hall 8 (by decide))
                    have h92 : ac.eval (.tmp 92) = undef := hF.done 9 (92, SP.is (undef)) (by rw [hD]; rfl) (hall 9 (by decide))
                    have h93 : ac.eval (.tmp 93) = undef := hF.done 10 (93, SP.is (undef)) (by rw [hD]; rfl) (hall 10 (by decide))
                    have h94 : ac.eval (.tmp 94) = undef := hF.done 11 (94, SP.is (undef)) (by rw [hD]; rfl) (hall 11 (by decide))
                    have h95 : ac.eval (.tmp 95) = undef := hF.done 12 (95, SP.is (undef)) (by rw [hD]; rfl) (hall 12 (by decide))
                    have h96 : ac.eval (.tmp 96) = undef := hF.done 13 (96, SP.is (undef)) (by rw [hD]; rfl) (hall 13 (by decide))
                    have h97 : ac.eval (.tmp 97) = undef := hF.done 14 (97, SP.is (undef)) (by rw [hD]; rfl) (hall 14 (by decide))
                    have h98 : ac.eval (.tmp 98) = undef := hF.done 15 (98, SP.is (undef)) (by rw [hD]; rfl) (hall 15 (by decide))
                    have h99 : ac.eval (.tmp 99) = undef := hF.done 16 (99, SP.is (undef)) (by rw [hD]; rfl) (hall 16 (by decide))
                    have h100 : ac.eval (.tmp 100) = undef := hF.done 17 (100, SP.is (undef)) (by rw [hD]; rfl) (hall 17 (by decide))
                    have h101 : ac.eval (.tmp 101) = .bool false := hF.done 18 (101, SP.is (.bool false)) (by rw [hD]; rfl) (hall 18 (by decide))
                    have h14 : ac.eval (.tmp 14) = .bool false := hF.done 19 (14, SP.is (.bool false)) (by rw [hD]; rfl) (hall 19 (by decide))
                    have ea := hF.lay [(83, .int .i64 E), (84, .bool true), (85, .bool true), (86, .int .i64 k), (87, .bool false), (88, .bool false), (89, .bool false), (90, undef), (91, undef), (92, undef), (93, undef), (94, undef), (95, undef), (96, undef), (97, undef), (98, undef), (99, undef), (100, undef), (101, .bool false), (14, .bool false)] (by rw [hD, hsz]; rfl) (by simp only [List.forall_mem_cons, List.not_mem_nil, false_implies, implies_true, and_true]; exact ⟨h83, h84, h85, h86, h87, h88, h89, h90, h91, h92, h93, h94, h95, h96, h97, h98, h99, h100, h101, h14⟩)
                    rw [ha0] at ea
                    simp only [List.foldl_cons, List.foldl_nil, List.setIfInBounds_toArray, List.set_cons_zero, List.set_cons_succ] at ea
                    clear hF hall hr hl hD  zs0 zs5 zs10 zs12 zs13 ha0 hsz h83 h84 h85 h86 h87 h88 h89 h90 h91 h92 h93 h94 h95 h96 h97 h98 h99 h100 h101 h14
                    subst ea
                    obtain ⟨wq3, hw3⟩ : ∃ V, V = W := ⟨_, rfl⟩
                    rw [← hw3] at hb1 ⊢
                    clear hw3 HXQ HXI
                    have HRZ3 : Hid (Rb w wq3 p (c + 2) s2 b6 LS (.slice (some ⟨g7, 0, none⟩) J c7) J (pbs s (l.take J))) := HRZ.out.be hb1
                    have HB3q : Hid (Below Z.heap.size Z wq3) := HBQ.out.trans (hb1.mono HBQ.out.size)
                    replace hb1 := Below.refl wq3.heap.size wq3
                    have HXQ : Hid (∀ W, Below wq3.heap.size wq3 W → W.cell? ⟨b, o + q * 8 + 3, none⟩ = some (.int .i64 xq)) := fun W k => HXQ0.out W (HRZ3.out.be k).v.below
                    have HPD : Hid (∀ W, Below wq3.heap.size wq3 W → Calls Try.prog 21 #[.pointer (some ⟨p, 0, none⟩), .int .i64 xq] W fun e w' => e = .returned (.bool P2) ∧ Below W.heap.size W w') := fun W k => by rw [HP2.out]; exact vlP (HRZ3.out.be k).v xq HXO.out
                    have HC7 : Hid (∀ W, Below wq3.heap.size wq3 W → W.cell? ⟨g7, 0 + q * 1, none⟩ = some (.bool P1)) := fun W k => HC70.out W (HRZ3.out.be k).l
                    go_upto_region 23 with fail
                    refine wp_named fun a0 ha0 => ?_
                    have hsz : a0.tmps.size = 181 := by rw [ha0]; rfl
                    have zs0 : a0.eval (.tmp 0) = .slice (some ⟨b, o, none⟩) N c0 := by rw [ha0]; rfl
                    have zs4 : a0.eval (.tmp 4) = .pointer (some ⟨p, 0, none⟩) := by rw [ha0]; rfl
                    have zs7 : a0.eval (.tmp 7) = .slice (some ⟨g7, 0, none⟩) J c7 := by rw [ha0]; rfl
                    have zs13 : a0.eval (.tmp 13) = .int .i64 (q : Int) := by rw [ha0]; rfl
                    have zs14 : a0.eval (.tmp 14) = .bool false := by rw [ha0]; rfl
                    obtain ⟨D, hD⟩ : ∃ D : List (Tmp × SP), D = [(102, SP.is (.pointer (some ⟨p, 0, none⟩))), (103, SP.is (.slice (some ⟨b, o, none⟩) N c0)), (104, SP.is (.int .i64 (q : Int))), (105, SP.is (.pointer (some ⟨b, o + q * 8, none⟩))), (106, SP.is (.pointer (some ⟨b, o + q * 8 + 3, none⟩))), (107, SP.is (.int .i64 xq)), (108, SP.is (.bool P2)), (109, SP.is (.slice (some ⟨g7, 0, none⟩) J c7)), (110, SP.is (.int .i64 (q : Int))), (111, SP.is (.pointer (some ⟨g7, 0 + q * 1, none⟩))), (112, SP.is (.bool P1)), (113, SP.is (.bool false)), (114, SP.is (.bool false)), (115, SP.is (undef)), (116, SP.is (undef)), (117, SP.is (.bool false))] := ⟨_, rfl⟩
                    refine wp_region_down (by kernel_rfl) (fun listed ac W => listed.size = 16 ∧ Fp D a0 listed ac W ∧ Below wq3.heap.size wq3 W) ?_ ?_ ?_
                    · exact ⟨by simp, Fp.start D a0 _ _, Below.drew hb1⟩
                    · clear ha0 hb1  
                      intro listed ac W k hI hdn hk
                      obtain ⟨hl, hF, hb1⟩ := hI
                      have hk1 : k < 16 := List.mem_range.1 (List.mem_filter.1 hk).1
                      have hl2 : ∀ j, (listed.setIfInBounds j true).size = 16 := fun j => by rw [Array.size_setIfInBounds]; exact hl
                      rcases (show k = 0 ∨ k = 1 ∨ k = 2 ∨ k = 3 ∨ k = 4 ∨ k = 5 ∨ k = 6 ∨ k = 7 ∨ k = 8 ∨ k = 9 ∨ k = 10 ∨ k = 11 ∨ k = 12 ∨ k = 13 ∨ k = 14 ∨ k = 15 by omega) with rfl | rfl | rfl | rfl | rfl | rfl | rfl | rfl | rfl | rfl | rfl | rfl | rfl | rfl | rfl | rfl
                      · have hk3 := hk
                        exact wpOp_plain rfl rfl (wp_move_v (ac.eval (.tmp 4)) rfl rfl ⟨hl2 0, (hF.put 0 102 (SP.is (.pointer (some ⟨p, 0, none⟩))) (ac.eval (.tmp 4)) (by rw [hD]; rfl) (((hF.keep 4 (by rw [hD]; rfl)).trans zs4)) (by rw [hD]; rfl) (by rw [hsz]; decide) (by rw [hl]; decide)), hb1⟩)
                      · have hk3 := hk
                        exact wpOp_plain rfl rfl (wp_move_v (ac.eval (.tmp 0)) rfl rfl ⟨hl2 1, (hF.put 1 103 (SP.is (.slice (some ⟨b, o, none⟩) N c0)) (ac.eval (.tmp 0)) (by rw [hD]; rfl) (((hF.keep 0 (by rw [hD]; rfl)).trans zs0)) (by rw [hD]; rfl) (by rw [hsz]; decide) (by rw [hl]; decide)), hb1⟩)
                      · have hk3 := hk
                        exact wpOp_plain rfl rfl (wp_move_v (ac.eval (.tmp 13)) rfl rfl ⟨hl2 2, (hF.put 2 104 (SP.is (.int .i64 (q : Int))) (ac.eval (.tmp 13)) (by rw [hD]; rfl) (((hF.keep 13 (by rw [hD]; rfl)).trans zs13)) (by rw [hD]; rfl) (by rw [hsz]; decide) (by rw [hl]; decide)), hb1⟩)
                      · have hk3 := hk
                        have ea := (hF.done 1 (103, SP.is (.slice (some ⟨b, o, none⟩) N c0)) (by rw [hD]; rfl) (ready_dep hk 1 (by kernel_rfl)))
                        have eb := (hF.done 2 (104, SP.is (.int .i64 (q : Int))) (by rw [hD]; rfl) (ready_dep hk 2 (by kernel_rfl)))
                        exact wpOp_plain rfl rfl (wp_ixs 22 35 rfl b o N c0 q 8 ea eb HQN.out und_Ss info_S ⟨hl2 3, (hF.put 3 105 (SP.is (.pointer (some ⟨b, o + q * 8, none⟩))) (.pointer (some ⟨b, o + q * 8, none⟩)) (by rw [hD]; rfl) rfl (by rw [hD]; rfl) (by rw [hsz]; decide) (by rw [hl]; decide)), hb1⟩)
                      · have hk3 := hk
                        have ea := (hF.done 3 (105, SP.is (.pointer (some ⟨b, o + q * 8, none⟩))) (by rw [hD]; rfl) (ready_dep hk 3 (by kernel_rfl)))
                        exact wpOp_plain rfl rfl (wpR_sf3 b (o + q * 8) rfl ea ⟨hl2 4, (hF.put 4 106 (SP.is (.pointer (some ⟨b, o + q * 8 + 3, none⟩))) (.pointer (some ⟨b, o + q * 8 + 3, none⟩)) (by rw [hD]; rfl) rfl (by rw [hD]; rfl) (by rw [hsz]; decide) (by rw [hl]; decide)), hb1⟩)
                      · have hk3 := hk
                        have ea := (hF.done 4 (106, SP.is (.pointer (some ⟨b, o + q * 8 + 3, none⟩))) (by rw [hD]; rfl) (ready_dep hk 4 (by kernel_rfl)))
                        exact wpOp_plain rfl rfl (wp_load_1 b (o + q * 8 + 3) (.int .i64 xq) rfl ea (run_load_in W b (o + q * 8 + 3) (.int .i64 xq) (HXQ.out W hb1)) ⟨hl2 5, (hF.put 5 107 (SP.is (.int .i64 xq)) (.int .i64 xq) (by rw [hD]; rfl) rfl (by rw [hD]; rfl) (by rw [hsz]; decide) (by rw [hl]; decide)), hb1⟩)
                      · have hk3 := hk
                        have ea := (hF.done 0 (102, SP.is (.pointer (some ⟨p, 0, none⟩))) (by rw [hD]; rfl) (ready_dep hk 0 (by kernel_rfl)))
                        have eb := (hF.done 5 (107, SP.is (.int .i64 xq)) (by rw [hD]; rfl) (ready_dep hk 5 (by kernel_rfl)))
                        refine wpOp_plain rfl rfl (wp_fcall_v 21 #[.pointer (some ⟨p, 0, none⟩), .int .i64 xq] rfl rfl (by show [ac.eval (.tmp 102), ac.eval (.tmp 107)] = _; rw [show ac.eval (.tmp 102) = _ from ea, show ac.eval (.tmp 107) = _ from eb]) (by go_simp) ((HPD.out W hb1).mono ?_))
                        rintro e W2 ⟨rfl, hB⟩
                        exact ⟨_, rfl, hl2 6, ((hF.world hB).put 6 108 (SP.is (.bool P2)) (.bool P2) (by rw [hD]; rfl) rfl (by rw [hD]; rfl) (by rw [hsz]; decide) (by rw [hl]; decide)), hb1.trans (hB.mono hb1.size)⟩
                      · have hk3 := hk
                        exact wpOp_plain rfl rfl (wp_move_v (ac.eval (.tmp 7)) rfl rfl ⟨hl2 7, (hF.put 7 109 (SP.is (.slice (some ⟨g7, 0, none⟩) J c7)) (ac.eval (.tmp 7)) (by rw [hD]; rfl) (((hF.keep 7 (by rw [hD]; rfl)).trans zs7)) (by rw [hD]; rfl) (by rw [hsz]; decide) (by rw [hl]; decide)), hb1⟩)
                      · have hk3 := hk
                        exact wpOp_plain rfl rfl (wp_move_v (ac.eval (.tmp 13)) rfl rfl ⟨hl2 8, (hF.put 8 110 (SP.is (.int .i64 (q : Int))) (ac.eval (.tmp 13)) (by rw [hD]; rfl) (((hF.keep 13 (by rw [hD]; rfl)).trans zs13)) (by rw [hD]; rfl) (by rw [hsz]; decide) (by rw [hl]; decide)), hb1⟩)
                      · have hk3 := hk
                        have ea := (hF.done 7 (109, SP.is (.slice (some ⟨g7, 0, none⟩) J c7)) (by rw [hD]; rfl) (ready_dep hk 7 (by kernel_rfl)))
                        have eb := (hF.done 8 (110, SP.is (.int .i64 (q : Int))) (by rw [hD]; rfl) (ready_dep hk 8 (by kernel_rfl)))
                        exact wpOp_plain rfl rfl (wp_ixs tLB tBo rfl g7 0 J c7 q 1 ea eb HQJ.out und_LB bo_info ⟨hl2 9, (hF.put 9 111 (SP.is (.pointer (some ⟨g7, 0 + q * 1, none⟩))) (.pointer (some ⟨g7, 0 + q * 1, none⟩)) (by rw [hD]; rfl) rfl (by rw [hD]; rfl) (by rw [hsz]; decide) (by rw [hl]; decide)), hb1⟩)
                      · have hk3 := hk
                        have ea := (hF.done 9 (111, SP.is (.pointer (some ⟨g7, 0 + q * 1, none⟩))) (by rw [hD]; rfl) (ready_dep hk 9 (by kernel_rfl)))
                        exact wpOp_plain rfl rfl (wp_load_1 g7 (0 + q * 1) (.bool P1) rfl ea (ldBo W g7 (0 + q * 1) (.bool P1) (HC7.out W hb1)) ⟨hl2 10, (hF.put 10 112 (SP.is (.bool P1)) (.bool P1) (by rw [hD]; rfl) rfl (by rw [hD]; rfl) (by rw [hsz]; decide) (by rw [hl]; decide)), hb1⟩)
                      · have hk3 := hk
                        have ea := (hF.done 6 (108, SP.is (.bool P2)) (by rw [hD]; rfl) (ready_dep hk 6 (by kernel_rfl)))
                        have eb := (hF.done 10 (112, SP.is (.bool P1)) (by rw [hD]; rfl) (ready_dep hk 10 (by kernel_rfl)))
                        exact wpOp_plain rfl rfl (wpR_neBb rfl P2 P1 false HDB.out ea eb ⟨hl2 11, (hF.put 11 113 (SP.is (.bool false)) (.bool false) (by rw [hD]; rfl) rfl (by rw [hD]; rfl) (by rw [hsz]; decide) (by rw [hl]; decide)), hb1⟩)
                      · have hk3 := hk
                        exact wpOp_plain rfl rfl (wp_move_v (ac.eval (.tmp 113)) rfl rfl ⟨hl2 12, (hF.put 12 114 (SP.is (.bool false)) (ac.eval (.tmp 113)) (by rw [hD]; rfl) ((hF.done 11 (113, SP.is (.bool false)) (by rw [hD]; rfl) (ready_dep hk 11 (by kernel_rfl)))) (by rw [hD]; rfl) (by rw [hsz]; decide) (by rw [hl]; decide)), hb1⟩)
                      · have hk3 := hk
                        exact wpOp_off rfl (unwanted_g (g := 12) (b := true) rfl rfl (hF.done 12 (114, SP.is (.bool false)) (by rw [hD]; rfl) (ready_dep hk 12 (by kernel_rfl))) (by rw [hF.size, hsz]; decide)) ⟨hl2 13, (hF.put 13 115 (SP.is (undef)) undef (by rw [hD]; rfl) rfl (by rw [hD]; rfl) (by rw [hsz]; decide) (by rw [hl]; decide)), hb1⟩
                      · have hk3 := hk
                        exact wpOp_off rfl (unwanted_g (g := 12) (b := true) rfl rfl (hF.done 12 (114, SP.is (.bool false)) (by rw [hD]; rfl) (ready_dep hk 12 (by kernel_rfl))) (by rw [hF.size, hsz]; decide)) ⟨hl2 14, (hF.put 14 116 (SP.is (undef)) undef (by rw [hD]; rfl) rfl (by rw [hD]; rfl) (by rw [hsz]; decide) (by rw [hl]; decide)), hb1⟩
                      · have hk3 := hk
                        have ea := (hF.done 12 (114, SP.is (.bool false)) (by rw [hD]; rfl) (ready_dep hk 12 (by kernel_rfl)))
                        exact wpOp_plain rfl rfl (wpR_pickF (.bool false) rfl ea rfl ⟨hl2 15, (hF.put 15 117 (SP.is (.bool false)) (.bool false) (by rw [hD]; rfl) rfl (by rw [hD]; rfl) (by rw [hsz]; decide) (by rw [hl]; decide)), hb1⟩)
                    · clear hb1  
                      intro listed ac W hI hr
                      obtain ⟨hl, hF, hb1⟩ := hI
                      have hall := all_listed (by kernel_rfl) hl hr
                      have h102 : ac.eval (.tmp 102) = .pointer (some ⟨p, 0, none⟩) := hF.done 0 (102, SP.is (.pointer (some ⟨p, 0, none⟩))) (by rw [hD]; rfl) (hall 0 (by decide))
                      have h103 : ac.eval (.tmp 103) = .slice (some ⟨b, o, none⟩) N c0 := hF.done 1 (103, SP.is (.slice (some ⟨b, o, none⟩) N c0)) (by rw [hD]; rfl) (hall 1 (by decide))
                      have h104 : ac.eval (.tmp 104) = .int .i64 (q : Int) := hF.done 2 (104, SP.is (.int .i64 (q : Int))) (by rw [hD]; rfl) (hall 2 (by decide))
                      have h105 : ac.eval (.tmp 105) = .pointer (some ⟨b, o + q * 8, none⟩) := hF.done 3 (105, SP.is (.pointer (some ⟨b, o + q * 8, none⟩))) (by rw [hD]; rfl) (hall 3 (by decide))
                      have h106 : ac.eval (.tmp 106) = .pointer (some ⟨b, o + q * 8 + 3, none⟩) := hF.done 4 (106, SP.is (.pointer (some ⟨b, o + q * 8 + 3, none⟩))) (by rw [hD]; rfl) (hall 4 (by decide))
                      have h107 : ac.eval (.tmp 107) = .int .i64 xq := hF.done 5 (107, SP.is (.int .i64 xq)) (by rw [hD]; rfl) (hall 5 (by decide))
                      have h108 : ac.eval (.tmp 108) = .bool P2 := hF.done 6 (108, SP.is (.bool P2)) (by rw [hD]; rfl) (hall 6 (by decide))
                      have h109 : ac.eval (.tmp 109) = .slice (some ⟨g7, 0, none⟩) J c7 := hF.done 7 (109, SP.is (.slice (some ⟨g7, 0, none⟩) J c7)) (by rw [hD]; rfl) (hall 7 (by decide))
                      have h110 : ac.eval (.tmp 110) = .int .i64 (q : Int) := hF.done 8 (110, SP.is (.int .i64 (q : Int))) (by rw [hD]; rfl) (hall 8 (by decide))
                      have h111 : ac.eval (.tmp 111) = .pointer (some ⟨g7, 0 + q * 1, none⟩) := hF.done 9 (111, SP.is (.pointer (some ⟨g7, 0 + q * 1, none⟩))) (by rw [hD]; rfl) (hall 9 (by decide))
                      have h112 : ac.eval (.tmp 112) = .bool P1 := hF.done 10 (112, SP.is (.bool P1)) (by rw [hD]; rfl) (hall 10 (by decide))
                      have h113 : ac.eval (.tmp 113) = .bool false := hF.done 11 (113, SP.is (.bool false)) (by rw [hD]; rfl) (hall 11 (by decide))
                      have h114 : ac.eval (.tmp 114) = .bool false := hF.done 12 (114, SP.is (.bool false)) (by rw [hD]; rfl) (hall 12 (by decide))
                      have h115 : ac.eval (.tmp 115) = undef := hF.done 13 (115, SP.is (undef)) (by rw [hD]; rfl) (hall 13 (by decide))
                      have h116 : ac.eval (.tmp 116) = undef := hF.done 14 (116, SP.is (undef)) (by rw [hD]; rfl) (hall 14 (by decide))
                      have h117 : ac.eval (.tmp 117) = .bool false := hF.done 15 (117, SP.is (.bool false)) (by rw [hD]; rfl) (hall 15 (by decide))
                      have ea := hF.lay [(102, .pointer (some ⟨p, 0, none⟩)), (103, .slice (some ⟨b, o, none⟩) N c0), (104, .int .i64 (q : Int)), (105, .pointer (some ⟨b, o + q * 8, none⟩)), (106, .pointer (some ⟨b, o + q * 8 + 3, none⟩)), (107, .int .i64 xq), (108, .bool P2), (109, .slice (some ⟨g7, 0, none⟩) J c7), (110, .int .i64 (q : Int)), (111, .pointer (some ⟨g7, 0 + q * 1, none⟩)), (112, .bool P1), (113, .bool false), (114, .bool false), (115, undef), (116, undef), (117, .bool false)] (by rw [hD, hsz]; rfl) (by simp only [List.forall_mem_cons, List.not_mem_nil, false_implies, implies_true, and_true]; exact ⟨h102, h103, h104, h105, h106, h107, h108, h109, h110, h111, h112, h113, h114, h115, h116, h117⟩)
                      rw [ha0] at ea
                      simp only [List.foldl_cons, List.foldl_nil, List.setIfInBounds_toArray, List.set_cons_zero, List.set_cons_succ] at ea
                      clear hF hall hr hl hD  zs0 zs4 zs7 zs13 zs14 ha0 hsz h102 h103 h104 h105 h106 h107 h108 h109 h110 h111 h112 h113 h114 h115 h116 h117
                      subst ea
                      have HB4q : Hid (Below Z.heap.size Z W) := HB3q.out.trans (hb1.mono HB3q.out.size)
                      clear hb1
                      go_wp2_with fail
                      exact ⟨⟨q + 1, HQJ.out, by go_num, HB4q.out⟩, by simp [intOf]; have := HQJ.out; omega⟩
              · have HEB : Hid ((E == 0) = false) := by show _ = _; simpa using hE0
                have HDB : Hid ((P2 != P1) = false) := by
                  show _ = _
                  rw [HP2.out, HP1.out]
                  rcases HST.out.u xq with h | h
                  · rw [h]; simp
                  · exact absurd h.1 hE0
                clear hE0
                have hb1 := Below.refl wq.heap.size wq
                have HXQ : Hid (∀ W, Below wq.heap.size wq W → W.cell? ⟨b, o + q * 8 + 3, none⟩ = some (.int .i64 xq)) := fun W k => HXQ0.out W (HRZ.out.be k).v.below
                have HXI : Hid (∀ W, Below wq.heap.size wq W → W.cell? ⟨b, o + i * 8 + 3, none⟩ = some (.int .i64 ix)) := fun W k => HCX0.out W (HRZ.out.be k).v.below
                refine wp_named fun a0 ha0 => ?_
                have hsz : a0.tmps.size = 181 := by rw [ha0]; rfl
                have zs0 : a0.eval (.tmp 0) = .slice (some ⟨b, o, none⟩) N c0 := by rw [ha0]; rfl
                have zs5 : a0.eval (.tmp 5) = .int .i64 (i : Int) := by rw [ha0]; rfl
                have zs10 : a0.eval (.tmp 10) = .int .i64 E := by rw [ha0]; rfl
                have zs12 : a0.eval (.tmp 12) = .int .i64 k := by rw [ha0]; rfl
                have zs13 : a0.eval (.tmp 13) = .int .i64 (q : Int) := by rw [ha0]; rfl
                obtain ⟨D, hD⟩ : ∃ D : List (Tmp × SP), D = [(83, SP.is (.int .i64 E)), (84, SP.is (.bool false)), (85, SP.is (.bool false)), (86, SP.is (undef)), (87, SP.is (undef)), (88, SP.is (.bool false)), (89, SP.is (.bool false)), (90, SP.is (undef)), (91, SP.is (undef)), (92, SP.is (undef)), (93, SP.is (undef)), (94, SP.is (undef)), (95, SP.is (undef)), (96, SP.is (undef)), (97, SP.is (undef)), (98, SP.is (undef)), (99, SP.is (undef)), (100, SP.is (undef)), (101, SP.is (.bool false)), (14, SP.is (.bool false))] := ⟨_, rfl⟩
                refine wp_region_down (by kernel_rfl) (fun listed ac W => listed.size = 20 ∧ Fp D a0 listed ac W ∧ Below wq.heap.size wq W) ?_ ?_ ?_
                · exact ⟨by simp, Fp.start D a0 _ _, Below.drew hb1⟩
                · clear ha0 hb1  
                  intro listed ac W k hI hdn hk
                  obtain ⟨hl, hF, hb1⟩ := hI
                  have hk1 : k < 20 := List.mem_range.1 (List.mem_filter.1 hk).1
                  have hl2 : ∀ j, (listed.setIfInBounds j true).size = 20 := fun j => by rw [Array.size_setIfInBounds]; exact hl
                  rcases (show k = 0 ∨ k = 1 ∨ k = 2 ∨ k = 3 ∨ k = 4 ∨ k = 5 ∨ k = 6 ∨ k = 7 ∨ k = 8 ∨ k = 9 ∨ k = 10 ∨ k = 11 ∨ k = 12 ∨ k = 13 ∨ k = 14 ∨ k = 15 ∨ k = 16 ∨ k = 17 ∨ k = 18 ∨ k = 19 by omega) with rfl | rfl | rfl | rfl | rfl | rfl | rfl | rfl | rfl | rfl | rfl | rfl | rfl | rfl | rfl | rfl | rfl | rfl | rfl | rfl
                  · have hk3 := hk
                    exact wpOp_plain rfl rfl (wp_move_v (ac.eval (.tmp 10)) rfl rfl ⟨hl2 0, (hF.put 0 83 (SP.is (.int .i64 E)) (ac.eval (.tmp 10)) (by rw [hD]; rfl) (((hF.keep 10 (by rw [hD]; rfl)).trans zs10)) (by rw [hD]; rfl) (by rw [hsz]; decide) (by rw [hl]; decide)), hb1⟩)
                  · have hk3 := hk
                    have ea := (hF.done 0 (83, SP.is (.int .i64 E)) (by rw [hD]; rfl) (ready_dep hk 0 (by kernel_rfl)))
                    exact wpOp_plain rfl rfl (wpR_eqIb rfl E 0 false HEB.out ea rfl ⟨hl2 1, (hF.put 1 84 (SP.is (.bool false)) (.bool false) (by rw [hD]; rfl) rfl (by rw [hD]; rfl) (by rw [hsz]; decide) (by rw [hl]; decide)), hb1⟩)
                  · have hk3 := hk
                    exact wpOp_plain rfl rfl (wp_move_v (ac.eval (.tmp 84)) rfl rfl ⟨hl2 2, (hF.put 2 85 (SP.is (.bool false)) (ac.eval (.tmp 84)) (by rw [hD]; rfl) ((hF.done 1 (84, SP.is (.bool false)) (by rw [hD]; rfl) (ready_dep hk 1 (by kernel_rfl)))) (by rw [hD]; rfl) (by rw [hsz]; decide) (by rw [hl]; decide)), hb1⟩)
                  · have hk3 := hk
                    exact wpOp_off rfl (unwanted_g (g := 2) (b := true) rfl rfl (hF.done 2 (85, SP.is (.bool false)) (by rw [hD]; rfl) (ready_dep hk 2 (by kernel_rfl))) (by rw [hF.size, hsz]; decide)) ⟨hl2 3, (hF.put 3 86 (SP.is (undef)) undef (by rw [hD]; rfl) rfl (by rw [hD]; rfl) (by rw [hsz]; decide) (by rw [hl]; decide)), hb1⟩
                  · have hk3 := hk
                    exact wpOp_off rfl (unwanted_g (g := 2) (b := true) rfl rfl (hF.done 2 (85, SP.is (.bool false)) (by rw [hD]; rfl) (ready_dep hk 2 (by kernel_rfl))) (by rw [hF.size, hsz]; decide)) ⟨hl2 4, (hF.put 4 87 (SP.is (undef)) undef (by rw [hD]; rfl) rfl (by rw [hD]; rfl) (by rw [hsz]; decide) (by rw [hl]; decide)), hb1⟩
                  · have hk3 := hk
                    have ea := (hF.done 2 (85, SP.is (.bool false)) (by rw [hD]; rfl) (ready_dep hk 2 (by kernel_rfl)))
                    exact wpOp_plain rfl rfl (wpR_pickF (.bool false) rfl ea rfl ⟨hl2 5, (hF.put 5 88 (SP.is (.bool false)) (.bool false) (by rw [hD]; rfl) rfl (by rw [hD]; rfl) (by rw [hsz]; decide) (by rw [hl]; decide)), hb1⟩)
                  · have hk3 := hk
                    exact wpOp_plain rfl rfl (wp_move_v (ac.eval (.tmp 88)) rfl rfl ⟨hl2 6, (hF.put 6 89 (SP.is (.bool false)) (ac.eval (.tmp 88)) (by rw [hD]; rfl) ((hF.done 5 (88, SP.is (.bool false)) (by rw [hD]; rfl) (ready_dep hk 5 (by kernel_rfl)))) (by rw [hD]; rfl) (by rw [hsz]; decide) (by rw [hl]; decide)), hb1⟩)
                  · have hk3 := hk
                    exact wpOp_off rfl (unwanted_g (g := 6) (b := true) rfl rfl (hF.done 6 (89, SP.is (.bool false)) (by rw [hD]; rfl) (ready_dep hk 6 (by kernel_rfl))) (by rw [hF.size, hsz]; decide)) ⟨hl2 7, (hF.put 7 90 (SP.is (undef)) undef (by rw [hD]; rfl) rfl (by rw [hD]; rfl) (by rw [hsz]; decide) (by rw [hl]; decide)), hb1⟩
                  · have hk3 := hk
                    exact wpOp_off rfl (unwanted_g (g := 6) (b := true) rfl rfl (hF.done 6 (89, SP.is (.bool false)) (by rw [hD]; rfl) (ready_dep hk 6 (by kernel_rfl))) (by rw [hF.size, hsz]; decide)) ⟨hl2 8, (hF.put 8 91 (SP.is (undef)) undef (by rw [hD]; rfl) rfl (by rw [hD]; rfl) (by rw [hsz]; decide) (by rw [hl]; decide)), hb1⟩
                  · have hk3 := hk
                    exact wpOp_off rfl (unwanted_g (g := 6) (b := true) rfl rfl (hF.done 6 (89, SP.is (.bool false)) (by rw [hD]; rfl) (ready_dep hk 6 (by kernel_rfl))) (by rw [hF.size, hsz]; decide)) ⟨hl2 9, (hF.put 9 92 (SP.is (undef)) undef (by rw [hD]; rfl) rfl (by rw [hD]; rfl) (by rw [hsz]; decide) (by rw [hl]; decide)), hb1⟩
                  · have hk3 := hk
                    exact wpOp_off rfl (unwanted_g (g := 6) (b := true) rfl rfl (hF.done 6 (89, SP.is (.bool false)) (by rw [hD]; rfl) (ready_dep hk 6 (by kernel_rfl))) (by rw [hF.size, hsz]; decide)) ⟨hl2 10, (hF.put 10 93 (SP.is (undef)) undef (by rw [hD]; rfl) rfl (by rw [hD]; rfl) (by rw [hsz]; decide) (by rw [hl]; decide)), hb1⟩
                  · have hk3 := hk
                    exact wpOp_off rfl (unwanted_g (g := 6) (b := true) rfl rfl (hF.done 6 (89, SP.is (.bool false)) (by rw [hD]; rfl) (ready_dep hk 6 (by kernel_rfl))) (by rw [hF.size, hsz]; decide)) ⟨hl2 11, (hF.put 11 94 (SP.is (undef)) undef (by rw [hD]; rfl) rfl (by rw [hD]; rfl) (by rw [hsz]; decide) (by rw [hl]; decide)), hb1⟩
                  · have hk3 := hk
                    exact wpOp_off rfl (unwanted_g (g := 6) (b := true) rfl rfl (hF.done 6 (89, SP.is (.bool false)) (by rw [hD]; rfl) (ready_dep hk 6 (by kernel_rfl))) (by rw [hF.size, hsz]; decide)) ⟨hl2 12, (hF.put 12 95 (SP.is (undef)) undef (by rw [hD]; rfl) rfl (by rw [hD]; rfl) (by rw [hsz]; decide) (by rw [hl]; decide)), hb1⟩
                  · have hk3 := hk
                    exact wpOp_off rfl (unwanted_g (g := 6) (b := true) rfl rfl (hF.done 6 (89, SP.is (.bool false)) (by rw [hD]; rfl) (ready_dep hk 6 (by kernel_rfl))) (by rw [hF.size, hsz]; decide)) ⟨hl2 13, (hF.put 13 96 (SP.is (undef)) undef (by rw [hD]; rfl) rfl (by rw [hD]; rfl) (by rw [hsz]; decide) (by rw [hl]; decide)), hb1⟩
                  · have hk3 := hk
                    exact wpOp_off rfl (unwanted_g (g := 6) (b := true) rfl rfl (hF.done 6 (89, SP.is (.bool false)) (by rw [hD]; rfl) (ready_dep hk 6 (by kernel_rfl))) (by rw [hF.size, hsz]; decide)) ⟨hl2 14, (hF.put 14 97 (SP.is (undef)) undef (by rw [hD]; rfl) rfl (by rw [hD]; rfl) (by rw [hsz]; decide) (by rw [hl]; decide)), hb1⟩
                  · have hk3 := hk
                    exact wpOp_off rfl (unwanted_g (g := 6) (b := true) rfl rfl (hF.done 6 (89, SP.is (.bool false)) (by rw [hD]; rfl) (ready_dep hk 6 (by kernel_rfl))) (by rw [hF.size, hsz]; decide)) ⟨hl2 15, (hF.put 15 98 (SP.is (undef)) undef (by rw [hD]; rfl) rfl (by rw [hD]; rfl) (by rw [hsz]; decide) (by rw [hl]; decide)), hb1⟩
                  · have hk3 := hk
                    exact wpOp_off rfl (unwanted_g (g := 6) (b := true) rfl rfl (hF.done 6 (89, SP.is (.bool false)) (by rw [hD]; rfl) (ready_dep hk 6 (by kernel_rfl))) (by rw [hF.size, hsz]; decide)) ⟨hl2 16, (hF.put 16 99 (SP.is (undef)) undef (by rw [hD]; rfl) rfl (by rw [hD]; rfl) (by rw [hsz]; decide) (by rw [hl]; decide)), hb1⟩
                  · have hk3 := hk
                    exact wpOp_off rfl (unwanted_g (g := 6) (b := true) rfl rfl (hF.done 6 (89, SP.is (.bool false)) (by rw [hD]; rfl) (ready_dep hk 6 (by kernel_rfl))) (by rw [hF.size, hsz]; decide)) ⟨hl2 17, (hF.put 17 100 (SP.is (undef)) undef (by rw [hD]; rfl) rfl (by rw [hD]; rfl) (by rw [hsz]; decide) (by rw [hl]; decide)), hb1⟩
                  · have hk3 := hk
                    have ea := (hF.done 6 (89, SP.is (.bool false)) (by rw [hD]; rfl) (ready_dep hk 6 (by kernel_rfl)))
                    exact wpOp_plain rfl rfl (wpR_pickF (.bool false) rfl ea rfl ⟨hl2 18, (hF.put 18 101 (SP.is (.bool false)) (.bool false) (by rw [hD]; rfl) rfl (by rw [hD]; rfl) (by rw [hsz]; decide) (by rw [hl]; decide)), hb1⟩)
                  · have hk3 := hk
                    exact wpOp_plain rfl rfl (wp_assign_v (ac.eval (.tmp 101)) rfl rfl ⟨hl2 19, (hF.put 19 14 (SP.is (.bool false)) (ac.eval (.tmp 101)) (by rw [hD]; rfl) ((hF.done 18 (101, SP.is (.bool false)) (by rw [hD]; rfl) (ready_dep hk 18 (by kernel_rfl)))) (by rw [hD]; rfl) (by rw [hsz]; decide) (by rw [hl]; decide)), hb1⟩)
                · clear hb1  
                  intro listed ac W hI hr
                  obtain ⟨hl, hF, hb1⟩ := hI
                  have hall := all_listed (by kernel_rfl) hl hr
                  have h83 : ac.eval (.tmp 83) = .int .i64 E := hF.done 0 (83, SP.is (.int .i64 E)) (by rw [hD]; rfl) (hall 0 (by decide))
                  have h84 : ac.eval (.tmp 84) = .bool false := hF.done 1 (84, SP.is (.bool false)) (by rw [hD]; rfl) (hall 1 (by decide))
                  have h85 : ac.eval (.tmp 85) = .bool false := hF.done 2 (85, SP.is (.bool false)) (by rw [hD]; rfl) (hall 2 (by decide))
                  have h86 : ac.eval (.tmp 86) = undef := hF.done 3 (86, SP.is (undef)) (by rw [hD]; rfl) (hall 3 (by decide))
                  have h87 : ac.eval (.tmp 87) = undef := hF.done 4 (87, SP.is (undef)) (by rw [hD]; rfl) (hall 4 (by decide))
                  have h88 : ac.eval (.tmp 88) = .bool false := hF.done 5 (88, SP.is (.bool false)) (by rw [hD]; rfl) (hall 5 (by decide))
                  have h89 : ac.eval (.tmp 89) = .bool false := hF.done 6 (89, SP.is (.bool false)) (by rw [hD]; rfl) (hall 6 (by decide))
                  have h90 : ac.eval (.tmp 90) = undef := hF.done 7 (90, SP.is (undef)) (by rw [hD]; rfl) (hall 7 (by decide))
                  have h91 : ac.eval (.tmp 91) = undef := hF.done 8 (91, SP.is (undef)) (by rw [hD]; rfl) (hall 8 (by decide))
                  have h92 : ac.eval (.tmp 92) = undef := hF.done 9 (92, SP.is (undef)) (by rw [hD]; rfl) (hall 9 (by decide))
                  have h93 : ac.eval (.tmp 93) = undef := hF.done 10 (93, SP.is (undef)) (by rw [hD]; rfl) (hall 10 (by decide))
                  have h94 : ac.eval (.tmp 94) = undef := hF.done 11 (94, SP.is (undef)) (by rw [hD]; rfl) (hall 11 (by decide))
                  have h95 : ac.eval (.tmp 95) = undef := hF.done 12 (95, SP.is (undef)) (by rw [hD]; rfl) (hall 12 (by decide))
                  have h96 : ac.eval (.tmp 96) = undef := hF.done 13 (96, SP.is (undef)) (by rw [hD]; rfl) (hall 13 (by decide))
                  have h97 : ac.eval (.tmp 97) = undef := hF.done 14 (97, SP.is (undef)) (by rw [hD]; rfl) (hall 14 (by decide))
                  have h98 : ac.eval (.tmp 98) = undef := hF.done 15 (98, SP.is (undef)) (by rw [hD]; rfl) (hall 15 (by decide))
                  have h99 : ac.eval (.tmp 99) = undef := hF.done 16 (99, SP.is (undef)) (by rw [hD]; rfl) (hall 16 (by decide))
                  have h100 : ac.eval (.tmp 100) = undef := hF.done 17 (100, SP.is (undef)) (by rw [hD]; rfl) (hall 17 (by decide))
                  have h101 : ac.eval (.tmp 101) = .bool false := hF.done 18 (101, SP.is (.bool false)) (by rw [hD]; rfl) (hall 18 (by decide))
                  have h14 : ac.eval (.tmp 14) = .bool false := hF.done 19 (14, SP.is (.bool false)) (by rw [hD]; rfl) (hall 19 (by decide))
                  have ea := hF.lay [(83, .int .i64 E), (84, .bool false), (85, .bool false), (86, undef), (87, undef), (88, .bool false), (89, .bool false), (90, undef), (91, undef), (92, undef), (93, undef), (94, undef), (95, undef), (96, undef), (97, undef), (98, undef), (99, undef), (100, undef), (101, .bool false), (14, .bool false)] (by rw [hD, hsz]; rfl) (by simp only [List.forall_mem_cons, List.not_mem_nil, false_implies, implies_true, and_true]; exact ⟨h83, h84, h85, h86, h87, h88, h89, h90, h91, h92, h93, h94, h95, h96, h97, h98, h99, h100, h101, h14⟩)
                  rw [ha0] at ea
                  simp only [List.foldl_cons, List.foldl_nil, List.setIfInBounds_toArray, List.set_cons_zero, List.set_cons_succ] at ea
                  clear hF hall hr hl hD  zs0 zs5 zs10 zs12 zs13 ha0 hsz h83 h84 h85 h86 h87 h88 h89 h90 h91 h92 h93 h94 h95 h96 h97 h98 h99 h100 h101 h14
                  subst ea
                  obtain ⟨wq3, hw3⟩ : ∃ V, V = W := ⟨_, rfl⟩
                  rw [← hw3] at hb1 ⊢
                  clear hw3 HXQ HXI
                  have HRZ3 : Hid (Rb w wq3 p (c + 2) s2 b6 LS (.slice (some ⟨g7, 0, none⟩) J c7) J (pbs s (l.take J))) := HRZ.out.be hb1
                  have HB3q : Hid (Below Z.heap.size Z wq3) := HBQ.out.trans (hb1.mono HBQ.out.size)
                  replace hb1 := Below.refl wq3.heap.size wq3
                  have HXQ : Hid (∀ W, Below wq3.heap.size wq3 W → W.cell? ⟨b, o + q * 8 + 3, none⟩ = some (.int .i64 xq)) := fun W k => HXQ0.out W (HRZ3.out.be k).v.below
                  have HPD : Hid (∀ W, Below wq3.heap.size wq3 W → Calls Try.prog 21 #[.pointer (some ⟨p, 0, none⟩), .int .i64 xq] W fun e w' => e = .returned (.bool P2) ∧ Below W.heap.size W w') := fun W k => by rw [HP2.out]; exact vlP (HRZ3.out.be k).v xq HXO.out
                  have HC7 : Hid (∀ W, Below wq3.heap.size wq3 W → W.cell? ⟨g7, 0 + q * 1, none⟩ = some (.bool P1)) := fun W k => HC70.out W (HRZ3.out.be k).l
                  go_upto_region 23 with fail
                  refine wp_named fun a0 ha0 => ?_
                  have hsz : a0.tmps.size = 181 := by rw [ha0]; rfl
                  have zs0 : a0.eval (.tmp 0) = .slice (some ⟨b, o, none⟩) N c0 := by rw [ha0]; rfl
                  have zs4 : a0.eval (.tmp 4) = .pointer (some ⟨p, 0, none⟩) := by rw [ha0]; rfl
                  have zs7 : a0.eval (.tmp 7) = .slice (some ⟨g7, 0, none⟩) J c7 := by rw [ha0]; rfl
                  have zs13 : a0.eval (.tmp 13) = .int .i64 (q : Int) := by rw [ha0]; rfl
                  have zs14 : a0.eval (.tmp 14) = .bool false := by rw [ha0]; rfl
                  obtain ⟨D, hD⟩ : ∃ D : List (Tmp × SP), D = [(102, SP.is (.pointer (some ⟨p, 0, none⟩))), (103, SP.is (.slice (some ⟨b, o, none⟩) N c0)), (104, SP.is (.int .i64 (q : Int))), (105, SP.is (.pointer (some ⟨b, o + q * 8, none⟩))), (106, SP.is (.pointer (some ⟨b, o + q * 8 + 3, none⟩))), (107, SP.is (.int .i64 xq)), (108, SP.is (.bool P2)), (109, SP.is (.slice (some ⟨g7, 0, none⟩) J c7)), (110, SP.is (.int .i64 (q : Int))), (111, SP.is (.pointer (some ⟨g7, 0 + q * 1, none⟩))), (112, SP.is (.bool P1)), (113, SP.is (.bool false)), (114, SP.is (.bool false)), (115, SP.is (undef)), (116, SP.is (undef)), (117, SP.is (.bool false))] := ⟨_, rfl⟩
                  refine wp_region_down (by kernel_rfl) (fun listed ac W => listed.size = 16 ∧ Fp D a0 listed ac W ∧ Below wq3.heap.size wq3 W) ?_ ?_ ?_
                  · exact ⟨by simp, Fp.start D a0 _ _, Below.drew hb1⟩
                  · clear ha0 hb1  
                    intro listed ac W k hI hdn hk
                    obtain ⟨hl, hF, hb1⟩ := hI
                    have hk1 : k < 16 := List.mem_range.1 (List.mem_filter.1 hk).1
                    have hl2 : ∀ j, (listed.setIfInBounds j true).size = 16 := fun j => by rw [Array.size_setIfInBounds]; exact hl
                    rcases (show k = 0 ∨ k = 1 ∨ k = 2 ∨ k = 3 ∨ k = 4 ∨ k = 5 ∨ k = 6 ∨ k = 7 ∨ k = 8 ∨ k = 9 ∨ k = 10 ∨ k = 11 ∨ k = 12 ∨ k = 13 ∨ k = 14 ∨ k = 15 by omega) with rfl | rfl | rfl | rfl | rfl | rfl | rfl | rfl | rfl | rfl | rfl | rfl | rfl | rfl | rfl | rfl
                    · have hk3 := hk
                      exact wpOp_plain rfl rfl (wp_move_v (ac.eval (.tmp 4)) rfl rfl ⟨hl2 0, (hF.put 0 102 (SP.is (.pointer (some ⟨p, 0, none⟩))) (ac.eval (.tmp 4)) (by rw [hD]; rfl) (((hF.keep 4 (by rw [hD]; rfl)).trans zs4)) (by rw [hD]; rfl) (by rw [hsz]; decide) (by rw [hl]; decide)), hb1⟩)
                    · have hk3 := hk
                      exact wpOp_plain rfl rfl (wp_move_v (ac.eval (.tmp 0)) rfl rfl ⟨hl2 1, (hF.put 1 103 (SP.is (.slice (some ⟨b, o, none⟩) N c0)) (ac.eval (.tmp 0)) (by rw [hD]; rfl) (((hF.keep 0 (by rw [hD]; rfl)).trans zs0)) (by rw [hD]; rfl) (by rw [hsz]; decide) (by rw [hl]; decide)), hb1⟩)
                    · have hk3 := hk
                      exact wpOp_plain rfl rfl (wp_move_v (ac.eval (.tmp 13)) rfl rfl ⟨hl2 2, (hF.put 2 104 (SP.is (.int .i64 (q : Int))) (ac.eval (.tmp 13)) (by rw [hD]; rfl) (((hF.keep 13 (by rw [hD]; rfl)).trans zs13)) (by rw [hD]; rfl) (by rw [hsz]; decide) (by rw [hl]; decide)), hb1⟩)
                    · have hk3 := hk
                      have ea := (hF.done 1 (103, SP.is (.slice (some ⟨b, o, none⟩) N c0)) (by rw [hD]; rfl) (ready_dep hk 1 (by kernel_rfl)))
                      have eb := (hF.done 2 (104, SP.is (.int .i64 (q : Int))) (by rw [hD]; rfl) (ready_dep hk 2 (by kernel_rfl)))
                      exact wpOp_plain rfl rfl (wp_ixs 22 35 rfl b o N c0 q 8 ea eb HQN.out und_Ss info_S ⟨hl2 3, (hF.put 3 105 (SP.is (.pointer (some ⟨b, o + q * 8, none⟩))) (.pointer (some ⟨b, o + q * 8, none⟩)) (by rw [hD]; rfl) rfl (by rw [hD]; rfl) (by rw [hsz]; decide) (by rw [hl]; decide)), hb1⟩)
                    · have hk3 := hk
                      have ea := (hF.done 3 (105, SP.is (.pointer (some ⟨b, o + q * 8, none⟩))) (by rw [hD]; rfl) (ready_dep hk 3 (by kernel_rfl)))
                      exact wpOp_plain rfl rfl (wpR_sf3 b (o + q * 8) rfl ea ⟨hl2 4, (hF.put 4 106 (SP.is (.pointer (some ⟨b, o + q * 8 + 3, none⟩))) (.pointer (some ⟨b, o + q * 8 + 3, none⟩)) (by rw [hD]; rfl) rfl (by rw [hD]; rfl) (by rw [hsz]; decide) (by rw [hl]; decide)), hb1⟩)
                    · have hk3 := hk
                      have ea := (hF.done 4 (106, SP.is (.pointer (some ⟨b, o + q * 8 + 3, none⟩))) (by rw [hD]; rfl) (ready_dep hk 4 (by kernel_rfl)))
                      exact wpOp_plain rfl rfl (wp_load_1 b (o + q * 8 + 3) (.int .i64 xq) rfl ea (run_load_in W b (o + q * 8 + 3) (.int .i64 xq) (HXQ.out W hb1)) ⟨hl2 5, (hF.put 5 107 (SP.is (.int .i64 xq)) (.int .i64 xq) (by rw [hD]; rfl) rfl (by rw [hD]; rfl) (by rw [hsz]; decide) (by rw [hl]; decide)), hb1⟩)
                    · have hk3 := hk
                      have ea := (hF.done 0 (102, SP.is (.pointer (some ⟨p, 0, none⟩))) (by rw [hD]; rfl) (ready_dep hk 0 (by kernel_rfl)))
                      have eb := (hF.done 5 (107, SP.is (.int .i64 xq)) (by rw [hD]; rfl) (ready_dep hk 5 (by kernel_rfl)))
                      refine wpOp_plain rfl rfl (wp_fcall_v 21 #[.pointer (some ⟨p, 0, none⟩), .int .i64 xq] rfl rfl (by show [ac.eval (.tmp 102), ac.eval (.tmp 107)] = _; rw [show ac.eval (.tmp 102) = _ from ea, show ac.eval (.tmp 107) = _ from eb]) (by go_simp) ((HPD.out W hb1).mono ?_))
                      rintro e W2 ⟨rfl, hB⟩
                      exact ⟨_, rfl, hl2 6, ((hF.world hB).put 6 108 (SP.is (.bool P2)) (.bool P2) (by rw [hD]; rfl) rfl (by rw [hD]; rfl) (by rw [hsz]; decide) (by rw [hl]; decide)), hb1.trans (hB.mono hb1.size)⟩
                    · have hk3 := hk
                      exact wpOp_plain rfl rfl (wp_move_v (ac.eval (.tmp 7)) rfl rfl ⟨hl2 7, (hF.put 7 109 (SP.is (.slice (some ⟨g7, 0, none⟩) J c7)) (ac.eval (.tmp 7)) (by rw [hD]; rfl) (((hF.keep 7 (by rw [hD]; rfl)).trans zs7)) (by rw [hD]; rfl) (by rw [hsz]; decide) (by rw [hl]; decide)), hb1⟩)
                    · have hk3 := hk
                      exact wpOp_plain rfl rfl (wp_move_v (ac.eval (.tmp 13)) rfl rfl ⟨hl2 8, (hF.put 8 110 (SP.is (.int .i64 (q : Int))) (ac.eval (.tmp 13)) (by rw [hD]; rfl) (((hF.keep 13 (by rw [hD]; rfl)).trans zs13)) (by rw [hD]; rfl) (by rw [hsz]; decide) (by rw [hl]; decide)), hb1⟩)
                    · have hk3 := hk
                      have ea := (hF.done 7 (109, SP.is (.slice (some ⟨g7, 0, none⟩) J c7)) (by rw [hD]; rfl) (ready_dep hk 7 (by kernel_rfl)))
                      have eb := (hF.done 8 (110, SP.is (.int .i64 (q : Int))) (by rw [hD]; rfl) (ready_dep hk 8 (by kernel_rfl)))
                      exact wpOp_plain rfl rfl (wp_ixs tLB tBo rfl g7 0 J c7 q 1 ea eb HQJ.out und_LB bo_info ⟨hl2 9, (hF.put 9 111 (SP.is (.pointer (some ⟨g7, 0 + q * 1, none⟩))) (.pointer (some ⟨g7, 0 + q * 1, none⟩)) (by rw [hD]; rfl) rfl (by rw [hD]; rfl) (by rw [hsz]; decide) (by rw [hl]; decide)), hb1⟩)
                    · have hk3 := hk
                      have ea := (hF.done 9 (111, SP.is (.pointer (some ⟨g7, 0 + q * 1, none⟩))) (by rw [hD]; rfl) (ready_dep hk 9 (by kernel_rfl)))
                      exact wpOp_plain rfl rfl (wp_load_1 g7 (0 + q * 1) (.bool P1) rfl ea (ldBo W g7 (0 + q * 1) (.bool P1) (HC7.out W hb1)) ⟨hl2 10, (hF.put 10 112 (SP.is (.bool P1)) (.bool P1) (by rw [hD]; rfl) rfl (by rw [hD]; rfl) (by rw [hsz]; decide) (by rw [hl]; decide)), hb1⟩)
                    · have hk3 := hk
                      have ea := (hF.done 6 (108, SP.is (.bool P2)) (by rw [hD]; rfl) (ready_dep hk 6 (by kernel_rfl)))
                      have eb := (hF.done 10 (112, SP.is (.bool P1)) (by rw [hD]; rfl) (ready_dep hk 10 (by kernel_rfl)))
                      exact wpOp_plain rfl rfl (wpR_neBb rfl P2 P1 false HDB.out ea eb ⟨hl2 11, (hF.put 11 113 (SP.is (.bool false)) (.bool false) (by rw [hD]; rfl) rfl (by rw [hD]; rfl) (by rw [hsz]; decide) (by rw [hl]; decide)), hb1⟩)
                    · have hk3 := hk
                      exact wpOp_plain rfl rfl (wp_move_v (ac.eval (.tmp 113)) rfl rfl ⟨hl2 12, (hF.put 12 114 (SP.is (.bool false)) (ac.eval (.tmp 113)) (by rw [hD]; rfl) ((hF.done 11 (113, SP.is (.bool false)) (by rw [hD]; rfl) (ready_dep hk 11 (by kernel_rfl)))) (by rw [hD]; rfl) (by rw [hsz]; decide) (by rw [hl]; decide)), hb1⟩)
                    · have hk3 := hk
                      exact wpOp_off rfl (unwanted_g (g := 12) (b := true) rfl rfl (hF.done 12 (114, SP.is (.bool false)) (by rw [hD]; rfl) (ready_dep hk 12 (by kernel_rfl))) (by rw [hF.size, hsz]; decide)) ⟨hl2 13, (hF.put 13 115 (SP.is (undef)) undef (by rw [hD]; rfl) rfl (by rw [hD]; rfl) (by rw [hsz]; decide) (by rw [hl]; decide)), hb1⟩
                    · have hk3 := hk
                      exact wpOp_off rfl (unwanted_g (g := 12) (b := true) rfl rfl (hF.done 12 (114, SP.is (.bool false)) (by rw [hD]; rfl) (ready_dep hk 12 (by kernel_rfl))) (by rw [hF.size, hsz]; decide)) ⟨hl2 14, (hF.put 14 116 (SP.is (undef)) undef (by rw [hD]; rfl) rfl (by rw [hD]; rfl) (by rw [hsz]; decide) (by rw [hl]; decide)), hb1⟩
                    · have hk3 := hk
                      have ea := (hF.done 12 (114, SP.is (.bool false)) (by rw [hD]; rfl) (ready_dep hk 12 (by kernel_rfl)))
                      exact wpOp_plain rfl rfl (wpR_pickF (.bool false) rfl ea rfl ⟨hl2 15, (hF.put 15 117 (SP.is (.bool false)) (.bool false) (by rw [hD]; rfl) rfl (by rw [hD]; rfl) (by rw [hsz]; decide) (by rw [hl]; decide)), hb1⟩)
                  · clear hb1  
                    intro listed ac W hI hr
                    obtain ⟨hl, hF, hb1⟩ := hI
                    have hall := all_listed (by kernel_rfl) hl hr
                    have h102 : ac.eval (.tmp 102) = .pointer (some ⟨p, 0, none⟩) := hF.done 0 (102, SP.is (.pointer (some ⟨p, 0, none⟩))) (by rw [hD]; rfl) (hall 0 (by decide))
                    have h103 : ac.eval (.tmp 103) = .slice (some ⟨b, o, none⟩) N c0 := hF.done 1 (103, SP.is (.slice (some ⟨b, o, none⟩) N c0)) (by rw [hD]; rfl) (hall 1 (by decide))
                    have h104 : ac.eval (.tmp 104) = .int .i64 (q : Int) := hF.done 2 (104, SP.is (.int .i64 (q : Int))) (by rw [hD]; rfl) (hall 2 (by decide))
                    have h105 : ac.eval (.tmp 105) = .pointer (some ⟨b, o + q * 8, none⟩) := hF.done 3 (105, SP.is (.pointer (some ⟨b, o + q * 8, none⟩))) (by rw [hD]; rfl) (hall 3 (by decide))
                    have h106 : ac.eval (.tmp 106) = .pointer (some ⟨b, o + q * 8 + 3, none⟩) := hF.done 4 (106, SP.is (.pointer (some ⟨b, o + q * 8 + 3, none⟩))) (by rw [hD]; rfl) (hall 4 (by decide))
                    have h107 : ac.eval (.tmp 107) = .int .i64 xq := hF.done 5 (107, SP.is (.int .i64 xq)) (by rw [hD]; rfl) (hall 5 (by decide))
                    have h108 : ac.eval (.tmp 108) = .bool P2 := hF.done 6 (108, SP.is (.bool P2)) (by rw [hD]; rfl) (hall 6 (by decide))
                    have h109 : ac.eval (.tmp 109) = .slice (some ⟨g7, 0, none⟩) J c7 := hF.done 7 (109, SP.is (.slice (some ⟨g7, 0, none⟩) J c7)) (by rw [hD]; rfl) (hall 7 (by decide))
                    have h110 : ac.eval (.tmp 110) = .int .i64 (q : Int) := hF.done 8 (110, SP.is (.int .i64 (q : Int))) (by rw [hD]; rfl) (hall 8 (by decide))
                    have h111 : ac.eval (.tmp 111) = .pointer (some ⟨g7, 0 + q * 1, none⟩) := hF.done 9 (111, SP.is (.pointer (some ⟨g7, 0 + q * 1, none⟩))) (by rw [hD]; rfl) (hall 9 (by decide))
                    have h112 : ac.eval (.tmp 112) = .bool P1 := hF.done 10 (112, SP.is (.bool P1)) (by rw [hD]; rfl) (hall 10 (by decide))
                    have h113 : ac.eval (.tmp 113) = .bool false := hF.done 11 (113, SP.is (.bool false)) (by rw [hD]; rfl) (hall 11 (by decide))
                    have h114 : ac.eval (.tmp 114) = .bool false := hF.done 12 (114, SP.is (.bool false)) (by rw [hD]; rfl) (hall 12 (by decide))
                    have h115 : ac.eval (.tmp 115) = undef := hF.done 13 (115, SP.is (undef)) (by rw [hD]; rfl) (hall 13 (by decide))
                    have h116 : ac.eval (.tmp 116) = undef := hF.done 14 (116, SP.is (undef)) (by rw [hD]; rfl) (hall 14 (by decide))
                    have h117 : ac.eval (.tmp 117) = .bool false := hF.done 15 (117, SP.is (.bool false)) (by rw [hD]; rfl) (hall 15 (by decide))
                    have ea := hF.lay [(102, .pointer (some ⟨p, 0, none⟩)), (103, .slice (some ⟨b, o, none⟩) N c0), (104, .int .i64 (q : Int)), (105, .pointer (some ⟨b, o + q * 8, none⟩)), (106, .pointer (some ⟨b, o + q * 8 + 3, none⟩)), (107, .int .i64 xq), (108, .bool P2), (109, .slice (some ⟨g7, 0, none⟩) J c7), (110, .int .i64 (q : Int)), (111, .pointer (some ⟨g7, 0 + q * 1, none⟩)), (112, .bool P1), (113, .bool false), (114, .bool false), (115, undef), (116, undef), (117, .bool false)] (by rw [hD, hsz]; rfl) (by simp only [List.forall_mem_cons, List.not_mem_nil, false_implies, implies_true, and_true]; exact ⟨h102, h103, h104, h105, h106, h107, h108, h109, h110, h111, h112, h113, h114, h115, h116, h117⟩)
                    rw [ha0] at ea
                    simp only [List.foldl_cons, List.foldl_nil, List.setIfInBounds_toArray, List.set_cons_zero, List.set_cons_succ] at ea
                    clear hF hall hr hl hD  zs0 zs4 zs7 zs13 zs14 ha0 hsz h102 h103 h104 h105 h106 h107 h108 h109 h110 h111 h112 h113 h114 h115 h116 h117
                    subst ea
                    have HB4q : Hid (Below Z.heap.size Z W) := HB3q.out.trans (hb1.mono HB3q.out.size)
                    clear hb1
                    go_wp2_with fail
                    exact ⟨⟨q + 1, HQJ.out, by go_num, HB4q.out⟩, by simp [intOf]; have := HQJ.out; omega⟩
            · obtain rfl : q = J := by omega
              clear hqJ hq HRZ
              go_wp2_with fail
              go_loopw [15] (fun v15 wq => ∃ t : Nat, t ≤ 64 ∧ v15 = .int .i64 (t : Int) ∧ Below Z.heap.size Z wq) (fun v15 _ => 64 - (intOf v15).toNat)
              case atStart => exact ⟨0, by decide, rfl, HBQ.out⟩
              case round =>
                clear HBQ
                rename World => wq
                obtain ⟨t, ht, rfl, hbq⟩ := hrel
                have HBQ : Hid (Below Z.heap.size Z wq) := hbq
                have HRZ : Hid (Rb w wq p (c + 2) s2 b6 LS (.slice A7 q c7) q (pbs s (l.take q))) := HRZZ.out.be hbq
                have HR11 : Hid (Row wq b11 LS2 tSn) := Row.below HRN.out hbq HRN.out.lt
                clear hbq
                by_cases htt : t < 64
                · have HTT : Hid (t < 64) := htt
                  have hti : (t : Int) < 64 := by omega
                  obtain ⟨B3, hB3⟩ : ∃ x, x = decide (hm s2 t = hm s t) := ⟨_, rfl⟩
                  have HB3 : Hid (decide (hm s2 t = hm s t) = B3) := hB3.symm
                  have HL1 : Hid (hm s2 t < 2 ^ 256) := hmR HOK2.out t
                  have HL2 : Hid (hm s t < 2 ^ 256) := hmR HOK1.out t
                  have HN1 : Hid (∀ W, Below wq.heap.size wq W → W.cell? ⟨b11, 0 + t * 1, none⟩ = some (.bool (lsB s2 t))) := fun W k => by rw [Nat.zero_add, Nat.mul_one]; exact (Row.below HR11.out k HR11.out.lt).cell t _ (by rw [HLS2.out]; exact scs_at1 HTT.out)
                  have HW1 : Hid (∀ W, Below wq.heap.size wq W → W.cell? ⟨b6, 0 + t * 1, none⟩ = some (.bool (lsB s t))) := fun W k => by rw [Nat.zero_add, Nat.mul_one]; exact (HRZ.out.be k).r.cell t _ (by rw [HLS.out]; exact scs_at1 HTT.out)
                  have HN2 : Hid (∀ W, Below wq.heap.size wq W → W.cell? ⟨b11, 64 + t * 1, none⟩ = some (.bool (stB s2 t))) := fun W k => by rw [Nat.mul_one]; exact (Row.below HR11.out k HR11.out.lt).cell (64 + t) _ (by rw [HLS2.out]; exact scs_at2 HTT.out)
                  have HW2 : Hid (∀ W, Below wq.heap.size wq W → W.cell? ⟨b6, 64 + t * 1, none⟩ = some (.bool (stB s t))) := fun W k => by rw [Nat.mul_one]; exact (HRZ.out.be k).r.cell (64 + t) _ (by rw [HLS.out]; exact scs_at2 HTT.out)
                  have HN3 : Hid (∀ W, Below wq.heap.size wq W → W.rangeAt b11 (128 + t * 4) (vQ (dgs (hm s2 t) 4))) := fun W k => (Row.below HR11.out k HR11.out.lt).range (128 + t * 4) _ (fun j v hj => by rw [HLS2.out]; exact scs_at3 HTT.out j v hj)
                  have HW3 : Hid (∀ W, Below wq.heap.size wq W → W.rangeAt b6 (128 + t * 4) (vQ (dgs (hm s t) 4))) := fun W k => (HRZ.out.be k).r.range (128 + t * 4) _ (fun j v hj => by rw [HLS.out]; exact scs_at3 HTT.out j v hj)
                  clear hB3 ht
                  go_upto_region 28 with fail
                  cases ha1 : (lsB s2 t == lsB s t) with
                  | false =>
                    have HA1 : Hid ((lsB s2 t == lsB s t) = false) := ha1
                    have HTB : Hid ((t : Int) = tk ∧ k ≤ 4) := by
                      rcases HST.out.t (t : Int) with hf | ⟨htk, hk5⟩
                      · unfold lsB at ha1; rw [hf] at ha1; simp at ha1
                      · exact ⟨by rw [htk, HTKR.out], hk5⟩
                    clear ha1 htt
                    have hb1 := Below.refl wq.heap.size wq
                    refine wp_named fun a0 ha0 => ?_
                    have hsz : a0.tmps.size = 181 := by rw [ha0]; rfl
                    have zs6 : a0.eval (.tmp 6) = .pointer (some ⟨b6, 0, none⟩) := by rw [ha0]; rfl
                    have zs11 : a0.eval (.tmp 11) = .pointer (some ⟨b11, 0, none⟩) := by rw [ha0]; rfl
                    have zs15 : a0.eval (.tmp 15) = .int .i64 (t : Int) := by rw [ha0]; rfl
                    obtain ⟨D, hD⟩ : ∃ D : List (Tmp × SP), D = [(122, SP.is (.int .i64 (t : Int))), (123, SP.is (.pointer (some ⟨b11, 0, none⟩))), (124, SP.is (.pointer (some ⟨b11, 0 + t * 1, none⟩))), (125, SP.is (.bool (lsB s2 t))), (126, SP.is (.int .i64 (t : Int))), (127, SP.is (.pointer (some ⟨b6, 0, none⟩))), (128, SP.is (.pointer (some ⟨b6, 0 + t * 1, none⟩))), (129, SP.is (.bool (lsB s t))), (130, SP.is (.bool false)), (131, SP.is (.bool false)), (132, SP.is (undef)), (133, SP.is (undef)), (134, SP.is (undef)), (135, SP.is (undef)), (136, SP.is (undef)), (137, SP.is (undef)), (138, SP.is (undef)), (139, SP.is (undef)), (140, SP.is (undef)), (141, SP.is (.bool false)), (142, SP.is (.bool false)), (143, SP.is (undef)), (144, SP.is (undef)), (145, SP.is (undef)), (146, SP.is (undef)), (147, SP.is (undef)), (148, SP.is (undef)), (149, SP.is (undef)), (150, SP.is (undef)), (151, SP.is (undef)), (152, SP.is (.bool false)), (16, SP.is (.bool false))] := ⟨_, rfl⟩
                    refine wp_region_down (by kernel_rfl) (fun listed ac W => listed.size = 32 ∧ Fp D a0 listed ac W ∧ Below wq.heap.size wq W) ?_ ?_ ?_
                    · exact ⟨by simp, Fp.start D a0 _ _, Below.drew hb1⟩
                    · clear ha0 hb1  
                      intro listed ac W k hI hdn hk
                      obtain ⟨hl, hF, hb1⟩ := hI
                      have hk1 : k < 32 := List.mem_range.1 (List.mem_filter.1 hk).1
                      have hl2 : ∀ j, (listed.setIfInBounds j true).size = 32 := fun j => by rw [Array.size_setIfInBounds]; exact hl
                      rcases (show k = 0 ∨ k = 1 ∨ k = 2 ∨ k = 3 ∨ k = 4 ∨ k = 5 ∨ k = 6 ∨ k = 7 ∨ k = 8 ∨ k = 9 ∨ k = 10 ∨ k = 11 ∨ k = 12 ∨ k = 13 ∨ k = 14 ∨ k = 15 ∨ k = 16 ∨ k = 17 ∨ k = 18 ∨ k = 19 ∨ k = 20 ∨ k = 21 ∨ k = 22 ∨ k = 23 ∨ k = 24 ∨ k = 25 ∨ k = 26 ∨ k = 27 ∨ k = 28 ∨ k = 29 ∨ k = 30 ∨ k = 31 by omega) with rfl | rfl | rfl | rfl | rfl | rfl | rfl | rfl | rfl | rfl | rfl | rfl | rfl | rfl | rfl | rfl | rfl | rfl | rfl | rfl | rfl | rfl | rfl | rfl | rfl | rfl | rfl | rfl | rfl | rfl | rfl | rfl
                      · have hk3 := hk
                        exact wpOp_plain rfl rfl (wp_move_v (ac.eval (.tmp 15)) rfl rfl ⟨hl2 0, (hF.put 0 122 (SP.is (.int .i64 (t : Int))) (ac.eval (.tmp 15)) (by rw [hD]; rfl) (((hF.keep 15 (by rw [hD]; rfl)).trans zs15)) (by rw [hD]; rfl) (by rw [hsz]; decide) (by rw [hl]; decide)), hb1⟩)
                      · have hk3 := hk
                        have ea := ((hF.keep 11 (by rw [hD]; rfl)).trans zs11)
                        exact wpOp_plain rfl rfl (wpR_fld 0 0 rfl b11 ea (fS0 b11) ⟨hl2 1, (hF.put 1 123 (SP.is (.pointer (some ⟨b11, 0, none⟩))) (.pointer (some ⟨b11, 0, none⟩)) (by rw [hD]; rfl) rfl (by rw [hD]; rfl) (by rw [hsz]; decide) (by rw [hl]; decide)), hb1⟩)
                      · have hk3 := hk
                        have ea := (hF.done 1 (123, SP.is (.pointer (some ⟨b11, 0, none⟩))) (by rw [hD]; rfl) (ready_dep hk 1 (by kernel_rfl)))
                        have eb := (hF.done 0 (122, SP.is (.int .i64 (t : Int))) (by rw [hD]; rfl) (ready_dep hk 0 (by kernel_rfl)))
                        exact wpOp_plain rfl rfl (wp_ixAr tB64 tBo rfl b11 0 64 t 1 ea eb HTT.out und_B64 bo_info ⟨hl2 2, (hF.put 2 124 (SP.is (.pointer (some ⟨b11, 0 + t * 1, none⟩))) (.pointer (some ⟨b11, 0 + t * 1, none⟩)) (by rw [hD]; rfl) rfl (by rw [hD]; rfl) (by rw [hsz]; decide) (by rw [hl]; decide)), hb1⟩)
                      · have hk3 := hk
                        have ea := (hF.done 2 (124, SP.is (.pointer (some ⟨b11, 0 + t * 1, none⟩))) (by rw [hD]; rfl) (ready_dep hk 2 (by kernel_rfl)))
                        exact wpOp_plain rfl rfl (wp_load_1 b11 (0 + t * 1) (.bool (lsB s2 t)) rfl ea (ldBo W b11 (0 + t * 1) (.bool (lsB s2 t)) (HN1.out W hb1)) ⟨hl2 3, (hF.put 3 125 (SP.is (.bool (lsB s2 t))) (.bool (lsB s2 t)) (by rw [hD]; rfl) rfl (by rw [hD]; rfl) (by rw [hsz]; decide) (by rw [hl]; decide)), hb1⟩)
                      · have hk3 := hk
                        exact wpOp_plain rfl rfl (wp_move_v (ac.eval (.tmp 15)) rfl rfl ⟨hl2 4, (hF.put 4 126 (SP.is (.int .i64 (t : Int))) (ac.eval (.tmp 15)) (by rw [hD]; rfl) (((hF.keep 15 (by rw [hD]; rfl)).trans zs15)) (by rw [hD]; rfl) (by rw [hsz]; decide) (by rw [hl]; decide)), hb1⟩)
                      · have hk3 := hk
                        have ea := ((hF.keep 6 (by rw [hD]; rfl)).trans zs6)
                        exact wpOp_plain rfl rfl (wpR_fld 0 0 rfl b6 ea (fS0 b6) ⟨hl2 5, (hF.put 5 127 (SP.is (.pointer (some ⟨b6, 0, none⟩))) (.pointer (some ⟨b6, 0, none⟩)) (by rw [hD]; rfl) rfl (by rw [hD]; rfl) (by rw [hsz]; decide) (by rw [hl]; decide)), hb1⟩)
                      · have hk3 := hk
                        have ea := (hF.done 5 (127, SP.is (.pointer (some ⟨b6, 0, none⟩))) (by rw [hD]; rfl) (ready_dep hk 5 (by kernel_rfl)))
                        have eb := (hF.done 4 (126, SP.is (.int .i64 (t : Int))) (by rw [hD]; rfl) (ready_dep hk 4 (by kernel_rfl)))
                        exact wpOp_plain rfl rfl (wp_ixAr tB64 tBo rfl b6 0 64 t 1 ea eb HTT.out und_B64 bo_info ⟨hl2 6, (hF.put 6 128 (SP.is (.pointer (some ⟨b6, 0 + t * 1, none⟩))) (.pointer (some ⟨b6, 0 + t * 1, none⟩)) (by rw [hD]; rfl) rfl (by rw [hD]; rfl) (by rw [hsz]; decide) (by rw [hl]; decide)), hb1⟩)
                      · have hk3 := hk
                        have ea := (hF.done 6 (128, SP.is (.pointer (some ⟨b6, 0 + t * 1, none⟩))) (by rw [hD]; rfl) (ready_dep hk 6 (by kernel_rfl)))
                        exact wpOp_plain rfl rfl (wp_load_1 b6 (0 + t * 1) (.bool (lsB s t)) rfl ea (ldBo W b6 (0 + t * 1) (.bool (lsB s t)) (HW1.out W hb1)) ⟨hl2 7, (hF.put 7 129 (SP.is (.bool (lsB s t))) (.bool (lsB s t)) (by rw [hD]; rfl) rfl (by rw [hD]; rfl) (by rw [hsz]; decide) (by rw [hl]; decide)), hb1⟩)
                      · have hk3 := hk
                        have ea := (hF.done 3 (125, SP.is (.bool (lsB s2 t))) (by rw [hD]; rfl) (ready_dep hk 3 (by kernel_rfl)))
                        have eb := (hF.done 7 (129, SP.is (.bool (lsB s t))) (by rw [hD]; rfl) (ready_dep hk 7 (by kernel_rfl)))
                        exact wpOp_plain rfl rfl (wpR_eqBb rfl (lsB s2 t) (lsB s t) false HA1.out ea eb ⟨hl2 8, (hF.put 8 130 (SP.is (.bool false)) (.bool false) (by rw [hD]; rfl) rfl (by rw [hD]; rfl) (by rw [hsz]; decide) (by rw [hl]; decide)), hb1⟩)
                      · have hk3 := hk
                        exact wpOp_plain rfl rfl (wp_move_v (ac.eval (.tmp 130)) rfl rfl ⟨hl2 9, (hF.put 9 131 (SP.is (.bool false)) (ac.eval (.tmp 130)) (by rw [hD]; rfl) ((hF.done 8 (130, SP.is (.bool false)) (by rw [hD]; rfl) (ready_dep hk 8 (by kernel_rfl)))) (by rw [hD]; rfl) (by rw [hsz]; decide) (by rw [hl]; decide)), hb1⟩)
                      · have hk3 := hk
                        exact wpOp_off rfl (unwanted_g (g := 9) (b := true) rfl rfl (hF.done 9 (131, SP.is (.bool false)) (by rw [hD]; rfl) (ready_dep hk 9 (by kernel_rfl))) (by rw [hF.size, hsz]; decide)) ⟨hl2 10, (hF.put 10 132 (SP.is (undef)) undef (by rw [hD]; rfl) rfl (by rw [hD]; rfl) (by rw [hsz]; decide) (by rw [hl]; decide)), hb1⟩
                      · have hk3 := hk
                        exact wpOp_off rfl (unwanted_g (g := 9) (b := true) rfl rfl (hF.done 9 (131, SP.is (.bool false)) (by rw [hD]; rfl) (ready_dep hk 9 (by kernel_rfl))) (by rw [hF.size, hsz]; decide)) ⟨hl2 11, (hF.put 11 133 (SP.is (undef)) undef (by rw [hD]; rfl) rfl (by rw [hD]; rfl) (by rw [hsz]; decide) (by rw [hl]; decide)), hb1⟩
                      · have hk3 := hk
                        exact wpOp_off rfl (unwanted_g (g := 9) (b := true) rfl rfl (hF.done 9 (131, SP.is (.bool false)) (by rw [hD]; rfl) (ready_dep hk 9 (by kernel_rfl))) (by rw [hF.size, hsz]; decide)) ⟨hl2 12, (hF.put 12 134 (SP.is (undef)) undef (by rw [hD]; rfl) rfl (by rw [hD]; rfl) (by rw [hsz]; decide) (by rw [hl]; decide)), hb1⟩
                      · have hk3 := hk
                        exact wpOp_off rfl (unwanted_g (g := 9) (b := true) rfl rfl (hF.done 9 (131, SP.is (.bool false)) (by rw [hD]; rfl) (ready_dep hk 9 (by kernel_rfl))) (by rw [hF.size, hsz]; decide)) ⟨hl2 13, (hF.put 13 135 (SP.is (undef)) undef (by rw [hD]; rfl) rfl (by rw [hD]; rfl) (by rw [hsz]; decide) (by rw [hl]; decide)), hb1⟩
                      · have hk3 := hk
                        exact wpOp_off rfl (unwanted_g (g := 9) (b := true) rfl rfl (hF.done 9 (131, SP.is (.bool false)) (by rw [hD]; rfl) (ready_dep hk 9 (by kernel_rfl))) (by rw [hF.size, hsz]; decide)) ⟨hl2 14, (hF.put 14 136 (SP.is (undef)) undef (by rw [hD]; rfl) rfl (by rw [hD]; rfl) (by rw [hsz]; decide) (by rw [hl]; decide)), hb1⟩
                      · have hk3 := hk
                        exact wpOp_off rfl (unwanted_g (g := 9) (b := true) rfl rfl (hF.done 9 (131, SP.is (.bool false)) (by rw [hD]; rfl) (ready_dep hk 9 (by kernel_rfl))) (by rw [hF.size, hsz]; decide)) ⟨hl2 15, (hF.put 15 137 (SP.is (undef)) undef (by rw [hD]; rfl) rfl (by rw [hD]; rfl) (by rw [hsz]; decide) (by rw [hl]; decide)), hb1⟩
                      · have hk3 := hk
                        exact wpOp_off rfl (unwanted_g (g := 9) (b := true) rfl rfl (hF.done 9 (131, SP.is (.bool false)) (by rw [hD]; rfl) (ready_dep hk 9 (by kernel_rfl))) (by rw [hF.size, hsz]; decide)) ⟨hl2 16, (hF.put 16 138 (SP.is (undef)) undef (by rw [hD]; rfl) rfl (by rw [hD]; rfl) (by rw [hsz]; decide) (by rw [hl]; decide)), hb1⟩
                      · have hk3 := hk
                        exact wpOp_off rfl (unwanted_g (g := 9) (b := true) rfl rfl (hF.done 9 (131, SP.is (.bool false)) (by rw [hD]; rfl) (ready_dep hk 9 (by kernel_rfl))) (by rw [hF.size, hsz]; decide)) ⟨hl2 17, (hF.put 17 139 (SP.is (undef)) undef (by rw [hD]; rfl) rfl (by rw [hD]; rfl) (by rw [hsz]; decide) (by rw [hl]; decide)), hb1⟩
                      · have hk3 := hk
                        exact wpOp_off rfl (unwanted_g (g := 9) (b := true) rfl rfl (hF.done 9 (131, SP.is (.bool false)) (by rw [hD]; rfl) (ready_dep hk 9 (by kernel_rfl))) (by rw [hF.size, hsz]; decide)) ⟨hl2 18, (hF.put 18 140 (SP.is (undef)) undef (by rw [hD]; rfl) rfl (by rw [hD]; rfl) (by rw [hsz]; decide) (by rw [hl]; decide)), hb1⟩
                      · have hk3 := hk
                        have ea := (hF.done 9 (131, SP.is (.bool false)) (by rw [hD]; rfl) (ready_dep hk 9 (by kernel_rfl)))
                        exact wpOp_plain rfl rfl (wpR_pickF (.bool false) rfl ea rfl ⟨hl2 19, (hF.put 19 141 (SP.is (.bool false)) (.bool false) (by rw [hD]; rfl) rfl (by rw [hD]; rfl) (by rw [hsz]; decide) (by rw [hl]; decide)), hb1⟩)
                      · have hk3 := hk
                        exact wpOp_plain rfl rfl (wp_move_v (ac.eval (.tmp 141)) rfl rfl ⟨hl2 20, (hF.put 20 142 (SP.is (.bool false)) (ac.eval (.tmp 141)) (by rw [hD]; rfl) ((hF.done 19 (141, SP.is (.bool false)) (by rw [hD]; rfl) (ready_dep hk 19 (by kernel_rfl)))) (by rw [hD]; rfl) (by rw [hsz]; decide) (by rw [hl]; decide)), hb1⟩)
                      · have hk3 := hk
                        exact wpOp_off rfl (unwanted_g (g := 20) (b := true) rfl rfl (hF.done 20 (142, SP.is (.bool false)) (by rw [hD]; rfl) (ready_dep hk 20 (by kernel_rfl))) (by rw [hF.size, hsz]; decide)) ⟨hl2 21, (hF.put 21 143 (SP.is (undef)) undef (by rw [hD]; rfl) rfl (by rw [hD]; rfl) (by rw [hsz]; decide) (by rw [hl]; decide)), hb1⟩
                      · have hk3 := hk
                        exact wpOp_off rfl (unwanted_g (g := 20) (b := true) rfl rfl (hF.done 20 (142, SP.is (.bool false)) (by rw [hD]; rfl) (ready_dep hk 20 (by kernel_rfl))) (by rw [hF.size, hsz]; decide)) ⟨hl2 22, (hF.put 22 144 (SP.is (undef)) undef (by rw [hD]; rfl) rfl (by rw [hD]; rfl) (by rw [hsz]; decide) (by rw [hl]; decide)), hb1⟩
                      · have hk3 := hk
                        exact wpOp_off rfl (unwanted_g (g := 20) (b := true) rfl rfl (hF.done 20 (142, SP.is (.bool false)) (by rw [hD]; rfl) (ready_dep hk 20 (by kernel_rfl))) (by rw [hF.size, hsz]; decide)) ⟨hl2 23, (hF.put 23 145 (SP.is (undef)) undef (by rw [hD]; rfl) rfl (by rw [hD]; rfl) (by rw [hsz]; decide) (by rw [hl]; decide)), hb1⟩
                      · have hk3 := hk
                        exact wpOp_off rfl (unwanted_g (g := 20) (b := true) rfl rfl (hF.done 20 (142, SP.is (.bool false)) (by rw [hD]; rfl) (ready_dep hk 20 (by kernel_rfl))) (by rw [hF.size, hsz]; decide)) ⟨hl2 24, (hF.put 24 146 (SP.is (undef)) undef (by rw [hD]; rfl) rfl (by rw [hD]; rfl) (by rw [hsz]; decide) (by rw [hl]; decide)), hb1⟩
                      · have hk3 := hk
                        exact wpOp_off rfl (unwanted_g (g := 20) (b := true) rfl rfl (hF.done 20 (142, SP.is (.bool false)) (by rw [hD]; rfl) (ready_dep hk 20 (by kernel_rfl))) (by rw [hF.size, hsz]; decide)) ⟨hl2 25, (hF.put 25 147 (SP.is (undef)) undef (by rw [hD]; rfl) rfl (by rw [hD]; rfl) (by rw [hsz]; decide) (by rw [hl]; decide)), hb1⟩
                      · have hk3 := hk
                        exact wpOp_off rfl (unwanted_g (g := 20) (b := true) rfl rfl (hF.done 20 (142, SP.is (.bool false)) (by rw [hD]; rfl) (ready_dep hk 20 (by kernel_rfl))) (by rw [hF.size, hsz]; decide)) ⟨hl2 26, (hF.put 26 148 (SP.is (undef)) undef (by rw [hD]; rfl) rfl (by rw [hD]; rfl) (by rw [hsz]; decide) (by rw [hl]; decide)), hb1⟩
                      · have hk3 := hk
                        exact wpOp_off rfl (unwanted_g (g := 20) (b := true) rfl rfl (hF.done 20 (142, SP.is (.bool false)) (by rw [hD]; rfl) (ready_dep hk 20 (by kernel_rfl))) (by rw [hF.size, hsz]; decide)) ⟨hl2 27, (hF.put 27 149 (SP.is (undef)) undef (by rw [hD]; rfl) rfl (by rw [hD]; rfl) (by rw [hsz]; decide) (by rw [hl]; decide)), hb1⟩
                      · have hk3 := hk
                        exact wpOp_off rfl (unwanted_g (g := 20) (b := true) rfl rfl (hF.done 20 (142, SP.is (.bool false)) (by rw [hD]; rfl) (ready_dep hk 20 (by kernel_rfl))) (by rw [hF.size, hsz]; decide)) ⟨hl2 28, (hF.put 28 150 (SP.is (undef)) undef (by rw [hD]; rfl) rfl (by rw [hD]; rfl) (by rw [hsz]; decide) (by rw [hl]; decide)), hb1⟩
                      · have hk3 := hk
                        exact wpOp_off rfl (unwanted_g (g := 20) (b := true) rfl rfl (hF.done 20 (142, SP.is (.bool false)) (by rw [hD]; rfl) (ready_dep hk 20 (by kernel_rfl))) (by rw [hF.size, hsz]; decide)) ⟨hl2 29, (hF.put 29 151 (SP.is (undef)) undef (by rw [hD]; rfl) rfl (by rw [hD]; rfl) (by rw [hsz]; decide) (by rw [hl]; decide)), hb1⟩
                      · have hk3 := hk
                        have ea := (hF.done 20 (142, SP.is (.bool false)) (by rw [hD]; rfl) (ready_dep hk 20 (by kernel_rfl)))
                        exact wpOp_plain rfl rfl (wpR_pickF (.bool false) rfl ea rfl ⟨hl2 30, (hF.put 30 152 (SP.is (.bool false)) (.bool false) (by rw [hD]; rfl) rfl (by rw [hD]; rfl) (by rw [hsz]; decide) (by rw [hl]; decide)), hb1⟩)
                      · have hk3 := hk
                        exact wpOp_plain rfl rfl (wp_assign_v (ac.eval (.tmp 152)) rfl rfl ⟨hl2 31, (hF.put 31 16 (SP.is (.bool false)) (ac.eval (.tmp 152)) (by rw [hD]; rfl) ((hF.done 30 (152, SP.is (.bool false)) (by rw [hD]; rfl) (ready_dep hk 30 (by kernel_rfl)))) (by rw [hD]; rfl) (by rw [hsz]; decide) (by rw [hl]; decide)), hb1⟩)
                    · clear hb1  
                      intro listed ac W hI hr
                      obtain ⟨hl, hF, hb1⟩ := hI
                      have hall := all_listed (by kernel_rfl) hl hr
                      have h122 : ac.eval (.tmp 122) = .int .i64 (t : Int) := hF.done 0 (122, SP.is (.int .i64 (t : Int))) (by rw [hD]; rfl) (hall 0 (by decide))
                      have h123 : ac.eval (.tmp 123) = .pointer (some ⟨b11, 0, none⟩) := hF.done 1 (123, SP.is (.pointer (some ⟨b11, 0, none⟩))) (by rw [hD]; rfl) (hall 1 (by decide))
                      have h124 : ac.eval (.tmp 124) = .pointer (some ⟨b11, 0 + t * 1, none⟩) := hF.done 2 (124, SP.is (.pointer (some ⟨b11, 0 + t * 1, none⟩))) (by rw [hD]; rfl) (hall 2 (by decide))
                      have h125 : ac.eval (.tmp 125) = .bool (lsB s2 t) := hF.done 3 (125, SP.is (.bool (lsB s2 t))) (by rw [hD]; rfl) (hall 3 (by decide))
                      have h126 : ac.eval (.tmp 126) = .int .i64 (t : Int) := hF.done 4 (126, SP.is (.int .i64 (t : Int))) (by rw [hD]; rfl) (hall 4 (by decide))
                      have h127 : ac.eval (.tmp 127) = .pointer (some ⟨b6, 0, none⟩) := hF.done 5 (127, SP.is (.pointer (some ⟨b6, 0, none⟩))) (by rw [hD]; rfl) (hall 5 (by decide))
                      have h128 : ac.eval (.tmp 128) = .pointer (some ⟨b6, 0 + t * 1, none⟩) := hF.done 6 (128, SP.is (.pointer (some ⟨b6, 0 + t * 1, none⟩))) (by rw [hD]; rfl) (hall 6 (by decide))
                      have h129 : ac.eval (.tmp 129) = .bool (lsB s t) := hF.done 7 (129, SP.is (.bool (lsB s t))) (by rw [hD]; rfl) (hall 7 (by decide))
                      have h130 : ac.eval (.tmp 130) = .bool false := hF.done 8 (130, SP.is (.bool false)) (by rw [hD]; rfl) (hall 8 (by decide))
                      have h131 : ac.eval (.tmp 131) = .bool false := hF.done 9 (131, SP.is (.bool false)) (by rw [hD]; rfl) (hall 9 (by decide))
                      have h132 : ac.eval (.tmp 132) = undef := hF.done 10 (132, SP.is (undef)) (by rw [hD]; rfl) (hall 10 (by decide))
                      have h133 : ac.eval (.tmp 133) = undef := hF.done 11 (133, SP.is (undef)) (by rw [hD]; rfl) (hall 11 (by decide))
                      have h134 : ac.eval (.tmp 134) = undef := hF.done 12 (134, SP.is (undef)) (by rw [hD]; rfl) (hall 12 (by decide))
                      have h135 : ac.eval (.tmp 135) = undef := hF.done 13 (135, SP.is (undef)) (by rw [hD]; rfl) (hall 13 (by decide))
                      have h136 : ac.eval (.tmp 136) = undef := hF.done 14 (136, SP.is (undef)) (by rw [hD]; rfl) (hall 14 (by decide))
                      have h137 : ac.eval (.tmp 137) = undef := hF.done 15 (137, SP.is (undef)) (by rw [hD]; rfl) (hall 15 (by decide))
                      have h138 : ac.eval (.tmp 138) = undef := hF.done 16 (138, SP.is (undef)) (by rw [hD]; rfl) (hall 16 (by decide))
                      have h139 : ac.eval (.tmp 139) = undef := hF.done 17 (139, SP.is (undef)) (by rw [hD]; rfl) (hall 17 (by decide))
                      have h140 : ac.eval (.tmp 140) = undef := hF.done 18 (140, SP.is (undef)) (by rw [hD]; rfl) (hall 18 (by decide))
                      have h141 : ac.eval (.tmp 141) = .bool false := hF.done 19 (141, SP.is (.bool false)) (by rw [hD]; rfl) (hall 19 (by decide))
                      have h142 : ac.eval (.tmp 142) = .bool false := hF.done 20 (142, SP.is (.bool false)) (by rw [hD]; rfl) (hall 20 (by decide))
                      have h143 : ac.eval (.tmp 143) = undef := hF.done 21 (143, SP.is (undef)) (by rw [hD]; rfl) (hall 21 (by decide))
                      have h144 : ac.eval (.tmp 144) = undef := hF.done 22 (144, SP.is (undef)) (by rw [hD]; rfl) (hall 22 (by decide))
                      have h145 : ac.eval (.tmp 145) = undef := hF.done 23 (145, SP.is (undef)) (by rw [hD]; rfl) (hall 23 (by decide))
                      have h146 : ac.eval (.tmp 146) = undef := hF.done 24 (146, SP.is (undef)) (by rw [hD]; rfl) (hall 24 (by decide))
                      have h147 : ac.eval (.tmp 147) = undef := hF.done 25 (147, SP.is (undef)) (by rw [hD]; rfl) (hall 25 (by decide))
                      have h148 : ac.eval (.tmp 148) = undef := hF.done 26 (148, SP.is (undef)) (by rw [hD]; rfl) (hall 26 (by decide))
                      have h149 : ac.eval (.tmp 149) = undef := hF.done 27 (149, SP.is (undef)) (by rw [hD]; rfl) (hall 27 (by decide))
                      have h150 : ac.eval (.tmp 150) = undef := hF.done 28 (150, SP.is (undef)) (by rw [hD]; rfl) (hall 28 (by decide))
                      have h151 : ac.eval (.tmp 151) = undef := hF.done 29 (151, SP.is (undef)) (by rw [hD]; rfl) (hall 29 (by decide))
                      have h152 : ac.eval (.tmp 152) = .bool false := hF.done 30 (152, SP.is (.bool false)) (by rw [hD]; rfl) (hall 30 (by decide))
                      have h16 : ac.eval (.tmp 16) = .bool false := hF.done 31 (16, SP.is (.bool false)) (by rw [hD]; rfl) (hall 31 (by decide))
                      have ea := hF.lay [(122, .int .i64 (t : Int)), (123, .pointer (some ⟨b11, 0, none⟩)), (124, .pointer (some ⟨b11, 0 + t * 1, none⟩)), (125, .bool (lsB s2 t)), (126, .int .i64 (t : Int)), (127, .pointer (some ⟨b6, 0, none⟩)), (128, .pointer (some ⟨b6, 0 + t * 1, none⟩)), (129, .bool (lsB s t)), (130, .bool false), (131, .bool false), (132, undef), (133, undef), (134, undef), (135, undef), (136, undef), (137, undef), (138, undef), (139, undef), (140, undef), (141, .bool false), (142, .bool false), (143, undef), (144, undef), (145, undef), (146, undef), (147, undef), (148, undef), (149, undef), (150, undef), (151, undef), (152, .bool false), (16, .bool false)] (by rw [hD, hsz]; rfl) (by simp only [List.forall_mem_cons, List.not_mem_nil, false_implies, implies_true, and_true]; exact ⟨h122, h123, h124, h125, h126, h127, h128, h129, h130, h131, h132, h133, h134, h135, h136, h137, h138, h139, h140, h141, h142, h143, h144, h145, h146, h147, h148, h149, h150, h151, h152, h16⟩)
                      rw [ha0] at ea
                      simp only [List.foldl_cons, List.foldl_nil, List.setIfInBounds_toArray, List.set_cons_zero, List.set_cons_succ] at ea
                      clear hF hall hr hl hD  zs6 zs11 zs15 ha0 hsz h122 h123 h124 h125 h126 h127 h128 h129 h130 h131 h132 h133 h134 h135 h136 h137 h138 h139 h140 h141 h142 h143 h144 h145 h146 h147 h148 h149 h150 h151 h152 h16
                      subst ea
                      have HB5 : Hid (Below Z.heap.size Z W) := HBQ.out.trans (hb1.mono HBQ.out.size)
                      have ctk : W.cell? ⟨b, o + i * 8 + 2, none⟩ = some (.int .i64 tk) := HCT0.out W ((HRZZ.out.be HB5.out).v.below)
                      clear hb1
                      obtain ⟨htk2, htk3⟩ := HTB.out
                      have htk4 : decide ((4 : Int) < k) = false := decide_eq_false (by omega)
                      have htk5 : ¬ (4 : Int) < k := by omega
                      go_wp2_with (first
                        | (refine wpList_ixs 22 35 (.tmp 157) (.tmp 158) rfl b o N c0 i 8 rfl rfl HIN.out und_Ss info_S rfl ?_; simp only [Act.put, List.setIfInBounds_toArray, List.set_cons_zero, List.set_cons_succ]))
                      exact ⟨⟨t + 1, HTT.out, by go_num, HB5.out⟩, by simp [intOf]; have := HTT.out; omega⟩
                  | true =>
                    have HA1 : Hid ((lsB s2 t == lsB s t) = true) := ha1
                    clear ha1
                    cases ha2 : (stB s2 t == stB s t) with
                    | false =>
                      have HA2 : Hid ((stB s2 t == stB s t) = false) := ha2
                      have HTB : Hid ((t : Int) = tk ∧ k ≤ 4) := by
                        rcases HST.out.t (t : Int) with hf | ⟨htk, hk5⟩
                        · unfold stB at ha2; rw [hf] at ha2; simp at ha2
                        · exact ⟨by rw [htk, HTKR.out], hk5⟩
                      clear ha2 htt
                      have hb1 := Below.refl wq.heap.size wq
                      refine wp_named fun a0 ha0 => ?_
                      have hsz : a0.tmps.size = 181 := by rw [ha0]; rfl
                      have zs6 : a0.eval (.tmp 6) = .pointer (some ⟨b6, 0, none⟩) := by rw [ha0]; rfl
                      have zs11 : a0.eval (.tmp 11) = .pointer (some ⟨b11, 0, none⟩) := by rw [ha0]; rfl
                      have zs15 : a0.eval (.tmp 15) = .int .i64 (t : Int) := by rw [ha0]; rfl
                      obtain ⟨D, hD⟩ : ∃ D : List (Tmp × SP), D = [(122, SP.is (.int .i64 (t : Int))), (123, SP.is (.pointer (some ⟨b11, 0, none⟩))), (124, SP.is (.pointer (some ⟨b11, 0 + t * 1, none⟩))), (125, SP.is (.bool (lsB s2 t))), (126, SP.is (.int .i64 (t : Int))), (127, SP.is (.pointer (some ⟨b6, 0, none⟩))), (128, SP.is (.pointer (some ⟨b6, 0 + t * 1, none⟩))), (129, SP.is (.bool (lsB s t))), (130, SP.is (.bool true)), (131, SP.is (.bool true)), (132, SP.is (.int .i64 (t : Int))), (133, SP.is (.pointer (some ⟨b11, 64, none⟩))), (134, SP.is (.pointer (some ⟨b11, 64 + t * 1, none⟩))), (135, SP.is (.bool (stB s2 t))), (136, SP.is (.int .i64 (t : Int))), (137, SP.is (.pointer (some ⟨b6, 64, none⟩))), (138, SP.is (.pointer (some ⟨b6, 64 + t * 1, none⟩))), (139, SP.is (.bool (stB s t))), (140, SP.is (.bool false)), (141, SP.is (.bool false)), (142, SP.is (.bool false)), (143, SP.is (undef)), (144, SP.is (undef)), (145, SP.is (undef)), (146, SP.is (undef)), (147, SP.is (undef)), (148, SP.is (undef)), (149, SP.is (undef)), (150, SP.is (undef)), (151, SP.is (undef)), (152, SP.is (.bool false)), (16, SP.is (.bool false))] := ⟨_, rfl⟩
                      refine wp_region_down (by kernel_rfl) (fun listed ac W => listed.size = 32 ∧ Fp D a0 listed ac W ∧ Below wq.heap.size wq W) ?_ ?_ ?_
                      · exact ⟨by simp, Fp.start D a0 _ _, Below.drew hb1⟩
                      · clear ha0 hb1  
                        intro listed ac W k hI hdn hk
                        obtain ⟨hl, hF, hb1⟩ := hI
                        have hk1 : k < 32 := List.mem_range.1 (List.mem_filter.1 hk).1
                        have hl2 : ∀ j, (listed.setIfInBounds j true).size = 32 := fun j => by rw [Array.size_setIfInBounds]; exact hl
                        rcases (show k = 0 ∨ k = 1 ∨ k = 2 ∨ k = 3 ∨ k = 4 ∨ k = 5 ∨ k = 6 ∨ k = 7 ∨ k = 8 ∨ k = 9 ∨ k = 10 ∨ k = 11 ∨ k = 12 ∨ k = 13 ∨ k = 14 ∨ k = 15 ∨ k = 16 ∨ k = 17 ∨ k = 18 ∨ k = 19 ∨ k = 20 ∨ k = 21 ∨ k = 22 ∨ k = 23 ∨ k = 24 ∨ k = 25 ∨ k = 26 ∨ k = 27 ∨ k = 28 ∨ k = 29 ∨ k = 30 ∨ k = 31 by omega) with rfl | rfl | rfl | rfl | rfl | rfl | rfl | rfl | rfl | rfl | rfl | rfl | rfl | rfl | rfl | rfl | rfl | rfl | rfl | rfl | rfl | rfl | rfl | rfl | rfl | rfl | rfl | rfl | rfl | rfl | rfl | rfl
                        · have hk3 := hk
                          exact wpOp_plain rfl rfl (wp_move_v (ac.eval (.tmp 15)) rfl rfl ⟨hl2 0, (hF.put 0 122 (SP.is (.int .i64 (t : Int))) (ac.eval (.tmp 15)) (by rw [hD]; rfl) (((hF.keep 15 (by rw [hD]; rfl)).trans zs15)) (by rw [hD]; rfl) (by rw [hsz]; decide) (by rw [hl]; decide)), hb1⟩)
                        · have hk3 := hk
                          have ea := ((hF.keep 11 (by rw [hD]; rfl)).trans zs11)
                          exact wpOp_plain rfl rfl (wpR_fld 0 0 rfl b11 ea (fS0 b11) ⟨hl2 1, (hF.put 1 123 (SP.is (.pointer (some ⟨b11, 0, none⟩))) (.pointer (some ⟨b11, 0, none⟩)) (by rw [hD]; rfl) rfl (by rw [hD]; rfl) (by rw [hsz]; decide) (by rw [hl]; decide)), hb1⟩)
                        · have hk3 := hk
                          have ea := (hF.done 1 (123, SP.is (.pointer (some ⟨b11, 0, none⟩))) (by rw [hD]; rfl) (ready_dep hk 1 (by kernel_rfl)))
                          have eb := (hF.done 0 (122, SP.is (.int .i64 (t : Int))) (by rw [hD]; rfl) (ready_dep hk 0 (by kernel_rfl)))
                          exact wpOp_plain rfl rfl (wp_ixAr tB64 tBo rfl b11 0 64 t 1 ea eb HTT.out und_B64 bo_info ⟨hl2 2, (hF.put 2 124 (SP.is (.pointer (some ⟨b11, 0 + t * 1, none⟩))) (.pointer (some ⟨b11, 0 + t * 1, none⟩)) (by rw [hD]; rfl) rfl (by rw [hD]; rfl) (by rw [hsz]; decide) (by rw [hl]; decide)), hb1⟩)
                        · have hk3 := hk
                          have ea := (hF.done 2 (124, SP.is (.pointer (some ⟨b11, 0 + t * 1, none⟩))) (by rw [hD]; rfl) (ready_dep hk 2 (by kernel_rfl)))
                          exact wpOp_plain rfl rfl (wp_load_1 b11 (0 + t * 1) (.bool (lsB s2 t)) rfl ea (ldBo W b11 (0 + t * 1) (.bool (lsB s2 t)) (HN1.out W hb1)) ⟨hl2 3, (hF.put 3 125 (SP.is (.bool (lsB s2 t))) (.bool (lsB s2 t)) (by rw [hD]; rfl) rfl (by rw [hD]; rfl) (by rw [hsz]; decide) (by rw [hl]; decide)), hb1⟩)
                        · have hk3 := hk
                          exact wpOp_plain rfl rfl (wp_move_v (ac.eval (.tmp 15)) rfl rfl ⟨hl2 4, (hF.put 4 126 (SP.is (.int .i64 (t : Int))) (ac.eval (.tmp 15)) (by rw [hD]; rfl) (((hF.keep 15 (by rw [hD]; rfl)).trans zs15)) (by rw [hD]; rfl) (by rw [hsz]; decide) (by rw [hl]; decide)), hb1⟩)
                        · have hk3 := hk
                          have ea := ((hF.keep 6 (by rw [hD]; rfl)).trans zs6)
                          exact wpOp_plain rfl rfl (wpR_fld 0 0 rfl b6 ea (fS0 b6) ⟨hl2 5, (hF.put 5 127 (SP.is (.pointer (some ⟨b6, 0, none⟩))) (.pointer (some ⟨b6, 0, none⟩)) (by rw [hD]; rfl) rfl (by rw [hD]; rfl) (by rw [hsz]; decide) (by rw [hl]; decide)), hb1⟩)
                        · have hk3 := hk
                          have ea := (hF.done 5 (127, SP.is (.pointer (some ⟨b6, 0, none⟩))) (by rw [hD]; rfl) (ready_dep hk 5 (by kernel_rfl)))
                          have eb := (hF.done 4 (126, SP.is (.int .i64 (t : Int))) (by rw [hD]; rfl) (ready_dep hk 4 (by kernel_rfl)))
                          exact wpOp_plain rfl rfl (wp_ixAr tB64 tBo rfl b6 0 64 t 1 ea eb HTT.out und_B64 bo_info ⟨hl2 6, (hF.put 6 128 (SP.is (.pointer (some ⟨b6, 0 + t * 1, none⟩))) (.pointer (some ⟨b6, 0 + t * 1, none⟩)) (by rw [hD]; rfl) rfl (by rw [hD]; rfl) (by rw [hsz]; decide) (by rw [hl]; decide)), hb1⟩)
                        · have hk3 := hk
                          have ea := (hF.done 6 (128, SP.is (.pointer (some ⟨b6, 0 + t * 1, none⟩))) (by rw [hD]; rfl) (ready_dep hk 6 (by kernel_rfl)))
                          exact wpOp_plain rfl rfl (wp_load_1 b6 (0 + t * 1) (.bool (lsB s t)) rfl ea (ldBo W b6 (0 + t * 1) (.bool (lsB s t)) (HW1.out W hb1)) ⟨hl2 7, (hF.put 7 129 (SP.is (.bool (lsB s t))) (.bool (lsB s t)) (by rw [hD]; rfl) rfl (by rw [hD]; rfl) (by rw [hsz]; decide) (by rw [hl]; decide)), hb1⟩)
                        · have hk3 := hk
                          have ea := (hF.done 3 (125, SP.is (.bool (lsB s2 t))) (by rw [hD]; rfl) (ready_dep hk 3 (by kernel_rfl)))
                          have eb := (hF.done 7 (129, SP.is (.bool (lsB s t))) (by rw [hD]; rfl) (ready_dep hk 7 (by kernel_rfl)))
                          exact wpOp_plain rfl rfl (wpR_eqBb rfl (lsB s2 t) (lsB s t) true HA1.out ea eb ⟨hl2 8, (hF.put 8 130 (SP.is (.bool true)) (.bool true) (by rw [hD]; rfl) rfl (by rw [hD]; rfl) (by rw [hsz]; decide) (by rw [hl]; decide)), hb1⟩)
                        · have hk3 := hk
                          exact wpOp_plain rfl rfl (wp_move_v (ac.eval (.tmp 130)) rfl rfl ⟨hl2 9, (hF.put 9 131 (SP.is (.bool true)) (ac.eval (.tmp 130)) (by rw [hD]; rfl) ((hF.done 8 (130, SP.is (.bool true)) (by rw [hD]; rfl) (ready_dep hk 8 (by kernel_rfl)))) (by rw [hD]; rfl) (by rw [hsz]; decide) (by rw [hl]; decide)), hb1⟩)
                        · have hk3 := hk
                          exact wpOp_wanted rfl (wanted_g (g := 9) (b := true) rfl rfl (hF.done 9 (131, SP.is (.bool true)) (by rw [hD]; rfl) (ready_dep hk 9 (by kernel_rfl))) (by rw [hF.size, hsz]; decide)) (wp_move_v (ac.eval (.tmp 15)) rfl rfl ⟨hl2 10, (hF.put 10 132 (SP.is (.int .i64 (t : Int))) (ac.eval (.tmp 15)) (by rw [hD]; rfl) (((hF.keep 15 (by rw [hD]; rfl)).trans zs15)) (by rw [hD]; rfl) (by rw [hsz]; decide) (by rw [hl]; decide)), hb1⟩)
                        · have hk3 := hk
                          have ea := ((hF.keep 11 (by rw [hD]; rfl)).trans zs11)
                          exact wpOp_wanted rfl (wanted_g (g := 9) (b := true) rfl rfl (hF.done 9 (131, SP.is (.bool true)) (by rw [hD]; rfl) (ready_dep hk 9 (by kernel_rfl))) (by rw [hF.size, hsz]; decide)) (wpR_fld 1 64 rfl b11 ea (fS1 b11) ⟨hl2 11, (hF.put 11 133 (SP.is (.pointer (some ⟨b11, 64, none⟩))) (.pointer (some ⟨b11, 64, none⟩)) (by rw [hD]; rfl) rfl (by rw [hD]; rfl) (by rw [hsz]; decide) (by rw [hl]; decide)), hb1⟩)
                        · have hk3 := hk
                          have ea := (hF.done 11 (133, SP.is (.pointer (some ⟨b11, 64, none⟩))) (by rw [hD]; rfl) (ready_dep hk 11 (by kernel_rfl)))
                          have eb := (hF.done 10 (132, SP.is (.int .i64 (t : Int))) (by rw [hD]; rfl) (ready_dep hk 10 (by kernel_rfl)))
                          exact wpOp_wanted rfl (wanted_g (g := 9) (b := true) rfl rfl (hF.done 9 (131, SP.is (.bool true)) (by rw [hD]; rfl) (ready_dep hk 9 (by kernel_rfl))) (by rw [hF.size, hsz]; decide)) (wp_ixAr tB64 tBo rfl b11 64 64 t 1 ea eb HTT.out und_B64 bo_info ⟨hl2 12, (hF.put 12 134 (SP.is (.pointer (some ⟨b11, 64 + t * 1, none⟩))) (.pointer (some ⟨b11, 64 + t * 1, none⟩)) (by rw [hD]; rfl) rfl (by rw [hD]; rfl) (by rw [hsz]; decide) (by rw [hl]; decide)), hb1⟩)
                        · have hk3 := hk
                          have ea := (hF.done 12 (134, SP.is (.pointer (some ⟨b11, 64 + t * 1, none⟩))) (by rw [hD]; rfl) (ready_dep hk 12 (by kernel_rfl)))
                          exact wpOp_wanted rfl (wanted_g (g := 9) (b := true) rfl rfl (hF.done 9 (131, SP.is (.bool true)) (by rw [hD]; rfl) (ready_dep hk 9 (by kernel_rfl))) (by rw [hF.size, hsz]; decide)) (wp_load_1 b11 (64 + t * 1) (.bool (stB s2 t)) rfl ea (ldBo W b11 (64 + t * 1) (.bool (stB s2 t)) (HN2.out W hb1)) ⟨hl2 13, (hF.put 13 135 (SP.is (.bool (stB s2 t))) (.bool (stB s2 t)) (by rw [hD]; rfl) rfl (by rw [hD]; rfl) (by rw [hsz]; decide) (by rw [hl]; decide)), hb1⟩)
                        · have hk3 := hk
                          exact wpOp_wanted rfl (wanted_g (g := 9) (b := true) rfl rfl (hF.done 9 (131, SP.is (.bool true)) (by rw [hD]; rfl) (ready_dep hk 9 (by kernel_rfl))) (by rw [hF.size, hsz]; decide)) (wp_move_v (ac.eval (.tmp 15)) rfl rfl ⟨hl2 14, (hF.put 14 136 (SP.is (.int .i64 (t : Int))) (ac.eval (.tmp 15)) (by rw [hD]; rfl) (((hF.keep 15 (by rw [hD]; rfl)).trans zs15)) (by rw [hD]; rfl) (by rw [hsz]; decide) (by rw [hl]; decide)), hb1⟩)
                        · have hk3 := hk
                          have ea := ((hF.keep 6 (by rw [hD]; rfl)).trans zs6)
                          exact wpOp_wanted rfl (wanted_g (g := 9) (b := true) rfl rfl (hF.done 9 (131, SP.is (.bool true)) (by rw [hD]; rfl) (ready_dep hk 9 (by kernel_rfl))) (by rw [hF.size, hsz]; decide)) (wpR_fld 1 64 rfl b6 ea (fS1 b6) ⟨hl2 15, (hF.put 15 137 (SP.is (.pointer (some ⟨b6, 64, none⟩))) (.pointer (some ⟨b6, 64, none⟩)) (by rw [hD]; rfl) rfl (by rw [hD]; rfl) (by rw [hsz]; decide) (by rw [hl]; decide)), hb1⟩)
                        · have hk3 := hk
                          have ea := (hF.done 15 (137, SP.is (.pointer (some ⟨b6, 64, none⟩))) (by rw [hD]; rfl) (ready_dep hk 15 (by kernel_rfl)))
                          have eb := (hF.done 14 (136, SP.is (.int .i64 (t : Int))) (by rw [hD]; rfl) (ready_dep hk 14 (by kernel_rfl)))
                          exact wpOp_wanted rfl (wanted_g (g := 9) (b := true) rfl rfl (hF.done 9 (131, SP.is (.bool true)) (by rw [hD]; rfl) (ready_dep hk 9 (by kernel_rfl))) (by rw [hF.size, hsz]; decide)) (wp_ixAr tB64 tBo rfl b6 64 64 t 1 ea eb HTT.out und_B64 bo_info ⟨hl2 16, (hF.put 16 138 (SP.is (.pointer (some ⟨b6, 64 + t * 1, none⟩))) (.pointer (some ⟨b6, 64 + t * 1, none⟩)) (by rw [hD]; rfl) rfl (by rw [hD]; rfl) (by rw [hsz]; decide) (by rw [hl]; decide)), hb1⟩)
                        · have hk3 := hk
                          have ea := (hF.done 16 (138, SP.is (.pointer (some ⟨b6, 64 + t * 1, none⟩))) (by rw [hD]; rfl) (ready_dep hk 16 (by kernel_rfl)))
                          exact wpOp_wanted rfl (wanted_g (g := 9) (b := true) rfl rfl (hF.done 9 (131, SP.is (.bool true)) (by rw [hD]; rfl) (ready_dep hk 9 (by kernel_rfl))) (by rw [hF.size, hsz]; decide)) (wp_load_1 b6 (64 + t * 1) (.bool (stB s t)) rfl ea (ldBo W b6 (64 + t * 1) (.bool (stB s t)) (HW2.out W hb1)) ⟨hl2 17, (hF.put 17 139 (SP.is (.bool (stB s t))) (.bool (stB s t)) (by rw [hD]; rfl) rfl (by rw [hD]; rfl) (by rw [hsz]; decide) (by rw [hl]; decide)), hb1⟩)
                        · have hk3 := hk
                          have ea := (hF.done 13 (135, SP.is (.bool (stB s2 t))) (by rw [hD]; rfl) (ready_dep hk 13 (by kernel_rfl)))
                          have eb := (hF.done 17 (139, SP.is (.bool (stB s t))) (by rw [hD]; rfl) (ready_dep hk 17 (by kernel_rfl)))
                          exact wpOp_wanted rfl (wanted_g (g := 9) (b := true) rfl rfl (hF.done 9 (131, SP.is (.bool true)) (by rw [hD]; rfl) (ready_dep hk 9 (by kernel_rfl))) (by rw [hF.size, hsz]; decide)) (wpR_eqBb rfl (stB s2 t) (stB s t) false HA2.out ea eb ⟨hl2 18, (hF.put 18 140 (SP.is (.bool false)) (.bool false) (by rw [hD]; rfl) rfl (by rw [hD]; rfl) (by rw [hsz]; decide) (by rw [hl]; decide)), hb1⟩)
                        · have hk3 := hk
                          have ea := (hF.done 9 (131, SP.is (.bool true)) (by rw [hD]; rfl) (ready_dep hk 9 (by kernel_rfl)))
                          have eb := (hF.done 18 (140, SP.is (.bool false)) (by rw [hD]; rfl) (ready_dep hk 18 (by kernel_rfl)))
                          exact wpOp_plain rfl rfl (wpR_pickT (.bool false) rfl ea eb ⟨hl2 19, (hF.put 19 141 (SP.is (.bool false)) (.bool false) (by rw [hD]; rfl) rfl (by rw [hD]; rfl) (by rw [hsz]; decide) (by rw [hl]; decide)), hb1⟩)
                        · have hk3 := hk
                          exact wpOp_plain rfl rfl (wp_move_v (ac.eval (.tmp 141)) rfl rfl ⟨hl2 20, (hF.put 20 142 (SP.is (.bool false)) (ac.eval (.tmp 141)) (by rw [hD]; rfl) ((hF.done 19 (141, SP.is (.bool false)) (by rw [hD]; rfl) (ready_dep hk 19 (by kernel_rfl)))) (by rw [hD]; rfl) (by rw [hsz]; decide) (by rw [hl]; decide)), hb1⟩)
                        · have hk3 := hk
                          exact wpOp_off rfl (unwanted_g (g := 20) (b := true) rfl rfl (hF.done 20 (142, SP.is (.bool false)) (by rw [hD]; rfl) (ready_dep hk 20 (by kernel_rfl))) (by rw [hF.size, hsz]; decide)) ⟨hl2 21, (hF.put 21 143 (SP.is (undef)) undef (by rw [hD]; rfl) rfl (by rw [hD]; rfl) (by rw [hsz]; decide) (by rw [hl]; decide)), hb1⟩
                        · have hk3 := hk
                          exact wpOp_off rfl (unwanted_g (g := 20) (b := true) rfl rfl (hF.done 20 (142, SP.is (.bool false)) (by rw [hD]; rfl) (ready_dep hk 20 (by kernel_rfl))) (by rw [hF.size, hsz]; decide)) ⟨hl2 22, (hF.put 22 144 (SP.is (undef)) undef (by rw [hD]; rfl) rfl (by rw [hD]; rfl) (by rw [hsz]; decide) (by rw [hl]; decide)), hb1⟩
                        · have hk3 := hk
                          exact wpOp_off rfl (unwanted_g (g := 20) (b := true) rfl rfl (hF.done 20 (142, SP.is (.bool false)) (by rw [hD]; rfl) (ready_dep hk 20 (by kernel_rfl))) (by rw [hF.size, hsz]; decide)) ⟨hl2 23, (hF.put 23 145 (SP.is (undef)) undef (by rw [hD]; rfl) rfl (by rw [hD]; rfl) (by rw [hsz]; decide) (by rw [hl]; decide)), hb1⟩
                        · have hk3 := hk
                          exact wpOp_off rfl (unwanted_g (g := 20) (b := true) rfl rfl (hF.done 20 (142, SP.is (.bool false)) (by rw [hD]; rfl) (ready_dep hk 20 (by kernel_rfl))) (by rw [hF.size, hsz]; decide)) ⟨hl2 24, (hF.put 24 146 (SP.is (undef)) undef (by rw [hD]; rfl) rfl (by rw [hD]; rfl) (by rw [hsz]; decide) (by rw [hl]; decide)), hb1⟩
                        · have hk3 := hk
                          exact wpOp_off rfl (unwanted_g (g := 20) (b := true) rfl rfl (hF.done 20 (142, SP.is (.bool false)) (by rw [hD]; rfl) (ready_dep hk 20 (by kernel_rfl))) (by rw [hF.size, hsz]; decide)) ⟨hl2 25, (hF.put 25 147 (SP.is (undef)) undef (by rw [hD]; rfl) rfl (by rw [hD]; rfl) (by rw [hsz]; decide) (by rw [hl]; decide)), hb1⟩
                        · have hk3 := hk
                          exact wpOp_off rfl (unwanted_g (g := 20) (b := true) rfl rfl (hF.done 20 (142, SP.is (.bool false)) (by rw [hD]; rfl) (ready_dep hk 20 (by kernel_rfl))) (by rw [hF.size, hsz]; decide)) ⟨hl2 26, (hF.put 26 148 (SP.is (undef)) undef (by rw [hD]; rfl) rfl (by rw [hD]; rfl) (by rw [hsz]; decide) (by rw [hl]; decide)), hb1⟩
                        · have hk3 := hk
                          exact wpOp_off rfl (unwanted_g (g := 20) (b := true) rfl rfl (hF.done 20 (142, SP.is (.bool false)) (by rw [hD]; rfl) (ready_dep hk 20 (by kernel_rfl))) (by rw [hF.size, hsz]; decide)) ⟨hl2 27, (hF.put 27 149 (SP.is (undef)) undef (by rw [hD]; rfl) rfl (by rw [hD]; rfl) (by rw [hsz]; decide) (by rw [hl]; decide)), hb1⟩
                        · have hk3 := hk
                          exact wpOp_off rfl (unwanted_g (g := 20) (b := true) rfl rfl (hF.done 20 (142, SP.is (.bool false)) (by rw [hD]; rfl) (ready_dep hk 20 (by kernel_rfl))) (by rw [hF.size, hsz]; decide)) ⟨hl2 28, (hF.put 28 150 (SP.is (undef)) undef (by rw [hD]; rfl) rfl (by rw [hD]; rfl) (by rw [hsz]; decide) (by rw [hl]; decide)), hb1⟩
                        · have hk3 := hk
                          exact wpOp_off rfl (unwanted_g (g := 20) (b := true) rfl rfl (hF.done 20 (142, SP.is (.bool false)) (by rw [hD]; rfl) (ready_dep hk 20 (by kernel_rfl))) (by rw [hF.size, hsz]; decide)) ⟨hl2 29, (hF.put 29 151 (SP.is (undef)) undef (by rw [hD]; rfl) rfl (by rw [hD]; rfl) (by rw [hsz]; decide) (by rw [hl]; decide)), hb1⟩
                        · have hk3 := hk
                          have ea := (hF.done 20 (142, SP.is (.bool false)) (by rw [hD]; rfl) (ready_dep hk 20 (by kernel_rfl)))
                          exact wpOp_plain rfl rfl (wpR_pickF (.bool false) rfl ea rfl ⟨hl2 30, (hF.put 30 152 (SP.is (.bool false)) (.bool false) (by rw [hD]; rfl) rfl (by rw [hD]; rfl) (by rw [hsz]; decide) (by rw [hl]; decide)), hb1⟩)
                        · have hk3 := hk
                          exact wpOp_plain rfl rfl (wp_assign_v (ac.eval (.tmp 152)) rfl rfl ⟨hl2 31, (hF.put 31 16 (SP.is (.bool false)) (ac.eval (.tmp 152)) (by rw [hD]; rfl) ((hF.done 30 (152, SP.is (.bool false)) (by rw [hD]; rfl) (ready_dep hk 30 (by kernel_rfl)))) (by rw [hD]; rfl) (by rw [hsz]; decide) (by rw [hl]; decide)), hb1⟩)
                      · clear hb1  
                        intro listed ac W hI hr
                        obtain ⟨hl, hF, hb1⟩ := hI
                        have hall := all_listed (by kernel_rfl) hl hr
                        have h122 : ac.eval (.tmp 122) = .int .i64 (t : Int) := hF.done 0 (122, SP.is (.int .i64 (t : Int))) (by rw [hD]; rfl) (hall 0 (by decide))
                        have h123 : ac.eval (.tmp 123) = .pointer (some ⟨b11, 0, none⟩) := hF.done 1 (123, SP.is (.pointer (some ⟨b11, 0, none⟩))) (by rw [hD]; rfl) (hall 1 (by decide))
                        have h124 : ac.eval (.tmp 124) = .pointer (some ⟨b11, 0 + t * 1, none⟩) := hF.done 2 (124, SP.is (.pointer (some ⟨b11, 0 + t * 1, none⟩))) (by rw [hD]; rfl) (hall 2 (by decide))
                        have h125 : ac.eval (.tmp 125) = .bool (lsB s2 t) := hF.done 3 (125, SP.is (.bool (lsB s2 t))) (by rw [hD]; rfl) (hall 3 (by decide))
                        have h126 : ac.eval (.tmp 126) = .int .i64 (t : Int) := hF.done 4 (126, SP.is (.int .i64 (t : Int))) (by rw [hD]; rfl) (hall 4 (by decide))
                        have h127 : ac.eval (.tmp 127) = .pointer (some ⟨b6, 0, none⟩) := hF.done 5 (127, SP.is (.pointer (some ⟨b6, 0, none⟩))) (by rw [hD]; rfl) (hall 5 (by decide))
                        have h128 : ac.eval (.tmp 128) = .pointer (some ⟨b6, 0 + t * 1, none⟩) := hF.done 6 (128, SP.is (.pointer (some ⟨b6, 0 + t * 1, none⟩))) (by rw [hD]; rfl) (hall 6 (by decide))
                        have h129 : ac.eval (.tmp 129) = .bool (lsB s t) := hF.done 7 (129, SP.is (.bool (lsB s t))) (by rw [hD]; rfl) (hall 7 (by decide))
                        have h130 : ac.eval (.tmp 130) = .bool true := hF.done 8 (130, SP.is (.bool true)) (by rw [hD]; rfl) (hall 8 (by decide))
                        have h131 : ac.eval (.tmp 131) = .bool true := hF.done 9 (131, SP.is (.bool true)) (by rw [hD]; rfl) (hall 9 (by decide))
                        have h132 : ac.eval (.tmp 132) = .int .i64 (t : Int) := hF.done 10 (132, SP.is (.int .i64 (t : Int))) (by rw [hD]; rfl) (hall 10 (by decide))
                        have h133 : ac.eval (.tmp 133) = .pointer (some ⟨b11, 64, none⟩) := hF.done 11 (133, SP.is (.pointer (some ⟨b11, 64, none⟩))) (by rw [hD]; rfl) (hall 11 (by decide))
                        have h134 : ac.eval (.tmp 134) = .pointer (some ⟨b11, 64 + t * 1, none⟩) := hF.done 12 (134, SP.is (.pointer (some ⟨b11, 64 + t * 1, none⟩))) (by rw [hD]; rfl) (hall 12 (by decide))
                        have h135 : ac.eval (.tmp 135) = .bool (stB s2 t) := hF.done 13 (135, SP.is (.bool (stB s2 t))) (by rw [hD]; rfl) (hall 13 (by decide))
                        have h136 : ac.eval (.tmp 136) = .int .i64 (t : Int) := hF.done 14 (136, SP.is (.int .i64 (t : Int))) (by rw [hD]; rfl) (hall 14 (by decide))
                        have h137 : ac.eval (.tmp 137) = .pointer (some ⟨b6, 64, none⟩) := hF.done 15 (137, SP.is (.pointer (some ⟨b6, 64, none⟩))) (by rw [hD]; rfl) (hall 15 (by decide))
                        have h138 : ac.eval (.tmp 138) = .pointer (some ⟨b6, 64 + t * 1, none⟩) := hF.done 16 (138, SP.is (.pointer (some ⟨b6, 64 + t * 1, none⟩))) (by rw [hD]; rfl) (hall 16 (by decide))
                        have h139 : ac.eval (.tmp 139) = .bool (stB s t) := hF.done 17 (139, SP.is (.bool (stB s t))) (by rw [hD]; rfl) (hall 17 (by decide))
                        have h140 : ac.eval (.tmp 140) = .bool false := hF.done 18 (140, SP.is (.bool false)) (by rw [hD]; rfl) (hall 18 (by decide))
                        have h141 : ac.eval (.tmp 141) = .bool false := hF.done 19 (141, SP.is (.bool false)) (by rw [hD]; rfl) (hall 19 (by decide))
                        have h142 : ac.eval (.tmp 142) = .bool false := hF.done 20 (142, SP.is (.bool false)) (by rw [hD]; rfl) (hall 20 (by decide))
                        have h143 : ac.eval (.tmp 143) = undef := hF.done 21 (143, SP.is (undef)) (by rw [hD]; rfl) (hall 21 (by decide))
                        have h144 : ac.eval (.tmp 144) = undef := hF.done 22 (144, SP.is (undef)) (by rw [hD]; rfl) (hall 22 (by decide))
                        have h145 : ac.eval (.tmp 145) = undef := hF.done 23 (145, SP.is (undef)) (by rw [hD]; rfl) (hall 23 (by decide))
                        have h146 : ac.eval (.tmp 146) = undef := hF.done 24 (146, SP.is (undef)) (by rw [hD]; rfl) (hall 24 (by decide))
                        have h147 : ac.eval (.tmp 147) = undef := hF.done 25 (147, SP.is (undef)) (by rw [hD]; rfl) (hall 25 (by decide))
                        have h148 : ac.eval (.tmp 148) = undef := hF.done 26 (148, SP.is (undef)) (by rw [hD]; rfl) (hall 26 (by decide))
                        have h149 : ac.eval (.tmp 149) = undef := hF.done 27 (149, SP.is (undef)) (by rw [hD]; rfl) (hall 27 (by decide))
                        have h150 : ac.eval (.tmp 150) = undef := hF.done 28 (150, SP.is (undef)) (by rw [hD]; rfl) (hall 28 (by decide))
                        have h151 : ac.eval (.tmp 151) = undef := hF.done 29 (151, SP.is (undef)) (by rw [hD]; rfl) (hall 29 (by decide))
                        have h152 : ac.eval (.tmp 152) = .bool false := hF.done 30 (152, SP.is (.bool false)) (by rw [hD]; rfl) (hall 30 (by decide))
                        have h16 : ac.eval (.tmp 16) = .bool false := hF.done 31 (16, SP.is (.bool false)) (by rw [hD]; rfl) (hall 31 (by decide))
                        have ea := hF.lay [(122, .int .i64 (t : Int)), (123, .pointer (some ⟨b11, 0, none⟩)), (124, .pointer (some ⟨b11, 0 + t * 1, none⟩)), (125, .bool (lsB s2 t)), (126, .int .i64 (t : Int)), (127, .pointer (some ⟨b6, 0, none⟩)), (128, .pointer (some ⟨b6, 0 + t * 1, none⟩)), (129, .bool (lsB s t)), (130, .bool true), (131, .bool true), (132, .int .i64 (t : Int)), (133, .pointer (some ⟨b11, 64, none⟩)), (134, .pointer (some ⟨b11, 64 + t * 1, none⟩)), (135, .bool (stB s2 t)), (136, .int .i64 (t : Int)), (137, .pointer (some ⟨b6, 64, none⟩)), (138, .pointer (some ⟨b6, 64 + t * 1, none⟩)), (139, .bool (stB s t)), (140, .bool false), (141, .bool false), (142, .bool false), (143, undef), (144, undef), (145, undef), (146, undef), (147, undef), (148, undef), (149, undef), (150, undef), (151, undef), (152, .bool false), (16, .bool false)] (by rw [hD, hsz]; rfl) (by simp only [List.forall_mem_cons, List.not_mem_nil, false_implies, implies_true, and_true]; exact ⟨h122, h123, h124, h125, h126, h127, h128, h129, h130, h131, h132, h133, h134, h135, h136, h137, h138, h139, h140, h141, h142, h143, h144, h145, h146, h147, h148, h149, h150, h151, h152, h16⟩)
                        rw [ha0] at ea
                        simp only [List.foldl_cons, List.foldl_nil, List.setIfInBounds_toArray, List.set_cons_zero, List.set_cons_succ] at ea
                        clear hF hall hr hl hD  zs6 zs11 zs15 ha0 hsz h122 h123 h124 h125 h126 h127 h128 h129 h130 h131 h132 h133 h134 h135 h136 h137 h138 h139 h140 h141 h142 h143 h144 h145 h146 h147 h148 h149 h150 h151 h152 h16
                        subst ea
                        have HB5 : Hid (Below Z.heap.size Z W) := HBQ.out.trans (hb1.mono HBQ.out.size)
                        have ctk : W.cell? ⟨b, o + i * 8 + 2, none⟩ = some (.int .i64 tk) := HCT0.out W ((HRZZ.out.be HB5.out).v.below)
                        clear hb1
                        obtain ⟨htk2, htk3⟩ := HTB.out
                        have htk4 : decide ((4 : Int) < k) = false := decide_eq_false (by omega)
                        have htk5 : ¬ (4 : Int) < k := by omega
                        go_wp2_with (first
                          | (refine wpList_ixs 22 35 (.tmp 157) (.tmp 158) rfl b o N c0 i 8 rfl rfl HIN.out und_Ss info_S rfl ?_; simp only [Act.put, List.setIfInBounds_toArray, List.set_cons_zero, List.set_cons_succ]))
                        exact ⟨⟨t + 1, HTT.out, by go_num, HB5.out⟩, by simp [intOf]; have := HTT.out; omega⟩
                    | true =>
                      have HA2 : Hid ((stB s2 t == stB s t) = true) := ha2
                      clear ha2 htt
                      have hb1 := Below.refl wq.heap.size wq
                      refine wp_named fun a0 ha0 => ?_
                      have hsz : a0.tmps.size = 181 := by rw [ha0]; rfl
                      have zs6 : a0.eval (.tmp 6) = .pointer (some ⟨b6, 0, none⟩) := by rw [ha0]; rfl
                      have zs11 : a0.eval (.tmp 11) = .pointer (some ⟨b11, 0, none⟩) := by rw [ha0]; rfl
                      have zs15 : a0.eval (.tmp 15) = .int .i64 (t : Int) := by rw [ha0]; rfl
                      obtain ⟨D, hD⟩ : ∃ D : List (Tmp × SP), D = [(122, SP.is (.int .i64 (t : Int))), (123, SP.is (.pointer (some ⟨b11, 0, none⟩))), (124, SP.is (.pointer (some ⟨b11, 0 + t * 1, none⟩))), (125, SP.is (.bool (lsB s2 t))), (126, SP.is (.int .i64 (t : Int))), (127, SP.is (.pointer (some ⟨b6, 0, none⟩))), (128, SP.is (.pointer (some ⟨b6, 0 + t * 1, none⟩))), (129, SP.is (.bool (lsB s t))), (130, SP.is (.bool true)), (131, SP.is (.bool true)), (132, SP.is (.int .i64 (t : Int))), (133, SP.is (.pointer (some ⟨b11, 64, none⟩))), (134, SP.is (.pointer (some ⟨b11, 64 + t * 1, none⟩))), (135, SP.is (.bool (stB s2 t))), (136, SP.is (.int .i64 (t : Int))), (137, SP.is (.pointer (some ⟨b6, 64, none⟩))), (138, SP.is (.pointer (some ⟨b6, 64 + t * 1, none⟩))), (139, SP.is (.bool (stB s t))), (140, SP.is (.bool true)), (141, SP.is (.bool true)), (142, SP.is (.bool true)), (143, SP.is (.int .i64 (t : Int))), (144, SP.is (.pointer (some ⟨b11, 128, none⟩))), (145, SP.is (.pointer (some ⟨b11, 128 + t * 4, none⟩))), (146, SP.is (.agg (vQ (dgs (hm s2 t) 4)).toArray)), (147, SP.is (.int .i64 (t : Int))), (148, SP.is (.pointer (some ⟨b6, 128, none⟩))), (149, SP.is (.pointer (some ⟨b6, 128 + t * 4, none⟩))), (150, SP.is (.agg (vQ (dgs (hm s t) 4)).toArray)), (151, SP.is (.bool B3)), (152, SP.is (.bool B3)), (16, SP.is (.bool B3))] := ⟨_, rfl⟩
                      refine wp_region_down (by kernel_rfl) (fun listed ac W => listed.size = 32 ∧ Fp D a0 listed ac W ∧ Below wq.heap.size wq W) ?_ ?_ ?_
                      · exact ⟨by simp, Fp.start D a0 _ _, Below.drew hb1⟩
                      · clear ha0 hb1  
                        intro listed ac W k hI hdn hk
                        obtain ⟨hl, hF, hb1⟩ := hI
                        have hk1 : k < 32 := List.mem_range.1 (List.mem_filter.1 hk).1
                        have hl2 : ∀ j, (listed.setIfInBounds j true).size = 32 := fun j => by rw [Array.size_setIfInBounds]; exact hl
                        rcases (show k = 0 ∨ k = 1 ∨ k = 2 ∨ k = 3 ∨ k = 4 ∨ k = 5 ∨ k = 6 ∨ k = 7 ∨ k = 8 ∨ k = 9 ∨ k = 10 ∨ k = 11 ∨ k = 12 ∨ k = 13 ∨ k = 14 ∨ k = 15 ∨ k = 16 ∨ k = 17 ∨ k = 18 ∨ k = 19 ∨ k = 20 ∨ k = 21 ∨ k = 22 ∨ k = 23 ∨ k = 24 ∨ k = 25 ∨ k = 26 ∨ k = 27 ∨ k = 28 ∨ k = 29 ∨ k = 30 ∨ k = 31 by omega) with rfl | rfl | rfl | rfl | rfl | rfl | rfl | rfl | rfl | rfl | rfl | rfl | rfl | rfl | rfl | rfl | rfl | rfl | rfl | rfl | rfl | rfl | rfl | rfl | rfl | rfl | rfl | rfl | rfl | rfl | rfl | rfl
                        · have hk3 := hk
                          exact wpOp_plain rfl rfl (wp_move_v (ac.eval (.tmp 15)) rfl rfl ⟨hl2 0, (hF.put 0 122 (SP.is (.int .i64 (t : Int))) (ac.eval (.tmp 15)) (by rw [hD]; rfl) (((hF.keep 15 (by rw [hD]; rfl)).trans zs15)) (by rw [hD]; rfl) (by rw [hsz]; decide) (by rw [hl]; decide)), hb1⟩)
                        · have hk3 := hk
                          have ea := ((hF.keep 11 (by rw [hD]; rfl)).trans zs11)
                          exact wpOp_plain rfl rfl (wpR_fld 0 0 rfl b11 ea (fS0 b11) ⟨hl2 1, (hF.put 1 123 (SP.is (.pointer (some ⟨b11, 0, none⟩))) (.pointer (some ⟨b11, 0, none⟩)) (by rw [hD]; rfl) rfl (by rw [hD]; rfl) (by rw [hsz]; decide) (by rw [hl]; decide)), hb1⟩)
                        · have hk3 := hk
                          have ea := (hF.done 1 (123, SP.is (.pointer (some ⟨b11, 0, none⟩))) (by rw [hD]; rfl) (ready_dep hk 1 (by kernel_rfl)))
                          have eb := (hF.done 0 (122, SP.is (.int .i64 (t : Int))) (by rw [hD]; rfl) (ready_dep hk 0 (by kernel_rfl)))
                          exact wpOp_plain rfl rfl (wp_ixAr tB64 tBo rfl b11 0 64 t 1 ea eb HTT.out und_B64 bo_info ⟨hl2 2, (hF.put 2 124 (SP.is (.pointer (some ⟨b11, 0 + t * 1, none⟩))) (.pointer (some ⟨b11, 0 + t * 1, none⟩)) (by rw [hD]; rfl) rfl (by rw [hD]; rfl) (by rw [hsz]; decide) (by rw [hl]; decide)), hb1⟩)
                        · have hk3 := hk
                          have ea := (hF.done 2 (124, SP.is (.pointer (some ⟨b11, 0 + t * 1, none⟩))) (by rw [hD]; rfl) (ready_dep hk 2 (by kernel_rfl)))
                          exact wpOp_plain rfl rfl (wp_load_1 b11 (0 + t * 1) (.bool (lsB s2 t)) rfl ea (ldBo W b11 (0 + t * 1) (.bool (lsB s2 t)) (HN1.out W hb1)) ⟨hl2 3, (hF.put 3 125 (SP.is (.bool (lsB s2 t))) (.bool (lsB s2 t)) (by rw [hD]; rfl) rfl (by rw [hD]; rfl) (by rw [hsz]; decide) (by rw [hl]; decide)), hb1⟩)
                        · have hk3 := hk
                          exact wpOp_plain rfl rfl (wp_move_v (ac.eval (.tmp 15)) rfl rfl ⟨hl2 4, (hF.put 4 126 (SP.is (.int .i64 (t : Int))) (ac.eval (.tmp 15)) (by rw [hD]; rfl) (((hF.keep 15 (by rw [hD]; rfl)).trans zs15)) (by rw [hD]; rfl) (by rw [hsz]; decide) (by rw [hl]; decide)), hb1⟩)
                        · have hk3 := hk
                          have ea := ((hF.keep 6 (by rw [hD]; rfl)).trans zs6)
                          exact wpOp_plain rfl rfl (wpR_fld 0 0 rfl b6 ea (fS0 b6) ⟨hl2 5, (hF.put 5 127 (SP.is (.pointer (some ⟨b6, 0, none⟩))) (.pointer (some ⟨b6, 0, none⟩)) (by rw [hD]; rfl) rfl (by rw [hD]; rfl) (by rw [hsz]; decide) (by rw [hl]; decide)), hb1⟩)
                        · have hk3 := hk
                          have ea := (hF.done 5 (127, SP.is (.pointer (some ⟨b6, 0, none⟩))) (by rw [hD]; rfl) (ready_dep hk 5 (by kernel_rfl)))
                          have eb := (hF.done 4 (126, SP.is (.int .i64 (t : Int))) (by rw [hD]; rfl) (ready_dep hk 4 (by kernel_rfl)))
                          exact wpOp_plain rfl rfl (wp_ixAr tB64 tBo rfl b6 0 64 t 1 ea eb HTT.out und_B64 bo_info ⟨hl2 6, (hF.put 6 128 (SP.is (.pointer (some ⟨b6, 0 + t * 1, none⟩))) (.pointer (some ⟨b6, 0 + t * 1, none⟩)) (by rw [hD]; rfl) rfl (by rw [hD]; rfl) (by rw [hsz]; decide) (by rw [hl]; decide)), hb1⟩)
                        · have hk3 := hk
                          have ea := (hF.done 6 (128, SP.is (.pointer (some ⟨b6, 0 + t * 1, none⟩))) (by rw [hD]; rfl) (ready_dep hk 6 (by kernel_rfl)))
                          exact wpOp_plain rfl rfl (wp_load_1 b6 (0 + t * 1) (.bool (lsB s t)) rfl ea (ldBo W b6 (0 + t * 1) (.bool (lsB s t)) (HW1.out W hb1)) ⟨hl2 7, (hF.put 7 129 (SP.is (.bool (lsB s t))) (.bool (lsB s t)) (by rw [hD]; rfl) rfl (by rw [hD]; rfl) (by rw [hsz]; decide) (by rw [hl]; decide)), hb1⟩)
                        · have hk3 := hk
                          have ea := (hF.done 3 (125, SP.is (.bool (lsB s2 t))) (by rw [hD]; rfl) (ready_dep hk 3 (by kernel_rfl)))
                          have eb := (hF.done 7 (129, SP.is (.bool (lsB s t))) (by rw [hD]; rfl) (ready_dep hk 7 (by kernel_rfl)))
                          exact wpOp_plain rfl rfl (wpR_eqBb rfl (lsB s2 t) (lsB s t) true HA1.out ea eb ⟨hl2 8, (hF.put 8 130 (SP.is (.bool true)) (.bool true) (by rw [hD]; rfl) rfl (by rw [hD]; rfl) (by rw [hsz]; decide) (by rw [hl]; decide)), hb1⟩)
                        · have hk3 := hk
                          exact wpOp_plain rfl rfl (wp_move_v (ac.eval (.tmp 130)) rfl rfl ⟨hl2 9, (hF.put 9 131 (SP.is (.bool true)) (ac.eval (.tmp 130)) (by rw [hD]; rfl) ((hF.done 8 (130, SP.is (.bool true)) (by rw [hD]; rfl) (ready_dep hk 8 (by kernel_rfl)))) (by rw [hD]; rfl) (by rw [hsz]; decide) (by rw [hl]; decide)), hb1⟩)
                        · have hk3 := hk
                          exact wpOp_wanted rfl (wanted_g (g := 9) (b := true) rfl rfl (hF.done 9 (131, SP.is (.bool true)) (by rw [hD]; rfl) (ready_dep hk 9 (by kernel_rfl))) (by rw [hF.size, hsz]; decide)) (wp_move_v (ac.eval (.tmp 15)) rfl rfl ⟨hl2 10, (hF.put 10 132 (SP.is (.int .i64 (t : Int))) (ac.eval (.tmp 15)) (by rw [hD]; rfl) (((hF.keep 15 (by rw [hD]; rfl)).trans zs15)) (by rw [hD]; rfl) (by rw [hsz]; decide) (by rw [hl]; decide)), hb1⟩)
                        · have hk3 := hk
                          have ea := ((hF.keep 11 (by rw [hD]; rfl)).trans zs11)
                          exact wpOp_wanted rfl (wanted_g (g := 9) (b := true) rfl rfl (hF.done 9 (131, SP.is (.bool true)) (by rw [hD]; rfl) (ready_dep hk 9 (by kernel_rfl))) (by rw [hF.size, hsz]; decide)) (wpR_fld 1 64 rfl b11 ea (fS1 b11) ⟨hl2 11, (hF.put 11 133 (SP.is (.pointer (some ⟨b11, 64, none⟩))) (.pointer (some ⟨b11, 64, none⟩)) (by rw [hD]; rfl) rfl (by rw [hD]; rfl) (by rw [hsz]; decide) (by rw [hl]; decide)), hb1⟩)
                        · have hk3 := hk
                          have ea := (hF.done 11 (133, SP.is (.pointer (some ⟨b11, 64, none⟩))) (by rw [hD]; rfl) (ready_dep hk 11 (by kernel_rfl)))
                          have eb := (hF.done 10 (132, SP.is (.int .i64 (t : Int))) (by rw [hD]; rfl) (ready_dep hk 10 (by kernel_rfl)))
                          exact wpOp_wanted rfl (wanted_g (g := 9) (b := true) rfl rfl (hF.done 9 (131, SP.is (.bool true)) (by rw [hD]; rfl) (ready_dep hk 9 (by kernel_rfl))) (by rw [hF.size, hsz]; decide)) (wp_ixAr tB64 tBo rfl b11 64 64 t 1 ea eb HTT.out und_B64 bo_info ⟨hl2 12, (hF.put 12 134 (SP.is (.pointer (some ⟨b11, 64 + t * 1, none⟩))) (.pointer (some ⟨b11, 64 + t * 1, none⟩)) (by rw [hD]; rfl) rfl (by rw [hD]; rfl) (by rw [hsz]; decide) (by rw [hl]; decide)), hb1⟩)
                        · have hk3 := hk
                          have ea := (hF.done 12 (134, SP.is (.pointer (some ⟨b11, 64 + t * 1, none⟩))) (by rw [hD]; rfl) (ready_dep hk 12 (by kernel_rfl)))
                          exact wpOp_wanted rfl (wanted_g (g := 9) (b := true) rfl rfl (hF.done 9 (131, SP.is (.bool true)) (by rw [hD]; rfl) (ready_dep hk 9 (by kernel_rfl))) (by rw [hF.size, hsz]; decide)) (wp_load_1 b11 (64 + t * 1) (.bool (stB s2 t)) rfl ea (ldBo W b11 (64 + t * 1) (.bool (stB s2 t)) (HN2.out W hb1)) ⟨hl2 13, (hF.put 13 135 (SP.is (.bool (stB s2 t))) (.bool (stB s2 t)) (by rw [hD]; rfl) rfl (by rw [hD]; rfl) (by rw [hsz]; decide) (by rw [hl]; decide)), hb1⟩)
                        · have hk3 := hk
                          exact wpOp_wanted rfl (wanted_g (g := 9) (b := true) rfl rfl (hF.done 9 (131, SP.is (.bool true)) (by rw [hD]; rfl) (ready_dep hk 9 (by kernel_rfl))) (by rw [hF.size, hsz]; decide)) (wp_move_v (ac.eval (.tmp 15)) rfl rfl ⟨hl2 14, (hF.put 14 136 (SP.is (.int .i64 (t : Int))) (ac.eval (.tmp 15)) (by rw [hD]; rfl) (((hF.keep 15 (by rw [hD]; rfl)).trans zs15)) (by rw [hD]; rfl) (by rw [hsz]; decide) (by rw [hl]; decide)), hb1⟩)
                        · have hk3 := hk
                          have ea := ((hF.keep 6 (by rw [hD]; rfl)).trans zs6)
                          exact wpOp_wanted rfl (wanted_g (g := 9) (b := true) rfl rfl (hF.done 9 (131, SP.is (.bool true)) (by rw [hD]; rfl) (ready_dep hk 9 (by kernel_rfl))) (by rw [hF.size, hsz]; decide)) (wpR_fld 1 64 rfl b6 ea (fS1 b6) ⟨hl2 15, (hF.put 15 137 (SP.is (.pointer (some ⟨b6, 64, none⟩))) (.pointer (some ⟨b6, 64, none⟩)) (by rw [hD]; rfl) rfl (by rw [hD]; rfl) (by rw [hsz]; decide) (by rw [hl]; decide)), hb1⟩)
                        · have hk3 := hk
                          have ea := (hF.done 15 (137, SP.is (.pointer (some ⟨b6, 64, none⟩))) (by rw [hD]; rfl) (ready_dep hk 15 (by kernel_rfl)))
                          have eb := (hF.done 14 (136, SP.is (.int .i64 (t : Int))) (by rw [hD]; rfl) (ready_dep hk 14 (by kernel_rfl)))
                          exact wpOp_wanted rfl (wanted_g (g := 9) (b := true) rfl rfl (hF.done 9 (131, SP.is (.bool true)) (by rw [hD]; rfl) (ready_dep hk 9 (by kernel_rfl))) (by rw [hF.size, hsz]; decide)) (wp_ixAr tB64 tBo rfl b6 64 64 t 1 ea eb HTT.out und_B64 bo_info ⟨hl2 16, (hF.put 16 138 (SP.is (.pointer (some ⟨b6, 64 + t * 1, none⟩))) (.pointer (some ⟨b6, 64 + t * 1, none⟩)) (by rw [hD]; rfl) rfl (by rw [hD]; rfl) (by rw [hsz]; decide) (by rw [hl]; decide)), hb1⟩)
                        · have hk3 := hk
                          have ea := (hF.done 16 (138, SP.is (.pointer (some ⟨b6, 64 + t * 1, none⟩))) (by rw [hD]; rfl) (ready_dep hk 16 (by kernel_rfl)))
                          exact wpOp_wanted rfl (wanted_g (g := 9) (b := true) rfl rfl (hF.done 9 (131, SP.is (.bool true)) (by rw [hD]; rfl) (ready_dep hk 9 (by kernel_rfl))) (by rw [hF.size, hsz]; decide)) (wp_load_1 b6 (64 + t * 1) (.bool (stB s t)) rfl ea (ldBo W b6 (64 + t * 1) (.bool (stB s t)) (HW2.out W hb1)) ⟨hl2 17, (hF.put 17 139 (SP.is (.bool (stB s t))) (.bool (stB s t)) (by rw [hD]; rfl) rfl (by rw [hD]; rfl) (by rw [hsz]; decide) (by rw [hl]; decide)), hb1⟩)
                        · have hk3 := hk
                          have ea := (hF.done 13 (135, SP.is (.bool (stB s2 t))) (by rw [hD]; rfl) (ready_dep hk 13 (by kernel_rfl)))
                          have eb := (hF.done 17 (139, SP.is (.bool (stB s t))) (by rw [hD]; rfl) (ready_dep hk 17 (by kernel_rfl)))
                          exact wpOp_wanted rfl (wanted_g (g := 9) (b := true) rfl rfl (hF.done 9 (131, SP.is (.bool true)) (by rw [hD]; rfl) (ready_dep hk 9 (by kernel_rfl))) (by rw [hF.size, hsz]; decide)) (wpR_eqBb rfl (stB s2 t) (stB s t) true HA2.out ea eb ⟨hl2 18, (hF.put 18 140 (SP.is (.bool true)) (.bool true) (by rw [hD]; rfl) rfl (by rw [hD]; rfl) (by rw [hsz]; decide) (by rw [hl]; decide)), hb1⟩)
                        · have hk3 := hk
                          have ea := (hF.done 9 (131, SP.is (.bool true)) (by rw [hD]; rfl) (ready_dep hk 9 (by kernel_rfl)))
                          have eb := (hF.done 18 (140, SP.is (.bool true)) (by rw [hD]; rfl) (ready_dep hk 18 (by kernel_rfl)))
                          exact wpOp_plain rfl rfl (wpR_pickT (.bool true) rfl ea eb ⟨hl2 19, (hF.put 19 141 (SP.is (.bool true)) (.bool true) (by rw [hD]; rfl) rfl (by rw [hD]; rfl) (by rw [hsz]; decide) (by rw [hl]; decide)), hb1⟩)
                        · have hk3 := hk
                          exact wpOp_plain rfl rfl (wp_move_v (ac.eval (.tmp 141)) rfl rfl ⟨hl2 20, (hF.put 20 142 (SP.is (.bool true)) (ac.eval (.tmp 141)) (by rw [hD]; rfl) ((hF.done 19 (141, SP.is (.bool true)) (by rw [hD]; rfl) (ready_dep hk 19 (by kernel_rfl)))) (by rw [hD]; rfl) (by rw [hsz]; decide) (by rw [hl]; decide)), hb1⟩)
                        · have hk3 := hk
                          exact wpOp_wanted rfl (wanted_g (g := 20) (b := true) rfl rfl (hF.done 20 (142, SP.is (.bool true)) (by rw [hD]; rfl) (ready_dep hk 20 (by kernel_rfl))) (by rw [hF.size, hsz]; decide)) (wp_move_v (ac.eval (.tmp 15)) rfl rfl ⟨hl2 21, (hF.put 21 143 (SP.is (.int .i64 (t : Int))) (ac.eval (.tmp 15)) (by rw [hD]; rfl) (((hF.keep 15 (by rw [hD]; rfl)).trans zs15)) (by rw [hD]; rfl) (by rw [hsz]; decide) (by rw [hl]; decide)), hb1⟩)
                        · have hk3 := hk
                          have ea := ((hF.keep 11 (by rw [hD]; rfl)).trans zs11)
                          exact wpOp_wanted rfl (wanted_g (g := 20) (b := true) rfl rfl (hF.done 20 (142, SP.is (.bool true)) (by rw [hD]; rfl) (ready_dep hk 20 (by kernel_rfl))) (by rw [hF.size, hsz]; decide)) (wpR_fld 2 128 rfl b11 ea (fS2 b11) ⟨hl2 22, (hF.put 22 144 (SP.is (.pointer (some ⟨b11, 128, none⟩))) (.pointer (some ⟨b11, 128, none⟩)) (by rw [hD]; rfl) rfl (by rw [hD]; rfl) (by rw [hsz]; decide) (by rw [hl]; decide)), hb1⟩)
                        · have hk3 := hk
                          have ea := (hF.done 22 (144, SP.is (.pointer (some ⟨b11, 128, none⟩))) (by rw [hD]; rfl) (ready_dep hk 22 (by kernel_rfl)))
                          have eb := (hF.done 21 (143, SP.is (.int .i64 (t : Int))) (by rw [hD]; rfl) (ready_dep hk 21 (by kernel_rfl)))
                          exact wpOp_wanted rfl (wanted_g (g := 20) (b := true) rfl rfl (hF.done 20 (142, SP.is (.bool true)) (by rw [hD]; rfl) (ready_dep hk 20 (by kernel_rfl))) (by rw [hF.size, hsz]; decide)) (wp_ixAr tW64 33 rfl b11 128 64 t 4 ea eb HTT.out und_W64 wd_info ⟨hl2 23, (hF.put 23 145 (SP.is (.pointer (some ⟨b11, 128 + t * 4, none⟩))) (.pointer (some ⟨b11, 128 + t * 4, none⟩)) (by rw [hD]; rfl) rfl (by rw [hD]; rfl) (by rw [hsz]; decide) (by rw [hl]; decide)), hb1⟩)
                        · have hk3 := hk
                          have ea := (hF.done 23 (145, SP.is (.pointer (some ⟨b11, 128 + t * 4, none⟩))) (by rw [hD]; rfl) (ready_dep hk 23 (by kernel_rfl)))
                          exact wpOp_wanted rfl (wanted_g (g := 20) (b := true) rfl rfl (hF.done 20 (142, SP.is (.bool true)) (by rw [hD]; rfl) (ready_dep hk 20 (by kernel_rfl))) (by rw [hF.size, hsz]; decide)) (wp_load_mid 33 (.tmp 145) rfl b11 (128 + t * 4) ea (vQ (dgs (hm s2 t) 4)) _ (HN3.out W hb1) Try.underlying33 rfl (by rw [v4_len]; exact wd_info) ⟨hl2 24, (hF.put 24 146 (SP.is (.agg (vQ (dgs (hm s2 t) 4)).toArray)) (.agg (vQ (dgs (hm s2 t) 4)).toArray) (by rw [hD]; rfl) rfl (by rw [hD]; rfl) (by rw [hsz]; decide) (by rw [hl]; decide)), hb1⟩)
                        · have hk3 := hk
                          exact wpOp_wanted rfl (wanted_g (g := 20) (b := true) rfl rfl (hF.done 20 (142, SP.is (.bool true)) (by rw [hD]; rfl) (ready_dep hk 20 (by kernel_rfl))) (by rw [hF.size, hsz]; decide)) (wp_move_v (ac.eval (.tmp 15)) rfl rfl ⟨hl2 25, (hF.put 25 147 (SP.is (.int .i64 (t : Int))) (ac.eval (.tmp 15)) (by rw [hD]; rfl) (((hF.keep 15 (by rw [hD]; rfl)).trans zs15)) (by rw [hD]; rfl) (by rw [hsz]; decide) (by rw [hl]; decide)), hb1⟩)
                        · have hk3 := hk
                          have ea := ((hF.keep 6 (by rw [hD]; rfl)).trans zs6)
                          exact wpOp_wanted rfl (wanted_g (g := 20) (b := true) rfl rfl (hF.done 20 (142, SP.is (.bool true)) (by rw [hD]; rfl) (ready_dep hk 20 (by kernel_rfl))) (by rw [hF.size, hsz]; decide)) (wpR_fld 2 128 rfl b6 ea (fS2 b6) ⟨hl2 26, (hF.put 26 148 (SP.is (.pointer (some ⟨b6, 128, none⟩))) (.pointer (some ⟨b6, 128, none⟩)) (by rw [hD]; rfl) rfl (by rw [hD]; rfl) (by rw [hsz]; decide) (by rw [hl]; decide)), hb1⟩)
                        · have hk3 := hk
                          have ea := (hF.done 26 (148, SP.is (.pointer (some ⟨b6, 128, none⟩))) (by rw [hD]; rfl) (ready_dep hk 26 (by kernel_rfl)))
                          have eb := (hF.done 25 (147, SP.is (.int .i64 (t : Int))) (by rw [hD]; rfl) (ready_dep hk 25 (by kernel_rfl)))
                          exact wpOp_wanted rfl (wanted_g (g := 20) (b := true) rfl rfl (hF.done 20 (142, SP.is (.bool true)) (by rw [hD]; rfl) (ready_dep hk 20 (by kernel_rfl))) (by rw [hF.size, hsz]; decide)) (wp_ixAr tW64 33 rfl b6 128 64 t 4 ea eb HTT.out und_W64 wd_info ⟨hl2 27, (hF.put 27 149 (SP.is (.pointer (some ⟨b6, 128 + t * 4, none⟩))) (.pointer (some ⟨b6, 128 + t * 4, none⟩)) (by rw [hD]; rfl) rfl (by rw [hD]; rfl) (by rw [hsz]; decide) (by rw [hl]; decide)), hb1⟩)
                        · have hk3 := hk
                          have ea := (hF.done 27 (149, SP.is (.pointer (some ⟨b6, 128 + t * 4, none⟩))) (by rw [hD]; rfl) (ready_dep hk 27 (by kernel_rfl)))
                          exact wpOp_wanted rfl (wanted_g (g := 20) (b := true) rfl rfl (hF.done 20 (142, SP.is (.bool true)) (by rw [hD]; rfl) (ready_dep hk 20 (by kernel_rfl))) (by rw [hF.size, hsz]; decide)) (wp_load_mid 33 (.tmp 149) rfl b6 (128 + t * 4) ea (vQ (dgs (hm s t) 4)) _ (HW3.out W hb1) Try.underlying33 rfl (by rw [v4_len]; exact wd_info) ⟨hl2 28, (hF.put 28 150 (SP.is (.agg (vQ (dgs (hm s t) 4)).toArray)) (.agg (vQ (dgs (hm s t) 4)).toArray) (by rw [hD]; rfl) rfl (by rw [hD]; rfl) (by rw [hsz]; decide) (by rw [hl]; decide)), hb1⟩)
                        · have hk3 := hk
                          have ea := (hF.done 24 (146, SP.is (.agg (vQ (dgs (hm s2 t) 4)).toArray)) (by rw [hD]; rfl) (ready_dep hk 24 (by kernel_rfl)))
                          have eb := (hF.done 28 (150, SP.is (.agg (vQ (dgs (hm s t) 4)).toArray)) (by rw [hD]; rfl) (ready_dep hk 28 (by kernel_rfl)))
                          exact wpOp_wanted rfl (wanted_g (g := 20) (b := true) rfl rfl (hF.done 20 (142, SP.is (.bool true)) (by rw [hD]; rfl) (ready_dep hk 20 (by kernel_rfl))) (by rw [hF.size, hsz]; decide)) (wpR_eqW (.tmp 146) (.tmp 150) _ rfl (hm s2 t) (hm s t) HL1.out HL2.out ea eb (by rw [HB3.out]; exact ⟨hl2 29, (hF.put 29 151 (SP.is (.bool B3)) (.bool B3) (by rw [hD]; rfl) rfl (by rw [hD]; rfl) (by rw [hsz]; decide) (by rw [hl]; decide)), hb1⟩))
                        · have hk3 := hk
                          have ea := (hF.done 20 (142, SP.is (.bool true)) (by rw [hD]; rfl) (ready_dep hk 20 (by kernel_rfl)))
                          have eb := (hF.done 29 (151, SP.is (.bool B3)) (by rw [hD]; rfl) (ready_dep hk 29 (by kernel_rfl)))
                          exact wpOp_plain rfl rfl (wpR_pickT (.bool B3) rfl ea eb ⟨hl2 30, (hF.put 30 152 (SP.is (.bool B3)) (.bool B3) (by rw [hD]; rfl) rfl (by rw [hD]; rfl) (by rw [hsz]; decide) (by rw [hl]; decide)), hb1⟩)
                        · have hk3 := hk
                          exact wpOp_plain rfl rfl (wp_assign_v (ac.eval (.tmp 152)) rfl rfl ⟨hl2 31, (hF.put 31 16 (SP.is (.bool B3)) (ac.eval (.tmp 152)) (by rw [hD]; rfl) ((hF.done 30 (152, SP.is (.bool B3)) (by rw [hD]; rfl) (ready_dep hk 30 (by kernel_rfl)))) (by rw [hD]; rfl) (by rw [hsz]; decide) (by rw [hl]; decide)), hb1⟩)
                      · clear hb1  
                        intro listed ac W hI hr
                        obtain ⟨hl, hF, hb1⟩ := hI
                        have hall := all_listed (by kernel_rfl) hl hr
                        have h122 : ac.eval (.tmp 122) = .int .i64 (t : Int) := hF.done 0 (122, SP.is (.int .i64 (t : Int))) (by rw [hD]; rfl) (hall 0 (by decide))
                        have h123 : ac.eval (.tmp 123) = .pointer (some ⟨b11, 0, none⟩) := hF.done 1 (123, SP.is (.pointer (some ⟨b11, 0, none⟩))) (by rw [hD]; rfl) (hall 1 (by decide))
                        have h124 : ac.eval (.tmp 124) = .pointer (some ⟨b11, 0 + t * 1, none⟩) := hF.done 2 (124, SP.is (.pointer (some ⟨b11, 0 + t * 1, none⟩))) (by rw [hD]; rfl) (hall 2 (by decide))
                        have h125 : ac.eval (.tmp 125) = .bool (lsB s2 t) := hF.done 3 (125, SP.is (.bool (lsB s2 t))) (by rw [hD]; rfl) (hall 3 (by decide))
                        have h126 : ac.eval (.tmp 126) = .int .i64 (t : Int) := hF.done 4 (126, SP.is (.int .i64 (t : Int))) (by rw [hD]; rfl) (hall 4 (by decide))
                        have h127 : ac.eval (.tmp 127) = .pointer (some ⟨b6, 0, none⟩) := hF.done 5 (127, SP.is (.pointer (some ⟨b6, 0, none⟩))) (by rw [hD]; rfl) (hall 5 (by decide))
                        have h128 : ac.eval (.tmp 128) = .pointer (some ⟨b6, 0 + t * 1, none⟩) := hF.done 6 (128, SP.is (.pointer (some ⟨b6, 0 + t * 1, none⟩))) (by rw [hD]; rfl) (hall 6 (by decide))
                        have h129 : ac.eval (.tmp 129) = .bool (lsB s t) := hF.done 7 (129, SP.is (.bool (lsB s t))) (by rw [hD]; rfl) (hall 7 (by decide))
                        have h130 : ac.eval (.tmp 130) = .bool true := hF.done 8 (130, SP.is (.bool true)) (by rw [hD]; rfl) (hall 8 (by decide))
                        have h131 : ac.eval (.tmp 131) = .bool true := hF.done 9 (131, SP.is (.bool true)) (by rw [hD]; rfl) (hall 9 (by decide))
                        have h132 : ac.eval (.tmp 132) = .int .i64 (t : Int) := hF.done 10 (132, SP.is (.int .i64 (t : Int))) (by rw [hD]; rfl) (hall 10 (by decide))
                        have h133 : ac.eval (.tmp 133) = .pointer (some ⟨b11, 64, none⟩) := hF.done 11 (133, SP.is (.pointer (some ⟨b11, 64, none⟩))) (by rw [hD]; rfl) (hall 11 (by decide))
                        have h134 : ac.eval (.tmp 134) = .pointer (some ⟨b11, 64 + t * 1, none⟩) := hF.done 12 (134, SP.is (.pointer (some ⟨b11, 64 + t * 1, none⟩))) (by rw [hD]; rfl) (hall 12 (by decide))
                        have h135 : ac.eval (.tmp 135) = .bool (stB s2 t) := hF.done 13 (135, SP.is (.bool (stB s2 t))) (by rw [hD]; rfl) (hall 13 (by decide))
                        have h136 : ac.eval (.tmp 136) = .int .i64 (t : Int) := hF.done 14 (136, SP.is (.int .i64 (t : Int))) (by rw [hD]; rfl) (hall 14 (by decide))
                        have h137 : ac.eval (.tmp 137) = .pointer (some ⟨b6, 64, none⟩) := hF.done 15 (137, SP.is (.pointer (some ⟨b6, 64, none⟩))) (by rw [hD]; rfl) (hall 15 (by decide))
                        have h138 : ac.eval (.tmp 138) = .pointer (some ⟨b6, 64 + t * 1, none⟩) := hF.done 16 (138, SP.is (.pointer (some ⟨b6, 64 + t * 1, none⟩))) (by rw [hD]; rfl) (hall 16 (by decide))
                        have h139 : ac.eval (.tmp 139) = .bool (stB s t) := hF.done 17 (139, SP.is (.bool (stB s t))) (by rw [hD]; rfl) (hall 17 (by decide))
                        have h140 : ac.eval (.tmp 140) = .bool true := hF.done 18 (140, SP.is (.bool true)) (by rw [hD]; rfl) (hall 18 (by decide))
                        have h141 : ac.eval (.tmp 141) = .bool true := hF.done 19 (141, SP.is (.bool true)) (by rw [hD]; rfl) (hall 19 (by decide))
                        have h142 : ac.eval (.tmp 142) = .bool true := hF.done 20 (142, SP.is (.bool true)) (by rw [hD]; rfl) (hall 20 (by decide))
                        have h143 : ac.eval (.tmp 143) = .int .i64 (t : Int) := hF.done 21 (143, SP.is (.int .i64 (t : Int))) (by rw [hD]; rfl) (hall 21 (by decide))
                        have h144 : ac.eval (.tmp 144) = .pointer (some ⟨b11, 128, none⟩) := hF.done 22 (144, SP.is (.pointer (some ⟨b11, 128, none⟩))) (by rw [hD]; rfl) (hall 22 (by decide))
                        have h145 : ac.eval (.tmp 145) = .pointer (some ⟨b11, 128 + t * 4, none⟩) := hF.done 23 (145, SP.is (.pointer (some ⟨b11, 128 + t * 4, none⟩))) (by rw [hD]; rfl) (hall 23 (by decide))
                        have h146 : ac.eval (.tmp 146) = .agg (vQ (dgs (hm s2 t) 4)).toArray := hF.done 24 (146, SP.is (.agg (vQ (dgs (hm s2 t) 4)).toArray)) (by rw [hD]; rfl) (hall 24 (by decide))
                        have h147 : ac.eval (.tmp 147) = .int .i64 (t : Int) := hF.done 25 (147, SP.is (.int .i64 (t : Int))) (by rw [hD]; rfl) (hall 25 (by decide))
                        have h148 : ac.eval (.tmp 148) = .pointer (some ⟨b6, 128, none⟩) := hF.done 26 (148, SP.is (.pointer (some ⟨b6, 128, none⟩))) (by rw [hD]; rfl) (hall 26 (by decide))
                        have h149 : ac.eval (.tmp 149) = .pointer (some ⟨b6, 128 + t * 4, none⟩) := hF.done 27 (149, SP.is (.pointer (some ⟨b6, 128 + t * 4, none⟩))) (by rw [hD]; rfl) (hall 27 (by decide))
                        have h150 : ac.eval (.tmp 150) = .agg (vQ (dgs (hm s t) 4)).toArray := hF.done 28 (150, SP.is (.agg (vQ (dgs (hm s t) 4)).toArray)) (by rw [hD]; rfl) (hall 28 (by decide))
                        have h151 : ac.eval (.tmp 151) = .bool B3 := hF.done 29 (151, SP.is (.bool B3)) (by rw [hD]; rfl) (hall 29 (by decide))
                        have h152 : ac.eval (.tmp 152) = .bool B3 := hF.done 30 (152, SP.is (.bool B3)) (by rw [hD]; rfl) (hall 30 (by decide))
                        have h16 : ac.eval (.tmp 16) = .bool B3 := hF.done 31 (16, SP.is (.bool B3)) (by rw [hD]; rfl) (hall 31 (by decide))
                        have ea := hF.lay [(122, .int .i64 (t : Int)), (123, .pointer (some ⟨b11, 0, none⟩)), (124, .pointer (some ⟨b11, 0 + t * 1, none⟩)), (125, .bool (lsB s2 t)), (126, .int .i64 (t : Int)), (127, .pointer (some ⟨b6, 0, none⟩)), (128, .pointer (some ⟨b6, 0 + t * 1, none⟩)), (129, .bool (lsB s t)), (130, .bool true), (131, .bool true), (132, .int .i64 (t : Int)), (133, .pointer (some ⟨b11, 64, none⟩)), (134, .pointer (some ⟨b11, 64 + t * 1, none⟩)), (135, .bool (stB s2 t)), (136, .int .i64 (t : Int)), (137, .pointer (some ⟨b6, 64, none⟩)), (138, .pointer (some ⟨b6, 64 + t * 1, none⟩)), (139, .bool (stB s t)), (140, .bool true), (141, .bool true), (142, .bool true), (143, .int .i64 (t : Int)), (144, .pointer (some ⟨b11, 128, none⟩)), (145, .pointer (some ⟨b11, 128 + t * 4, none⟩)), (146, .agg (vQ (dgs (hm s2 t) 4)).toArray), (147, .int .i64 (t : Int)), (148, .pointer (some ⟨b6, 128, none⟩)), (149, .pointer (some ⟨b6, 128 + t * 4, none⟩)), (150, .agg (vQ (dgs (hm s t) 4)).toArray), (151, .bool B3), (152, .bool B3), (16, .bool B3)] (by rw [hD, hsz]; rfl) (by simp only [List.forall_mem_cons, List.not_mem_nil, false_implies, implies_true, and_true]; exact ⟨h122, h123, h124, h125, h126, h127, h128, h129, h130, h131, h132, h133, h134, h135, h136, h137, h138, h139, h140, h141, h142, h143, h144, h145, h146, h147, h148, h149, h150, h151, h152, h16⟩)
                        rw [ha0] at ea
                        simp only [List.foldl_cons, List.foldl_nil, List.setIfInBounds_toArray, List.set_cons_zero, List.set_cons_succ] at ea
                        clear hF hall hr hl hD  zs6 zs11 zs15 ha0 hsz h122 h123 h124 h125 h126 h127 h128 h129 h130 h131 h132 h133 h134 h135 h136 h137 h138 h139 h140 h141 h142 h143 h144 h145 h146 h147 h148 h149 h150 h151 h152 h16
                        subst ea
                        have HB5 : Hid (Below Z.heap.size Z W) := HBQ.out.trans (hb1.mono HBQ.out.size)
                        have ctk : W.cell? ⟨b, o + i * 8 + 2, none⟩ = some (.int .i64 tk) := HCT0.out W ((HRZZ.out.be HB5.out).v.below)
                        clear hb1
                        cases B3 with
                        | true =>
                          go_wp2_with (first
                            | (refine wpList_ixs 22 35 (.tmp 157) (.tmp 158) rfl b o N c0 i 8 rfl rfl HIN.out und_Ss info_S rfl ?_; simp only [Act.put, List.setIfInBounds_toArray, List.set_cons_zero, List.set_cons_succ]))
                          exact ⟨⟨t + 1, HTT.out, by go_num, HB5.out⟩, by simp [intOf]; have := HTT.out; omega⟩
                        | false =>
                          obtain ⟨htk2, htk3⟩ : (t : Int) = tk ∧ k ≤ 4 := by
                            rcases HST.out.t (t : Int) with hf | ⟨htk, hk5⟩
                            · have := HB3.out; unfold hm at this; rw [hf] at this; simp at this
                            · exact ⟨by rw [htk, HTKR.out], hk5⟩
                          have htk4 : decide ((4 : Int) < k) = false := decide_eq_false (by omega)
                          have htk5 : ¬ (4 : Int) < k := by omega
                          go_wp2_with (first
                            | (refine wpList_ixs 22 35 (.tmp 157) (.tmp 158) rfl b o N c0 i 8 rfl rfl HIN.out und_Ss info_S rfl ?_; simp only [Act.put, List.setIfInBounds_toArray, List.set_cons_zero, List.set_cons_succ]))
                          exact ⟨⟨t + 1, HTT.out, by go_num, HB5.out⟩, by simp [intOf]; have := HTT.out; omega⟩
                · obtain rfl : t = 64 := by omega
                  have HRA : Hid (wq.rangeAt b11 384 (vQ (dgs s2.L 4))) := HR11.out.range 384 _ (fun j v hj => by rw [HLS2.out]; exact scs_at4 j v hj)
                  have HRB : Hid (wq.rangeAt b6 384 (vQ (dgs s.L 4))) := HRZ.out.r.range 384 _ (fun j v hj => by rw [HLS.out]; exact scs_at4 j v hj)
                  have HV9 : Hid (Vl w wq p (c + 2) s2) := HRZ.out.v
                  have HWI : Hid ((Try.prog.info? 33).map (·.size) = some (vQ (dgs s2.L 4)).length) := by show _ = _; rw [v4_len]; exact wd_info
                  have HWI2 : Hid ((Try.prog.info? 33).map (·.size) = some (vQ (dgs s.L 4)).length) := by show _ = _; rw [v4_len]; exact wd_info
                  clear htt ht
                  by_cases hLL : s2.L = s.L
                  · have HNL : Hid ((!decide (s2.L = s.L)) = false) := by show _ = _; rw [decide_eq_true hLL]; rfl
                    clear hLL
                    go_wp2_with (first
                      | (refine wpList_ldS rfl 33 (.tmp 168) rfl b11 384 rfl (vQ (dgs s2.L 4)) _ HRA.out Try.underlying33 rfl HWI.out ?_; simp only [Act.put, List.setIfInBounds_toArray, List.set_cons_zero, List.set_cons_succ])
                      | (refine wpList_ldS rfl 33 (.tmp 170) rfl b6 384 rfl (vQ (dgs s.L 4)) _ HRB.out Try.underlying33 rfl HWI2.out ?_; simp only [Act.put, List.setIfInBounds_toArray, List.set_cons_zero, List.set_cons_succ])
                      | (refine neq_o (.tmp 169) (.tmp 171) _ rfl (c := vQ (dgs s2.L 4)) (d := vQ (dgs s.L 4)) (m := s2.L) (n := s.L) rfl rfl HOK2.out.l HOK1.out.l rfl rfl HNL.out rfl ?_; simp only [Act.put, List.setIfInBounds_toArray, List.set_cons_zero, List.set_cons_succ]))
                    exact ⟨⟨i + 1, c + 2, s2, HIN.out, HCI.out, by go_num, HV9⟩, by simp [intOf]; have := HIN.out; omega⟩
                  · have HNL : Hid ((!decide (s2.L = s.L)) = true) := by show _ = _; rw [decide_eq_false hLL]; rfl
                    rcases HST.out.l with h | h | h
                    · exact absurd h hLL
                    · have hk9 : k = 5 := h
                      clear hLL h
                      go_wp2_with (first
                        | (refine wpList_ldS rfl 33 (.tmp 168) rfl b11 384 rfl (vQ (dgs s2.L 4)) _ HRA.out Try.underlying33 rfl HWI.out ?_; simp only [Act.put, List.setIfInBounds_toArray, List.set_cons_zero, List.set_cons_succ])
                        | (refine wpList_ldS rfl 33 (.tmp 170) rfl b6 384 rfl (vQ (dgs s.L 4)) _ HRB.out Try.underlying33 rfl HWI2.out ?_; simp only [Act.put, List.setIfInBounds_toArray, List.set_cons_zero, List.set_cons_succ])
                        | (refine neq_o (.tmp 169) (.tmp 171) _ rfl (c := vQ (dgs s2.L 4)) (d := vQ (dgs s.L 4)) (m := s2.L) (n := s.L) rfl rfl HOK2.out.l HOK1.out.l rfl rfl HNL.out rfl ?_; simp only [Act.put, List.setIfInBounds_toArray, List.set_cons_zero, List.set_cons_succ]))
                      exact ⟨⟨i + 1, c + 2, s2, HIN.out, HCI.out, by go_num, HV9⟩, by simp [intOf]; have := HIN.out; omega⟩
                    · have hk9 : k = 6 := h
                      clear hLL h
                      go_wp2_with (first
                        | (refine wpList_ldS rfl 33 (.tmp 168) rfl b11 384 rfl (vQ (dgs s2.L 4)) _ HRA.out Try.underlying33 rfl HWI.out ?_; simp only [Act.put, List.setIfInBounds_toArray, List.set_cons_zero, List.set_cons_succ])
                        | (refine wpList_ldS rfl 33 (.tmp 170) rfl b6 384 rfl (vQ (dgs s.L 4)) _ HRB.out Try.underlying33 rfl HWI2.out ?_; simp only [Act.put, List.setIfInBounds_toArray, List.set_cons_zero, List.set_cons_succ])
                        | (refine neq_o (.tmp 169) (.tmp 171) _ rfl (c := vQ (dgs s2.L 4)) (d := vQ (dgs s.L 4)) (m := s2.L) (n := s.L) rfl rfl HOK2.out.l HOK1.out.l rfl rfl HNL.out rfl ?_; simp only [Act.put, List.setIfInBounds_toArray, List.set_cons_zero, List.set_cons_succ]))
                      exact ⟨⟨i + 1, c + 2, s2, HIN.out, HCI.out, by go_num, HV9⟩, by simp [intOf]; have := HIN.out; omega⟩
        subst hL0
        clear hK1
        by_cases hE0 : E = 0
        · have hEb : (E != 0) = false := by simpa using hE0
          clear hE0
          go_wp2_with fail
          exact HTL.out _ (by kernel_rfl) (by kernel_rfl)
        · have hEb : (E != 0) = true := by simpa using hE0
          have HSS : Hid (LS2 = LS) := by show _ = _; rw [HLS2.out, HLS.out, HST.out.no hE0]
          rw [HSS.out] at HRN
          clear hE0
          go_wp2_with (first
            | (refine wpList_ldS rfl tSn (.tmp 11) rfl b11 0 rfl LS _ HRN.out.all Try.underlying53 rfl HSI.out ?_; simp only [Act.put, List.setIfInBounds_toArray, List.set_cons_zero, List.set_cons_succ])
            | (refine wpList_ldS rfl tSn (.tmp 6) rfl b6 0 rfl LS _ HRZZ.out.r.all Try.underlying53 rfl HSI.out ?_; simp only [Act.put, List.setIfInBounds_toArray, List.set_cons_zero, List.set_cons_succ])
            | (refine wpList_neSn rfl (.tmp 73) (.tmp 74) _ rfl s LS HLS.out rfl rfl ?_; simp only [Act.put, List.setIfInBounds_toArray, List.set_cons_zero, List.set_cons_succ]))
          exact HTL.out _ (by kernel_rfl) (by kernel_rfl)
      subst hL0
      clear hK1
      go_wp2_with fail
      go_loopw [7, 8] (fun v7 v8 wq => ∃ j : Nat, j ≤ N ∧ j ≤ 40 ∧ v8 = .int .i64 (j : Int) ∧ Hid (Rb w wq p c s b6 LS v7 j (pbs s (l.take j)))) (fun _ v8 _ => 40 - (intOf v8).toNat)
      case atStart => exact ⟨0, Nat.zero_le _, Nat.zero_le _, rfl, RB0⟩
      case round =>
        clear RB0
        rename World => wq
        obtain ⟨J, hJN, hJ40, rfl, HR⟩ := hrel
        obtain ⟨A7, c7, hv7, _⟩ := Lw.form HR.out.l
        subst hv7
        by_cases hjN : J < N
        · by_cases hj40 : J < 40
          · obtain ⟨rj, hrj⟩ : ∃ r, l[J]? = some r := ⟨_, List.getElem?_eq_getElem (by rw [← HNl.out]; exact hjN)⟩
            obtain ⟨xj, hxj⟩ : ∃ x, x = rj.ix := ⟨_, rfl⟩
            obtain ⟨pj, hpj⟩ : ∃ x, x = paid s.U xj := ⟨_, rfl⟩
            have cxj : wq.cell? ⟨b, o + J * 8 + 3, none⟩ = some (.int .i64 xj) := by rw [hxj]; exact (HSJ.out J rj hrj).2 wq HR.out.v.below
            have HPJ : Hid (∀ X, Vl w X p c s → Calls Try.prog 21 #[.pointer (some ⟨p, 0, none⟩), .int .i64 xj] X fun e w' => e = .returned (.bool pj) ∧ Below X.heap.size X w') := fun X h => by rw [hpj]; exact vlP h xj (by rw [hxj]; exact (HSJ.out J rj hrj).1.ix)
            have HPB : Hid (pbs s (l.take (J + 1)) = pbs s (l.take J) ++ [.bool pj]) := by show _ = _; unfold pbs; rw [List.take_add_one, hrj, List.map_append, hpj, hxj]; rfl
            have HJN2 : Hid (J < N) := hjN
            clear hrj hxj hpj hJN hJ40
            go_wp2_with (first
              | (refine wpList_ixs 22 35 (.tmp 45) (.tmp 46) rfl b o N c0 J 8 rfl rfl HJN2.out und_Ss info_S rfl ?_; simp only [Act.put, List.setIfInBounds_toArray, List.set_cons_zero, List.set_cons_succ])
              | (go_at_call 21; refine Calls.mono (HPJ.out _ HR.out.v) ?_; rintro e Q1 ⟨rfl, q⟩; have R1 : Hid (Rb w Q1 p c s b6 LS (.slice A7 J c7) J (pbs s (l.take J))) := HR.out.be q; clear q HR cxj)
              | (refine wpList_buildOne tLB tBo und_LB (info_of4 all_Bo) rfl (.tmp 50) rfl (.bool pj) rfl rfl ?_; intro Q2 q1 q2 q3; have RB2 : Hid (Row Q2 Q1.heap.size [.bool pj] tBo) := q1; have R2 : Hid (Rb w Q2 p c s b6 LS (.slice A7 J c7) J (pbs s (l.take J))) := R1.out.be q2; clear q1 q2 q3 R1; simp only [Act.put, List.setIfInBounds_toArray, List.set_cons_zero, List.set_cons_succ])
              | (refine wpList_appL tLB tBo 1 1 und_LB (info_of all_Bo) (by decide) (by decide) rfl (.tmp 43) (.tmp 51) rfl (.slice A7 J c7) J (pbs s (l.take J)) [.bool pj] rfl R2.out.l Q1.heap.size rfl rfl RB2.out.all (fun v hv => by { obtain rfl := List.mem_singleton.1 hv; rfl }) (by omega) ?_; intro v7x Q3 q1 q2 q3; have R3 : Hid (Rb w Q3 p c s b6 LS v7x (J + 1) (pbs s (l.take (J + 1)))) := (by { rw [HPB.out]; exact R2.out.grow q1 q2 q3 }); clear q1 q2 q3 R2 RB2; simp only [Act.put, List.setIfInBounds_toArray, List.set_cons_zero, List.set_cons_succ]))
            exact ⟨⟨J + 1, HJN2.out, hj40, by go_num, R3⟩, by simp [intOf]; omega⟩
          · have HJN : Hid (J ≤ N) := hJN
            have HJ40 : Hid (J ≤ 40) := hJ40
            clear hJ40
            go_wp2_with fail
            exact HTA.out _ _ (by kernel_rfl) (by kernel_rfl) ⟨A7, J, c7, rfl, HJN.out, HJ40.out, HR.out⟩
        · have HJN : Hid (J ≤ N) := hJN
          have HJ40 : Hid (J ≤ 40) := hJ40
          clear hJN
          go_wp2_with fail
          exact HTA.out _ _ (by kernel_rfl) (by kernel_rfl) ⟨A7, J, c7, rfl, HJN.out, HJ40.out, HR.out⟩
    · obtain rfl : i = N := by omega
      have HF : Hid (Below w.heap.size w wr) := WW.out.below
      clear hiN hi hci WW
      go_wp2_with fail
      go_ret
      exact ⟨rfl, HF.out⟩

end Go.Proofs.Ytefjonidpmpjbaa
