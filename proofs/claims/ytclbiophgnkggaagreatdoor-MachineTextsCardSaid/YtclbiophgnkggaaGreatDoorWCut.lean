/-
  wide.cutDigits.
-/
import Derived.Test.YtclbiophgnkggaaGreatDoorWDivU
import Derived.Test.YtclbiophgnkggaaGreatDoorWCutM

namespace Go.Proofs.YtclbiophgnkggaaGreatDoor
open Go Go.RowKit
open Wd

set_option maxRecDepth 100000 in
set_option maxHeartbeats 2000000 in
theorem div64_zero (lo y : Nat) (hl : lo < 18446744073709551616) (hy : y < 18446744073709551616) (h0 : 0 < y) (w : World) :
    Calls Tryz.prog 103 #[.int .u64 0, .int .u64 (lo : Int), .int .u64 (y : Int)] w fun e w' => e = .returned (.tuple #[.int .u64 ((lo / y : Nat) : Int), .int .u64 ((lo % y : Nat) : Int)]) ∧ w' = w.drew := by
  go_enter Tryz.func103, Tryz.ntmps103
  go_wp2
  go_region
  go_wp2
  go_ret2
  refine ⟨?_, rfl⟩
  rw [show (lo : Int) / (y : Int) = ((lo / y : Nat) : Int) by simp, wrap_nat _ (Nat.lt_of_le_of_lt (Nat.div_le_self _ _) hl), show (lo : Int) % (y : Int) = ((lo % y : Nat) : Int) by simp]
  rfl

set_option maxRecDepth 100000 in
set_option maxHeartbeats 8000000 in
theorem div64_core (hi lo y s B Y L H QQ RR v1 v0 n1 n0 q r m : Nat) (hh0 : 0 < hi) (hh : hi < y) (_hl : lo < 18446744073709551616) (_hy : y < 18446744073709551616) (s1 : s ≤ 63)
    (HL : Hid (∀ w, Calls Tryz.prog 108 #[.int .u64 (y : Int)] w fun e w' => e = .returned (.int .i64 (s : Int)) ∧ w' = w))
    (eB : IntKind.u64.wrap ((hi : Int) * 2 ^ s) = (B : Int)) (eY : IntKind.u64.wrap ((y : Int) * 2 ^ s) = (Y : Int)) (eL : IntKind.u64.wrap ((lo : Int) * 2 ^ s) = (L : Int))
    (eO : bits .or .u64 (B : Int) ((lo : Int) / 2 ^ (64 - s)) = (H : Int)) (hHY : H < Y) (hY : Y < 18446744073709551616) (_hL : L < 18446744073709551616)
    (eA : bits .and .u64 (Y : Int) 4294967295 = (v0 : Int)) (eD : (Y : Int) / 4294967296 = (v1 : Int)) (eA' : bits .and .u64 (L : Int) 4294967295 = (n0 : Int)) (eD' : (L : Int) / 4294967296 = (n1 : Int))
    (b1 : 2147483648 ≤ v1) (b1' : v1 < 4294967296) (b0 : v0 < 4294967296) (c1 : n1 < 4294967296) (c0 : n0 < 4294967296)
    (HG : Hid (Gs H n1 Y v1 v0 q r))
    (eQ : IntKind.u64.wrap ((H : Int) / (v1 : Int)) = (q : Int)) (eM : IntKind.u64.wrap ((q : Int) * (v1 : Int)) = (m : Int)) (hm : m ≤ H) (eR : (H : Int) - (m : Int) = (r : Int))
    (D U a1 a2 a3 q0 m0 r0 : Nat) (HD : Hid (D = dgt H n1 Y)) (hU : U < Y) (_k1 : a1 < 18446744073709551616) (_k2 : a2 < 18446744073709551616) (_k3 : a3 < 18446744073709551616)
    (g1 : IntKind.u64.wrap ((H : Int) * 4294967296) = (a1 : Int)) (g2 : IntKind.u64.wrap ((a1 : Int) + (n1 : Int)) = (a2 : Int)) (g3 : IntKind.u64.wrap ((D : Int) * (Y : Int)) = (a3 : Int)) (g4 : IntKind.u64.wrap ((a2 : Int) - (a3 : Int)) = (U : Int))
    (HG0 : Hid (Gs U n0 Y v1 v0 q0 r0))
    (eQ0 : IntKind.u64.wrap ((U : Int) / (v1 : Int)) = (q0 : Int)) (eM0 : IntKind.u64.wrap ((q0 : Int) * (v1 : Int)) = (m0 : Int)) (hm0 : m0 ≤ U) (eR0 : (U : Int) - (m0 : Int) = (r0 : Int))
    (E F o1 o2 o3 : Nat) (HE : Hid (E = dgt U n0 Y)) (hF : F < Y) (_k1' : o1 < 18446744073709551616) (_k2' : o2 < 18446744073709551616) (_k3' : o3 < 18446744073709551616)
    (i1 : IntKind.u64.wrap ((U : Int) * 4294967296) = (o1 : Int)) (i2 : IntKind.u64.wrap ((o1 : Int) + (n0 : Int)) = (o2 : Int)) (i3 : IntKind.u64.wrap ((E : Int) * (Y : Int)) = (o3 : Int)) (i4 : IntKind.u64.wrap ((o2 : Int) - (o3 : Int)) = (F : Int))
    (hD : D < 4294967296) (hE : E < 4294967296) (HQ : Hid (D * 4294967296 + E = QQ)) (HR : Hid (F / 2 ^ s = RR)) (w : World) :
    Calls Tryz.prog 103 #[.int .u64 (hi : Int), .int .u64 (lo : Int), .int .u64 (y : Int)] w fun e w' => e = .returned (.tuple #[.int .u64 (QQ : Int), .int .u64 (RR : Int)]) ∧ w' = w := by
  go_enter Tryz.func103, Tryz.ntmps103
  go_wp2_with (go_at_call 108; refine (HL.out w).mono ?_; rintro e w ⟨rfl, rfl⟩)
  obtain ⟨T, hT⟩ : ∃ T : Nat, T = 4294967296 := ⟨_, rfl⟩
  have HT : Hid (T = 4294967296) := hT
  clear hT
  go_loopw [15, 16] (fun qv rv wr => ∃ q r : Nat, qv = .int .u64 (q : Int) ∧ rv = .int .u64 (r : Int) ∧ Gs H n1 Y v1 v0 q r ∧ wr = w) (fun _ rv _ => T - (intOf rv).toNat)
  case atStart => exact ⟨q, r, rfl, rfl, HG.out, rfl⟩
  case round =>
    clear HG eQ eM hm eR
    obtain ⟨qq, rr, rfl, rfl, hg, rfl⟩ := hrel
    have hr := hg.lt
    have hqU : qq ≤ 18446744073709551615 := by
      have h1 := hg.sum
      have h2 : qq * 1 ≤ qq * v1 := Nat.mul_le_mul_left _ (by omega)
      omega
    by_cases hbig : 4294967296 ≤ qq
    · have hp := hg.great c1 hHY (Or.inl hbig)
      obtain ⟨p, hpe⟩ : ∃ p, p + 1 = qq := ⟨qq - 1, by omega⟩
      have eP : (qq : Int) - 1 = (p : Int) := by omega
      have hlt : ¬ ((qq : Int) < 4294967296) := by omega
      have hge : (4294967296 : Int) ≤ (qq : Int) := by omega
      have hdg : decide ((4294967296 : Int) ≤ (qq : Int)) = true := decide_eq_true hge
      by_cases hst : rr + v1 < 4294967296
      · have hn := hg.less c1 hHY (Or.inl hbig) hst
        rw [show qq - 1 = p by omega] at hn
        have HN : Hid _ := hn
        have hs : (rr : Int) + (v1 : Int) < 4294967296 := by omega
        have hs' : ¬ ((4294967296 : Int) ≤ (rr : Int) + (v1 : Int)) := by omega
        have hds : decide ((4294967296 : Int) ≤ (rr : Int) + (v1 : Int)) = false := decide_eq_false hs'
        clear hp hn hg hpe hbig hst
        go_wp2
        refine ⟨⟨p, rr + v1, rfl, by go_num, HN.out, trivial⟩, ?_⟩
        have := HT.out
        simp [intOf]
        omega
      · have hn := hg.stop b0 c1 hHY (Or.inl hbig) (by omega)
        have : D = p := by rw [HD.out]; omega
        subst this
        have hs : ¬ ((rr : Int) + (v1 : Int) < 4294967296) := by omega
        have hs' : (4294967296 : Int) ≤ (rr : Int) + (v1 : Int) := by omega
        have hds : decide ((4294967296 : Int) ≤ (rr : Int) + (v1 : Int)) = true := decide_eq_true hs'
        clear hp hn hg hpe hbig hst
        go_wp2
        go_loopw [16, 18] (fun rv qv w2 => ∃ q r : Nat, qv = .int .u64 (q : Int) ∧ rv = .int .u64 (r : Int) ∧ Gs U n0 Y v1 v0 q r ∧ w2 = wr) (fun rv _ _ => T - (intOf rv).toNat)
        case atStart => exact ⟨q0, r0, rfl, rfl, HG0.out, rfl⟩
        case round =>
          clear HG0 eQ0 eM0 hm0 eR0
          obtain ⟨qq, rr, rfl, rfl, hg, rfl⟩ := hrel
          have hr := hg.lt
          have hqU : qq ≤ 18446744073709551615 := by
            have h1 := hg.sum
            have h2 : qq * 1 ≤ qq * v1 := Nat.mul_le_mul_left _ (by omega)
            omega
          by_cases hbig : 4294967296 ≤ qq
          · have hp := hg.great c0 hU (Or.inl hbig)
            obtain ⟨p, hpe⟩ : ∃ p, p + 1 = qq := ⟨qq - 1, by omega⟩
            have eP : (qq : Int) - 1 = (p : Int) := by omega
            have hlt : ¬ ((qq : Int) < 4294967296) := by omega
            have hge : (4294967296 : Int) ≤ (qq : Int) := by omega
            have hdg : decide ((4294967296 : Int) ≤ (qq : Int)) = true := decide_eq_true hge
            by_cases hst : rr + v1 < 4294967296
            · have hn := hg.less c0 hU (Or.inl hbig) hst
              rw [show qq - 1 = p by omega] at hn
              have HN : Hid _ := hn
              have hs : (rr : Int) + (v1 : Int) < 4294967296 := by omega
              have hs' : ¬ ((4294967296 : Int) ≤ (rr : Int) + (v1 : Int)) := by omega
              have hds : decide ((4294967296 : Int) ≤ (rr : Int) + (v1 : Int)) = false := decide_eq_false hs'
              clear hp hn hg hpe hbig hst
              go_wp2
              refine ⟨⟨p, rr + v1, rfl, by go_num, HN.out, trivial⟩, ?_⟩
              have := HT.out
              simp [intOf]
              omega
            · have hn := hg.stop b0 c0 hU (Or.inl hbig) (by omega)
              have : E = p := by rw [HE.out]; omega
              subst this
              have hs : ¬ ((rr : Int) + (v1 : Int) < 4294967296) := by omega
              have hs' : (4294967296 : Int) ≤ (rr : Int) + (v1 : Int) := by omega
              have hds : decide ((4294967296 : Int) ≤ (rr : Int) + (v1 : Int)) = true := decide_eq_true hs'
              clear hp hn hg hpe hbig hst
              go_wp2
              go_ret2
              exact ⟨by rw [← HQ.out, ← HR.out]; simp, rfl⟩
          · have hlt : (qq : Int) < 4294967296 := by omega
            have hge : ¬ ((4294967296 : Int) ≤ (qq : Int)) := by omega
            have hdg : decide ((4294967296 : Int) ≤ (qq : Int)) = false := decide_eq_false hge
            have hz : qq * v0 < 18446744073709551616 := Nat.lt_of_le_of_lt (Nat.mul_le_mul (show qq ≤ 4294967295 by omega) (show v0 ≤ 4294967295 by omega)) (by decide)
            have eZ := wrap_mul_lt qq v0 hz
            obtain ⟨z, hze⟩ : ∃ z, z = qq * v0 := ⟨_, rfl⟩
            rw [← hze] at hz eZ
            by_cases ht : 4294967296 * rr + n0 < z
            · have hp := hg.great c0 hU (Or.inr (by rw [← hze]; exact ht))
              obtain ⟨p, hpe⟩ : ∃ p, p + 1 = qq := ⟨qq - 1, by omega⟩
              have eP : (qq : Int) - 1 = (p : Int) := by omega
              have htt : 4294967296 * (rr : Int) + (n0 : Int) < (z : Int) := by omega
              have hdt : decide (4294967296 * (rr : Int) + (n0 : Int) < (z : Int)) = true := decide_eq_true htt
              by_cases hst : rr + v1 < 4294967296
              · have hn := hg.less c0 hU (Or.inr (by rw [← hze]; exact ht)) hst
                rw [show qq - 1 = p by omega] at hn
                have HN : Hid _ := hn
                have hs : (rr : Int) + (v1 : Int) < 4294967296 := by omega
                have hs' : ¬ ((4294967296 : Int) ≤ (rr : Int) + (v1 : Int)) := by omega
                have hds : decide ((4294967296 : Int) ≤ (rr : Int) + (v1 : Int)) = false := decide_eq_false hs'
                clear hp hn hg hpe hbig hst ht hze
                go_wp2
                refine ⟨⟨p, rr + v1, rfl, by go_num, HN.out, trivial⟩, ?_⟩
                have := HT.out
                simp [intOf]
                omega
              · have hn := hg.stop b0 c0 hU (Or.inr (by rw [← hze]; exact ht)) (by omega)
                have : E = p := by rw [HE.out]; omega
                subst this
                have hs : ¬ ((rr : Int) + (v1 : Int) < 4294967296) := by omega
                have hs' : (4294967296 : Int) ≤ (rr : Int) + (v1 : Int) := by omega
                have hds : decide ((4294967296 : Int) ≤ (rr : Int) + (v1 : Int)) = true := decide_eq_true hs'
                clear hp hn hg hpe hbig hst ht hze
                go_wp2
                go_ret2
                exact ⟨by rw [← HQ.out, ← HR.out]; simp, rfl⟩
            · have hn := hg.right (by omega) (by rw [← hze]; omega)
              have : E = qq := by rw [HE.out]; omega
              subst this
              have htt : ¬ (4294967296 * (rr : Int) + (n0 : Int) < (z : Int)) := by omega
              have hdt : decide (4294967296 * (rr : Int) + (n0 : Int) < (z : Int)) = false := decide_eq_false htt
              clear hn hg hbig ht hze
              go_wp2
              go_ret2
              exact ⟨by rw [← HQ.out, ← HR.out]; simp, rfl⟩
    · have hlt : (qq : Int) < 4294967296 := by omega
      have hge : ¬ ((4294967296 : Int) ≤ (qq : Int)) := by omega
      have hdg : decide ((4294967296 : Int) ≤ (qq : Int)) = false := decide_eq_false hge
      have hz : qq * v0 < 18446744073709551616 := Nat.lt_of_le_of_lt (Nat.mul_le_mul (show qq ≤ 4294967295 by omega) (show v0 ≤ 4294967295 by omega)) (by decide)
      have eZ := wrap_mul_lt qq v0 hz
      obtain ⟨z, hze⟩ : ∃ z, z = qq * v0 := ⟨_, rfl⟩
      rw [← hze] at hz eZ
      by_cases ht : 4294967296 * rr + n1 < z
      · have hp := hg.great c1 hHY (Or.inr (by rw [← hze]; exact ht))
        obtain ⟨p, hpe⟩ : ∃ p, p + 1 = qq := ⟨qq - 1, by omega⟩
        have eP : (qq : Int) - 1 = (p : Int) := by omega
        have htt : 4294967296 * (rr : Int) + (n1 : Int) < (z : Int) := by omega
        have hdt : decide (4294967296 * (rr : Int) + (n1 : Int) < (z : Int)) = true := decide_eq_true htt
        by_cases hst : rr + v1 < 4294967296
        · have hn := hg.less c1 hHY (Or.inr (by rw [← hze]; exact ht)) hst
          rw [show qq - 1 = p by omega] at hn
          have HN : Hid _ := hn
          have hs : (rr : Int) + (v1 : Int) < 4294967296 := by omega
          have hs' : ¬ ((4294967296 : Int) ≤ (rr : Int) + (v1 : Int)) := by omega
          have hds : decide ((4294967296 : Int) ≤ (rr : Int) + (v1 : Int)) = false := decide_eq_false hs'
          clear hp hn hg hpe hbig hst ht hze
          go_wp2
          refine ⟨⟨p, rr + v1, rfl, by go_num, HN.out, trivial⟩, ?_⟩
          have := HT.out
          simp [intOf]
          omega
        · have hn := hg.stop b0 c1 hHY (Or.inr (by rw [← hze]; exact ht)) (by omega)
          have : D = p := by rw [HD.out]; omega
          subst this
          have hs : ¬ ((rr : Int) + (v1 : Int) < 4294967296) := by omega
          have hs' : (4294967296 : Int) ≤ (rr : Int) + (v1 : Int) := by omega
          have hds : decide ((4294967296 : Int) ≤ (rr : Int) + (v1 : Int)) = true := decide_eq_true hs'
          clear hp hn hg hpe hbig hst ht hze
          go_wp2
          go_loopw [16, 18] (fun rv qv w2 => ∃ q r : Nat, qv = .int .u64 (q : Int) ∧ rv = .int .u64 (r : Int) ∧ Gs U n0 Y v1 v0 q r ∧ w2 = wr) (fun rv _ _ => T - (intOf rv).toNat)
          case atStart => exact ⟨q0, r0, rfl, rfl, HG0.out, rfl⟩
          case round =>
            clear HG0 eQ0 eM0 hm0 eR0
            obtain ⟨qq, rr, rfl, rfl, hg, rfl⟩ := hrel
            have hr := hg.lt
            have hqU : qq ≤ 18446744073709551615 := by
              have h1 := hg.sum
              have h2 : qq * 1 ≤ qq * v1 := Nat.mul_le_mul_left _ (by omega)
              omega
            by_cases hbig : 4294967296 ≤ qq
            · have hp := hg.great c0 hU (Or.inl hbig)
              obtain ⟨p, hpe⟩ : ∃ p, p + 1 = qq := ⟨qq - 1, by omega⟩
              have eP : (qq : Int) - 1 = (p : Int) := by omega
              have hlt : ¬ ((qq : Int) < 4294967296) := by omega
              have hge : (4294967296 : Int) ≤ (qq : Int) := by omega
              have hdg : decide ((4294967296 : Int) ≤ (qq : Int)) = true := decide_eq_true hge
              by_cases hst : rr + v1 < 4294967296
              · have hn := hg.less c0 hU (Or.inl hbig) hst
                rw [show qq - 1 = p by omega] at hn
                have HN : Hid _ := hn
                have hs : (rr : Int) + (v1 : Int) < 4294967296 := by omega
                have hs' : ¬ ((4294967296 : Int) ≤ (rr : Int) + (v1 : Int)) := by omega
                have hds : decide ((4294967296 : Int) ≤ (rr : Int) + (v1 : Int)) = false := decide_eq_false hs'
                clear hp hn hg hpe hbig hst
                go_wp2
                refine ⟨⟨p, rr + v1, rfl, by go_num, HN.out, trivial⟩, ?_⟩
                have := HT.out
                simp [intOf]
                omega
              · have hn := hg.stop b0 c0 hU (Or.inl hbig) (by omega)
                have : E = p := by rw [HE.out]; omega
                subst this
                have hs : ¬ ((rr : Int) + (v1 : Int) < 4294967296) := by omega
                have hs' : (4294967296 : Int) ≤ (rr : Int) + (v1 : Int) := by omega
                have hds : decide ((4294967296 : Int) ≤ (rr : Int) + (v1 : Int)) = true := decide_eq_true hs'
                clear hp hn hg hpe hbig hst
                go_wp2
                go_ret2
                exact ⟨by rw [← HQ.out, ← HR.out]; simp, rfl⟩
            · have hlt : (qq : Int) < 4294967296 := by omega
              have hge : ¬ ((4294967296 : Int) ≤ (qq : Int)) := by omega
              have hdg : decide ((4294967296 : Int) ≤ (qq : Int)) = false := decide_eq_false hge
              have hz : qq * v0 < 18446744073709551616 := Nat.lt_of_le_of_lt (Nat.mul_le_mul (show qq ≤ 4294967295 by omega) (show v0 ≤ 4294967295 by omega)) (by decide)
              have eZ := wrap_mul_lt qq v0 hz
              obtain ⟨z, hze⟩ : ∃ z, z = qq * v0 := ⟨_, rfl⟩
              rw [← hze] at hz eZ
              by_cases ht : 4294967296 * rr + n0 < z
              · have hp := hg.great c0 hU (Or.inr (by rw [← hze]; exact ht))
                obtain ⟨p, hpe⟩ : ∃ p, p + 1 = qq := ⟨qq - 1, by omega⟩
                have eP : (qq : Int) - 1 = (p : Int) := by omega
                have htt : 4294967296 * (rr : Int) + (n0 : Int) < (z : Int) := by omega
                have hdt : decide (4294967296 * (rr : Int) + (n0 : Int) < (z : Int)) = true := decide_eq_true htt
                by_cases hst : rr + v1 < 4294967296
                · have hn := hg.less c0 hU (Or.inr (by rw [← hze]; exact ht)) hst
                  rw [show qq - 1 = p by omega] at hn
                  have HN : Hid _ := hn
                  have hs : (rr : Int) + (v1 : Int) < 4294967296 := by omega
                  have hs' : ¬ ((4294967296 : Int) ≤ (rr : Int) + (v1 : Int)) := by omega
                  have hds : decide ((4294967296 : Int) ≤ (rr : Int) + (v1 : Int)) = false := decide_eq_false hs'
                  clear hp hn hg hpe hbig hst ht hze
                  go_wp2
                  refine ⟨⟨p, rr + v1, rfl, by go_num, HN.out, trivial⟩, ?_⟩
                  have := HT.out
                  simp [intOf]
                  omega
                · have hn := hg.stop b0 c0 hU (Or.inr (by rw [← hze]; exact ht)) (by omega)
                  have : E = p := by rw [HE.out]; omega
                  subst this
                  have hs : ¬ ((rr : Int) + (v1 : Int) < 4294967296) := by omega
                  have hs' : (4294967296 : Int) ≤ (rr : Int) + (v1 : Int) := by omega
                  have hds : decide ((4294967296 : Int) ≤ (rr : Int) + (v1 : Int)) = true := decide_eq_true hs'
                  clear hp hn hg hpe hbig hst ht hze
                  go_wp2
                  go_ret2
                  exact ⟨by rw [← HQ.out, ← HR.out]; simp, rfl⟩
              · have hn := hg.right (by omega) (by rw [← hze]; omega)
                have : E = qq := by rw [HE.out]; omega
                subst this
                have htt : ¬ (4294967296 * (rr : Int) + (n0 : Int) < (z : Int)) := by omega
                have hdt : decide (4294967296 * (rr : Int) + (n0 : Int) < (z : Int)) = false := decide_eq_false htt
                clear hn hg hbig ht hze
                go_wp2
                go_ret2
                exact ⟨by rw [← HQ.out, ← HR.out]; simp, rfl⟩
      · have hn := hg.right (by omega) (by rw [← hze]; omega)
        have : D = qq := by rw [HD.out]; omega
        subst this
        have htt : ¬ (4294967296 * (rr : Int) + (n1 : Int) < (z : Int)) := by omega
        have hdt : decide (4294967296 * (rr : Int) + (n1 : Int) < (z : Int)) = false := decide_eq_false htt
        clear hn hg hbig ht hze
        go_wp2
        go_loopw [16, 18] (fun rv qv w2 => ∃ q r : Nat, qv = .int .u64 (q : Int) ∧ rv = .int .u64 (r : Int) ∧ Gs U n0 Y v1 v0 q r ∧ w2 = wr) (fun rv _ _ => T - (intOf rv).toNat)
        case atStart => exact ⟨q0, r0, rfl, rfl, HG0.out, rfl⟩
        case round =>
          clear HG0 eQ0 eM0 hm0 eR0
          obtain ⟨qq, rr, rfl, rfl, hg, rfl⟩ := hrel
          have hr := hg.lt
          have hqU : qq ≤ 18446744073709551615 := by
            have h1 := hg.sum
            have h2 : qq * 1 ≤ qq * v1 := Nat.mul_le_mul_left _ (by omega)
            omega
          by_cases hbig : 4294967296 ≤ qq
          · have hp := hg.great c0 hU (Or.inl hbig)
            obtain ⟨p, hpe⟩ : ∃ p, p + 1 = qq := ⟨qq - 1, by omega⟩
            have eP : (qq : Int) - 1 = (p : Int) := by omega
            have hlt : ¬ ((qq : Int) < 4294967296) := by omega
            have hge : (4294967296 : Int) ≤ (qq : Int) := by omega
            have hdg : decide ((4294967296 : Int) ≤ (qq : Int)) = true := decide_eq_true hge
            by_cases hst : rr + v1 < 4294967296
            · have hn := hg.less c0 hU (Or.inl hbig) hst
              rw [show qq - 1 = p by omega] at hn
              have HN : Hid _ := hn
              have hs : (rr : Int) + (v1 : Int) < 4294967296 := by omega
              have hs' : ¬ ((4294967296 : Int) ≤ (rr : Int) + (v1 : Int)) := by omega
              have hds : decide ((4294967296 : Int) ≤ (rr : Int) + (v1 : Int)) = false := decide_eq_false hs'
              clear hp hn hg hpe hbig hst
              go_wp2
              refine ⟨⟨p, rr + v1, rfl, by go_num, HN.out, trivial⟩, ?_⟩
              have := HT.out
              simp [intOf]
              omega
            · have hn := hg.stop b0 c0 hU (Or.inl hbig) (by omega)
              have : E = p := by rw [HE.out]; omega
              subst this
              have hs : ¬ ((rr : Int) + (v1 : Int) < 4294967296) := by omega
              have hs' : (4294967296 : Int) ≤ (rr : Int) + (v1 : Int) := by omega
              have hds : decide ((4294967296 : Int) ≤ (rr : Int) + (v1 : Int)) = true := decide_eq_true hs'
              clear hp hn hg hpe hbig hst
              go_wp2
              go_ret2
              exact ⟨by rw [← HQ.out, ← HR.out]; simp, rfl⟩
          · have hlt : (qq : Int) < 4294967296 := by omega
            have hge : ¬ ((4294967296 : Int) ≤ (qq : Int)) := by omega
            have hdg : decide ((4294967296 : Int) ≤ (qq : Int)) = false := decide_eq_false hge
            have hz : qq * v0 < 18446744073709551616 := Nat.lt_of_le_of_lt (Nat.mul_le_mul (show qq ≤ 4294967295 by omega) (show v0 ≤ 4294967295 by omega)) (by decide)
            have eZ := wrap_mul_lt qq v0 hz
            obtain ⟨z, hze⟩ : ∃ z, z = qq * v0 := ⟨_, rfl⟩
            rw [← hze] at hz eZ
            by_cases ht : 4294967296 * rr + n0 < z
            · have hp := hg.great c0 hU (Or.inr (by rw [← hze]; exact ht))
              obtain ⟨p, hpe⟩ : ∃ p, p + 1 = qq := ⟨qq - 1, by omega⟩
              have eP : (qq : Int) - 1 = (p : Int) := by omega
              have htt : 4294967296 * (rr : Int) + (n0 : Int) < (z : Int) := by omega
              have hdt : decide (4294967296 * (rr : Int) + (n0 : Int) < (z : Int)) = true := decide_eq_true htt
              by_cases hst : rr + v1 < 4294967296
              · have hn := hg.less c0 hU (Or.inr (by rw [← hze]; exact ht)) hst
                rw [show qq - 1 = p by omega] at hn
                have HN : Hid _ := hn
                have hs : (rr : Int) + (v1 : Int) < 4294967296 := by omega
                have hs' : ¬ ((4294967296 : Int) ≤ (rr : Int) + (v1 : Int)) := by omega
                have hds : decide ((4294967296 : Int) ≤ (rr : Int) + (v1 : Int)) = false := decide_eq_false hs'
                clear hp hn hg hpe hbig hst ht hze
                go_wp2
                refine ⟨⟨p, rr + v1, rfl, by go_num, HN.out, trivial⟩, ?_⟩
                have := HT.out
                simp [intOf]
                omega
              · have hn := hg.stop b0 c0 hU (Or.inr (by rw [← hze]; exact ht)) (by omega)
                have : E = p := by rw [HE.out]; omega
                subst this
                have hs : ¬ ((rr : Int) + (v1 : Int) < 4294967296) := by omega
                have hs' : (4294967296 : Int) ≤ (rr : Int) + (v1 : Int) := by omega
                have hds : decide ((4294967296 : Int) ≤ (rr : Int) + (v1 : Int)) = true := decide_eq_true hs'
                clear hp hn hg hpe hbig hst ht hze
                go_wp2
                go_ret2
                exact ⟨by rw [← HQ.out, ← HR.out]; simp, rfl⟩
            · have hn := hg.right (by omega) (by rw [← hze]; omega)
              have : E = qq := by rw [HE.out]; omega
              subst this
              have htt : ¬ (4294967296 * (rr : Int) + (n0 : Int) < (z : Int)) := by omega
              have hdt : decide (4294967296 * (rr : Int) + (n0 : Int) < (z : Int)) = false := decide_eq_false htt
              clear hn hg hbig ht hze
              go_wp2
              go_ret2
              exact ⟨by rw [← HQ.out, ← HR.out]; simp, rfl⟩

end Go.Proofs.YtclbiophgnkggaaGreatDoor

namespace Go.Proofs.YtclbiophgnkggaaGreatDoor
open Go Go.RowKit
open Wd

theorem div64_one (hi lo y : Nat) (hh0 : 0 < hi) (hh : hi < y) (hl : lo < 18446744073709551616) (hy : y < 18446744073709551616) (w : World) :
    Calls Tryz.prog 103 #[.int .u64 (hi : Int), .int .u64 (lo : Int), .int .u64 (y : Int)] w fun e w' => e = .returned (.tuple #[.int .u64 (((hi * 18446744073709551616 + lo) / y : Nat) : Int), .int .u64 (((hi * 18446744073709551616 + lo) % y : Nat) : Int)]) ∧ w' = w := by
  obtain ⟨s, hs⟩ : ∃ s, s = 64 - Lib.bitLen y := ⟨_, rfl⟩
  have HL : Hid (∀ w, Calls Tryz.prog 108 #[.int .u64 (y : Int)] w fun e w' => e = .returned (.int .i64 (s : Int)) ∧ w' = w) := by rw [hs]; exact fun w => lead_any y hy w
  obtain ⟨s1, s2, s3⟩ := lead_up y (by omega) hy
  rw [← hs] at s1 s2 s3
  clear hs
  have u1 := up_lt hi lo y s s1 hl hh
  have u2 := up_or hi lo s s1 hl
  have u3 := up_sum hi lo s s1
  obtain ⟨d1, d2⟩ := div_down (hi * 18446744073709551616 + lo) y s
  rw [← u3] at d1 d2
  have eB : IntKind.u64.wrap ((hi : Int) * 2 ^ s) = ((hi * 2 ^ s % 18446744073709551616 : Nat) : Int) := wrap_shl hi s
  have eY : IntKind.u64.wrap ((y : Int) * 2 ^ s) = ((y * 2 ^ s % 18446744073709551616 : Nat) : Int) := wrap_shl y s
  have eL : IntKind.u64.wrap ((lo : Int) * 2 ^ s) = ((lo * 2 ^ s % 18446744073709551616 : Nat) : Int) := wrap_shl lo s
  have hL : lo * 2 ^ s % 18446744073709551616 < 18446744073709551616 := Nat.mod_lt _ (by decide)
  rw [Nat.mod_eq_of_lt s3] at eY
  have eK : (lo : Int) / 2 ^ (64 - s) = ((lo / 2 ^ (64 - s) : Nat) : Int) := by simp
  obtain ⟨QQ, hQQ⟩ : ∃ x, x = (hi * 18446744073709551616 + lo) / y := ⟨_, rfl⟩
  obtain ⟨RR, hRR⟩ : ∃ x, x = (hi * 18446744073709551616 + lo) % y := ⟨_, rfl⟩
  obtain ⟨L, hLe⟩ : ∃ x, x = lo * 2 ^ s % 18446744073709551616 := ⟨_, rfl⟩
  obtain ⟨B, hBe⟩ : ∃ x, x = hi * 2 ^ s := ⟨_, rfl⟩
  obtain ⟨C, hCe⟩ : ∃ x, x = lo / 2 ^ (64 - s) := ⟨_, rfl⟩
  obtain ⟨Y, hYe⟩ : ∃ x, x = y * 2 ^ s := ⟨_, rfl⟩
  rw [← hQQ] at d1
  rw [← hRR] at d2
  rw [← hQQ, ← hRR]
  rw [← hLe] at eL hL u3 d1 d2
  rw [← hYe] at eY s2 s3 u1 d1 d2
  rw [← hBe] at eB u1 u2 u3 d1 d2
  rw [← hCe] at u1 u2 u3 d1 d2 eK
  clear hQQ hRR hLe hBe hCe hYe u3
  obtain ⟨H, hHe⟩ : ∃ x, x = B + C := ⟨_, rfl⟩
  rw [← hHe] at u1 u2 d1 d2
  have hB : B < 18446744073709551616 := by omega
  rw [Nat.mod_eq_of_lt hB] at eB
  have eO : bits .or .u64 (B : Int) ((lo : Int) / 2 ^ (64 - s)) = (H : Int) := by
    rw [eK, bits_or_u64_nat _ _ hB (by omega), u2]
  clear u2 eK hHe
  have eA : bits .and .u64 (Y : Int) 4294967295 = ((Y % 4294967296 : Nat) : Int) := by
    rw [show (4294967295 : Int) = ((2 ^ 32 - 1 : Nat) : Int) by rfl, bits_and_u64_nat _ _ s3 (by decide), Nat.and_two_pow_sub_one_eq_mod]
  have eA' : bits .and .u64 (L : Int) 4294967295 = ((L % 4294967296 : Nat) : Int) := by
    rw [show (4294967295 : Int) = ((2 ^ 32 - 1 : Nat) : Int) by rfl, bits_and_u64_nat _ _ hL (by decide), Nat.and_two_pow_sub_one_eq_mod]
  have eD : (Y : Int) / 4294967296 = ((Y / 4294967296 : Nat) : Int) := by simp
  have eD' : (L : Int) / 4294967296 = ((L / 4294967296 : Nat) : Int) := by simp
  obtain ⟨v1, e1⟩ : ∃ v1, v1 = Y / 4294967296 := ⟨_, rfl⟩
  obtain ⟨v0, e0⟩ : ∃ v0, v0 = Y % 4294967296 := ⟨_, rfl⟩
  obtain ⟨n1, f1⟩ : ∃ n1, n1 = L / 4294967296 := ⟨_, rfl⟩
  obtain ⟨n0, f0⟩ : ∃ n0, n0 = L % 4294967296 := ⟨_, rfl⟩
  have HV : Y = v1 * 4294967296 + v0 := by omega
  have HN : L = n1 * 4294967296 + n0 := by omega
  rw [← e1] at eD
  rw [← e0] at eA
  rw [← f1] at eD'
  rw [← f0] at eA'
  have b1 : 2147483648 ≤ v1 := by omega
  have b1' : v1 < 4294967296 := by omega
  have b0 : v0 < 4294967296 := by omega
  have c1 : n1 < 4294967296 := by omega
  have c0 : n0 < 4294967296 := by omega
  have hYp : 0 < Y := by omega
  clear e1 e0 f1 f0
  have hH : H < 18446744073709551616 := by omega
  have hU : rst H n1 Y < Y := rst_lt H n1 Y hYp
  have hF : rst (rst H n1 Y) n0 Y < Y := rst_lt (rst H n1 Y) n0 Y hYp
  obtain ⟨t1, t2⟩ := two_digits H n1 n0 Y hYp
  have eT : H * 18446744073709551616 + n1 * 4294967296 + n0 = H * 18446744073709551616 + L := by omega
  rw [eT] at t1 t2
  rw [t1] at d1
  rw [t2] at d2
  obtain ⟨a1, a2, a3, k1, k2, k3, g1, g2, g3, g4⟩ := cut64 H n1 (dgt H n1 Y) Y (rst H n1 Y) (dgt_rst H n1 Y) (by omega)
  obtain ⟨o1, o2, o3, k1', k2', k3', i1, i2, i3, i4⟩ := cut64 (rst H n1 Y) n0 (dgt (rst H n1 Y) n0 Y) Y (rst (rst H n1 Y) n0 Y) (dgt_rst (rst H n1 Y) n0 Y) (by omega)
  have hD := dgt_lt H n1 Y c1 u1
  have hE := dgt_lt (rst H n1 Y) n0 Y c0 hU
  have hU' : rst H n1 Y < 18446744073709551616 := by omega
  have quo : ∀ x : Nat, x < 18446744073709551616 → IntKind.u64.wrap ((x : Int) / (v1 : Int)) = ((x / v1 : Nat) : Int) := fun x hx => by
    rw [show (x : Int) / (v1 : Int) = ((x / v1 : Nat) : Int) by simp, wrap_nat _ (Nat.lt_of_le_of_lt (Nat.div_le_self _ _) hx)]
  have mul : ∀ x : Nat, x < 18446744073709551616 → IntKind.u64.wrap (((x / v1 : Nat) : Int) * (v1 : Int)) = ((x / v1 * v1 : Nat) : Int) := fun x hx => wrap_mul_lt _ _ (Nat.lt_of_le_of_lt (Nat.div_mul_le_self x v1) hx)
  have sub : ∀ x : Nat, (x : Int) - ((x / v1 * v1 : Nat) : Int) = ((x % v1 : Nat) : Int) := fun x => by have := Nat.div_add_mod' x v1; omega
  exact div64_core hi lo y s B Y L H QQ RR v1 v0 n1 n0 (H / v1) (H % v1) (H / v1 * v1) hh0 hh hl hy s1 HL eB eY eL eO u1 s3 hL eA eD eA' eD' b1 b1' b0 c1 c0
    (Gs.start H n1 Y v1 v0 HV b1 b1' c1) (quo H hH) (mul H hH) (Nat.div_mul_le_self H v1) (sub H)
    (dgt H n1 Y) (rst H n1 Y) a1 a2 a3 (rst H n1 Y / v1) (rst H n1 Y / v1 * v1) (rst H n1 Y % v1) rfl hU k1 k2 k3 g1 g2 g3 g4
    (Gs.start (rst H n1 Y) n0 Y v1 v0 HV b1 b1' c0) (quo _ hU') (mul _ hU') (Nat.div_mul_le_self _ v1) (sub _)
    (dgt (rst H n1 Y) n0 Y) (rst (rst H n1 Y) n0 Y) o1 o2 o3 rfl hF k1' k2' k3' i1 i2 i3 i4 hD hE d1 d2 w

/-- Div64: two parts by a number above the first. -/
theorem div64_any (hi lo y : Nat) (hh : hi < y) (hl : lo < 18446744073709551616) (hy : y < 18446744073709551616) (w : World) :
    Calls Tryz.prog 103 #[.int .u64 (hi : Int), .int .u64 (lo : Int), .int .u64 (y : Int)] w fun e w' => e = .returned (.tuple #[.int .u64 (((hi * 18446744073709551616 + lo) / y : Nat) : Int), .int .u64 (((hi * 18446744073709551616 + lo) % y : Nat) : Int)]) ∧ (w' = w ∨ w' = w.drew) := by
  rcases Nat.eq_zero_or_pos hi with h0 | h0
  · subst h0
    refine (div64_zero lo y hl hy hh w).mono ?_
    rintro e w' ⟨he, hw⟩
    exact ⟨by rw [he, Nat.zero_mul, Nat.zero_add], Or.inr hw⟩
  · refine (div64_one hi lo y h0 hh hl hy w).mono ?_
    rintro e w' ⟨he, hw⟩
    exact ⟨he, Or.inl hw⟩

end Go.Proofs.YtclbiophgnkggaaGreatDoor

namespace Go.Proofs.YtclbiophgnkggaaGreatDoor
open Go Go.RowKit
open Wd

theorem div64_N (hi lo y : Nat) (hh : hi < y) (hl : lo < 18446744073709551616) (hy : y < 18446744073709551616) (w : World) :
    Calls Tryz.prog 103 #[.int .u64 (hi : Int), .int .u64 (lo : Int), .int .u64 (y : Int)] w fun e w' => e = .returned (.tuple #[.int .u64 (((hi * 18446744073709551616 + lo) / y : Nat) : Int), .int .u64 (((hi * 18446744073709551616 + lo) % y : Nat) : Int)]) ∧ ∃ n, w' = w.drewN n := by
  refine (div64_any hi lo y hh hl hy w).mono ?_
  rintro e w' ⟨he, hw⟩
  refine ⟨he, ?_⟩
  rcases hw with h | h
  · exact ⟨0, by rw [h, World.drewN_zero]⟩
  · exact ⟨1, h⟩

set_option maxRecDepth 100000 in
set_option maxHeartbeats 1000000 in
theorem cutDigits_any (a : Nat) (ha : a < 2 ^ 256) (w : World) :
    Calls Tryz.prog 87 #[.agg (vQ (dgs a 4)).toArray] w fun e w' => e = .returned (.tuple #[.agg (vQ (dgs (a / 10000000000000000000) 4)).toArray, .int .u64 ((a % 10000000000000000000 : Nat) : Int)]) ∧ Below w.heap.size w w' := by
  have HL4 : Hid (lw a 4 = 0) := lw_four a ha
  have HL0 : Hid (lw a 0 = a % 10000000000000000000) := lw_zero a
  obtain ⟨q, hq⟩ : ∃ q, q = a / 10000000000000000000 := ⟨_, rfl⟩
  have HSTEP : Hid (∀ t, (lw a (t + 1) * 18446744073709551616 + lim a t) / 10000000000000000000 = lim q t ∧ (lw a (t + 1) * 18446744073709551616 + lim a t) % 10000000000000000000 = lw a t) := by rw [hq]; exact fun t => cut_step a t
  rw [← hq]
  obtain ⟨m, hm⟩ : ∃ m, m = a % 10000000000000000000 := ⟨_, rfl⟩
  rw [← hm] at HL0 ⊢
  clear hq hm ha
  go_enter Tryz.func87, Tryz.ntmps87
  go_wp2
  go_loopw [4, 5] (fun lv i wr => ∃ t : Nat, t ≤ 4 ∧ i = .int .i64 ((t : Int) - 1) ∧ lv = .int .u64 ((lw a t : Nat) : Int) ∧ Below w.heap.size w wr ∧ Row wr w.heap.size (vQ (dgs a t ++ (dgs q 4).drop t)) 37 ∧ Row wr (w.heap.size + 1) (vQ (List.replicate 4 0)) 37)
    (fun _ i _ => (intOf i + 1).toNat)
  case atStart =>
    refine ⟨4, by omega, rfl, by rw [HL4.out]; rfl, ((Below.refl _ _).alloc (Nat.le_refl _) _).alloc (by simp) _, ?_, ?_⟩
    · refine (Row.new' rfl ?_).alloc _
      rw [List.drop_of_length_le (by rw [dgs_length]; exact Nat.le_refl _), List.append_nil]
    · exact Row.new' (by simp) rfl
  case round =>
    obtain ⟨t, ht, rfl, rfl, hb, h0, h1⟩ := hrel
    by_cases hlt : 0 < t
    · obtain ⟨k, rfl⟩ : ∃ k, t = k + 1 := ⟨t - 1, by omega⟩
      have hk : k < 4 := by omega
      have ei : (((k + 1 : Nat) : Int) - 1) = (k : Int) := by omega
      rw [ei]
      have g0 := h0.cell k _ (vQ_get _ k (by rw [down_length q a (k + 1) (by omega)]; exact hk))
      have gf := h0.thaw k
      rw [down_get q a k] at g0
      have HMA : Hid (∀ w, Calls Tryz.prog 103 #[.int .u64 ((lw a (k + 1) : Nat) : Int), .int .u64 ((lim a k : Nat) : Int), .int .u64 10000000000000000000] w fun e w' => e = .returned (.tuple #[.int .u64 ((lim q k : Nat) : Int), .int .u64 ((lw a k : Nat) : Int)]) ∧ ∃ n, w' = w.drewN n) := by
        intro w
        have h := div64_N (lw a (k + 1)) (lim a k) 10000000000000000000 (lw_lt _ _) (lim_lt _ _) (by decide) w
        rw [(HSTEP.out k).1, (HSTEP.out k).2] at h
        exact h
      generalize lim a k = x at g0 HMA
      generalize lw a (k + 1) = lo at HMA
      clear ei ht hlt
      go_wp2_with (go_at_call 103; refine (HMA.out wr).mono ?_; rintro e w2 ⟨rfl, n, rfl⟩)
      refine ⟨⟨k, by omega, by go_num, rfl, Below.setCell (below_drewN hb n) (by simp) _, ?_, (h1.drewN n).set_other _ _ _ (by omega)⟩, by simp [intOf]⟩
      have := (h0.drewN n).set k (.int .u64 ((lim q k : Nat) : Int))
      rw [vQ_set, down_set q a k hk] at this
      exact this
    · have et : t = 0 := by omega
      subst et
      rw [show lw a 0 = m from HL0.out]
      clear ht hlt
      have h0' : Row wr w.heap.size (vQ (dgs q 4)) 37 := h0
      obtain ⟨cs, hcs⟩ : ∃ cs, cs = vQ (dgs q 4) := ⟨_, rfl⟩
      have hl : cs.length = 4 := by rw [hcs, vQ_length, dgs_length]
      rw [← hcs] at h0'
      have i4 : (Tryz.prog.info? 37).map (·.size) = some cs.length := by rw [info_w4, hl]
      have i4' : (Tryz.prog.info? 37).map (·.size) = some cs.toArray.size := by rw [info_w4]; simp [hl]
      have hone := all_oneCell_toArray (show ∀ v ∈ cs, v.oneCell' = true by rw [hcs]; exact vQ_one _)
      have T := h1.there 0 cs.toArray.size (by simp [hl, vQ_length])
      have fin := h1.over (vs := cs) (by rw [hl]; rfl)
      have hbf := below_setCells hb (b := w.heap.size + 1) (o := 0) (by omega) cs
      have HE : Hid (vQ (dgs q 4) = cs) := hcs.symm
      have HL : Hid (cs.length = 4) := hl
      clear hcs hl hb h0 HSTEP HL0 HL4
      go_wp2_with (first
        | (refine wpList_load_mid rfl 37 (.tmp 1) rfl w.heap.size 0 rfl cs _ h0'.all Tryz.underlying37 rfl i4 ?_; simp only [Act.put, List.setIfInBounds_toArray, List.set_cons_zero, List.set_cons_succ])
        | (refine wpList_store_mid rfl 37 (.tmp 2) (.tmp 20) rfl (w.heap.size + 1) 0 cs.toArray rfl rfl T i4' hone ?_; simp only [Act.put]))
      exact bodyPost_ret (results_row_tmp Tryz.results87 _ _ (w.heap.size + 1) 37 cs (.int .u64 (m : Int)) rfl rfl fin Tryz.underlying37 info_w4 HL.out) rfl ⟨by rw [HE.out], hbf⟩

end Go.Proofs.YtclbiophgnkggaaGreatDoor
