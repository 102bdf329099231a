/-
  math/bits.Div64.
-/
import Derived.Test.YtdlmighfmkhpkaaWDivU
namespace Go.Proofs.Ytdlmighfmkhpkaa
open Go Go.RowKit
open Wd

set_option maxRecDepth 100000 in
set_option maxHeartbeats 2000000 in
theorem div64_zero (lo y : Nat) (hl : lo < 18446744073709551616) (hy : y < 18446744073709551616) (h0 : 0 < y) (w : World) :
    Calls Try.prog 92 #[.int .u64 0, .int .u64 (lo : Int), .int .u64 (y : Int)] w fun e w' => e = .returned (.tuple #[.int .u64 ((lo / y : Nat) : Int), .int .u64 ((lo % y : Nat) : Int)]) ∧ w' = w.drew := by
  go_enter Try.func92, Try.ntmps92
  go_wp2
  go_region
  go_wp2
  go_ret2
  refine ⟨?_, rfl⟩
  rw [show (lo : Int) / (y : Int) = ((lo / y : Nat) : Int) by simp, wrap_nat _ (Nat.lt_of_le_of_lt (Nat.div_le_self _ _) hl), show (lo : Int) % (y : Int) = ((lo % y : Nat) : Int) by simp]
  rfl

set_option maxRecDepth 100000 in
set_option maxHeartbeats 8000000 in
theorem div64_core (hi lo y s B Y L H QQ RR v1 v0 n1 n0 q r m : Nat) (hh0 : 0 < hi) (hh : hi < y) (_hl : lo < 18446744073709551616) (_hy : y < 18446744073709551616) (s1 : s ≤ 63)
    (HL : Hid (∀ w, Calls Try.prog 85 #[.int .u64 (y : Int)] w fun e w' => e = .returned (.int .i64 (s : Int)) ∧ w' = w))
    (eB : IntKind.u64.wrap ((hi : Int) * 2 ^ s) = (B : Int)) (eY : IntKind.u64.wrap ((y : Int) * 2 ^ s) = (Y : Int)) (eL : IntKind.u64.wrap ((lo : Int) * 2 ^ s) = (L : Int))
    (eO : bits .or .u64 (B : Int) ((lo : Int) / 2 ^ (64 - s)) = (H : Int)) (hHY : H < Y) (hY : Y < 18446744073709551616) (_hL : L < 18446744073709551616)
    (eA : bits .and .u64 (Y : Int) 4294967295 = (v0 : Int)) (eD : (Y : Int) / 4294967296 = (v1 : Int)) (eA' : bits .and .u64 (L : Int) 4294967295 = (n0 : Int)) (eD' : (L : Int) / 4294967296 = (n1 : Int))
    (b1 : 2147483648 ≤ v1) (b1' : v1 < 4294967296) (b0 : v0 < 4294967296) (c1 : n1 < 4294967296) (c0 : n0 < 4294967296)
    (HG : Hid (Gs H n1 Y v1 v0 q r))
    (eQ : IntKind.u64.wrap ((H : Int) / (v1 : Int)) = (q : Int)) (eM : IntKind.u64.wrap ((q : Int) * (v1 : Int)) = (m : Int)) (hm : m ≤ H) (eR : (H : Int) - (m : Int) = (r : Int))
    (D U a1 a2 a3 q0 m0 r0 : Nat) (HD : Hid (D = dgt H n1 Y)) (hU : U < Y) (_k1 : a1 < 18446744073709551616) (_k2 : a2 < 18446744073709551616) (_k3 : a3 < 18446744073709551616)
    (g1 : IntKind.u64.wrap ((H : Int) * 4294967296) = (a1 : Int)) (g2 : IntKind.u64.wrap ((a1 : Int) + (n1 : Int)) = (a2 : Int)) (g3 : IntKind.u64.wrap ((D : Int) * (Y : Int)) = (a3 : Int)) (g4 : IntKind.u64.wrap ((a2 : Int) - (a3 : Int)) = (U : Int))
    (HG0 : Hid (Gs U n0 Y v1 v0 q0 r0))
    (eQ0 : IntKind.u64.wrap ((U : Int) / (v1 : Int)) = (q0 : Int)) (eM0 : IntKind.u64.wrap ((q0 : Int) * (v1 : Int)) = (m0 : Int)) (hm0 : m0 ≤ U) (eR0 : (U : Int) - (m0 : Int) = (r0 : Int))
    (E F o1 o2 o3 : Nat) (HE : Hid (E = dgt U n0 Y)) (hF : F < Y) (_k1' : o1 < 18446744073709551616) (_k2' : o2 < 18446744073709551616) (_k3' : o3 < 18446744073709551616)
    (i1 : IntKind.u64.wrap ((U : Int) * 4294967296) = (o1 : Int)) (i2 : IntKind.u64.wrap ((o1 : Int) + (n0 : Int)) = (o2 : Int)) (i3 : IntKind.u64.wrap ((E : Int) * (Y : Int)) = (o3 : Int)) (i4 : IntKind.u64.wrap ((o2 : Int) - (o3 : Int)) = (F : Int))
    (hD : D < 4294967296) (hE : E < 4294967296) (HQ : Hid (D * 4294967296 + E = QQ)) (HR : Hid (F / 2 ^ s = RR)) (w : World) :
    Calls Try.prog 92 #[.int .u64 (hi : Int), .int .u64 (lo : Int), .int .u64 (y : Int)] w fun e w' => e = .returned (.tuple #[.int .u64 (QQ : Int), .int .u64 (RR : Int)]) ∧ w' = w := by
  go_enter Try.func92, Try.ntmps92
  go_wp2_with (go_at_call 85; refine (HL.out w).mono ?_; rintro e w ⟨rfl, rfl⟩)
  obtain ⟨T, hT⟩ : ∃ T : Nat, T = 4294967296 := ⟨_, rfl⟩
  have HT : Hid (T = 4294967296) := hT
  clear hT
  go_loopw [15, 16] (fun qv rv wr => ∃ q r : Nat, qv = .int .u64 (q : Int) ∧ rv = .int .u64 (r : Int) ∧ Gs H n1 Y v1 v0 q r ∧ wr = w) (fun _ rv _ => T - (intOf rv).toNat)
  case atStart => exact ⟨q, r, rfl, rfl, HG.out, rfl⟩
  case round =>
    clear HG eQ eM hm eR
    obtain ⟨qq, rr, rfl, rfl, hg, rfl⟩ := hrel
    have hr := hg.lt
    have hqU : qq ≤ 18446744073709551615 := by
      have h1 := hg.sum
      have h2 : qq * 1 ≤ qq * v1 := Nat.mul_le_mul_left _ (by omega)
      omega
    by_cases hbig : 4294967296 ≤ qq
    · have hp := hg.great c1 hHY (Or.inl hbig)
      obtain ⟨p, hpe⟩ : ∃ p, p + 1 = qq := ⟨qq - 1, by omega⟩
      have eP : (qq : Int) - 1 = (p : Int) := by omega
      have hlt : ¬ ((qq : Int) < 4294967296) := by omega
      have hge : (4294967296 : Int) ≤ (qq : Int) := by omega
      have hdg : decide ((4294967296 : Int) ≤ (qq : Int)) = true := decide_eq_true hge
      by_cases hst : rr + v1 < 4294967296
      · have hn := hg.less c1 hHY (Or.inl hbig) hst
        rw [show qq - 1 = p by omega] at hn
        have HN : Hid _ := hn
        have hs : (rr : Int) + (v1 : Int) < 4294967296 := by omega
        have hs' : ¬ ((4294967296 : Int) ≤ (rr : Int) + (v1 : Int)) := by omega
        have hds : decide ((4294967296 : Int) ≤ (rr : Int) + (v1 : Int)) = false := decide_eq_false hs'
        clear hp hn hg hpe hbig hst
        go_wp2
        refine ⟨⟨p, rr + v1, rfl, by go_num, HN.out, trivial⟩, ?_⟩
        have := HT.out
        simp [intOf]
        omega
      · have hn := hg.stop b0 c1 hHY (Or.inl hbig) (by omega)
        have : D = p := by rw [HD.out]; omega
        subst this
        have hs : ¬ ((rr : Int) + (v1 : Int) < 4294967296) := by omega
        have hs' : (4294967296 : Int) ≤ (rr : Int) + (v1 : Int) := by omega
        have hds : decide ((4294967296 : Int) ≤ (rr : Int) + (v1 : Int)) = true := decide_eq_true hs'
        clear hp hn hg hpe hbig hst
        go_wp2
        go_loopw [16, 18] (fun rv qv w2 => ∃ q r : Nat, qv = .int .u64 (q : Int) ∧ rv = .int .u64 (r : Int) ∧ Gs U n0 Y v1 v0 q r ∧ w2 = wr) (fun rv _ _ => T - (intOf rv).toNat)
        case atStart => exact ⟨q0, r0, rfl, rfl, HG0.out, rfl⟩
        case round =>
          clear HG0 eQ0 eM0 hm0 eR0
          obtain ⟨qq, rr, rfl, rfl, hg, rfl⟩ := hrel
          have hr := hg.lt
          have hqU : qq ≤ 18446744073709551615 := by
            have h1 := hg.sum
            have h2 : qq * 1 ≤ qq * v1 := Nat.mul_le_mul_left _ (by omega)
            omega
          by_cases hbig : 4294967296 ≤ qq
          · have hp := hg.great c0 hU (Or.inl hbig)
            obtain ⟨p, hpe⟩ : ∃ p, p + 1 = qq := ⟨qq - 1, by omega⟩
            have eP : (qq : Int) - 1 = (p : Int) := by omega
            have hlt : ¬ ((qq : Int) < 4294967296) := by omega
            have hge : (4294967296 : Int) ≤ (qq : Int) := by omega
            have hdg : decide ((4294967296 : Int) ≤ (qq : Int)) = true := decide_eq_true hge
            by_cases hst : rr + v1 < 4294967296
            · have hn := hg.less c0 hU (Or.inl hbig) hst
              rw [show qq - 1 = p by omega] at hn
              have HN : Hid _ := hn
              have hs : (rr : Int) + (v1 : Int) < 4294967296 := by omega
              have hs' : ¬ ((4294967296 : Int) ≤ (rr : Int) + (v1 : Int)) := by omega
              have hds : decide ((4294967296 : Int) ≤ (rr : Int) + (v1 : Int)) = false := decide_eq_false hs'
              clear hp hn hg hpe hbig hst
              go_wp2
              refine ⟨⟨p, rr + v1, rfl, by go_num, HN.out, trivial⟩, ?_⟩
              have := HT.out
              simp [intOf]
              omega
            · have hn := hg.stop b0 c0 hU (Or.inl hbig) (by omega)
              have : E = p := by rw [HE.out]; omega
              subst this
              have hs : ¬ ((rr : Int) + (v1 : Int) < 4294967296) := by omega
              have hs' : (4294967296 : Int) ≤ (rr : Int) + (v1 : Int) := by omega
              have hds : decide ((4294967296 : Int) ≤ (rr : Int) + (v1 : Int)) = true := decide_eq_true hs'
              clear hp hn hg hpe hbig hst
              go_wp2
              go_ret2
              exact ⟨by rw [← HQ.out, ← HR.out]; simp, rfl⟩
          · have hlt : (qq : Int) < 4294967296 := by omega
            have hge : ¬ ((4294967296 : Int) ≤ (qq : Int)) := by omega
            have hdg : decide ((4294967296 : Int) ≤ (qq : Int)) = false := decide_eq_false hge
            have hz : qq * v0 < 18446744073709551616 := Nat.lt_of_le_of_lt (Nat.mul_le_mul (show qq ≤ 4294967295 by omega) (show v0 ≤ 4294967295 by omega)) (by decide)
            have eZ := wrap_mul_lt qq v0 hz
            obtain ⟨z, hze⟩ : ∃ z, z = qq * v0 := ⟨_, rfl⟩
            rw [← hze] at hz eZ
            by_cases ht : 4294967296 * rr + n0 < z
            · have hp := hg.great c0 hU (Or.inr (by rw [← hze]; exact ht))
              obtain ⟨p, hpe⟩ : ∃ p, p + 1 = qq := ⟨qq - 1, by omega⟩
              have eP : (qq : Int) - 1 = (p : Int) := by omega
              have htt : 4294967296 * (rr : Int) + (n0 : Int) < (z : Int) := by omega
              have hdt : decide (4294967296 * (rr : Int) + (n0 : Int) < (z : Int)) = true := decide_eq_true htt
              by_cases hst : rr + v1 < 4294967296
              · have hn := hg.less c0 hU (Or.inr (by rw [← hze]; exact ht)) hst
                rw [show qq - 1 = p by omega] at hn
                have HN : Hid _ := hn
                have hs : (rr : Int) + (v1 : Int) < 4294967296 := by omega
                have hs' : ¬ ((4294967296 : Int) ≤ (rr : Int) + (v1 : Int)) := by omega
                have hds : decide ((4294967296 : Int) ≤ (rr : Int) + (v1 : Int)) = false := decide_eq_false hs'
                clear hp hn hg hpe hbig hst ht hze
                go_wp2
                refine ⟨⟨p, rr + v1, rfl, by go_num, HN.out, trivial⟩, ?_⟩
                have := HT.out
                simp [intOf]
                omega
              · have hn := hg.stop b0 c0 hU (Or.inr (by rw [← hze]; exact ht)) (by omega)
                have : E = p := by rw [HE.out]; omega
                subst this
                have hs : ¬ ((rr : Int) + (v1 : Int) < 4294967296) := by omega
                have hs' : (4294967296 : Int) ≤ (rr : Int) + (v1 : Int) := by omega
                have hds : decide ((4294967296 : Int) ≤ (rr : Int) + (v1 : Int)) = true := decide_eq_true hs'
                clear hp hn hg hpe hbig hst ht hze
                go_wp2
                go_ret2
                exact ⟨by rw [← HQ.out, ← HR.out]; simp, rfl⟩
            · have hn := hg.right (by omega) (by rw [← hze]; omega)
              have : E = qq := by rw [HE.out]; omega
              subst this
              have htt : ¬ (4294967296 * (rr : Int) + (n0 : Int) < (z : Int)) := by omega
              have hdt : decide (4294967296 * (rr : Int) + (n0 : Int) < (z : Int)) = false := decide_eq_false htt
              clear hn hg hbig ht hze
              go_wp2
              go_ret2
              exact ⟨by rw [← HQ.out, ← HR.out]; simp, rfl⟩
    · have hlt : (qq : Int) < 4294967296 := by omega
      have hge : ¬ ((4294967296 : Int) ≤ (qq : Int)) := by omega
      have hdg : decide ((4294967296 : Int) ≤ (qq : Int)) = false := decide_eq_false hge
      have hz : qq * v0 < 18446744073709551616 := Nat.lt_of_le_of_lt (Nat.mul_le_mul (show qq ≤ 4294967295 by omega) (show v0 ≤ 4294967295 by omega)) (by decide)
      have eZ := wrap_mul_lt qq v0 hz
      obtain ⟨z, hze⟩ : ∃ z, z = qq * v0 := ⟨_, rfl⟩
      rw [← hze] at hz eZ
      by_cases ht : 4294967296 * rr + n1 < z
      · have hp := hg.great c1 hHY (Or.inr (by rw [← hze]; exact ht))
        obtain ⟨p, hpe⟩ : ∃ p, p + 1 = qq := ⟨qq - 1, by omega⟩
        have eP : (qq : Int) - 1 = (p : Int) := by omega
        have htt : 4294967296 * (rr : Int) + (n1 : Int) < (z : Int) := by omega
        have hdt : decide (4294967296 * (rr : Int) + (n1 : Int) < (z : Int)) = true := decide_eq_true htt
        by_cases hst : rr + v1 < 4294967296
        · have hn := hg.less c1 hHY (Or.inr (by rw [← hze]; exact ht)) hst
          rw [show qq - 1 = p by omega] at hn
          have HN : Hid _ := hn
          have hs : (rr : Int) + (v1 : Int) < 4294967296 := by omega
          have hs' : ¬ ((4294967296 : Int) ≤ (rr : Int) + (v1 : Int)) := by omega
          have hds : decide ((4294967296 : Int) ≤ (rr : Int) + (v1 : Int)) = false := decide_eq_false hs'
          clear hp hn hg hpe hbig hst ht hze
          go_wp2
          refine ⟨⟨p, rr + v1, rfl, by go_num, HN.out, trivial⟩, ?_⟩
          have := HT.out
          simp [intOf]
          omega
        · have hn := hg.stop b0 c1 hHY (Or.inr (by rw [← hze]; exact ht)) (by omega)
          have : D = p := by rw [HD.out]; omega
          subst this
          have hs : ¬ ((rr : Int) + (v1 : Int) < 4294967296) := by omega
          have hs' : (4294967296 : Int) ≤ (rr : Int) + (v1 : Int) := by omega
          have hds : decide ((4294967296 : Int) ≤ (rr : Int) + (v1 : Int)) = true := decide_eq_true hs'
          clear hp hn hg hpe hbig hst ht hze
          go_wp2
          go_loopw [16, 18] (fun rv qv w2 => ∃ q r : Nat, qv = .int .u64 (q : Int) ∧ rv = .int .u64 (r : Int) ∧ Gs U n0 Y v1 v0 q r ∧ w2 = wr) (fun rv _ _ => T - (intOf rv).toNat)
          case atStart => exact ⟨q0, r0, rfl, rfl, HG0.out, rfl⟩
          case round =>
            clear HG0 eQ0 eM0 hm0 eR0
            obtain ⟨qq, rr, rfl, rfl, hg, rfl⟩ := hrel
            have hr := hg.lt
            have hqU : qq ≤ 18446744073709551615 := by
              have h1 := hg.sum
              have h2 : qq * 1 ≤ qq * v1 := Nat.mul_le_mul_left _ (by omega)
              omega
            by_cases hbig : 4294967296 ≤ qq
            · have hp := hg.great c0 hU (Or.inl hbig)
              obtain ⟨p, hpe⟩ : ∃ p, p + 1 = qq := ⟨qq - 1, by omega⟩
              have eP : (qq : Int) - 1 = (p : Int) := by omega
              have hlt : ¬ ((qq : Int) < 4294967296) := by omega
              have hge : (4294967296 : Int) ≤ (qq : Int) := by omega
              have hdg : decide ((4294967296 : Int) ≤ (qq : Int)) = true := decide_eq_true hge
              by_cases hst : rr + v1 < 4294967296
              · have hn := hg.less c0 hU (Or.inl hbig) hst
                rw [show qq - 1 = p by omega] at hn
                have HN : Hid _ := hn
                have hs : (rr : Int) + (v1 : Int) < 4294967296 := by omega
                have hs' : ¬ ((4294967296 : Int) ≤ (rr : Int) + (v1 : Int)) := by omega
                have hds : decide ((4294967296 : Int) ≤ (rr : Int) + (v1 : Int)) = false := decide_eq_false hs'
                clear hp hn hg hpe hbig hst
                go_wp2
                refine ⟨⟨p, rr + v1, rfl, by go_num, HN.out, trivial⟩, ?_⟩
                have := HT.out
                simp [intOf]
                omega
              · have hn := hg.stop b0 c0 hU (Or.inl hbig) (by omega)
                have : E = p := by rw [HE.out]; omega
                subst this
                have hs : ¬ ((rr : Int) + (v1 : Int) < 4294967296) := by omega
                have hs' : (4294967296 : Int) ≤ (rr : Int) + (v1 : Int) := by omega
                have hds : decide ((4294967296 : Int) ≤ (rr : Int) + (v1 : Int)) = true := decide_eq_true hs'
                clear hp hn hg hpe hbig hst
                go_wp2
                go_ret2
                exact ⟨by rw [← HQ.out, ← HR.out]; simp, rfl⟩
            · have hlt : (qq : Int) < 4294967296 := by omega
              have hge : ¬ ((4294967296 : Int) ≤ (qq : Int)) := by omega
              have hdg : decide ((4294967296 : Int) ≤ (qq : Int)) = false := decide_eq_false hge
              have hz : qq * v0 < 18446744073709551616 := Nat.lt_of_le_of_lt (Nat.mul_le_mul (show qq ≤ 4294967295 by omega) (show v0 ≤ 4294967295 by omega)) (by decide)
              have eZ := wrap_mul_lt qq v0 hz
              obtain ⟨z, hze⟩ : ∃ z, z = qq * v0 := ⟨_, rfl⟩
              rw [← hze] at hz eZ
              by_cases ht : 4294967296 * rr + n0 < z
              · have hp := hg.great c0 hU (Or.inr (by rw [← hze]; exact ht))
                obtain ⟨p, hpe⟩ : ∃ p, p + 1 = qq := ⟨qq - 1, by omega⟩
                have eP : (qq : Int) - 1 = (p : Int) := by omega
                have htt : 4294967296 * (rr : Int) + (n0 : Int) < (z : Int) := by omega
                have hdt : decide (4294967296 * (rr : Int) + (n0 : Int) < (z : Int)) = true := decide_eq_true htt
                by_cases hst : rr + v1 < 4294967296
                · have hn := hg.less c0 hU (Or.inr (by rw [← hze]; exact ht)) hst
                  rw [show qq - 1 = p by omega] at hn
                  have HN : Hid _ := hn
                  have hs : (rr : Int) + (v1 : Int) < 4294967296 := by omega
                  have hs' : ¬ ((4294967296 : Int) ≤ (rr : Int) + (v1 : Int)) := by omega
                  have hds : decide ((4294967296 : Int) ≤ (rr : Int) + (v1 : Int)) = false := decide_eq_false hs'
                  clear hp hn hg hpe hbig hst ht hze
                  go_wp2
                  refine ⟨⟨p, rr + v1, rfl, by go_num, HN.out, trivial⟩, ?_⟩
                  have := HT.out
                  simp [intOf]
                  omega
                · have hn := hg.stop b0 c0 hU (Or.inr (by rw [← hze]; exact ht)) (by omega)
                  have : E = p := by rw [HE.out]; omega
                  subst this
                  have hs : ¬ ((rr : Int) + (v1 : Int) < 4294967296) := by omega
                  have hs' : (4294967296 : Int) ≤ (rr : Int) + (v1 : Int) := by omega
                  have hds : decide ((4294967296 : Int) ≤ (rr : Int) + (v1 : Int)) = true := decide_eq_true hs'
                  clear hp hn hg hpe hbig hst ht hze
                  go_wp2
                  go_ret2
                  exact ⟨by rw [← HQ.out, ← HR.out]; simp, rfl⟩
              · have hn := hg.right (by omega) (by rw [← hze]; omega)
                have : E = qq := by rw [HE.out]; omega
                subst this
                have htt : ¬ (4294967296 * (rr : Int) + (n0 : Int) < (z : Int)) := by omega
                have hdt : decide (4294967296 * (rr : Int) + (n0 : Int) < (z : Int)) = false := decide_eq_false htt
                clear hn hg hbig ht hze
                go_wp2
                go_ret2
                exact ⟨by rw [← HQ.out, ← HR.out]; simp, rfl⟩
      · have hn := hg.right (by omega) (by rw [← hze]; omega)
        have : D = qq := by rw [HD.out]; omega
        subst this
        have htt : ¬ (4294967296 * (rr : Int) + (n1 : Int) < (z : Int)) := by omega
        have hdt : decide (4294967296 * (rr : Int) + (n1 : Int) < (z : Int)) = false := decide_eq_false htt
        clear hn hg hbig ht hze
        go_wp2
        go_loopw [16, 18] (fun rv qv w2 => ∃ q r : Nat, qv = .int .u64 (q : Int) ∧ rv = .int .u64 (r : Int) ∧ Gs U n0 Y v1 v0 q r ∧ w2 = wr) (fun rv _ _ => T - (intOf rv).toNat)
        case atStart => exact ⟨q0, r0, rfl, rfl, HG0.out, rfl⟩
        case round =>
          clear HG0 eQ0 eM0 hm0 eR0
          obtain ⟨qq, rr, rfl, rfl, hg, rfl⟩ := hrel
          have hr := hg.lt
          have hqU : qq ≤ 18446744073709551615 := by
            have h1 := hg.sum
            have h2 : qq * 1 ≤ qq * v1 := Nat.mul_le_mul_left _ (by omega)
            omega
          by_cases hbig : 4294967296 ≤ qq
          · have hp := hg.great c0 hU (Or.inl hbig)
            obtain ⟨p, hpe⟩ : ∃ p, p + 1 = qq := ⟨qq - 1, by omega⟩
            have eP : (qq : Int) - 1 = (p : Int) := by omega
            have hlt : ¬ ((qq : Int) < 4294967296) := by omega
            have hge : (4294967296 : Int) ≤ (qq : Int) := by omega
            have hdg : decide ((4294967296 : Int) ≤ (qq : Int)) = true := decide_eq_true hge
            by_cases hst : rr + v1 < 4294967296
            · have hn := hg.less c0 hU (Or.inl hbig) hst
              rw [show qq - 1 = p by omega] at hn
              have HN : Hid _ := hn
              have hs : (rr : Int) + (v1 : Int) < 4294967296 := by omega
              have hs' : ¬ ((4294967296 : Int) ≤ (rr : Int) + (v1 : Int)) := by omega
              have hds : decide ((4294967296 : Int) ≤ (rr : Int) + (v1 : Int)) = false := decide_eq_false hs'
              clear hp hn hg hpe hbig hst
              go_wp2
              refine ⟨⟨p, rr + v1, rfl, by go_num, HN.out, trivial⟩, ?_⟩
              have := HT.out
              simp [intOf]
              omega
            · have hn := hg.stop b0 c0 hU (Or.inl hbig) (by omega)
              have : E = p := by rw [HE.out]; omega
              subst this
              have hs : ¬ ((rr : Int) + (v1 : Int) < 4294967296) := by omega
              have hs' : (4294967296 : Int) ≤ (rr : Int) + (v1 : Int) := by omega
              have hds : decide ((4294967296 : Int) ≤ (rr : Int) + (v1 : Int)) = true := decide_eq_true hs'
              clear hp hn hg hpe hbig hst
              go_wp2
              go_ret2
              exact ⟨by rw [← HQ.out, ← HR.out]; simp, rfl⟩
          · have hlt : (qq : Int) < 4294967296 := by omega
            have hge : ¬ ((4294967296 : Int) ≤ (qq : Int)) := by omega
            have hdg : decide ((4294967296 : Int) ≤ (qq : Int)) = false := decide_eq_false hge
            have hz : qq * v0 < 18446744073709551616 := Nat.lt_of_le_of_lt (Nat.mul_le_mul (show qq ≤ 4294967295 by omega) (show v0 ≤ 4294967295 by omega)) (by decide)
            have eZ := wrap_mul_lt qq v0 hz
            obtain ⟨z, hze⟩ : ∃ z, z = qq * v0 := ⟨_, rfl⟩
            rw [← hze] at hz eZ
            by_cases ht : 4294967296 * rr + n0 < z
            · have hp := hg.great c0 hU (Or.inr (by rw [← hze]; exact ht))
              obtain ⟨p, hpe⟩ : ∃ p, p + 1 = qq := ⟨qq - 1, by omega⟩
              have eP : (qq : Int) - 1 = (p : Int) := by omega
              have htt : 4294967296 * (rr : Int) + (n0 : Int) < (z : Int) := by omega
              have hdt : decide (4294967296 * (rr : Int) + (n0 : Int) < (z : Int)) = true := decide_eq_true htt
              by_cases hst : rr + v1 < 4294967296
              · have hn := hg.less c0 hU (Or.inr (by rw [← hze]; exact ht)) hst
                rw [show qq - 1 = p by omega] at hn
                have HN : Hid _ := hn
                have hs : (rr : Int) + (v1 : Int) < 4294967296 := by omega
                have hs' : ¬ ((4294967296 : Int) ≤ (rr : Int) + (v1 : Int)) := by omega
                have hds : decide ((4294967296 : Int) ≤ (rr : Int) + (v1 : Int)) = false := decide_eq_false hs'
                clear hp hn hg hpe hbig hst ht hze
                go_wp2
                refine ⟨⟨p, rr + v1, rfl, by go_num, HN.out, trivial⟩, ?_⟩
                have := HT.out
                simp [intOf]
                omega
              · have hn := hg.stop b0 c0 hU (Or.inr (by rw [← hze]; exact ht)) (by omega)
                have : E = p := by rw [HE.out]; omega
                subst this
                have hs : ¬ ((rr : Int) + (v1 : Int) < 4294967296) := by omega
                have hs' : (4294967296 : Int) ≤ (rr : Int) + (v1 : Int) := by omega
                have hds : decide ((4294967296 : Int) ≤ (rr : Int) + (v1 : Int)) = true := decide_eq_true hs'
                clear hp hn hg hpe hbig hst ht hze
                go_wp2
                go_ret2
                exact ⟨by rw [← HQ.out, ← HR.out]; simp, rfl⟩
            · have hn := hg.right (by omega) (by rw [← hze]; omega)
              have : E = qq := by rw [HE.out]; omega
              subst this
              have htt : ¬ (4294967296 * (rr : Int) + (n0 : Int) < (z : Int)) := by omega
              have hdt : decide (4294967296 * (rr : Int) + (n0 : Int) < (z : Int)) = false := decide_eq_false htt
              clear hn hg hbig ht hze
              go_wp2
              go_ret2
              exact ⟨by rw [← HQ.out, ← HR.out]; simp, rfl⟩

end Go.Proofs.Ytdlmighfmkhpkaa
