/-
  The law's pick, same, begins, digest, address.
-/
import Derived.Test.YtmkmdbpibpbcjaaXWb
namespace Go.Proofs.Ytmkmdbpibpbcjaa
open Go Go.RowKit
open Sha

/-- Which one. -/
def pk (c n : Int) : Int := (if c < 0 then -(c + 1) else c) % n
theorem pk_range (c n : Int) (hn : 0 < n) : 0 ≤ pk c n ∧ pk c n < n := ⟨Int.emod_nonneg _ (by omega), Int.emod_lt_of_pos _ hn⟩
set_option maxRecDepth 100000 in
theorem pick_any (c n : Int) (hn : 0 < n) (h1 : -9223372036854775808 ≤ c) (h2 : c ≤ 9223372036854775807) (hn2 : n ≤ 9223372036854775807) (w : World) :
    Calls Try.prog 30 #[.int .i64 c, .int .i64 n] w fun e w' => e = .returned (.int .i64 (pk c n)) ∧ w' = w := by
  have hn0 : ¬ n = 0 := by omega
  have hn1 : ¬ n = -1 := by omega
  have hr := pk_range c n hn
  by_cases hc : c < 0
  · have e1 : Hid (pk c n = (-(c + 1)) % n) := by show _ = _; unfold pk; rw [if_pos hc]
    have e3 : (-(c + 1)).tmod n = pk c n := by rw [e1.out]; exact Int.tmod_eq_emod_of_nonneg (by omega)
    have e4 : (-1 + -c).tmod n = pk c n := by rw [show -1 + -c = -(c + 1) by omega]; exact e3
    have e5 : (-c + -1).tmod n = pk c n := by rw [show -c + -1 = -(c + 1) by omega]; exact e3
    generalize pk c n = r at *
    go_enter Try.func30, Try.ntmps30
    go_wp2
    go_ret
    exact ⟨by first | rfl | (simp; omega), rfl⟩
  · have e1 : Hid (pk c n = c % n) := by show _ = _; unfold pk; rw [if_neg hc]
    have e3 : c.tmod n = pk c n := by rw [e1.out]; exact Int.tmod_eq_emod_of_nonneg (by omega)
    generalize pk c n = r at *
    go_enter Try.func30, Try.ntmps30
    go_wp2
    go_ret
    exact ⟨by first | rfl | (simp; omega), rfl⟩

theorem sl_cell {w : World} {A : Option Addr} {n cap : Nat} {d : List (BitVec 8)} (h : SlAt w (.slice A n cap) d) (i : Nat) (hi : i < d.length) : ∃ b o, A = some ⟨b, o, none⟩ ∧ w.cell? ⟨b, o + i, none⟩ = some (.int .u8 (c (d.getD i 0))) := by
  rcases h with ⟨h0, _⟩ | ⟨ab, ao, c', hv, _, hr⟩
  · subst h0; simp at hi
  · simp only [Value.slice.injEq] at hv
    exact ⟨ab, ao, hv.1, hr i _ (vB_get d i hi)⟩
theorem c_inj {x y : BitVec 8} (h : c x = c y) : x = y := by
  unfold c at h
  apply BitVec.eq_of_toNat_eq
  omega

set_option maxRecDepth 100000 in
set_option maxHeartbeats 2000000 in
theorem same_any (d e : List (BitVec 8)) (n m : Nat) (hn : d.length = n) (hm : e.length = m) (hs : n ≤ 4611686018427387904) (hs2 : m ≤ 4611686018427387904) (A B : Option Addr) (ca cb : Nat) (w : World) (h1 : SlAt w (.slice A n ca) d) (h2 : SlAt w (.slice B m cb) e) (R : Bool) (hR : decide (d = e) = R) :
    Calls Try.prog 27 #[.slice A n ca, .slice B m cb] w fun r w' => r = .returned (.bool R) ∧ ∃ q, w' = w.drewN q := by
  by_cases hnm : n = m
  · subst hnm
    have HN : Hid (d.length = n) := hn
    have HM : Hid (e.length = n) := hm
    have H1 : Hid (SlAt w (.slice A n ca) d) := h1
    have H2 : Hid (SlAt w (.slice B n cb) e) := h2
    have HR : Hid (decide (d = e) = R) := hR
    clear hn hm h1 h2 hR
    go_enter Try.func27, Try.ntmps27
    go_wp2
    go_loopw [5] (fun i wr => ∃ t : Nat, t ≤ n ∧ i = .int .i64 (t : Int) ∧ (∃ q, wr = w.drewN q) ∧ Hid (d.take t = e.take t)) (fun i _ => n - (intOf i).toNat)
    case atStart => exact ⟨0, Nat.zero_le _, rfl, ⟨0, rfl⟩, rfl⟩
    case round =>
      obtain ⟨t, ht, rfl, ⟨q, hq⟩, HE⟩ := hrel
      by_cases hlt : t < n
      · have l1 : t < d.length := by rw [HN.out]; exact hlt
        have l2 : t < e.length := by rw [HM.out]; exact hlt
        obtain ⟨b1, o1, rfl, c1⟩ := sl_cell H1.out t l1
        obtain ⟨b2, o2, rfl, c2⟩ := sl_cell H2.out t l2
        have c1' : wr.cell? ⟨b1, o1 + t, none⟩ = some (.int .u8 (c (d.getD t 0))) := by rw [hq]; exact c1
        have c2' : wr.cell? ⟨b2, o2 + t, none⟩ = some (.int .u8 (c (e.getD t 0))) := by rw [hq]; exact c2
        have ED : Hid (d.take (t + 1) = d.take t ++ [d.getD t 0]) := by show _ = _; rw [List.take_succ_eq_append_getElem l1]; simp [l1]
        have EE : Hid (e.take (t + 1) = e.take t ++ [e.getD t 0]) := by show _ = _; rw [List.take_succ_eq_append_getElem l2]; simp [l2]
        have HQ : Hid (wr = w.drewN q) := hq
        have L1 : Hid (t < d.length) := l1
        have L2 : Hid (t < e.length) := l2
        have NE : Hid (d.getD t 0 ≠ e.getD t 0 → decide (d = e) = false) := fun h => by
          apply decide_eq_false
          intro e'; subst e'; exact h rfl
        clear c1 c2 hq l1 l2
        generalize d.getD t 0 = x at *
        generalize e.getD t 0 = y at *
        by_cases hxy : x = y
        · subst hxy
          generalize c x = cx at *
          go_wp2
          go_region
          all_goals
            go_wp2
            exact ⟨⟨t + 1, hlt, by go_num, ⟨q + 1, by rw [HQ.out]; rfl⟩, by show _ = _; rw [ED.out, EE.out, HE.out]⟩, by simp [intOf]; omega⟩
        · have hc : ¬ c x = c y := fun h => hxy (c_inj h)
          obtain rfl : R = false := by rw [← HR.out]; exact NE.out hxy
          clear NE hxy HR
          generalize c x = cx at *
          generalize c y = cy at *
          go_wp2
          go_region
          all_goals
            go_wp2
            go_ret
            exact ⟨rfl, q + 1, by rw [HQ.out]; rfl⟩
      · obtain rfl : t = n := by omega
        have ee : d = e := by
          have := HE.out
          rw [List.take_of_length_le (by rw [HN.out]; exact Nat.le_refl _), List.take_of_length_le (by rw [HM.out]; exact Nat.le_refl _)] at this
          exact this
        have HQ : Hid (wr = w.drewN q) := hq
        obtain rfl : R = true := by rw [← HR.out]; exact decide_eq_true ee
        clear hq ee HR
        go_wp2
        go_ret
        exact ⟨rfl, q, HQ.out⟩
  · have hne : ¬ (n : Int) = (m : Int) := by omega
    have hf : decide (d = e) = false := decide_eq_false (fun h => by subst h; omega)
    obtain rfl : R = false := by rw [← hR]; exact hf
    clear h1 h2 hn hm hf hR
    go_enter Try.func27, Try.ntmps27
    go_wp2
    go_ret
    exact ⟨rfl, 0, rfl⟩

end Go.Proofs.Ytmkmdbpibpbcjaa
