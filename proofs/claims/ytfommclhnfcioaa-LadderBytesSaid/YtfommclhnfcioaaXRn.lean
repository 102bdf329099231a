/-
  The document's reader: numbers, a list's number.
-/
import Derived.Test.YtfommclhnfcioaaXRr

namespace Go.Proofs.Ytfommclhnfcioaa
open Go Go.RowKit
open Sha

set_option maxRecDepth 100000 in
set_option maxHeartbeats 2000000 in
theorem rhigh_no (D g : Nat) (bs : List (BitVec 8)) (a : Nat) (f : Int) (hf : ¬ f = 0) (most : Int) (w : World) (h : Rr w D g bs a f) :
    Calls Try.prog 87 #[.pointer (some ⟨D, 0, none⟩), .int .i64 most] w fun e w' => e = .returned (.slice none 0 0) ∧ Rr w' D g bs a f ∧ Gp D w w' := by
  have HB : Hid _ := rbyte_no D g bs a f hf w h
  have HF : Hid _ := rfixed_no D g bs a f hf 0 w h
  have g1 := h.row.cell 1 _ rfl
  have g2 := h.row.cell 2 _ rfl
  have f1 := h.row.thaw 1
  have HR : Hid (Rr _ _ _ _ _ _) := h.move a h.le
  have HG : Hid (Gp D w (w.setCell ⟨D, 1, none⟩ (.int .i64 (a : Int)))) := Gp.set (Gro.refl _ _) 1 _
  have hb : (f == 0) = false := by simp [hf]
  clear h
  go_enter Try.func87, Try.ntmps87
  go_wp2_with (first
    | (go_at_call 51; refine Calls.mono HB.out ?_; rintro e w2 ⟨rfl, hq⟩; obtain rfl := hq.symm)
    | (go_at_call 86; refine Calls.mono HF.out ?_; rintro e w2 ⟨rfl, hq⟩; obtain rfl := hq.symm))
  go_ret
  exact ⟨rfl, HR.out, HG.out⟩

set_option maxRecDepth 100000 in
set_option maxHeartbeats 4000000 in
theorem rhigh_bad (D g : Nat) (bs : List (BitVec 8)) (a most : Nat) (e : Int) (he : hiF most bs a = e) (h0 : ¬ e = 0) (w : World) (h : Rr w D g bs a 0) :
    Calls Try.prog 87 #[.pointer (some ⟨D, 0, none⟩), .int .i64 (most : Int)] w fun r w' => r = .returned (.slice none 0 0) ∧ Rr w' D g bs a e ∧ Gp D w w' := by
  have g1 := h.row.cell 1 _ rfl
  have hle := h.le
  have HLE : Hid (a ≤ bs.length) := hle
  unfold hiF at he
  by_cases h1 : bs.length ≤ a
  · rw [if_pos h1] at he
    subst he
    have HB : Hid _ := rbyte_short D g bs a h1 w h
    clear h h1 hle
    go_enter Try.func87, Try.ntmps87
    go_wp2_with fail
    refine Calls.mono HB.out ?_
    rintro r V ⟨rfl, hr, hg⟩
    have HF : Hid _ := rfixed_no D g bs a 31 (by decide) 0 V hr
    have k1 := hr.row.cell 1 _ rfl
    have k2 := hr.row.cell 2 _ rfl
    have f1 := hr.row.thaw 1
    have HR : Hid (Rr _ _ _ _ _ _) := hr.move a hr.le
    have HG : Hid (Gp D w _) := Gp.set hg 1 (.int .i64 (a : Int))
    clear hr hg HB g1
    go_wp2_with (go_at_call 86; refine Calls.mono HF.out ?_; rintro r w2 ⟨rfl, hq⟩; obtain rfl := hq.symm)
    go_ret
    exact ⟨rfl, HR.out, HG.out⟩
  rw [if_neg h1] at he
  have HB : Hid _ := rbyte_ok D g bs a (by omega) w h
  have hk : at8 bs a < 256 := at8_lt bs a
  clear h
  generalize hkk : at8 bs a = k at *
  by_cases h2 : most < k
  · rw [if_pos h2] at he
    subst he
    have c1 : (most : Int) < (k : Int) := by omega
    clear h1 hle
    go_enter Try.func87, Try.ntmps87
    go_wp2_with fail
    refine Calls.mono HB.out ?_
    rintro r V ⟨rfl, hr, hg⟩
    have k2 := hr.row.cell 2 _ rfl
    have f2 := hr.row.thaw 2
    have hr2 := hr.err 32
    have hg2 : Gp D w _ := Gp.set hg 2 (.int .i64 32)
    have HF : Hid _ := rfixed_no D g bs (a + 1) 32 (by decide) (k : Int) _ hr2
    have q2 := hr2.row.cell 2 _ rfl
    have f1 := hr2.row.thaw 1
    have q1 := hr2.row.cell 1 _ rfl
    have HR : Hid (Rr _ _ _ _ _ _) := hr2.move a HLE.out
    have HG : Hid (Gp D w _) := Gp.set hg2 1 (.int .i64 (a : Int))
    clear hr hg HB g1 hr2 hg2
    go_wp2_with (go_at_call 86; refine Calls.mono HF.out ?_; rintro r w2 ⟨rfl, hq⟩; obtain rfl := hq.symm)
    go_ret
    exact ⟨rfl, HR.out, HG.out⟩
  rw [if_neg h2] at he
  have c1 : ¬ (most : Int) < (k : Int) := by omega
  by_cases h3 : bs.length < a + 1 + k
  · rw [if_pos h3] at he
    subst he
    have H3 : Hid (bs.length < a + 1 + k) := h3
    clear h1 h3 hle
    go_enter Try.func87, Try.ntmps87
    go_wp2_with fail
    refine Calls.mono HB.out ?_
    rintro r V ⟨rfl, hr, hg⟩
    have k2 := hr.row.cell 2 _ rfl
    have HR1 : Hid (Rr _ _ _ _ _ _) := hr
    have HG1 : Hid (Gro _ _ _) := hg
    clear hr hg HB g1
    go_wp2_with fail
    refine Calls.mono (rfixed_short D g bs (a + 1) k H3.out V HR1.out) ?_
    rintro r V2 ⟨rfl, hr2, hg2⟩
    have q2 := hr2.row.cell 2 _ rfl
    have f1 := hr2.row.thaw 1
    have q1 := hr2.row.cell 1 _ rfl
    have HR : Hid (Rr _ _ _ _ _ _) := hr2.move a HLE.out
    have HG : Hid (Gp D w _) := Gp.set (HG1.out.trans hg2) 1 (.int .i64 (a : Int))
    clear hr2 hg2 HR1 HG1 k2
    go_wp2
    go_ret
    exact ⟨rfl, HR.out, HG.out⟩
  rw [if_neg h3] at he
  by_cases h4 : 0 < k ∧ at8 bs (a + 1) = 0
  · rw [if_pos h4] at he
    subst he
    obtain ⟨h5, h6⟩ := h4
    have H3 : Hid (a + 1 + k ≤ bs.length) := by show _ ≤ _; omega
    have H6 : Hid (at8 bs (a + 1) = 0) := h6
    have c5 : (0 : Int) < (k : Int) := by omega
    clear h1 h3 h6 hle
    go_enter Try.func87, Try.ntmps87
    go_wp2_with fail
    refine Calls.mono HB.out ?_
    rintro r V ⟨rfl, hr, hg⟩
    have k2 := hr.row.cell 2 _ rfl
    have HR1 : Hid (Rr _ _ _ _ _ _) := hr
    have HG1 : Hid (Gro _ _ _) := hg
    clear hr hg HB g1
    go_wp2_with fail
    refine Calls.mono (rfixed_ok D g bs (a + 1) k H3.out V HR1.out) ?_
    rintro r V2 ⟨A', c', rfl, hc', _, hA', hr2, hg2⟩
    obtain rfl := hA' h5
    have gb := hr2.byte (a + 1) (by have := H3.out; omega)
    rw [H6.out] at gb
    have q2 := hr2.row.cell 2 _ rfl
    have f2 := hr2.row.thaw 2
    have hr3 := hr2.err 32
    have s2 := hr3.row.cell 2 _ rfl
    have s1 := hr3.row.cell 1 _ rfl
    have f1 := hr3.row.thaw 1
    have HR : Hid (Rr _ _ _ _ _ _) := hr3.move a HLE.out
    have HG : Hid (Gp D w _) := Gp.set (Gp.set (HG1.out.trans hg2) 2 (.int .i64 32)) 1 (.int .i64 (a : Int))
    clear hr2 hg2 HR1 HG1 hr3 hA' k2
    go_wp2
    go_ret
    exact ⟨rfl, HR.out, HG.out⟩
  · rw [if_neg h4] at he
    exact absurd he.symm h0

set_option maxRecDepth 100000 in
set_option maxHeartbeats 4000000 in
theorem rhigh_ok (D g : Nat) (bs : List (BitVec 8)) (a most : Nat) (he : hiF most bs a = 0) (k : Nat) (hk : at8 bs a = k) (w : World) (h : Rr w D g bs a 0) :
    Calls Try.prog 87 #[.pointer (some ⟨D, 0, none⟩), .int .i64 (most : Int)] w fun r w' => ∃ A' c', r = .returned (.slice A' k c') ∧ k ≤ c' ∧ (A' = none → c' = 0) ∧ (0 < k → A' = some ⟨g, a + 1, none⟩) ∧ Rr w' D g bs (a + 1 + k) 0 ∧ Gp D w w' := by
  obtain ⟨h1, h2, h3, h4⟩ := hiF_ok he
  rw [hk] at h2 h3 h4
  have g1 := h.row.cell 1 _ rfl
  have HB : Hid _ := rbyte_ok D g bs a h1 w h
  rw [hk] at HB
  have c1 : ¬ (most : Int) < (k : Int) := by omega
  have H3 : Hid (a + 1 + k ≤ bs.length) := h3
  have H4 : Hid (0 < k → at8 bs (a + 1) ≠ 0) := h4
  have k256 : k < 256 := by rw [← hk]; exact at8_lt bs a
  clear h h1 h2 h3 h4 he hk
  go_enter Try.func87, Try.ntmps87
  go_wp2_with fail
  refine Calls.mono HB.out ?_
  rintro r V ⟨rfl, hr, hg⟩
  have k2 := hr.row.cell 2 _ rfl
  have HR1 : Hid (Rr _ _ _ _ _ _) := hr
  have HG1 : Hid (Gro _ _ _) := hg
  clear hr hg HB g1
  go_wp2_with fail
  refine Calls.mono (rfixed_ok D g bs (a + 1) k H3.out V HR1.out) ?_
  rintro r V2 ⟨A', c', rfl, hc', hnil, hA', hr2, hg2⟩
  have q2 := hr2.row.cell 2 _ rfl
  have HR : Hid (Rr _ _ _ _ _ _) := hr2
  have HG : Hid (Gp D w V2) := HG1.out.trans hg2
  have HA : Hid (0 < k → A' = some ⟨g, a + 1, none⟩) := hA'
  have HNL : Hid (A' = none → c' = 0) := hnil
  by_cases h0 : 0 < k
  · obtain rfl := hA' h0
    have gb := hr2.byte (a + 1) (by have := H3.out; omega)
    have hne : ¬ ((at8 bs (a + 1) : Nat) : Int) = 0 := by have := H4.out h0; omega
    have c5 : (0 : Int) < (k : Int) := by omega
    generalize at8 bs (a + 1) = x at *
    clear hr2 hg2 HR1 HG1 hA' k2 hnil
    go_wp2
    go_ret
    exact ⟨_, _, rfl, hc', HNL.out, (fun _ => rfl), HR.out, HG.out⟩
  · have c5 : ¬ (0 : Int) < (k : Int) := by omega
    clear hr2 hg2 HR1 HG1 hA' k2 hnil
    go_wp2
    go_ret
    exact ⟨_, _, rfl, hc', HNL.out, HA.out, HR.out, HG.out⟩

end Go.Proofs.Ytfommclhnfcioaa

namespace Go.Proofs.Ytfommclhnfcioaa
open Go Go.RowKit
open Sha

set_option maxRecDepth 100000 in
set_option maxHeartbeats 2000000 in
theorem rnum_no (D g : Nat) (bs : List (BitVec 8)) (a : Nat) (f : Int) (hf : ¬ f = 0) (w : World) (h : Rr w D g bs a f) :
    Calls Try.prog 52 #[.pointer (some ⟨D, 0, none⟩)] w fun e w' => e = .returned (.int .i64 0) ∧ Rr w' D g bs a f ∧ Gp D w w' := by
  have HH : Hid _ := rhigh_no D g bs a f hf 8 w h
  have g1 := h.row.cell 1 _ rfl
  have hb : (f == 0) = false := by simp [hf]
  clear h
  go_enter Try.func52, Try.ntmps52
  go_wp2_with fail
  refine Calls.mono HH.out ?_
  rintro e V ⟨rfl, hr, hg⟩
  have k2 := hr.row.cell 2 _ rfl
  have HR : Hid (Rr _ _ _ _ _ _) := hr
  have HG : Hid (Gro _ _ _) := hg
  clear hr hg HH g1
  go_wp2
  go_ret
  exact ⟨rfl, HR.out, HG.out⟩

set_option maxRecDepth 100000 in
set_option maxHeartbeats 2000000 in
theorem rnum_bad (D g : Nat) (bs : List (BitVec 8)) (a : Nat) (e : Int) (he : nuE bs a = e) (h0 : ¬ e = 0) (w : World) (h : Rr w D g bs a 0) :
    Calls Try.prog 52 #[.pointer (some ⟨D, 0, none⟩)] w fun r w' => r = .returned (.int .i64 0) ∧ Rr w' D g bs a e ∧ Gp D w w' := by
  have g1 := h.row.cell 1 _ rfl
  unfold nuE at he
  by_cases h1 : hiF 8 bs a = 0
  · rw [if_pos h1] at he
    by_cases h2 : 9223372036854775807 < nuW bs a
    · rw [if_pos h2] at he
      subst he
      obtain ⟨_, q2, q3, _⟩ := hiF_ok h1
      obtain ⟨k8, k127⟩ := (nu_top bs a q2).1 h2
      have HH : Hid _ := rhigh_ok D g bs a 8 h1 8 k8 w h
      have HLE : Hid (a ≤ bs.length) := h.le
      have HL : Hid (a + 1 < bs.length) := by show _ < _; omega
      have c1 : (127 : Int) < ((at8 bs (a + 1) : Nat) : Int) := by omega
      clear h h2 h1 q2 q3
      go_enter Try.func52, Try.ntmps52
      go_wp2_with fail
      refine Calls.mono HH.out ?_
      rintro r V ⟨A', c', rfl, hc', _, hA', hr, hg⟩
      obtain rfl := hA' (by decide)
      have gb := hr.byte (a + 1) HL.out
      generalize at8 bs (a + 1) = x at *
      have s2 := hr.row.cell 2 _ rfl
      have f2 := hr.row.thaw 2
      have hr2 := hr.err 32
      have t2 := hr2.row.cell 2 _ rfl
      have t1 := hr2.row.cell 1 _ rfl
      have f1 := hr2.row.thaw 1
      have hr3 := hr2.move a HLE.out
      have u2 := hr3.row.cell 2 _ rfl
      have HR : Hid (Rr _ _ _ _ _ _) := hr3
      have HG : Hid (Gp D w _) := Gp.set (Gp.set hg 2 (.int .i64 32)) 1 (.int .i64 (a : Int))
      clear hr hg hr2 hr3 HH g1 hA'
      go_wp2
      go_ret
      exact ⟨rfl, HR.out, HG.out⟩
    · rw [if_neg h2] at he
      exact absurd he.symm h0
  · rw [if_neg h1] at he
    have HH : Hid _ := rhigh_bad D g bs a 8 e he h0 w h
    have hb : (e == 0) = false := by simp [h0]
    clear h
    go_enter Try.func52, Try.ntmps52
    go_wp2_with fail
    refine Calls.mono HH.out ?_
    rintro r V ⟨rfl, hr, hg⟩
    have k2 := hr.row.cell 2 _ rfl
    have HR : Hid (Rr _ _ _ _ _ _) := hr
    have HG : Hid (Gro _ _ _) := hg
    clear hr hg HH g1
    go_wp2
    go_ret
    exact ⟨rfl, HR.out, HG.out⟩

theorem hv_lt (bs : List (BitVec 8)) (s : Nat) : ∀ i, hv bs s i < 256 ^ i
  | 0 => by simp [hv]
  | i + 1 => by
    have ih := hv_lt bs s i
    have := at8_lt bs (s + i)
    show 256 * hv bs s i + at8 bs (s + i) < 256 ^ (i + 1)
    rw [Nat.pow_succ]
    omega
theorem hv_mono (bs : List (BitVec 8)) (s : Nat) : ∀ d i, hv bs s i ≤ hv bs s (i + d)
  | 0, _ => Nat.le_refl _
  | d + 1, i => by
    have ih := hv_mono bs s d i
    show _ ≤ 256 * hv bs s (i + d) + at8 bs (s + (i + d))
    omega

set_option maxRecDepth 100000 in
set_option maxHeartbeats 4000000 in
theorem rnum_ok (D g : Nat) (bs : List (BitVec 8)) (a : Nat) (he : nuE bs a = 0) (w : World) (h : Rr w D g bs a 0) :
    Calls Try.prog 52 #[.pointer (some ⟨D, 0, none⟩)] w fun r w' => r = .returned (.int .i64 ((nuW bs a : Nat) : Int)) ∧ Rr w' D g bs (a + 1 + at8 bs a) 0 ∧ Gp D w w' := by
  have g1 := h.row.cell 1 _ rfl
  obtain ⟨h1, h2⟩ := nuE_ok he
  obtain ⟨_, q2, q3, _⟩ := hiF_ok h1
  have HH : Hid _ := rhigh_ok D g bs a 8 h1 _ rfl w h
  have hnt : ¬ (at8 bs a = 8 ∧ 127 < at8 bs (a + 1)) := fun q => by have := (nu_top bs a q2).2 q; omega
  have EV : Hid (nuW bs a = hv bs (a + 1) (at8 bs a)) := by
    show _ = _; unfold nuW; rw [hv_lb bs _ (a + 1) q2]
  have HT : Hid (nuW bs a ≤ 9223372036854775807) := h2
  have HL : Hid (a + 1 + at8 bs a ≤ bs.length) := q3
  clear h h1 h2 he q3
  obtain ⟨k, hk⟩ : ∃ k, k = at8 bs a := ⟨_, rfl⟩
  rw [← hk] at HH EV hnt q2 HL ⊢
  have HK : Hid (k = at8 bs a) := hk
  clear hk
  go_enter Try.func52, Try.ntmps52
  go_wp2_with fail
  refine Calls.mono HH.out ?_
  rintro r V ⟨A', c', rfl, hc', _, hA', hr, hg⟩
  have s2 := hr.row.cell 2 _ rfl
  have HR : Hid (Rr _ _ _ _ _ _) := hr
  have HG : Hid (Gro _ _ _) := hg
  have HA : Hid (0 < k → A' = some ⟨g, a + 1, none⟩) := hA'
  clear HH g1
  by_cases h8 : k = 8
  · subst h8
    obtain rfl := hA' (by decide)
    have gb := hr.byte (a + 1) (by have := HL.out; omega)
    have c1 : ¬ (127 : Int) < ((at8 bs (a + 1) : Nat) : Int) := by have := fun q => hnt ⟨rfl, q⟩; omega
    generalize at8 bs (a + 1) = x at gb c1
    clear hr hg hA' hnt
    go_wp2
    go_loopw [5, 6] (fun n i wr => ∃ t : Nat, t ≤ 8 ∧ i = .int .i64 (t : Int) ∧ n = .int .i64 ((hv bs (a + 1) t : Nat) : Int) ∧ wr = V) (fun _ i _ => 8 - (intOf i).toNat)
    case atStart => exact ⟨0, Nat.zero_le _, rfl, rfl, rfl⟩
    case round =>
      obtain ⟨t, ht, rfl, rfl, rfl⟩ := hrel
      by_cases hlt : t < 8
      · have gb := HR.out.byte (a + 1 + t) (by have := HL.out; omega)
        have b8 := at8_lt bs (a + 1 + t)
        have hm := hv_mono bs (a + 1) (8 - (t + 1)) (t + 1)
        rw [show t + 1 + (8 - (t + 1)) = 8 by omega, ← EV.out] at hm
        have hs : hv bs (a + 1) (t + 1) = 256 * hv bs (a + 1) t + at8 bs (a + 1 + t) := rfl
        have hT := HT.out
        have EX : Hid (256 * ((hv bs (a + 1) t : Nat) : Int) + ((at8 bs (a + 1 + t) : Nat) : Int) = ((hv bs (a + 1) (t + 1) : Nat) : Int)) := by show _ = _; rw [hs]; omega
        generalize at8 bs (a + 1 + t) = x at *
        generalize hyy : hv bs (a + 1) (t + 1) = y at *
        have HY : Hid (hv bs (a + 1) (t + 1) = y) := hyy
        generalize hv bs (a + 1) t = z at *
        have z1 : (z : Int) ≤ 36028797018963968 := by omega
        have z2 : 256 * (z : Int) + (x : Int) ≤ 9223372036854775807 := by omega
        clear hm hs hT hyy
        go_wp2
        exact ⟨⟨t + 1, hlt, by go_num, by rw [HY.out, ← EX.out], by first | rfl | trivial⟩, by simp [intOf]; omega⟩
      · have et : t = 8 := by omega
        rw [show ((t : Nat) : Int) = 8 by omega]
        go_wp2
        go_ret
        exact ⟨by rw [EV.out, et]; rfl, HR.out, HG.out⟩
  · have c8 : ¬ (k : Int) = 8 := by omega
    clear hr hg hA' hnt
    go_wp2
    go_loopw [5, 6] (fun n i wr => ∃ t : Nat, t ≤ k ∧ i = .int .i64 (t : Int) ∧ n = .int .i64 ((hv bs (a + 1) t : Nat) : Int) ∧ wr = V) (fun _ i _ => k - (intOf i).toNat)
    case atStart => exact ⟨0, Nat.zero_le _, rfl, rfl, rfl⟩
    case round =>
      obtain ⟨t, ht, rfl, rfl, rfl⟩ := hrel
      by_cases hlt : t < k
      · obtain rfl := HA.out (by omega)
        have gb := HR.out.byte (a + 1 + t) (by have := HL.out; omega)
        have b8 := at8_lt bs (a + 1 + t)
        have hm := hv_mono bs (a + 1) (k - (t + 1)) (t + 1)
        rw [show t + 1 + (k - (t + 1)) = k by omega, ← EV.out] at hm
        have hs : hv bs (a + 1) (t + 1) = 256 * hv bs (a + 1) t + at8 bs (a + 1 + t) := rfl
        have hT := HT.out
        have EX : Hid (256 * ((hv bs (a + 1) t : Nat) : Int) + ((at8 bs (a + 1 + t) : Nat) : Int) = ((hv bs (a + 1) (t + 1) : Nat) : Int)) := by show _ = _; rw [hs]; omega
        generalize at8 bs (a + 1 + t) = x at *
        generalize hyy : hv bs (a + 1) (t + 1) = y at *
        have HY : Hid (hv bs (a + 1) (t + 1) = y) := hyy
        generalize hv bs (a + 1) t = z at *
        have z1 : (z : Int) ≤ 36028797018963968 := by omega
        have z2 : 256 * (z : Int) + (x : Int) ≤ 9223372036854775807 := by omega
        clear hm hs hT hyy
        go_wp2
        exact ⟨⟨t + 1, hlt, by go_num, by rw [HY.out, ← EX.out], by first | rfl | trivial⟩, by simp [intOf]; omega⟩
      · obtain rfl : t = k := by omega
        go_wp2
        go_ret
        exact ⟨by rw [EV.out]; rfl, HR.out, HG.out⟩

end Go.Proofs.Ytfommclhnfcioaa
