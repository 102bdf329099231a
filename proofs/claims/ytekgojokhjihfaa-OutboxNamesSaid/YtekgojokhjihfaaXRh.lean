/-
  The document's reader: numbers.
-/
import Derived.Test.YtekgojokhjihfaaXRr
namespace Go.Proofs.Ytekgojokhjihfaa
open Go Go.RowKit
open Sha

set_option maxRecDepth 100000 in
set_option maxHeartbeats 2000000 in
theorem rhigh_no (D g : Nat) (bs : List (BitVec 8)) (a : Nat) (f : Int) (hf : ¬ f = 0) (most : Int) (w : World) (h : Rr w D g bs a f) :
    Calls Try.prog 61 #[.pointer (some ⟨D, 0, none⟩), .int .i64 most] w fun e w' => e = .returned (.slice none 0 0) ∧ Rr w' D g bs a f ∧ Gp D w w' := by
  have HB : Hid _ := rbyte_no D g bs a f hf w h
  have HF : Hid _ := rfixed_no D g bs a f hf 0 w h
  have g1 := h.row.cell 1 _ rfl
  have g2 := h.row.cell 2 _ rfl
  have f1 := h.row.thaw 1
  have HR : Hid (Rr _ _ _ _ _ _) := h.move a h.le
  have HG : Hid (Gp D w (w.setCell ⟨D, 1, none⟩ (.int .i64 (a : Int)))) := Gp.set (Gro.refl _ _) 1 _
  have hb : (f == 0) = false := by simp [hf]
  clear h
  go_enter Try.func61, Try.ntmps61
  go_wp2_with (first
    | (go_at_call 37; refine Calls.mono HB.out ?_; rintro e w2 ⟨rfl, hq⟩; obtain rfl := hq.symm)
    | (go_at_call 60; refine Calls.mono HF.out ?_; rintro e w2 ⟨rfl, hq⟩; obtain rfl := hq.symm))
  go_ret
  exact ⟨rfl, HR.out, HG.out⟩

set_option maxRecDepth 100000 in
set_option maxHeartbeats 4000000 in
theorem rhigh_bad (D g : Nat) (bs : List (BitVec 8)) (a most : Nat) (e : Int) (he : hiF most bs a = e) (h0 : ¬ e = 0) (w : World) (h : Rr w D g bs a 0) :
    Calls Try.prog 61 #[.pointer (some ⟨D, 0, none⟩), .int .i64 (most : Int)] w fun r w' => r = .returned (.slice none 0 0) ∧ Rr w' D g bs a e ∧ Gp D w w' := by
  have g1 := h.row.cell 1 _ rfl
  have hle := h.le
  have HLE : Hid (a ≤ bs.length) := hle
  unfold hiF at he
  by_cases h1 : bs.length ≤ a
  · rw [if_pos h1] at he
    subst he
    have HB : Hid _ := rbyte_short D g bs a h1 w h
    clear h h1 hle
    go_enter Try.func61, Try.ntmps61
    go_wp2_with fail
    refine Calls.mono HB.out ?_
    rintro r V ⟨rfl, hr, hg⟩
    have HF : Hid _ := rfixed_no D g bs a 31 (by decide) 0 V hr
    have k1 := hr.row.cell 1 _ rfl
    have k2 := hr.row.cell 2 _ rfl
    have f1 := hr.row.thaw 1
    have HR : Hid (Rr _ _ _ _ _ _) := hr.move a hr.le
    have HG : Hid (Gp D w _) := Gp.set hg 1 (.int .i64 (a : Int))
    clear hr hg HB g1
    go_wp2_with (go_at_call 60; refine Calls.mono HF.out ?_; rintro r w2 ⟨rfl, hq⟩; obtain rfl := hq.symm)
    go_ret
    exact ⟨rfl, HR.out, HG.out⟩
  rw [if_neg h1] at he
  have HB : Hid _ := rbyte_ok D g bs a (by omega) w h
  have hk : at8 bs a < 256 := at8_lt bs a
  clear h
  generalize hkk : at8 bs a = k at *
  by_cases h2 : most < k
  · rw [if_pos h2] at he
    subst he
    have c1 : (most : Int) < (k : Int) := by omega
    clear h1 hle
    go_enter Try.func61, Try.ntmps61
    go_wp2_with fail
    refine Calls.mono HB.out ?_
    rintro r V ⟨rfl, hr, hg⟩
    have k2 := hr.row.cell 2 _ rfl
    have f2 := hr.row.thaw 2
    have hr2 := hr.err 32
    have hg2 : Gp D w _ := Gp.set hg 2 (.int .i64 32)
    have HF : Hid _ := rfixed_no D g bs (a + 1) 32 (by decide) (k : Int) _ hr2
    have q2 := hr2.row.cell 2 _ rfl
    have f1 := hr2.row.thaw 1
    have q1 := hr2.row.cell 1 _ rfl
    have HR : Hid (Rr _ _ _ _ _ _) := hr2.move a HLE.out
    have HG : Hid (Gp D w _) := Gp.set hg2 1 (.int .i64 (a : Int))
    clear hr hg HB g1 hr2 hg2
    go_wp2_with (go_at_call 60; refine Calls.mono HF.out ?_; rintro r w2 ⟨rfl, hq⟩; obtain rfl := hq.symm)
    go_ret
    exact ⟨rfl, HR.out, HG.out⟩
  rw [if_neg h2] at he
  have c1 : ¬ (most : Int) < (k : Int) := by omega
  by_cases h3 : bs.length < a + 1 + k
  · rw [if_pos h3] at he
    subst he
    have H3 : Hid (bs.length < a + 1 + k) := h3
    clear h1 h3 hle
    go_enter Try.func61, Try.ntmps61
    go_wp2_with fail
    refine Calls.mono HB.out ?_
    rintro r V ⟨rfl, hr, hg⟩
    have k2 := hr.row.cell 2 _ rfl
    have HR1 : Hid (Rr _ _ _ _ _ _) := hr
    have HG1 : Hid (Gro _ _ _) := hg
    clear hr hg HB g1
    go_wp2_with fail
    refine Calls.mono (rfixed_short D g bs (a + 1) k H3.out V HR1.out) ?_
    rintro r V2 ⟨rfl, hr2, hg2⟩
    have q2 := hr2.row.cell 2 _ rfl
    have f1 := hr2.row.thaw 1
    have q1 := hr2.row.cell 1 _ rfl
    have HR : Hid (Rr _ _ _ _ _ _) := hr2.move a HLE.out
    have HG : Hid (Gp D w _) := Gp.set (HG1.out.trans hg2) 1 (.int .i64 (a : Int))
    clear hr2 hg2 HR1 HG1 k2
    go_wp2
    go_ret
    exact ⟨rfl, HR.out, HG.out⟩
  rw [if_neg h3] at he
  by_cases h4 : 0 < k ∧ at8 bs (a + 1) = 0
  · rw [if_pos h4] at he
    subst he
    obtain ⟨h5, h6⟩ := h4
    have H3 : Hid (a + 1 + k ≤ bs.length) := by show _ ≤ _; omega
    have H6 : Hid (at8 bs (a + 1) = 0) := h6
    have c5 : (0 : Int) < (k : Int) := by omega
    clear h1 h3 h6 hle
    go_enter Try.func61, Try.ntmps61
    go_wp2_with fail
    refine Calls.mono HB.out ?_
    rintro r V ⟨rfl, hr, hg⟩
    have k2 := hr.row.cell 2 _ rfl
    have HR1 : Hid (Rr _ _ _ _ _ _) := hr
    have HG1 : Hid (Gro _ _ _) := hg
    clear hr hg HB g1
    go_wp2_with fail
    refine Calls.mono (rfixed_ok D g bs (a + 1) k H3.out V HR1.out) ?_
    rintro r V2 ⟨A', c', rfl, hc', _, hA', hr2, hg2⟩
    obtain rfl := hA' h5
    have gb := hr2.byte (a + 1) (by have := H3.out; omega)
    rw [H6.out] at gb
    have q2 := hr2.row.cell 2 _ rfl
    have f2 := hr2.row.thaw 2
    have hr3 := hr2.err 32
    have s2 := hr3.row.cell 2 _ rfl
    have s1 := hr3.row.cell 1 _ rfl
    have f1 := hr3.row.thaw 1
    have HR : Hid (Rr _ _ _ _ _ _) := hr3.move a HLE.out
    have HG : Hid (Gp D w _) := Gp.set (Gp.set (HG1.out.trans hg2) 2 (.int .i64 32)) 1 (.int .i64 (a : Int))
    clear hr2 hg2 HR1 HG1 hr3 hA' k2
    go_wp2
    go_ret
    exact ⟨rfl, HR.out, HG.out⟩
  · rw [if_neg h4] at he
    exact absurd he.symm h0

set_option maxRecDepth 100000 in
set_option maxHeartbeats 4000000 in
theorem rhigh_ok (D g : Nat) (bs : List (BitVec 8)) (a most : Nat) (he : hiF most bs a = 0) (k : Nat) (hk : at8 bs a = k) (w : World) (h : Rr w D g bs a 0) :
    Calls Try.prog 61 #[.pointer (some ⟨D, 0, none⟩), .int .i64 (most : Int)] w fun r w' => ∃ A' c', r = .returned (.slice A' k c') ∧ k ≤ c' ∧ (A' = none → c' = 0) ∧ (0 < k → A' = some ⟨g, a + 1, none⟩) ∧ Rr w' D g bs (a + 1 + k) 0 ∧ Gp D w w' := by
  obtain ⟨h1, h2, h3, h4⟩ := hiF_ok he
  rw [hk] at h2 h3 h4
  have g1 := h.row.cell 1 _ rfl
  have HB : Hid _ := rbyte_ok D g bs a h1 w h
  rw [hk] at HB
  have c1 : ¬ (most : Int) < (k : Int) := by omega
  have H3 : Hid (a + 1 + k ≤ bs.length) := h3
  have H4 : Hid (0 < k → at8 bs (a + 1) ≠ 0) := h4
  have k256 : k < 256 := by rw [← hk]; exact at8_lt bs a
  clear h h1 h2 h3 h4 he hk
  go_enter Try.func61, Try.ntmps61
  go_wp2_with fail
  refine Calls.mono HB.out ?_
  rintro r V ⟨rfl, hr, hg⟩
  have k2 := hr.row.cell 2 _ rfl
  have HR1 : Hid (Rr _ _ _ _ _ _) := hr
  have HG1 : Hid (Gro _ _ _) := hg
  clear hr hg HB g1
  go_wp2_with fail
  refine Calls.mono (rfixed_ok D g bs (a + 1) k H3.out V HR1.out) ?_
  rintro r V2 ⟨A', c', rfl, hc', hnil, hA', hr2, hg2⟩
  have q2 := hr2.row.cell 2 _ rfl
  have HR : Hid (Rr _ _ _ _ _ _) := hr2
  have HG : Hid (Gp D w V2) := HG1.out.trans hg2
  have HA : Hid (0 < k → A' = some ⟨g, a + 1, none⟩) := hA'
  have HNL : Hid (A' = none → c' = 0) := hnil
  by_cases h0 : 0 < k
  · obtain rfl := hA' h0
    have gb := hr2.byte (a + 1) (by have := H3.out; omega)
    have hne : ¬ ((at8 bs (a + 1) : Nat) : Int) = 0 := by have := H4.out h0; omega
    have c5 : (0 : Int) < (k : Int) := by omega
    generalize at8 bs (a + 1) = x at *
    clear hr2 hg2 HR1 HG1 hA' k2 hnil
    go_wp2
    go_ret
    exact ⟨_, _, rfl, hc', HNL.out, (fun _ => rfl), HR.out, HG.out⟩
  · have c5 : ¬ (0 : Int) < (k : Int) := by omega
    clear hr2 hg2 HR1 HG1 hA' k2 hnil
    go_wp2
    go_ret
    exact ⟨_, _, rfl, hc', HNL.out, HA.out, HR.out, HG.out⟩

end Go.Proofs.Ytekgojokhjihfaa
