/-
  The document's reader: numbers, a list's number.
-/
import Derived.Test.YtmkmdbpibpbcjabXRn
namespace Go.Proofs.Ytmkmdbpibpbcjab
open Go Go.RowKit
open Sha

set_option maxRecDepth 100000 in
set_option maxHeartbeats 2000000 in
theorem rcount_no (D g : Nat) (bs : List (BitVec 8)) (a : Nat) (f : Int) (hf : ¬ f = 0) (most : Int) (w : World) (h : Rr w D g bs a f) :
    Calls Try.prog 29 #[.pointer (some ⟨D, 0, none⟩), .int .i64 most] w fun e w' => e = .returned (.int .i64 0) ∧ Rr w' D g bs a f ∧ Gp D w w' := by
  have HH : Hid _ := rnum_no D g bs a f hf w h
  have g1 := h.row.cell 1 _ rfl
  have hb : (f == 0) = false := by simp [hf]
  clear h
  go_enter Try.func29, Try.ntmps29
  go_wp2_with fail
  refine Calls.mono HH.out ?_
  rintro e V ⟨rfl, hr, hg⟩
  have k2 := hr.row.cell 2 _ rfl
  have k1 := hr.row.cell 1 _ rfl
  have f1 := hr.row.thaw 1
  have HR : Hid (Rr _ _ _ _ _ _) := hr.move a hr.le
  have HG : Hid (Gp D w _) := Gp.set hg 1 (.int .i64 (a : Int))
  clear hr hg HH g1
  go_wp2
  go_ret
  exact ⟨rfl, HR.out, HG.out⟩

set_option maxRecDepth 100000 in
set_option maxHeartbeats 2000000 in
theorem rcount_bad (D g : Nat) (bs : List (BitVec 8)) (a : Nat) (most : Int) (e : Int) (he : cnE bs a most = e) (h0 : ¬ e = 0) (w : World) (h : Rr w D g bs a 0) :
    Calls Try.prog 29 #[.pointer (some ⟨D, 0, none⟩), .int .i64 most] w fun r w' => r = .returned (.int .i64 0) ∧ Rr w' D g bs a e ∧ Gp D w w' := by
  have g1 := h.row.cell 1 _ rfl
  have HLE : Hid (a ≤ bs.length) := h.le
  unfold cnE at he
  by_cases h1 : nuE bs a = 0
  · rw [if_pos h1] at he
    have HH : Hid _ := rnum_ok D g bs a h1 w h
    generalize nuW bs a = n at *
    generalize a + 1 + at8 bs a = a' at *
    clear h h1
    by_cases h2 : most < (n : Int)
    · rw [if_pos h2] at he
      subst he
      go_enter Try.func29, Try.ntmps29
      go_wp2_with fail
      refine Calls.mono HH.out ?_
      rintro r V ⟨rfl, hr, hg⟩
      have s2 := hr.row.cell 2 _ rfl
      have f2 := hr.row.thaw 2
      have hr2 := hr.err 30
      have t2 := hr2.row.cell 2 _ rfl
      have t1 := hr2.row.cell 1 _ rfl
      have f1 := hr2.row.thaw 1
      have HR : Hid (Rr _ _ _ _ _ _) := hr2.move a HLE.out
      have HG : Hid (Gp D w _) := Gp.set (Gp.set hg 2 (.int .i64 30)) 1 (.int .i64 (a : Int))
      clear hr hg hr2 HH g1
      go_wp2
      go_ret
      exact ⟨rfl, HR.out, HG.out⟩
    · rw [if_neg h2] at he
      by_cases h3 : bs.length < a' + n
      · rw [if_pos h3] at he
        subst he
        have H3 : Hid (bs.length < a' + n) := h3
        clear h3
        go_enter Try.func29, Try.ntmps29
        go_wp2_with fail
        refine Calls.mono HH.out ?_
        rintro r V ⟨rfl, hr, hg⟩
        have HL : Hid _ := rleft D g bs a' 0 V hr
        have c3 : (bs.length : Int) - (a' : Int) < (n : Int) := by have := H3.out; omega
        have s2 := hr.row.cell 2 _ rfl
        have HR1 : Hid (Rr _ _ _ _ _ _) := hr
        have HG1 : Hid (Gro _ _ _) := hg
        clear hr hg HH g1
        generalize (bs.length : Int) - (a' : Int) = q at *
        go_wp2_with fail
        refine Calls.mono HL.out ?_
        rintro r V2 ⟨rfl, m, hm⟩
        have hr : Rr V2 D g bs a' 0 := by rw [hm]; exact Rr.drewN HR1.out m
        have hg : Gp D w V2 := by rw [hm]; exact Gro.drewN HG1.out m
        have u2 := hr.row.cell 2 _ rfl
        have f2 := hr.row.thaw 2
        have hr2 := hr.err 31
        have t2 := hr2.row.cell 2 _ rfl
        have t1 := hr2.row.cell 1 _ rfl
        have f1 := hr2.row.thaw 1
        have HR : Hid (Rr _ _ _ _ _ _) := hr2.move a HLE.out
        have HG : Hid (Gp D w _) := Gp.set (Gp.set hg 2 (.int .i64 31)) 1 (.int .i64 (a : Int))
        clear hr hg hr2 HL hm HR1 HG1 s2
        go_wp2
        go_ret
        exact ⟨rfl, HR.out, HG.out⟩
      · rw [if_neg h3] at he
        exact absurd he.symm h0
  · rw [if_neg h1] at he
    have HH : Hid _ := rnum_bad D g bs a e he h0 w h
    have hb : (e == 0) = false := by simp [h0]
    clear h
    go_enter Try.func29, Try.ntmps29
    go_wp2_with fail
    refine Calls.mono HH.out ?_
    rintro r V ⟨rfl, hr, hg⟩
    have k2 := hr.row.cell 2 _ rfl
    have k1 := hr.row.cell 1 _ rfl
    have f1 := hr.row.thaw 1
    have HR : Hid (Rr _ _ _ _ _ _) := hr.move a hr.le
    have HG : Hid (Gp D w _) := Gp.set hg 1 (.int .i64 (a : Int))
    clear hr hg HH g1
    go_wp2
    go_ret
    exact ⟨rfl, HR.out, HG.out⟩

set_option maxRecDepth 100000 in
set_option maxHeartbeats 2000000 in
theorem rcount_ok (D g : Nat) (bs : List (BitVec 8)) (a : Nat) (most : Int) (he : cnE bs a most = 0) (w : World) (h : Rr w D g bs a 0) :
    Calls Try.prog 29 #[.pointer (some ⟨D, 0, none⟩), .int .i64 most] w fun r w' => r = .returned (.int .i64 ((nuW bs a : Nat) : Int)) ∧ Rr w' D g bs (a + 1 + at8 bs a) 0 ∧ Gp D w w' := by
  obtain ⟨h1, h2, h3⟩ := cnE_ok he
  have g1 := h.row.cell 1 _ rfl
  have HH : Hid _ := rnum_ok D g bs a h1 w h
  generalize nuW bs a = n at *
  generalize a + 1 + at8 bs a = a' at *
  have c2 : ¬ most < (n : Int) := by omega
  have H3 : Hid (a' + n ≤ bs.length) := h3
  clear h h1 h3 h2 he
  go_enter Try.func29, Try.ntmps29
  go_wp2_with fail
  refine Calls.mono HH.out ?_
  rintro r V ⟨rfl, hr, hg⟩
  have HL : Hid _ := rleft D g bs a' 0 V hr
  have c3 : ¬ (bs.length : Int) - (a' : Int) < (n : Int) := by have := H3.out; omega
  have s2 := hr.row.cell 2 _ rfl
  have HR1 : Hid (Rr _ _ _ _ _ _) := hr
  have HG1 : Hid (Gro _ _ _) := hg
  clear hr hg HH g1
  generalize (bs.length : Int) - (a' : Int) = q at *
  go_wp2_with fail
  refine Calls.mono HL.out ?_
  rintro r V2 ⟨rfl, m, hm⟩
  have hr : Rr V2 D g bs a' 0 := by rw [hm]; exact Rr.drewN HR1.out m
  have hg : Gp D w V2 := by rw [hm]; exact Gro.drewN HG1.out m
  have u2 := hr.row.cell 2 _ rfl
  have HR : Hid (Rr _ _ _ _ _ _) := hr
  have HG : Hid (Gro _ _ _) := hg
  clear hr hg HL hm HR1 HG1 s2
  go_wp2
  go_ret
  exact ⟨rfl, HR.out, HG.out⟩

end Go.Proofs.Ytmkmdbpibpbcjab
