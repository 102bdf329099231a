/-
  causewayref02.compare, of any lists of digits.
-/
import Derived.Test.YtehccmlbnfhhmaaDoorWPls
namespace Go.Proofs.YtehccmlbnfhhmaaDoor
open Go Go.RowKit
open Wd

set_option maxRecDepth 100000 in
set_option maxHeartbeats 2000000 in
theorem compare_dg (a b : Nat) (v1 v2 : Value) (w : World) (h1 : Dg w v1 (blen a) a) (h2 : Dg w v2 (blen b) b) :
    Calls Tryd.prog 57 #[v1, v2] w fun e w' => e = .returned (.int .i64 (cmpR a b)) ∧ ∃ k, w' = w.drewN k := by
  have hm : blen a < 4611686018427387904 := h1.2.1
  have hm2 : blen b < 4611686018427387904 := h2.2.1
  obtain ⟨A1, c1, rfl, d1⟩ := h1.dl
  obtain ⟨A2, c2, rfl, d2⟩ := h2.dl
  have D1 : Hid (∀ t, t < blen a → ∃ N, A1 = some ⟨N, 0, none⟩ ∧ w.cell? ⟨N, t, none⟩ = some (.int .i64 ((bt a t : Nat) : Int)) ∧ N < w.heap.size) := d1
  have D2 : Hid (∀ t, t < blen b → ∃ N, A2 = some ⟨N, 0, none⟩ ∧ w.cell? ⟨N, t, none⟩ = some (.int .i64 ((bt b t : Nat) : Int)) ∧ N < w.heap.size) := d2
  clear d1 d2 h1 h2
  obtain ⟨n1, hn1⟩ : ∃ n, n = blen a := ⟨_, rfl⟩
  obtain ⟨n2, hn2⟩ : ∃ n, n = blen b := ⟨_, rfl⟩
  have H1 : Hid (n1 = blen a) := hn1
  have H2 : Hid (n2 = blen b) := hn2
  rw [← hn1] at hm D1 ⊢
  rw [← hn2] at hm2 D2 ⊢
  clear hn1 hn2
  by_cases hne : n1 = n2
  · subst hne
    go_enter Tryd.func57, Tryd.ntmps57
    go_wp2
    go_loopw [5] (fun v wr => ∃ t k : Nat, t ≤ n1 ∧ v = .int .i64 ((t : Int) - 1) ∧ Hid (wr = w.drewN k) ∧ Hid (a / 2 ^ t = b / 2 ^ t)) (fun v _ => (intOf v + 1).toNat)
    case atStart =>
      refine ⟨n1, 0, Nat.le_refl _, rfl, (World.drewN_zero w).symm, ?_⟩
      show a / 2 ^ n1 = b / 2 ^ n1
      rw [Nat.div_eq_of_lt (by rw [H1.out]; exact blen_lt a), Nat.div_eq_of_lt (by rw [H2.out]; exact blen_lt b)]
    case round =>
      obtain ⟨t, k, ht, rfl, hw, hI⟩ := hrel
      by_cases h0 : 0 < t
      · obtain ⟨i, rfl⟩ : ∃ i, t = i + 1 := ⟨t - 1, by omega⟩
        have ei : (((i + 1 : Nat) : Int) - 1) = (i : Int) := by omega
        rw [ei]
        obtain ⟨N, e1, g1, _⟩ := D1.out i (by omega)
        obtain ⟨M, e2, g2, _⟩ := D2.out i (by omega)
        subst e1
        subst e2
        replace g1 : wr.cell? ⟨N, i, none⟩ = some (.int .i64 ((bt a i : Nat) : Int)) := by rw [hw.out]; exact g1
        replace g2 : wr.cell? ⟨M, i, none⟩ = some (.int .i64 ((bt b i : Nat) : Int)) := by rw [hw.out]; exact g2
        clear D1 D2
        have HLT : Hid (bt a i < bt b i → cmpR a b = -1) := fun h => by
          have := bit_lt a b i hI.out h
          exact (if_neg (by omega)).trans (if_pos this)
        have HGT : Hid (bt b i < bt a i → cmpR a b = 1) := fun h => by
          have := bit_lt b a i hI.out.symm h
          exact (if_neg (by omega)).trans (if_neg (by omega))
        have HEQ : Hid (bt a i = bt b i → a / 2 ^ i = b / 2 ^ i) := fun h => bit_eq a b i hI.out h
        generalize bt a i = x at *
        generalize bt b i = y at *
        have hin : i < n1 := by omega
        clear ei ht h0 hI
        rcases Nat.lt_trichotomy x y with h | h | h
        · have hd : (x : Int) < (y : Int) := by omega
          have HR : Hid (cmpR a b = -1) := HLT.out h
          clear h
          go_wp2
          go_quiet (fail)
          go_wp2
          go_ret
          exact ⟨by rw [HR.out]; rfl, _, by rw [hw.out]; exact drewN_add' _ _ _⟩
        · subst h
          have HR : Hid (a / 2 ^ i = b / 2 ^ i) := HEQ.out rfl
          go_wp2
          go_quiet (fail)
          go_wp2
          go_quiet (fail)
          go_wp2
          exact ⟨⟨i, _, by omega, rfl, (congrArg (fun x => World.drewN x _) hw.out).trans (drewN_add' _ _ _), HR.out⟩, by simp [intOf]⟩
        · have hd : (y : Int) < (x : Int) := by omega
          have HR : Hid (cmpR a b = 1) := HGT.out h
          clear h
          go_wp2
          go_quiet (fail)
          go_wp2
          go_quiet (fail)
          go_wp2
          go_ret
          exact ⟨by rw [HR.out]; rfl, _, by rw [hw.out]; exact (congrArg (fun x => World.drewN x _) (drewN_add' _ _ _)).trans (drewN_add' _ _ _)⟩
      · have et : t = 0 := by omega
        subst et
        have HR : Hid (cmpR a b = 0) := if_pos (by have := hI.out; simpa using this)
        clear h0 ht hI
        go_wp2
        go_ret
        exact ⟨by rw [HR.out]; rfl, k, hw.out⟩
  · have hne' : ¬ (n1 : Int) = (n2 : Int) := by omega
    rcases Nat.lt_or_gt_of_ne hne with h | h
    · have hd : (n1 : Int) < (n2 : Int) := by omega
      have HR : Hid (cmpR a b = -1) := by
        have := len_lt a b (by rw [← H1.out, ← H2.out]; exact h)
        exact (if_neg (by omega)).trans (if_pos this)
      clear h hne
      go_enter Tryd.func57, Tryd.ntmps57
      go_wp2
      go_ret
      exact ⟨by rw [HR.out]; rfl, 0, by rw [World.drewN_zero]⟩
    · have hd : (n2 : Int) < (n1 : Int) := by omega
      have hd' : ¬ (n1 : Int) < (n2 : Int) := by omega
      have HR : Hid (cmpR a b = 1) := by
        have := len_lt b a (by rw [← H1.out, ← H2.out]; exact h)
        exact (if_neg (by omega)).trans (if_neg (by omega))
      clear h hne
      go_enter Tryd.func57, Tryd.ntmps57
      go_wp2
      go_ret
      exact ⟨by rw [HR.out]; rfl, 0, by rw [World.drewN_zero]⟩

end Go.Proofs.YtehccmlbnfhhmaaDoor
