/-
  The document's vault: the first errors of a row.
-/
import Derived.Test.YtkbdnebmekhcdaaEsV

namespace Go.Proofs.Ytkbdnebmekhcdaa
open Go Go.RowKit Go.Maps
open Wd

theorem rl_app (l : List Acv) (a : Acv) (t : Int) : rl (l ++ [a]) t = stepL t (rl l t) a := by unfold rl; rw [List.foldl_append]; rfl
theorem rh_app (l : List Acv) (a : Acv) (t : Int) : rh (l ++ [a]) t = stepH t (rh l t) a := by unfold rh; rw [List.foldl_append]; rfl
theorem rk_app (l : List Acv) (a : Acv) : rk (l ++ [a]) = stepK (rk l) a := by unfold rk; rw [List.foldl_append]; rfl
theorem rp_app (l : List Acv) (a : Acv) (x : Int) : rp (l ++ [a]) x = (rp l x || (a.k == 4 && a.ix == x)) := by unfold rp; rw [List.any_append]; simp
/-- What stands of a token. -/
def Tk (o : Option (Bool × Nat)) (a : Bool × Bool) (h : Nat) : Prop := match o with | none => a = (false, false) ∧ h = 0 | some p => a = (true, p.1) ∧ h = p.2
structure Rel (l : List Acv) (s : St) : Prop where
  t : ∀ t, 0 ≤ t → t < 64 → Tk (s.T t) (rl l t) (rh l t)
  o : ∀ t, t < 0 ∨ 64 ≤ t → rl l t = (false, false) ∧ rh l t = 0
  p : ∀ x, rp l x = paid s.U x
  l : rk l = s.L
theorem Rel.none : Rel [] ⟨fun _ => .none, fun _ => 0, 0⟩ := ⟨fun _ _ _ => ⟨rfl, rfl⟩, fun _ _ => ⟨rfl, rfl⟩, fun x => by unfold paid; simp [rp], rfl⟩
section
variable {l : List Acv} {s : St} {x : Int}
/-- A token's act: the others' tokens, the indices and what is locked stay. -/
theorem Rel.tok (h : Rel l s) (h0 : 0 ≤ x) (h6 : x < 64) (a : Acv) (ha : a.tk = x) (h4 : a.k ≠ 4) (h5 : a.k ≠ 5) (h7 : a.k ≠ 6) (p : Bool × Nat) (hp : Tk (some p) (stepL x (rl l x) a) (stepH x (rh l x) a)) : Rel (l ++ [a]) ⟨upd s.T x (some p), s.U, s.L⟩ := by
  refine ⟨fun t t0 t6 => ?_, fun t ht => ?_, fun y => ?_, ?_⟩
  · rw [rl_app, rh_app]
    by_cases e : t = x
    · subst e
      show Tk (upd s.T t (some p) t) _ _
      rw [upd_at]
      exact hp
    · show Tk (upd s.T x (some p) t) _ _
      rw [upd_ne _ _ e]
      have n : ¬ a.tk = t := by rw [ha]; exact fun q => e q.symm
      rw [st_ne n, show stepH t (rh l t) a = rh l t from if_pos n]
      exact h.t t t0 t6
  · have n : ¬ a.tk = t := by rw [ha]; omega
    rw [rl_app, rh_app, st_ne n, show stepH t (rh l t) a = rh l t from if_pos n]
    exact h.o t ht
  · rw [rp_app, h.p y]
    simp [h4]
  · rw [rk_app, h.l]
    unfold stepK
    rw [if_neg h5, if_neg h7]
theorem Rel.list (h : Rel l s) (h0 : 0 ≤ x) (h6 : x < 64) (hn : s.T x = .none) : Rel (l ++ [⟨0, 0, x, 0⟩]) ⟨upd s.T x (some (false, 0)), s.U, s.L⟩ := by
  have q := h.t x h0 h6
  rw [hn] at q
  obtain ⟨q1, q2⟩ := q
  refine h.tok h0 h6 ⟨0, 0, x, 0⟩ rfl (by simp) (by simp) (by simp) (false, 0) ⟨?_, ?_⟩
  · rw [q1]; exact st_0 rfl rfl
  · rw [q2]; unfold stepH; simp
theorem Rel.stop (h : Rel l s) (h0 : 0 ≤ x) (h6 : x < 64) {st : Bool} {m : Nat} (hn : s.T x = some (st, m)) : Rel (l ++ [⟨1, 0, x, 0⟩]) ⟨upd s.T x (some (true, m)), s.U, s.L⟩ := by
  have q := h.t x h0 h6
  rw [hn] at q
  obtain ⟨q1, q2⟩ := q
  refine h.tok h0 h6 ⟨1, 0, x, 0⟩ rfl (by simp) (by simp) (by simp) (true, m) ⟨?_, ?_⟩
  · rw [q1]; exact st_1 rfl rfl
  · rw [q2]; unfold stepH; simp
theorem Rel.again (h : Rel l s) (h0 : 0 ≤ x) (h6 : x < 64) {st : Bool} {m : Nat} (hn : s.T x = some (st, m)) : Rel (l ++ [⟨2, 0, x, 0⟩]) ⟨upd s.T x (some (false, m)), s.U, s.L⟩ := by
  have q := h.t x h0 h6
  rw [hn] at q
  obtain ⟨q1, q2⟩ := q
  refine h.tok h0 h6 ⟨2, 0, x, 0⟩ rfl (by simp) (by simp) (by simp) (false, m) ⟨?_, ?_⟩
  · rw [q1]; exact st_2 rfl rfl
  · rw [q2]; unfold stepH; simp
theorem Rel.dep (h : Rel l s) (h0 : 0 ≤ x) (h6 : x < 64) {st : Bool} {m a : Nat} (hn : s.T x = some (st, m)) : Rel (l ++ [⟨3, 0, x, a⟩]) ⟨upd s.T x (some (st, addR m a)), s.U, s.L⟩ := by
  have q := h.t x h0 h6
  rw [hn] at q
  obtain ⟨q1, q2⟩ := q
  refine h.tok h0 h6 ⟨3, 0, x, a⟩ rfl (by simp) (by simp) (by simp) (st, addR m a) ⟨?_, ?_⟩
  · rw [q1]; exact st_x (by simp) (by simp) (by simp)
  · rw [q2]; unfold stepH; simp
theorem Rel.pay (h : Rel l s) (h0 : 0 ≤ x) (h6 : x < 64) {st : Bool} {m a : Nat} {i : Int} (hn : s.T x = some (st, m)) : Rel (l ++ [⟨4, i, x, a⟩]) ⟨upd s.T x (some (st, subR m a)), puts s.U i, s.L⟩ := by
  have q := h.t x h0 h6
  rw [hn] at q
  obtain ⟨q1, q2⟩ := q
  refine ⟨fun t t0 t6 => ?_, fun t ht => ?_, fun y => ?_, ?_⟩
  · rw [rl_app, rh_app]
    by_cases e : t = x
    · subst e
      show Tk (upd s.T t (some (st, subR m a)) t) _ _
      rw [upd_at, q1, q2]
      exact ⟨st_x (by simp) (by simp) (by simp), by unfold stepH; simp⟩
    · show Tk (upd s.T x (some (st, subR m a)) t) _ _
      rw [upd_ne _ _ e]
      have n : ¬ (Acv.mk 4 i x a).tk = t := fun q => e q.symm
      rw [st_ne n, show stepH t (rh l t) ⟨4, i, x, a⟩ = rh l t from if_pos n]
      exact h.t t t0 t6
  · have n : ¬ (Acv.mk 4 i x a).tk = t := fun q => by have : x = t := q; omega
    rw [rl_app, rh_app, st_ne n, show stepH t (rh l t) ⟨4, i, x, a⟩ = rh l t from if_pos n]
    exact h.o t ht
  · show _ = paid (puts s.U i) y
    rw [rp_app, h.p y, paid_puts, Bool.or_comm]
    congr 1
    simp [eq_comm]
    rfl
  · rw [rk_app, h.l]
    unfold stepK
    simp
/-- A bond's act: it stands under no token. -/
theorem Rel.bond (h : Rel l s) (a : Acv) (h0 : a.k ≠ 0) (h1 : a.k ≠ 1) (h2 : a.k ≠ 2) (h3 : a.k ≠ 3) (h4 : a.k ≠ 4) : Rel (l ++ [a]) ⟨s.T, s.U, stepK s.L a⟩ := by
  have hl : ∀ t, stepL t (rl l t) a = rl l t := fun t => st_x h0 h1 h2
  have hh : ∀ t, stepH t (rh l t) a = rh l t := fun t => by unfold stepH; rw [if_neg h3, if_neg h4]; exact ite_self _
  refine ⟨fun t t0 t6 => ?_, fun t ht => ?_, fun y => ?_, ?_⟩
  · rw [rl_app, rh_app, hl, hh]; exact h.t t t0 t6
  · rw [rl_app, rh_app, hl, hh]; exact h.o t ht
  · rw [rp_app, h.p y]; simp [h4]
  · rw [rk_app, h.l]
end

end Go.Proofs.Ytkbdnebmekhcdaa

namespace Go.Proofs.Ytkbdnebmekhcdaa
open Go Go.RowKit Go.Maps
open Wd

set_option maxRecDepth 100000 in
set_option maxHeartbeats 4000000 in
theorem there_any {w : World} {q n cap : Nat} {A : Option Addr} {l : List Acv} {s : St} (h : Rv w q A n cap l) (hR : Rel l s) (t : Int) : Calls Try.prog 55 #[.pointer (some ⟨q, 0, none⟩), .int .i64 t] w fun e w' => e = .returned (.int .i64 (fnd s.T t).2.2) ∧ w' = w := by
  have HR : Hid (Rv w q A n cap l) := h
  obtain ⟨E, hE⟩ : ∃ e, e = (fnd s.T t).2.2 := ⟨_, rfl⟩
  have HE : Hid (E = (fnd s.T t).2.2) := hE
  have HL : Hid (Rel l s) := hR
  rw [← hE]
  clear h hR hE
  go_enter Try.func55, Try.ntmps55
  by_cases h0 : t < 0
  · have HT : Hid (E = 140) := by rw [HE.out]; unfold fnd; rw [if_pos (.inl h0)]; exact rfl
    go_wp2_with fail
    go_ret
    exact ⟨by rw [HT.out]; rfl, rfl⟩
  · by_cases h6 : 64 ≤ t
    · have HT : Hid (E = 140) := by rw [HE.out]; unfold fnd; rw [if_pos (.inr h6)]; exact rfl
      go_wp2_with fail
      go_ret
      exact ⟨by rw [HT.out]; rfl, rfl⟩
    · obtain ⟨x, y, hxy⟩ : ∃ x y, rl l t = (x, y) := ⟨_, _, rfl⟩
      have hT := HL.out.t t (by omega) (by omega)
      have HD : Hid ((x = true ∧ E = 0) ∨ (x = false ∧ E = 141)) := by
        rw [HE.out]
        unfold fnd
        rw [if_neg (by omega)]
        rw [hxy] at hT
        cases hs : s.T t with
        | none =>
          rw [hs] at hT
          obtain ⟨h1, _⟩ := hT
          injection h1 with h1 _
          exact .inr ⟨h1, rfl⟩
        | some p =>
          rw [hs] at hT
          obtain ⟨h1, _⟩ := hT
          injection h1 with h1 _
          exact .inl ⟨h1, rfl⟩
      have HC : Hid (Calls Try.prog 39 #[.pointer (some ⟨q, 0, none⟩), .int .i64 t] w fun e w' => e = .returned (.tuple #[.bool x, .bool y]) ∧ w' = w) := by
        have h9 := rlisted_any HR.out t
        rw [hxy] at h9
        exact h9
      clear hT hxy
      rcases HD.out with ⟨rfl, rfl⟩ | ⟨rfl, rfl⟩
      all_goals
        clear HD HE
        go_wp2_with (go_at_call 39; refine Calls.mono HC.out ?_; rintro e X ⟨rfl, hqq⟩; obtain rfl := hqq.symm)
        go_ret
        exact ⟨rfl, rfl⟩


end Go.Proofs.Ytkbdnebmekhcdaa
