/-
  what a step keeps.
-/
import Derived.Test.YtabcglakdlkdcaaMkEo
import Derived.Test.YtabcglakdlkdcaaMkEp

namespace Go.Proofs.Ytabcglakdlkdcaa
open Go Go.RowKit
open Sha
open Wd

/-- A question's cells. -/
def aq (k a b t : Nat) (who : List Value) : List Value := .int .i64 (k : Int) :: (wq a ++ (wq b ++ (.int .i64 (t : Int) :: who)))
theorem aq_len (k a b t : Nat) (who : List Value) (h : who.length = 20) : (aq k a b t who).length = 30 := by
  unfold aq
  simp only [List.length_cons, List.length_append, wq_len, h]
/-- What the host's four do. -/
def exh (rs : List (Nat × Int)) (c : Nat) (st : List Nat) (nx nq : Nat) : Except Int (List Nat × Nat) × List (List Value) :=
  if c = 24 then (if (rs.getD nq (0, 0)).2 = 0 then .ok ((rs.getD nq (0, 0)).1 :: st.drop 1, nx) else .error (rs.getD nq (0, 0)).2, [aq 1 (st.getD 0 0) 0 0 z20])
  else if c = 25 then (if (rs.getD nq (0, 0)).2 = 0 then .ok (st.drop 2, nx) else .error (rs.getD nq (0, 0)).2, [aq 2 (st.getD 1 0) (st.getD 0 0) 0 z20])
  else if c = 26 then (if st.getD 1 0 < 64 then (if (rs.getD nq (0, 0)).2 = 0 then .ok ((rs.getD nq (0, 0)).1 :: st.drop 2, nx) else .error (rs.getD nq (0, 0)).2, [aq 3 0 0 (st.getD 1 0) (adr (st.getD 0 0))]) else (.error 104, []))
  else (if st.getD 2 0 < 64 then (if (rs.getD nq (0, 0)).2 = 0 then .ok (st.drop 3, nx) else .error (rs.getD nq (0, 0)).2, [aq 4 (st.getD 0 0) 0 (st.getD 2 0) (adr (st.getD 1 0))]) else (.error 104, []))
/-- One step: an error, or the stack and which instruction is next; what the host was asked. -/
def stU (cl : Cl) (ags : List Nat) (ls : List Ins) (rs : List (Nat × Int)) (x : Ins) (st : List Nat) (l nx nq : Nat) : Except Int (List Nat × Nat) × List (List Value) :=
  if l < gT x.c then (.error 102, []) else if st.length < tT x.c x.n ∨ 64 < st.length - tT x.c x.n + lT x.c x.n then (.error 103, [])
  else if x.c = 1 then (.ok (st.drop 1, nx + 1), [])
  else if x.c < 24 then (exi cl ags ls x.c x.a x.n st (l - gT x.c) (nx + 1), [])
  else exh rs x.c st (nx + 1) nq
/-- All steps: the error, or the answer and the gas that is left; what the host was asked. -/
def ev2 (cl : Cl) (ags : List Nat) (ls : List Ins) (rs : List (Nat × Int)) : Nat → List Nat → Nat → Nat → Nat → Except Int (Nat × Nat) × List (List Value)
  | 0, _, _, _, _ => (.error 0, [])
  | f + 1, st, l, nx, nq => match ls[nx]? with
    | none => (.error 106, [])
    | some x => match stU cl ags ls rs x st l nx nq with
      | (.error E, q) => (.error E, q)
      | (.ok (st', nx'), q) => if x.c = 1 then (.ok (st.getD 0 0, l - 1), q) else
        ((ev2 cl ags ls rs f st' (l - gT x.c) nx' (nq + q.length)).1, q ++ (ev2 cl ags ls rs f st' (l - gT x.c) nx' (nq + q.length)).2)
section
variable {cl : Cl} {ags : List Nat} {ls : List Ins} {rs rs' : List (Nat × Int)} {x : Ins} {st : List Nat} {l nx nq : Nat}
theorem exh_asks (c : Nat) : (exh rs c st nx nq).2 = (exh rs' c st nx nq).2 := by
  unfold exh
  by_cases h1 : c = 24
  · rw [if_pos h1, if_pos h1]
  rw [if_neg h1, if_neg h1]
  by_cases h2 : c = 25
  · rw [if_pos h2, if_pos h2]
  rw [if_neg h2, if_neg h2]
  by_cases h3 : c = 26
  · rw [if_pos h3, if_pos h3]
    by_cases h4 : st.getD 1 0 < 64
    · rw [if_pos h4, if_pos h4]
    · rw [if_neg h4, if_neg h4]
  rw [if_neg h3, if_neg h3]
  by_cases h4 : st.getD 2 0 < 64
  · rw [if_pos h4, if_pos h4]
  · rw [if_neg h4, if_neg h4]
theorem exh_like (c : Nat) (h : rs.getD nq (0, 0) = rs'.getD nq (0, 0)) : exh rs c st nx nq = exh rs' c st nx nq := by
  unfold exh
  rw [h]
theorem exh_none (c : Nat) (h : (exh rs c st nx nq).2 = []) : exh rs c st nx nq = (.error 104, []) := by
  unfold exh at h ⊢
  split at h
  · cases h
  rename_i h1
  rw [if_neg h1]
  split at h
  · cases h
  rename_i h2
  rw [if_neg h2]
  split at h
  · rename_i h3
    rw [if_pos h3]
    split at h
    · cases h
    rename_i h4
    rw [if_neg h4]
  rename_i h3
  rw [if_neg h3]
  split at h
  · cases h
  rename_i h4
  rw [if_neg h4]
theorem exh_err (c : Nat) (V : Nat) (E : Int) (hr : rs.getD nq (0, 0) = (V, E)) (hE : E ≠ 0) (h : (exh rs c st nx nq).2 ≠ []) : (exh rs c st nx nq).1 = .error E := by
  unfold exh at h ⊢
  rw [hr] at h ⊢
  simp only [if_neg hE] at h ⊢
  split
  · rfl
  rename_i h1
  rw [if_neg h1] at h
  split
  · rfl
  rename_i h2
  rw [if_neg h2] at h
  split
  · rename_i h3
    rw [if_pos h3] at h
    split
    · rfl
    rename_i h4
    rw [if_neg h4] at h
    exact (h rfl).elim
  rename_i h3
  rw [if_neg h3] at h
  split
  · rfl
  rename_i h4
  rw [if_neg h4] at h
  exact (h rfl).elim
theorem exh_one (c : Nat) : (exh rs c st nx nq).2 = [] ∨ ∃ a, (exh rs c st nx nq).2 = [a] ∧ a.length = 30 := by
  have hz : z20.length = 20 := by simp
  unfold exh
  split
  · exact .inr ⟨_, rfl, aq_len _ _ _ _ _ hz⟩
  split
  · exact .inr ⟨_, rfl, aq_len _ _ _ _ _ hz⟩
  split
  · split
    · exact .inr ⟨_, rfl, aq_len _ _ _ _ _ (adr_len _)⟩
    · exact .inl rfl
  split
  · exact .inr ⟨_, rfl, aq_len _ _ _ _ _ (adr_len _)⟩
  · exact .inl rfl
theorem stU_like (h : (stU cl ags ls rs x st l nx nq).2 = [] ∨ rs.getD nq (0, 0) = rs'.getD nq (0, 0)) : stU cl ags ls rs' x st l nx nq = stU cl ags ls rs x st l nx nq := by
  unfold stU at h ⊢
  split
  · rfl
  rename_i h1
  rw [if_neg h1] at h
  split
  · rfl
  rename_i h2
  rw [if_neg h2] at h
  split
  · rfl
  rename_i h3
  rw [if_neg h3] at h
  split
  · rfl
  rename_i h4
  rw [if_neg h4] at h
  rcases h with h | h
  · rw [exh_none _ h, exh_none (rs := rs') _ (by rw [exh_asks (rs' := rs)]; exact h)]
  · exact (exh_like _ h).symm
theorem stU_err (V : Nat) (E : Int) (hr : rs'.getD nq (0, 0) = (V, E)) (hE : E ≠ 0) (h : (stU cl ags ls rs x st l nx nq).2 ≠ []) : stU cl ags ls rs' x st l nx nq = (.error E, (stU cl ags ls rs x st l nx nq).2) := by
  unfold stU at h ⊢
  split
  · rename_i h1
    rw [if_pos h1] at h
    exact (h rfl).elim
  rename_i h1
  rw [if_neg h1] at h
  split
  · rename_i h2
    rw [if_pos h2] at h
    exact (h rfl).elim
  rename_i h2
  rw [if_neg h2] at h
  split
  · rename_i h3
    rw [if_pos h3] at h
    exact (h rfl).elim
  rename_i h3
  rw [if_neg h3] at h
  split
  · rename_i h4
    rw [if_pos h4] at h
    exact (h rfl).elim
  rename_i h4
  rw [if_neg h4] at h
  have e := exh_asks (rs := rs') (rs' := rs) (st := st) (nx := nx + 1) (nq := nq) x.c
  exact Prod.ext (exh_err x.c V E hr hE (by rw [e]; exact h)) e
theorem stU_one : (stU cl ags ls rs x st l nx nq).2 = [] ∨ ∃ a, (stU cl ags ls rs x st l nx nq).2 = [a] ∧ a.length = 30 := by
  unfold stU
  split
  · exact .inl rfl
  split
  · exact .inl rfl
  split
  · exact .inl rfl
  split
  · exact .inl rfl
  exact exh_one _
theorem stU_gas {y : List Nat × Nat} (h : (stU cl ags ls rs x st l nx nq).1 = .ok y) : gT x.c ≤ l := by
  unfold stU at h
  split at h
  · cases h
  · omega
theorem stU_200 (hc : x.c < 28) (h : (stU cl ags ls rs x st l nx nq).2 ≠ []) : 200 ≤ gT x.c ∧ gT x.c ≤ l := by
  unfold stU at h
  split at h
  · exact (h rfl).elim
  rename_i h1
  split at h
  · exact (h rfl).elim
  split at h
  · exact (h rfl).elim
  split at h
  · exact (h rfl).elim
  rename_i h4
  refine ⟨?_, by omega⟩
  rcases (show x.c = 24 ∨ x.c = 25 ∨ x.c = 26 ∨ x.c = 27 by omega) with h | h | h | h <;> rw [h] <;> decide
end
theorem gT_pos (c : Nat) (hc : c < 28) : 1 ≤ gT c := by
  have : ∀ c : Fin 28, 1 ≤ gT c.1 := by decide
  exact this ⟨c, hc⟩
/-- With an error at the k-th question the run ends with it: it was asked the same until then. -/
theorem ev2_host (cl : Cl) (ags : List Nat) (ls : List Ins) (rs rs' : List (Nat × Int)) (k V : Nat) (E : Int) (hr : rs'.getD k (0, 0) = (V, E)) (hE : E ≠ 0) (hs : ∀ j, j < k → rs.getD j (0, 0) = rs'.getD j (0, 0)) : ∀ (f : Nat) (st : List Nat) (l nx nq : Nat), nq ≤ k → k < nq + (ev2 cl ags ls rs f st l nx nq).2.length → ev2 cl ags ls rs' f st l nx nq = (.error E, (ev2 cl ags ls rs f st l nx nq).2.take (k + 1 - nq)) := by
  intro f
  induction f with
  | zero =>
    intro st l nx nq h1 h2
    have : (ev2 cl ags ls rs 0 st l nx nq).2 = [] := rfl
    rw [this, List.length_nil] at h2
    omega
  | succ f ih =>
    intro st l nx nq h1 h2
    unfold ev2 at h2 ⊢
    cases hx : ls[nx]? with
    | none =>
      rw [hx] at h2
      simp only [List.length_nil] at h2
      omega
    | some x =>
      rw [hx] at h2
      simp only at h2 ⊢
      by_cases hq : (stU cl ags ls rs x st l nx nq).2 = []
      · rw [stU_like (rs := rs) (rs' := rs') (.inl hq)]
        rcases hst : stU cl ags ls rs x st l nx nq with ⟨r1, q⟩
        rw [hst] at h2 hq
        simp only at hq
        subst hq
        cases r1 with
        | error e =>
          simp only [List.length_nil] at h2
          omega
        | ok y =>
          obtain ⟨st', nx'⟩ := y
          simp only [List.length_nil, Nat.add_zero, List.nil_append] at h2 ⊢
          split
          · rename_i hc
            rw [if_pos hc] at h2
            simp only [List.length_nil] at h2
            omega
          · rename_i hc
            rw [if_neg hc] at h2
            have := ih st' (l - gT x.c) nx' nq h1 h2
            rw [this]
      · obtain ⟨a, ha, _⟩ := (stU_one (cl := cl) (ags := ags) (ls := ls) (rs := rs) (x := x) (st := st) (l := l) (nx := nx) (nq := nq)).resolve_left hq
        by_cases hk : nq = k
        · subst hk
          rw [stU_err (rs := rs) (rs' := rs') V E hr hE hq]
          rcases hst : stU cl ags ls rs x st l nx nq with ⟨r1, q⟩
          rw [hst] at ha
          simp only at ha
          subst ha
          simp only [show nq + 1 - nq = 1 by omega]
          cases r1 with
          | error e => rfl
          | ok y =>
            obtain ⟨st', nx'⟩ := y
            simp only
            split <;> rfl
        · rw [stU_like (rs := rs) (rs' := rs') (.inr (hs nq (by omega)))]
          rcases hst : stU cl ags ls rs x st l nx nq with ⟨r1, q⟩
          rw [hst] at h2 ha
          simp only at ha
          subst ha
          cases r1 with
          | error e =>
            simp only [List.length_singleton] at h2
            omega
          | ok y =>
            obtain ⟨st', nx'⟩ := y
            simp only [List.length_singleton] at h2 ⊢
            split
            · rename_i hc
              rw [if_pos hc] at h2
              simp only [List.length_singleton] at h2
              omega
            · rename_i hc
              rw [if_neg hc] at h2
              simp only [List.length_append, List.length_singleton] at h2
              have := ih st' (l - gT x.c) nx' (nq + 1) (by omega) (by omega)
              rw [this]
              refine Prod.ext rfl ?_
              simp only [show k + 1 - nq = (k + 1 - (nq + 1)) + 1 by omega, List.singleton_append, List.take_succ_cons]

end Go.Proofs.Ytabcglakdlkdcaa

namespace Go.Proofs.Ytabcglakdlkdcaa
open Go Go.RowKit
open Sha
open Wd

theorem getD_lt {B : Nat} (hB : 0 < B) {st : List Nat} (h : ∀ a ∈ st, a < B) (i : Nat) : st.getD i 0 < B := by
  rw [List.getD_eq_getElem?_getD]
  cases e : st[i]? with
  | none => exact hB
  | some v => exact h v (List.mem_of_getElem? e)
theorem cons_lt {B a : Nat} {st : List Nat} (ha : a < B) (h : ∀ a ∈ st, a < B) : ∀ u ∈ a :: st, u < B := fun u hu => by
  rcases List.mem_cons.1 hu with rfl | hu
  · exact ha
  · exact h u hu
theorem drop_lt {B : Nat} {st : List Nat} (h : ∀ a ∈ st, a < B) (n : Nat) : ∀ u ∈ st.drop n, u < B := fun u hu => h u (List.mem_of_mem_drop hu)
theorem set_lt {B a : Nat} {st : List Nat} (ha : a < B) (h : ∀ a ∈ st, a < B) (n : Nat) : ∀ u ∈ st.set n a, u < B := fun u hu => by
  rcases List.mem_or_eq_of_mem_set hu with hu | rfl
  · exact h u hu
  · exact ha
theorem bit_lt {B : Nat} (hB : 1 < B) (b : Bool) : (if b = true then 1 else 0) < B := by cases b <;> simp <;> omega
/-- What holds of the numbers that a call and a program have. -/
structure Vals (B : Nat) (cl : Cl) (ags : List Nat) (ls : List Ins) (rs : List (Nat × Int)) : Prop where
  one : 10001 < B
  vbin : ∀ {c x y z : Nat} {E : Int}, x < B → y < B → bin c x y = some (z, E) → z < B
  vag : ∀ a ∈ ags, a < B
  al : ags.length ≤ 8
  vnb : ∀ b : List (BitVec 8), nb b < B
  tok : cl.tok < B
  amt : cl.amt < B
  tm : cl.tm < B
  vls : ∀ y ∈ ls, y.a < B
  vrs : ∀ p ∈ rs, p.1 < B
  jmp : ∀ y ∈ ls, y.c = 14 ∨ y.c = 15 → stf ls y.n ≠ 0
theorem exi_inv {B : Nat} {cl : Cl} {ags : List Nat} {ls : List Ins} {rs : List (Nat × Int)} (V : Vals B cl ags ls rs) (c a ni : Nat) (ha : a < B) (hj : c = 14 ∨ c = 15 → stf ls ni ≠ 0) (hc : c < 24) (hc1 : c ≠ 1) (st : List Nat) (hst : ∀ a ∈ st, a < B) (ht : tT c ni ≤ st.length) (l nx : Nat) (hl : l ≤ 10000) (hnx : nx ≤ ls.length) :
    (∀ st' nx', exi cl ags ls c a ni st l nx = .ok (st', nx') → (∀ u ∈ st', u < B) ∧ st'.length = st.length - tT c ni + lT c ni ∧ nx' ≤ ls.length) ∧ (∀ E, exi cl ags ls c a ni st l nx = .error E → E ≠ 0) := by
  have hB0 : 0 < B := Nat.lt_trans (by decide) V.one
  have hB1 : 1 < B := Nat.lt_trans (by decide) V.one
  have hsf : stf ls ni - 1 ≤ ls.length := by have := stf_le ls ni; omega
  rcases (show c = 0 ∨ c = 2 ∨ c = 3 ∨ c = 4 ∨ c = 5 ∨ c = 6 ∨ c = 7 ∨ c = 8 ∨ c = 9 ∨ c = 10 ∨ c = 11 ∨ c = 12 ∨ c = 13 ∨ c = 14 ∨ c = 15 ∨ c = 16 ∨ c = 17 ∨ c = 18 ∨ c = 19 ∨ c = 20 ∨ c = 21 ∨ c = 22 ∨ c = 23 by omega) with rfl | rfl | rfl | rfl | rfl | rfl | rfl | rfl | rfl | rfl | rfl | rfl | rfl | rfl | rfl | rfl | rfl | rfl | rfl | rfl | rfl | rfl | rfl
  · have e : exi cl ags ls 0 a ni st l nx = .error 105 := rfl
    rw [e]
    refine ⟨fun st' nx' h => (by cases h), fun E h => ?_⟩
    simp only [Except.error.injEq] at h
    omega
  · have e : exi cl ags ls 2 a ni st l nx = .ok (a :: st, nx) := rfl
    rw [e]
    refine ⟨fun st' nx' h => ?_, fun E h => by cases h⟩
    simp only [Except.ok.injEq, Prod.mk.injEq] at h
    obtain ⟨rfl, rfl⟩ := h
    exact ⟨cons_lt ha hst, by simp [tT, lT] at ht ⊢; try omega, hnx⟩
  · have e : exi cl ags ls 3 a ni st l nx = .ok (st.drop 1, nx) := rfl
    rw [e]
    refine ⟨fun st' nx' h => ?_, fun E h => by cases h⟩
    simp only [Except.ok.injEq, Prod.mk.injEq] at h
    obtain ⟨rfl, rfl⟩ := h
    exact ⟨drop_lt hst 1, by simp [tT, lT] at ht ⊢; try omega, hnx⟩
  · have e : exi cl ags ls 4 a ni st l nx = .ok (st.getD ni 0 :: st, nx) := rfl
    rw [e]
    refine ⟨fun st' nx' h => ?_, fun E h => by cases h⟩
    simp only [Except.ok.injEq, Prod.mk.injEq] at h
    obtain ⟨rfl, rfl⟩ := h
    exact ⟨cons_lt (getD_lt hB0 hst ni) hst, by simp [tT, lT] at ht ⊢; try omega, hnx⟩
  · have e : exi cl ags ls 5 a ni st l nx = .ok ((st.set 0 (st.getD ni 0)).set ni (st.getD 0 0), nx) := rfl
    rw [e]
    refine ⟨fun st' nx' h => ?_, fun E h => by cases h⟩
    simp only [Except.ok.injEq, Prod.mk.injEq] at h
    obtain ⟨rfl, rfl⟩ := h
    exact ⟨set_lt (getD_lt hB0 hst 0) (set_lt (getD_lt hB0 hst ni) hst 0) ni, by simp [tT, lT] at ht ⊢; try omega, hnx⟩
  · have e : exi cl ags ls 6 a ni st l nx = (match bin 6 (st.getD 1 0) (st.getD 0 0) with | some (z, E) => if E = 0 then .ok (z :: st.drop 2, nx) else .error 104 | none => .error 0) := rfl
    obtain ⟨z, E, hb⟩ : ∃ z E, bin 6 (st.getD 1 0) (st.getD 0 0) = some (z, E) := ⟨_, _, rfl⟩
    have hz := V.vbin (getD_lt hB0 hst 1) (getD_lt hB0 hst 0) hb
    rw [e, hb]
    simp only
    split
    · refine ⟨fun st' nx' h => ?_, fun E h => by cases h⟩
      simp only [Except.ok.injEq, Prod.mk.injEq] at h
      obtain ⟨rfl, rfl⟩ := h
      exact ⟨cons_lt hz (drop_lt hst 2), by simp [tT, lT] at ht ⊢, hnx⟩
    · refine ⟨fun st' nx' h => (by cases h), fun E h => ?_⟩
      simp only [Except.error.injEq] at h
      omega
  · have e : exi cl ags ls 7 a ni st l nx = (match bin 7 (st.getD 1 0) (st.getD 0 0) with | some (z, E) => if E = 0 then .ok (z :: st.drop 2, nx) else .error 104 | none => .error 0) := rfl
    obtain ⟨z, E, hb⟩ : ∃ z E, bin 7 (st.getD 1 0) (st.getD 0 0) = some (z, E) := ⟨_, _, rfl⟩
    have hz := V.vbin (getD_lt hB0 hst 1) (getD_lt hB0 hst 0) hb
    rw [e, hb]
    simp only
    split
    · refine ⟨fun st' nx' h => ?_, fun E h => by cases h⟩
      simp only [Except.ok.injEq, Prod.mk.injEq] at h
      obtain ⟨rfl, rfl⟩ := h
      exact ⟨cons_lt hz (drop_lt hst 2), by simp [tT, lT] at ht ⊢, hnx⟩
    · refine ⟨fun st' nx' h => (by cases h), fun E h => ?_⟩
      simp only [Except.error.injEq] at h
      omega
  · have e : exi cl ags ls 8 a ni st l nx = (match bin 8 (st.getD 1 0) (st.getD 0 0) with | some (z, E) => if E = 0 then .ok (z :: st.drop 2, nx) else .error 104 | none => .error 0) := rfl
    obtain ⟨z, E, hb⟩ : ∃ z E, bin 8 (st.getD 1 0) (st.getD 0 0) = some (z, E) := ⟨_, _, rfl⟩
    have hz := V.vbin (getD_lt hB0 hst 1) (getD_lt hB0 hst 0) hb
    rw [e, hb]
    simp only
    split
    · refine ⟨fun st' nx' h => ?_, fun E h => by cases h⟩
      simp only [Except.ok.injEq, Prod.mk.injEq] at h
      obtain ⟨rfl, rfl⟩ := h
      exact ⟨cons_lt hz (drop_lt hst 2), by simp [tT, lT] at ht ⊢, hnx⟩
    · refine ⟨fun st' nx' h => (by cases h), fun E h => ?_⟩
      simp only [Except.error.injEq] at h
      omega
  · have e : exi cl ags ls 9 a ni st l nx = (match bin 9 (st.getD 1 0) (st.getD 0 0) with | some (z, E) => if E = 0 then .ok (z :: st.drop 2, nx) else .error 104 | none => .error 0) := rfl
    obtain ⟨z, E, hb⟩ : ∃ z E, bin 9 (st.getD 1 0) (st.getD 0 0) = some (z, E) := ⟨_, _, rfl⟩
    have hz := V.vbin (getD_lt hB0 hst 1) (getD_lt hB0 hst 0) hb
    rw [e, hb]
    simp only
    split
    · refine ⟨fun st' nx' h => ?_, fun E h => by cases h⟩
      simp only [Except.ok.injEq, Prod.mk.injEq] at h
      obtain ⟨rfl, rfl⟩ := h
      exact ⟨cons_lt hz (drop_lt hst 2), by simp [tT, lT] at ht ⊢, hnx⟩
    · refine ⟨fun st' nx' h => (by cases h), fun E h => ?_⟩
      simp only [Except.error.injEq] at h
      omega
  · have e : exi cl ags ls 10 a ni st l nx = (match bin 10 (st.getD 1 0) (st.getD 0 0) with | some (z, E) => if E = 0 then .ok (z :: st.drop 2, nx) else .error 104 | none => .error 0) := rfl
    obtain ⟨z, E, hb⟩ : ∃ z E, bin 10 (st.getD 1 0) (st.getD 0 0) = some (z, E) := ⟨_, _, rfl⟩
    have hz := V.vbin (getD_lt hB0 hst 1) (getD_lt hB0 hst 0) hb
    rw [e, hb]
    simp only
    split
    · refine ⟨fun st' nx' h => ?_, fun E h => by cases h⟩
      simp only [Except.ok.injEq, Prod.mk.injEq] at h
      obtain ⟨rfl, rfl⟩ := h
      exact ⟨cons_lt hz (drop_lt hst 2), by simp [tT, lT] at ht ⊢, hnx⟩
    · refine ⟨fun st' nx' h => (by cases h), fun E h => ?_⟩
      simp only [Except.error.injEq] at h
      omega
  · have e : exi cl ags ls 11 a ni st l nx = (match bin 11 (st.getD 1 0) (st.getD 0 0) with | some (z, E) => if E = 0 then .ok (z :: st.drop 2, nx) else .error 104 | none => .error 0) := rfl
    obtain ⟨z, E, hb⟩ : ∃ z E, bin 11 (st.getD 1 0) (st.getD 0 0) = some (z, E) := ⟨_, _, rfl⟩
    have hz := V.vbin (getD_lt hB0 hst 1) (getD_lt hB0 hst 0) hb
    rw [e, hb]
    simp only
    split
    · refine ⟨fun st' nx' h => ?_, fun E h => by cases h⟩
      simp only [Except.ok.injEq, Prod.mk.injEq] at h
      obtain ⟨rfl, rfl⟩ := h
      exact ⟨cons_lt hz (drop_lt hst 2), by simp [tT, lT] at ht ⊢, hnx⟩
    · refine ⟨fun st' nx' h => (by cases h), fun E h => ?_⟩
      simp only [Except.error.injEq] at h
      omega
  · have e : exi cl ags ls 12 a ni st l nx = .ok ((if decide (st.getD 1 0 = st.getD 0 0) = true then 1 else 0) :: st.drop 2, nx) := rfl
    rw [e]
    refine ⟨fun st' nx' h => ?_, fun E h => by cases h⟩
    simp only [Except.ok.injEq, Prod.mk.injEq] at h
    obtain ⟨rfl, rfl⟩ := h
    exact ⟨cons_lt (bit_lt hB1 _) (drop_lt hst 2), by simp [tT, lT] at ht ⊢; try omega, hnx⟩
  · have e : exi cl ags ls 13 a ni st l nx = .ok ((if decide (st.getD 0 0 = 0) = true then 1 else 0) :: st.drop 1, nx) := rfl
    rw [e]
    refine ⟨fun st' nx' h => ?_, fun E h => by cases h⟩
    simp only [Except.ok.injEq, Prod.mk.injEq] at h
    obtain ⟨rfl, rfl⟩ := h
    exact ⟨cons_lt (bit_lt hB1 _) (drop_lt hst 1), by simp [tT, lT] at ht ⊢; try omega, hnx⟩
  · have e : exi cl ags ls 14 a ni st l nx = .ok (st, stf ls ni - 1) := rfl
    rw [e]
    refine ⟨fun st' nx' h => ?_, fun E h => by cases h⟩
    simp only [Except.ok.injEq, Prod.mk.injEq] at h
    obtain ⟨rfl, rfl⟩ := h
    exact ⟨hst, by simp [tT, lT] at ht ⊢; try omega, hsf⟩
  · have e : exi cl ags ls 15 a ni st l nx = .ok (st.drop 1, if st.getD 0 0 = 0 then nx else stf ls ni - 1) := rfl
    rw [e]
    refine ⟨fun st' nx' h => ?_, fun E h => by cases h⟩
    simp only [Except.ok.injEq, Prod.mk.injEq] at h
    obtain ⟨rfl, rfl⟩ := h
    exact ⟨drop_lt hst 1, by simp [tT, lT] at ht ⊢; try omega, by split; exact hnx; exact hsf⟩
  · have e : exi cl ags ls 16 a ni st l nx = .ok (ags.getD ni 0 :: st, nx) := rfl
    rw [e]
    refine ⟨fun st' nx' h => ?_, fun E h => by cases h⟩
    simp only [Except.ok.injEq, Prod.mk.injEq] at h
    obtain ⟨rfl, rfl⟩ := h
    exact ⟨cons_lt (getD_lt hB0 V.vag ni) hst, by simp [tT, lT] at ht ⊢; try omega, hnx⟩
  · have e : exi cl ags ls 17 a ni st l nx = .ok (ags.length :: st, nx) := rfl
    rw [e]
    refine ⟨fun st' nx' h => ?_, fun E h => by cases h⟩
    simp only [Except.ok.injEq, Prod.mk.injEq] at h
    obtain ⟨rfl, rfl⟩ := h
    exact ⟨cons_lt (Nat.lt_of_le_of_lt V.al (Nat.lt_trans (by decide) V.one)) hst, by simp [tT, lT] at ht ⊢; try omega, hnx⟩
  · have e : exi cl ags ls 18 a ni st l nx = .ok (nb cl.cr :: st, nx) := rfl
    rw [e]
    refine ⟨fun st' nx' h => ?_, fun E h => by cases h⟩
    simp only [Except.ok.injEq, Prod.mk.injEq] at h
    obtain ⟨rfl, rfl⟩ := h
    exact ⟨cons_lt (V.vnb _) hst, by simp [tT, lT] at ht ⊢; try omega, hnx⟩
  · have e : exi cl ags ls 19 a ni st l nx = .ok (nb cl.sf :: st, nx) := rfl
    rw [e]
    refine ⟨fun st' nx' h => ?_, fun E h => by cases h⟩
    simp only [Except.ok.injEq, Prod.mk.injEq] at h
    obtain ⟨rfl, rfl⟩ := h
    exact ⟨cons_lt (V.vnb _) hst, by simp [tT, lT] at ht ⊢; try omega, hnx⟩
  · have e : exi cl ags ls 20 a ni st l nx = .ok (cl.tok :: st, nx) := rfl
    rw [e]
    refine ⟨fun st' nx' h => ?_, fun E h => by cases h⟩
    simp only [Except.ok.injEq, Prod.mk.injEq] at h
    obtain ⟨rfl, rfl⟩ := h
    exact ⟨cons_lt (V.tok) hst, by simp [tT, lT] at ht ⊢; try omega, hnx⟩
  · have e : exi cl ags ls 21 a ni st l nx = .ok (cl.amt :: st, nx) := rfl
    rw [e]
    refine ⟨fun st' nx' h => ?_, fun E h => by cases h⟩
    simp only [Except.ok.injEq, Prod.mk.injEq] at h
    obtain ⟨rfl, rfl⟩ := h
    exact ⟨cons_lt (V.amt) hst, by simp [tT, lT] at ht ⊢; try omega, hnx⟩
  · have e : exi cl ags ls 22 a ni st l nx = .ok (cl.tm :: st, nx) := rfl
    rw [e]
    refine ⟨fun st' nx' h => ?_, fun E h => by cases h⟩
    simp only [Except.ok.injEq, Prod.mk.injEq] at h
    obtain ⟨rfl, rfl⟩ := h
    exact ⟨cons_lt (V.tm) hst, by simp [tT, lT] at ht ⊢; try omega, hnx⟩
  · have e : exi cl ags ls 23 a ni st l nx = .ok (l :: st, nx) := rfl
    rw [e]
    refine ⟨fun st' nx' h => ?_, fun E h => by cases h⟩
    simp only [Except.ok.injEq, Prod.mk.injEq] at h
    obtain ⟨rfl, rfl⟩ := h
    exact ⟨cons_lt (Nat.lt_of_le_of_lt hl (Nat.lt_trans (by decide) V.one)) hst, by simp [tT, lT] at ht ⊢; try omega, hnx⟩
theorem rp_lt {B : Nat} (hB : 0 < B) {rs : List (Nat × Int)} (h : ∀ p ∈ rs, p.1 < B) (i : Nat) : (rs.getD i (0, 0)).1 < B := by
  rw [List.getD_eq_getElem?_getD]
  cases e : rs[i]? with
  | none => exact hB
  | some v => exact h v (List.mem_of_getElem? e)
theorem exh_inv {B : Nat} {cl : Cl} {ags : List Nat} {ls : List Ins} {rs : List (Nat × Int)} (V : Vals B cl ags ls rs) (c ni : Nat) (hc : c = 24 ∨ c = 25 ∨ c = 26 ∨ c = 27) (st : List Nat) (hst : ∀ a ∈ st, a < B) (ht : tT c ni ≤ st.length) (nx nq : Nat) (hnx : nx ≤ ls.length) :
    (∀ st' nx', (exh rs c st nx nq).1 = .ok (st', nx') → (∀ u ∈ st', u < B) ∧ st'.length = st.length - tT c ni + lT c ni ∧ nx' ≤ ls.length) ∧ (∀ E, (exh rs c st nx nq).1 = .error E → E ≠ 0) := by
  have hB0 : 0 < B := Nat.lt_trans (by decide) V.one
  have hr := rp_lt hB0 V.vrs nq
  obtain ⟨v, E, hvE⟩ : ∃ v E, rs.getD nq (0, 0) = (v, E) := ⟨_, _, rfl⟩
  rw [hvE] at hr
  have done : ∀ (st2 : List Nat), (∀ u ∈ st2, u < B) → st2.length = st.length - tT c ni + lT c ni → (∀ st' nx', (if E = 0 then Except.ok (st2, nx) else .error E : Except Int (List Nat × Nat)) = .ok (st', nx') → (∀ u ∈ st', u < B) ∧ st'.length = st.length - tT c ni + lT c ni ∧ nx' ≤ ls.length) ∧ (∀ E', (if E = 0 then Except.ok (st2, nx) else .error E : Except Int (List Nat × Nat)) = .error E' → E' ≠ 0) := fun st2 h1 h2 => by
    split
    · refine ⟨fun st' nx' h => ?_, fun E h => by cases h⟩
      simp only [Except.ok.injEq, Prod.mk.injEq] at h
      obtain ⟨rfl, rfl⟩ := h
      exact ⟨h1, h2, hnx⟩
    · rename_i hE
      refine ⟨fun st' nx' h => (by cases h), fun E' h => ?_⟩
      simp only [Except.error.injEq] at h
      rw [← h]
      exact hE
  have no : (∀ st' nx', (Except.error 104 : Except Int (List Nat × Nat)) = .ok (st', nx') → (∀ u ∈ st', u < B) ∧ st'.length = st.length - tT c ni + lT c ni ∧ nx' ≤ ls.length) ∧ (∀ E', (Except.error 104 : Except Int (List Nat × Nat)) = .error E' → E' ≠ 0) := ⟨fun st' nx' h => (by cases h), fun E' h => by simp only [Except.error.injEq] at h; omega⟩
  unfold exh
  rw [hvE]
  rcases hc with rfl | rfl | rfl | rfl
  · rw [if_pos rfl]
    exact done _ (cons_lt hr (drop_lt hst 1)) (by simp [tT, lT] at ht ⊢)
  · rw [if_neg (by decide), if_pos rfl]
    exact done _ (drop_lt hst 2) (by simp [tT, lT] at ht ⊢)
  · rw [if_neg (by decide), if_neg (by decide), if_pos rfl]
    split
    · exact done _ (cons_lt hr (drop_lt hst 2)) (by simp [tT, lT] at ht ⊢)
    · exact no
  · rw [if_neg (by decide), if_neg (by decide), if_neg (by decide)]
    split
    · exact done _ (drop_lt hst 3) (by simp [tT, lT] at ht ⊢)
    · exact no
/-- What one step keeps. -/
theorem stU_inv {B : Nat} {cl : Cl} {ags : List Nat} {ls : List Ins} {rs : List (Nat × Int)} (V : Vals B cl ags ls rs) (x : Ins) (hx : x ∈ ls) (hc : x.c < 28) (st : List Nat) (hst : ∀ a ∈ st, a < B) (l nx nq : Nat) (hl : l ≤ 10000) (hnx : nx + 1 ≤ ls.length) :
    (∀ st' nx', (stU cl ags ls rs x st l nx nq).1 = .ok (st', nx') → (∀ u ∈ st', u < B) ∧ st'.length ≤ 64 ∧ nx' ≤ ls.length) ∧ (∀ E, (stU cl ags ls rs x st l nx nq).1 = .error E → E ≠ 0) := by
  unfold stU
  split
  · exact ⟨fun st' nx' h => (by cases h), fun E' h => by simp only [Except.error.injEq] at h; omega⟩
  split
  · exact ⟨fun st' nx' h => (by cases h), fun E' h => by simp only [Except.error.injEq] at h; omega⟩
  rename_i h1 h2
  have ht : tT x.c x.n ≤ st.length := by omega
  have hm : st.length - tT x.c x.n + lT x.c x.n ≤ 64 := by omega
  split
  · rename_i h3
    refine ⟨fun st' nx' h => ?_, fun E' h => (by cases h)⟩
    simp only [Except.ok.injEq, Prod.mk.injEq] at h
    obtain ⟨rfl, rfl⟩ := h
    refine ⟨drop_lt hst 1, ?_, hnx⟩
    rw [h3] at hm ht
    simp [tT, lT] at hm ht ⊢
    omega
  rename_i h3
  split
  · rename_i h4
    have q := exi_inv V x.c x.a x.n (V.vls x hx) (V.jmp x hx) h4 h3 st hst ht (l - gT x.c) (nx + 1) (by omega) hnx
    refine ⟨fun st' nx' h => ?_, q.2⟩
    have := q.1 st' nx' h
    exact ⟨this.1, by rw [this.2.1]; exact hm, this.2.2⟩
  rename_i h4
  have q := exh_inv V x.c x.n (by omega) st hst ht (nx + 1) nq hnx
  refine ⟨fun st' nx' h => ?_, q.2⟩
  have := q.1 st' nx' h
  exact ⟨this.1, by rw [this.2.1]; exact hm, this.2.2⟩

end Go.Proofs.Ytabcglakdlkdcaa
