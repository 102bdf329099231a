/-
  the host: Load, Save, Have, Send.
-/
import Derived.Test.YtabcglakdlkdcaaMkFa
import Derived.Test.YtabcglakdlkdcaaMkFd

namespace Go.Proofs.Ytabcglakdlkdcaa
open Go Go.RowKit
open Sha
open Wd

theorem getD_lt {B : Nat} (hB : 0 < B) {st : List Nat} (h : ∀ a ∈ st, a < B) (i : Nat) : st.getD i 0 < B := by
  rw [List.getD_eq_getElem?_getD]
  cases e : st[i]? with
  | none => exact hB
  | some v => exact h v (List.mem_of_getElem? e)
theorem cons_lt {B a : Nat} {st : List Nat} (ha : a < B) (h : ∀ a ∈ st, a < B) : ∀ u ∈ a :: st, u < B := fun u hu => by
  rcases List.mem_cons.1 hu with rfl | hu
  · exact ha
  · exact h u hu
theorem drop_lt {B : Nat} {st : List Nat} (h : ∀ a ∈ st, a < B) (n : Nat) : ∀ u ∈ st.drop n, u < B := fun u hu => h u (List.mem_of_mem_drop hu)
theorem set_lt {B a : Nat} {st : List Nat} (ha : a < B) (h : ∀ a ∈ st, a < B) (n : Nat) : ∀ u ∈ st.set n a, u < B := fun u hu => by
  rcases List.mem_or_eq_of_mem_set hu with hu | rfl
  · exact h u hu
  · exact ha
theorem bit_lt {B : Nat} (hB : 1 < B) (b : Bool) : (if b = true then 1 else 0) < B := by cases b <;> simp <;> omega
/-- What holds of the numbers that a call and a program have. -/
structure Vals (B : Nat) (cl : Cl) (ags : List Nat) (ls : List Ins) (rs : List (Nat × Int)) : Prop where
  one : 10001 < B
  vbin : ∀ {c x y z : Nat} {E : Int}, x < B → y < B → bin c x y = some (z, E) → z < B
  vag : ∀ a ∈ ags, a < B
  al : ags.length ≤ 8
  vnb : ∀ b : List (BitVec 8), nb b < B
  tok : cl.tok < B
  amt : cl.amt < B
  tm : cl.tm < B
  vls : ∀ y ∈ ls, y.a < B
  vrs : ∀ p ∈ rs, p.1 < B
  jmp : ∀ y ∈ ls, y.c = 14 ∨ y.c = 15 → stf ls y.n ≠ 0
theorem exi_inv {B : Nat} {cl : Cl} {ags : List Nat} {ls : List Ins} {rs : List (Nat × Int)} (V : Vals B cl ags ls rs) (c a ni : Nat) (ha : a < B) (hj : c = 14 ∨ c = 15 → stf ls ni ≠ 0) (hc : c < 24) (hc1 : c ≠ 1) (st : List Nat) (hst : ∀ a ∈ st, a < B) (ht : tT c ni ≤ st.length) (l nx : Nat) (hl : l ≤ 10000) (hnx : nx ≤ ls.length) :
    (∀ st' nx', exi cl ags ls c a ni st l nx = .ok (st', nx') → (∀ u ∈ st', u < B) ∧ st'.length = st.length - tT c ni + lT c ni ∧ nx' ≤ ls.length) ∧ (∀ E, exi cl ags ls c a ni st l nx = .error E → E ≠ 0) := by
  have hB0 : 0 < B := Nat.lt_trans (by decide) V.one
  have hB1 : 1 < B := Nat.lt_trans (by decide) V.one
  have hsf : stf ls ni - 1 ≤ ls.length := by have := stf_le ls ni; omega
  rcases (show c = 0 ∨ c = 2 ∨ c = 3 ∨ c = 4 ∨ c = 5 ∨ c = 6 ∨ c = 7 ∨ c = 8 ∨ c = 9 ∨ c = 10 ∨ c = 11 ∨ c = 12 ∨ c = 13 ∨ c = 14 ∨ c = 15 ∨ c = 16 ∨ c = 17 ∨ c = 18 ∨ c = 19 ∨ c = 20 ∨ c = 21 ∨ c = 22 ∨ c = 23 by omega) with rfl | rfl | rfl | rfl | rfl | rfl | rfl | rfl | rfl | rfl | rfl | rfl | rfl | rfl | rfl | rfl | rfl | rfl | rfl | rfl | rfl | rfl | rfl
  · have e : exi cl ags ls 0 a ni st l nx = .error 105 := rfl
    rw [e]
    refine ⟨fun st' nx' h => (by cases h), fun E h => ?_⟩
    simp only [Except.error.injEq] at h
    omega
  · have e : exi cl ags ls 2 a ni st l nx = .ok (a :: st, nx) := rfl
    rw [e]
    refine ⟨fun st' nx' h => ?_, fun E h => by cases h⟩
    simp only [Except.ok.injEq, Prod.mk.injEq] at h
    obtain ⟨rfl, rfl⟩ := h
    exact ⟨cons_lt ha hst, by simp [tT, lT] at ht ⊢; try omega, hnx⟩
  · have e : exi cl ags ls 3 a ni st l nx = .ok (st.drop 1, nx) := rfl
    rw [e]
    refine ⟨fun st' nx' h => ?_, fun E h => by cases h⟩
    simp only [Except.ok.injEq, Prod.mk.injEq] at h
    obtain ⟨rfl, rfl⟩ := h
    exact ⟨drop_lt hst 1, by simp [tT, lT] at ht ⊢; try omega, hnx⟩
  · have e : exi cl ags ls 4 a ni st l nx = .ok (st.getD ni 0 :: st, nx) := rfl
    rw [e]
    refine ⟨fun st' nx' h => ?_, fun E h => by cases h⟩
    simp only [Except.ok.injEq, Prod.mk.injEq] at h
    obtain ⟨rfl, rfl⟩ := h
    exact ⟨cons_lt (getD_lt hB0 hst ni) hst, by simp [tT, lT] at ht ⊢; try omega, hnx⟩
  · have e : exi cl ags ls 5 a ni st l nx = .ok ((st.set 0 (st.getD ni 0)).set ni (st.getD 0 0), nx) := rfl
    rw [e]
    refine ⟨fun st' nx' h => ?_, fun E h => by cases h⟩
    simp only [Except.ok.injEq, Prod.mk.injEq] at h
    obtain ⟨rfl, rfl⟩ := h
    exact ⟨set_lt (getD_lt hB0 hst 0) (set_lt (getD_lt hB0 hst ni) hst 0) ni, by simp [tT, lT] at ht ⊢; try omega, hnx⟩
  · have e : exi cl ags ls 6 a ni st l nx = (match bin 6 (st.getD 1 0) (st.getD 0 0) with | some (z, E) => if E = 0 then .ok (z :: st.drop 2, nx) else .error 104 | none => .error 0) := rfl
    obtain ⟨z, E, hb⟩ : ∃ z E, bin 6 (st.getD 1 0) (st.getD 0 0) = some (z, E) := ⟨_, _, rfl⟩
    have hz := V.vbin (getD_lt hB0 hst 1) (getD_lt hB0 hst 0) hb
    rw [e, hb]
    simp only
    split
    · refine ⟨fun st' nx' h => ?_, fun E h => by cases h⟩
      simp only [Except.ok.injEq, Prod.mk.injEq] at h
      obtain ⟨rfl, rfl⟩ := h
      exact ⟨cons_lt hz (drop_lt hst 2), by simp [tT, lT] at ht ⊢, hnx⟩
    · refine ⟨fun st' nx' h => (by cases h), fun E h => ?_⟩
      simp only [Except.error.injEq] at h
      omega
  · have e : exi cl ags ls 7 a ni st l nx = (match bin 7 (st.getD 1 0) (st.getD 0 0) with | some (z, E) => if E = 0 then .ok (z :: st.drop 2, nx) else .error 104 | none => .error 0) := rfl
    obtain ⟨z, E, hb⟩ : ∃ z E, bin 7 (st.getD 1 0) (st.getD 0 0) = some (z, E) := ⟨_, _, rfl⟩
    have hz := V.vbin (getD_lt hB0 hst 1) (getD_lt hB0 hst 0) hb
    rw [e, hb]
    simp only
    split
    · refine ⟨fun st' nx' h => ?_, fun E h => by cases h⟩
      simp only [Except.ok.injEq, Prod.mk.injEq] at h
      obtain ⟨rfl, rfl⟩ := h
      exact ⟨cons_lt hz (drop_lt hst 2), by simp [tT, lT] at ht ⊢, hnx⟩
    · refine ⟨fun st' nx' h => (by cases h), fun E h => ?_⟩
      simp only [Except.error.injEq] at h
      omega
  · have e : exi cl ags ls 8 a ni st l nx = (match bin 8 (st.getD 1 0) (st.getD 0 0) with | some (z, E) => if E = 0 then .ok (z :: st.drop 2, nx) else .error 104 | none => .error 0) := rfl
    obtain ⟨z, E, hb⟩ : ∃ z E, bin 8 (st.getD 1 0) (st.getD 0 0) = some (z, E) := ⟨_, _, rfl⟩
    have hz := V.vbin (getD_lt hB0 hst 1) (getD_lt hB0 hst 0) hb
    rw [e, hb]
    simp only
    split
    · refine ⟨fun st' nx' h => ?_, fun E h => by cases h⟩
      simp only [Except.ok.injEq, Prod.mk.injEq] at h
      obtain ⟨rfl, rfl⟩ := h
      exact ⟨cons_lt hz (drop_lt hst 2), by simp [tT, lT] at ht ⊢, hnx⟩
    · refine ⟨fun st' nx' h => (by cases h), fun E h => ?_⟩
      simp only [Except.error.injEq] at h
      omega
  · have e : exi cl ags ls 9 a ni st l nx = (match bin 9 (st.getD 1 0) (st.getD 0 0) with | some (z, E) => if E = 0 then .ok (z :: st.drop 2, nx) else .error 104 | none => .error 0) := rfl
    obtain ⟨z, E, hb⟩ : ∃ z E, bin 9 (st.getD 1 0) (st.getD 0 0) = some (z, E) := ⟨_, _, rfl⟩
    have hz := V.vbin (getD_lt hB0 hst 1) (getD_lt hB0 hst 0) hb
    rw [e, hb]
    simp only
    split
    · refine ⟨fun st' nx' h => ?_, fun E h => by cases h⟩
      simp only [Except.ok.injEq, Prod.mk.injEq] at h
      obtain ⟨rfl, rfl⟩ := h
      exact ⟨cons_lt hz (drop_lt hst 2), by simp [tT, lT] at ht ⊢, hnx⟩
    · refine ⟨fun st' nx' h => (by cases h), fun E h => ?_⟩
      simp only [Except.error.injEq] at h
      omega
  · have e : exi cl ags ls 10 a ni st l nx = (match bin 10 (st.getD 1 0) (st.getD 0 0) with | some (z, E) => if E = 0 then .ok (z :: st.drop 2, nx) else .error 104 | none => .error 0) := rfl
    obtain ⟨z, E, hb⟩ : ∃ z E, bin 10 (st.getD 1 0) (st.getD 0 0) = some (z, E) := ⟨_, _, rfl⟩
    have hz := V.vbin (getD_lt hB0 hst 1) (getD_lt hB0 hst 0) hb
    rw [e, hb]
    simp only
    split
    · refine ⟨fun st' nx' h => ?_, fun E h => by cases h⟩
      simp only [Except.ok.injEq, Prod.mk.injEq] at h
      obtain ⟨rfl, rfl⟩ := h
      exact ⟨cons_lt hz (drop_lt hst 2), by simp [tT, lT] at ht ⊢, hnx⟩
    · refine ⟨fun st' nx' h => (by cases h), fun E h => ?_⟩
      simp only [Except.error.injEq] at h
      omega
  · have e : exi cl ags ls 11 a ni st l nx = (match bin 11 (st.getD 1 0) (st.getD 0 0) with | some (z, E) => if E = 0 then .ok (z :: st.drop 2, nx) else .error 104 | none => .error 0) := rfl
    obtain ⟨z, E, hb⟩ : ∃ z E, bin 11 (st.getD 1 0) (st.getD 0 0) = some (z, E) := ⟨_, _, rfl⟩
    have hz := V.vbin (getD_lt hB0 hst 1) (getD_lt hB0 hst 0) hb
    rw [e, hb]
    simp only
    split
    · refine ⟨fun st' nx' h => ?_, fun E h => by cases h⟩
      simp only [Except.ok.injEq, Prod.mk.injEq] at h
      obtain ⟨rfl, rfl⟩ := h
      exact ⟨cons_lt hz (drop_lt hst 2), by simp [tT, lT] at ht ⊢, hnx⟩
    · refine ⟨fun st' nx' h => (by cases h), fun E h => ?_⟩
      simp only [Except.error.injEq] at h
      omega
  · have e : exi cl ags ls 12 a ni st l nx = .ok ((if decide (st.getD 1 0 = st.getD 0 0) = true then 1 else 0) :: st.drop 2, nx) := rfl
    rw [e]
    refine ⟨fun st' nx' h => ?_, fun E h => by cases h⟩
    simp only [Except.ok.injEq, Prod.mk.injEq] at h
    obtain ⟨rfl, rfl⟩ := h
    exact ⟨cons_lt (bit_lt hB1 _) (drop_lt hst 2), by simp [tT, lT] at ht ⊢; try omega, hnx⟩
  · have e : exi cl ags ls 13 a ni st l nx = .ok ((if decide (st.getD 0 0 = 0) = true then 1 else 0) :: st.drop 1, nx) := rfl
    rw [e]
    refine ⟨fun st' nx' h => ?_, fun E h => by cases h⟩
    simp only [Except.ok.injEq, Prod.mk.injEq] at h
    obtain ⟨rfl, rfl⟩ := h
    exact ⟨cons_lt (bit_lt hB1 _) (drop_lt hst 1), by simp [tT, lT] at ht ⊢; try omega, hnx⟩
  · have e : exi cl ags ls 14 a ni st l nx = .ok (st, stf ls ni - 1) := rfl
    rw [e]
    refine ⟨fun st' nx' h => ?_, fun E h => by cases h⟩
    simp only [Except.ok.injEq, Prod.mk.injEq] at h
    obtain ⟨rfl, rfl⟩ := h
    exact ⟨hst, by simp [tT, lT] at ht ⊢; try omega, hsf⟩
  · have e : exi cl ags ls 15 a ni st l nx = .ok (st.drop 1, if st.getD 0 0 = 0 then nx else stf ls ni - 1) := rfl
    rw [e]
    refine ⟨fun st' nx' h => ?_, fun E h => by cases h⟩
    simp only [Except.ok.injEq, Prod.mk.injEq] at h
    obtain ⟨rfl, rfl⟩ := h
    exact ⟨drop_lt hst 1, by simp [tT, lT] at ht ⊢; try omega, by split; exact hnx; exact hsf⟩
  · have e : exi cl ags ls 16 a ni st l nx = .ok (ags.getD ni 0 :: st, nx) := rfl
    rw [e]
    refine ⟨fun st' nx' h => ?_, fun E h => by cases h⟩
    simp only [Except.ok.injEq, Prod.mk.injEq] at h
    obtain ⟨rfl, rfl⟩ := h
    exact ⟨cons_lt (getD_lt hB0 V.vag ni) hst, by simp [tT, lT] at ht ⊢; try omega, hnx⟩
  · have e : exi cl ags ls 17 a ni st l nx = .ok (ags.length :: st, nx) := rfl
    rw [e]
    refine ⟨fun st' nx' h => ?_, fun E h => by cases h⟩
    simp only [Except.ok.injEq, Prod.mk.injEq] at h
    obtain ⟨rfl, rfl⟩ := h
    exact ⟨cons_lt (Nat.lt_of_le_of_lt V.al (Nat.lt_trans (by decide) V.one)) hst, by simp [tT, lT] at ht ⊢; try omega, hnx⟩
  · have e : exi cl ags ls 18 a ni st l nx = .ok (nb cl.cr :: st, nx) := rfl
    rw [e]
    refine ⟨fun st' nx' h => ?_, fun E h => by cases h⟩
    simp only [Except.ok.injEq, Prod.mk.injEq] at h
    obtain ⟨rfl, rfl⟩ := h
    exact ⟨cons_lt (V.vnb _) hst, by simp [tT, lT] at ht ⊢; try omega, hnx⟩
  · have e : exi cl ags ls 19 a ni st l nx = .ok (nb cl.sf :: st, nx) := rfl
    rw [e]
    refine ⟨fun st' nx' h => ?_, fun E h => by cases h⟩
    simp only [Except.ok.injEq, Prod.mk.injEq] at h
    obtain ⟨rfl, rfl⟩ := h
    exact ⟨cons_lt (V.vnb _) hst, by simp [tT, lT] at ht ⊢; try omega, hnx⟩
  · have e : exi cl ags ls 20 a ni st l nx = .ok (cl.tok :: st, nx) := rfl
    rw [e]
    refine ⟨fun st' nx' h => ?_, fun E h => by cases h⟩
    simp only [Except.ok.injEq, Prod.mk.injEq] at h
    obtain ⟨rfl, rfl⟩ := h
    exact ⟨cons_lt (V.tok) hst, by simp [tT, lT] at ht ⊢; try omega, hnx⟩
  · have e : exi cl ags ls 21 a ni st l nx = .ok (cl.amt :: st, nx) := rfl
    rw [e]
    refine ⟨fun st' nx' h => ?_, fun E h => by cases h⟩
    simp only [Except.ok.injEq, Prod.mk.injEq] at h
    obtain ⟨rfl, rfl⟩ := h
    exact ⟨cons_lt (V.amt) hst, by simp [tT, lT] at ht ⊢; try omega, hnx⟩
  · have e : exi cl ags ls 22 a ni st l nx = .ok (cl.tm :: st, nx) := rfl
    rw [e]
    refine ⟨fun st' nx' h => ?_, fun E h => by cases h⟩
    simp only [Except.ok.injEq, Prod.mk.injEq] at h
    obtain ⟨rfl, rfl⟩ := h
    exact ⟨cons_lt (V.tm) hst, by simp [tT, lT] at ht ⊢; try omega, hnx⟩
  · have e : exi cl ags ls 23 a ni st l nx = .ok (l :: st, nx) := rfl
    rw [e]
    refine ⟨fun st' nx' h => ?_, fun E h => by cases h⟩
    simp only [Except.ok.injEq, Prod.mk.injEq] at h
    obtain ⟨rfl, rfl⟩ := h
    exact ⟨cons_lt (Nat.lt_of_le_of_lt hl (Nat.lt_trans (by decide) V.one)) hst, by simp [tT, lT] at ht ⊢; try omega, hnx⟩
theorem rp_lt {B : Nat} (hB : 0 < B) {rs : List (Nat × Int)} (h : ∀ p ∈ rs, p.1 < B) (i : Nat) : (rs.getD i (0, 0)).1 < B := by
  rw [List.getD_eq_getElem?_getD]
  cases e : rs[i]? with
  | none => exact hB
  | some v => exact h v (List.mem_of_getElem? e)
theorem exh_inv {B : Nat} {cl : Cl} {ags : List Nat} {ls : List Ins} {rs : List (Nat × Int)} (V : Vals B cl ags ls rs) (c ni : Nat) (hc : c = 24 ∨ c = 25 ∨ c = 26 ∨ c = 27) (st : List Nat) (hst : ∀ a ∈ st, a < B) (ht : tT c ni ≤ st.length) (nx nq : Nat) (hnx : nx ≤ ls.length) :
    (∀ st' nx', (exh rs c st nx nq).1 = .ok (st', nx') → (∀ u ∈ st', u < B) ∧ st'.length = st.length - tT c ni + lT c ni ∧ nx' ≤ ls.length) ∧ (∀ E, (exh rs c st nx nq).1 = .error E → E ≠ 0) := by
  have hB0 : 0 < B := Nat.lt_trans (by decide) V.one
  have hr := rp_lt hB0 V.vrs nq
  obtain ⟨v, E, hvE⟩ : ∃ v E, rs.getD nq (0, 0) = (v, E) := ⟨_, _, rfl⟩
  rw [hvE] at hr
  have done : ∀ (st2 : List Nat), (∀ u ∈ st2, u < B) → st2.length = st.length - tT c ni + lT c ni → (∀ st' nx', (if E = 0 then Except.ok (st2, nx) else .error E : Except Int (List Nat × Nat)) = .ok (st', nx') → (∀ u ∈ st', u < B) ∧ st'.length = st.length - tT c ni + lT c ni ∧ nx' ≤ ls.length) ∧ (∀ E', (if E = 0 then Except.ok (st2, nx) else .error E : Except Int (List Nat × Nat)) = .error E' → E' ≠ 0) := fun st2 h1 h2 => by
    split
    · refine ⟨fun st' nx' h => ?_, fun E h => by cases h⟩
      simp only [Except.ok.injEq, Prod.mk.injEq] at h
      obtain ⟨rfl, rfl⟩ := h
      exact ⟨h1, h2, hnx⟩
    · rename_i hE
      refine ⟨fun st' nx' h => (by cases h), fun E' h => ?_⟩
      simp only [Except.error.injEq] at h
      rw [← h]
      exact hE
  have no : (∀ st' nx', (Except.error 104 : Except Int (List Nat × Nat)) = .ok (st', nx') → (∀ u ∈ st', u < B) ∧ st'.length = st.length - tT c ni + lT c ni ∧ nx' ≤ ls.length) ∧ (∀ E', (Except.error 104 : Except Int (List Nat × Nat)) = .error E' → E' ≠ 0) := ⟨fun st' nx' h => (by cases h), fun E' h => by simp only [Except.error.injEq] at h; omega⟩
  unfold exh
  rw [hvE]
  rcases hc with rfl | rfl | rfl | rfl
  · rw [if_pos rfl]
    exact done _ (cons_lt hr (drop_lt hst 1)) (by simp [tT, lT] at ht ⊢)
  · rw [if_neg (by decide), if_pos rfl]
    exact done _ (drop_lt hst 2) (by simp [tT, lT] at ht ⊢)
  · rw [if_neg (by decide), if_neg (by decide), if_pos rfl]
    split
    · exact done _ (cons_lt hr (drop_lt hst 2)) (by simp [tT, lT] at ht ⊢)
    · exact no
  · rw [if_neg (by decide), if_neg (by decide), if_neg (by decide)]
    split
    · exact done _ (drop_lt hst 3) (by simp [tT, lT] at ht ⊢)
    · exact no
/-- What one step keeps. -/
theorem stU_inv {B : Nat} {cl : Cl} {ags : List Nat} {ls : List Ins} {rs : List (Nat × Int)} (V : Vals B cl ags ls rs) (x : Ins) (hx : x ∈ ls) (hc : x.c < 28) (st : List Nat) (hst : ∀ a ∈ st, a < B) (l nx nq : Nat) (hl : l ≤ 10000) (hnx : nx + 1 ≤ ls.length) :
    (∀ st' nx', (stU cl ags ls rs x st l nx nq).1 = .ok (st', nx') → (∀ u ∈ st', u < B) ∧ st'.length ≤ 64 ∧ nx' ≤ ls.length) ∧ (∀ E, (stU cl ags ls rs x st l nx nq).1 = .error E → E ≠ 0) := by
  unfold stU
  split
  · exact ⟨fun st' nx' h => (by cases h), fun E' h => by simp only [Except.error.injEq] at h; omega⟩
  split
  · exact ⟨fun st' nx' h => (by cases h), fun E' h => by simp only [Except.error.injEq] at h; omega⟩
  rename_i h1 h2
  have ht : tT x.c x.n ≤ st.length := by omega
  have hm : st.length - tT x.c x.n + lT x.c x.n ≤ 64 := by omega
  split
  · rename_i h3
    refine ⟨fun st' nx' h => ?_, fun E' h => (by cases h)⟩
    simp only [Except.ok.injEq, Prod.mk.injEq] at h
    obtain ⟨rfl, rfl⟩ := h
    refine ⟨drop_lt hst 1, ?_, hnx⟩
    rw [h3] at hm ht
    simp [tT, lT] at hm ht ⊢
    omega
  rename_i h3
  split
  · rename_i h4
    have q := exi_inv V x.c x.a x.n (V.vls x hx) (V.jmp x hx) h4 h3 st hst ht (l - gT x.c) (nx + 1) (by omega) hnx
    refine ⟨fun st' nx' h => ?_, q.2⟩
    have := q.1 st' nx' h
    exact ⟨this.1, by rw [this.2.1]; exact hm, this.2.2⟩
  rename_i h4
  have q := exh_inv V x.c x.n (by omega) st hst ht (nx + 1) nq hnx
  refine ⟨fun st' nx' h => ?_, q.2⟩
  have := q.1 st' nx' h
  exact ⟨this.1, by rw [this.2.1]; exact hm, this.2.2⟩

end Go.Proofs.Ytabcglakdlkdcaa

namespace Go.Proofs.Ytabcglakdlkdcaa
open Go Go.RowKit
open Sha
open Wd

/-- Behind a question. -/
def NxP (w : World) (hb : Nat) (rv qv iv : Value) (rs : List (Nat × Int)) (qs : List (List Value)) (inn : List (BitVec 8)) (q : List Value) (w' : World) : Prop := ∃ qv', Hst w' hb rv qv' iv rs (qs ++ [q]) inn ∧ Gro (Hq hb qv) w w' ∧ (∀ g, qv'.ownBlock = some g → qv.ownBlock = some g ∨ w.heap.size ≤ g)
def NextOK (inn : List (BitVec 8)) : Prop := ∀ (hb : Nat) (rv qv iv : Value) (rs : List (Nat × Int)) (qs : List (List Value)) (q : List Value), q.length = 30 → (∀ v ∈ q, v.oneCell' = true) → qs.length ≤ 1000 → ∀ w, Hst w hb rv qv iv rs qs inn → Calls Try.prog 109 #[.pointer (some ⟨hb, 0, none⟩), .agg q.toArray] w fun e w' => e = .returned (.tuple #[.agg (wq (rs.getD qs.length (0, 0)).1).toArray, .int .i64 (rs.getD qs.length (0, 0)).2]) ∧ NxP w hb rv qv iv rs qs inn q w'
theorem nextOK_nil : NextOK [] := fun hb rv qv iv rs qs q h1 h2 h3 w H => by
  refine Calls.mono (next_nil hb rv qv iv rs qs q h1 h2 h3 w H) ?_
  rintro e w' ⟨qv', q1, q2⟩
  exact ⟨q1, qv', q2⟩
section
variable {w X Y : World} {hb : Nat} {rv qv iv : Value} {rs : List (Nat × Int)} {qs : List (List Value)} {inn : List (BitVec 8)} {q : List Value}
theorem NxP.of (k : Below w.heap.size w X) (h : NxP X hb rv qv iv rs qs inn q Y) : NxP w hb rv qv iv rs qs inn q Y := by
  obtain ⟨qv', h1, h2, h3⟩ := h
  exact ⟨qv', h1, (Gro.of_below k).trans h2, fun g e => (h3 g e).imp id (fun z => Nat.le_trans k.size z)⟩
theorem NxP.be (h : NxP w hb rv qv iv rs qs inn q X) (k : Below X.heap.size X Y) : NxP w hb rv qv iv rs qs inn q Y := by
  obtain ⟨qv', h1, h2, h3⟩ := h
  exact ⟨qv', h1.below k, h2.below k, h3⟩
theorem NxP.own (h : NxP w hb rv qv iv rs qs inn q X) {b : Nat} {cs : List Value} (k : Gro (· = b) X Y) (r : Row X b cs 27) (hl : w.heap.size ≤ b) : NxP w hb rv qv iv rs qs inn q Y := by
  obtain ⟨qv', h1, h2, h3⟩ := h
  have kh : Kh X Y := fun bb cs t ht rr => k.row rr (fun e => by
    have hne : t ≠ 27 := by rcases ht with h | h | h | h <;> rw [h] <;> decide
    exact row_ne2 rr r hne e)
  exact ⟨qv', h1.kh kh, h2.then k (fun g e => .inr (by rw [e]; exact hl)), h3⟩
theorem NxP.row (h : NxP w hb rv qv iv rs qs inn q X) (H : Hst w hb rv qv iv rs qs inn) {b : Nat} {cs : List Value} {t : TypeId} (h1 : t ≠ tHo) (h2 : t ≠ tAk) (r : Row w b cs t) : Row X b cs t := by
  obtain ⟨qv', _, k, _⟩ := h
  refine k.row r fun e => ?_
  rcases e with e | e
  · exact row_ne2 r H.row h1 e
  · exact Lw.ne H.own r h2 b e rfl
end
section
variable {ops : Array Oper} {rest : List Oper} {op : Oper} {a : Act} {w : World} {Q : Exit → Act → World → Prop}
theorem wpList_bltH (hgd : op.guard = none) (ty : TypeId) (parts : Array (Nat × Operand)) (ho : op.op = .build ty parts) (vals : List (Nat × Value)) (hv : (parts.toList.map fun (p : Nat × Operand) => match p with | (i, x) => (i, a.eval x)) = vals) (L : List Value) (hr : Try.prog.built ty vals = some L.toArray) (h : wpList Try.prog ops Q rest (a.put op.dst (.agg L.toArray)) w) : wpList Try.prog ops Q (op :: rest) a w := by
  have hr := run_build (P := Try.prog) w ty vals.toArray _ hr
  have hv2 : (parts.map fun (p : Nat × Operand) => match p with | (i, x) => (i, a.eval x)) = vals.toArray := by
    apply Array.toList_inj.1
    rw [Array.toList_map]
    exact hv
  refine wpList_plain hgd fun K hK => ?_
  unfold Oper.wp execOp
  simp only [ho, hv2, Sem.run_bind, hr, Result.andThen_ok, Sem.run_pure, Oper.upon_value]
  exact hK _ _ h
end
theorem len20 {l : List Value} (h : l.length = 20) : ∃ u0 u1 u2 u3 u4 u5 u6 u7 u8 u9 u10 u11 u12 u13 u14 u15 u16 u17 u18 u19, l = [u0, u1, u2, u3, u4, u5, u6, u7, u8, u9, u10, u11, u12, u13, u14, u15, u16, u17, u18, u19] := by
  match l, h with
  | [u0, u1, u2, u3, u4, u5, u6, u7, u8, u9, u10, u11, u12, u13, u14, u15, u16, u17, u18, u19], _ => exact ⟨_, _, _, _, _, _, _, _, _, _, _, _, _, _, _, _, _, _, _, _, rfl⟩
theorem built_ld (x : Nat) : Try.prog.built tAk [(0, .int .i64 1), (1, .agg (wq x).toArray)] = some (aq 1 x 0 0 z20).toArray := by kernel_rfl
theorem built_sv (x y : Nat) : Try.prog.built tAk [(0, .int .i64 2), (1, .agg (wq x).toArray), (2, .agg (wq y).toArray)] = some (aq 2 x y 0 z20).toArray := by kernel_rfl
theorem built_hv (t : Nat) (who : List Value) (h : who.length = 20) : Try.prog.built tAk [(0, .int .i64 3), (3, .int .i64 (t : Int)), (4, .agg who.toArray)] = some (aq 3 0 0 t who).toArray := by
  obtain ⟨u0, u1, u2, u3, u4, u5, u6, u7, u8, u9, u10, u11, u12, u13, u14, u15, u16, u17, u18, u19, rfl⟩ := len20 h
  kernel_rfl
theorem built_sd (t x : Nat) (who : List Value) (h : who.length = 20) : Try.prog.built tAk [(0, .int .i64 4), (3, .int .i64 (t : Int)), (4, .agg who.toArray), (1, .agg (wq x).toArray)] = some (aq 4 x 0 t who).toArray := by
  obtain ⟨u0, u1, u2, u3, u4, u5, u6, u7, u8, u9, u10, u11, u12, u13, u14, u15, u16, u17, u18, u19, rfl⟩ := len20 h
  kernel_rfl
theorem aq_one (k a b t : Nat) (who : List Value) (h : ∀ v ∈ who, v.oneCell' = true) : ∀ v ∈ aq k a b t who, v.oneCell' = true := fun v hv => by
  unfold aq at hv
  rcases List.mem_cons.1 hv with rfl | hv
  · rfl
  rcases List.mem_append.1 hv with hv | hv
  · exact wq_mem a v hv
  rcases List.mem_append.1 hv with hv | hv
  · exact wq_mem b v hv
  rcases List.mem_cons.1 hv with rfl | hv
  · rfl
  · exact h v hv
theorem z20_one : ∀ v ∈ z20, v.oneCell' = true := fun v hv => by
  obtain rfl := List.eq_of_mem_replicate hv
  rfl
theorem adr_mem (x : Nat) : ∀ v ∈ adr x, v.oneCell' = true := fun v hv => vU_one _ v (List.mem_of_mem_drop hv)
set_option maxRecDepth 100000 in
set_option maxHeartbeats 4000000 in
theorem load_n {inn : List (BitVec 8)} (HN : NextOK inn) (hb : Nat) (rv qv iv : Value) (rs : List (Nat × Int)) (qs : List (List Value)) (x : Nat) (hn : qs.length ≤ 1000) (w : World) (H : Hst w hb rv qv iv rs qs inn) : Calls Try.prog 106 #[.pointer (some ⟨hb, 0, none⟩), .agg (wq x).toArray] w fun e w' => e = .returned (.tuple #[.agg (wq (rs.getD qs.length (0, 0)).1).toArray, .int .i64 (rs.getD qs.length (0, 0)).2]) ∧ NxP w hb rv qv iv rs qs inn (aq 1 x 0 0 z20) w' := by
  obtain ⟨LX, hLX⟩ : ∃ L, L = wq x := ⟨_, rfl⟩
  have HIX : Hid ((Try.prog.info? 27).map (·.size) = some LX.length) := by rw [hLX]; exact info_Wq _
  rw [← hLX]
  obtain ⟨q, hq⟩ : ∃ q, q = aq 1 x 0 0 z20 := ⟨_, rfl⟩
  obtain ⟨rp, hrp⟩ : ∃ p, p = rs.getD qs.length (0, 0) := ⟨_, rfl⟩
  obtain ⟨LV, hLV⟩ : ∃ L, L = wq rp.1 := ⟨_, rfl⟩
  obtain ⟨E, hE⟩ : ∃ E, E = rp.2 := ⟨_, rfl⟩
  have HLI : Hid ((Try.prog.info? 27).map (·.size) = some LV.length ∧ LV.length = zW.length ∧ LV.toArray.all (·.oneCell') = true) := by rw [hLV]; exact ⟨info_Wq _, wq_len _, wq_one _⟩
  have HNX : Hid (∀ X, Below w.heap.size w X → Calls Try.prog 109 #[.pointer (some ⟨hb, 0, none⟩), .agg q.toArray] X fun e w' => e = .returned (.tuple #[.agg LV.toArray, .int .i64 E]) ∧ NxP X hb rv qv iv rs qs inn q w') := fun X k => by
    rw [hLV, hE, hrp]
    exact HN hb rv qv iv rs qs q (by rw [hq]; exact aq_len _ _ _ _ _ (by simp)) (by rw [hq]; exact aq_one _ _ _ _ _ z20_one) hn X (H.below k)
  have HBU : Hid (Try.prog.built tAk [(0, .int .i64 1), (1, .agg LX.toArray)] = some q.toArray) := by show _ = _; rw [hq]; rw [hLX]; exact built_ld x
  have HHO : Hid (Hst w hb rv qv iv rs qs inn) := H
  rw [← hrp, ← hE, ← hq]
  rw [← hLV]
  clear HN H hn hrp hE hq hLV
  go_enter Try.func106, Try.ntmps106
  go_upto_region 1 with (first
    | (refine wpList_boxG 27 rfl (.tmp 1) rfl LX rfl ?_; intro X1 q1 q2 q3; have R1 : Hid (Row X1 w.heap.size LX 27) := q1; have B1 : Hid (Below w.heap.size w X1) := q2; clear q1 q2 q3; simp only [Act.put, List.setIfInBounds_toArray, List.set_cons_zero, List.set_cons_succ])
    | (refine wpList_allocW rfl rfl ?_; intro X2 q1 q2 q3; have R2 : Hid (Row X2 X1.heap.size zW 27) := q1; have B2 : Hid (Below X1.heap.size X1 X2) := q2; clear q1 q2 q3; simp only [Act.put, List.setIfInBounds_toArray, List.set_cons_zero, List.set_cons_succ]))
  obtain ⟨b1, hb1⟩ : ∃ b, b = w.heap.size := ⟨_, rfl⟩
  obtain ⟨b2, hb2⟩ : ∃ b, b = X1.heap.size := ⟨_, rfl⟩
  have C1 : Hid (Below w.heap.size w X1) := B1.out
  have C2 : Hid (Below w.heap.size w X2) := C1.out.trans (B2.out.mono C1.out.size)
  have S1 : Hid (Row X2 b1 LX 27) := by rw [hb1]; exact Row.below (R1.out) B2.out (R1.out).lt
  have M1 : Hid (w.heap.size ≤ b1) := by show _ ≤ _; rw [hb1]; exact Nat.le_refl _
  have S2 : Hid (Row X2 b2 zW 27) := by rw [hb2]; exact R2.out
  have M2 : Hid (w.heap.size ≤ b2) := by show _ ≤ _; rw [hb2]; exact C1.out.size
  have HC : Hid _ := HNX.out X2 C2.out
  rw [← hb1, ← hb2]
  clear hb1 R1 B1 hb2 R2 B2 HNX
  go_wp2_with (first
    | (refine wpList_load_w rfl 27 (.tmp 3) rfl b1 0 rfl LX _ S1.out.all Try.underlying27 rfl HIX.out ?_; simp only [Act.put, List.setIfInBounds_toArray, List.set_cons_zero, List.set_cons_succ])
    | (refine wpList_bltH rfl tAk _ rfl [(0, .int .i64 1), (1, .agg LX.toArray)] (rfl) q HBU.out ?_; simp only [Act.put, List.setIfInBounds_toArray, List.set_cons_zero, List.set_cons_succ])
    | (go_at_call 109; refine Calls.mono HC.out ?_; rintro e Y ⟨rfl, p⟩; have HP : Hid (NxP w hb rv qv iv rs qs inn q Y) := p.of C2.out; have Z2 : Hid (Row Y b2 zW 27) := p.row (HHO.out.below C2.out) (by decide) (by decide) S2.out; clear p)
    | (refine wpList_storeL rfl 27 (.tmp 4) (.tmp 10) rfl b2 LV zW 27 rfl rfl Z2.out HLI.out.2.1 HLI.out.1 HLI.out.2.2 ?_; intro Y2 q1 q2; have E2 : Hid (Y2 = _) := q1; have R9 : Hid (Row Y2 b2 LV 27) := q2; clear q1 q2; simp only [Act.put]))
  exact bodyPost_ret (results_row_tmp Try.results106 _ _ b2 27 LV (.int .i64 E) rfl rfl R9.out Try.underlying27 info_w4 HLI.out.2.1) rfl ⟨rfl, by rw [E2.out]; exact HP.out.own (gro_setCells b2 _ 0 Y Y (Gro.refl _ Y)) Z2.out M2.out⟩
set_option maxRecDepth 100000 in
set_option maxHeartbeats 4000000 in
theorem save_n {inn : List (BitVec 8)} (HN : NextOK inn) (hb : Nat) (rv qv iv : Value) (rs : List (Nat × Int)) (qs : List (List Value)) (x y : Nat) (hn : qs.length ≤ 1000) (w : World) (H : Hst w hb rv qv iv rs qs inn) : Calls Try.prog 107 #[.pointer (some ⟨hb, 0, none⟩), .agg (wq x).toArray, .agg (wq y).toArray] w fun e w' => e = .returned (.int .i64 (rs.getD qs.length (0, 0)).2) ∧ NxP w hb rv qv iv rs qs inn (aq 2 x y 0 z20) w' := by
  obtain ⟨LX, hLX⟩ : ∃ L, L = wq x := ⟨_, rfl⟩
  have HIX : Hid ((Try.prog.info? 27).map (·.size) = some LX.length) := by rw [hLX]; exact info_Wq _
  rw [← hLX]
  obtain ⟨LY, hLY⟩ : ∃ L, L = wq y := ⟨_, rfl⟩
  have HIY : Hid ((Try.prog.info? 27).map (·.size) = some LY.length) := by rw [hLY]; exact info_Wq _
  rw [← hLY]
  obtain ⟨q, hq⟩ : ∃ q, q = aq 2 x y 0 z20 := ⟨_, rfl⟩
  obtain ⟨rp, hrp⟩ : ∃ p, p = rs.getD qs.length (0, 0) := ⟨_, rfl⟩
  obtain ⟨LV, hLV⟩ : ∃ L, L = wq rp.1 := ⟨_, rfl⟩
  obtain ⟨E, hE⟩ : ∃ E, E = rp.2 := ⟨_, rfl⟩
  have HLI : Hid ((Try.prog.info? 27).map (·.size) = some LV.length ∧ LV.length = zW.length ∧ LV.toArray.all (·.oneCell') = true) := by rw [hLV]; exact ⟨info_Wq _, wq_len _, wq_one _⟩
  have HNX : Hid (∀ X, Below w.heap.size w X → Calls Try.prog 109 #[.pointer (some ⟨hb, 0, none⟩), .agg q.toArray] X fun e w' => e = .returned (.tuple #[.agg LV.toArray, .int .i64 E]) ∧ NxP X hb rv qv iv rs qs inn q w') := fun X k => by
    rw [hLV, hE, hrp]
    exact HN hb rv qv iv rs qs q (by rw [hq]; exact aq_len _ _ _ _ _ (by simp)) (by rw [hq]; exact aq_one _ _ _ _ _ z20_one) hn X (H.below k)
  have HBU : Hid (Try.prog.built tAk [(0, .int .i64 2), (1, .agg LX.toArray), (2, .agg LY.toArray)] = some q.toArray) := by show _ = _; rw [hq]; rw [hLX, hLY]; exact built_sv x y
  have HHO : Hid (Hst w hb rv qv iv rs qs inn) := H
  rw [← hrp, ← hE, ← hq]
  clear HN H hn hrp hE hq hLV
  go_enter Try.func107, Try.ntmps107
  go_upto_region 1 with (first
    | (refine wpList_boxG 27 rfl (.tmp 1) rfl LX rfl ?_; intro X1 q1 q2 q3; have R1 : Hid (Row X1 w.heap.size LX 27) := q1; have B1 : Hid (Below w.heap.size w X1) := q2; clear q1 q2 q3; simp only [Act.put, List.setIfInBounds_toArray, List.set_cons_zero, List.set_cons_succ])
    | (refine wpList_boxG 27 rfl (.tmp 2) rfl LY rfl ?_; intro X2 q1 q2 q3; have R2 : Hid (Row X2 X1.heap.size LY 27) := q1; have B2 : Hid (Below X1.heap.size X1 X2) := q2; clear q1 q2 q3; simp only [Act.put, List.setIfInBounds_toArray, List.set_cons_zero, List.set_cons_succ]))
  obtain ⟨b1, hb1⟩ : ∃ b, b = w.heap.size := ⟨_, rfl⟩
  obtain ⟨b2, hb2⟩ : ∃ b, b = X1.heap.size := ⟨_, rfl⟩
  have C1 : Hid (Below w.heap.size w X1) := B1.out
  have C2 : Hid (Below w.heap.size w X2) := C1.out.trans (B2.out.mono C1.out.size)
  have S1 : Hid (Row X2 b1 LX 27) := by rw [hb1]; exact Row.below (R1.out) B2.out (R1.out).lt
  have M1 : Hid (w.heap.size ≤ b1) := by show _ ≤ _; rw [hb1]; exact Nat.le_refl _
  have S2 : Hid (Row X2 b2 LY 27) := by rw [hb2]; exact R2.out
  have M2 : Hid (w.heap.size ≤ b2) := by show _ ≤ _; rw [hb2]; exact C1.out.size
  have HC : Hid _ := HNX.out X2 C2.out
  rw [← hb1, ← hb2]
  clear hb1 R1 B1 hb2 R2 B2 HNX
  go_wp2_with (first
    | (refine wpList_load_w rfl 27 (.tmp 4) rfl b1 0 rfl LX _ S1.out.all Try.underlying27 rfl HIX.out ?_; simp only [Act.put, List.setIfInBounds_toArray, List.set_cons_zero, List.set_cons_succ])
    | (refine wpList_load_w rfl 27 (.tmp 5) rfl b2 0 rfl LY _ S2.out.all Try.underlying27 rfl HIY.out ?_; simp only [Act.put, List.setIfInBounds_toArray, List.set_cons_zero, List.set_cons_succ])
    | (refine wpList_bltH rfl tAk _ rfl [(0, .int .i64 2), (1, .agg LX.toArray), (2, .agg LY.toArray)] (rfl) q HBU.out ?_; simp only [Act.put, List.setIfInBounds_toArray, List.set_cons_zero, List.set_cons_succ])
    | (go_at_call 109; refine Calls.mono HC.out ?_; rintro e Y ⟨rfl, p⟩; have HP : Hid (NxP w hb rv qv iv rs qs inn q Y) := p.of C2.out; clear p)
    | (refine wpList_allocW rfl rfl ?_; intro Y1 q1 q2 q3; have R8 : Hid (Row Y1 Y.heap.size zW 27) := q1; have B8 : Hid (Below Y.heap.size Y Y1) := q2; clear q1 q2 q3; simp only [Act.put, List.setIfInBounds_toArray, List.set_cons_zero, List.set_cons_succ])
    | (refine wpList_storeL rfl 27 (.tmp 7) (.tmp 15) rfl Y.heap.size LV zW 27 rfl rfl R8.out HLI.out.2.1 HLI.out.1 HLI.out.2.2 ?_; intro Y2 q1 q2; have E2 : Hid (Y2 = _) := q1; clear q1 q2; simp only [Act.put]))
  have HB8 : Below Y.heap.size Y Y2 := by rw [E2.out]; exact below_setCells B8.out (Nat.le_refl _) _
  have HF : Hid (NxP w hb rv qv iv rs qs inn q Y2) := HP.out.be HB8
  clear HB8 E2 R8 B8 HP
  go_ret
  exact ⟨rfl, HF.out⟩
set_option maxRecDepth 100000 in
set_option maxHeartbeats 4000000 in
theorem have_n {inn : List (BitVec 8)} (HN : NextOK inn) (hb : Nat) (rv qv iv : Value) (rs : List (Nat × Int)) (qs : List (List Value)) (t : Nat) (who : List Value) (hw : who.length = 20) (hwo : ∀ v ∈ who, v.oneCell' = true) (hn : qs.length ≤ 1000) (w : World) (H : Hst w hb rv qv iv rs qs inn) : Calls Try.prog 105 #[.pointer (some ⟨hb, 0, none⟩), .int .i64 (t : Int), .agg who.toArray] w fun e w' => e = .returned (.tuple #[.agg (wq (rs.getD qs.length (0, 0)).1).toArray, .int .i64 (rs.getD qs.length (0, 0)).2]) ∧ NxP w hb rv qv iv rs qs inn (aq 3 0 0 t who) w' := by
  have HIA : Hid ((Try.prog.info? 24).map (·.size) = some who.length) := by show _ = _; rw [hw]; kernel_rfl
  obtain ⟨q, hq⟩ : ∃ q, q = aq 3 0 0 t who := ⟨_, rfl⟩
  obtain ⟨rp, hrp⟩ : ∃ p, p = rs.getD qs.length (0, 0) := ⟨_, rfl⟩
  obtain ⟨LV, hLV⟩ : ∃ L, L = wq rp.1 := ⟨_, rfl⟩
  obtain ⟨E, hE⟩ : ∃ E, E = rp.2 := ⟨_, rfl⟩
  have HLI : Hid ((Try.prog.info? 27).map (·.size) = some LV.length ∧ LV.length = zW.length ∧ LV.toArray.all (·.oneCell') = true) := by rw [hLV]; exact ⟨info_Wq _, wq_len _, wq_one _⟩
  have HNX : Hid (∀ X, Below w.heap.size w X → Calls Try.prog 109 #[.pointer (some ⟨hb, 0, none⟩), .agg q.toArray] X fun e w' => e = .returned (.tuple #[.agg LV.toArray, .int .i64 E]) ∧ NxP X hb rv qv iv rs qs inn q w') := fun X k => by
    rw [hLV, hE, hrp]
    exact HN hb rv qv iv rs qs q (by rw [hq]; exact aq_len _ _ _ _ _ hw) (by rw [hq]; exact aq_one _ _ _ _ _ hwo) hn X (H.below k)
  have HBU : Hid (Try.prog.built tAk [(0, .int .i64 3), (3, .int .i64 (t : Int)), (4, .agg who.toArray)] = some q.toArray) := by show _ = _; rw [hq]; exact built_hv t who hw
  have HHO : Hid (Hst w hb rv qv iv rs qs inn) := H
  rw [← hrp, ← hE, ← hq]
  rw [← hLV]
  clear HN H hn hrp hE hq hLV
  go_enter Try.func105, Try.ntmps105
  go_upto_region 1 with (first
    | (refine wpList_boxG 24 rfl (.tmp 2) rfl who rfl ?_; intro X1 q1 q2 q3; have R1 : Hid (Row X1 w.heap.size who 24) := q1; have B1 : Hid (Below w.heap.size w X1) := q2; clear q1 q2 q3; simp only [Act.put, List.setIfInBounds_toArray, List.set_cons_zero, List.set_cons_succ])
    | (refine wpList_allocW rfl rfl ?_; intro X2 q1 q2 q3; have R2 : Hid (Row X2 X1.heap.size zW 27) := q1; have B2 : Hid (Below X1.heap.size X1 X2) := q2; clear q1 q2 q3; simp only [Act.put, List.setIfInBounds_toArray, List.set_cons_zero, List.set_cons_succ]))
  obtain ⟨b1, hb1⟩ : ∃ b, b = w.heap.size := ⟨_, rfl⟩
  obtain ⟨b2, hb2⟩ : ∃ b, b = X1.heap.size := ⟨_, rfl⟩
  have C1 : Hid (Below w.heap.size w X1) := B1.out
  have C2 : Hid (Below w.heap.size w X2) := C1.out.trans (B2.out.mono C1.out.size)
  have S1 : Hid (Row X2 b1 who 24) := by rw [hb1]; exact Row.below (R1.out) B2.out (R1.out).lt
  have M1 : Hid (w.heap.size ≤ b1) := by show _ ≤ _; rw [hb1]; exact Nat.le_refl _
  have S2 : Hid (Row X2 b2 zW 27) := by rw [hb2]; exact R2.out
  have M2 : Hid (w.heap.size ≤ b2) := by show _ ≤ _; rw [hb2]; exact C1.out.size
  have HC : Hid _ := HNX.out X2 C2.out
  rw [← hb1, ← hb2]
  clear hb1 R1 B1 hb2 R2 B2 HNX
  go_wp2_with (first
    | (refine wpList_load_w rfl 24 (.tmp 5) rfl b1 0 rfl who _ S1.out.all Try.underlying24 rfl HIA.out ?_; simp only [Act.put, List.setIfInBounds_toArray, List.set_cons_zero, List.set_cons_succ])
    | (refine wpList_bltH rfl tAk _ rfl [(0, .int .i64 3), (3, .int .i64 (t : Int)), (4, .agg who.toArray)] (rfl) q HBU.out ?_; simp only [Act.put, List.setIfInBounds_toArray, List.set_cons_zero, List.set_cons_succ])
    | (go_at_call 109; refine Calls.mono HC.out ?_; rintro e Y ⟨rfl, p⟩; have HP : Hid (NxP w hb rv qv iv rs qs inn q Y) := p.of C2.out; have Z2 : Hid (Row Y b2 zW 27) := p.row (HHO.out.below C2.out) (by decide) (by decide) S2.out; clear p)
    | (refine wpList_storeL rfl 27 (.tmp 6) (.tmp 13) rfl b2 LV zW 27 rfl rfl Z2.out HLI.out.2.1 HLI.out.1 HLI.out.2.2 ?_; intro Y2 q1 q2; have E2 : Hid (Y2 = _) := q1; have R9 : Hid (Row Y2 b2 LV 27) := q2; clear q1 q2; simp only [Act.put]))
  exact bodyPost_ret (results_row_tmp Try.results105 _ _ b2 27 LV (.int .i64 E) rfl rfl R9.out Try.underlying27 info_w4 HLI.out.2.1) rfl ⟨rfl, by rw [E2.out]; exact HP.out.own (gro_setCells b2 _ 0 Y Y (Gro.refl _ Y)) Z2.out M2.out⟩
set_option maxRecDepth 100000 in
set_option maxHeartbeats 4000000 in
theorem send_n {inn : List (BitVec 8)} (HN : NextOK inn) (hb : Nat) (rv qv iv : Value) (rs : List (Nat × Int)) (qs : List (List Value)) (t x : Nat) (who : List Value) (hw : who.length = 20) (hwo : ∀ v ∈ who, v.oneCell' = true) (hn : qs.length ≤ 1000) (w : World) (H : Hst w hb rv qv iv rs qs inn) : Calls Try.prog 108 #[.pointer (some ⟨hb, 0, none⟩), .int .i64 (t : Int), .agg who.toArray, .agg (wq x).toArray] w fun e w' => e = .returned (.int .i64 (rs.getD qs.length (0, 0)).2) ∧ NxP w hb rv qv iv rs qs inn (aq 4 x 0 t who) w' := by
  obtain ⟨LX, hLX⟩ : ∃ L, L = wq x := ⟨_, rfl⟩
  have HIX : Hid ((Try.prog.info? 27).map (·.size) = some LX.length) := by rw [hLX]; exact info_Wq _
  rw [← hLX]
  have HIA : Hid ((Try.prog.info? 24).map (·.size) = some who.length) := by show _ = _; rw [hw]; kernel_rfl
  obtain ⟨q, hq⟩ : ∃ q, q = aq 4 x 0 t who := ⟨_, rfl⟩
  obtain ⟨rp, hrp⟩ : ∃ p, p = rs.getD qs.length (0, 0) := ⟨_, rfl⟩
  obtain ⟨LV, hLV⟩ : ∃ L, L = wq rp.1 := ⟨_, rfl⟩
  obtain ⟨E, hE⟩ : ∃ E, E = rp.2 := ⟨_, rfl⟩
  have HLI : Hid ((Try.prog.info? 27).map (·.size) = some LV.length ∧ LV.length = zW.length ∧ LV.toArray.all (·.oneCell') = true) := by rw [hLV]; exact ⟨info_Wq _, wq_len _, wq_one _⟩
  have HNX : Hid (∀ X, Below w.heap.size w X → Calls Try.prog 109 #[.pointer (some ⟨hb, 0, none⟩), .agg q.toArray] X fun e w' => e = .returned (.tuple #[.agg LV.toArray, .int .i64 E]) ∧ NxP X hb rv qv iv rs qs inn q w') := fun X k => by
    rw [hLV, hE, hrp]
    exact HN hb rv qv iv rs qs q (by rw [hq]; exact aq_len _ _ _ _ _ hw) (by rw [hq]; exact aq_one _ _ _ _ _ hwo) hn X (H.below k)
  have HBU : Hid (Try.prog.built tAk [(0, .int .i64 4), (3, .int .i64 (t : Int)), (4, .agg who.toArray), (1, .agg LX.toArray)] = some q.toArray) := by show _ = _; rw [hq]; rw [hLX]; exact built_sd t x who hw
  have HHO : Hid (Hst w hb rv qv iv rs qs inn) := H
  rw [← hrp, ← hE, ← hq]
  clear HN H hn hrp hE hq hLV
  go_enter Try.func108, Try.ntmps108
  go_upto_region 1 with (first
    | (refine wpList_boxG 24 rfl (.tmp 2) rfl who rfl ?_; intro X1 q1 q2 q3; have R1 : Hid (Row X1 w.heap.size who 24) := q1; have B1 : Hid (Below w.heap.size w X1) := q2; clear q1 q2 q3; simp only [Act.put, List.setIfInBounds_toArray, List.set_cons_zero, List.set_cons_succ])
    | (refine wpList_boxG 27 rfl (.tmp 3) rfl LX rfl ?_; intro X2 q1 q2 q3; have R2 : Hid (Row X2 X1.heap.size LX 27) := q1; have B2 : Hid (Below X1.heap.size X1 X2) := q2; clear q1 q2 q3; simp only [Act.put, List.setIfInBounds_toArray, List.set_cons_zero, List.set_cons_succ]))
  obtain ⟨b1, hb1⟩ : ∃ b, b = w.heap.size := ⟨_, rfl⟩
  obtain ⟨b2, hb2⟩ : ∃ b, b = X1.heap.size := ⟨_, rfl⟩
  have C1 : Hid (Below w.heap.size w X1) := B1.out
  have C2 : Hid (Below w.heap.size w X2) := C1.out.trans (B2.out.mono C1.out.size)
  have S1 : Hid (Row X2 b1 who 24) := by rw [hb1]; exact Row.below (R1.out) B2.out (R1.out).lt
  have M1 : Hid (w.heap.size ≤ b1) := by show _ ≤ _; rw [hb1]; exact Nat.le_refl _
  have S2 : Hid (Row X2 b2 LX 27) := by rw [hb2]; exact R2.out
  have M2 : Hid (w.heap.size ≤ b2) := by show _ ≤ _; rw [hb2]; exact C1.out.size
  have HC : Hid _ := HNX.out X2 C2.out
  rw [← hb1, ← hb2]
  clear hb1 R1 B1 hb2 R2 B2 HNX
  go_wp2_with (first
    | (refine wpList_load_w rfl 24 (.tmp 6) rfl b1 0 rfl who _ S1.out.all Try.underlying24 rfl HIA.out ?_; simp only [Act.put, List.setIfInBounds_toArray, List.set_cons_zero, List.set_cons_succ])
    | (refine wpList_load_w rfl 27 (.tmp 7) rfl b2 0 rfl LX _ S2.out.all Try.underlying27 rfl HIX.out ?_; simp only [Act.put, List.setIfInBounds_toArray, List.set_cons_zero, List.set_cons_succ])
    | (refine wpList_bltH rfl tAk _ rfl [(0, .int .i64 4), (3, .int .i64 (t : Int)), (4, .agg who.toArray), (1, .agg LX.toArray)] (rfl) q HBU.out ?_; simp only [Act.put, List.setIfInBounds_toArray, List.set_cons_zero, List.set_cons_succ])
    | (go_at_call 109; refine Calls.mono HC.out ?_; rintro e Y ⟨rfl, p⟩; have HP : Hid (NxP w hb rv qv iv rs qs inn q Y) := p.of C2.out; clear p)
    | (refine wpList_allocW rfl rfl ?_; intro Y1 q1 q2 q3; have R8 : Hid (Row Y1 Y.heap.size zW 27) := q1; have B8 : Hid (Below Y.heap.size Y Y1) := q2; clear q1 q2 q3; simp only [Act.put, List.setIfInBounds_toArray, List.set_cons_zero, List.set_cons_succ])
    | (refine wpList_storeL rfl 27 (.tmp 9) (.tmp 18) rfl Y.heap.size LV zW 27 rfl rfl R8.out HLI.out.2.1 HLI.out.1 HLI.out.2.2 ?_; intro Y2 q1 q2; have E2 : Hid (Y2 = _) := q1; clear q1 q2; simp only [Act.put]))
  have HB8 : Below Y.heap.size Y Y2 := by rw [E2.out]; exact below_setCells B8.out (Nat.le_refl _) _
  have HF : Hid (NxP w hb rv qv iv rs qs inn q Y2) := HP.out.be HB8
  clear HB8 E2 R8 B8 HP
  go_ret
  exact ⟨rfl, HF.out⟩

end Go.Proofs.Ytabcglakdlkdcaa
