/-
  the law OutboxCuts: what a leaf is made of; a book's texts (mathematics).
-/
import Derived.Test.YtbfahgdienppoaaGreatDoorObD
import Derived.Test.YtbfahgdienppoaaGreatDoorXLaw
namespace Go.Proofs.YtbfahgdienppoaaGreatDoor
open Go Go.RowKit
open Sha

/-- What a leaf that may be is made of. -/
structure Rwv where
  en : Int
  tk : Int
  rc : List (BitVec 8)
  am : List Nat
structure Rwv.Ok (r : Rwv) : Prop where
  e0 : -9223372036854775808 ≤ r.en
  e1 : r.en ≤ 9223372036854775807
  t0 : -9223372036854775808 ≤ r.tk
  t1 : r.tk ≤ 9223372036854775807
  rc : r.rc.length = 20
  am : r.am.length = 4
  q : ∀ x ∈ r.am, x < 18446744073709551616
def rwc (r : Rwv) : List Value := .int .i64 r.en :: .int .i64 r.tk :: (vB r.rc ++ vQ r.am)
def am9 (am : List Nat) : List Nat := if am = List.replicate 4 0 then [0, 0, 0, 9] else am
def rwl (r : Rwv) (i : Nat) : List Value := lf (i : Int) (pk r.en 1099511627776) (pk r.tk 64) r.rc (am9 r.am)
def rwt (r : Rwv) (i : Nat) : List (BitVec 8) := lfb (i : Int) (pk r.en 1099511627776) (pk r.tk 64) r.rc (am9 r.am)
theorem rwc_len {r : Rwv} (h : r.Ok) : (rwc r).length = 26 := by
  unfold rwc
  simp [vB_length, vQ_len, h.rc, h.am]
theorem am9_len {am : List Nat} (h : am.length = 4) : (am9 am).length = 4 := by
  unfold am9
  split
  · rfl
  · exact h
theorem am9_q {am : List Nat} (h : ∀ x ∈ am, x < 18446744073709551616) : ∀ x ∈ am9 am, x < 18446744073709551616 := by
  unfold am9
  split
  · decide
  · exact h
theorem am9_ne (am : List Nat) : am9 am ≠ List.replicate 4 0 := by
  unfold am9
  split
  · decide
  · assumption
theorem rw_may (r : Rwv) (i : Nat) (hi : i < 1099511627776) : may (i : Int) (pk r.en 1099511627776) (pk r.tk 64) (am9 r.am) = true := by
  have h1 := pk_range r.en 1099511627776 (by decide)
  have h2 := pk_range r.tk 64 (by decide)
  unfold may
  rw [decide_eq_true_eq]
  exact ⟨by omega, by omega, h1.1, h1.2, h2.1, h2.2, am9_ne _⟩
/-- The texts of a book that was given leaves of these. -/
def bts (rs : List Rwv) : List (List (BitVec 8)) := rs.mapIdx (fun i r => rwt r i)
theorem bts_len (rs : List Rwv) : (bts rs).length = rs.length := by simp [bts]
theorem bts_snoc (rs : List Rwv) (r : Rwv) : bts (rs ++ [r]) = bts rs ++ [rwt r rs.length] := by simp [bts, List.mapIdx_append]
theorem bts_get (rs : List Rwv) (i : Nat) : (bts rs)[i]? = (rs[i]?).map (fun r => rwt r i) := by simp [bts]
theorem bts_take (rs : List Rwv) (n : Nat) : (bts rs).take n = bts (rs.take n) := by
  apply List.ext_getElem?
  intro i
  rw [bts_get, List.getElem?_take, List.getElem?_take, bts_get]
  split <;> rfl
theorem bts_each (rs : List Rwv) (hok : ∀ r ∈ rs, r.Ok) (i : Nat) : ((bts rs).getD i []).length ≤ 153 := by
  rw [List.getD_eq_getElem?_getD, bts_get]
  cases h : rs[i]? with
  | none => simp
  | some r =>
    have hr := hok r (List.mem_of_getElem? h)
    exact lfb_len _ _ _ _ _ hr.rc
/-- A list of them in memory. -/
def Ra (w : World) (A : Option Addr) (rs : List Rwv) : Prop := ∀ i r, rs[i]? = some r → r.Ok ∧ ∃ b o, A = some ⟨b, o, none⟩ ∧ w.rangeAt b (o + i * 26) (rwc r)
theorem Ra.be {w w' : World} {A : Option Addr} {rs : List Rwv} (h : Ra w A rs) (k : Below w.heap.size w w') : Ra w' A rs := fun i r hr => by
  obtain ⟨q, b, o, q1, q2⟩ := h i r hr
  exact ⟨q, b, o, q1, range_be q2 k⟩
theorem Ra.ok {w : World} {A : Option Addr} {rs : List Rwv} (h : Ra w A rs) : ∀ r ∈ rs, r.Ok := fun r hr => by
  obtain ⟨i, hi, e⟩ := List.mem_iff_getElem.1 hr
  exact (h i r (by rw [List.getElem?_eq_getElem hi, e])).1
theorem Ra.take {w : World} {A : Option Addr} {rs : List Rwv} (h : Ra w A rs) (n : Nat) : Ra w A (rs.take n) := fun i r hr => by
  rw [List.getElem?_take] at hr
  split at hr
  · exact h i r hr
  · cases hr
theorem fm_get : ∀ (rs : List Rwv), (∀ r ∈ rs, r.Ok) → ∀ (i : Nat) (r : Rwv), rs[i]? = some r → ∀ j u, (rwc r)[j]? = some u → (rs.flatMap rwc)[i * 26 + j]? = some u
  | [], _, i, r, h, _, _, _ => by simp at h
  | s :: rs, hok, 0, r, h, j, u, hj => by
    obtain rfl : s = r := by simpa using h
    have hl := (List.getElem?_eq_some_iff.1 hj).1
    rw [List.flatMap_cons, Nat.zero_mul, Nat.zero_add, List.getElem?_append_left hl]
    exact hj
  | s :: rs, hok, i + 1, r, h, j, u, hj => by
    have ls := rwc_len (hok s (by simp))
    have q := fm_get rs (fun r hr => hok r (by simp [hr])) i r (by simpa using h) j u hj
    rw [List.flatMap_cons, List.getElem?_append_right (by omega), show (i + 1) * 26 + j - (rwc s).length = i * 26 + j by omega]
    exact q
theorem Lw.ra {w : World} {A : Option Addr} {n cap : Nat} {rs : List Rwv} (h : Lw w 42 26 (.slice A n cap) n (rs.flatMap rwc)) (hok : ∀ r ∈ rs, r.Ok) (hn : n = rs.length) : Ra w A rs := fun i r hr => by
  have hi := (List.getElem?_eq_some_iff.1 hr).1
  obtain ⟨g, cap', e, _⟩ := Lw.open h (by omega)
  simp only [Value.slice.injEq] at e
  obtain ⟨rfl, _, rfl⟩ := e
  refine ⟨hok r (List.mem_of_getElem? hr), g, 0, rfl, fun j u hj => ?_⟩
  have q := Lw.range h (i * 26 + j) u (fm_get rs hok i r hr j u hj)
  rwa [show 0 + (i * 26 + j) = 0 + i * 26 + j by omega] at q

end Go.Proofs.YtbfahgdienppoaaGreatDoor
