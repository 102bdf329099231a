/-
  sparse: what a tree promises; put at any tree.
-/
import Derived.Test.YtfdgdmehgbmnkaaDoorSpH
namespace Go.Proofs.YtfdgdmehgbmnkaaDoor
open Go Go.RowKit
open Sha

def updB (g : Nat → Bool) (n : Nat) (b : Bool) : Nat → Bool := fun i => if i = n then b else g i
theorem updB_lt {g : Nat → Bool} {n i : Nat} {b : Bool} (h : i < n) : updB g n b i = g i := by unfold updB; rw [if_neg (by omega)]
theorem updB_at {g : Nat → Bool} {n : Nat} {b : Bool} : updB g n b n = b := by unfold updB; rw [if_pos rfl]
def Tr.fit : Tr → Nat → (Nat → Bool) → Prop
  | .nil, _, _ => True
  | .one k v, n, g => k.length = 32 ∧ v.length = 32 ∧ ∀ i, i < n → bitOf k i = g i
  | .two l r, n, g => n < 256 ∧ 1 < l.size + r.size ∧ l.fit (n + 1) (updB g n false) ∧ r.fit (n + 1) (updB g n true)
theorem Tr.fit_of : ∀ (t : Tr) (n : Nat) (g g' : Nat → Bool), (∀ i, i < n → g i = g' i) → t.fit n g → t.fit n g'
  | .nil, _, _, _, _, _ => trivial
  | .one _ _, _, _, _, h, ⟨a, b, c⟩ => ⟨a, b, fun i hi => (c i hi).trans (h i hi)⟩
  | .two l r, n, g, g', h, ⟨a, b, c, d⟩ => ⟨a, b,
      Tr.fit_of l _ _ _ (fun i hi => by unfold updB; by_cases e : i = n <;> simp only [e, if_true, if_false]; exact h i (by omega)) c,
      Tr.fit_of r _ _ _ (fun i hi => by unfold updB; by_cases e : i = n <;> simp only [e, if_true, if_false]; exact h i (by omega)) d⟩
def Tr.halves (t : Tr) (i : Nat) : Tr × Tr := match t with
  | .nil => (.nil, .nil)
  | .one k v => if bitOf k i then (.nil, .one k v) else (.one k v, .nil)
  | .two l r => (l, r)
theorem halves_t {k v : List (BitVec 8)} {i : Nat} (h : bitOf k i = true) : (Tr.one k v).halves i = (.nil, .one k v) := by
  show (if bitOf k i then _ else _) = _
  rw [if_pos h]
theorem halves_f {k v : List (BitVec 8)} {i : Nat} (h : bitOf k i = false) : (Tr.one k v).halves i = (.one k v, .nil) := by
  show (if bitOf k i then _ else _) = _
  rw [if_neg (by rw [h]; exact Bool.false_ne_true)]
theorem Tr.halves_size (t : Tr) (i : Nat) : (t.halves i).1.size + (t.halves i).2.size = t.size := by
  cases t with
  | nil => rfl
  | one k v =>
    cases h : bitOf k i with
    | true => rw [halves_t h]; rfl
    | false => rw [halves_f h]; rfl
  | two l r => rfl
theorem Tr.fit_halves {t : Tr} {n : Nat} {g : Nat → Bool} (h : t.fit n g) : (t.halves n).1.fit (n + 1) (updB g n false) ∧ (t.halves n).2.fit (n + 1) (updB g n true) := by
  cases t with
  | nil => exact ⟨trivial, trivial⟩
  | one k v =>
    obtain ⟨a, b, c⟩ := h
    have key : ∀ B, bitOf k n = B → Tr.fit (.one k v) (n + 1) (updB g n B) := fun B hB => ⟨a, b, fun i hi => by
      by_cases e : i = n
      · rw [e, hB, updB_at]
      · rw [updB_lt (by omega)]; exact c i (by omega)⟩
    cases hb : bitOf k n with
    | true => rw [halves_t hb]; exact ⟨trivial, key true hb⟩
    | false => rw [halves_f hb]; exact ⟨key false hb, trivial⟩
  | two l r => exact ⟨h.2.2.1, h.2.2.2⟩
theorem Tr.fit_up {t : Tr} {n : Nat} {g : Nat → Bool} {b : Bool} (hs : t.size ≤ 1) (h : t.fit (n + 1) (updB g n b)) : t.fit n g := by
  cases t with
  | nil => trivial
  | one k v => exact ⟨h.1, h.2.1, fun i hi => by rw [h.2.2 i (by omega), updB_lt hi]⟩
  | two l r =>
    have : l.size + r.size ≤ 1 := hs
    have := h.2.1
    omega
theorem Tr.join_size (l r : Tr) : (l.join r).size ≤ l.size + r.size := by
  unfold Tr.join
  split
  · exact Nat.le_refl _
  · cases l with
    | nil => exact Nat.le_add_left _ _
    | one k v => exact Nat.le_add_right _ _
    | two a b => exact Nat.le_add_right _ _
theorem Tr.fit_join {l r : Tr} {n : Nat} {g : Nat → Bool} (hn : n < 256) (hl : l.fit (n + 1) (updB g n false)) (hr : r.fit (n + 1) (updB g n true)) : (l.join r).fit n g := by
  by_cases h : 1 < l.size + r.size
  · rw [Tr.join_many h]
    exact ⟨hn, h, hl, hr⟩
  · by_cases e : l = .nil
    · subst e
      rw [Tr.join_right h]
      exact Tr.fit_up (by omega) hr
    · rw [Tr.join_left h e]
      exact Tr.fit_up (by omega) hl
theorem sgl_size (u v : List (BitVec 8)) : (sgl u v).size ≤ 1 := by
  unfold sgl
  split
  · exact Nat.zero_le _
  · exact Nat.le_refl _
theorem sgl_fit {u v : List (BitVec 8)} (hu : u.length = 32) (hv : v.length = 32) (n : Nat) : (sgl u v).fit n (bitOf u) := by
  unfold sgl
  split
  · trivial
  · exact ⟨hu, hv, fun _ _ => rfl⟩
theorem bits_ext {k u : List (BitVec 8)} (hk : k.length = 32) (hu : u.length = 32) (h : ∀ i, i < 256 → bitOf k i = bitOf u i) : k = u := by
  apply List.ext_getElem (hk.trans hu.symm)
  intro j h1 h2
  apply BitVec.eq_of_getLsbD_eq
  intro b hb
  have := h (8 * j + (7 - b)) (by omega)
  unfold bitOf at this
  rw [show (8 * j + (7 - b)) / 8 = j by omega, show 7 - (8 * j + (7 - b)) % 8 = b by omega, List.getD_eq_getElem?_getD, List.getD_eq_getElem?_getD, List.getElem?_eq_getElem h1, List.getElem?_eq_getElem h2] at this
  exact this
def Tr.stops (u : List (BitVec 8)) : Tr → Bool
  | .nil => true
  | .one k _ => decide (k = u)
  | .two _ _ => false
theorem Tr.stops_end {t : Tr} {u : List (BitVec 8)} (hu : u.length = 32) (h : t.fit 256 (bitOf u)) : t.stops u = true := by
  cases t with
  | nil => rfl
  | one k v => exact decide_eq_true (bits_ext h.1 hu h.2.2)
  | two l r => exact absurd h.1 (by decide)
/-- A value laid at a key, with so many bits left. -/
def Tr.put (u v : List (BitVec 8)) : Nat → Tr → Tr
  | 0, _ => sgl u v
  | f + 1, t => if t.stops u then sgl u v else if bitOf u (255 - f) then (t.halves (255 - f)).1.join (Tr.put u v f (t.halves (255 - f)).2) else (Tr.put u v f (t.halves (255 - f)).1).join (t.halves (255 - f)).2
theorem Tr.put_stop {u v : List (BitVec 8)} {t : Tr} (h : t.stops u = true) : ∀ f, t.put u v f = sgl u v
  | 0 => rfl
  | f + 1 => by rw [Tr.put, if_pos h]
theorem Tr.put_true {u v : List (BitVec 8)} {t : Tr} {f : Nat} (h : t.stops u = false) (hb : bitOf u (255 - f) = true) : t.put u v (f + 1) = (t.halves (255 - f)).1.join (Tr.put u v f (t.halves (255 - f)).2) := by
  rw [Tr.put, if_neg (by rw [h]; exact Bool.false_ne_true), if_pos hb]
theorem Tr.put_false {u v : List (BitVec 8)} {t : Tr} {f : Nat} (h : t.stops u = false) (hb : bitOf u (255 - f) = false) : t.put u v (f + 1) = (Tr.put u v f (t.halves (255 - f)).1).join (t.halves (255 - f)).2 := by
  rw [Tr.put, if_neg (by rw [h]; exact Bool.false_ne_true), if_neg (by rw [hb]; exact Bool.false_ne_true)]
theorem Tr.put_size (u v : List (BitVec 8)) : ∀ (f : Nat) (t : Tr), (t.put u v f).size ≤ t.size + 1
  | 0, t => Nat.le_trans (sgl_size u v) (Nat.le_add_left _ _)
  | f + 1, t => by
    cases hs : t.stops u with
    | true => rw [Tr.put_stop hs]; exact Nat.le_trans (sgl_size u v) (Nat.le_add_left _ _)
    | false =>
      have h1 := Tr.halves_size t (255 - f)
      cases hb : bitOf u (255 - f) with
      | true =>
        rw [Tr.put_true hs hb]
        have h2 := Tr.join_size (t.halves (255 - f)).1 (Tr.put u v f (t.halves (255 - f)).2)
        have h3 := Tr.put_size u v f (t.halves (255 - f)).2
        omega
      | false =>
        rw [Tr.put_false hs hb]
        have h2 := Tr.join_size (Tr.put u v f (t.halves (255 - f)).1) (t.halves (255 - f)).2
        have h3 := Tr.put_size u v f (t.halves (255 - f)).1
        omega
theorem fit_side {t : Tr} {u : List (BitVec 8)} {n : Nat} {B : Bool} (hb : bitOf u n = B) (h : t.fit (n + 1) (updB (bitOf u) n B)) : t.fit (n + 1) (bitOf u) :=
  Tr.fit_of t _ _ _ (fun i hi => by
    by_cases e : i = n
    · rw [e, updB_at, hb]
    · rw [updB_lt (by omega)]) h
theorem fit_back {t : Tr} {u : List (BitVec 8)} {n : Nat} {B : Bool} (hb : bitOf u n = B) (h : t.fit (n + 1) (bitOf u)) : t.fit (n + 1) (updB (bitOf u) n B) :=
  Tr.fit_of t _ _ _ (fun i hi => by
    by_cases e : i = n
    · rw [e, updB_at, hb]
    · rw [updB_lt (by omega)]) h
theorem Tr.put_fit {u v : List (BitVec 8)} (hu : u.length = 32) (hv : v.length = 32) : ∀ (f : Nat) (t : Tr), f ≤ 256 → t.fit (256 - f) (bitOf u) → (t.put u v f).fit (256 - f) (bitOf u)
  | 0, t, _, _ => sgl_fit hu hv _
  | f + 1, t, hf, h => by
    cases hs : t.stops u with
    | true => rw [Tr.put_stop hs]; exact sgl_fit hu hv _
    | false =>
      have e1 : 256 - (f + 1) = 255 - f := by omega
      have e2 : 255 - f + 1 = 256 - f := by omega
      rw [e1] at h ⊢
      have hh := Tr.fit_halves h
      cases hb : bitOf u (255 - f) with
      | true =>
        rw [Tr.put_true hs hb]
        have ih := Tr.put_fit hu hv f _ (by omega) (e2 ▸ fit_side hb hh.2)
        exact Tr.fit_join (by omega) hh.1 (fit_back hb (e2 ▸ ih))
      | false =>
        rw [Tr.put_false hs hb]
        have ih := Tr.put_fit hu hv f _ (by omega) (e2 ▸ fit_side hb hh.1)
        exact Tr.fit_join (by omega) (fit_back hb (e2 ▸ ih)) hh.2

theorem put_any (u v : List (BitVec 8)) (hu : u.length = 32) (hv : v.length = 32) : ∀ (f : Nat) (t : Tr) (p : Value) (w : World), f ≤ 256 → t.fit (256 - f) (bitOf u) → NodeAt w t p → t.size + 1 < 4611686018427387904 → Tab w 3 →
    Calls Tryd.prog 39 #[p, .agg (vB (u ++ v)).toArray, .int .i64 ((256 - f : Nat) : Int)] w fun e w' => ∃ q, e = .returned q ∧ NodeAt w' (t.put u v f) q ∧ Below w.heap.size w w' := by
  have stop : ∀ (f : Nat) (t : Tr) (p : Value) (w : World), t.stops u = true → NodeAt w t p → Tab w 3 → ∀ i : Nat, Calls Tryd.prog 39 #[p, .agg (vB (u ++ v)).toArray, .int .i64 (i : Int)] w fun e w' => ∃ q, e = .returned q ∧ NodeAt w' (t.put u v f) q ∧ Below w.heap.size w w' := by
    intro f t p w hs hn hK i
    rw [Tr.put_stop hs]
    cases t with
    | nil =>
      obtain rfl : p = pn := hn
      exact put_nil u v hu hv w i hK
    | one k v2 => exact put_same u v hu hv k v2 p w hn (of_decide_eq_true hs) i hK
    | two l r => exact absurd hs Bool.false_ne_true
  intro f
  induction f with
  | zero => exact fun t p w _ hf hn _ hK => stop 0 t p w (Tr.stops_end hu hf) hn hK 256
  | succ f ih =>
    intro t p w hf hfit hn hsz hK
    have e1 : 256 - (f + 1) = 255 - f := by omega
    have e2 : 255 - f + 1 = 256 - f := by omega
    rw [e1] at hfit ⊢
    cases hs : t.stops u with
    | true => exact stop (f + 1) t p w hs hn hK _
    | false =>
      have hh := Tr.fit_halves hfit
      have hsum := Tr.halves_size t (255 - f)
      have eI : ((255 - f : Nat) : Int) + 1 = ((256 - f : Nat) : Int) := by omega
      have HH : ∀ W, Below w.heap.size w W → Calls Tryd.prog 60 #[p, .int .i64 ((255 - f : Nat) : Int)] W fun e w' => ∃ pl pr, e = .returned (.tuple #[pl, pr]) ∧ NodeAt w' (t.halves (255 - f)).1 pl ∧ NodeAt w' (t.halves (255 - f)).2 pr ∧ Below W.heap.size W w' := by
        intro W hW
        have hnW := NodeAt.be hW _ _ hn
        cases t with
        | nil => exact absurd (show true = false from hs) (by decide)
        | one k v2 =>
          refine Calls.mono (halves_one k v2 p W (255 - f) (by omega) hnW) ?_
          rintro e X ⟨rfl, hB⟩
          have hnX := NodeAt.be hB _ _ hnW
          cases hk : bitOf k (255 - f) with
          | true => rw [halves_t hk]; exact ⟨_, _, rfl, rfl, hnX, hB⟩
          | false => rw [halves_f hk]; exact ⟨_, _, rfl, hnX, rfl, hB⟩
        | two l r => exact halves_two l r p W (255 - f) hnW hfit.2.1
      cases hb : bitOf u (255 - f) with
      | true =>
        rw [Tr.put_true hs hb]
        have hps := Tr.put_size u v f (t.halves (255 - f)).2
        have IH : ∀ q W, NodeAt W (t.halves (255 - f)).2 q → Below w.heap.size w W → Calls Tryd.prog 39 #[q, .agg (vB (u ++ v)).toArray, .int .i64 (((255 - f : Nat) : Int) + 1)] W fun e W' => ∃ q', e = .returned q' ∧ NodeAt W' (Tr.put u v f (t.halves (255 - f)).2) q' ∧ Below W.heap.size W W' := fun q W h1 h2 => by
          rw [eI]
          exact ih _ q W (by omega) (e2 ▸ fit_side hb hh.2) h1 (by omega) (hK.below h2 hK.lt)
        cases t with
        | nil => exact absurd (show true = false from hs) (by decide)
        | one k v2 => exact put_one_true u v hu hv p w (255 - f) (by omega) k v2 hn (of_decide_eq_false hs) _ _ _ HH hb IH (by omega) hK
        | two l r => exact put_two_true u v hu hv p w (255 - f) (by omega) l r hn hfit.2.1 _ _ _ HH hb IH (by omega) hK
      | false =>
        rw [Tr.put_false hs hb]
        have hps := Tr.put_size u v f (t.halves (255 - f)).1
        have IH : ∀ q W, NodeAt W (t.halves (255 - f)).1 q → Below w.heap.size w W → Calls Tryd.prog 39 #[q, .agg (vB (u ++ v)).toArray, .int .i64 (((255 - f : Nat) : Int) + 1)] W fun e W' => ∃ q', e = .returned q' ∧ NodeAt W' (Tr.put u v f (t.halves (255 - f)).1) q' ∧ Below W.heap.size W W' := fun q W h1 h2 => by
          rw [eI]
          exact ih _ q W (by omega) (e2 ▸ fit_side hb hh.1) h1 (by omega) (hK.below h2 hK.lt)
        cases t with
        | nil => exact absurd (show true = false from hs) (by decide)
        | one k v2 => exact put_one_false u v hu hv p w (255 - f) (by omega) k v2 hn (of_decide_eq_false hs) _ _ _ HH hb IH (by omega) hK
        | two l r => exact put_two_false u v hu hv p w (255 - f) (by omega) l r hn hfit.2.1 _ _ _ HH hb IH (by omega) hK

end Go.Proofs.YtfdgdmehgbmnkaaDoor
