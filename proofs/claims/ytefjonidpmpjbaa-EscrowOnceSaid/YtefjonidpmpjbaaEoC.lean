/-
  EscrowOnce: what stands from step to step.
-/
import Derived.Test.YtefjonidpmpjbaaEoB
import Derived.OpenShut
namespace Go.Proofs.Ytefjonidpmpjbaa
open Go Go.RowKit Go.Maps
open Wd

structure Oi (w0 w : World) (i c : Nat) (L : List Ve) (P : List (List Int)) (v5 v6 : Value) (us : List Value) : Prop where
  oe : Oe w0 w c L (L.map Ve.p) P v5 v6 us
  lu : us.length = L.length
  l1 : 1 ≤ L.length
  l6 : L.length ≤ 6
  ln : ∀ (j : Nat) (pl : List Int), P[j]? = some pl → pl.length ≤ i
  rp : Rp L P
theorem lw_one {w : World} {e : TypeId} {g : Nat} {v : Value} (r : Row w g [v] e) : Lw w e 1 (.slice (some ⟨g, 0, none⟩) 1 1) 1 [v] :=
  ⟨rfl, .inr ⟨g, 1, #[v], rfl, Nat.zero_le _, r, Nat.le_refl _, by unfold maxLen; omega, rfl, rfl⟩⟩
theorem Vs.none {w0 w : World} (h : Below w0.heap.size w0 w) : Vs w0 w 0 [] := ⟨(fun i v h => by simp at h), (fun i j u v _ h => by simp at h), (fun i v h => by simp at h), h⟩
theorem Oi.start {w0 X : World} {p g5 g6 : Nat} {m1 m2 : Value} {s : St} (hV : Vs w0 X 0 [⟨p, m1, m2, s⟩]) (r5 : Row X g5 [ptrV p] tPV) (r6 : Row X g6 [.slice none 0 0] tLI) (h5 : w0.heap.size ≤ g5) (h6 : w0.heap.size ≤ g6) :
    Oi w0 X 0 0 [⟨p, m1, m2, s⟩] [[]] (.slice (some ⟨g5, 0, none⟩) 1 1) (.slice (some ⟨g6, 0, none⟩) 1 1) [.slice none 0 0] := by
  refine ⟨⟨hV, lw_one r5, lw_one r6, fun j u pl h1 h2 => ?_, rfl, fun j k u v hjk h1 h2 => ?_, fun g e => ?_, fun g e => ?_, fun j u h1 g e => ?_⟩, rfl, by show 1 ≤ 1; decide, by show 1 ≤ 6; decide, fun j pl h => ?_, fun j u pl h1 h2 x hx => ?_⟩
  · have hj := (List.getElem?_eq_some_iff.1 h1).1
    obtain rfl : j = 0 := by simpa using hj
    obtain rfl : Value.slice none 0 0 = u := by simpa using h1
    obtain rfl : [] = pl := by simpa using h2
    exact Lw.nil _ _ _
  · have := (List.getElem?_eq_some_iff.1 h1).1
    have := (List.getElem?_eq_some_iff.1 h2).1
    simp only [List.length_singleton] at *
    omega
  · cases e; exact h5
  · cases e; exact h6
  · have hj := (List.getElem?_eq_some_iff.1 h1).1
    obtain rfl : j = 0 := by simpa using hj
    obtain rfl : Value.slice none 0 0 = u := by simpa using h1
    cases e
  · have hj := (List.getElem?_eq_some_iff.1 h).1
    obtain rfl : j = 0 := by simpa using hj
    obtain rfl : [] = pl := by simpa using h
    exact Nat.le_refl _
  · have hj := (List.getElem?_eq_some_iff.1 h2).1
    obtain rfl : j = 0 := by simpa using hj
    obtain rfl : [] = pl := by simpa using h2
    cases hx
section
variable {w0 w X : World} {i c : Nat} {L : List Ve} {P : List (List Int)} {v5 v6 : Value} {us : List Value}
theorem Oi.be (h : Oi w0 w i c L P v5 v6 us) (k : Below w.heap.size w X) : Oi w0 X i c L P v5 v6 us := ⟨h.oe.below k, h.lu, h.l1, h.l6, h.ln, h.rp⟩
theorem map_set_p (L : List Ve) (n : Nat) (u : Ve) (hu : L[n]? = some u) (n1 n2 : Value) (s : St) : (L.set n ⟨u.p, n1, n2, s⟩).map Ve.p = L.map Ve.p := by
  rw [List.map_set]
  refine List.ext_getElem? fun j => ?_
  by_cases e : n = j
  · subst e
    rw [List.getElem?_set_self (by rw [List.length_map]; exact (List.getElem?_eq_some_iff.1 hu).1), List.getElem?_map, hu]
    rfl
  · rw [List.getElem?_set_ne e]
/-- Behind a step that was changing's alone. -/
theorem Oi.turn (h : Oi w0 w i c L P v5 v6 us) {n : Nat} {u : Ve} (hu : L[n]? = some u) (k : Int) (r : Stv) {n1 n2 : Value} (hO : Oe w0 X (c + 2) (L.set n ⟨u.p, n1, n2, (act u.s k r).1⟩) (L.map Ve.p) P v5 v6 us) : Oi w0 X (i + 1) (c + 2) (L.set n ⟨u.p, n1, n2, (act u.s k r).1⟩) P v5 v6 us :=
  ⟨by rw [map_set_p L n u hu]; exact hO, by rw [List.length_set]; exact h.lu, by rw [List.length_set]; exact h.l1, by rw [List.length_set]; exact h.l6, fun j pl hj => Nat.le_succ_of_le (h.ln j pl hj), h.rp.turn hu k r n1 n2⟩
/-- .. and one more vault. -/
theorem Oi.more (h : Oi w0 w i c L P v5 v6 us) {n : Nat} {u : Ve} {pl : List Int} (hu : L[n]? = some u) (hp : P[n]? = some pl) (hm : L.length < 6) {q : Nat} {n1 n2 v5' v6' u' : Value} (hO : Oe w0 X c (L ++ [⟨q, n1, n2, u.s⟩]) (L.map Ve.p ++ [q]) (P ++ [pl]) v5' v6' (us ++ [u'])) : Oi w0 X i c (L ++ [⟨q, n1, n2, u.s⟩]) (P ++ [pl]) v5' v6' (us ++ [u']) := by
  refine ⟨by rw [List.map_append]; exact hO, by rw [List.length_append, List.length_append, h.lu]; rfl, by rw [List.length_append]; exact Nat.le_trans h.l1 (Nat.le_add_right _ _), by rw [List.length_append]; exact hm, fun j pl' hj => ?_, h.rp.more (by rw [h.oe.lp, h.lu]) hu hp q n1 n2⟩
  by_cases hjl : j < P.length
  · rw [List.getElem?_append_left hjl] at hj
    exact h.ln j pl' hj
  · rw [List.getElem?_append_right (by omega)] at hj
    have h0 : j - P.length = 0 := by have := (List.getElem?_eq_some_iff.1 hj).1; simpa using this
    rw [h0] at hj
    obtain rfl : pl = pl' := by simpa using hj
    exact h.ln n pl hp
/-- .. and one more number. -/
theorem Oi.push (h : Oi w0 w (i + 1) c L P v5 v6 us) {n : Nat} {u : Ve} {pl : List Int} (hu : L[n]? = some u) (hp : P[n]? = some pl) (hpl : pl.length ≤ i) {x : Int} (hx : I64 x) (hx2 : paid u.s.U x = true) {u' : Value} (hO : Oe w0 X c L (L.map Ve.p) (P.set n (pl ++ [x])) v5 v6 (us.set n u')) : Oi w0 X (i + 1) c L (P.set n (pl ++ [x])) v5 v6 (us.set n u') := by
  refine ⟨hO, by rw [List.length_set]; exact h.lu, h.l1, h.l6, fun j pl' hj => ?_, h.rp.push hu hp hx hx2⟩
  have hil : n < P.length := (List.getElem?_eq_some_iff.1 hp).1
  by_cases e : j = n
  · subst e
    rw [List.getElem?_set_self hil] at hj
    obtain rfl : pl ++ [x] = pl' := by simpa using hj
    rw [List.length_append]
    exact Nat.succ_le_succ hpl
  · rw [List.getElem?_set_ne (fun q => e q.symm)] at hj
    exact h.ln j pl' hj
/-- What lies there of the n-th. -/
theorem Oi.at (h : Oi w0 w i c L P v5 v6 us) {n : Nat} (hn : n < L.length) : ∃ g5 c5 g6 c6 u x pl Au cu, v5 = .slice (some ⟨g5, 0, none⟩) L.length c5 ∧ v6 = .slice (some ⟨g6, 0, none⟩) L.length c6 ∧ L[n]? = some u ∧ us[n]? = some x ∧ P[n]? = some pl ∧ x = .slice Au pl.length cu ∧ w.cell? ⟨g5, n, none⟩ = some (ptrV u.p) ∧ w.cell? ⟨g6, n, none⟩ = some x ∧ Vt w u.p c u.m1 u.m2 u.s ∧ Lw w tIn 1 x pl.length (pl.map intV) := by
  have h1 := h.l1
  have e5 : (L.map Ve.p).length = L.length := List.length_map _
  obtain ⟨g5, c5, cur5, hv5, _, _, r5, _⟩ := Lw.openR h.oe.l5 (by rw [e5]; omega)
  obtain ⟨g6, c6, cur6, hv6, _, _, r6, _⟩ := Lw.openR h.oe.l6 (by rw [h.lu]; omega)
  obtain ⟨u, hu⟩ : ∃ u, L[n]? = some u := ⟨_, List.getElem?_eq_getElem hn⟩
  obtain ⟨x, hx⟩ : ∃ x, us[n]? = some x := ⟨_, List.getElem?_eq_getElem (by rw [h.lu]; exact hn)⟩
  obtain ⟨pl, hp⟩ := h.oe.pl hx
  have lx := h.oe.li n x pl hx hp
  obtain ⟨Au, cu, ex, _⟩ := Lw.form lx
  refine ⟨g5, c5, g6, c6, u, x, pl, Au, cu, by rw [hv5, e5], by rw [hv6, h.lu], hu, hx, hp, ex, ?_, ?_, h.oe.vs.v n u hu, lx⟩
  · have := r5 n (ptrV u.p) (by rw [List.getElem?_map, List.getElem?_map, hu]; rfl)
    rwa [Nat.zero_add] at this
  · have := r6 n x hx
    rwa [Nat.zero_add] at this
theorem Oi.int {Au : Option Addr} {m cu : Nat} {pl : List Int} (h : Lw w tIn 1 (.slice Au m cu) m (pl.map intV)) {j : Nat} {y : Int} (hj : pl[j]? = some y) : ∃ gu, Au = some ⟨gu, 0, none⟩ ∧ w.cell? ⟨gu, j, none⟩ = some (.int .i64 y) := by
  have hl := h.1
  have hjl := (List.getElem?_eq_some_iff.1 hj).1
  rw [List.length_map] at hl
  obtain ⟨gu, cap, cur, hv, _, _, r, _⟩ := Lw.openR h (by omega)
  simp only [Value.slice.injEq] at hv
  refine ⟨gu, hv.1, ?_⟩
  have := r j (intV y) (by rw [List.getElem?_map, hj]; rfl)
  rwa [Nat.zero_add] at this
end
theorem Oe.cell6 {w0 w : World} {c g6 m c6 n : Nat} {L : List Ve} {ps : List Nat} {P : List (List Int)} {v5 x : Value} {us : List Value} (h : Oe w0 w c L ps P v5 (.slice (some ⟨g6, 0, none⟩) m c6) us) (hx : us[n]? = some x) : w.cell? ⟨g6, n, none⟩ = some x := by
  have hn := (List.getElem?_eq_some_iff.1 hx).1
  obtain ⟨g, cap, cur, hv, _, _, r, _⟩ := Lw.openR h.l6 (by omega)
  obtain ⟨rfl, _, _⟩ : g6 = g ∧ m = us.length ∧ c6 = cap := by simpa using hv
  have := r n x hx
  rwa [Nat.zero_add] at this
theorem Oe.cell5 {w0 w : World} {c g5 m c5 n p : Nat} {L : List Ve} {ps : List Nat} {P : List (List Int)} {v6 : Value} {us : List Value} (h : Oe w0 w c L ps P (.slice (some ⟨g5, 0, none⟩) m c5) v6 us) (hx : ps[n]? = some p) : w.cell? ⟨g5, n, none⟩ = some (ptrV p) := by
  have hn := (List.getElem?_eq_some_iff.1 hx).1
  obtain ⟨g, cap, cur, hv, _, _, r, _⟩ := Lw.openR h.l5 (by omega)
  obtain ⟨rfl, _, _⟩ : g5 = g ∧ m = ps.length ∧ c5 = cap := by simpa using hv
  have := r n (ptrV p) (by rw [List.getElem?_map, hx]; rfl)
  rwa [Nat.zero_add] at this
/-- A block that is none of theirs has changed. -/
theorem Oe.other {w0 w X : World} {c g : Nat} {L : List Ve} {ps : List Nat} {P : List (List Int)} {v5 v6 : Value} {us cs : List Value} (h : Oe w0 w c L ps P v5 v6 us) (k : w.grownBy X (some g)) (r : Row w g cs tIn) (hne : ∀ (j : Nat) (u : Value), us[j]? = some u → u.ownBlock ≠ some g) (hn : w0.heap.size ≤ g) : Oe w0 X c L ps P v5 v6 us := by
  have G : Gro (fun q => some g = some q) w X := grown_gro k
  have nr : ∀ {e : TypeId} {s n : Nat} {v : Value} {xs : List Value}, Lw w e s v n xs → e ≠ tIn → Lw X e s v n xs := fun l he => Lw.gro l G (fun q e e2 => by
    obtain ⟨cur, r2⟩ := l.row e
    cases e2
    exact he (row_ty r2 r))
  refine ⟨h.vs.gro G (fun i v hv q hq e => by cases e; exact (h.vs.v i v hv).has_row r (by decide) hq) (fun q e => by cases e; exact hn), nr h.l5 (by decide), nr h.l6 (by decide), fun j u pl h1 h2 => Lw.gro (h.li j u pl h1 h2) G (fun q e e2 => by cases e2; exact hne j u h1 e), h.lp, h.ap, h.n5, h.n6, h.nu⟩
theorem Nu.of {w0 X : World} {us : List Value} {u : Value} {pl : List Int} {q a b : Nat} (h : Lw X tIn 1 u (0 + q) ([] ++ pl.map intV)) (hq : pl.length = q) (h3 : u.ownBlock = some a ∨ u.ownBlock = some b) (hab : a ≤ b) (hn : w0.heap.size ≤ a) (ho : ∀ (k : Nat) (x : Value), us[k]? = some x → ∀ g, x.ownBlock = some g → g < a) : Nu w0 X us u pl := by
  have hu : ∀ g, u.ownBlock = some g → a ≤ g := fun g e => by
    rcases h3 with q | q
    · rw [q] at e; simp only [Option.some.injEq] at e; omega
    · rw [q] at e; simp only [Option.some.injEq] at e; omega
  refine ⟨by rw [Nat.zero_add, ← hq] at h; exact h, fun g e => Nat.le_trans hn (hu g e), fun j x hj g e e2 => ?_⟩
  have := ho j x hj g e
  have := hu g e2
  omega
theorem mem_take_succ {pl : List Int} {j : Nat} {y x : Int} (hj : pl[j]? = some y) : decide (x ∈ pl.take (j + 1)) = (decide (x ∈ pl.take j) || (y == x)) := by
  have hjl := (List.getElem?_eq_some_iff.1 hj).1
  rw [List.take_add_one, hj]
  by_cases h1 : x ∈ pl.take j
  · rw [decide_eq_true h1, Bool.true_or]
    exact decide_eq_true (List.mem_append_left _ h1)
  · rw [decide_eq_false h1, Bool.false_or]
    by_cases h2 : y = x
    · subst h2
      rw [beq_self_eq_true]
      exact decide_eq_true (List.mem_append_right _ (by simp))
    · rw [show (y == x) = false by simpa using h2]
      refine decide_eq_false (fun q => ?_)
      rcases List.mem_append.1 q with q | q
      · exact h1 q
      · simp at q
        exact h2 q.symm

end Go.Proofs.Ytefjonidpmpjbaa
