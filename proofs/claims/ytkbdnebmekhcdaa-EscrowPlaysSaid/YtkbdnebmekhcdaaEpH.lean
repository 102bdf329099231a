/-
  EscrowPlays: what stands from step to step.
-/
import Derived.Test.YtkbdnebmekhcdaaEoB
import Derived.OpenShut
import Derived.Test.YtkbdnebmekhcdaaEpF
import Derived.Test.YtkbdnebmekhcdaaErB

namespace Go.Proofs.Ytkbdnebmekhcdaa
open Go Go.RowKit Go.Maps
open Wd

structure Oi (w0 w : World) (i c : Nat) (L : List Ve) (P : List (List Int)) (v5 v6 : Value) (us : List Value) : Prop where
  oe : Oe w0 w c L (L.map Ve.p) P v5 v6 us
  lu : us.length = L.length
  l1 : 1 ≤ L.length
  l6 : L.length ≤ 6
  ln : ∀ (j : Nat) (pl : List Int), P[j]? = some pl → pl.length ≤ i
  rp : Rp L P
theorem lw_one {w : World} {e : TypeId} {g : Nat} {v : Value} (r : Row w g [v] e) : Lw w e 1 (.slice (some ⟨g, 0, none⟩) 1 1) 1 [v] :=
  ⟨rfl, .inr ⟨g, 1, #[v], rfl, Nat.zero_le _, r, Nat.le_refl _, by unfold maxLen; omega, rfl, rfl⟩⟩
theorem Vs.none {w0 w : World} (h : Below w0.heap.size w0 w) : Vs w0 w 0 [] := ⟨(fun i v h => by simp at h), (fun i j u v _ h => by simp at h), (fun i v h => by simp at h), h⟩
theorem Oi.start {w0 X : World} {p g5 g6 : Nat} {m1 m2 : Value} {s : St} (hV : Vs w0 X 0 [⟨p, m1, m2, s⟩]) (r5 : Row X g5 [ptrV p] tPV) (r6 : Row X g6 [.slice none 0 0] tLI) (h5 : w0.heap.size ≤ g5) (h6 : w0.heap.size ≤ g6) :
    Oi w0 X 0 0 [⟨p, m1, m2, s⟩] [[]] (.slice (some ⟨g5, 0, none⟩) 1 1) (.slice (some ⟨g6, 0, none⟩) 1 1) [.slice none 0 0] := by
  refine ⟨⟨hV, lw_one r5, lw_one r6, fun j u pl h1 h2 => ?_, rfl, fun j k u v hjk h1 h2 => ?_, fun g e => ?_, fun g e => ?_, fun j u h1 g e => ?_⟩, rfl, by show 1 ≤ 1; decide, by show 1 ≤ 6; decide, fun j pl h => ?_, fun j u pl h1 h2 x hx => ?_⟩
  · have hj := (List.getElem?_eq_some_iff.1 h1).1
    obtain rfl : j = 0 := by simpa using hj
    obtain rfl : Value.slice none 0 0 = u := by simpa using h1
    obtain rfl : [] = pl := by simpa using h2
    exact Lw.nil _ _ _
  · have := (List.getElem?_eq_some_iff.1 h1).1
    have := (List.getElem?_eq_some_iff.1 h2).1
    simp only [List.length_singleton] at *
    omega
  · cases e; exact h5
  · cases e; exact h6
  · have hj := (List.getElem?_eq_some_iff.1 h1).1
    obtain rfl : j = 0 := by simpa using hj
    obtain rfl : Value.slice none 0 0 = u := by simpa using h1
    cases e
  · have hj := (List.getElem?_eq_some_iff.1 h).1
    obtain rfl : j = 0 := by simpa using hj
    obtain rfl : [] = pl := by simpa using h
    exact Nat.le_refl _
  · have hj := (List.getElem?_eq_some_iff.1 h2).1
    obtain rfl : j = 0 := by simpa using hj
    obtain rfl : [] = pl := by simpa using h2
    cases hx
section
variable {w0 w X : World} {i c : Nat} {L : List Ve} {P : List (List Int)} {v5 v6 : Value} {us : List Value}
theorem Oi.be (h : Oi w0 w i c L P v5 v6 us) (k : Below w.heap.size w X) : Oi w0 X i c L P v5 v6 us := ⟨h.oe.below k, h.lu, h.l1, h.l6, h.ln, h.rp⟩
theorem map_set_p (L : List Ve) (n : Nat) (u : Ve) (hu : L[n]? = some u) (n1 n2 : Value) (s : St) : (L.set n ⟨u.p, n1, n2, s⟩).map Ve.p = L.map Ve.p := by
  rw [List.map_set]
  refine List.ext_getElem? fun j => ?_
  by_cases e : n = j
  · subst e
    rw [List.getElem?_set_self (by rw [List.length_map]; exact (List.getElem?_eq_some_iff.1 hu).1), List.getElem?_map, hu]
    rfl
  · rw [List.getElem?_set_ne e]
/-- Behind a step that was changing's alone. -/
theorem Oi.turn (h : Oi w0 w i c L P v5 v6 us) {n : Nat} {u : Ve} (hu : L[n]? = some u) (k : Int) (r : Stv) {n1 n2 : Value} (hO : Oe w0 X (c + 2) (L.set n ⟨u.p, n1, n2, (act u.s k r).1⟩) (L.map Ve.p) P v5 v6 us) : Oi w0 X (i + 1) (c + 2) (L.set n ⟨u.p, n1, n2, (act u.s k r).1⟩) P v5 v6 us :=
  ⟨by rw [map_set_p L n u hu]; exact hO, by rw [List.length_set]; exact h.lu, by rw [List.length_set]; exact h.l1, by rw [List.length_set]; exact h.l6, fun j pl hj => Nat.le_succ_of_le (h.ln j pl hj), h.rp.turn hu k r n1 n2⟩
/-- .. and one more vault. -/
theorem Oi.more (h : Oi w0 w i c L P v5 v6 us) {n : Nat} {u : Ve} {pl : List Int} (hu : L[n]? = some u) (hp : P[n]? = some pl) (hm : L.length < 6) {q : Nat} {n1 n2 v5' v6' u' : Value} (hO : Oe w0 X c (L ++ [⟨q, n1, n2, u.s⟩]) (L.map Ve.p ++ [q]) (P ++ [pl]) v5' v6' (us ++ [u'])) : Oi w0 X i c (L ++ [⟨q, n1, n2, u.s⟩]) (P ++ [pl]) v5' v6' (us ++ [u']) := by
  refine ⟨by rw [List.map_append]; exact hO, by rw [List.length_append, List.length_append, h.lu]; rfl, by rw [List.length_append]; exact Nat.le_trans h.l1 (Nat.le_add_right _ _), by rw [List.length_append]; exact hm, fun j pl' hj => ?_, h.rp.more (by rw [h.oe.lp, h.lu]) hu hp q n1 n2⟩
  by_cases hjl : j < P.length
  · rw [List.getElem?_append_left hjl] at hj
    exact h.ln j pl' hj
  · rw [List.getElem?_append_right (by omega)] at hj
    have h0 : j - P.length = 0 := by have := (List.getElem?_eq_some_iff.1 hj).1; simpa using this
    rw [h0] at hj
    obtain rfl : pl = pl' := by simpa using hj
    exact h.ln n pl hp
/-- .. and one more number. -/
theorem Oi.push (h : Oi w0 w (i + 1) c L P v5 v6 us) {n : Nat} {u : Ve} {pl : List Int} (hu : L[n]? = some u) (hp : P[n]? = some pl) (hpl : pl.length ≤ i) {x : Int} (hx : I64 x) (hx2 : paid u.s.U x = true) {u' : Value} (hO : Oe w0 X c L (L.map Ve.p) (P.set n (pl ++ [x])) v5 v6 (us.set n u')) : Oi w0 X (i + 1) c L (P.set n (pl ++ [x])) v5 v6 (us.set n u') := by
  refine ⟨hO, by rw [List.length_set]; exact h.lu, h.l1, h.l6, fun j pl' hj => ?_, h.rp.push hu hp hx hx2⟩
  have hil : n < P.length := (List.getElem?_eq_some_iff.1 hp).1
  by_cases e : j = n
  · subst e
    rw [List.getElem?_set_self hil] at hj
    obtain rfl : pl ++ [x] = pl' := by simpa using hj
    rw [List.length_append]
    exact Nat.succ_le_succ hpl
  · rw [List.getElem?_set_ne (fun q => e q.symm)] at hj
    exact h.ln j pl' hj
/-- What lies there of the n-th. -/
theorem Oi.at (h : Oi w0 w i c L P v5 v6 us) {n : Nat} (hn : n < L.length) : ∃ g5 c5 g6 c6 u x pl Au cu, v5 = .slice (some ⟨g5, 0, none⟩) L.length c5 ∧ v6 = .slice (some ⟨g6, 0, none⟩) L.length c6 ∧ L[n]? = some u ∧ us[n]? = some x ∧ P[n]? = some pl ∧ x = .slice Au pl.length cu ∧ w.cell? ⟨g5, n, none⟩ = some (ptrV u.p) ∧ w.cell? ⟨g6, n, none⟩ = some x ∧ Vt w u.p c u.m1 u.m2 u.s ∧ Lw w tIn 1 x pl.length (pl.map intV) := by
  have h1 := h.l1
  have e5 : (L.map Ve.p).length = L.length := List.length_map _
  obtain ⟨g5, c5, cur5, hv5, _, _, r5, _⟩ := Lw.openR h.oe.l5 (by rw [e5]; omega)
  obtain ⟨g6, c6, cur6, hv6, _, _, r6, _⟩ := Lw.openR h.oe.l6 (by rw [h.lu]; omega)
  obtain ⟨u, hu⟩ : ∃ u, L[n]? = some u := ⟨_, List.getElem?_eq_getElem hn⟩
  obtain ⟨x, hx⟩ : ∃ x, us[n]? = some x := ⟨_, List.getElem?_eq_getElem (by rw [h.lu]; exact hn)⟩
  obtain ⟨pl, hp⟩ := h.oe.pl hx
  have lx := h.oe.li n x pl hx hp
  obtain ⟨Au, cu, ex, _⟩ := Lw.form lx
  refine ⟨g5, c5, g6, c6, u, x, pl, Au, cu, by rw [hv5, e5], by rw [hv6, h.lu], hu, hx, hp, ex, ?_, ?_, h.oe.vs.v n u hu, lx⟩
  · have := r5 n (ptrV u.p) (by rw [List.getElem?_map, List.getElem?_map, hu]; rfl)
    rwa [Nat.zero_add] at this
  · have := r6 n x hx
    rwa [Nat.zero_add] at this
theorem Oi.int {Au : Option Addr} {m cu : Nat} {pl : List Int} (h : Lw w tIn 1 (.slice Au m cu) m (pl.map intV)) {j : Nat} {y : Int} (hj : pl[j]? = some y) : ∃ gu, Au = some ⟨gu, 0, none⟩ ∧ w.cell? ⟨gu, j, none⟩ = some (.int .i64 y) := by
  have hl := h.1
  have hjl := (List.getElem?_eq_some_iff.1 hj).1
  rw [List.length_map] at hl
  obtain ⟨gu, cap, cur, hv, _, _, r, _⟩ := Lw.openR h (by omega)
  simp only [Value.slice.injEq] at hv
  refine ⟨gu, hv.1, ?_⟩
  have := r j (intV y) (by rw [List.getElem?_map, hj]; rfl)
  rwa [Nat.zero_add] at this
end
theorem Oe.cell6 {w0 w : World} {c g6 m c6 n : Nat} {L : List Ve} {ps : List Nat} {P : List (List Int)} {v5 x : Value} {us : List Value} (h : Oe w0 w c L ps P v5 (.slice (some ⟨g6, 0, none⟩) m c6) us) (hx : us[n]? = some x) : w.cell? ⟨g6, n, none⟩ = some x := by
  have hn := (List.getElem?_eq_some_iff.1 hx).1
  obtain ⟨g, cap, cur, hv, _, _, r, _⟩ := Lw.openR h.l6 (by omega)
  obtain ⟨rfl, _, _⟩ : g6 = g ∧ m = us.length ∧ c6 = cap := by simpa using hv
  have := r n x hx
  rwa [Nat.zero_add] at this
theorem Oe.cell5 {w0 w : World} {c g5 m c5 n p : Nat} {L : List Ve} {ps : List Nat} {P : List (List Int)} {v6 : Value} {us : List Value} (h : Oe w0 w c L ps P (.slice (some ⟨g5, 0, none⟩) m c5) v6 us) (hx : ps[n]? = some p) : w.cell? ⟨g5, n, none⟩ = some (ptrV p) := by
  have hn := (List.getElem?_eq_some_iff.1 hx).1
  obtain ⟨g, cap, cur, hv, _, _, r, _⟩ := Lw.openR h.l5 (by omega)
  obtain ⟨rfl, _, _⟩ : g5 = g ∧ m = ps.length ∧ c5 = cap := by simpa using hv
  have := r n (ptrV p) (by rw [List.getElem?_map, hx]; rfl)
  rwa [Nat.zero_add] at this
/-- A block that is none of theirs has changed. -/
theorem Oe.other {w0 w X : World} {c g : Nat} {L : List Ve} {ps : List Nat} {P : List (List Int)} {v5 v6 : Value} {us cs : List Value} (h : Oe w0 w c L ps P v5 v6 us) (k : w.grownBy X (some g)) (r : Row w g cs tIn) (hne : ∀ (j : Nat) (u : Value), us[j]? = some u → u.ownBlock ≠ some g) (hn : w0.heap.size ≤ g) : Oe w0 X c L ps P v5 v6 us := by
  have G : Gro (fun q => some g = some q) w X := grown_gro k
  have nr : ∀ {e : TypeId} {s n : Nat} {v : Value} {xs : List Value}, Lw w e s v n xs → e ≠ tIn → Lw X e s v n xs := fun l he => Lw.gro l G (fun q e e2 => by
    obtain ⟨cur, r2⟩ := l.row e
    cases e2
    exact he (row_ty r2 r))
  refine ⟨h.vs.gro G (fun i v hv q hq e => by cases e; exact (h.vs.v i v hv).has_row r (by decide) hq) (fun q e => by cases e; exact hn), nr h.l5 (by decide), nr h.l6 (by decide), fun j u pl h1 h2 => Lw.gro (h.li j u pl h1 h2) G (fun q e e2 => by cases e2; exact hne j u h1 e), h.lp, h.ap, h.n5, h.n6, h.nu⟩
theorem Nu.of {w0 X : World} {us : List Value} {u : Value} {pl : List Int} {q a b : Nat} (h : Lw X tIn 1 u (0 + q) ([] ++ pl.map intV)) (hq : pl.length = q) (h3 : u.ownBlock = some a ∨ u.ownBlock = some b) (hab : a ≤ b) (hn : w0.heap.size ≤ a) (ho : ∀ (k : Nat) (x : Value), us[k]? = some x → ∀ g, x.ownBlock = some g → g < a) : Nu w0 X us u pl := by
  have hu : ∀ g, u.ownBlock = some g → a ≤ g := fun g e => by
    rcases h3 with q | q
    · rw [q] at e; simp only [Option.some.injEq] at e; omega
    · rw [q] at e; simp only [Option.some.injEq] at e; omega
  refine ⟨by rw [Nat.zero_add, ← hq] at h; exact h, fun g e => Nat.le_trans hn (hu g e), fun j x hj g e e2 => ?_⟩
  have := ho j x hj g e
  have := hu g e2
  omega
theorem mem_take_succ {pl : List Int} {j : Nat} {y x : Int} (hj : pl[j]? = some y) : decide (x ∈ pl.take (j + 1)) = (decide (x ∈ pl.take j) || (y == x)) := by
  have hjl := (List.getElem?_eq_some_iff.1 hj).1
  rw [List.take_add_one, hj]
  by_cases h1 : x ∈ pl.take j
  · rw [decide_eq_true h1, Bool.true_or]
    exact decide_eq_true (List.mem_append_left _ h1)
  · rw [decide_eq_false h1, Bool.false_or]
    by_cases h2 : y = x
    · subst h2
      rw [beq_self_eq_true]
      exact decide_eq_true (List.mem_append_right _ (by simp))
    · rw [show (y == x) = false by simpa using h2]
      refine decide_eq_false (fun q => ?_)
      rcases List.mem_append.1 q with q | q
      · exact h1 q
      · simp at q
        exact h2 q.symm

end Go.Proofs.Ytkbdnebmekhcdaa

namespace Go.Proofs.Ytkbdnebmekhcdaa
open Go Go.RowKit Go.Maps
open Wd

abbrev tPR : TypeId := 27
abbrev tPRs : TypeId := 29
/-- A vault of the document's: where it lies, its list, its acts. -/
structure Re where
  q : Nat
  v : Value
  l : List Acv
/-- Vaults of both kinds, the lists of pointers. -/
structure Oq (w0 w : World) (c : Nat) (L : List Ve) (K : List Re) (ps qs : List Nat) (v5 v6 : Value) : Prop where
  vs : Vs w0 w c L
  l5 : Lw w tPV 1 v5 ps.length (ps.map ptrV)
  l6 : Lw w tPR 1 v6 qs.length (qs.map ptrV)
  ro : ∀ (j : Nat) (e : Re), K[j]? = some e → Ro w e.q e.v e.l
  ra : ∀ (j k : Nat) (e f : Re), j ≠ k → K[j]? = some e → K[k]? = some f → ∀ g, Rq e.q e.v g → ¬ Rq f.q f.v g
  rn : ∀ (j : Nat) (e : Re), K[j]? = some e → ∀ g, Rq e.q e.v g → w0.heap.size ≤ g
  n5 : ∀ g, v5.ownBlock = some g → w0.heap.size ≤ g
  n6 : ∀ g, v6.ownBlock = some g → w0.heap.size ≤ g
/-- A vault's blocks of the document's are rows of its two types. -/
theorem Ro.rows {w : World} {q : Nat} {v : Value} {l : List Acv} (h : Ro w q v l) {g : Nat} (hg : Rq q v g) : ∃ cs t, Row w g cs t ∧ (t = tRV ∨ t = tAc) := by
  rcases hg with rfl | hg
  · exact ⟨_, _, h.row, .inl rfl⟩
  · obtain ⟨cur, r⟩ := Lw.row h.own hg
    exact ⟨_, _, r, .inr rfl⟩
theorem Ro.lt {w : World} {q : Nat} {v : Value} {l : List Acv} (h : Ro w q v l) {g : Nat} (hg : Rq q v g) : g < w.heap.size := by
  obtain ⟨cs, t, r, _⟩ := h.rows hg
  exact r.lt
theorem Ro.noLw {w : World} {q n : Nat} {v u : Value} {l : List Acv} {e : TypeId} {xs : List Value} (h : Ro w q v l) (k : Lw w e 1 u n xs) (h1 : e ≠ tRV) (h2 : e ≠ tAc) : ∀ g, Rq q v g → ¬ u.ownBlock = some g := fun g hg hu => by
  obtain ⟨cs, t, r, ht⟩ := h.rows hg
  obtain ⟨cur, r2⟩ := Lw.row k hu
  have := row_ty r2 r
  rcases ht with rfl | rfl
  · exact h1 this
  · exact h2 this
theorem Ro.noV {w : World} {q p c : Nat} {v m1 m2 : Value} {l : List Acv} {s : St} (h : Ro w q v l) (k : Vt w p c m1 m2 s) : ∀ g, Rq q v g → ¬ Vb p m1 m2 g := fun g hg => by
  obtain ⟨cs, t, r, ht⟩ := h.rows hg
  refine k.has_row r ?_
  rcases ht with rfl | rfl <;> decide
theorem Ro.kv {w X : World} {q : Nat} {v : Value} {l : List Acv} {L : List Ve} (h : Ro w q v l) (k : Kv L w X) : Ro X q v l := ⟨k.row h.row (by decide), Lw.kv h.own k (by decide), h.m, h.nb⟩
section
variable {w0 w X : World} {c : Nat} {L : List Ve} {K : List Re} {ps qs : List Nat} {v5 v6 : Value}
theorem Oq.below (h : Oq w0 w c L K ps qs v5 v6) (k : Below w.heap.size w X) : Oq w0 X c L K ps qs v5 v6 :=
  ⟨h.vs.keep k, Lw.be h.l5 k, Lw.be h.l6 k, fun j e he => (h.ro j e he).be k, h.ra, h.rn, h.n5, h.n6⟩
/-- One of the program's vaults turns. -/
theorem Oq.turn (h : Oq w0 w c L K ps qs v5 v6) {i : Nat} {u : Ve} {s' : St} (hu : L[i]? = some u) (hC : VtB w u.p c u.m1 u.m2 s' X) : ∃ n1 n2, Oq w0 X (c + 2) (L.set i ⟨u.p, n1, n2, s'⟩) K ps qs v5 v6 := by
  obtain ⟨n1, n2, hV, hK⟩ := h.vs.turn hu hC
  exact ⟨n1, n2, hV, Lw.kv h.l5 hK (by decide), Lw.kv h.l6 hK (by decide), fun j e he => (h.ro j e he).kv hK, h.ra, h.rn, h.n5, h.n6⟩
/-- One of the document's turns. -/
theorem Oq.rturn (h : Oq w0 w c L K ps qs v5 v6) {i : Nat} {e : Re} {l' : List Acv} (he : K[i]? = some e) (hC : Rt w X e.q e.v l') : ∃ v', Oq w0 X c L (K.set i ⟨e.q, v', l'⟩) ps qs v5 v6 := by
  obtain ⟨v', hR, G, hv⟩ := hC
  have hil : i < K.length := (List.getElem?_eq_some_iff.1 he).1
  have h0 := h.ro i e he
  have new : ∀ g, Rq e.q v' g → Rq e.q e.v g ∨ w.heap.size ≤ g := fun g hg => by
    rcases hg with rfl | hg
    · exact .inl (.inl rfl)
    · rcases hv g hg with z | z
      · exact .inl (.inr z)
      · exact .inr z
  refine ⟨v', h.vs.gro G (fun j u hu g hg z => h0.noV (h.vs.v j u hu) g z hg) (h.rn i e he), Lw.gro h.l5 G (fun g z hg => h0.noLw h.l5 (by decide) (by decide) g hg z), Lw.gro h.l6 G (fun g z hg => h0.noLw h.l6 (by decide) (by decide) g hg z), fun j f hf => ?_, fun j k f g' hjk hf hg g z z2 => ?_, fun j f hf g hg => ?_, h.n5, h.n6⟩
  · by_cases ej : j = i
    · subst ej
      rw [List.getElem?_set_self hil] at hf
      cases hf
      exact hR
    · rw [List.getElem?_set_ne (fun z => ej z.symm)] at hf
      exact (h.ro j f hf).gro G (fun g hg z => h.ra j i f e ej hf he g hg z)
  · by_cases ej : j = i
    · subst ej
      rw [List.getElem?_set_self hil] at hf
      rw [List.getElem?_set_ne hjk] at hg
      cases hf
      rcases new g z with y | y
      · exact h.ra j k e g' hjk he hg g y z2
      · have := (h.ro k g' hg).lt z2
        omega
    · rw [List.getElem?_set_ne (fun z => ej z.symm)] at hf
      by_cases ek : k = i
      · subst ek
        rw [List.getElem?_set_self hil] at hg
        cases hg
        rcases new g z2 with y | y
        · exact h.ra j k f e hjk hf he g z y
        · have := (h.ro j f hf).lt z
          omega
      · rw [List.getElem?_set_ne (fun z => ek z.symm)] at hg
        exact h.ra j k f g' hjk hf hg g z z2
  · by_cases ej : j = i
    · subst ej
      rw [List.getElem?_set_self hil] at hf
      cases hf
      rcases new g hg with y | y
      · exact h.rn j e he g y
      · exact Nat.le_trans h.vs.be.size y
    · rw [List.getElem?_set_ne (fun z => ej z.symm)] at hf
      exact h.rn j f hf g hg
/-- One more of the program's. -/
theorem Oq.more (h : Oq w0 w c L K ps qs v5 v6) {q : Nat} {n1 n2 : Value} {s : St} (hq : w.heap.size ≤ q) (hV : Vt X q c n1 n2 s) (h1 : ∀ g, Own1 n1 g → w.heap.size ≤ g) (h2 : ∀ g, Own1 n2 g → w.heap.size ≤ g) (k : Below w.heap.size w X) : Oq w0 X c (L ++ [⟨q, n1, n2, s⟩]) K ps qs v5 v6 :=
  have h' := h.below k
  ⟨h.vs.more hq hV h1 h2 k, h'.l5, h'.l6, h'.ro, h.ra, h.rn, h.n5, h.n6⟩
/-- One more of the document's. -/
theorem Oq.rmore (h : Oq w0 w c L K ps qs v5 v6) {q : Nat} {v : Value} {l : List Acv} (hq : w.heap.size ≤ q) (hR : Ro X q v l) (hv : ∀ g, v.ownBlock = some g → w.heap.size ≤ g) (k : Below w.heap.size w X) : Oq w0 X c L (K ++ [⟨q, v, l⟩]) ps qs v5 v6 := by
  have h' := h.below k
  have new : ∀ g, Rq q v g → w.heap.size ≤ g := fun g hg => by
    rcases hg with rfl | hg
    · exact hq
    · exact hv g hg
  have cs : ∀ (j : Nat) (e : Re), (K ++ [(⟨q, v, l⟩ : Re)])[j]? = some e → (j < K.length ∧ K[j]? = some e) ∨ (j = K.length ∧ e = ⟨q, v, l⟩) := fun j e he => by
    by_cases hj : j < K.length
    · rw [List.getElem?_append_left hj] at he
      exact .inl ⟨hj, he⟩
    · rw [List.getElem?_append_right (by omega)] at he
      have hj0 : j - K.length = 0 := by have := (List.getElem?_eq_some_iff.1 he).1; simpa using this
      rw [hj0] at he
      exact .inr ⟨by omega, (Option.some.inj he).symm⟩
  refine ⟨h'.vs, h'.l5, h'.l6, fun j e he => ?_, fun j k' e f hjk he hf g z z2 => ?_, fun j e he g hg => ?_, h.n5, h.n6⟩
  · rcases cs j e he with ⟨_, he⟩ | ⟨_, rfl⟩
    · exact h'.ro j e he
    · exact hR
  · rcases cs j e he with ⟨_, a1⟩ | ⟨a1, rfl⟩ <;> rcases cs k' f hf with ⟨_, a2⟩ | ⟨a2, rfl⟩
    · exact h.ra j k' e f hjk a1 a2 g z z2
    · have := (h.ro j e a1).lt z; have := new g z2; omega
    · have := (h.ro k' f a2).lt z2; have := new g z; omega
    · omega
  · rcases cs j e he with ⟨_, a1⟩ | ⟨_, rfl⟩
    · exact h.rn j e a1 g hg
    · exact Nat.le_trans h.vs.be.size (new g hg)
/-- The list of the program's vaults has grown. -/
theorem Oq.app5 (h : Oq w0 w c L K ps qs v5 v6) {v' : Value} {q : Nat} (q1 : Lw X tPV 1 v' (ps.length + 1) (ps.map ptrV ++ [ptrV q])) (q2 : w.grownBy X v5.ownBlock) (q3 : v'.ownBlock = v5.ownBlock ∨ v'.ownBlock = some w.heap.size) : Oq w0 X c L K (ps ++ [q]) qs v' v6 := by
  have G := grown_gro q2
  refine ⟨h.vs.gro G (h.vs.lw h.l5 (by decide)) h.n5, by rw [List.length_append, List.map_append]; exact q1, Lw.gro h.l6 G (fun g e e2 => Lw.apart h.l6 h.l5 (by decide) g e e2), fun j e he => (h.ro j e he).gro G (fun g hg => (h.ro j e he).noLw h.l5 (by decide) (by decide) g hg), h.ra, h.rn, fun g e => ?_, h.n6⟩
  rcases q3 with z | z
  · exact h.n5 g (z ▸ e)
  · rw [z] at e
    simp only [Option.some.injEq] at e
    have := h.vs.be.size
    omega
/-- The list of the document's has grown. -/
theorem Oq.app6 (h : Oq w0 w c L K ps qs v5 v6) {v' : Value} {q : Nat} (q1 : Lw X tPR 1 v' (qs.length + 1) (qs.map ptrV ++ [ptrV q])) (q2 : w.grownBy X v6.ownBlock) (q3 : v'.ownBlock = v6.ownBlock ∨ v'.ownBlock = some w.heap.size) : Oq w0 X c L K ps (qs ++ [q]) v5 v' := by
  have G := grown_gro q2
  refine ⟨h.vs.gro G (h.vs.lw h.l6 (by decide)) h.n6, Lw.gro h.l5 G (fun g e e2 => Lw.apart h.l5 h.l6 (by decide) g e e2), by rw [List.length_append, List.map_append]; exact q1, fun j e he => (h.ro j e he).gro G (fun g hg => (h.ro j e he).noLw h.l6 (by decide) (by decide) g hg), h.ra, h.rn, h.n5, fun g e => ?_⟩
  rcases q3 with z | z
  · exact h.n6 g (z ▸ e)
  · rw [z] at e
    simp only [Option.some.injEq] at e
    have := h.vs.be.size
    omega
theorem Oq.cell5 {g5 m c5 n p : Nat} (h : Oq w0 w c L K ps qs (.slice (some ⟨g5, 0, none⟩) m c5) v6) (hx : ps[n]? = some p) : w.cell? ⟨g5, n, none⟩ = some (ptrV p) := by
  have hn := (List.getElem?_eq_some_iff.1 hx).1
  obtain ⟨g, cap, cur, hv, _, _, r, _⟩ := Lw.openR h.l5 (by omega)
  obtain ⟨rfl, _, _⟩ : g5 = g ∧ m = ps.length ∧ c5 = cap := by simpa using hv
  have := r n (ptrV p) (by rw [List.getElem?_map, hx]; rfl)
  rwa [Nat.zero_add] at this
theorem Oq.cell6 {g6 m c6 n p : Nat} (h : Oq w0 w c L K ps qs v5 (.slice (some ⟨g6, 0, none⟩) m c6)) (hx : qs[n]? = some p) : w.cell? ⟨g6, n, none⟩ = some (ptrV p) := by
  have hn := (List.getElem?_eq_some_iff.1 hx).1
  obtain ⟨g, cap, cur, hv, _, _, r, _⟩ := Lw.openR h.l6 (by omega)
  obtain ⟨rfl, _, _⟩ : g6 = g ∧ m = qs.length ∧ c6 = cap := by simpa using hv
  have := r n (ptrV p) (by rw [List.getElem?_map, hx]; rfl)
  rwa [Nat.zero_add] at this
end

end Go.Proofs.Ytkbdnebmekhcdaa

namespace Go.Proofs.Ytkbdnebmekhcdaa
open Go Go.RowKit Go.Maps
open Wd

abbrev tLB : TypeId := 55
theorem und_LB : Try.prog.underlying tLB = some (.slice tBo) := by kernel_rfl
theorem all_Bo : (Try.prog.info? tBo).map (fun i => (i.size, i.bytes, i.zero.map (·.cells.size))) = some (1, 1, some 1) := by kernel_rfl
section
variable {P : Program} {ops : Array Oper} {Q : Exit → Act → World → Prop} {o : Oper} {a : Act} {w : World} {K : Act → World → Prop} {i : Nat}
theorem wpOp_off (ho : ops[i]? = some o) (hw : Region.wanted o (yielded ops a.tmps) = false) (h : K (a.put o.dst undef) w) : wpOp P ops Q i K a w := by
  unfold wpOp
  rw [ho]
  simp only [hw]
  exact h
theorem unwanted_g {g : Nat} {b : Bool} {t : Tmp} (ho : o.guard = some (g, b)) (hg : ((ops[g]?).bind fun o => o.dst) = some t) (h : a.eval (.tmp t) = .bool (!b)) (hs : t < a.tmps.size) : Region.wanted o (yielded ops a.tmps) = false := by
  have h2 : a.tmps[t]? = some (.bool (!b)) := by
    rw [Array.getElem?_eq_getElem hs]
    have : a.tmps[t]?.getD undef = .bool (!b) := by simpa [Act.eval] using h
    rw [Array.getElem?_eq_getElem hs] at this
    simpa using this
  cases b <;> simp [Region.wanted, ho, yielded, hg, h2]
end

section
variable {Q : Exit → Act → World → Prop} {o : Oper} {a : Act} {w : World} {K : Act → World → Prop}
theorem wpR_sf3 {x : Operand} (b f : Nat) (ho : o.op = .fieldAddr 35 x 3) (hx : a.eval x = .pointer (some ⟨b, f, none⟩)) (h : K (a.put o.dst (.pointer (some ⟨b, f + 3, none⟩))) w) : Oper.wp Try.prog o a w K Q := by
  obtain ⟨dst, op, ty, pos, after, guard⟩ := o
  simp only at ho
  subst ho
  unfold Oper.wp execOp
  simp only [hx]
  go_simp
  exact h
theorem wpR_eqIb {x y : Operand} {t yt : TypeId} (ho : o.op = .binOp .eql t x y yt) (m n : Int) (B : Bool) (hB : (m == n) = B) (hx : a.eval x = .int .i64 m) (hy : a.eval y = .int .i64 n) (h : K (a.put o.dst (.bool B)) w) : Oper.wp Try.prog o a w K Q := wpR_eqI ho m n hx hy (by rw [hB]; exact h)
theorem wpR_eqBb {x y : Operand} {yt : TypeId} (ho : o.op = .binOp .eql tBo x y yt) (m n B : Bool) (hB : (m == n) = B) (hx : a.eval x = .bool m) (hy : a.eval y = .bool n) (h : K (a.put o.dst (.bool B)) w) : Oper.wp Try.prog o a w K Q := wpR_eqB ho m n hx hy (by rw [hB]; exact h)
theorem wpR_neBb {x y : Operand} {yt : TypeId} (ho : o.op = .binOp .neq tBo x y yt) (m n B : Bool) (hB : (m != n) = B) (hx : a.eval x = .bool m) (hy : a.eval y = .bool n) (h : K (a.put o.dst (.bool B)) w) : Oper.wp Try.prog o a w K Q := wpR_neB ho m n hx hy (by rw [hB]; exact h)
end
theorem Vl.gb {w0 w X : World} {p c : Nat} {s : St} {e : TypeId} {sz n : Nat} {v : Value} {xs : List Value} (h : Vl w0 w p c s) (l : Lw w e sz v n xs) (he : e ≠ tV) (k : w.grownBy X v.ownBlock) (hn : ∀ g, v.ownBlock = some g → w0.heap.size ≤ g) : Vl w0 X p c s := by
  obtain ⟨m1, m2, hV, hl⟩ := h
  have G := grown_gro k
  have hV' : Vt X p c m1 m2 s := hV.gro G (fun g hg e2 => by
    obtain ⟨cur, r⟩ := l.row e2
    exact hV.has_row r he hg)
  exact ⟨m1, m2, hV', hl.p, hl.a, hl.b, hl.be.trans (G.to_below hl.be.size hn)⟩
theorem Vl.row_ne {w0 w : World} {p c b : Nat} {s : St} {cs : List Value} {t : TypeId} (h : Vl w0 w p c s) (r : Row w b cs t) (ht : t ≠ tV) : b ≠ p := by
  obtain ⟨m1, m2, hV, hl⟩ := h
  rintro rfl
  exact ht (row_ty r hV.row)
theorem Lw.kq {w X : World} {p : Nat} {e : TypeId} {sz n : Nat} {v : Value} {xs : List Value} (h : Lw w e sz v n xs) (k : Kq p w X) (hp : ∀ cur g, v.ownBlock = some g → Row w g cur e → g ≠ p) : Lw X e sz v n xs := by
  refine Lw.block h (fun g hg => ?_)
  obtain ⟨cur, r⟩ := h.row hg
  exact (k.row r (hp cur g hg r)).trans r.symm
/-- A vault, what it told ahead, and the list of what was paid. -/
structure Rb (w0 w : World) (p c : Nat) (s : St) (b6 : Nat) (L6 : List Value) (v7 : Value) (J : Nat) (bl : List Value) : Prop where
  v : Vl w0 w p c s
  r : Row w b6 L6 tSn
  l : Lw w tBo 1 v7 J bl
  n : ∀ g, v7.ownBlock = some g → w0.heap.size ≤ g
section
variable {w0 w X : World} {p c J b6 : Nat} {s : St} {L6 bl : List Value} {v7 : Value}
theorem Rb.be (h : Rb w0 w p c s b6 L6 v7 J bl) (k : Below w.heap.size w X) : Rb w0 X p c s b6 L6 v7 J bl := ⟨h.v.be k, Row.below h.r k h.r.lt, Lw.be h.l k, h.n⟩
theorem Rb.grow (h : Rb w0 w p c s b6 L6 v7 J bl) {v' b : Value} (q1 : Lw X tBo 1 v' (J + 1) (bl ++ [b])) (q2 : w.grownBy X v7.ownBlock) (q3 : v'.ownBlock = v7.ownBlock ∨ v'.ownBlock = some w.heap.size) : Rb w0 X p c s b6 L6 v' (J + 1) (bl ++ [b]) := by
  refine ⟨h.v.gb h.l (by decide) q2 h.n, (grown_gro q2).row h.r (fun e => ?_), q1, fun g e => ?_⟩
  · obtain ⟨cur, r⟩ := h.l.row e
    exact absurd (row_ty h.r r) (by decide)
  · rcases q3 with q | q
    · exact h.n g (q ▸ e)
    · rw [q] at e
      simp only [Option.some.injEq] at e
      have := h.v.below.size
      omega
theorem Rb.turn (h : Rb w0 w p c s b6 L6 v7 J bl) {s' : St} (hv : Vl w0 X p (c + 2) s') (k : Kq p w X) : Rb w0 X p (c + 2) s' b6 L6 v7 J bl :=
  ⟨hv, k.row h.r (h.v.row_ne h.r (by decide)), Lw.kq h.l k (fun _ _ _ r => h.v.row_ne r (by decide)), h.n⟩
end
theorem bl_at {w : World} {v7 : Value} {J : Nat} {bl : List Value} (h : Lw w tBo 1 v7 J bl) (hJ : 0 < J) : ∃ g cap, v7 = .slice (some ⟨g, 0, none⟩) J cap ∧ w.rangeAt g 0 bl := by
  obtain ⟨g, cap, cur, hv, _, _, r, _⟩ := Lw.openR h hJ
  exact ⟨g, cap, hv, r⟩
def pbs (s : St) (l : List Stv) : List Value := l.map fun r => .bool (paid s.U r.ix)

end Go.Proofs.Ytkbdnebmekhcdaa

namespace Go.Proofs.Ytkbdnebmekhcdaa
open Go Go.RowKit Go.Maps
open Wd

theorem und_PRs : Try.prog.underlying tPRs = some (.slice tPR) := by kernel_rfl
theorem sz_PR : (Try.prog.info? tPR).map (·.size) = some 1 := by kernel_rfl
theorem all_PR : (Try.prog.info? tPR).map (fun i => (i.size, i.bytes, i.zero.map (·.cells.size))) = some (1, 8, some 1) := by kernel_rfl
theorem ld_PR (w : World) (b f : Nat) (v : Value) (h : w.cell? ⟨b, f, none⟩ = some v) : (loadVar tPR ⟨b, f, none⟩).run Try.prog w = .ok v w := by
  simp [loadVar, isAgg, run_underlying Try.underlying27, h]
structure Oj (w0 w : World) (i c : Nat) (L : List Ve) (K : List Re) (v5 v6 : Value) : Prop where
  oq : Oq w0 w c L K (L.map Ve.p) (K.map Re.q) v5 v6
  lk : K.length = L.length
  l1 : 1 ≤ L.length
  l6 : L.length ≤ 6
  ln : ∀ (j : Nat) (e : Re), K[j]? = some e → e.l.length ≤ i
  rl : ∀ (j : Nat) (u : Ve) (e : Re), L[j]? = some u → K[j]? = some e → Rel e.l u.s
theorem Oj.start {w0 X : World} {p q g5 g6 : Nat} {m1 m2 : Value} (hV : Vs w0 X 0 [⟨p, m1, m2, ⟨fun _ => none, fun _ => 0, 0⟩⟩]) (hR : Ro X q (.slice none 0 0) []) (hq : w0.heap.size ≤ q) (r5 : Row X g5 [ptrV p] tPV) (r6 : Row X g6 [ptrV q] tPR) (h5 : w0.heap.size ≤ g5) (h6 : w0.heap.size ≤ g6) :
    Oj w0 X 0 0 [⟨p, m1, m2, ⟨fun _ => none, fun _ => 0, 0⟩⟩] [⟨q, .slice none 0 0, []⟩] (.slice (some ⟨g5, 0, none⟩) 1 1) (.slice (some ⟨g6, 0, none⟩) 1 1) := by
  have one : ∀ {α : Type} {a b : α} {j : Nat}, [a][j]? = some b → j = 0 ∧ a = b := fun {α a b j} h => by
    have hj := (List.getElem?_eq_some_iff.1 h).1
    obtain rfl : j = 0 := by simpa using hj
    exact ⟨rfl, by simpa using h⟩
  refine ⟨⟨hV, lw_one r5, lw_one r6, fun j e he => ?_, fun j k e f hjk he hf => ?_, fun j e he g hg => ?_, fun g e => ?_, fun g e => ?_⟩, rfl, by show 1 ≤ 1; decide, by show 1 ≤ 6; decide, fun j e he => ?_, fun j u e hu he => ?_⟩
  · obtain ⟨_, rfl⟩ := one he; exact hR
  · have := (one he).1; have := (one hf).1; omega
  · obtain ⟨_, rfl⟩ := one he
    rcases hg with rfl | hg
    · exact hq
    · cases hg
  · cases e; exact h5
  · cases e; exact h6
  · obtain ⟨_, rfl⟩ := one he; exact Nat.le_refl _
  · obtain ⟨_, rfl⟩ := one he
    obtain ⟨_, rfl⟩ := one hu
    exact Rel.none
section
variable {w0 w X : World} {i c : Nat} {L : List Ve} {K : List Re} {v5 v6 : Value}
theorem Oj.be (h : Oj w0 w i c L K v5 v6) (k : Below w.heap.size w X) : Oj w0 X i c L K v5 v6 := ⟨h.oq.below k, h.lk, h.l1, h.l6, h.ln, h.rl⟩
theorem map_set_q (K : List Re) (n : Nat) (e : Re) (he : K[n]? = some e) (v : Value) (l : List Acv) : (K.set n ⟨e.q, v, l⟩).map Re.q = K.map Re.q := by
  rw [List.map_set]
  refine List.ext_getElem? fun j => ?_
  by_cases z : n = j
  · subst z
    rw [List.getElem?_set_self (by rw [List.length_map]; exact (List.getElem?_eq_some_iff.1 he).1), List.getElem?_map, he]
    rfl
  · rw [List.getElem?_set_ne z]
/-- Both have turned. -/
theorem Oj.turn (h : Oj w0 w i c L K v5 v6) {n : Nat} {u : Ve} {e : Re} (hu : L[n]? = some u) (he : K[n]? = some e) {s' : St} {n1 n2 v' : Value} {l' : List Acv} (hR : Rel l' s') (hl : l'.length ≤ e.l.length + 1) (hO : Oq w0 X (c + 2) (L.set n ⟨u.p, n1, n2, s'⟩) (K.set n ⟨e.q, v', l'⟩) (L.map Ve.p) (K.map Re.q) v5 v6) : Oj w0 X (i + 1) (c + 2) (L.set n ⟨u.p, n1, n2, s'⟩) (K.set n ⟨e.q, v', l'⟩) v5 v6 := by
  have h1 : n < L.length := (List.getElem?_eq_some_iff.1 hu).1
  have h2 : n < K.length := (List.getElem?_eq_some_iff.1 he).1
  refine ⟨by rw [map_set_p L n u hu, map_set_q K n e he]; exact hO, by rw [List.length_set, List.length_set]; exact h.lk, by rw [List.length_set]; exact h.l1, by rw [List.length_set]; exact h.l6, fun j f hf => ?_, fun j x f hx hf => ?_⟩
  · by_cases z : j = n
    · subst z
      rw [List.getElem?_set_self h2] at hf
      cases hf
      have := h.ln j e he
      show l'.length ≤ i + 1
      omega
    · rw [List.getElem?_set_ne (fun y => z y.symm)] at hf
      exact Nat.le_succ_of_le (h.ln j f hf)
  · by_cases z : j = n
    · subst z
      rw [List.getElem?_set_self h2] at hf
      rw [List.getElem?_set_self h1] at hx
      cases hf
      cases hx
      exact hR
    · rw [List.getElem?_set_ne (fun y => z y.symm)] at hf hx
      exact h.rl j x f hx hf
/-- One more of each. -/
theorem Oj.more (h : Oj w0 w i c L K v5 v6) {n : Nat} {u : Ve} {e : Re} (hu : L[n]? = some u) (he : K[n]? = some e) (hm : L.length < 6) {q q' : Nat} {n1 n2 v5' v6' v' : Value} (hO : Oq w0 X c (L ++ [⟨q, n1, n2, u.s⟩]) (K ++ [⟨q', v', e.l⟩]) (L.map Ve.p ++ [q]) (K.map Re.q ++ [q']) v5' v6') : Oj w0 X i c (L ++ [⟨q, n1, n2, u.s⟩]) (K ++ [⟨q', v', e.l⟩]) v5' v6' := by
  have cs : ∀ {α : Type} (l : List α) (a b : α) (j : Nat), (l ++ [a])[j]? = some b → (j < l.length ∧ l[j]? = some b) ∨ (j = l.length ∧ b = a) := fun {α} l a b j hb => by
    by_cases hj : j < l.length
    · rw [List.getElem?_append_left hj] at hb
      exact .inl ⟨hj, hb⟩
    · rw [List.getElem?_append_right (by omega)] at hb
      have hj0 : j - l.length = 0 := by have := (List.getElem?_eq_some_iff.1 hb).1; simpa using this
      rw [hj0] at hb
      exact .inr ⟨by omega, (Option.some.inj hb).symm⟩
  refine ⟨by rw [List.map_append, List.map_append]; exact hO, by rw [List.length_append, List.length_append, h.lk]; rfl, by rw [List.length_append]; exact Nat.le_trans h.l1 (Nat.le_add_right _ _), by rw [List.length_append]; exact hm, fun j f hf => ?_, fun j x f hx hf => ?_⟩
  · rcases cs K _ f j hf with ⟨_, hf⟩ | ⟨_, rfl⟩
    · exact h.ln j f hf
    · exact h.ln n e he
  · have hlk := h.lk
    rcases cs K _ f j hf with ⟨a1, hf⟩ | ⟨a1, rfl⟩ <;> rcases cs L _ x j hx with ⟨a2, hx⟩ | ⟨a2, rfl⟩
    · exact h.rl j x f hx hf
    · omega
    · omega
    · exact h.rl n u e hu he
theorem Oj.at (h : Oj w0 w i c L K v5 v6) {n : Nat} (hn : n < L.length) : ∃ g5 c5 g6 c6 u e, v5 = .slice (some ⟨g5, 0, none⟩) L.length c5 ∧ v6 = .slice (some ⟨g6, 0, none⟩) L.length c6 ∧ L[n]? = some u ∧ K[n]? = some e := by
  have h1 := h.l1
  have e5 : (L.map Ve.p).length = L.length := List.length_map _
  have e6 : (K.map Re.q).length = L.length := by rw [List.length_map, h.lk]
  obtain ⟨g5, c5, cur5, hv5, _⟩ := Lw.openR h.oq.l5 (by rw [e5]; omega)
  obtain ⟨g6, c6, cur6, hv6, _⟩ := Lw.openR h.oq.l6 (by rw [e6]; omega)
  exact ⟨g5, c5, g6, c6, _, _, by rw [hv5, e5], by rw [hv6, e6], List.getElem?_eq_getElem hn, List.getElem?_eq_getElem (by rw [h.lk]; exact hn)⟩
end

end Go.Proofs.Ytkbdnebmekhcdaa
