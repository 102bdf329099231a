/-
  Several vaults side by side, all made since w0.
-/
import Derived.Test.YtefjonidpmpjbaaEsS
import Derived.Test.YtefjonidpmpjbaaEsO
namespace Go.Proofs.Ytefjonidpmpjbaa
open Go Go.RowKit Go.Maps
open Wd

/-- A vault: where it lies, its maps, its state. -/
structure Ve where
  p : Nat
  m1 : Value
  m2 : Value
  s : St
def Ve.has (v : Ve) (g : Nat) : Prop := Vb v.p v.m1 v.m2 g
structure Vs (w0 w : World) (c : Nat) (L : List Ve) : Prop where
  v : ∀ (i : Nat) (v : Ve), L[i]? = some v → Vt w v.p c v.m1 v.m2 v.s
  ap : ∀ (i j : Nat) (u v : Ve), i ≠ j → L[i]? = some u → L[j]? = some v → ∀ g, u.has g → ¬ v.has g
  n : ∀ (i : Nat) (v : Ve), L[i]? = some v → ∀ g, v.has g → w0.heap.size ≤ g
  be : Below w0.heap.size w0 w
/-- Every row that is no vault's stays. -/
structure Kv (L : List Ve) (w w' : World) : Prop where
  size : w.heap.size ≤ w'.heap.size
  row : ∀ {b : Nat} {cs : List Value} {t : TypeId}, Row w b cs t → t ≠ tV → Row w' b cs t

theorem Vt.has_lt {w : World} {p c : Nat} {m1 m2 : Value} {s : St} (h : Vt w p c m1 m2 s) {g : Nat} (hg : Vb p m1 m2 g) : g < w.heap.size := by
  obtain ⟨f, p1, p2⟩ := h.pd
  rcases hg with rfl | hg | hg
  · exact h.row.lt
  · exact h.tk.lt hg
  · exact p1.lt hg
theorem Vt.has_row {w : World} {p c b : Nat} {m1 m2 : Value} {s : St} {cs : List Value} {t : TypeId} (h : Vt w p c m1 m2 s) (r : Row w b cs t) (ht : t ≠ tV) : ¬ Vb p m1 m2 b := by
  obtain ⟨f, p1, p2⟩ := h.pd
  rintro (rfl | hg | hg)
  · exact ht (row_ty r h.row)
  · exact h.tk.notrow r hg
  · exact p1.notrow r hg
theorem Kv.be {L : List Ve} {w w' : World} (h : Below w.heap.size w w') : Kv L w w' := ⟨h.size, fun r _ => Row.below r h r.lt⟩
theorem Vs.keep {w0 w w' : World} {c : Nat} {L : List Ve} (h : Vs w0 w c L) (hB : Below w.heap.size w w') : Vs w0 w' c L :=
  ⟨fun i v hv => (h.v i v hv).be hB, h.ap, h.n, h.be.trans (hB.mono h.be.size)⟩
theorem Vs.mono {w0 w : World} {c d : Nat} {L : List Ve} (h : Vs w0 w c L) (hd : c ≤ d) : Vs w0 w d L := ⟨fun i v hv => (h.v i v hv).mono hd, h.ap, h.n, h.be⟩
/-- One of them turns. -/
theorem Vs.turn {w0 w w' : World} {c i : Nat} {L : List Ve} {u : Ve} {s' : St} (h : Vs w0 w c L) (hu : L[i]? = some u) (hC : VtB w u.p c u.m1 u.m2 s' w') :
    ∃ n1 n2, Vs w0 w' (c + 2) (L.set i ⟨u.p, n1, n2, s'⟩) ∧ Kv L w w' := by
  obtain ⟨n1, n2, hV', k1, k2, hG⟩ := hC
  have hil : i < L.length := (List.getElem?_eq_some_iff.1 hu).1
  have hs := h.be.size
  -- what the turned vault has: what it had, or new blocks
  have new : ∀ g, Ve.has ⟨u.p, n1, n2, s'⟩ g → u.has g ∨ w.heap.size ≤ g := by
    rintro g (hg | hg | hg)
    · exact .inl (.inl hg)
    · rcases k1 with k | k
      · exact .inl (.inr (.inl (by rw [← k]; exact hg)))
      · exact .inr (k g hg)
    · rcases k2 with k | k
      · exact .inl (.inr (.inr (by rw [← k]; exact hg)))
      · exact .inr (k g hg)
  have lt : ∀ (j : Nat) (v : Ve), L[j]? = some v → ∀ g, v.has g → g < w.heap.size := fun j v hv g hg => (h.v j v hv).has_lt hg
  refine ⟨n1, n2, ⟨fun j v hv => ?_, fun j k v x hjk hv hx g hg hg2 => ?_, fun j v hv g hg => ?_, h.be.trans (hG.to_below hs fun k hk => h.n i u hu k hk)⟩, hG.size, fun {b cs t} r ht => hG.row r ((h.v i u hu).has_row r ht)⟩
  · by_cases e : j = i
    · subst e
      rw [List.getElem?_set_self hil] at hv
      cases hv
      exact hV'
    · rw [List.getElem?_set_ne (fun q => e q.symm)] at hv
      exact ((h.v j v hv).gro hG fun k hk hk2 => h.ap j i v u e hv hu k hk hk2).mono (by omega)
  · by_cases e : j = i
    · subst e
      rw [List.getElem?_set_self hil] at hv
      rw [List.getElem?_set_ne hjk] at hx
      cases hv
      rcases new g hg with q | q
      · exact h.ap j k u x hjk hu hx g q hg2
      · have := lt k x hx g hg2
        omega
    · rw [List.getElem?_set_ne (fun q => e q.symm)] at hv
      by_cases e2 : k = i
      · subst e2
        rw [List.getElem?_set_self hil] at hx
        cases hx
        rcases new g hg2 with q | q
        · exact h.ap j k v u hjk hv hu g hg q
        · have := lt j v hv g hg
          omega
      · rw [List.getElem?_set_ne (fun q => e2 q.symm)] at hx
        exact h.ap j k v x hjk hv hx g hg hg2
  · by_cases e : j = i
    · subst e
      rw [List.getElem?_set_self hil] at hv
      cases hv
      rcases new g hg with q | q
      · exact h.n j u hu g q
      · omega
    · rw [List.getElem?_set_ne (fun q => e q.symm)] at hv
      exact h.n j v hv g hg
/-- One more. -/
theorem Vs.more {w0 w w' : World} {c q : Nat} {L : List Ve} {n1 n2 : Value} {s : St} (h : Vs w0 w c L) (hq : w.heap.size ≤ q) (hV : Vt w' q c n1 n2 s) (h1 : ∀ g, Own1 n1 g → w.heap.size ≤ g) (h2 : ∀ g, Own1 n2 g → w.heap.size ≤ g) (hB : Below w.heap.size w w') : Vs w0 w' c (L ++ [⟨q, n1, n2, s⟩]) := by
  have hs := h.be.size
  have new : ∀ g, Ve.has ⟨q, n1, n2, s⟩ g → w.heap.size ≤ g := by
    rintro g (hg | hg | hg)
    · exact hg ▸ hq
    · exact h1 g hg
    · exact h2 g hg
  have lt : ∀ (j : Nat) (v : Ve), L[j]? = some v → ∀ g, v.has g → g < w.heap.size := fun j v hv g hg => (h.v j v hv).has_lt hg
  have cs : ∀ j v, (L ++ [(⟨q, n1, n2, s⟩ : Ve)])[j]? = some v → (j < L.length ∧ L[j]? = some v) ∨ (j = L.length ∧ v = ⟨q, n1, n2, s⟩) := fun j v hv => by
    by_cases hj : j < L.length
    · rw [List.getElem?_append_left hj] at hv
      exact .inl ⟨hj, hv⟩
    · rw [List.getElem?_append_right (by omega)] at hv
      have hj0 : j - L.length = 0 := by
        have := (List.getElem?_eq_some_iff.1 hv).1
        simpa using this
      rw [hj0] at hv
      exact .inr ⟨by omega, (Option.some.inj hv).symm⟩
  refine ⟨fun j v hv => ?_, fun j k v x hjk hv hx g hg hg2 => ?_, fun j v hv g hg => ?_, h.be.trans (hB.mono hs)⟩
  · rcases cs j v hv with ⟨_, hv⟩ | ⟨_, rfl⟩
    · exact (h.v j v hv).be hB
    · exact hV
  · rcases cs j v hv with ⟨_, hv⟩ | ⟨e1, rfl⟩ <;> rcases cs k x hx with ⟨_, hx⟩ | ⟨e2, rfl⟩
    · exact h.ap j k v x hjk hv hx g hg hg2
    · have := lt j v hv g hg; have := new g hg2; omega
    · have := lt k x hx g hg2; have := new g hg; omega
    · omega
  · rcases cs j v hv with ⟨_, hv⟩ | ⟨_, rfl⟩
    · exact h.n j v hv g hg
    · exact Nat.le_trans hs (new g hg)

end Go.Proofs.Ytefjonidpmpjbaa
