/-
  EscrowOnce: laws of the walk.
-/
import Derived.Test.YtkbdnebmekhcdaaEsT
import Derived.Test.YtkbdnebmekhcdaaLws
import Derived.Test.YtkbdnebmekhcdaaEsQ
import Derived.Test.YtkbdnebmekhcdaaTRl
import Derived.BigQuiet

namespace Go.Proofs.Ytkbdnebmekhcdaa
open Go Go.RowKit Go.Maps
open Wd

abbrev tPV : TypeId := 24
abbrev tPVs : TypeId := 26
abbrev tLI : TypeId := 48
abbrev tLLI : TypeId := 47
abbrev tIn : TypeId := 3

def ptrV (p : Nat) : Value := .pointer (some ⟨p, 0, none⟩)
def intV (x : Int) : Value := .int .i64 x
theorem Lw.row {w : World} {e : TypeId} {s n : Nat} {v : Value} {xs : List Value} (h : Lw w e s v n xs) {g : Nat} (hg : v.ownBlock = some g) : ∃ cur, Row w g cur e := by
  obtain ⟨_, h2⟩ := h
  rcases h2 with ⟨h2, _⟩ | ⟨g', cap, cur, hv, _, hh, _⟩
  · rw [h2] at hg; cases hg
  · rw [hv] at hg
    obtain rfl : g' = g := by simpa [Value.ownBlock] using hg
    exact ⟨cur.toList, by unfold Row; rw [hh]⟩
theorem Lw.apart {w : World} {e f : TypeId} {s n s' n' : Nat} {u v : Value} {xs ys : List Value} (h : Lw w e s u n xs) (k : Lw w f s' v n' ys) (hne : e ≠ f) : ∀ g, u.ownBlock = some g → v.ownBlock ≠ some g := fun g hu hv => by
  obtain ⟨c1, r1⟩ := h.row hu
  obtain ⟨c2, r2⟩ := k.row hv
  exact hne (row_ty r1 r2)
theorem Vs.gro {R : Nat → Prop} {w0 w X : World} {c : Nat} {L : List Ve} (h : Vs w0 w c L) (k : Gro R w X) (hR : ∀ (i : Nat) (v : Ve), L[i]? = some v → ∀ g, v.has g → ¬ R g) (hn : ∀ g, R g → w0.heap.size ≤ g) : Vs w0 X c L :=
  ⟨fun i v hv => (h.v i v hv).gro k (fun g hg => hR i v hv g hg), h.ap, h.n, h.be.trans (k.to_below h.be.size hn)⟩
/-- Vaults, the list of pointers to some of them, the lists of numbers. -/
structure Oe (w0 w : World) (c : Nat) (L : List Ve) (ps : List Nat) (P : List (List Int)) (v5 v6 : Value) (us : List Value) : Prop where
  vs : Vs w0 w c L
  l5 : Lw w tPV 1 v5 ps.length (ps.map ptrV)
  l6 : Lw w tLI 1 v6 us.length us
  li : ∀ (j : Nat) (u : Value) (pl : List Int), us[j]? = some u → P[j]? = some pl → Lw w tIn 1 u pl.length (pl.map intV)
  lp : P.length = us.length
  ap : ∀ (j k : Nat) (u v : Value), j ≠ k → us[j]? = some u → us[k]? = some v → ∀ g, u.ownBlock = some g → v.ownBlock ≠ some g
  n5 : ∀ g, v5.ownBlock = some g → w0.heap.size ≤ g
  n6 : ∀ g, v6.ownBlock = some g → w0.heap.size ≤ g
  nu : ∀ (j : Nat) (u : Value), us[j]? = some u → ∀ g, u.ownBlock = some g → w0.heap.size ≤ g
section
variable {w0 w X : World} {c : Nat} {L : List Ve} {ps : List Nat} {P : List (List Int)} {v5 v6 : Value} {us : List Value}
theorem Oe.pl (h : Oe w0 w c L ps P v5 v6 us) {j : Nat} {u : Value} (hj : us[j]? = some u) : ∃ pl, P[j]? = some pl :=
  ⟨_, List.getElem?_eq_getElem (by rw [h.lp]; exact (List.getElem?_eq_some_iff.1 hj).1)⟩
theorem Oe.below (h : Oe w0 w c L ps P v5 v6 us) (k : Below w.heap.size w X) : Oe w0 X c L ps P v5 v6 us :=
  ⟨h.vs.keep k, Lw.be h.l5 k, Lw.be h.l6 k, fun j u pl h1 h2 => Lw.be (h.li j u pl h1 h2) k, h.lp, h.ap, h.n5, h.n6, h.nu⟩
theorem Lw.kv {L : List Ve} {w X : World} {e : TypeId} {s n : Nat} {v : Value} {xs : List Value} (h : Lw w e s v n xs) (k : Kv L w X) (he : e ≠ tV) : Lw X e s v n xs := by
  refine Lw.block h (fun g hg => ?_)
  obtain ⟨cur, r⟩ := h.row hg
  exact (k.row r he).trans r.symm
/-- One of the vaults turns. -/
theorem Oe.turn (h : Oe w0 w c L ps P v5 v6 us) {i : Nat} {u : Ve} {s' : St} (hu : L[i]? = some u) (hC : VtB w u.p c u.m1 u.m2 s' X) : ∃ n1 n2, Oe w0 X (c + 2) (L.set i ⟨u.p, n1, n2, s'⟩) ps P v5 v6 us := by
  obtain ⟨n1, n2, hV, hK⟩ := h.vs.turn hu hC
  exact ⟨n1, n2, hV, Lw.kv h.l5 hK (by decide), Lw.kv h.l6 hK (by decide), fun j u pl h1 h2 => Lw.kv (h.li j u pl h1 h2) hK (by decide), h.lp, h.ap, h.n5, h.n6, h.nu⟩
/-- One more vault. -/
theorem Oe.more (h : Oe w0 w c L ps P v5 v6 us) {q : Nat} {n1 n2 : Value} {s : St} (hq : w.heap.size ≤ q) (hV : Vt X q c n1 n2 s) (h1 : ∀ g, Own1 n1 g → w.heap.size ≤ g) (h2 : ∀ g, Own1 n2 g → w.heap.size ≤ g) (k : Below w.heap.size w X) : Oe w0 X c (L ++ [⟨q, n1, n2, s⟩]) ps P v5 v6 us :=
  have h' := h.below k
  ⟨h.vs.more hq hV h1 h2 k, h'.l5, h'.l6, h'.li, h.lp, h.ap, h.n5, h.n6, h.nu⟩
theorem Vs.lw {e : TypeId} {s n : Nat} {v : Value} {xs : List Value} (h : Vs w0 w c L) (l : Lw w e s v n xs) (he : e ≠ tV) : ∀ (i : Nat) (u : Ve), L[i]? = some u → ∀ g, u.has g → ¬ v.ownBlock = some g := fun i u hu g hg hv => by
  obtain ⟨cur, r⟩ := l.row hv
  exact (h.v i u hu).has_row r he hg
theorem grown_gro {row : Option Nat} (k : w.grownBy X row) : Gro (fun g => row = some g) w X := (Gro.refl _ w).grown k (fun _ e => .inl e)
/-- The list of vaults has grown. -/
theorem Oe.app5 (h : Oe w0 w c L ps P v5 v6 us) {v' : Value} {q : Nat} (q1 : Lw X tPV 1 v' (ps.length + 1) (ps.map ptrV ++ [ptrV q])) (q2 : w.grownBy X v5.ownBlock) (q3 : v'.ownBlock = v5.ownBlock ∨ v'.ownBlock = some w.heap.size) : Oe w0 X c L (ps ++ [q]) P v' v6 us := by
  have G := grown_gro q2
  refine ⟨h.vs.gro G (h.vs.lw h.l5 (by decide)) h.n5, by rw [List.length_append, List.map_append]; exact q1, Lw.gro h.l6 G (fun g e e2 => Lw.apart h.l6 h.l5 (by decide) g e e2), fun j u pl h1 h2 => Lw.gro (h.li j u pl h1 h2) G (fun g e e2 => Lw.apart (h.li j u pl h1 h2) h.l5 (by decide) g e e2), h.lp, h.ap, fun g e => ?_, h.n6, h.nu⟩
  rcases q3 with q | q
  · exact h.n5 g (q ▸ e)
  · rw [q] at e
    simp only [Option.some.injEq] at e
    have := h.vs.be.size
    omega
/-- A list of numbers that is none of these: its own. -/
structure Nu (w0 w : World) (us : List Value) (u : Value) (pl : List Int) : Prop where
  l : Lw w tIn 1 u pl.length (pl.map intV)
  n : ∀ g, u.ownBlock = some g → w0.heap.size ≤ g
  ap : ∀ (j : Nat) (x : Value), us[j]? = some x → ∀ g, x.ownBlock = some g → u.ownBlock ≠ some g
theorem Nu.below {u : Value} {pl : List Int} (h : Nu w0 w us u pl) (k : Below w.heap.size w X) : Nu w0 X us u pl := ⟨Lw.be h.l k, h.n, h.ap⟩
/-- The list of lists has grown. -/
theorem Oe.app6 (h : Oe w0 w c L ps P v5 v6 us) {v' u : Value} {pl : List Int} (hu : Nu w0 w us u pl) (q1 : Lw X tLI 1 v' (us.length + 1) (us ++ [u])) (q2 : w.grownBy X v6.ownBlock) (q3 : v'.ownBlock = v6.ownBlock ∨ v'.ownBlock = some w.heap.size) : Oe w0 X c L ps (P ++ [pl]) v5 v' (us ++ [u]) := by
  have G := grown_gro q2
  have cs : ∀ (j : Nat) (x : Value), (us ++ [u])[j]? = some x → (j < us.length ∧ us[j]? = some x) ∨ (j = us.length ∧ x = u) := fun j x hx => by
    by_cases hj : j < us.length
    · rw [List.getElem?_append_left hj] at hx
      exact .inl ⟨hj, hx⟩
    · rw [List.getElem?_append_right (by omega)] at hx
      have hj0 : j - us.length = 0 := by have := (List.getElem?_eq_some_iff.1 hx).1; simpa using this
      rw [hj0] at hx
      exact .inr ⟨by omega, (Option.some.inj hx).symm⟩
  refine ⟨h.vs.gro G (h.vs.lw h.l6 (by decide)) h.n6, Lw.gro h.l5 G (fun g e e2 => Lw.apart h.l5 h.l6 (by decide) g e e2), by rw [List.length_append]; exact q1, fun j x pl' h1 h2 => ?_, by rw [List.length_append, List.length_append, h.lp]; rfl, fun j k x y hjk h1 h2 g e e2 => ?_, h.n5, fun g e => ?_, fun j x h1 g e => ?_⟩
  · rcases cs j x h1 with ⟨hj, h1⟩ | ⟨hj, rfl⟩
    · rw [List.getElem?_append_left (by rw [h.lp]; exact hj)] at h2
      exact Lw.gro (h.li j x pl' h1 h2) G (fun g e e2 => Lw.apart (h.li j x pl' h1 h2) h.l6 (by decide) g e e2)
    · rw [List.getElem?_append_right (by rw [h.lp]; omega), h.lp, hj, Nat.sub_self] at h2
      obtain rfl : pl = pl' := by simpa using h2
      exact Lw.gro hu.l G (fun g e e2 => Lw.apart hu.l h.l6 (by decide) g e e2)
  · rcases cs j x h1 with ⟨_, a1⟩ | ⟨a1, rfl⟩ <;> rcases cs k y h2 with ⟨_, a2⟩ | ⟨a2, rfl⟩
    · exact h.ap j k x y hjk a1 a2 g e e2
    · exact hu.ap j x a1 g e e2
    · exact hu.ap k y a2 g e2 e
    · omega
  · rcases q3 with q | q
    · exact h.n6 g (q ▸ e)
    · rw [q] at e
      simp only [Option.some.injEq] at e
      have := h.vs.be.size
      omega
  · rcases cs j x h1 with ⟨_, a1⟩ | ⟨_, rfl⟩
    · exact h.nu j x a1 g e
    · exact hu.n g e
/-- One of the lists of numbers has grown: it is another one now, and is not laid there yet. -/
structure Og (w0 w : World) (c : Nat) (L : List Ve) (ps : List Nat) (P : List (List Int)) (v5 v6 : Value) (us : List Value) (j : Nat) (u' : Value) (pl' : List Int) : Prop where
  vs : Vs w0 w c L
  l5 : Lw w tPV 1 v5 ps.length (ps.map ptrV)
  l6 : Lw w tLI 1 v6 us.length us
  li : ∀ (k : Nat) (u : Value) (pl : List Int), k ≠ j → us[k]? = some u → P[k]? = some pl → Lw w tIn 1 u pl.length (pl.map intV)
  lu : Lw w tIn 1 u' pl'.length (pl'.map intV)
  lp : P.length = us.length
  hj : j < us.length
  ap : ∀ (j k : Nat) (u v : Value), j ≠ k → us[j]? = some u → us[k]? = some v → ∀ g, u.ownBlock = some g → v.ownBlock ≠ some g
  au : ∀ (k : Nat) (u : Value), k ≠ j → us[k]? = some u → ∀ g, u.ownBlock = some g → u'.ownBlock ≠ some g
  n5 : ∀ g, v5.ownBlock = some g → w0.heap.size ≤ g
  n6 : ∀ g, v6.ownBlock = some g → w0.heap.size ≤ g
  nu : ∀ (j : Nat) (u : Value), us[j]? = some u → ∀ g, u.ownBlock = some g → w0.heap.size ≤ g
  nw : ∀ g, u'.ownBlock = some g → w0.heap.size ≤ g
theorem Oe.grow (h : Oe w0 w c L ps P v5 v6 us) {j : Nat} {u u' : Value} {pl new : List Int} (hu : us[j]? = some u) (hp : P[j]? = some pl) (q1 : Lw X tIn 1 u' (pl.length + new.length) (pl.map intV ++ new.map intV)) (q2 : w.grownBy X u.ownBlock) (q3 : u'.ownBlock = u.ownBlock ∨ u'.ownBlock = some w.heap.size) : Og w0 X c L ps P v5 v6 us j u' (pl ++ new) := by
  have G := grown_gro q2
  have lu := h.li j u pl hu hp
  refine ⟨h.vs.gro G (h.vs.lw lu (by decide)) (h.nu j u hu), Lw.gro h.l5 G (fun g e e2 => Lw.apart h.l5 lu (by decide) g e e2), Lw.gro h.l6 G (fun g e e2 => Lw.apart h.l6 lu (by decide) g e e2), fun k x pl' hk h1 h2 => Lw.gro (h.li k x pl' h1 h2) G (fun g e e2 => h.ap k j x u hk h1 hu g e e2), by rw [List.length_append, List.map_append]; exact q1, h.lp, (List.getElem?_eq_some_iff.1 hu).1, h.ap, fun k x hk h1 g e e2 => ?_, h.n5, h.n6, h.nu, fun g e => ?_⟩
  · rcases q3 with q | q
    · exact h.ap k j x u hk h1 hu g e (q ▸ e2)
    · rw [q] at e2
      simp only [Option.some.injEq] at e2
      obtain ⟨pl', hp'⟩ := h.pl h1
      have := Lw.lt (h.li k x pl' h1 hp') g e
      omega
  · rcases q3 with q | q
    · exact h.nu j u hu g (q ▸ e)
    · rw [q] at e
      simp only [Option.some.injEq] at e
      have := h.vs.be.size
      omega
theorem Lw.openR {e : TypeId} {n : Nat} {v : Value} {xs : List Value} (h : Lw w e 1 v n xs) (hn : 0 < n) : ∃ g cap cur, v = .slice (some ⟨g, 0, none⟩) n cap ∧ Row w g cur e ∧ n ≤ cur.length ∧ w.rangeAt g 0 xs ∧ ∀ X k u, k < n → Row X g (cur.set k u) e → Lw X e 1 v n (xs.set k u) := by
  have hl := h.1
  obtain ⟨_, h2⟩ := h
  rcases h2 with ⟨_, h3⟩ | ⟨g, cap, cur, hv, hg, hh, hc, hm, hs, ht⟩
  · omega
  · have r : Row w g cur.toList e := by unfold Row; rw [hh]
    refine ⟨g, cap, cur.toList, hv, r, by simp; omega, fun j u hj => ?_, fun X k u hk rX => ⟨by rw [List.length_set]; exact hl, .inr ⟨g, cap, (cur.toList.set k u).toArray, hv, hg, rX, hc, hm, by simp [hs], ?_⟩⟩⟩
    · refine r.all j u ?_
      rw [← ht] at hj
      have hjl : j < n * 1 := by have := (List.getElem?_eq_some_iff.1 hj).1; rw [List.length_take] at this; omega
      rwa [List.getElem?_take_of_lt hjl] at hj
    · rw [← ht]
      simp only [List.take_set]
/-- It is laid there. -/
theorem Og.lay {j : Nat} {u' : Value} {pl' : List Int} (h : Og w0 w c L ps P v5 v6 us j u' pl') : ∃ g cap cur, v6 = .slice (some ⟨g, 0, none⟩) us.length cap ∧ Row w g cur tLI ∧ j < cur.length ∧
    ∀ X, Row X g (cur.set j u') tLI → Gro (· = g) w X → Oe w0 X c L ps (P.set j pl') v5 v6 (us.set j u') := by
  obtain ⟨g, cap, cur, hv, r, hc, _, hset⟩ := Lw.openR h.l6 (by have := h.hj; omega)
  have ho : v6.ownBlock = some g := by rw [hv]; rfl
  refine ⟨g, cap, cur, hv, r, by have := h.hj; omega, fun X rX G => ?_⟩
  have G' : Gro (fun q => v6.ownBlock = some q) w X := G.mono (fun q e => by rw [ho, e])
  have hjP : j < P.length := by rw [h.lp]; exact h.hj
  refine ⟨h.vs.gro G' (h.vs.lw h.l6 (by decide)) h.n6, Lw.gro h.l5 G' (fun g e e2 => Lw.apart h.l5 h.l6 (by decide) g e e2), by rw [List.length_set]; exact hset X j u' h.hj rX, fun k x pl h1 h2 => ?_, by rw [List.length_set, List.length_set, h.lp], fun k l x y hkl h1 h2 g e e2 => ?_, h.n5, h.n6, fun k x h1 g e => ?_⟩
  · by_cases e : k = j
    · subst e
      rw [List.getElem?_set_self h.hj] at h1
      rw [List.getElem?_set_self hjP] at h2
      cases h1
      cases h2
      exact Lw.gro h.lu G' (fun g e e2 => Lw.apart h.lu h.l6 (by decide) g e e2)
    · rw [List.getElem?_set_ne (fun q => e q.symm)] at h1 h2
      exact Lw.gro (h.li k x pl e h1 h2) G' (fun g e' e2 => Lw.apart (h.li k x pl e h1 h2) h.l6 (by decide) g e' e2)
  · by_cases e1 : k = j
    · subst e1
      rw [List.getElem?_set_self h.hj] at h1
      rw [List.getElem?_set_ne hkl] at h2
      cases h1
      exact h.au l y (fun q => hkl q.symm) h2 g e2 e
    · rw [List.getElem?_set_ne (fun q => e1 q.symm)] at h1
      by_cases e3 : l = j
      · subst e3
        rw [List.getElem?_set_self h.hj] at h2
        cases h2
        exact h.au k x hkl h1 g e e2
      · rw [List.getElem?_set_ne (fun q => e3 q.symm)] at h2
        exact h.ap k l x y hkl h1 h2 g e e2
  · by_cases e1 : k = j
    · subst e1
      rw [List.getElem?_set_self h.hj] at h1
      cases h1
      exact h.nw g e
    · rw [List.getElem?_set_ne (fun q => e1 q.symm)] at h1
      exact h.nu k x h1 g e
end

/-! ### what was paid stays paid -/
theorem act_stays (s : St) (k : Int) (r : Stv) (x : Int) (h : paid s.U x = true) : paid (act s k r).1.U x = true := by
  unfold act
  split
  · unfold sList; split; exact h; split <;> exact h
  split
  · unfold sStop; split; exact h; split <;> exact h
  split
  · unfold sStop; split; exact h; split <;> exact h
  split
  · unfold sDep; split; exact h; split; exact h; split; exact h; split <;> exact h
  split
  · unfold sPay
    split; exact h
    split; exact h
    split; exact h
    split; exact h
    show paid (puts s.U r.ix) x = true
    rw [paid_puts, h, Bool.or_true]
  split
  · unfold sLock; split <;> exact h
  split
  · unfold sFree; split <;> exact h
  · exact h
theorem act_pays (s : St) (r : Stv) (h : (act s 4 r).2 = 0) : paid s.U r.ix = false ∧ paid (act s 4 r).1.U r.ix = true := by
  have e : act s 4 r = sPay s r.ix r.tk r.m := rfl
  rw [e] at h ⊢
  unfold sPay at h ⊢
  split at h
  · exact absurd h (by simp)
  rename_i h1
  rw [if_neg h1]
  split at h
  · rename_i h2; exact absurd h h2
  rename_i h2
  rw [if_neg h2]
  split at h
  · exact absurd h (by simp)
  rename_i h3
  rw [if_neg h3]
  split at h
  · exact absurd h (by simp)
  rename_i h4
  rw [if_neg h4]
  refine ⟨by cases hp : paid s.U r.ix with | true => exact absurd hp h3 | false => rfl, ?_⟩
  show paid (puts s.U r.ix) r.ix = true
  rw [paid_puts, decide_eq_true rfl, Bool.true_or]
/-- Each number that is written down is paid. -/
def Rp (L : List Ve) (P : List (List Int)) : Prop := ∀ (j : Nat) (u : Ve) (pl : List Int), L[j]? = some u → P[j]? = some pl → ∀ x ∈ pl, I64 x ∧ paid u.s.U x = true
theorem Rp.turn {L : List Ve} {P : List (List Int)} (h : Rp L P) {i : Nat} {u : Ve} (hu : L[i]? = some u) (k : Int) (r : Stv) (n1 n2 : Value) : Rp (L.set i ⟨u.p, n1, n2, (act u.s k r).1⟩) P := by
  intro j v pl hv hp x hx
  have hil : i < L.length := (List.getElem?_eq_some_iff.1 hu).1
  by_cases e : j = i
  · subst e
    rw [List.getElem?_set_self hil] at hv
    cases hv
    exact ⟨(h j u pl hu hp x hx).1, act_stays _ _ _ _ (h j u pl hu hp x hx).2⟩
  · rw [List.getElem?_set_ne (fun q => e q.symm)] at hv
    exact h j v pl hv hp x hx
theorem Rp.more {L : List Ve} {P : List (List Int)} (h : Rp L P) (hl : P.length = L.length) {i : Nat} {u : Ve} {pl : List Int} (hu : L[i]? = some u) (hp : P[i]? = some pl) (q : Nat) (n1 n2 : Value) : Rp (L ++ [⟨q, n1, n2, u.s⟩]) (P ++ [pl]) := by
  intro j v pl' hv hp' x hx
  by_cases hj : j < L.length
  · rw [List.getElem?_append_left hj] at hv
    rw [List.getElem?_append_left (by omega)] at hp'
    exact h j v pl' hv hp' x hx
  · have hjl := (List.getElem?_eq_some_iff.1 hv).1
    rw [List.length_append, List.length_singleton] at hjl
    have ej : j = L.length := by omega
    subst ej
    rw [List.getElem?_append_right (Nat.le_refl _), Nat.sub_self] at hv
    rw [List.getElem?_append_right (by omega), hl, Nat.sub_self] at hp'
    obtain rfl : (⟨q, n1, n2, u.s⟩ : Ve) = v := by simpa using hv
    obtain rfl : pl = pl' := by simpa using hp'
    exact h i u pl hu hp x hx
theorem Rp.push {L : List Ve} {P : List (List Int)} (h : Rp L P) {i : Nat} {u : Ve} {pl : List Int} (hu : L[i]? = some u) (hp : P[i]? = some pl) {x : Int} (hx : I64 x) (hx2 : paid u.s.U x = true) : Rp L (P.set i (pl ++ [x])) := by
  intro j v pl' hv hp' y hy
  have hil : i < P.length := (List.getElem?_eq_some_iff.1 hp).1
  by_cases e : j = i
  · subst e
    rw [List.getElem?_set_self hil] at hp'
    obtain rfl : pl ++ [x] = pl' := by simpa using hp'
    rw [hu] at hv
    cases hv
    rcases List.mem_append.1 hy with q | q
    · exact h j u pl hu hp y q
    · obtain rfl := List.mem_singleton.1 q
      exact ⟨hx, hx2⟩
  · rw [List.getElem?_set_ne (fun q => e q.symm)] at hp'
    exact h j v pl' hv hp' y hy

end Go.Proofs.Ytkbdnebmekhcdaa

namespace Go.Proofs.Ytkbdnebmekhcdaa
open Go Go.RowKit Go.Maps
open Wd

theorem und_PVs : Try.prog.underlying tPVs = some (.slice tPV) := by kernel_rfl
theorem und_LI : Try.prog.underlying tLI = some (.slice tIn) := by kernel_rfl
theorem und_LLI : Try.prog.underlying tLLI = some (.slice tLI) := by kernel_rfl
theorem sz_PV : (Try.prog.info? tPV).map (·.size) = some 1 := by kernel_rfl
theorem sz_LI : (Try.prog.info? tLI).map (·.size) = some 1 := by kernel_rfl
theorem sz_In : (Try.prog.info? tIn).map (·.size) = some 1 := by kernel_rfl
theorem all_PV : (Try.prog.info? tPV).map (fun i => (i.size, i.bytes, i.zero.map (·.cells.size))) = some (1, 8, some 1) := by kernel_rfl
theorem all_LI : (Try.prog.info? tLI).map (fun i => (i.size, i.bytes, i.zero.map (·.cells.size))) = some (1, 24, some 1) := by kernel_rfl
theorem all_In : (Try.prog.info? tIn).map (fun i => (i.size, i.bytes, i.zero.map (·.cells.size))) = some (1, 8, some 1) := by kernel_rfl
theorem info_of {t : TypeId} {b : Nat} (h : (Try.prog.info? t).map (fun i => (i.size, i.bytes, i.zero.map (·.cells.size))) = some (1, b, some 1)) : ∃ ie z, Try.prog.info? t = some ie ∧ ie.zero = some z ∧ ie.size = 1 ∧ ie.bytes = b ∧ z.cells.size = 1 := by
  cases hi : Try.prog.info? t with
  | none => rw [hi] at h; cases h
  | some ie =>
    rw [hi] at h
    simp only [Option.map_some, Option.some.injEq, Prod.mk.injEq] at h
    obtain ⟨h1, h2, h3⟩ := h
    cases hz : ie.zero with
    | none => rw [hz] at h3; cases h3
    | some z => rw [hz] at h3; exact ⟨ie, z, rfl, hz, h1, h2, by simpa using h3⟩
theorem info_of4 {t : TypeId} {b : Nat} (h : (Try.prog.info? t).map (fun i => (i.size, i.bytes, i.zero.map (·.cells.size))) = some (1, b, some 1)) : ∃ ie z, Try.prog.info? t = some ie ∧ ie.zero = some z ∧ ie.size = 1 ∧ z.cells.size = 1 := by
  obtain ⟨ie, z, h1, h2, h3, _, h5⟩ := info_of h
  exact ⟨ie, z, h1, h2, h3, h5⟩
theorem ld_PV (w : World) (b f : Nat) (v : Value) (h : w.cell? ⟨b, f, none⟩ = some v) : (loadVar tPV ⟨b, f, none⟩).run Try.prog w = .ok v w := by
  simp [loadVar, isAgg, run_underlying Try.underlying24, h]
theorem ld_LI (w : World) (b f : Nat) (v : Value) (h : w.cell? ⟨b, f, none⟩ = some v) : (loadVar tLI ⟨b, f, none⟩).run Try.prog w = .ok v w := by
  simp [loadVar, isAgg, run_underlying Try.underlying48, h]
section
variable {Q : Exit → Act → World → Prop} {o : Oper} {a : Act} {w : World} {K : Act → World → Prop}
/-- append of any list of values of one cell each onto a list that is owned. -/
theorem wp_appN (t e : TypeId) (bt : Nat) (hu : Try.prog.underlying t = some (.slice e)) (hi : ∃ ie z, Try.prog.info? e = some ie ∧ ie.zero = some z ∧ ie.size = 1 ∧ ie.bytes = bt ∧ z.cells.size = 1) (s x : Operand) (ho : o.op = .call { callee := .builtin .append, args := #[s, x], argTypes := #[t, t] }) (v : Value) (n : Nat) (l news : List Value) (hs : a.eval s = v) (hown : Lw w e 1 v n l)
    (A : Option Addr) (m cap : Nat) (hm : news.length = m) (hx : a.eval x = .slice A m cap) (hA : A = none → m = 0 ∧ cap = 0) (hX : ∀ ad, A = some ad → ∀ j u, news[j]? = some u → w.cell? (ad.add j) = some u) (h1 : ∀ v ∈ news, v.oneCell' = true) (hk : (n + m) * bt ≤ 140737488355328) (hk2 : n + m ≤ 140737488355328)
    (h : ∀ v' w', Lw w' e 1 v' (n + m) (l ++ news) → w.grownBy w' v.ownBlock → (v'.ownBlock = v.ownBlock ∨ v'.ownBlock = some w.heap.size) → K (a.put o.dst v') w') : Oper.wp Try.prog o a w K Q := by
  obtain ⟨ie, z, i1, i2, i3, i5, i4⟩ := hi
  cases A with
  | none =>
    obtain ⟨hm0, rfl⟩ := hA rfl
    subst hm
    have hn : news = [] := List.length_eq_zero_iff.1 hm0
    subst hn
    have hr := run_append_owned_none (P := Try.prog) (w := w) 0 t o.type e ie 1 hu i1 v n l hown
    unfold Oper.wp execOp
    have hx' : a.eval x = .slice none 0 0 := hx
    simp only [ho, resolve, invoke, builtin, Sem.run_bind, Sem.run_pure, Result.andThen_ok, List.map_toArray, List.map_cons, List.map_nil, hs, hx', hr]
    exact h v w (by rw [List.append_nil]; exact hown) ⟨rfl, rfl, rfl, Nat.le_refl _, fun _ _ _ => rfl⟩ (.inl rfl)
  | some ad =>
    obtain ⟨v', w', hr, q2, q3, _, q5⟩ := run_append_own_at (P := Try.prog) w 0 t o.type e ie z 1 bt hu i1 i2 i3 i5 i4 (by decide) v n l hown ad m cap news (by rw [hm, Nat.mul_one]) (hX ad rfl) h1 (by unfold maxLen; omega) hk (Nat.zero_le _)
    unfold Oper.wp execOp
    simp only [ho, resolve, invoke, builtin, Sem.run_bind, Sem.run_pure, Result.andThen_ok, List.map_toArray, List.map_cons, List.map_nil, hs, hx, hr]
    exact h v' w' q2 q3 q5
end
section
variable {ops : Array Oper} {rest : List Oper} {op : Oper} {a : Act} {w : World} {Q : Exit → Act → World → Prop}
theorem wpList_appN (t e : TypeId) (bt : Nat) (hu : Try.prog.underlying t = some (.slice e)) (hi : ∃ ie z, Try.prog.info? e = some ie ∧ ie.zero = some z ∧ ie.size = 1 ∧ ie.bytes = bt ∧ z.cells.size = 1) (hgd : op.guard = none) (s x : Operand) (ho : op.op = .call { callee := .builtin .append, args := #[s, x], argTypes := #[t, t] }) (v : Value) (n : Nat) (l news : List Value) (hs : a.eval s = v) (hown : Lw w e 1 v n l)
    (A : Option Addr) (m cap : Nat) (hm : news.length = m) (hx : a.eval x = .slice A m cap) (hA : A = none → m = 0 ∧ cap = 0) (hX : ∀ ad, A = some ad → ∀ j u, news[j]? = some u → w.cell? (ad.add j) = some u) (h1 : ∀ v ∈ news, v.oneCell' = true) (hk : (n + m) * bt ≤ 140737488355328) (hk2 : n + m ≤ 140737488355328)
    (h : ∀ v' w', Lw w' e 1 v' (n + m) (l ++ news) → w.grownBy w' v.ownBlock → (v'.ownBlock = v.ownBlock ∨ v'.ownBlock = some w.heap.size) → wpList Try.prog ops Q rest (a.put op.dst v') w') : wpList Try.prog ops Q (op :: rest) a w :=
  wpList_plain hgd fun _ hK => wp_appN t e bt hu hi s x ho v n l news hs hown A m cap hm hx hA hX h1 hk hk2 (fun v' w' q1 q2 q3 => hK _ _ (h v' w' q1 q2 q3))
theorem wpList_build0I (hgd : op.guard = none) (ho : op.op = .buildSlice tLI 0 #[]) (h : ∀ X, Row X w.heap.size [] tIn → Below w.heap.size w X → wpList Try.prog ops Q rest (a.put op.dst (.slice (some ⟨w.heap.size, 0, none⟩) 0 0)) X) : wpList Try.prog ops Q (op :: rest) a w :=
  wpList_plain hgd fun _ hK => by
    unfold Oper.wp execOp
    simp only [ho]
    go_simp
    exact hK _ _ (h _ (Row.new' rfl rfl) ((Below.refl _ _).alloc (Nat.le_refl _) _))
end
theorem lw_empty {w : World} {g : Nat} (r : Row w g [] tIn) : Lw w tIn 1 (.slice (some ⟨g, 0, none⟩) 0 0) 0 [] :=
  ⟨rfl, .inr ⟨g, 0, #[], rfl, Nat.zero_le _, r, Nat.le_refl _, by unfold maxLen; omega, rfl, rfl⟩⟩
theorem lw_addr {w : World} {e : TypeId} {A : Option Addr} {n cap : Nat} {xs : List Value} (h : Lw w e 1 (.slice A n cap) n xs) : (A = none → n = 0 ∧ cap = 0) ∧ ∀ ad, A = some ad → ∀ j u, xs[j]? = some u → w.cell? (ad.add j) = some u := by
  have hl := h.1
  rcases h.2 with ⟨h2, h3⟩ | ⟨g, cap', cur, hv, _, hh, hc, _, hs, ht⟩
  · simp only [Value.slice.injEq] at h2
    obtain ⟨rfl, _, rfl⟩ := h2
    exact ⟨fun _ => ⟨h3, rfl⟩, fun ad e => by cases e⟩
  · simp only [Value.slice.injEq] at hv
    obtain ⟨rfl, _, rfl⟩ := hv
    refine ⟨(fun e => by cases e), fun ad e j u hj => ?_⟩
    cases e
    have hjl : j < n * 1 := by have := (List.getElem?_eq_some_iff.1 hj).1; rwa [hl] at this
    rw [Addr.add_mid, Nat.zero_add]
    exact (World.ownsRow.cellAt h j hjl).trans hj
theorem ints_one (l : List Int) : ∀ v ∈ l.map intV, v.oneCell' = true := fun v hv => by
  obtain ⟨x, _, rfl⟩ := List.mem_map.1 hv
  rfl

end Go.Proofs.Ytkbdnebmekhcdaa
