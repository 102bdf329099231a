/-
  Four hashers and what each has taken; a script that came in.
-/
import Derived.Test.YtihigbkanbabeaaDoorPLaw0
namespace Go.Proofs.YtihigbkanbabeaaDoor
open Go Go.RowKit
open Sha

/-- One step of a script that came in. -/
structure OpV where
  kind : Int
  on : Int
  to : Int
  d : List (BitVec 8)
  A : Option Addr
  c : Nat
def OpV.dv (o : OpV) : Value := .slice o.A o.d.length o.c
def OpV.cells (o : OpV) : List Value := [.int .i64 o.kind, .int .i64 o.on, .int .i64 o.to, o.dv]
def op0 : OpV := ⟨0, 0, 0, [], none, 0⟩

structure OpOk (w : World) (o : OpV) : Prop where
  sl : SlAt w o.dv o.d
  nil : o.A = none → o.c = 0
  len : o.d.length ≤ 140737488351232
  on : -9223372036854775808 ≤ o.on ∧ o.on ≤ 9223372036854775807
  to : -9223372036854775808 ≤ o.to ∧ o.to ≤ 9223372036854775807

structure Scr (w : World) (A : Option Addr) (n : Nat) (os : List OpV) : Prop where
  num : os.length = n
  each : ∀ i, i < n → OpOk w (os.getD i op0)
  lies : 0 < n → ∃ pb po, A = some ⟨pb, po, none⟩ ∧ ∀ i, i < n → w.rangeAt pb (po + i * 4) (os.getD i op0).cells
theorem Scr.low {w w' : World} {A : Option Addr} {n : Nat} {os : List OpV} (h : Scr w A n os) (k : Below w.heap.size w w') : Scr w' A n os :=
  ⟨h.num, fun i hi => ⟨(h.each i hi).sl.below k (Nat.le_refl _), (h.each i hi).nil, (h.each i hi).len, (h.each i hi).on, (h.each i hi).to⟩,
   fun hn => by obtain ⟨pb, po, hA, hr⟩ := h.lies hn; exact ⟨pb, po, hA, fun i hi => range_below (hr i hi) k (Nat.le_refl _)⟩⟩
def dat (os : List OpV) : List (List (BitVec 8)) := os.map OpV.d
theorem dat_length (os : List OpV) : (dat os).length = os.length := by simp [dat]
theorem dat_get (os : List OpV) (i : Nat) (h : i < os.length) : (dat os).getD i [] = (os.getD i op0).d := by simp [dat, h]

set_option maxRecDepth 100000 in
set_option maxHeartbeats 1000000 in
theorem written_any (A : Option Addr) (n cap : Nat) (os : List OpV) (w : World) (hI : Scr w A n os) (hn : n ≤ 140737488351232) :
    Calls Tryd.prog 28 #[.slice A n cap] w fun e w' => ∃ b, e = .returned (.bool b) ∧ w' = w ∧ (b = true → (dat os).flatten.length ≤ 1048576) := by
  have HI : Hid (Scr w A n os) := hI
  have HN : Hid ((dat os).length = n) := by show _ = _; rw [dat_length, hI.num]
  have HP : Hid (∀ i, i < n → (dat os).getD i [] = (os.getD i op0).d) := fun i hi => dat_get os i (by rw [hI.num]; exact hi)
  clear hI
  obtain ⟨ps, hps⟩ : ∃ ps, ps = dat os := ⟨_, rfl⟩
  rw [← hps] at HN HP ⊢
  clear hps
  go_enter Tryd.func28, Tryd.ntmps28
  go_wp2
  go_loopw [3, 4] (fun s i wr => ∃ t : Nat, t ≤ n ∧ i = .int .i64 (t : Int) ∧ s = .int .i64 ((ps.take t).flatten.length : Int) ∧ (ps.take t).flatten.length ≤ 140737489399808 ∧ wr = w)
    (fun _ i _ => n - (intOf i).toNat)
  case atStart => exact ⟨0, by omega, rfl, rfl, by simp, rfl⟩
  case round =>
    obtain ⟨t, ht, rfl, rfl, hb, rfl⟩ := hrel
    by_cases hs : (ps.take t).flatten.length ≤ 1048576
    · by_cases hlt : t < n
      · obtain ⟨pb, po, rfl, hr⟩ := HI.out.lies (by omega)
        have gz : wr.cell? ⟨pb, po + t * 4 + 3, none⟩ = some (.slice (os.getD t op0).A (os.getD t op0).d.length (os.getD t op0).c) := hr t hlt 3 _ rfl
        have HT : Hid ((ps.take (t + 1)).flatten.length = (ps.take t).flatten.length + (os.getD t op0).d.length) := by show _ = _; rw [flat_take ps t (by rw [HN.out]; exact hlt), List.length_append, HP.out t hlt]
        have hpt := (HI.out.each t hlt).len
        generalize (ps.take t).flatten.length = s at *
        generalize (os.getD t op0).d.length = m at *
        generalize (os.getD t op0).A = A' at *
        generalize (os.getD t op0).c = c' at *
        clear hr
        go_wp2
        refine ⟨⟨t + 1, hlt, by go_num, by rw [HT.out]; go_num, by rw [HT.out]; omega, trivial⟩, by simp [intOf]; omega⟩
      · have et : t = n := by omega
        have HF : Hid ((ps.take t).flatten = ps.flatten) := by show _ = _; rw [List.take_of_length_le (by rw [HN.out]; omega)]
        have HS : Hid (ps.flatten.length ≤ 1048576) := by show _ ≤ _; rw [← HF.out]; exact hs
        clear HF
        generalize (ps.take t).flatten.length = s at *
        go_wp2
        go_ret
        exact ⟨_, rfl, rfl, fun _ => HS.out⟩
    · generalize (ps.take t).flatten.length = s at *
      go_wp2
      all_goals
        go_ret
        exact ⟨_, rfl, rfl, fun h => by exfalso; simp at h; omega⟩

def ptr (b : Nat) : Value := .pointer (some ⟨b, 0, none⟩)

/-- Four hashers, and four lists of what each has taken. -/
structure St4 (w : World) (N ph pk : Nat) (bs : List Nat) (ts : List (List (BitVec 8))) (vs : List Value) : Prop where
  lb : bs.length = 4
  lt : ts.length = 4
  lv : vs.length = 4
  hrow : Row w ph (bs.map ptr) 48
  trow : Row w pk vs 49
  hat : ∀ i, i < 4 → HAt w (bs.getD i 0) (ts.getD i [])
  own : ∀ i, i < 4 → w.ownsRow N 5 1 (vs.getD i undef) (ts.getD i []).length (vB (ts.getD i []))
  apart : ∀ i j, i < 4 → j < 4 → i ≠ j → bs.getD i 0 ≠ bs.getD j 0
  low : N ≤ ph ∧ N ≤ pk ∧ ∀ i, i < 4 → N ≤ bs.getD i 0

theorem owns_but {w w' : World} {b N n : Nat} {v : Value} {xs : List Value} {cs : List Value} {t : TypeId} (h : w.ownsRow N 5 1 v n xs) (k : But b w w') (hb : Row w b cs t) (ht : 5 ≠ t) : w'.ownsRow N 5 1 v n xs := by
  refine ⟨h.1, ?_⟩
  rcases h.2 with h2 | ⟨g, cap, cur, hv, hg, hh, r⟩
  · exact .inl h2
  · have hr : Row w g cur.toList 5 := by unfold Row; rw [hh]
    exact .inr ⟨g, cap, cur, hv, hg, (k.block g hr.lt (hr.ne hb ht)).trans hh, r⟩
theorem St4.below {w w' : World} {N ph pk B : Nat} {bs : List Nat} {ts : List (List (BitVec 8))} {vs : List Value} (h : St4 w N ph pk bs ts vs) (k : Below B w w') (hB : w.heap.size ≤ B) : St4 w' N ph pk bs ts vs :=
  ⟨h.lb, h.lt, h.lv, h.hrow.below k (Nat.lt_of_lt_of_le h.hrow.lt hB), h.trow.below k (Nat.lt_of_lt_of_le h.trow.lt hB), fun i hi => Row.below (h.hat i hi) k (Nat.lt_of_lt_of_le (Row.lt (h.hat i hi)) hB), fun i hi => ownsRow_below (h.own i hi) k hB, h.apart, h.low⟩

theorem getD_set_eq {α : Type} (l : List α) (i : Nat) (x y : α) (h : i < l.length) : (l.set i x).getD i y = x := by simp [h]
theorem getD_set_other {α : Type} (l : List α) (i j : Nat) (x y : α) (h : i ≠ j) : (l.set i x).getD j y = l.getD j y := by
  rw [List.getD_eq_getElem?_getD, List.getElem?_set_ne h, List.getD_eq_getElem?_getD]

/-- One hasher and its list turned, the hasher where it was. -/
theorem St4.turn {w w' : World} {N ph pk : Nat} {bs : List Nat} {ts : List (List (BitVec 8))} {vs : List Value} (h : St4 w N ph pk bs ts vs) (k : Nat) (hk : k < 4) (t' : List (BitVec 8)) (v' : Value) (hB : But (bs.getD k 0) w w') (hH : HAt w' (bs.getD k 0) t') (hv : w'.ownsRow N 5 1 v' t'.length (vB t')) :
    St4 (w'.setCell ⟨pk, k, none⟩ v') N ph pk bs (ts.set k t') (vs.set k v') := by
  have hrk := h.hat k hk
  have htr : Row w' pk vs 49 := h.trow.but hB (h.trow.ne hrk (by decide))
  have hhr : Row w' ph (bs.map ptr) 48 := h.hrow.but hB (h.hrow.ne hrk (by decide))
  have hbt := But.setCell pk k w' v'
  refine ⟨h.lb, by rw [List.length_set]; exact h.lt, by rw [List.length_set]; exact h.lv, hhr.set_other _ _ _ (hhr.ne htr (by decide)), htr.set k v', fun i hi => ?_, fun i hi => ?_, h.apart, h.low⟩
  · by_cases e : k = i
    · subst e
      rw [getD_set_eq _ _ _ _ (by first | (rw [h.lt]; exact hk) | (rw [h.lv]; exact hk) | (rw [h.lb]; exact hk))]
      exact Row.set_other hH _ _ _ (Row.ne hH htr (by decide))
    · rw [getD_set_other _ _ _ _ _ e]
      have := Row.but (h.hat i hi) hB (h.apart i k hi hk (Ne.symm e))
      exact Row.set_other this _ _ _ (Row.ne this htr (by decide))
  · by_cases e : k = i
    · subst e
      rw [getD_set_eq _ _ _ _ (by first | (rw [h.lt]; exact hk) | (rw [h.lv]; exact hk) | (rw [h.lb]; exact hk)), getD_set_eq _ _ _ _ (by first | (rw [h.lt]; exact hk) | (rw [h.lv]; exact hk) | (rw [h.lb]; exact hk))]
      exact owns_but hv hbt htr (by decide)
    · rw [getD_set_other _ _ _ _ _ e, getD_set_other _ _ _ _ _ e]
      exact owns_but (owns_but (h.own i hi) hB hrk (by decide)) hbt htr (by decide)

/-- A new hasher in a place. -/
theorem St4.hang {w w' : World} {N ph pk : Nat} {bs : List Nat} {ts : List (List (BitVec 8))} {vs : List Value} (h : St4 w N ph pk bs ts vs) (k : Nat) (hk : k < 4) (b' : Nat) (t' : List (BitVec 8)) (v' : Value) (hN : N ≤ w.heap.size) (hB : Below w.heap.size w w') (hb : w.heap.size ≤ b') (hH : HAt w' b' t') (w2 : World) (hB2 : Below (w'.setCell ⟨ph, k, none⟩ (ptr b')).heap.size (w'.setCell ⟨ph, k, none⟩ (ptr b')) w2) (hv : w2.ownsRow N 5 1 v' t'.length (vB t')) :
    St4 (w2.setCell ⟨pk, k, none⟩ v') N ph pk (bs.set k b') (ts.set k t') (vs.set k v') := by
  have h1 := h.below hB (Nat.le_refl _)
  have hs := But.setCell ph k w' (ptr b')
  have hhr1 := h1.hrow.set k (ptr b')
  have htr1 : Row (w'.setCell ⟨ph, k, none⟩ (ptr b')) pk vs 49 := h1.trow.set_other _ _ _ (h1.trow.ne h1.hrow (by decide))
  have hhr : Row w2 ph ((bs.map ptr).set k (ptr b')) 48 := hhr1.below hB2 hhr1.lt
  have htr : Row w2 pk vs 49 := htr1.below hB2 htr1.lt
  have hbt := But.setCell pk k w2 v'
  have hat2 : ∀ b t, HAt w' b t → HAt w2 b t := fun b t hh => by
    have := Row.set_other hh ph k (ptr b') (Row.ne hh h1.hrow (by decide))
    exact Row.below this hB2 this.lt
  have own2 : ∀ v (l : List (BitVec 8)), w'.ownsRow N 5 1 v l.length (vB l) → w2.ownsRow N 5 1 v l.length (vB l) := fun v l ho => ownsRow_below (owns_but ho hs h1.hrow (by decide)) hB2 (Nat.le_refl _)
  have hlt : ∀ i, i < 4 → bs.getD i 0 < w.heap.size := fun i hi => Row.lt (h.hat i hi)
  refine ⟨by rw [List.length_set]; exact h.lb, by rw [List.length_set]; exact h.lt, by rw [List.length_set]; exact h.lv, ?_, htr.set k v', fun i hi => ?_, fun i hi => ?_, fun i j hi hj hij => ?_, h.low.1, h.low.2.1, fun i hi => ?_⟩
  · rw [List.map_set]; exact hhr.set_other _ _ _ (hhr.ne htr (by decide))
  · by_cases e : k = i
    · subst e
      rw [getD_set_eq _ _ _ _ (by first | (rw [h.lt]; exact hk) | (rw [h.lv]; exact hk) | (rw [h.lb]; exact hk)), getD_set_eq _ _ _ _ (by first | (rw [h.lt]; exact hk) | (rw [h.lv]; exact hk) | (rw [h.lb]; exact hk))]
      have := hat2 _ _ hH
      exact Row.set_other this _ _ _ (Row.ne this htr (by decide))
    · rw [getD_set_other _ _ _ _ _ e, getD_set_other _ _ _ _ _ e]
      have := hat2 _ _ (h1.hat i hi)
      exact Row.set_other this _ _ _ (Row.ne this htr (by decide))
  · by_cases e : k = i
    · subst e
      rw [getD_set_eq _ _ _ _ (by first | (rw [h.lt]; exact hk) | (rw [h.lv]; exact hk) | (rw [h.lb]; exact hk)), getD_set_eq _ _ _ _ (by first | (rw [h.lt]; exact hk) | (rw [h.lv]; exact hk) | (rw [h.lb]; exact hk))]
      exact owns_but hv hbt htr (by decide)
    · rw [getD_set_other _ _ _ _ _ e, getD_set_other _ _ _ _ _ e]
      exact owns_but (own2 _ _ (h1.own i hi)) hbt htr (by decide)
  · by_cases e : k = i
    · subst e
      rw [getD_set_eq _ _ _ _ (by first | (rw [h.lt]; exact hk) | (rw [h.lv]; exact hk) | (rw [h.lb]; exact hk)), getD_set_other _ _ _ _ _ hij]
      have := hlt j hj; omega
    · by_cases e2 : k = j
      · subst e2
        rw [getD_set_eq _ _ _ _ (by first | (rw [h.lt]; exact hk) | (rw [h.lv]; exact hk) | (rw [h.lb]; exact hk)), getD_set_other _ _ _ _ _ e]
        have := hlt i hi; omega
      · rw [getD_set_other _ _ _ _ _ e, getD_set_other _ _ _ _ _ e2]; exact h.apart i j hi hj hij
  · by_cases e : k = i
    · subst e
      rw [getD_set_eq _ _ _ _ (by first | (rw [h.lt]; exact hk) | (rw [h.lv]; exact hk) | (rw [h.lb]; exact hk))]; omega
    · rw [getD_set_other _ _ _ _ _ e]; exact h.low.2.2 i hi

end Go.Proofs.YtihigbkanbabeaaDoor
