/-
  InboxOne: entries and links, mathematics.
-/
import Derived.Test.YtfjhecmnbodkfaaGreatDoorIbM
namespace Go.Proofs.YtfjhecmnbodkfaaGreatDoor
open Go Go.RowKit
open Sha

theorem word_eqI (x y : Nat) (hx : x < 18446744073709551616) (hy : y < 18446744073709551616) (h : ∀ t, t < 8 → BitVec.ofNat 8 (x / 2 ^ (t * 8)) = BitVec.ofNat 8 (y / 2 ^ (t * 8))) : x = y := by
  have q : ∀ t, t < 8 → x / 2 ^ (t * 8) % 256 = y / 2 ^ (t * 8) % 256 := fun t ht => by
    have := congrArg BitVec.toNat (h t ht)
    rwa [BitVec.toNat_ofNat, BitVec.toNat_ofNat] at this
  have q0 := q 0 (by decide)
  have q1 := q 1 (by decide)
  have q2 := q 2 (by decide)
  have q3 := q 3 (by decide)
  have q4' := q 4 (by decide)
  have q5 := q 5 (by decide)
  have q6 := q 6 (by decide)
  have q7 := q 7 (by decide)
  simp only [Nat.reduceMul, Nat.reducePow] at q0 q1 q2 q3 q4' q5 q6 q7
  omega
theorem fm_injI (a b c d a' b' c' d' k : Nat) (ha : a < 18446744073709551616) (hb : b < 18446744073709551616) (hc : c < 18446744073709551616) (hd : d < 18446744073709551616) (ha' : a' < 18446744073709551616) (hb' : b' < 18446744073709551616) (hc' : c' < 18446744073709551616) (hd' : d' < 18446744073709551616) (hk : nb a b c d = k) (hk' : nb a' b' c' d' = k) (h : fm [a, b, c, d] k = fm [a', b', c', d'] k) : a = a' ∧ b = b' ∧ c = c' ∧ d = d' := by
  have hf : ∀ i, i < 32 → fb [a, b, c, d] i = fb [a', b', c', d'] i := fun i hi => by
    by_cases hik : i < k
    · unfold fm at h
      simp only [List.cons.injEq, true_and] at h
      have h2 := congrArg (fun l => l[k - 1 - i]?) h
      simp only [List.getElem?_map, List.getElem?_range (show k - 1 - i < k by omega), Option.map_some, Option.some.injEq] at h2
      rwa [show k - 1 - (k - 1 - i) = i by omega] at h2
    · rw [fb_zero a b c d ha hb hc hd i (by omega) hi, fb_zero a' b' c' d' ha' hb' hc' hd' i (by omega) hi]
  have w : ∀ j, j < 4 → ∀ t, t < 8 → BitVec.ofNat 8 ([a, b, c, d].getD j 0 / 2 ^ (t * 8)) = BitVec.ofNat 8 ([a', b', c', d'].getD j 0 / 2 ^ (t * 8)) := fun j hj t ht => by
    have := hf (8 * j + t) (by omega)
    unfold fb at this
    rwa [show (8 * j + t) / 8 = j by omega, show (8 * j + t) % 8 = t by omega] at this
  exact ⟨word_eqI a a' ha ha' (w 0 (by decide)), word_eqI b b' hb hb' (w 1 (by decide)), word_eqI c c' hc hc' (w 2 (by decide)), word_eqI d d' hd hd' (w 3 (by decide))⟩
theorem fm_cutI (l l' : List Nat) (k k' : Nat) (hk : k ≤ 32) (hk' : k' ≤ 32) (x y : List (BitVec 8)) (h : fm l k ++ x = fm l' k' ++ y) : k = k' ∧ fm l k = fm l' k' ∧ x = y := by
  have e : k = k' := by
    have h0 := congrArg (fun t => t[0]?) h
    simp only [fm, List.cons_append, List.getElem?_cons_zero, Option.some.injEq] at h0
    have := congrArg BitVec.toNat h0
    simp only [BitVec.toNat_ofNat] at this
    omega
  subst e
  have := List.append_inj h (by rw [fm_len, fm_len])
  exact ⟨rfl, this.1, this.2⟩
theorem nb_le32I (a b c d : Nat) : nb a b c d ≤ 32 := by
  have h1 := bl_le a
  have h2 := bl_le b
  have h3 := bl_le c
  have h4 := bl_le d
  unfold nb
  split
  · omega
  · split
    · omega
    · split
      · omega
      · split
        · omega
        · omega
theorem nf_cutI (m n : Int) (hm : 0 ≤ m) (hm2 : m < 18446744073709551616) (hn : 0 ≤ n) (hn2 : n < 18446744073709551616) (x y : List (BitVec 8)) (h : nf m ++ x = nf n ++ y) : m = n ∧ x = y := by
  unfold nf at h
  have a1 : m.toNat < 18446744073709551616 := by omega
  have a2 : n.toNat < 18446744073709551616 := by omega
  obtain ⟨h1, h2, h3⟩ := fm_cutI _ _ _ _ (nb_le32I _ 0 0 0) (nb_le32I _ 0 0 0) x y h
  have q := fm_injI m.toNat 0 0 0 n.toNat 0 0 0 (nb m.toNat 0 0 0) a1 (by decide) (by decide) (by decide) a2 (by decide) (by decide) (by decide) rfl h1.symm (by rw [h2, h1])
  exact ⟨by omega, h3⟩
theorem wf_cutI (am bm : List Nat) (ha : am.length = 4) (hb : bm.length = 4) (qa : ∀ x ∈ am, x < 18446744073709551616) (qb : ∀ x ∈ bm, x < 18446744073709551616) (x y : List (BitVec 8)) (h : wf am ++ x = wf bm ++ y) : am = bm ∧ x = y := by
  match am, ha, bm, hb with
  | [a, b, c, d], _, [a', b', c', d'], _ =>
    have b1 := qa a (by simp)
    have b2 := qa b (by simp)
    have b3 := qa c (by simp)
    have b4 := qa d (by simp)
    have c1 := qb a' (by simp)
    have c2 := qb b' (by simp)
    have c3 := qb c' (by simp)
    have c4 := qb d' (by simp)
    have h' : fm [a, b, c, d] (nb a b c d) ++ x = fm [a', b', c', d'] (nb a' b' c' d') ++ y := h
    obtain ⟨h1, h2, h3⟩ := fm_cutI _ _ _ _ (nb_le32I _ _ _ _) (nb_le32I _ _ _ _) x y h'
    obtain ⟨rfl, rfl, rfl, rfl⟩ := fm_injI a b c d a' b' c' d' (nb a b c d) b1 b2 b3 b4 c1 c2 c3 c4 rfl h1.symm (by rw [h2, h1])
    exact ⟨rfl, h3⟩
theorem Ev.ext' {e f : Ev} (h1 : e.k = f.k) (h2 : e.sd = f.sd) (h3 : e.tm = f.tm) (h4 : e.tk = f.tk) (h5 : e.rc = f.rc) (h6 : e.am = f.am) (h7 : e.gs = f.gs) (h8 : e.d = f.d) : e = f := by
  cases e; cases f; simp_all
/-- Unlike entries have unlike bytes. -/
theorem Ev.inj {e f : Ev} (he : e.Wf) (hf : f.Wf) (me : e.May) (mf : f.May) (h : e.bytes = f.bytes) : e = f := by
  obtain ⟨t0, t1, hk⟩ := me
  obtain ⟨u0, u1, hl⟩ := mf
  unfold Ev.bytes at h
  rcases hk with ⟨k1, a1, a2, _, a3, a4, a5⟩ | ⟨k2, a1, a2, a3, a4, a5⟩
  · rw [if_pos k1] at h
    rcases hl with ⟨l1, b1, b2, _, b3, b4, b5⟩ | ⟨l2, b1, b2, b3, b4, b5⟩
    · rw [if_pos l1] at h
      unfold eb1 at h
      simp only [List.append_assoc, List.cons_append, List.nil_append, List.cons.injEq, true_and] at h
      obtain ⟨e1, h⟩ := List.append_inj h (by rw [he.ls, hf.ls])
      obtain ⟨e2, h⟩ := nf_cutI _ _ t0 (by omega) u0 (by omega) _ _ h
      obtain ⟨e3, h⟩ := nf_cutI _ _ a1 (by omega) b1 (by omega) _ _ h
      obtain ⟨e4, h⟩ := List.append_inj h (by rw [he.lt, hf.lt])
      obtain ⟨e5, h⟩ := wf_cutI _ _ he.la hf.la he.q hf.q _ _ h
      have h' : nf e.gs ++ [] = nf f.gs ++ [] := by rw [List.append_nil, List.append_nil]; exact h
      obtain ⟨e6, _⟩ := nf_cutI _ _ a3 (by omega) b3 (by omega) _ _ h'
      exact Ev.ext' (by rw [k1, l1]) e1 e2 e3 e4 e5 e6 (by rw [List.length_eq_zero_iff.1 a5, List.length_eq_zero_iff.1 b5])
    · rw [if_neg (by omega)] at h
      unfold eb1 eb2 at h
      simp only [List.append_assoc, List.cons_append, List.nil_append, List.cons.injEq] at h
      exact absurd h.1 (by decide)
  · rw [if_neg (by omega)] at h
    rcases hl with ⟨l1, b1, b2, _, b3, b4, b5⟩ | ⟨l2, b1, b2, b3, b4, b5⟩
    · rw [if_pos l1] at h
      unfold eb1 eb2 at h
      simp only [List.append_assoc, List.cons_append, List.nil_append, List.cons.injEq] at h
      exact absurd h.1 (by decide)
    · rw [if_neg (by omega)] at h
      unfold eb2 at h
      simp only [List.append_assoc, List.cons_append, List.nil_append, List.cons.injEq, true_and] at h
      obtain ⟨e1, h⟩ := List.append_inj h (by rw [he.ls, hf.ls])
      obtain ⟨e2, h⟩ := nf_cutI _ _ t0 (by omega) u0 (by omega) _ _ h
      obtain ⟨_, _, e3⟩ := fm_cutI _ _ _ _ (nb_le32I _ 0 0 0) (nb_le32I _ 0 0 0) _ _ h
      exact Ev.ext' (by rw [k2, l2]) e1 e2 (by rw [a1, b1]) (by rw [a2, b2]) (by rw [a3, b3]) (by rw [a4, b4]) e3
instance evDec : DecidableEq Ev := fun e f =>
  if h : e.k = f.k ∧ e.sd = f.sd ∧ e.tm = f.tm ∧ e.tk = f.tk ∧ e.rc = f.rc ∧ e.am = f.am ∧ e.gs = f.gs ∧ e.d = f.d then .isTrue (Ev.ext' h.1 h.2.1 h.2.2.1 h.2.2.2.1 h.2.2.2.2.1 h.2.2.2.2.2.1 h.2.2.2.2.2.2.1 h.2.2.2.2.2.2.2)
  else .isFalse (fun z => h (by subst z; exact ⟨rfl, rfl, rfl, rfl, rfl, rfl, rfl, rfl⟩))
/-- What is hashed for the link behind an entry. -/
def txt (k : List (BitVec 8)) (es : List Ev) (i : Nat) : List (BitVec 8) := lkf k (es.take i) ++ (match es[i]? with | some e => e.bytes | none => [])
/-- Two texts of one digest at one place. -/
def clB (k : List (BitVec 8)) (es fs : List Ev) (i : Nat) : Bool := !decide (txt k es i = txt k fs i) && decide (dig (txt k es i) = dig (txt k fs i))
def clN (k : List (BitVec 8)) (es fs : List Ev) (n : Nat) : Bool := (List.range n).any (clB k es fs)
theorem clN_succ (k : List (BitVec 8)) (es fs : List Ev) (n : Nat) : clN k es fs (n + 1) = (clN k es fs n || clB k es fs n) := by
  unfold clN
  rw [List.range_succ, List.any_append]
  simp
theorem lkf_succ (k : List (BitVec 8)) (es : List Ev) (i : Nat) (e : Ev) (h : es[i]? = some e) : lkf k (es.take (i + 1)) = dig (txt k es i) := by
  have : es.take (i + 1) = es.take i ++ [e] := by rw [List.take_add_one, h]; rfl
  rw [this, lkf_app]
  unfold txt
  rw [h]
  rfl
/-- One link, unlike rows: a clash. -/
theorem clash_of (k : List (BitVec 8)) (hk : k.length = 32) (es fs : List Ev) (hes : ∀ e ∈ es, e.Wf ∧ e.May) (hfs : ∀ e ∈ fs, e.Wf ∧ e.May) : ∀ n, n ≤ es.length → n ≤ fs.length → lkf k (es.take n) = lkf k (fs.take n) → es.take n ≠ fs.take n → clN k es fs n = true
  | 0, _, _, _, h => absurd (by simp) h
  | n + 1, h1, h2, hl, hne => by
    rw [clN_succ]
    have g1 : es[n]? = some es[n] := List.getElem?_eq_getElem (by omega)
    have g2 : fs[n]? = some fs[n] := List.getElem?_eq_getElem (by omega)
    rw [lkf_succ k es n _ g1, lkf_succ k fs n _ g2] at hl
    by_cases ht : txt k es n = txt k fs n
    · have ht' := ht
      unfold txt at ht'
      rw [g1, g2] at ht'
      simp only at ht'
      obtain ⟨e1, e2⟩ := List.append_inj ht' (by rw [lkf_len k hk, lkf_len k hk])
      obtain ⟨w1, m1⟩ := hes _ (List.getElem_mem (by omega : n < es.length))
      obtain ⟨w2, m2⟩ := hfs _ (List.getElem_mem (by omega : n < fs.length))
      have e3 := Ev.inj w1 w2 m1 m2 e2
      rw [clash_of k hk es fs hes hfs n (by omega) (by omega) e1 (fun z => hne (by rw [List.take_add_one, List.take_add_one, g1, g2, z, e3])), Bool.true_or]
    · have : clB k es fs n = true := by
        unfold clB
        rw [decide_eq_false ht, decide_eq_true hl]
        rfl
      rw [this, Bool.or_true]
/-- How many first entries two rows have in common. -/
def forkN (es fs : List Ev) : Nat → Nat
  | 0 => 0
  | n + 1 => if forkN es fs n = n ∧ es[n]? = fs[n]? then n + 1 else forkN es fs n
theorem forkN_le (es fs : List Ev) : ∀ n, forkN es fs n ≤ n
  | 0 => Nat.le_refl _
  | n + 1 => by
    unfold forkN
    split
    · exact Nat.le_refl _
    · exact Nat.le_succ_of_le (forkN_le es fs n)
theorem forkN_comm (es fs : List Ev) : ∀ n, forkN es fs n = forkN fs es n
  | 0 => rfl
  | n + 1 => by
    unfold forkN
    rw [forkN_comm es fs n]
    by_cases h : forkN fs es n = n ∧ es[n]? = fs[n]?
    · rw [if_pos h, if_pos ⟨h.1, h.2.symm⟩]
    · rw [if_neg h, if_neg (fun z => h ⟨z.1, z.2.symm⟩)]
/-- It stands still once the rows have parted. -/
theorem forkN_stop (es fs : List Ev) (i : Nat) (h : es[i]? ≠ fs[i]?) (hi : forkN es fs i = i) : ∀ n, i ≤ n → forkN es fs n = i
  | 0, h0 => by
    have : i = 0 := by omega
    rw [this]; rfl
  | n + 1, hn => by
    by_cases e : i = n + 1
    · rw [← e]; exact hi
    · have q := forkN_stop es fs i h hi n (by omega)
      unfold forkN
      rw [q, if_neg]
      rintro ⟨z1, z2⟩
      rw [← z1] at z2
      exact h z2
theorem forkN_same (es fs : List Ev) : ∀ n, forkN es fs n = n → ∀ i, i < n → es[i]? = fs[i]?
  | 0, _, i, hi => by omega
  | n + 1, h, i, hi => by
    unfold forkN at h
    split at h
    · rename_i z
      by_cases e : i = n
      · subst e; exact z.2
      · exact forkN_same es fs n z.1 i (by omega)
    · have := forkN_le es fs n; omega
theorem forkN_of (es fs : List Ev) : ∀ n, (∀ i, i < n → es[i]? = fs[i]?) → forkN es fs n = n
  | 0, _ => rfl
  | n + 1, h => by
    unfold forkN
    rw [if_pos ⟨forkN_of es fs n (fun i hi => h i (by omega)), h n (by omega)⟩]
theorem forkN_min (es fs : List Ev) (n i : Nat) (h : i ≤ forkN es fs n) : ∀ j, j < i → es[j]? = fs[j]? := by
  induction n with
  | zero => intro j hj; have := forkN_le es fs 0; omega
  | succ n ih =>
    intro j hj
    by_cases e : forkN es fs (n + 1) = n + 1
    · exact forkN_same es fs _ e j (by omega)
    · unfold forkN at h e
      split at h
      · rename_i z; rw [if_pos z] at e; exact absurd rfl e
      · exact ih h j hj
theorem take_of_get {es fs : List Ev} {n : Nat} (h : ∀ j, j < n → es[j]? = fs[j]?) : es.take n = fs.take n := by
  refine List.ext_getElem? fun j => ?_
  by_cases hj : j < n
  · rw [List.getElem?_take_of_lt hj, List.getElem?_take_of_lt hj]; exact h j hj
  · rw [List.getElem?_eq_none (by rw [List.length_take]; omega), List.getElem?_eq_none (by rw [List.length_take]; omega)]
theorem get_of_take {es fs : List Ev} {n : Nat} (h : es.take n = fs.take n) : ∀ j, j < n → es[j]? = fs[j]? := fun j hj => by
  rw [← List.getElem?_take_of_lt hj, h, List.getElem?_take_of_lt hj]
/-- The rows as far as n are the same just if they fork at n. -/
theorem fork_take (es fs : List Ev) (n : Nat) : forkN es fs n = n ↔ es.take n = fs.take n :=
  ⟨fun h => take_of_get (forkN_same es fs n h), fun h => forkN_of es fs n (get_of_take h)⟩
theorem fork_lt (es fs : List Ev) (n i : Nat) (hi : i ≤ n) (h : forkN es fs n < i) : es.take i ≠ fs.take i := fun z => by
  have h2 : forkN es fs i = i := (fork_take es fs i).2 z
  have : ∀ m, i ≤ m → i ≤ forkN es fs m := by
    intro m hm
    induction m with
    | zero => have : i = 0 := by omega
              omega
    | succ m ih =>
      by_cases e : i = m + 1
      · rw [← e, h2]; exact Nat.le_refl _
      · have q := ih (by omega)
        unfold forkN
        split
        · omega
        · exact q
  have := this n hi
  omega

end Go.Proofs.YtfjhecmnbodkfaaGreatDoor
