/-
  leaves compared.
-/
import Derived.Test.YtfkcmeafddhmkaaGreatDoorXEq
import Derived.Deep.RegionLaw
import Derived.Test.YtfkcmeafddhmkaaGreatDoorObA
import Derived.Test.YtfkcmeafddhmkaaGreatDoorObD

namespace Go.Proofs.YtfkcmeafddhmkaaGreatDoor
open Go Go.RowKit
open Sha

section
variable {ops : Array Oper} {rest : List Oper} {op : Oper} {a : Act} {w : World} {Q : Exit → Act → World → Prop}
end
theorem below3 {w w2 W6 W7 : World} (h1 : Below w.heap.size w w2) (h2 : Below (World.drew w2).heap.size (World.drew w2) W6) (h3 : Below W6.heap.size W6 W7) : Below w.heap.size w W7 := by
  have h2' : Below w2.heap.size w2 W6 := ⟨h2.os, h2.tape, h2.output, h2.size, h2.block⟩
  have h4 := h1.trans (h2'.mono h1.size)
  exact h4.trans (h3.mono h4.size)
theorem guard_32 : Tryz.prog.eqGuardType Tryz.prog.depth 39 = false := by kernel_rfl
theorem guard_20 : Tryz.prog.eqGuardType Tryz.prog.depth 24 = false := by kernel_rfl
theorem stp_neq_b {ops : Array Oper} {o : Oper} {a : Act} {w : World} {K : Act → World → Prop} {Q : Exit → Act → World → Prop} {E : Prop} (hg : o.guard = none) (t : TypeId) (x y : Operand) (yt : TypeId) (ho : o.op = .binOp .neq t x y yt) (n : Nat) (l r : List (BitVec 8)) (hx : a.eval x = .agg (vB l).toArray) (hy : a.eval y = .agg (vB r).toArray) (hl : l.length = n) (hr : r.length = n)
    (ht : Tryz.prog.underlying t = some (.array n 5)) (hm : Tryz.prog.eqGuardType Tryz.prog.depth t = false) (B : Bool) (hB : (!decide (l = r)) = B) (h : K (a.put o.dst (.bool B)) w) : if Region.wanted o (yielded ops a.tmps) = true then Oper.wp Tryz.prog o a w K Q else E := by
  have hw : Region.wanted o (yielded ops a.tmps) = true := by simp [Region.wanted, hg]
  rw [if_pos hw]
  subst hB
  unfold Oper.wp execOp
  simp only [ho, hx, hy, Sem.run_bind, run_eqGuard_agg w .neq t x y _ _ hm, Result.andThen_ok, run_neq_vB w t 5 n ht Tryz.underlying5 info_u8 l r hl hr, Sem.run_pure, Oper.upon_value]
  exact h

end Go.Proofs.YtfkcmeafddhmkaaGreatDoor

namespace Go.Proofs.YtfkcmeafddhmkaaGreatDoor
open Go Go.RowKit
open Sha

theorem lt_bitsI : ∀ f x : Nat, x < 2 ^ f → x < 2 ^ Lib.bitLenAux f x
  | 0, x, h => by simpa [Lib.bitLenAux] using h
  | f + 1, x, h => by
    simp only [Lib.bitLenAux]
    by_cases h0 : x = 0
    · subst h0; simp
    · rw [if_neg h0]
      have h1 : x / 2 < 2 ^ f := by rw [Nat.pow_succ] at h; omega
      have := lt_bitsI f (x / 2) h1
      rw [Nat.add_comm 1, Nat.pow_succ]
      omega
theorem lt_blI (x : Nat) (h : x < 18446744073709551616) (t : Nat) (ht : bl x ≤ t) : x / 2 ^ (t * 8) = 0 := by
  apply Nat.div_eq_of_lt
  have h1 : x < 2 ^ Lib.bitLen x := lt_bitsI 64 x h
  refine Nat.lt_of_lt_of_le h1 (Nat.pow_le_pow_right (by decide) ?_)
  unfold bl at ht
  omega
theorem fb_zeroI (a b c d : Nat) (ha : a < 18446744073709551616) (hb : b < 18446744073709551616) (hc : c < 18446744073709551616) (hd : d < 18446744073709551616) (i : Nat) (hi : nb a b c d ≤ i) (h32 : i < 32) : fb [a, b, c, d] i = 0#8 := by
  unfold fb
  have key : [a, b, c, d].getD (i / 8) 0 / 2 ^ (i % 8 * 8) = 0 := by
    unfold nb at hi
    rcases (show i / 8 = 0 ∨ i / 8 = 1 ∨ i / 8 = 2 ∨ i / 8 = 3 by omega) with e | e | e | e
    · rw [e]; show a / _ = 0
      by_cases h3 : d ≠ 0
      · rw [if_pos h3] at hi; omega
      · rw [if_neg h3] at hi
        by_cases h2 : c ≠ 0
        · rw [if_pos h2] at hi; omega
        · rw [if_neg h2] at hi
          by_cases h1 : b ≠ 0
          · rw [if_pos h1] at hi; omega
          · rw [if_neg h1] at hi
            by_cases h0 : a ≠ 0
            · rw [if_pos h0] at hi; exact lt_blI a ha _ (by omega)
            · rw [Classical.not_not.1 h0, Nat.zero_div]
    · rw [e]; show b / _ = 0
      by_cases h3 : d ≠ 0
      · rw [if_pos h3] at hi; omega
      · rw [if_neg h3] at hi
        by_cases h2 : c ≠ 0
        · rw [if_pos h2] at hi; omega
        · rw [if_neg h2] at hi
          by_cases h1 : b ≠ 0
          · rw [if_pos h1] at hi; exact lt_blI b hb _ (by omega)
          · rw [Classical.not_not.1 h1, Nat.zero_div]
    · rw [e]; show c / _ = 0
      by_cases h3 : d ≠ 0
      · rw [if_pos h3] at hi; omega
      · rw [if_neg h3] at hi
        by_cases h2 : c ≠ 0
        · rw [if_pos h2] at hi; exact lt_blI c hc _ (by omega)
        · rw [Classical.not_not.1 h2, Nat.zero_div]
    · rw [e]; show d / _ = 0
      by_cases h3 : d ≠ 0
      · rw [if_pos h3] at hi; exact lt_blI d hd _ (by omega)
      · rw [Classical.not_not.1 h3, Nat.zero_div]
  rw [key]
theorem word_eq (x y : Nat) (hx : x < 18446744073709551616) (hy : y < 18446744073709551616) (h : ∀ t, t < 8 → BitVec.ofNat 8 (x / 2 ^ (t * 8)) = BitVec.ofNat 8 (y / 2 ^ (t * 8))) : x = y := by
  have q : ∀ t, t < 8 → x / 2 ^ (t * 8) % 256 = y / 2 ^ (t * 8) % 256 := fun t ht => by
    have := congrArg BitVec.toNat (h t ht)
    rwa [BitVec.toNat_ofNat, BitVec.toNat_ofNat] at this
  have q0 := q 0 (by decide)
  have q1 := q 1 (by decide)
  have q2 := q 2 (by decide)
  have q3 := q 3 (by decide)
  have q4' := q 4 (by decide)
  have q5 := q 5 (by decide)
  have q6 := q 6 (by decide)
  have q7 := q 7 (by decide)
  simp only [Nat.reduceMul, Nat.reducePow] at q0 q1 q2 q3 q4' q5 q6 q7
  omega
theorem fm_inj (a b c d a' b' c' d' k : Nat) (ha : a < 18446744073709551616) (hb : b < 18446744073709551616) (hc : c < 18446744073709551616) (hd : d < 18446744073709551616) (ha' : a' < 18446744073709551616) (hb' : b' < 18446744073709551616) (hc' : c' < 18446744073709551616) (hd' : d' < 18446744073709551616) (hk : nb a b c d = k) (hk' : nb a' b' c' d' = k) (h : fm [a, b, c, d] k = fm [a', b', c', d'] k) : a = a' ∧ b = b' ∧ c = c' ∧ d = d' := by
  have hf : ∀ i, i < 32 → fb [a, b, c, d] i = fb [a', b', c', d'] i := fun i hi => by
    by_cases hik : i < k
    · unfold fm at h
      simp only [List.cons.injEq, true_and] at h
      have h2 := congrArg (fun l => l[k - 1 - i]?) h
      simp only [List.getElem?_map, List.getElem?_range (show k - 1 - i < k by omega), Option.map_some, Option.some.injEq] at h2
      rwa [show k - 1 - (k - 1 - i) = i by omega] at h2
    · rw [fb_zeroI a b c d ha hb hc hd i (by omega) hi, fb_zeroI a' b' c' d' ha' hb' hc' hd' i (by omega) hi]
  have w : ∀ j, j < 4 → ∀ t, t < 8 → BitVec.ofNat 8 ([a, b, c, d].getD j 0 / 2 ^ (t * 8)) = BitVec.ofNat 8 ([a', b', c', d'].getD j 0 / 2 ^ (t * 8)) := fun j hj t ht => by
    have := hf (8 * j + t) (by omega)
    unfold fb at this
    rwa [show (8 * j + t) / 8 = j by omega, show (8 * j + t) % 8 = t by omega] at this
  exact ⟨word_eq a a' ha ha' (w 0 (by decide)), word_eq b b' hb hb' (w 1 (by decide)), word_eq c c' hc hc' (w 2 (by decide)), word_eq d d' hd hd' (w 3 (by decide))⟩
/-- A form ahead of a form and more. -/
theorem fm_pre (l l' : List Nat) (k k' : Nat) (hk : k ≤ 32) (hk' : k' ≤ 32) (e x : List (BitVec 8)) (h : fm l k ++ x = (fm l' k' ++ e).take (fm l k ++ x).length) : k = k' ∧ fm l k = fm l' k' := by
  have h0 := congrArg (fun z => z[0]?) h
  have e0 : k = k' := by
    simp only [fm, List.cons_append, List.length_cons, List.getElem?_cons_zero, List.take_succ_cons, Option.some.injEq] at h0
    have := congrArg BitVec.toNat h0
    rw [BitVec.toNat_ofNat, BitVec.toNat_ofNat] at this
    omega
  subst e0
  refine ⟨rfl, ?_⟩
  have h1 := congrArg (fun z => z.take (k + 1)) h
  rw [List.take_append_of_le_length (by rw [fm_len]; exact Nat.le_refl _), List.take_of_length_le (by rw [fm_len]; exact Nat.le_refl _), List.take_take, List.length_append, fm_len, show min (k + 1) (k + 1 + x.length) = k + 1 by omega, List.take_append_of_le_length (by rw [fm_len]; exact Nat.le_refl _), List.take_of_length_le (by rw [fm_len]; exact Nat.le_refl _)] at h1
  exact h1

theorem take_eq {x y : List (BitVec 8)} (hl : x.length = y.length) (h : x = y.take x.length) : x = y := by rw [hl, List.take_length] at h; exact h
/-- Of unlike values neither's form begins the other's. -/
theorem fo_apart (k : Nat) (N N' : Int) (d d' : List (BitVec 8)) (hd : d.length ≤ 4194304) (hd' : d'.length ≤ 4194304) (a b c1 d1 a' b' c' e' : Nat) (ha : a < 18446744073709551616) (hb : b < 18446744073709551616) (hc : c1 < 18446744073709551616) (hd1 : d1 < 18446744073709551616) (ha' : a' < 18446744073709551616) (hb' : b' < 18446744073709551616) (hc' : c' < 18446744073709551616) (he' : e' < 18446744073709551616)
    (h : ap k N N' d d' [a, b, c1, d1] [a', b', c', e'] = true) : ¬ ((fo k N d a b c1 d1).length ≤ (fo k N' d' a' b' c' e').length ∧ fo k N d a b c1 d1 = (fo k N' d' a' b' c' e').take (fo k N d a b c1 d1).length) := by
  rintro ⟨_, hp⟩
  unfold ap at h
  unfold fo at hp
  split at h
  · simp only at hp
    have := take_eq (by simp) hp
    simp only [List.cons.injEq, and_true] at this
    have := congrArg c this
    rw [c_ofInt, c_ofInt] at this
    simp [this] at h
  · simp only at hp
    have := take_eq (by simp) hp
    simp only [List.cons.injEq, and_true] at this
    revert h this
    cases (!(N.tmod 2 == 0)) <;> cases (!(N'.tmod 2 == 0)) <;> simp
  · simp only at hp
    have r1 := pk_range N mx (by decide)
    have r2 := pk_range N' mx (by decide)
    have u1 : pk N mx < 9223372036854775807 := r1.2
    have u2 : pk N' mx < 9223372036854775807 := r2.2
    obtain ⟨ek, ef⟩ := fm_pre _ _ _ _ (nb_le _ _ _ _) (nb_le _ _ _ _) [] [] (by simpa using hp)
    rw [← ek] at ef
    obtain ⟨q, _⟩ := fm_inj _ _ _ _ _ _ _ _ _ (by omega) (by omega) (by omega) (by omega) (by omega) (by omega) (by omega) (by omega) rfl ek.symm ef
    have : pk N mx = pk N' mx := by omega
    simp [this] at h
  · simp only at hp
    obtain ⟨ek, ef⟩ := fm_pre _ _ _ _ (nb_le _ _ _ _) (nb_le _ _ _ _) d' d hp
    rw [← ek] at ef
    obtain ⟨q, _⟩ := fm_inj _ _ _ _ _ _ _ _ _ (by omega) (by omega) (by omega) (by omega) (by omega) (by omega) (by omega) (by omega) rfl ek.symm ef
    have e2 := take_eq (by rw [List.length_append, List.length_append, fm_len, fm_len, ek, q]) hp
    rw [← ek, ef] at e2
    have := List.append_cancel_left e2
    simp [this] at h
  · simp only at hp
    obtain ⟨ek, ef⟩ := fm_pre _ _ _ _ (nb_le _ _ _ _) (nb_le _ _ _ _) [] [] (by simpa using hp)
    rw [← ek] at ef
    obtain ⟨q1, q2, q3, q4'⟩ := fm_inj _ _ _ _ _ _ _ _ _ ha hb hc hd1 ha' hb' hc' he' rfl ek.symm ef
    simp [q1, q2, q3, q4'] at h
  · simp only at hp
    have := take_eq (by rw [dgN_len, dgN_len]) hp
    simp [this] at h
  · rename_i k' h0 h1 h2 h3 h4 h5
    split at hp
    all_goals first | (exact (h0 rfl).elim) | (exact (h1 rfl).elim) | (exact (h2 rfl).elim) | (exact (h3 rfl).elim) | (exact (h4 rfl).elim) | (exact (h5 rfl).elim) | (have := take_eq (by rw [dgN_len, dgN_len]) hp; simp [this] at h)
/-- Of values that are alike the forms are. -/
theorem fo_alike (k : Nat) (N N' : Int) (d d' : List (BitVec 8)) (a b c1 d1 a' b' c' e' : Nat) (h : ap k N N' d d' [a, b, c1, d1] [a', b', c', e'] = false) : fo k N d a b c1 d1 = fo k N' d' a' b' c' e' := by
  unfold ap at h
  unfold fo
  split at h
  · try simp only
    simp at h
    congr 1
    exact c_inj (by rw [c_ofInt, c_ofInt]; exact h)
  · try simp only
    simp only [Bool.not_eq_false', beq_iff_eq] at h
    rw [h]
  · try simp only
    simp only [Bool.not_eq_false', beq_iff_eq] at h
    rw [h]
  · try simp only
    simp only [Bool.not_eq_false', decide_eq_true_eq] at h
    rw [h]
  · try simp only
    simp only [Bool.not_eq_false', decide_eq_true_eq, List.cons.injEq, and_true] at h
    rw [h.1, h.2.1, h.2.2.1, h.2.2.2]
  · try simp only
    simp only [Bool.not_eq_false', decide_eq_true_eq] at h
    rw [h]
  · rename_i k' h0 h1 h2 h3 h4 h5
    simp only [Bool.not_eq_false', decide_eq_true_eq] at h
    try split
    all_goals first | (exact (h0 rfl).elim) | (exact (h1 rfl).elim) | (exact (h2 rfl).elim) | (exact (h3 rfl).elim) | (exact (h4 rfl).elim) | (exact (h5 rfl).elim) | (rw [h])

end Go.Proofs.YtfkcmeafddhmkaaGreatDoor

namespace Go.Proofs.YtfkcmeafddhmkaaGreatDoor
open Go Go.RowKit
open Sha

theorem fm_len11 (l : List Nat) (k : Nat) : (fm l k).length = k + 1 := by simp [fm]
theorem fm_cut (l l' : List Nat) (k k' : Nat) (hk : k ≤ 32) (hk' : k' ≤ 32) (x y : List (BitVec 8)) (h : fm l k ++ x = fm l' k' ++ y) : k = k' ∧ fm l k = fm l' k' ∧ x = y := by
  have e : k = k' := by
    have h0 := congrArg (fun t => t[0]?) h
    simp only [fm, List.cons_append, List.getElem?_cons_zero, Option.some.injEq] at h0
    have := congrArg BitVec.toNat h0
    simp only [BitVec.toNat_ofNat] at this
    omega
  subst e
  have := List.append_inj h (by rw [fm_len11, fm_len11])
  exact ⟨rfl, this.1, this.2⟩
theorem nb_le32 (a b c d : Nat) : nb a b c d ≤ 32 := by
  have h1 := bl_le a
  have h2 := bl_le b
  have h3 := bl_le c
  have h4 := bl_le d
  unfold nb
  split
  · omega
  · split
    · omega
    · split
      · omega
      · split
        · omega
        · omega
theorem nf_cut (m n : Int) (hm : 0 ≤ m) (hm2 : m < 1099511627776) (hn : 0 ≤ n) (hn2 : n < 1099511627776) (x y : List (BitVec 8)) (h : nf m ++ x = nf n ++ y) : m = n ∧ x = y := by
  unfold nf at h
  have a1 : m.toNat < 18446744073709551616 := by omega
  have a2 : n.toNat < 18446744073709551616 := by omega
  obtain ⟨h1, h2, h3⟩ := fm_cut _ _ _ _ (nb_le32 _ 0 0 0) (nb_le32 _ 0 0 0) x y h
  have q := fm_inj m.toNat 0 0 0 n.toNat 0 0 0 (nb m.toNat 0 0 0) a1 (by decide) (by decide) (by decide) a2 (by decide) (by decide) (by decide) rfl h1.symm (by rw [h2, h1])
  exact ⟨by omega, h3⟩
theorem wf_inj (am bm : List Nat) (ha : am.length = 4) (hb : bm.length = 4) (qa : ∀ x ∈ am, x < 18446744073709551616) (qb : ∀ x ∈ bm, x < 18446744073709551616) (h : wf am = wf bm) : am = bm := by
  match am, ha, bm, hb with
  | [a, b, c, d], _, [a', b', c', d'], _ =>
    have b1 := qa a (by simp)
    have b2 := qa b (by simp)
    have b3 := qa c (by simp)
    have b4 := qa d (by simp)
    have c1 := qb a' (by simp)
    have c2 := qb b' (by simp)
    have c3 := qb c' (by simp)
    have c4 := qb d' (by simp)
    have h' : fm [a, b, c, d] (nb a b c d) ++ [] = fm [a', b', c', d'] (nb a' b' c' d') ++ [] := by rw [List.append_nil, List.append_nil]; exact h
    obtain ⟨h1, h2, _⟩ := fm_cut _ _ _ _ (nb_le32 _ _ _ _) (nb_le32 _ _ _ _) [] [] h'
    obtain ⟨rfl, rfl, rfl, rfl⟩ := fm_inj a b c d a' b' c' d' (nb a b c d) b1 b2 b3 b4 c1 c2 c3 c4 rfl h1.symm (by rw [h2, h1])
    rfl
/-- Unlike leaves have unlike bytes. -/
theorem lfb_inj (ix en tk ix' en' tk' : Int) (rc rc' : List (BitVec 8)) (am am' : List Nat) (hm : may ix en tk am = true) (hm' : may ix' en' tk' am' = true) (hrc : rc.length = 20) (hrc' : rc'.length = 20) (ham : am.length = 4) (ham' : am'.length = 4) (q : ∀ x ∈ am, x < 18446744073709551616) (q' : ∀ x ∈ am', x < 18446744073709551616) (h : lfb ix en tk rc am = lfb ix' en' tk' rc' am') :
    ix = ix' ∧ en = en' ∧ tk = tk' ∧ rc = rc' ∧ am = am' := by
  have m1 := may_in hm
  have m2 := may_in hm'
  unfold lfb at h
  simp only [List.append_assoc, List.cons_append, List.nil_append, List.cons.injEq, true_and] at h
  obtain ⟨e1, h⟩ := nf_cut ix ix' (by omega) (by omega) (by omega) (by omega) _ _ h
  obtain ⟨e2, h⟩ := nf_cut en en' (by omega) (by omega) (by omega) (by omega) _ _ h
  obtain ⟨e3, h⟩ := nf_cut tk tk' (by omega) (by omega) (by omega) (by omega) _ _ h
  obtain ⟨e4, h⟩ := List.append_inj h (by rw [hrc, hrc'])
  exact ⟨e1, e2, e3, e4, wf_inj am am' ham ham' q q' h⟩

end Go.Proofs.YtfkcmeafddhmkaaGreatDoor

namespace Go.Proofs.YtfkcmeafddhmkaaGreatDoor
open Go Go.RowKit
open Sha

theorem eqAg (w : World) (l r : List (BitVec 8)) (hl : l.length = 20) (hr : r.length = 20) : (Op.equalIn 9999 24 (.agg (vB l).toArray) (.agg (vB r).toArray)).run Tryz.prog w = .ok (decide (l = r)) w := by
  have q := run_equalIn_bytes (P := Tryz.prog) w 9997 24 5 20 Tryz.underlying24 Tryz.underlying5 szU8 (toU l) (toU r) (by rw [toU_length, hl]) (by rw [toU_length, hr])
  rw [toU_beq, ← vB_cell, ← vB_cell] at q
  exact q
theorem eqWg (w : World) (l r : List Nat) (hl : l.length = 4) (hr : r.length = 4) : (Op.equalIn 9999 27 (.agg (vQ l).toArray) (.agg (vQ r).toArray)).run Tryz.prog w = .ok (decide (l = r)) w :=
  run_equalIn_vQ (P := Tryz.prog) (w := w) 9997 27 25 4 Tryz.underlying27 Tryz.underlying25 szU64 l r hl hr
set_option maxRecDepth 100000 in
set_option maxHeartbeats 4000000 in
theorem neG1 (ix en tk en' tk' : Int) (s0 s1 s2 s3 s4 s5 s6 s7 s8 s9 s10 s11 s12 s13 s14 s15 s16 s17 s18 s19 t0 t1 t2 t3 t4 t5 t6 t7 t8 t9 t10 t11 t12 t13 t14 t15 t16 t17 t18 t19 : BitVec 8) (a0 a1 a2 a3 b0 b1 b2 b3 : Nat) (B BA BW : Bool) (w : World) (hA : ∀ w, (Op.equalIn 9999 24 (.agg #[.int .u8 (c s0), .int .u8 (c s1), .int .u8 (c s2), .int .u8 (c s3), .int .u8 (c s4), .int .u8 (c s5), .int .u8 (c s6), .int .u8 (c s7), .int .u8 (c s8), .int .u8 (c s9), .int .u8 (c s10), .int .u8 (c s11), .int .u8 (c s12), .int .u8 (c s13), .int .u8 (c s14), .int .u8 (c s15), .int .u8 (c s16), .int .u8 (c s17), .int .u8 (c s18), .int .u8 (c s19)]) (.agg #[.int .u8 (c t0), .int .u8 (c t1), .int .u8 (c t2), .int .u8 (c t3), .int .u8 (c t4), .int .u8 (c t5), .int .u8 (c t6), .int .u8 (c t7), .int .u8 (c t8), .int .u8 (c t9), .int .u8 (c t10), .int .u8 (c t11), .int .u8 (c t12), .int .u8 (c t13), .int .u8 (c t14), .int .u8 (c t15), .int .u8 (c t16), .int .u8 (c t17), .int .u8 (c t18), .int .u8 (c t19)])).run Tryz.prog w = .ok BA w) (hW : ∀ w, (Op.equalIn 9999 27 (.agg #[.int .u64 (a0 : Int), .int .u64 (a1 : Int), .int .u64 (a2 : Int), .int .u64 (a3 : Int)]) (.agg #[.int .u64 (b0 : Int), .int .u64 (b1 : Int), .int .u64 (b2 : Int), .int .u64 (b3 : Int)])).run Tryz.prog w = .ok BW w)
    (hB : B = !(decide (en = en') && decide (tk = tk') && BA && BW)) :
    (binOp .neq 46 (.agg #[.int .i64 ix, .int .i64 en, .int .i64 tk, .int .u8 (c s0), .int .u8 (c s1), .int .u8 (c s2), .int .u8 (c s3), .int .u8 (c s4), .int .u8 (c s5), .int .u8 (c s6), .int .u8 (c s7), .int .u8 (c s8), .int .u8 (c s9), .int .u8 (c s10), .int .u8 (c s11), .int .u8 (c s12), .int .u8 (c s13), .int .u8 (c s14), .int .u8 (c s15), .int .u8 (c s16), .int .u8 (c s17), .int .u8 (c s18), .int .u8 (c s19), .int .u64 (a0 : Int), .int .u64 (a1 : Int), .int .u64 (a2 : Int), .int .u64 (a3 : Int)]) (.agg #[.int .i64 ix, .int .i64 en', .int .i64 tk', .int .u8 (c t0), .int .u8 (c t1), .int .u8 (c t2), .int .u8 (c t3), .int .u8 (c t4), .int .u8 (c t5), .int .u8 (c t6), .int .u8 (c t7), .int .u8 (c t8), .int .u8 (c t9), .int .u8 (c t10), .int .u8 (c t11), .int .u8 (c t12), .int .u8 (c t13), .int .u8 (c t14), .int .u8 (c t15), .int .u8 (c t16), .int .u8 (c t17), .int .u8 (c t18), .int .u8 (c t19), .int .u64 (b0 : Int), .int .u64 (b1 : Int), .int .u64 (b2 : Int), .int .u64 (b3 : Int)])).run Tryz.prog w = .ok (.bool B) w := by
  subst hB
  by_cases h1 : en = en'
  · subst h1
    by_cases h2 : tk = tk'
    · subst h2
      cases BA with
      | false =>
        go_simp
      | true =>
        cases BW with
        | false =>
          go_simp
        | true =>
          go_simp
    · go_simp
  · go_simp
theorem neG (ix en tk en' tk' : Int) (rc rc' : List (BitVec 8)) (am am' : List Nat) (h : rc.length = 20) (h' : rc'.length = 20) (h4 : am.length = 4) (h4' : am'.length = 4) (B : Bool) (hB : B = !(decide (en = en') && decide (tk = tk') && decide (rc = rc') && decide (am = am'))) (w : World) : (binOp .neq 46 (.agg (lf ix en tk rc am).toArray) (.agg (lf ix en' tk' rc' am').toArray)).run Tryz.prog w = .ok (.bool B) w := by
  match rc, h, am, h4, rc', h', am', h4' with
  | [s0, s1, s2, s3, s4, s5, s6, s7, s8, s9, s10, s11, s12, s13, s14, s15, s16, s17, s18, s19], _, [a0, a1, a2, a3], _, [t0, t1, t2, t3, t4, t5, t6, t7, t8, t9, t10, t11, t12, t13, t14, t15, t16, t17, t18, t19], _, [b0, b1, b2, b3], _ =>
    exact neG1 ix en tk en' tk' s0 s1 s2 s3 s4 s5 s6 s7 s8 s9 s10 s11 s12 s13 s14 s15 s16 s17 s18 s19 t0 t1 t2 t3 t4 t5 t6 t7 t8 t9 t10 t11 t12 t13 t14 t15 t16 t17 t18 t19 a0 a1 a2 a3 b0 b1 b2 b3 B _ _ w (fun w => eqAg w [s0, s1, s2, s3, s4, s5, s6, s7, s8, s9, s10, s11, s12, s13, s14, s15, s16, s17, s18, s19] [t0, t1, t2, t3, t4, t5, t6, t7, t8, t9, t10, t11, t12, t13, t14, t15, t16, t17, t18, t19] rfl rfl) (fun w => eqWg w [a0, a1, a2, a3] [b0, b1, b2, b3] rfl rfl) hB
section
variable {ops : Array Oper} {rest : List Oper} {op : Oper} {a : Act} {w : World} {Q : Exit → Act → World → Prop}
theorem wpList_neqG (hw : Region.wanted op (yielded ops a.tmps) = true) (x y : Operand) (yt : TypeId) (ho : op.op = .binOp .neq 46 x y yt) (L M : List Value) (B : Bool) (hx : a.eval x = .agg L.toArray) (hy : a.eval y = .agg M.toArray)
    (hr : ∀ w, (binOp .neq 46 (.agg L.toArray) (.agg M.toArray)).run Tryz.prog w = .ok (.bool B) w) (h : wpList Tryz.prog ops Q rest (a.put op.dst (.bool B)) w) : wpList Tryz.prog ops Q (op :: rest) a w :=
  BigFrame.wpList_want hw fun _ hK => by
    unfold Oper.wp execOp
    simp only [ho, hx, hy, Sem.run_bind, run_eqGuard_agg w .neq 46 x y _ _ guardL, Result.andThen_ok, hr, Sem.run_pure, Oper.upon_value]
    exact hK _ _ h
end

end Go.Proofs.YtfkcmeafddhmkaaGreatDoor
