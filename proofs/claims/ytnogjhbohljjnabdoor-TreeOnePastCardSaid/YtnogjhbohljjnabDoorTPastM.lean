/-
  Plain mathematics for TreeOnePast: a past that was not hands over two texts of one digest.
-/
import Derived.Test.YtnogjhbohljjnabDoorTOneM
import Derived.Test.YtnogjhbohljjnabDoorTCm
import Derived.Test.YtnogjhbohljjnabDoorTGrew
namespace Go.Proofs.YtnogjhbohljjnabDoor
open Go Go.RowKit
open Sha

/-- The texts that are digested for a path. -/
def TX (n i : Nat) (x : List (BitVec 8)) (us : List (List (BitVec 8))) : List (List (BitVec 8)) := txs (sd n i) us x (us.length + 1)
/-- Two unlike texts of one digest among some. -/
def Cls (L : List (List (BitVec 8))) : Prop := ∃ p ∈ L, ∃ q ∈ L, p ≠ q ∧ dig p = dig q
theorem Cls.mono {L M : List (List (BitVec 8))} (h : Cls L) (hs : ∀ p ∈ L, p ∈ M) : Cls M := by
  obtain ⟨p, hp, q, hq, h1⟩ := h
  exact ⟨p, hs p hp, q, hs q hq, h1⟩
theorem txs_mem (ss : List Bool) (ds : List (List (BitVec 8))) (lf : List (BitVec 8)) (m k : Nat) (h : k < m) : txk ss ds lf k ∈ txs ss ds lf m :=
  List.mem_map.2 ⟨k, List.mem_range.2 h, rfl⟩
theorem txs_front (ss : List Bool) (b : Bool) (ds : List (List (BitVec 8))) (l lf : List (BitVec 8)) (hl : ss.length = ds.length) : txs (ss ++ [b]) (ds ++ [l]) lf (ds.length + 1) = txs ss ds lf (ds.length + 1) := by
  unfold txs
  apply List.map_congr_left
  intro k hk
  exact txk_front ss b ds l lf hl k (by have := List.mem_range.1 hk; omega)
theorem TX_left (n i : Nat) (x l : List (BitVec 8)) (rs : List (List (BitVec 8))) (h2 : 2 ≤ n) (hn : n < 4611686018427387904) (hk : i < fpart n) (hl : rs.length = pl (fpart n) i) : TX n i x (rs ++ [l]) = TX (fpart n) i x rs ++ [[1#8] ++ (rb (fpart n) i x rs ++ l)] := by
  have hb := fpart_bounds n h2 hn
  have hp := fpart_pos n
  have q := sd_length (fpart n) i (by omega) (by omega)
  unfold TX
  rw [List.length_append, List.length_singleton, txs_succ, sd_left n i h2 hn hk, txs_front _ _ _ _ _ (by omega)]
  congr 2
  have e1 : (sd (fpart n) i ++ [true]).getD rs.length false = true := by simp [List.getD_eq_getElem?_getD, ← show (sd (fpart n) i).length = rs.length by omega]
  have e2 : (rs ++ [l]).getD rs.length [] = l := by simp [List.getD_eq_getElem?_getD]
  rw [txk, e1, e2, txk_front _ _ _ _ _ (by omega) _ (by omega), rb_txk (fpart n) i x rs hk (by omega) hl, ← hl]
  rfl
theorem TX_right (n i : Nat) (x l : List (BitVec 8)) (rs : List (List (BitVec 8))) (h2 : 2 ≤ n) (hn : n < 4611686018427387904) (hin : i < n) (hk : ¬ i < fpart n) (hl : rs.length = pl (n - fpart n) (i - fpart n)) : TX n i x (rs ++ [l]) = TX (n - fpart n) (i - fpart n) x rs ++ [[1#8] ++ (l ++ rb (n - fpart n) (i - fpart n) x rs)] := by
  have hb := fpart_bounds n h2 hn
  have hp := fpart_pos n
  have q := sd_length (n - fpart n) (i - fpart n) (by omega) (by omega)
  unfold TX
  rw [List.length_append, List.length_singleton, txs_succ, sd_right n i h2 hn hk, txs_front _ _ _ _ _ (by omega)]
  congr 2
  have e1 : (sd (n - fpart n) (i - fpart n) ++ [false]).getD rs.length false = false := by simp [List.getD_eq_getElem?_getD, ← show (sd (n - fpart n) (i - fpart n)).length = rs.length by omega]
  have e2 : (rs ++ [l]).getD rs.length [] = l := by simp [List.getD_eq_getElem?_getD]
  rw [txk, e1, e2, txk_front _ _ _ _ _ (by omega) _ (by omega), rb_txk (n - fpart n) (i - fpart n) x rs (by omega) (by omega) hl, ← hl]
  rfl
/-- Two leaves at one place of one root. -/
theorem two_leaves (n i : Nat) (x y : List (BitVec 8)) (us vs : List (List (BitVec 8))) (hi : i < n) (hn : n < 4611686018427387904) (lu : us.length = pl n i) (lv : vs.length = pl n i) (hu : ∀ d ∈ us, d.length = 32) (hv : ∀ d ∈ vs, d.length = 32) (hne : x ≠ y) (h : rb n i x us = rb n i y vs) : Cls (TX n i x us ++ TX n i y vs) := by
  have hs := sd_length n i (by omega) hn
  rw [rb_txk n i x us hi hn lu, rb_txk n i y vs hi hn lv] at h
  obtain ⟨k, k1, k2, k3⟩ := two_texts (sd n i) us vs x y hne (pl n i) (by omega) (by omega) (by omega) hu hv h
  exact ⟨_, List.mem_append_left _ (txs_mem _ _ _ _ k (by omega)), _, List.mem_append_right _ (txs_mem _ _ _ _ k (by omega)), k2, k3⟩
theorem last_of (n i : Nat) (us : List (List (BitVec 8))) (h2 : 2 ≤ n) (hn : n < 4611686018427387904) (h : us.length = pl n i) : ∃ rs l, us = rs ++ [l] := by
  rcases List.eq_nil_or_concat us with e | ⟨rs, l, e⟩
  · rw [e, pl_many n i h2 hn] at h
    split at h <;> simp at h
  · exact ⟨rs, l, by rw [e, List.concat_eq_append]⟩
/-- Two pairs of digests that have one digest with the mark ahead of them. -/
theorem node_inj {a b c d : List (BitVec 8)} (ha : a.length = 32) (hc : c.length = 32) (h : [1#8] ++ (a ++ b) = [1#8] ++ (c ++ d)) : a = c ∧ b = d :=
  List.append_inj (List.append_cancel_left h) (by rw [ha, hc])

theorem past_clash (n : Nat) : ∀ (m i : Nat) (k : Bool) (was x y : List (BitVec 8)) (ds us vs : List (List (BitVec 8))), Dl was → i < m → m ≤ n → n < 4611686018427387904 → ds.length = gs m n k → us.length = pl m i → vs.length = pl n i →
    (∀ d ∈ ds, d.length = 32) → (∀ d ∈ us, d.length = 32) → (∀ d ∈ vs, d.length = 32) → x ≠ y → rb m i x us = (rsb m n k was ds).1 → rb n i y vs = (rsb m n k was ds).2 → Cls (TX m i x us ++ (TX n i y vs ++ gt m n k was ds)) := by
  induction n using Nat.strongRecOn with
  | ind n ih =>
    intro m i k was x y ds us vs Hw him hmn hn lds lus lvs hds hus hvs hne hA hB
    by_cases e : m = n
    · subst e
      rw [rsb_same] at hA hB
      have hAB : rb m i x us = rb m i y vs := by
        rw [hA, hB]; cases k <;> rfl
      refine (two_leaves m i x y us vs him hn lus lvs hus hvs hne hAB).mono fun p hp => ?_
      rcases List.mem_append.1 hp with hp | hp
      · exact List.mem_append_left _ hp
      · exact List.mem_append_right _ (List.mem_append_left _ hp)
    · have h2 : 2 ≤ n := by omega
      have hb := fpart_bounds n h2 hn
      have hp0 := fpart_pos n
      obtain ⟨vr, q, rfl⟩ := last_of n i vs h2 hn lvs
      rw [List.length_append, List.length_singleton] at lvs
      have hq : q.length = 32 := hvs q (by simp)
      have hvr : ∀ d ∈ vr, d.length = 32 := fun d hd => hvs d (by simp [hd])
      have lastD : ∃ rs l, ds = rs ++ [l] := by
        rcases List.eq_nil_or_concat ds with e0 | ⟨rs, l, e0⟩
        · exfalso
          rw [e0] at lds
          by_cases hk : m ≤ fpart n
          · rw [gs_left m n k (by omega) (by omega) hn hk] at lds; simp at lds
          · rw [gs_right m n k (by omega) (by omega) hn hk] at lds; simp at lds
        · exact ⟨rs, l, by rw [e0, List.concat_eq_append]⟩
      obtain ⟨rs, l, rfl⟩ := lastD
      rw [List.length_append, List.length_singleton] at lds
      have hl : l.length = 32 := hds l (by simp)
      have hrs : ∀ d ∈ rs, d.length = 32 := fun d hd => hds d (by simp [hd])
      by_cases hk : m ≤ fpart n
      · have hik : i < fpart n := by omega
        rw [gs_left m n k (by omega) (by omega) hn hk] at lds
        rw [pl_left n i h2 hn hik] at lvs
        rw [rsb_left m n k was l rs (by omega) (by omega) hn hk] at hA hB
        rw [rb_left n i y q vr h2 hn hik] at hB
        have hd := rsb_len (fpart n) m k was rs Hw hrs (by omega) hk (by omega) (by omega)
        rw [TX_left n i y q vr h2 hn hik (by omega), gt_left m n k was l rs (by omega) (by omega) hn hk]
        by_cases hc : [1#8] ++ (rb (fpart n) i y vr ++ q) = [1#8] ++ ((rsb m (fpart n) k was rs).2 ++ l)
        · have hy := (node_inj (rb_length _ _ _ _) hd.2 hc).1
          refine (ih (fpart n) hb.1 m i k was x y rs us vr Hw him hk (by omega) (by omega) lus (by omega) hrs hus hvr hne hA hy).mono fun p hp => ?_
          simp only [List.mem_append] at hp ⊢
          rcases hp with hp | hp | hp
          · exact .inl hp
          · exact .inr (.inl (.inl hp))
          · exact .inr (.inr (.inl hp))
        · exact ⟨_, by simp, _, by simp, hc, hB⟩
      · rw [gs_right m n k (by omega) (by omega) hn hk] at lds
        rw [rsb_right m n k was l rs (by omega) (by omega) hn hk] at hA hB
        have hfm : fpart m = fpart n := fpart_is m _ (by omega) (by omega) (by show fpart n < m; omega) (by show m ≤ 2 * fpart n; omega)
        have h2m : 2 ≤ m := by omega
        obtain ⟨ur, p0, rfl⟩ := last_of m i us h2m (by omega) lus
        rw [List.length_append, List.length_singleton] at lus
        have hp : p0.length = 32 := hus p0 (by simp)
        have hur : ∀ d ∈ ur, d.length = 32 := fun d hd => hus d (by simp [hd])
        have hd := rsb_len (n - fpart n) (m - fpart n) false was rs Hw hrs (by omega) (by omega) (by omega) (by omega)
        rw [gt_right m n k was l rs (by omega) (by omega) hn hk]
        by_cases hik : i < fpart n
        · have hikm : i < fpart m := by omega
          rw [pl_left n i h2 hn hik] at lvs
          rw [pl_left m i h2m (by omega) hikm, hfm] at lus
          rw [rb_left n i y q vr h2 hn hik] at hB
          rw [rb_left m i x p0 ur h2m (by omega) hikm, hfm] at hA
          rw [TX_left n i y q vr h2 hn hik (by omega), TX_left m i x p0 ur h2m (by omega) hikm (by rw [hfm]; omega), hfm]
          by_cases hc : [1#8] ++ (rb (fpart n) i x ur ++ p0) = [1#8] ++ (l ++ (rsb (m - fpart n) (n - fpart n) false was rs).1)
          · by_cases hc2 : [1#8] ++ (rb (fpart n) i y vr ++ q) = [1#8] ++ (l ++ (rsb (m - fpart n) (n - fpart n) false was rs).2)
            · have e1 := (node_inj (rb_length _ _ _ _) hl hc).1
              have e2 := (node_inj (rb_length _ _ _ _) hl hc2).1
              refine (two_leaves (fpart n) i x y ur vr hik (by omega) (by omega) (by omega) hur hvr hne (e1.trans e2.symm)).mono fun p hp => ?_
              simp only [List.mem_append] at hp ⊢
              rcases hp with hp | hp
              · exact .inl (.inl hp)
              · exact .inr (.inl (.inl hp))
            · exact ⟨_, by simp, _, by simp, hc2, hB⟩
          · exact ⟨_, by simp, _, by simp, hc, hA⟩
        · have hikm : ¬ i < fpart m := by omega
          rw [pl_right n i h2 hn hik] at lvs
          rw [pl_right m i h2m (by omega) hikm, hfm] at lus
          rw [rb_right n i y q vr h2 hn hik] at hB
          rw [rb_right m i x p0 ur h2m (by omega) hikm, hfm] at hA
          rw [TX_right n i y q vr h2 hn (by omega) hik (by omega), TX_right m i x p0 ur h2m (by omega) him hikm (by rw [hfm]; omega), hfm]
          by_cases hc : [1#8] ++ (p0 ++ rb (m - fpart n) (i - fpart n) x ur) = [1#8] ++ (l ++ (rsb (m - fpart n) (n - fpart n) false was rs).1)
          · by_cases hc2 : [1#8] ++ (q ++ rb (n - fpart n) (i - fpart n) y vr) = [1#8] ++ (l ++ (rsb (m - fpart n) (n - fpart n) false was rs).2)
            · have e1 := (node_inj hp hl hc).2
              have e2 := (node_inj hq hl hc2).2
              refine (ih (n - fpart n) (by omega) (m - fpart n) (i - fpart n) false was x y rs ur vr Hw (by omega) (by omega) (by omega) (by omega) (by omega) (by omega) hrs hur hvr hne e1 e2).mono fun p hp => ?_
              simp only [List.mem_append] at hp ⊢
              rcases hp with hp | hp | hp
              · exact .inl (.inl hp)
              · exact .inr (.inl (.inl hp))
              · exact .inr (.inr (.inl hp))
            · exact ⟨_, by simp, _, by simp, hc2, hB⟩
          · exact ⟨_, by simp, _, by simp, hc, hA⟩

/-- By their places. -/
theorem Cls.at {L : List (List (BitVec 8))} (h : Cls L) : ∃ i k, k < i ∧ i < L.length ∧ Clsh L i k := by
  obtain ⟨p, hp, q, hq, hne, hd⟩ := h
  obtain ⟨a, ha, ea⟩ := List.getElem_of_mem hp
  obtain ⟨b, hb, eb⟩ := List.getElem_of_mem hq
  have ga : L.getD a [] = p := by rw [List.getD_eq_getElem?_getD, List.getElem?_eq_getElem ha]; exact ea
  have gb : L.getD b [] = q := by rw [List.getD_eq_getElem?_getD, List.getElem?_eq_getElem hb]; exact eb
  rcases Nat.lt_trichotomy a b with h | h | h
  · exact ⟨b, a, h, hb, by rw [ga, gb]; exact hd.symm, by rw [ga, gb]; exact hne.symm⟩
  · subst h; exact absurd (ea.symm.trans eb) hne
  · exact ⟨a, b, h, ha, by rw [ga, gb]; exact hd, by rw [ga, gb]; exact hne⟩
theorem gs_true (n : Nat) : ∀ m k, 1 ≤ m → m ≤ n → n < 4611686018427387904 → gs m n k + 1 ≤ n + (if k then 0 else 1) := by
  induction n using Nat.strongRecOn with
  | ind n ih =>
    intro m k h1 hm hl
    by_cases e : m = n
    · subst e; rw [gs_same]; cases k <;> simp <;> omega
    · have hb := fpart_bounds n (by omega) hl
      have hp := fpart_pos n
      by_cases hk : m ≤ fpart n
      · rw [gs_left m n k (by omega) h1 hl hk]
        have := ih (fpart n) hb.1 m k h1 hk (by omega); omega
      · rw [gs_right m n k (by omega) h1 hl hk]
        have := ih (n - fpart n) (by omega) (m - fpart n) false (by omega) (by omega) (by omega)
        simp only [Bool.false_eq_true, if_false] at this
        omega
theorem gw_ok {was root : List (BitVec 8)} {m n : Int} {ds : List (List (BitVec 8))} (h : gw was root m n ds = 0) : ∃ M N : Nat, m = (M : Int) ∧ n = (N : Int) ∧ M ≤ N ∧ N ≤ 1099511627776 ∧ ds.length = gl M N ∧ ldB was root M N ds = true := by
  unfold gw at h
  split at h
  · cases h
  · split at h
    · rename_i h1 h2
      exact ⟨m.toNat, n.toNat, by omega, by omega, by omega, by omega, h2.1, h2.2⟩
    · cases h
/-- What stands behind a growth that is taken. -/
theorem ld_ok {was root : List (BitVec 8)} {M N : Nat} {ds : List (List (BitVec 8))} (h1 : 1 ≤ M) (h : ldB was root M N ds = true) : (rsb M N true was ds).1 = was ∧ (rsb M N true was ds).2 = root := by
  unfold ldB at h
  rw [if_neg (by omega)] at h
  by_cases e : M = N
  · subst e
    rw [if_pos rfl] at h
    rw [rsb_same]
    exact ⟨rfl, of_decide_eq_true h⟩
  · rw [if_neg e] at h
    simp only [Bool.and_eq_true, decide_eq_true_eq] at h
    exact h
theorem gt_each (n : Nat) : ∀ (m : Nat) (k : Bool) (was : List (BitVec 8)) (ds : List (List (BitVec 8))), Dl was → (∀ d ∈ ds, d.length = 32) → 1 ≤ m → m ≤ n → n < 4611686018427387904 → ds.length = gs m n k → ∀ p ∈ gt m n k was ds, p.length = 65 := by
  induction n using Nat.strongRecOn with
  | ind n ih =>
    intro m k was ds Hw hds h1 hmn hn lds p hp
    by_cases e : m = n
    · subst e; rw [gt_same] at hp; cases hp
    · have hb := fpart_bounds n (by omega) hn
      have hp0 := fpart_pos n
      have lastD : ∃ rs l, ds = rs ++ [l] := by
        rcases List.eq_nil_or_concat ds with e0 | ⟨rs, l, e0⟩
        · exfalso
          rw [e0] at lds
          by_cases hk : m ≤ fpart n
          · rw [gs_left m n k (by omega) (by omega) hn hk] at lds; simp at lds
          · rw [gs_right m n k (by omega) (by omega) hn hk] at lds; simp at lds
        · exact ⟨rs, l, by rw [e0, List.concat_eq_append]⟩
      obtain ⟨rs, l, rfl⟩ := lastD
      rw [List.length_append, List.length_singleton] at lds
      have hl : l.length = 32 := hds l (by simp)
      have hrs : ∀ d ∈ rs, d.length = 32 := fun d hd => hds d (by simp [hd])
      by_cases hk : m ≤ fpart n
      · rw [gs_left m n k (by omega) (by omega) hn hk] at lds
        have hd := rsb_len (fpart n) m k was rs Hw hrs h1 hk (by omega) (by omega)
        have e2 : (rsb m (fpart n) k was rs).2.length = 32 := hd.2
        rw [gt_left m n k was l rs (by omega) h1 hn hk] at hp
        rcases List.mem_append.1 hp with hp | hp
        · exact ih (fpart n) hb.1 m k was rs Hw hrs h1 hk (by omega) (by omega) p hp
        · rw [List.mem_singleton.1 hp]; simp [e2, hl]
      · rw [gs_right m n k (by omega) (by omega) hn hk] at lds
        have hd := rsb_len (n - fpart n) (m - fpart n) false was rs Hw hrs (by omega) (by omega) (by omega) (by omega)
        have e1 : (rsb (m - fpart n) (n - fpart n) false was rs).1.length = 32 := hd.1
        have e2 : (rsb (m - fpart n) (n - fpart n) false was rs).2.length = 32 := hd.2
        rw [gt_right m n k was l rs (by omega) h1 hn hk] at hp
        rcases List.mem_append.1 hp with hp | hp
        · exact ih (n - fpart n) (by omega) (m - fpart n) false was rs Hw hrs (by omega) (by omega) (by omega) (by omega) p hp
        · rcases List.mem_cons.1 hp with rfl | hp
          · simp [e1, hl]
          · rw [List.mem_singleton.1 hp]; simp [e2, hl]

end Go.Proofs.YtnogjhbohljjnabDoor
