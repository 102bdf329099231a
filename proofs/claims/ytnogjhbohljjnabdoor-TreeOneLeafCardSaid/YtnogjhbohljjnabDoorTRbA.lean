/-
  rootBy of any path.
-/
import Derived.Test.YtnogjhbohljjnabDoorTRby
namespace Go.Proofs.YtnogjhbohljjnabDoor
open Go Go.RowKit
open Sha

/-- What a leaf and a path come to. -/
def rb (n i : Nat) (lf : List (BitVec 8)) (ds : List (List (BitVec 8))) : List (BitVec 8) :=
  if _h : 2 ≤ n ∧ n < 4611686018427387904 then
    if i < fpart n then dig ([1#8] ++ (rb (fpart n) i lf ds.dropLast ++ ds.getLastD []))
    else dig ([1#8] ++ (ds.getLastD [] ++ rb (n - fpart n) (i - fpart n) lf ds.dropLast))
  else dig ([0#8] ++ lf)
termination_by n
decreasing_by
  · exact (fpart_bounds n (by omega) (by omega)).1
  · have := fpart_pos n; omega
theorem rb_one (i : Nat) (lf : List (BitVec 8)) (ds : List (List (BitVec 8))) : rb 1 i lf ds = dig ([0#8] ++ lf) := by
  rw [rb, dif_neg (by omega)]
theorem rb_left (n i : Nat) (lf l : List (BitVec 8)) (rs : List (List (BitVec 8))) (h2 : 2 ≤ n) (hl : n < 4611686018427387904) (h : i < fpart n) : rb n i lf (rs ++ [l]) = dig ([1#8] ++ (rb (fpart n) i lf rs ++ l)) := by
  rw [rb, dif_pos ⟨h2, hl⟩, if_pos h, List.dropLast_concat, List.getLastD_concat]
theorem rb_right (n i : Nat) (lf l : List (BitVec 8)) (rs : List (List (BitVec 8))) (h2 : 2 ≤ n) (hl : n < 4611686018427387904) (h : ¬ i < fpart n) : rb n i lf (rs ++ [l]) = dig ([1#8] ++ (l ++ rb (n - fpart n) (i - fpart n) lf rs)) := by
  rw [rb, dif_pos ⟨h2, hl⟩, if_neg h, List.dropLast_concat, List.getLastD_concat]
theorem rb_length (n i : Nat) (lf : List (BitVec 8)) (ds : List (List (BitVec 8))) : (rb n i lf ds).length = 32 := by
  rw [rb]
  split
  · split <;> exact dig_length _
  · exact dig_length _

/-- v is a list of the digests ds. -/
def PAt (w : World) (v : Value) (ds : List (List (BitVec 8))) : Prop := (∀ d ∈ ds, d.length = 32) ∧ ∃ A cap, v = .slice A ds.length cap ∧ ds.length ≤ cap ∧ (ds = [] ∨ ∃ b o, A = some ⟨b, o, none⟩ ∧ w.rangeAt b o (ds.flatMap vB))
theorem PAt.below {w w' : World} {v : Value} {ds : List (List (BitVec 8))} (h : PAt w v ds) (k : Below w.heap.size w w') : PAt w' v ds := by
  obtain ⟨h1, A, cap, h2, h3, h4⟩ := h
  refine ⟨h1, A, cap, h2, h3, ?_⟩
  rcases h4 with h4 | ⟨b, o, e, h4⟩
  · exact .inl h4
  · exact .inr ⟨b, o, e, range_below h4 k (Nat.le_refl _)⟩
theorem flat_length (ds : List (List (BitVec 8))) (h : ∀ d ∈ ds, d.length = 32) : (ds.flatMap vB).length = ds.length * 32 := by
  induction ds with
  | nil => rfl
  | cons d r ih =>
    rw [List.flatMap_cons, List.length_append, ih (fun x hx => h x (List.mem_cons_of_mem _ hx)), vB_length, h d List.mem_cons_self, List.length_cons]
    omega
theorem ran_left {W : World} {b o : Nat} {c d : List Value} (r : W.rangeAt b o (c ++ d)) : W.rangeAt b o c := fun j v hv =>
  r j v (by rw [List.getElem?_append_left (List.getElem?_eq_some_iff.1 hv).1]; exact hv)
theorem ran_right {W : World} {b o k : Nat} {c d : List Value} (r : W.rangeAt b o (c ++ d)) (hk : c.length = k) : W.rangeAt b (o + k) d := fun j v hv => by
  have := r (k + j) v (by rw [List.getElem?_append_right (by omega), show k + j - c.length = j by omega]; exact hv)
  rw [← Nat.add_assoc] at this
  exact this

/-- rootBy of a leaf and a path of the right length. -/
theorem rby_any (n : Nat) : ∀ (i : Nat) (lf : List (BitVec 8)) (ds : List (List (BitVec 8))) (dd : List (BitVec 8)), i < n → n < 4611686018427387904 → ds.length = pl n i → dd = rb n i lf ds → lf.length < 1152921504606846975 →
    ∀ (v lv : Value) (w : World), Tab w 3 → PAt w v ds → SlAt w lv lf →
    Calls Tryd.prog 40 #[v, .int .i64 (n : Int), .int .i64 (i : Int), lv] w fun e w' => e = .returned (.agg (vB dd).toArray) ∧ Below w.heap.size w w' := by
  induction n using Nat.strongRecOn with
  | ind n ih =>
    intro i lf ds dd hi hn hlen hd hlf v lv w hK hp hv
    subst hd
    by_cases e : n = 1
    · subst e
      rw [rb_one]
      exact rby_one v lv _ lf _ rfl hlf w hK hv
    · have h2 : 2 ≤ n := by omega
      have hb := fpart_bounds n h2 hn
      have hp0 := fpart_pos n
      obtain ⟨h1, A, cap, rfl, hcap, h4⟩ := hp
      have hpl := pl_lt n i (by omega) hn
      have hne : ds ≠ [] := by
        intro e0
        rw [e0, pl_many n i h2 hn] at hlen
        split at hlen <;> simp at hlen
      rcases List.eq_nil_or_concat ds with e0 | ⟨rs, l, rfl⟩
      · exact absurd e0 hne
      · rcases h4 with h4 | ⟨b, o, rfl, h4⟩
        · exact absurd h4 hne
        · rw [List.concat_eq_append] at *
          have hl32 : l.length = 32 := h1 l (by simp)
          have hrs : ∀ d ∈ rs, d.length = 32 := fun d hd => h1 d (by simp [hd])
          rw [List.flatMap_append] at h4
          have hlast : w.rangeAt b (o + rs.length * 32) (vB l) := by
            have := ran_right h4 (flat_length rs hrs)
            simpa using this
          have hrest : w.rangeAt b o (rs.flatMap vB) := ran_left h4
          rw [List.length_append, List.length_singleton] at hcap hlen ⊢
          have hsub : ∀ W, Below w.heap.size w W → PAt W (.slice (some ⟨b, o, none⟩) rs.length rs.length) rs := fun W hB => ⟨hrs, _, _, rfl, Nat.le_refl _, .inr ⟨b, o, rfl, range_below hrest hB (Nat.le_refl _)⟩⟩
          have hrl : rs.length < 4611686018427387904 := by omega
          by_cases hk : i < fpart n
          · rw [rb_left n i lf l rs h2 hn hk]
            rw [pl_left n i h2 hn hk] at hlen
            exact rby_left n i (fpart n) rs.length cap b o h2 hn hi rfl hk lv l _ _ hl32 (rb_length _ _ _ _) rfl hcap hrl w hK hlast
              (fun W hB => ih (fpart n) hb.1 i lf rs _ hk (by omega) (by omega) rfl hlf _ lv W (hK.below hB hK.lt) (hsub W hB) (hv.below hB (Nat.le_refl _)))
          · rw [rb_right n i lf l rs h2 hn hk]
            rw [pl_right n i h2 hn hk] at hlen
            exact rby_right n i (fpart n) rs.length cap b o h2 hn hi rfl hk lv l _ _ hl32 (rb_length _ _ _ _) rfl hcap hrl w hK hlast
              (fun W hB => ih (n - fpart n) (by omega) (i - fpart n) lf rs _ (by omega) (by omega) (by omega) rfl hlf _ lv W (hK.below hB hK.lt) (hsub W hB) (hv.below hB (Nat.le_refl _)))

end Go.Proofs.YtnogjhbohljjnabDoor
