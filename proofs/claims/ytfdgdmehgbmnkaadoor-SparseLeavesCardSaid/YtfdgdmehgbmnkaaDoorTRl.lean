/-
  A region that draws its order, one of whose operations waits for all the others (but for those that wait for it): beside no package.
-/
import Derived.Test.YtfdgdmehgbmnkaaDoorTFp
namespace Go.Proofs.YtfdgdmehgbmnkaaDoor
open Go Go.RowKit

theorem wp_region_then {P : Program} {id : Nat} {ops : Array Oper} {Q : Exit → Act → World → Prop} {a : Act} {w : World} (hm : P.follows .mixedOrders = true) (j : Nat) (hjn : j < ops.size)
    (hb : ((List.range ops.size).all fun i => ((ops[i]?).map fun o => o.after.all fun e => !Region.binds .any e || decide (e.on < i)).getD true) = true)
    (I J : Array Bool → Act → World → Prop)
    (h0 : I (Array.replicate ops.size false) a w.drew)
    (hI : ∀ listed a w i, listed.size = ops.size → I listed a w → Down ops listed → i ∈ Region.ready .any ops listed → i ≠ j → ¬ listed.getD j false = true → wpOp P ops Q i (I (listed.setIfInBounds i true)) a w)
    (hj : ∀ listed a w, listed.size = ops.size → I listed a w → Down ops listed → j ∈ Region.ready .any ops listed → wpOp P ops Q j (J (listed.setIfInBounds j true)) a w)
    (hJ : ∀ listed a w i, listed.size = ops.size → J listed a w → Down ops listed → i ∈ Region.ready .any ops listed → i ≠ j → listed.getD j false = true → wpOp P ops Q i (J (listed.setIfInBounds i true)) a w)
    (hdone : ∀ listed a w, listed.size = ops.size → J listed a w → Region.ready .any ops listed = [] → Q .normal a w) : (Code.region id ops true).wp P Q a w := by
  refine wp_region_down hm (fun l a w => l.size = ops.size ∧ ((¬ l.getD j false = true ∧ I l a w) ∨ (l.getD j false = true ∧ J l a w))) ⟨by simp, .inl ⟨fun h => start_no h, h0⟩⟩ ?_ ?_
  · intro l a w i h hd hi
    obtain ⟨hs, h | h⟩ := h
    · by_cases e : i = j
      · subst e
        exact wpOp_mono (fun _ _ h' => ⟨by rw [Array.size_setIfInBounds]; exact hs, .inr ⟨getD_same (by rw [hs]; exact hjn), h'⟩⟩) (hj l a w hs h.2 hd hi)
      · exact wpOp_mono (fun _ _ h' => ⟨by rw [Array.size_setIfInBounds]; exact hs, .inl ⟨by rw [getD_set _ _ _ e]; exact h.1, h'⟩⟩) (hI l a w i hs h.2 hd hi e h.1)
    · by_cases e : i = j
      · subst e
        exact absurd h.1 (not_yet hi)
      · exact wpOp_mono (fun _ _ h' => ⟨by rw [Array.size_setIfInBounds]; exact hs, .inr ⟨by rw [getD_set _ _ _ e]; exact h.1, h'⟩⟩) (hJ l a w i hs h.2 hd hi e h.1)
  · intro l a w h hr
    obtain ⟨hs, h | h⟩ := h
    · exact absurd (all_listed hb hs hr j hjn) h.1
    · exact hdone l a w hs h.2 hr

end Go.Proofs.YtfdgdmehgbmnkaaDoor
