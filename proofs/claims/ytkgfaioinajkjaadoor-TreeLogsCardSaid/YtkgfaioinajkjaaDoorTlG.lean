/-
  TreeLogs: a cut around a statement: what it may write is wiped.
-/
import Derived.Test.YtkgfaioinajkjaaDoorTlE3
import Derived.Deep.Cut
namespace Go.Proofs.YtkgfaioinajkjaaDoor
open Go Go.RowKit

/-- What may be written is struck. -/
def wipeL : List Value → List Bool → List Value
  | v :: r, b :: bs => (bif b then undef else v) :: wipeL r bs
  | l, [] => l
  | [], _ => []
/-- What may be written is whatever f tells. -/
def overL : List Value → List Bool → Nat → (Nat → Value) → List Value
  | v :: r, b :: bs, k, f => (bif b then f k else v) :: overL r bs (k + 1) f
  | l, [], _, _ => l
  | [], _, _, _ => []
theorem over_eq : ∀ (bs : List Bool) (l l' : List Value) (k0 : Nat) (f : Nat → Value), l'.length = l.length → (∀ k, f (k0 + k) = l'.getD k undef) → wipeL l' bs = wipeL l bs → l' = overL l bs k0 f
  | [], [], [], _, _, _, _, _ => rfl
  | [], [], _ :: _, _, _, hl, _, _ => by simp at hl
  | [], _ :: _, [], _, _, hl, _, _ => by simp at hl
  | [], _ :: _, _ :: _, _, _, _, _, h => h
  | b :: bs, [], l', _, _, hl, _, _ => by
    cases l' with
    | nil => rfl
    | cons _ _ => simp at hl
  | b :: bs, v :: r, [], _, _, hl, _, _ => by simp at hl
  | b :: bs, v :: r, v' :: r', k0, f, hl, hf, h => by
    simp only [wipeL, List.cons.injEq] at h
    have ih := over_eq bs r r' (k0 + 1) f (by simpa using hl) (fun k => by rw [show k0 + 1 + k = k0 + (k + 1) by omega, hf (k + 1)]; rfl) h.2
    have h0 : f k0 = v' := hf 0
    simp only [overL, List.cons.injEq]
    refine ⟨?_, ih⟩
    cases b
    · simpa using h.1
    · simpa using h0.symm
theorem wp_cutW (bs : List Bool) {P : Program} {s : Code} {K : Act → World → Prop} {Q' : Exit → Act → World → Prop} {l : List Value} {d : List Deferred} {w : World} (Pw : World → Prop)
    (rest : ∀ (f : Nat → Value) (w' : World), Pw w' → K ⟨(overL l bs 0 f).toArray, d⟩ w')
    (first : ∀ K' : Act → World → Prop, (∀ (l' : List Value) (w' : World), wipeL l' bs = wipeL l bs → l'.length = l.length → Pw w' → K' ⟨l'.toArray, d⟩ w') → s.wp P (Exit.then K' Q') ⟨l.toArray, d⟩ w) : s.wp P (Exit.then K Q') ⟨l.toArray, d⟩ w := by
  refine wp_mono (first (fun a' w' => ∃ l' : List Value, a' = ⟨l'.toArray, d⟩ ∧ wipeL l' bs = wipeL l bs ∧ l'.length = l.length ∧ Pw w') (fun l' w' h1 h2 h3 => ⟨l', rfl, h1, h2, h3⟩)) ?_
  intro e a' w' hq
  cases e with
  | normal =>
    obtain ⟨l', rfl, h1, h2, h3⟩ := hq
    rw [over_eq bs l l' 0 (fun k => l'.getD k undef) h2 (fun k => by rw [Nat.zero_add]) h1]
    exact rest _ w' h3
  | exit id => exact hq
  | goto l => exact hq
  | ret => exact hq
  | panic ch => exact hq
  | outgrown => exact hq

end Go.Proofs.YtkgfaioinajkjaaDoor
