/-
  TreeLogs: three logs of the program's and three of the document's side by side.
-/
import Derived.Test.YtkgfaioinajkjaaDoorTlB2
namespace Go.Proofs.YtkgfaioinajkjaaDoor
open Go Go.RowKit
open Sha

abbrev tA3 : TypeId := 25
abbrev tD3 : TypeId := 29
/-- What stands at a place is another. -/
def up {α : Type} (f : Nat → α) (k : Nat) (x : α) : Nat → α := fun i => if i = k then x else f i
theorem up_at {α : Type} (f : Nat → α) (k : Nat) (x : α) : up f k x k = x := if_pos rfl
theorem up_ne {α : Type} (f : Nat → α) (k : Nat) (x : α) {i : Nat} (h : i ≠ k) : up f k x i = f i := if_neg h
def tcs (p : Nat → Nat) : List Value := [.pointer (some ⟨p 0, 0, none⟩), .pointer (some ⟨p 1, 0, none⟩), .pointer (some ⟨p 2, 0, none⟩)]
def dcs (m : Nat → Nat) (u : Nat → Value) : List Value := [.int .i64 (m 0 : Int), u 0, .int .i64 (m 1 : Int), u 1, .int .i64 (m 2 : Int), u 2]
theorem tcs_at (p : Nat → Nat) (k : Nat) (h : k < 3) : (tcs p)[k]? = some (.pointer (some ⟨p k, 0, none⟩)) := by
  rcases (show k = 0 ∨ k = 1 ∨ k = 2 by omega) with rfl | rfl | rfl <;> rfl
theorem tcs_set (p : Nat → Nat) (k x : Nat) (h : k < 3) : (tcs p).set k (.pointer (some ⟨x, 0, none⟩)) = tcs (up p k x) := by
  rcases (show k = 0 ∨ k = 1 ∨ k = 2 by omega) with rfl | rfl | rfl <;> rfl
theorem dcs_m (m : Nat → Nat) (u : Nat → Value) (k : Nat) (h : k < 3) : (dcs m u)[k * 2]? = some (.int .i64 (m k : Int)) := by
  rcases (show k = 0 ∨ k = 1 ∨ k = 2 by omega) with rfl | rfl | rfl <;> rfl
theorem dcs_u (m : Nat → Nat) (u : Nat → Value) (k : Nat) (h : k < 3) : (dcs m u)[k * 2 + 1]? = some (u k) := by
  rcases (show k = 0 ∨ k = 1 ∨ k = 2 by omega) with rfl | rfl | rfl <;> rfl
theorem dcs_set (m : Nat → Nat) (u : Nat → Value) (k x : Nat) (y : Value) (h : k < 3) : (dcs m u).take (k * 2) ++ [.int .i64 (x : Int), y] ++ (dcs m u).drop (k * 2 + 2) = dcs (up m k x) (up u k y) := by
  rcases (show k = 0 ∨ k = 1 ∨ k = 2 by omega) with rfl | rfl | rfl <;> rfl
/-- Three logs of the program's, three of the document's. -/
structure S3 where
  p : Nat → Nat
  n : Nat → Nat
  v : Nat → Value
  F : Nat → List (List (BitVec 8))
  m : Nat → Nat
  u : Nat → Value
  G : Nat → List (List (BitVec 8))
def S3.upP (s : S3) (k P n : Nat) (v : Value) (F : List (List (BitVec 8))) : S3 := { s with p := up s.p k P, n := up s.n k n, v := up s.v k v, F := up s.F k F }
def S3.upL (s : S3) (k n : Nat) (v : Value) (F : List (List (BitVec 8))) : S3 := { s with n := up s.n k n, v := up s.v k v, F := up s.F k F }
def S3.upD (s : S3) (k m : Nat) (u : Value) (G : List (List (BitVec 8))) : S3 := { s with m := up s.m k m, u := up s.u k u, G := up s.G k G }
structure T3 (w0 w : World) (bt bd : Nat) (s : S3) : Prop where
  rt : Row w bt (tcs s.p) tA3
  rd : Row w bd (dcs s.m s.u) tD3
  lg : ∀ k, k < 3 → Lg w (s.p k) (s.n k) (s.v k) (s.F k)
  dg : ∀ k, k < 3 → Ow w (s.u k) (s.G k).length (vB (s.G k).flatten) ∧ ∀ d ∈ s.G k, d.length = 32
  ap : ∀ i j, i < 3 → j < 3 → i ≠ j → s.p i ≠ s.p j ∧ ∀ g, (s.v i).ownBlock = some g → (s.v j).ownBlock ≠ some g
  ad : ∀ i j, i < 3 → j < 3 → ∀ g, (s.v i).ownBlock = some g → (s.u j).ownBlock ≠ some g
  b0 : w0.heap.size ≤ bt ∧ w0.heap.size ≤ bd
  lo : ∀ k, k < 3 → w0.heap.size ≤ s.p k ∧ ∀ g, (s.v k).ownBlock = some g → w0.heap.size ≤ g
  be : Below w0.heap.size w0 w
theorem Gro.row {R : Nat → Prop} {a b : World} {g : Nat} {cs : List Value} {t : TypeId} (h : Gro R a b) (r : Row a g cs t) (hn : ¬ R g) : Row b g cs t := (h.block g r.lt hn).trans r
theorem lrow_ty {w : World} {b : Nat} {cs ds : List Value} {t u : TypeId} (h : Row w b cs t) (k : Row w b ds u) : t = u := by
  have := h.symm.trans k
  simp only [Option.some.injEq, Obj.cells.injEq] at this
  exact this.2.1
theorem ow_brow {w : World} {v : Value} {n : Nat} {xs : List Value} (h : Ow w v n xs) {g : Nat} (e : v.ownBlock = some g) : ∃ cs, Row w g cs 42 := by
  rcases h.2 with ⟨h1, _⟩ | ⟨g', cap, cur, hv, _, hh, _⟩
  · rw [h1] at e; simp [Value.ownBlock] at e
  · rw [hv] at e
    simp only [Value.ownBlock, Option.some.injEq] at e
    subst e
    exact ⟨cur.toList, by unfold Row; rw [hh]⟩
section
variable {w0 w w' : World} {bt bd : Nat} {s : S3}
theorem T3.keep (h : T3 w0 w bt bd s) (k : Below w.heap.size w w') : T3 w0 w' bt bd s :=
  ⟨Row.below h.rt k h.rt.lt, Row.below h.rd k h.rd.lt, fun i hi => (h.lg i hi).be k, fun i hi => ⟨(h.dg i hi).1.be k, (h.dg i hi).2⟩, h.ap, h.ad, h.b0, h.lo, h.be.trans (k.mono h.be.size)⟩
/-- Where a log of the program's is lengthened. -/
theorem T3.add (h : T3 w0 w bt bd s) (k : Nat) (hk : k < 3) (n' : Nat) (v' : Value) (F' : List (List (BitVec 8))) (hL : Lg w' (s.p k) n' v' F') (hv : v'.ownBlock = (s.v k).ownBlock ∨ ∃ g, v'.ownBlock = some g ∧ w.heap.size ≤ g) (hg : Gro (fun g => g = s.p k ∨ (s.v k).ownBlock = some g) w w') : T3 w0 w' bt bd (s.upL k n' v' F') := by
  have hnot : ∀ {b : Nat} {cs : List Value} {t : TypeId}, Row w b cs t → t ≠ tL → t ≠ 42 → ¬ (b = s.p k ∨ (s.v k).ownBlock = some b) := fun r h1 h2 e => by
    rcases e with e | e
    · subst e; exact h1 (lrow_ty r (h.lg k hk).row)
    · obtain ⟨cs, r2⟩ := ow_brow (h.lg k hk).own e
      exact h2 (lrow_ty r r2)
  have hvn : ∀ j, j < 3 → j ≠ k → ∀ g, (s.v j).ownBlock = some g → ¬ (g = s.p k ∨ (s.v k).ownBlock = some g) := fun j hj hjk g e q => by
    rcases q with q | q
    · subst q
      obtain ⟨cs, r2⟩ := ow_brow (h.lg j hj).own e
      exact absurd (lrow_ty r2 (h.lg k hk).row) (by decide)
    · exact (h.ap k j hk hj (fun e => hjk e.symm)).2 g q e
  have hun : ∀ j, j < 3 → ∀ g, (s.u j).ownBlock = some g → ¬ (g = s.p k ∨ (s.v k).ownBlock = some g) := fun j hj g e q => by
    rcases q with q | q
    · subst q
      obtain ⟨cs, r2⟩ := ow_brow (h.dg j hj).1 e
      exact absurd (lrow_ty r2 (h.lg k hk).row) (by decide)
    · exact h.ad k j hk hj g q e
  refine ⟨hg.row h.rt (hnot h.rt (by decide) (by decide)), hg.row h.rd (hnot h.rd (by decide) (by decide)), fun j hj => ?_, fun j hj => ⟨(h.dg j hj).1.gro hg (hun j hj), (h.dg j hj).2⟩, fun i j hi hj hij => ?_, fun i j hi hj g e => ?_, h.b0, fun j hj => ?_, h.be.trans (hg.to_below h.be.size (fun g q => q.elim (fun q => by rw [q]; exact (h.lo k hk).1) (fun q => (h.lo k hk).2 g q)))⟩
  · by_cases e : j = k
    · subst e
      show Lg w' (s.p j) (up s.n j n' j) (up s.v j v' j) (up s.F j F' j)
      rw [up_at, up_at, up_at]; exact hL
    · show Lg w' (s.p j) (up s.n k n' j) (up s.v k v' j) (up s.F k F' j)
      rw [up_ne _ _ _ e, up_ne _ _ _ e, up_ne _ _ _ e]
      refine (h.lg j hj).gro hg (fun q => ?_) (hvn j hj e)
      rcases q with q | q
      · exact (h.ap j k hj hk e).1 q
      · obtain ⟨cs, r2⟩ := ow_brow (h.lg k hk).own q
        exact absurd (lrow_ty r2 (h.lg j hj).row) (by decide)
  · show s.p i ≠ s.p j ∧ ∀ g, (up s.v k v' i).ownBlock = some g → (up s.v k v' j).ownBlock ≠ some g
    refine ⟨(h.ap i j hi hj hij).1, fun g e1 e2 => ?_⟩
    have old : ∀ a, a < 3 → a ≠ k → (s.v a).ownBlock = some g → v'.ownBlock ≠ some g := fun a ha hak ea q => by
      rcases hv with hv | ⟨g', hv, hg'⟩
      · rw [hv] at q; exact (h.ap a k ha hk hak).2 g ea q
      · rw [hv] at q
        cases q
        have := Ow.lt (h.lg a ha).own g ea
        omega
    by_cases ei : i = k
    · subst ei
      rw [up_at] at e1
      rw [up_ne _ _ _ (fun e => hij e.symm)] at e2
      exact old j hj (fun e => hij e.symm) e2 e1
    · rw [up_ne _ _ _ ei] at e1
      by_cases ej : j = k
      · subst ej
        rw [up_at] at e2
        exact old i hi ei e1 e2
      · rw [up_ne _ _ _ ej] at e2
        exact (h.ap i j hi hj hij).2 g e1 e2
  · change (up s.v k v' i).ownBlock = some g at e
    by_cases ei : i = k
    · subst ei
      rw [up_at] at e
      rcases hv with hv | ⟨g', hv, hg'⟩
      · rw [hv] at e; exact h.ad i j hi hj g e
      · rw [hv] at e
        cases e
        intro q
        have := Ow.lt (h.dg j hj).1 g q
        omega
    · rw [up_ne _ _ _ ei] at e
      exact h.ad i j hi hj g e
  · show w0.heap.size ≤ s.p j ∧ ∀ g, (up s.v k v' j).ownBlock = some g → w0.heap.size ≤ g
    refine ⟨(h.lo j hj).1, fun g e => ?_⟩
    by_cases ej : j = k
    · subst ej
      rw [up_at] at e
      rcases hv with hv | ⟨g', hv, hg'⟩
      · rw [hv] at e; exact (h.lo j hj).2 g e
      · rw [hv] at e; cases e; exact Nat.le_trans h.be.size hg'
    · rw [up_ne _ _ _ ej] at e
      exact (h.lo j hj).2 g e
/-- Where a new log takes a place. -/
theorem T3.setP {w1 : World} (h : T3 w0 w1 bt bd s) (hB : Below w1.heap.size w1 w) (k : Nat) (hk : k < 3) (P n' : Nat) (v' : Value) (F' : List (List (BitVec 8))) (hL : Lg w P n' v' F') (hP : w1.heap.size ≤ P) (hv : Fresh w1.heap.size v') : T3 w0 (w.setCell ⟨bt, k, none⟩ (.pointer (some ⟨P, 0, none⟩))) bt bd (s.upP k P n' v' F') := by
  have hw := h.keep hB
  have hg : Gro (fun g => g = bt) w (w.setCell ⟨bt, k, none⟩ (.pointer (some ⟨P, 0, none⟩))) := (Gro.refl _ _).sets bt k [.pointer (some ⟨P, 0, none⟩)] rfl
  have hnv : ∀ (x : Value) (nn : Nat) (xs : List Value), Ow w x nn xs → ∀ g, x.ownBlock = some g → ¬ g = bt := fun x nn xs ho g e q => by
    subst q
    obtain ⟨cs, r2⟩ := ow_brow ho e
    exact absurd (lrow_ty r2 hw.rt) (by decide)
  have hnl : ∀ (Q nn : Nat) (x : Value) (H : List (List (BitVec 8))), Lg w Q nn x H → ¬ Q = bt := fun Q nn x H ho q => by
    subst q
    exact absurd (lrow_ty ho.row hw.rt) (by decide)
  refine ⟨by have := hw.rt.set k (.pointer (some ⟨P, 0, none⟩)); rw [tcs_set _ _ _ hk] at this; exact this, hg.row hw.rd (fun e => by subst e; exact absurd (lrow_ty hw.rd hw.rt) (by decide)), fun j hj => ?_, fun j hj => ⟨(hw.dg j hj).1.gro hg (hnv _ _ _ (hw.dg j hj).1), (hw.dg j hj).2⟩, fun i j hi hj hij => ?_, fun i j hi hj g e => ?_, h.b0, fun j hj => ?_, hw.be.setCell (p := ⟨bt, k, none⟩) h.b0.1 _⟩
  · show Lg _ (up s.p k P j) (up s.n k n' j) (up s.v k v' j) (up s.F k F' j)
    by_cases e : j = k
    · subst e
      rw [up_at, up_at, up_at, up_at]
      exact hL.gro hg (hnl _ _ _ _ hL) (hnv _ _ _ hL.own)
    · rw [up_ne _ _ _ e, up_ne _ _ _ e, up_ne _ _ _ e, up_ne _ _ _ e]
      exact (hw.lg j hj).gro hg (hnl _ _ _ _ (hw.lg j hj)) (hnv _ _ _ (hw.lg j hj).own)
  · show up s.p k P i ≠ up s.p k P j ∧ ∀ g, (up s.v k v' i).ownBlock = some g → (up s.v k v' j).ownBlock ≠ some g
    have pl : ∀ a, a < 3 → s.p a ≠ P := fun a ha e => by have := (h.lg a ha).row.lt; omega
    have vl : ∀ a, a < 3 → ∀ g, (s.v a).ownBlock = some g → v'.ownBlock ≠ some g := fun a ha g e1 e2 => by have := Ow.lt (h.lg a ha).own g e1; have := hv g e2; omega
    by_cases ei : i = k
    · subst ei
      have ej : j ≠ i := fun e => hij e.symm
      rw [up_at, up_at, up_ne _ _ _ ej, up_ne _ _ _ ej]
      exact ⟨fun e => pl j hj e.symm, fun g e1 e2 => vl j hj g e2 e1⟩
    · by_cases ej : j = k
      · subst ej
        rw [up_at, up_at, up_ne _ _ _ ei, up_ne _ _ _ ei]
        exact ⟨pl i hi, vl i hi⟩
      · rw [up_ne _ _ _ ei, up_ne _ _ _ ei, up_ne _ _ _ ej, up_ne _ _ _ ej]
        exact h.ap i j hi hj hij
  · change (up s.v k v' i).ownBlock = some g at e
    by_cases ei : i = k
    · subst ei
      rw [up_at] at e
      intro q
      have := Ow.lt (h.dg j hj).1 g q
      have := hv g e
      omega
    · rw [up_ne _ _ _ ei] at e
      exact h.ad i j hi hj g e
  · show w0.heap.size ≤ up s.p k P j ∧ ∀ g, (up s.v k v' j).ownBlock = some g → w0.heap.size ≤ g
    by_cases ej : j = k
    · subst ej
      rw [up_at, up_at]
      exact ⟨Nat.le_trans h.be.size hP, fun g e => Nat.le_trans h.be.size (hv g e)⟩
    · rw [up_ne _ _ _ ej, up_ne _ _ _ ej]
      exact h.lo j hj
/-- Where a log of the document's takes a place. -/
theorem T3.setD {w1 : World} (h : T3 w0 w1 bt bd s) (hB : Below w1.heap.size w1 w) (k : Nat) (hk : k < 3) (m' : Nat) (u' : Value) (G' : List (List (BitVec 8))) (hO : Ow w u' G'.length (vB G'.flatten)) (h32 : ∀ d ∈ G', d.length = 32) (hu : Fresh w1.heap.size u' ∨ u' = s.u k) : T3 w0 (w.setCells bd (k * 2) [.int .i64 (m' : Int), u']) bt bd (s.upD k m' u' G') := by
  have hw := h.keep hB
  have hg : Gro (fun g => g = bd) w (w.setCells bd (k * 2) [.int .i64 (m' : Int), u']) := (Gro.refl _ _).sets bd (k * 2) _ rfl
  have hnv : ∀ (x : Value) (nn : Nat) (xs : List Value), Ow w x nn xs → ∀ g, x.ownBlock = some g → ¬ g = bd := fun x nn xs ho g e q => by
    subst q
    obtain ⟨cs, r2⟩ := ow_brow ho e
    exact absurd (lrow_ty r2 hw.rd) (by decide)
  have hnl : ∀ (Q nn : Nat) (x : Value) (H : List (List (BitVec 8))), Lg w Q nn x H → ¬ Q = bd := fun Q nn x H ho q => by
    subst q
    exact absurd (lrow_ty ho.row hw.rd) (by decide)
  refine ⟨hg.row hw.rt (fun e => by subst e; exact absurd (lrow_ty hw.rt hw.rd) (by decide)), ?_, fun j hj => (hw.lg j hj).gro hg (hnl _ _ _ _ (hw.lg j hj)) (hnv _ _ _ (hw.lg j hj).own), fun j hj => ?_, h.ap, fun i j hi hj g e => ?_, h.b0, h.lo, below_setCells hw.be h.b0.2 _⟩
  · have := Row.setCells (k * 2) [.int .i64 (m' : Int), u'] hw.rd (by show k * 2 + 2 ≤ 6; omega)
    rw [show [Value.int .i64 (m' : Int), u'].length = 2 from rfl, dcs_set _ _ _ _ _ hk] at this
    exact this
  · show Ow _ (up s.u k u' j) (up s.G k G' j).length (vB (up s.G k G' j).flatten) ∧ ∀ d ∈ up s.G k G' j, d.length = 32
    by_cases e : j = k
    · subst e
      rw [up_at, up_at]
      exact ⟨hO.gro hg (hnv _ _ _ hO), h32⟩
    · rw [up_ne _ _ _ e, up_ne _ _ _ e]
      exact ⟨(hw.dg j hj).1.gro hg (hnv _ _ _ (hw.dg j hj).1), (hw.dg j hj).2⟩
  · show (up s.u k u' j).ownBlock ≠ some g
    by_cases ej : j = k
    · subst ej
      rw [up_at]
      intro q
      rcases hu with hu | hu
      · have := hu g q
        have := Ow.lt (h.lg i hi).own g e
        omega
      · rw [hu] at q; exact h.ad i j hi hj g e q
    · rw [up_ne _ _ _ ej]
      exact h.ad i j hi hj g e
end

end Go.Proofs.YtkgfaioinajkjaaDoor
