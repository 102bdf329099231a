/-
  reading a letter of three bytes.
-/
import Derived.Test.YtknabkoddickaaaGreatDoorXSeeB
import Derived.Test.YtknabkoddickaaaGreatDoorXSee
import Derived.Test.YtknabkoddickaaaGreatDoorXLaw2
import Derived.Test.YtknabkoddickaaaGreatDoorXAx
import Derived.Test.YtknabkoddickaaaGreatDoorLtF

namespace Go.Proofs.YtknabkoddickaaaGreatDoor
open Go Go.RowKit
open Sha

/-- Bytes that came out. -/
def Bo (N : Nat) (d : List (BitVec 8)) (n : Nat) (W : World) (v : Value) : Prop := ∃ A c, v = .slice A n c ∧ Bw W (.slice A n c) d ∧ Fresh N (.slice A n c) ∧ (A = none → c = 0)

end Go.Proofs.YtknabkoddickaaaGreatDoor

namespace Go.Proofs.YtknabkoddickaaaGreatDoor
open Go Go.RowKit
open Sha

theorem results_rowS_tmp {P : Program} {fn : Func} {p q : Tmp} {ty : TypeId} {fs : Array Field} (h : fn.results = #[.cell p ty, .tmp q]) (tmps : Array Value) (w : World) (g : Nat) (t : TypeId) (cs : List Value) (v : Value)
    (hp : tmps.getD p undef = .pointer (some ⟨g, 0, none⟩)) (hv : tmps.getD q undef = v) (hg : Row w g cs t) (hu : P.underlying ty = some (.struct fs)) (hi : (P.info? ty).map (·.size) = some cs.length) :
    (results fn tmps).run P w = .ok (.tuple #[.agg cs.toArray, v]) w := by
  have hp' : tmps[p]?.getD undef = .pointer (some ⟨g, 0, none⟩) := by simpa using hp
  have hv' : tmps[q]?.getD undef = v := by simpa using hv
  have hr := run_loadVar_row (P := P) w g t ty cs.toArray (0, 0) (.struct fs) hg hu rfl (by simp [hi])
  simp [results, h, hp', hv', asAddr, hr]
/-- All but a reader's and a letter's blocks stay. -/
abbrev Gq (P b : Nat) : World → World → Prop := Gro (fun g => g = P ∨ g = b)
end Go.Proofs.YtknabkoddickaaaGreatDoor
