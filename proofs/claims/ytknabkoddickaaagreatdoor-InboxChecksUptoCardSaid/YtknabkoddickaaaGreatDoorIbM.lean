/-
  the inbox: boxed, Alike of entries that are the same, Check of a row that leads.
-/
import Derived.Test.YtknabkoddickaaaGreatDoorIbK
namespace Go.Proofs.YtknabkoddickaaaGreatDoor
open Go Go.RowKit
open Sha

/-- Each entry may be, and none is below the one ahead of it. -/
structure Okr (es : List Ev) : Prop where
  ok : ∀ e ∈ es, e.Wf ∧ e.May
  up : ∀ (i : Nat) (e : Ev), es[i]? = some e → ¬ e.tm < ltm es i
theorem Okr.wf {es : List Ev} (h : Okr es) {i : Nat} {e : Ev} (he : es[i]? = some e) : e.Wf ∧ e.May := h.ok e (List.mem_of_getElem? he)
end Go.Proofs.YtknabkoddickaaaGreatDoor
