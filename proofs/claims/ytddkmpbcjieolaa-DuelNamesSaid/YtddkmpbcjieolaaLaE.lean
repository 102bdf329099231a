/-
  the ladder: what it is asked, by places.
-/
import Derived.Test.YtddkmpbcjieolaaLaD
namespace Go.Proofs.Ytddkmpbcjieolaa
open Go Go.RowKit
open Sha

def La.beh (st : La) (k : Nat) : Cm := if k = 0 then st.conf else (st.pend.getD (k - 1) zP).c
def La.top (st : La) : Cm := st.beh st.pend.length
theorem La.beh_wf {B : Int} {st : La} (h : st.Ok B) (k : Nat) (hk : k ≤ st.pend.length) : (st.beh k).Wf ∧ (st.beh k).May := by
  unfold La.beh
  split
  · exact ⟨h.cf, h.cm⟩
  · have hl : k - 1 < st.pend.length := by omega
    have : st.pend.getD (k - 1) zP ∈ st.pend := by rw [List.getD_eq_getElem?_getD, List.getElem?_eq_getElem hl]; exact List.getElem_mem _
    exact ⟨(h.pw _ this).c, h.pm _ this⟩
theorem La.top_wf {B : Int} {st : La} (h : st.Ok B) : st.top.Wf ∧ st.top.May := La.beh_wf h _ (Nat.le_refl _)
/-- Where one of that number stands. -/
def fiN (l : List Pn) (nr : Int) : Option Nat := l.findIdx? (fun x => decide (x.nr = nr))
def fiI (l : List Pn) (nr : Int) : Int := match fiN l nr with | some i => (i : Int) | none => -1
theorem fiI_none {l : List Pn} {nr : Int} (h : ∀ (i : Nat) (x : Pn), l[i]? = some x → x.nr ≠ nr) : fiI l nr = -1 := by
  have : fiN l nr = none := by
    unfold fiN
    rw [List.findIdx?_eq_none_iff]
    intro x hx
    obtain ⟨i, hi, rfl⟩ := List.getElem_of_mem hx
    exact decide_eq_false (h i _ (List.getElem?_eq_getElem hi))
  unfold fiI; rw [this]
theorem fiI_some {l : List Pn} {nr : Int} {t : Nat} {x : Pn} (hx : l[t]? = some x) (he : x.nr = nr) (h : ∀ (i : Nat) (x : Pn), i < t → l[i]? = some x → x.nr ≠ nr) : fiI l nr = (t : Int) := by
  have : fiN l nr = some t := by
    unfold fiN
    rw [List.findIdx?_eq_some_iff_getElem]
    obtain ⟨ht, hxe⟩ := List.getElem?_eq_some_iff.1 hx
    refine ⟨ht, by rw [hxe]; exact decide_eq_true he, fun j hj => ?_⟩
    have := h j _ hj (List.getElem?_eq_getElem (by omega))
    simpa using this
  unfold fiI; rw [this]
end Go.Proofs.Ytddkmpbcjieolaa
