/-
  The law's some: at most so many leaves.
-/
import Derived.Test.YtnogjhbohljjnaaDoorTBack
namespace Go.Proofs.YtnogjhbohljjnaaDoor
open Go Go.RowKit
open Sha

theorem some_few (n : Nat) (hn : n ≤ 1048576) (A : Option Addr) (cap : Nat) (w : World) :
    Calls Tryd.prog 14 #[.slice A n cap, .int .i64 1048576] w fun e w' => e = .returned (.slice A n cap) ∧ w' = w := by
  have h1 : ¬ (1048576 : Int) < (n : Int) := by omega
  have h2 : (n : Int) ≤ 1048576 := by omega
  have h3 : decide ((1048576 : Int) < (n : Int)) = false := decide_eq_false h1
  go_enter Tryd.func14, Tryd.ntmps14
  go_wp2
  go_ret
  exact ⟨rfl, rfl⟩
theorem some_many (n : Nat) (hn : 1048576 < n) (b o cap : Nat) (hc : n ≤ cap) (w : World) :
    Calls Tryd.prog 14 #[.slice (some ⟨b, o, none⟩) n cap, .int .i64 1048576] w fun e w' => e = .returned (.slice (some ⟨b, o, none⟩) 1048576 cap) ∧ w' = w := by
  have h1 : (1048576 : Int) < (n : Int) := by omega
  have h2 : ¬ (n : Int) ≤ 1048576 := by omega
  have h3 : decide ((1048576 : Int) < (n : Int)) = true := decide_eq_true h1
  have HC : Hid (1048576 ≤ cap) := by show _ ≤ _; omega
  clear hc hn
  go_enter Tryd.func14, Tryd.ntmps14
  go_wp2_with (refine wpList_slice_to rfl 25 22 (.tmp 9) (.tmp 10) b o n cap 1048576 rfl rfl rfl HC.out Tryd.underlying25 info_slb ?_; simp only [Act.put, List.setIfInBounds_toArray, List.set_cons_zero, List.set_cons_succ])
  go_ret
  exact ⟨rfl, rfl⟩
/-- The leaves that are looked at. -/
def few (ps : List (List (BitVec 8))) : List (List (BitVec 8)) := ps.take 1048576
theorem few_len (ps : List (List (BitVec 8))) : (few ps).length ≤ 1048576 := by unfold few; rw [List.length_take]; omega
theorem some_any (ps : List (List (BitVec 8))) (n : Nat) (hn : ps.length = n) (A : Option Addr) (cap : Nat) (hc : n ≤ cap) (w : World) (hv : Lv w A ps) :
    Calls Tryd.prog 14 #[.slice A n cap, .int .i64 1048576] w fun e w' => e = .returned (.slice A (few ps).length cap) ∧ w' = w := by
  by_cases h : n ≤ 1048576
  · rw [show (few ps).length = n by unfold few; rw [List.length_take]; omega]
    exact some_few n h A cap w
  · rcases hv with h0 | ⟨b, o, rfl, _⟩
    · subst h0; simp at hn; omega
    · rw [show (few ps).length = 1048576 by unfold few; rw [List.length_take]; omega]
      exact some_many n (by omega) b o cap hc w
theorem Lv.few {w : World} {A : Option Addr} {ps : List (List (BitVec 8))} (h : Lv w A ps) : Lv w A (few ps) := by
  rcases h with h | ⟨b, o, h1, h2⟩
  · exact .inl (by subst h; rfl)
  · exact .inr ⟨b, o, h1, h2.take _⟩
/-- The document's root of a list that came in. -/
theorem rroot_lv (ps : List (List (BitVec 8))) (n : Nat) (hn : ps.length = n) (hs : n ≤ 1048576) (hl : ∀ i, i < n → (ps.getD i []).length ≤ 140737488351232) (dd : List (BitVec 8)) (hd : dd = rt ps) (A : Option Addr) (cap : Nat) (hc : n ≤ cap) (w : World) (fG : Given w) (hv : Lv w A ps) :
    Calls Tryd.prog 22 #[.slice A n cap] w fun e w' => e = .returned (.agg (vB dd).toArray) ∧ Below w.heap.size w w' := by
  rcases hv with h0 | ⟨b, o, rfl, h⟩
  · subst h0
    subst hn
    exact rroot_nil A cap dd (by rw [hd, rt_nil [] rfl]) w fG
  · exact rroot_any n ps hn (by omega) (fun i hi => by have := hl i (by omega); omega) dd hd b o cap hc w fG h
/-- Leaves in memory of their own are leaves of a caller. -/
theorem Tw.ln {w : World} {g : Nat} {ps : List (List (BitVec 8))} {n : Nat} (h : Tw w g ps n n) (hn : ps.length = n) : LnAt w g 0 ps := by
  have hr := h.row
  rw [Nat.sub_self, List.replicate_zero, List.append_nil] at hr
  refine ⟨twv (g + 1) ps n, by rw [twv_len, hn], hr.all, fun i hi => ?_⟩
  have e : (twv (g + 1) ps n).getD i undef = Value.slice (some ⟨g + 1 + i, 0, none⟩) (ps.getD i []).length (ps.getD i []).length := by
    rw [List.getD_eq_getElem?_getD, twv_get _ _ _ _ (by omega)]; rfl
  rw [e]
  refine ⟨.inr ⟨g + 1 + i, 0, (ps.getD i []).length, rfl, Nat.le_refl _, (h.each i (by omega)).all⟩, fun A' n' c' he hA => ?_⟩
  simp only [Value.slice.injEq] at he
  rw [← he.1] at hA; cases hA
/-- The lent leaves, as a list. -/
theorem Loan.ls {w : World} {G : Nat} {ov : Value} {L : List Value} {B : Nat → Nat} {ps qs : List (List (BitVec 8))} {n : Nat} (h : Loan w G ov L B ps qs n n n 9) (hq : qs.length = n) (hl : ∀ i, i < n → (qs.getD i []).length = (ps.getD i []).length) : LsAt w G 0 qs := by
  have hlen := h.len
  refine ⟨L.take n, by rw [List.length_take, hq]; omega, fun j v hj => ?_, fun i hi => ?_⟩
  · have hjn : j < n := by have := (List.getElem?_eq_some_iff.1 hj).1; rw [List.length_take] at this; omega
    rw [List.getElem?_take_of_lt hjn] at hj
    exact h.row.all j v hj
  · rw [hq] at hi
    have e : (L.take n).getD i undef = L.getD i undef := by simp [List.getD_eq_getElem?_getD, hi]
    rw [e, h.front i hi, ← hl i hi]
    exact .inr ⟨B i, 0, _, rfl, by omega, fun j v hj => (h.each i hi).2.all j v (by rw [vB_append, List.getElem?_append_left (List.getElem?_eq_some_iff.1 hj).1]; exact hj)⟩

end Go.Proofs.YtnogjhbohljjnaaDoor
