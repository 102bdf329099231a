/-
  wire.Reader, whatever the bytes: left, next, seeByte.
-/
import Derived.Test.YtekgojokhjihfaaDoorXKnown
import Derived.Test.YtekgojokhjihfaaDoorXRm
import Derived.WalkSmall
namespace Go.Proofs.YtekgojokhjihfaaDoor
open Go Go.RowKit
open Sha

/-- A reader that has no fault. -/
structure Rg (w : World) (P : Nat) (A : Option Addr) (cap : Nat) (bs : List (BitVec 8)) (a : Nat) : Prop where
  row : Row w P [.slice A bs.length cap, .int .i64 (a : Int), .int .i64 0] 146
  bw : Bw w (.slice A bs.length cap) bs
  le : a ≤ bs.length
  len : bs.length ≤ 4194304
/-- A reader with a fault. -/
abbrev Rf (w : World) (P : Nat) (a : Nat) (f : Int) : Prop := Row w P [.slice none 0 0, .int .i64 (a : Int), .int .i64 f] 146
section
variable {w w' : World} {P cap a : Nat} {A : Option Addr} {bs : List (BitVec 8)}
theorem Rg.be (h : Rg w P A cap bs a) (k : Below w.heap.size w w') : Rg w' P A cap bs a := ⟨Row.below h.row k h.row.lt, Bw.be h.bw k, h.le, h.len⟩
theorem Rg.drewN (h : Rg w P A cap bs a) (m : Nat) : Rg (w.drewN m) P A cap bs a := ⟨h.row, h.bw, h.le, h.len⟩
theorem Rg.move (h : Rg w P A cap bs a) (b : Nat) (hb : b ≤ bs.length) : Rg (w.setCell ⟨P, 1, none⟩ (.int .i64 (b : Int))) P A cap bs b :=
  ⟨h.row.set 1 _, Bw.set_other h.bw (Bw.ne h.bw h.row (by decide)), hb, h.len⟩
theorem Rg.setNew (h : Rg w P A cap bs a) (q o : Nat) (v : Value) {cs : List Value} {t : TypeId} (hq : Row w q cs t) (h1 : t ≠ 146) (h2 : t ≠ 5) : Rg (w.setCell ⟨q, o, none⟩ v) P A cap bs a :=
  ⟨h.row.set_other q o v (row_ne h.row hq (Ne.symm h1)), Bw.set_other h.bw (Bw.ne h.bw hq h2), h.le, h.len⟩
theorem Rg.setsNew (h : Rg w P A cap bs a) (q o : Nat) (vs : List Value) {cs : List Value} {t : TypeId} (hq : Row w q cs t) (h1 : t ≠ 146) (h2 : t ≠ 5) : Rg (w.setCells q o vs) P A cap bs a :=
  ⟨Row.setCells_other h.row _ _ _ (row_ne h.row hq (Ne.symm h1)), Bw.block h.bw fun k e => heap_sets w q o _ k (Bw.ne h.bw hq h2 k e), h.le, h.len⟩
theorem Rg.byte (h : Rg w P A cap bs a) (i : Nat) (hi : i < bs.length) : ∃ g, A = some ⟨g, 0, none⟩ ∧ w.cell? ⟨g, i, none⟩ = some (.int .u8 (c (bs.getD i 0))) := by
  rcases Bw.sl h.bw with ⟨h0, _⟩ | ⟨ab, ao, c', hv, _, hr⟩
  · subst h0; simp at hi
  · simp only [Value.slice.injEq] at hv
    rcases h.bw.2 with ⟨q, _⟩ | ⟨g, _, _, hv2, _⟩
    · simp only [Value.slice.injEq] at q
      rw [q.1] at hv; cases hv.1
    · simp only [Value.slice.injEq] at hv2
      obtain ⟨e2, _, _⟩ := hv2
      obtain ⟨e1, _, _⟩ := hv
      rw [e2] at e1
      simp only [Option.some.injEq, Addr.mk.injEq] at e1
      obtain ⟨rfl, rfl, _⟩ := e1
      refine ⟨g, e2, ?_⟩
      have := hr i _ (vB_get bs i hi)
      simpa using this
theorem Rg.room (h : Rg w P A cap bs a) : bs.length ≤ cap ∧ (A = none → cap = 0 ∧ bs.length = 0) := by
  rcases h.bw.2 with ⟨q, q0⟩ | ⟨g', cap', cur, hv, _, _, hc, _⟩
  · simp only [Value.slice.injEq] at q
    exact ⟨by omega, fun _ => ⟨q.2.2, q.2.1⟩⟩
  · simp only [Value.slice.injEq] at hv
    exact ⟨by omega, fun e => by rw [hv.1] at e; cases e⟩
theorem Rg.lies (h : Rg w P A cap bs a) : A = none ∨ ∃ g, A = some ⟨g, 0, none⟩ := by
  rcases h.bw.2 with ⟨q, q0⟩ | ⟨g', cap', cur, hv, _, _, hc, _⟩
  · simp only [Value.slice.injEq] at q
    exact .inl q.1
  · simp only [Value.slice.injEq] at hv
    exact .inr ⟨g', hv.1⟩
end
abbrev GU : TypeId := 166
abbrev gu (e : Int) : List PanicEntry := [{ v := .iface GU (.int .i64 e), recovered := false }]

set_option maxRecDepth 100000 in
set_option maxHeartbeats 2000000 in
theorem next_no (P : Nat) (A : Option Addr) (cap : Nat) (bs : List (BitVec 8)) (a n : Nat) (ha : bs.length < a + n) (w : World) (h : Rg w P A cap bs a) :
    Calls Tryd.prog 108 #[.pointer (some ⟨P, 0, none⟩), .int .i64 (n : Int)] w fun e w' => e = .panicked (gu 31) ∧ ∃ m, w' = w.drewN m := by
  have HL : Hid _ := left_ok P A bs.length cap a h.le h.len 0 w h.row
  have c1 : ((bs.length : Int) - (a : Int) < (n : Int)) := by omega
  clear h
  generalize bs.length = L at *
  go_enter Tryd.func108, Tryd.ntmps108
  go_wp2_with fail
  refine Calls.mono HL.out ?_
  rintro e w1 ⟨rfl, m, rfl⟩
  clear HL
  go_wp2
  exact ⟨rfl, rfl, m, rfl⟩

set_option maxRecDepth 100000 in
set_option maxHeartbeats 2000000 in
theorem next_any (P : Nat) (A : Option Addr) (cap : Nat) (bs : List (BitVec 8)) (a n : Nat) (ha : a + n ≤ bs.length) (w : World) (h : Rg w P A cap bs a) :
    Calls Tryd.prog 108 #[.pointer (some ⟨P, 0, none⟩), .int .i64 (n : Int)] w fun e w' => ∃ A' c', e = .returned (.slice A' n c') ∧ n ≤ c' ∧ (A' = none → c' = 0) ∧ (0 < n → ∃ g, A = some ⟨g, 0, none⟩ ∧ A' = some ⟨g, a, none⟩) ∧ ∃ m, w' = (w.setCell ⟨P, 1, none⟩ (.int .i64 ((a + n : Nat) : Int))).drewN m := by
  have HL : Hid _ := left_ok P A bs.length cap a h.le h.len 0 w h.row
  obtain ⟨hcap, hnone⟩ := h.room
  have hlen := h.len
  have g1 := h.row.cell 1 _ rfl
  have f1 := h.row.thaw 1
  have g0 := h.row.cell 0 _ rfl
  have c1 : ¬ ((bs.length : Int) - (a : Int) < (n : Int)) := by omega
  have hwh := h.lies
  clear h
  generalize bs.length = L at *
  by_cases hc : cap = a
  · obtain rfl : n = 0 := by omega
    obtain rfl : L = a := by omega
    subst hc
    go_enter Tryd.func108, Tryd.ntmps108
    go_wp2_with fail
    refine Calls.mono HL.out ?_
    rintro e w1 ⟨rfl, m, rfl⟩
    have g1' : (w.drewN m).cell? ⟨P, 1, none⟩ = some (.int .i64 (cap : Int)) := g1
    have g0' : (w.drewN m).cell? ⟨P, 0, none⟩ = some (.slice A cap cap) := g0
    have f1' : (w.drewN m).frozen? ⟨P, 1, none⟩ = false := f1
    clear g1 g0 f1 HL hwh hnone
    go_wp2
    go_region
    all_goals
      go_wp2
      go_ret
      first
      | exact ⟨_, _, rfl, by omega, fun _ => by omega, fun h => by omega, m + 1, rfl⟩
  · obtain rfl | ⟨g, rfl⟩ := hwh
    · have := hnone rfl; omega
    clear hnone
    go_enter Tryd.func108, Tryd.ntmps108
    go_wp2_with fail
    refine Calls.mono HL.out ?_
    rintro e w1 ⟨rfl, m, rfl⟩
    have g1' : (w.drewN m).cell? ⟨P, 1, none⟩ = some (.int .i64 (a : Int)) := g1
    have g0' : (w.drewN m).cell? ⟨P, 0, none⟩ = some (.slice (some ⟨g, 0, none⟩) L cap) := g0
    have f1' : (w.drewN m).frozen? ⟨P, 1, none⟩ = false := f1
    clear g1 g0 f1 HL
    go_wp2
    go_region
    all_goals
      go_wp2
      go_ret
      refine ⟨some ⟨g, a, none⟩, cap - a, ?_, by omega, (fun h => by cases h), fun _ => ⟨g, rfl, rfl⟩, m + 1, rfl⟩
      show Ending.returned (Value.slice (some ⟨g, a, none⟩) (a + n - a) (cap - a)) = _
      rw [Nat.add_sub_cancel_left]

set_option maxRecDepth 100000 in
set_option maxHeartbeats 2000000 in
theorem seeByte_no (P : Nat) (A : Option Addr) (cap : Nat) (bs : List (BitVec 8)) (a : Nat) (ha : bs.length ≤ a) (w : World) (h : Rg w P A cap bs a) :
    Calls Tryd.prog 86 #[.pointer (some ⟨P, 0, none⟩)] w fun e w' => e = .panicked (gu 31) ∧ ∃ m, w' = w.drewN m := by
  have HN : Hid _ := next_no P A cap bs a 1 (by omega) w h
  clear h ha
  go_enter Tryd.func86, Tryd.ntmps86
  go_wp2_with fail
  refine Calls.mono HN.out ?_
  rintro e w1 ⟨rfl, m, hw⟩
  have HW : Hid _ := hw
  clear hw
  go_wp2_with fail
  exact ⟨rfl, rfl, m, HW.out⟩

set_option maxRecDepth 100000 in
set_option maxHeartbeats 2000000 in
theorem seeByte_any (P : Nat) (A : Option Addr) (cap : Nat) (bs : List (BitVec 8)) (a : Nat) (ha : a < bs.length) (w : World) (h : Rg w P A cap bs a) :
    Calls Tryd.prog 86 #[.pointer (some ⟨P, 0, none⟩)] w fun e w' => e = .returned (.int .u8 (c (bs.getD a 0))) ∧ ∃ m, w' = (w.setCell ⟨P, 1, none⟩ (.int .i64 ((a + 1 : Nat) : Int))).drewN m := by
  have HN : Hid _ := next_any P A cap bs a 1 (by omega) w h
  obtain ⟨g, rfl, hb⟩ := h.byte a ha
  have hne : g ≠ P := Bw.ne h.bw h.row (by decide) g rfl
  have HB : Hid (∀ m, ((w.setCell ⟨P, 1, none⟩ (.int .i64 ((a + 1 : Nat) : Int))).drewN m).cell? ⟨g, a, none⟩ = some (.int .u8 (c (bs.getD a 0)))) := fun m => by
    show (w.setCell ⟨P, 1, none⟩ _).cell? ⟨g, a, none⟩ = _
    rw [World.cell?_of_block (a := ⟨g, a, none⟩) (Below.heap_setCell w ⟨P, 1, none⟩ _ g hne)]
    exact hb
  generalize bs.getD a 0 = x at *
  clear h hb hne
  go_enter Tryd.func86, Tryd.ntmps86
  go_wp2_with fail
  refine Calls.mono HN.out ?_
  rintro e w1 ⟨A', c', rfl, hc', _, hA', m, hw1⟩
  obtain ⟨g', e1, rfl⟩ := hA' (by decide)
  simp only [Option.some.injEq, Addr.mk.injEq] at e1
  obtain ⟨rfl, _⟩ := e1
  have gb := HB.out m
  rw [← hw1] at gb
  have HW : Hid (w1 = (w.setCell ⟨P, 1, none⟩ (.int .i64 ((a + 1 : Nat) : Int))).drewN m) := hw1
  clear hw1 HN HB hA'
  go_wp2
  go_ret
  exact ⟨rfl, m, HW.out⟩

end Go.Proofs.YtekgojokhjihfaaDoor
