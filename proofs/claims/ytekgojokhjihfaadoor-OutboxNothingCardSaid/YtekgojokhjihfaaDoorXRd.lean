/-
  wire.Reader: NewReader, Err, left, next, seeByte.
-/
import Derived.Test.YtekgojokhjihfaaDoorXWr2
import Derived.Deep.Quiet
namespace Go.Proofs.YtekgojokhjihfaaDoor
open Go Go.RowKit
open Sha

/-- A reader of bytes. -/
def Rd (w : World) (P g cap : Nat) (bs : List (BitVec 8)) (at_ f : Int) : Prop := Row w P [.slice (some ⟨g, 0, none⟩) bs.length cap, .int .i64 at_, .int .i64 f] 146 ∧ Bw w (.slice (some ⟨g, 0, none⟩) bs.length cap) bs
theorem Rd.be {w w' : World} {P g cap : Nat} {bs : List (BitVec 8)} {a f : Int} (h : Rd w P g cap bs a f) (k : Below w.heap.size w w') : Rd w' P g cap bs a f := ⟨Row.below h.1 k h.1.lt, Bw.be h.2 k⟩
theorem Rd.drewN {w : World} {P g cap : Nat} {bs : List (BitVec 8)} {a f : Int} (h : Rd w P g cap bs a f) (m : Nat) : Rd (w.drewN m) P g cap bs a f := h
theorem Rd.ne {w : World} {P g cap : Nat} {bs : List (BitVec 8)} {a f : Int} (h : Rd w P g cap bs a f) : g ≠ P := Bw.ne h.2 h.1 (by decide) g rfl
theorem Gro.drewN {R : Nat → Prop} {a b : World} (h : Gro R a b) (m : Nat) : Gro R a (b.drewN m) := ⟨h.os, h.tape, h.output, h.size, h.block⟩
theorem Rd.byte {w : World} {P g cap : Nat} {bs : List (BitVec 8)} {a f : Int} (h : Rd w P g cap bs a f) (i : Nat) (hi : i < bs.length) : w.cell? ⟨g, i, none⟩ = some (.int .u8 (c (bs.getD i 0))) := by
  rcases Bw.sl h.2 with ⟨h0, _⟩ | ⟨ab, ao, c', hv, _, hr⟩
  · subst h0; simp at hi
  · simp only [Value.slice.injEq, Option.some.injEq, Addr.mk.injEq] at hv
    obtain ⟨⟨rfl, rfl, _⟩, _, _⟩ := hv
    have := hr i _ (vB_get bs i hi)
    simpa using this

set_option maxRecDepth 100000 in
set_option maxHeartbeats 1000000 in
theorem newReader_ok (b cap : Nat) (bs : List (BitVec 8)) (h0 : 0 < bs.length) (hl : bs.length ≤ 4194304) (w : World) (hv : SlAt w (.slice (some ⟨b, 0, none⟩) bs.length cap) bs) :
    Calls Tryd.prog 55 #[.slice (some ⟨b, 0, none⟩) bs.length cap] w fun e w' => ∃ P g c', e = .returned (.pointer (some ⟨P, 0, none⟩)) ∧ Rd w' P g c' bs 0 0 ∧ w.heap.size ≤ P ∧ w.heap.size ≤ g ∧ Below w.heap.size w w' := by
  have h1 : ¬ (4194304 : Int) < (bs.length : Int) := by omega
  have HV : Hid _ := hv
  have HL : Hid (([] : List (BitVec 8)).length + bs.length ≤ 140737488355328) := by show 0 + _ ≤ _; omega
  have H0 : Hid (0 < bs.length) := h0
  clear hv h0 hl
  go_enter Tryd.func55, Tryd.ntmps55
  go_wp2_with (refine wpList_app rfl _ (.tmp 8) rfl (.slice none 0 0) [] bs rfl (Bw.nil w) (some ⟨b, 0, none⟩) bs.length cap rfl rfl HV.out (fun e => by cases e) HL.out ?_; intro v' w' q1 q2 q3; obtain ⟨Ax, cx, ex, _⟩ := Bw.form q1; subst ex; rw [List.nil_append] at q1 q3; have Q1 : Hid _ := q1; have Q2 : Hid _ := q2; have Q3 : Hid _ := q3; clear q1 q2 q3; simp only [Act.put, List.setIfInBounds_toArray, List.set_cons_zero, List.set_cons_succ, List.nil_append])
  go_ret
  have bB : Below w.heap.size w w' := (Below.refl _ _).grown Q2.out (Nat.le_refl _) (fun k hk => by simp [Value.ownBlock] at hk)
  have bA : Below w'.heap.size w' (w'.alloc (Obj.cells #[Value.slice Ax bs.length cx, Value.int IntKind.i64 0, Value.int IntKind.i64 0] 146)) := (Below.refl _ _).alloc (Nat.le_refl _) _
  obtain ⟨g, rfl, hg⟩ : ∃ g, Ax = some ⟨g, 0, none⟩ ∧ w.heap.size ≤ g := by
    rcases Q1.out.2 with ⟨_, q0⟩ | ⟨g, cap, cur, hv, _⟩
    · have := H0.out; omega
    · simp only [Value.slice.injEq] at hv
      obtain ⟨rfl, _⟩ := hv
      refine ⟨g, rfl, ?_⟩
      rcases Q3.out with q | q
      · simp [Value.ownBlock] at q
      · simp only [Value.ownBlock, Option.some.injEq] at q
        omega
  exact ⟨w'.heap.size, rfl, g, ⟨cx, Row.new' rfl rfl, Bw.be Q1.out bA⟩, bB.size, hg, bB.trans (bA.mono bB.size)⟩

set_option maxRecDepth 100000 in
theorem err_ok (P : Nat) (v : Value) (a f : Int) (w : World) (h : Row w P [v, .int .i64 a, .int .i64 f] 146) :
    Calls Tryd.prog 93 #[.pointer (some ⟨P, 0, none⟩)] w fun e w' => e = .returned (.int .i64 f) ∧ w' = w := by
  have g2 := h.cell 2 _ rfl
  clear h
  go_enter Tryd.func93, Tryd.ntmps93
  go_wp2
  go_ret
  exact ⟨rfl, rfl⟩

set_option maxRecDepth 100000 in
set_option maxHeartbeats 1000000 in
theorem left_ok (P : Nat) (A : Option Addr) (n cap : Nat) (a : Nat) (ha : a ≤ n) (hn : n ≤ 4194304) (f : Int) (w : World) (h : Row w P [.slice A n cap, .int .i64 (a : Int), .int .i64 f] 146) :
    Calls Tryd.prog 94 #[.pointer (some ⟨P, 0, none⟩)] w fun e w' => e = .returned (.int .i64 ((n : Int) - a)) ∧ ∃ m, w' = w.drewN m := by
  have g0 := h.cell 0 _ rfl
  have g1 := h.cell 1 _ rfl
  clear h
  go_enter Tryd.func94, Tryd.ntmps94
  go_wp2
  go_region
  go_wp2
  go_ret
  exact ⟨rfl, 1, rfl⟩

set_option maxRecDepth 100000 in
set_option maxHeartbeats 2000000 in
theorem next_ok (P g cap : Nat) (bs : List (BitVec 8)) (a n : Nat) (h0 : 0 < n) (ha : a + n ≤ bs.length) (hn : bs.length ≤ 4194304) (w : World) (h : Rd w P g cap bs (a : Int) 0) :
    Calls Tryd.prog 108 #[.pointer (some ⟨P, 0, none⟩), .int .i64 (n : Int)] w fun e w' => e = .returned (.slice (some ⟨g, a, none⟩) n (cap - a)) ∧ ∃ m, w' = (w.setCell ⟨P, 1, none⟩ (.int .i64 ((a + n : Nat) : Int))).drewN m := by
  have HL : Hid _ := left_ok P (some ⟨g, 0, none⟩) bs.length cap a (by omega) hn 0 w h.1
  have hcap : bs.length ≤ cap := by
    rcases h.2.2 with ⟨q, _⟩ | ⟨g', cap', cur, hv, _, _, hc, _⟩
    · cases q
    · simp only [Value.slice.injEq] at hv
      omega
  have g1 := h.1.cell 1 _ rfl
  have f1 := h.1.thaw 1
  have g0 := h.1.cell 0 _ rfl
  have c1 : ¬ ((bs.length : Int) - (a : Int) < (n : Int)) := by omega
  have c2 : ¬ cap = a := by omega
  clear h
  generalize bs.length = L at *
  go_enter Tryd.func108, Tryd.ntmps108
  go_wp2_with fail
  refine Calls.mono HL.out ?_
  rintro e w1 ⟨rfl, m, rfl⟩
  have g1' : (w.drewN m).cell? ⟨P, 1, none⟩ = some (.int .i64 (a : Int)) := g1
  have g0' : (w.drewN m).cell? ⟨P, 0, none⟩ = some (.slice (some ⟨g, 0, none⟩) L cap) := g0
  have f1' : (w.drewN m).frozen? ⟨P, 1, none⟩ = false := f1
  clear g1 g0 f1 HL
  go_wp2
  go_region
  all_goals
    go_wp2
    go_ret
    refine ⟨?_, m + 1, rfl⟩
    show Ending.returned (Value.slice (some ⟨g, a, none⟩) (a + n - a) (cap - a)) = _
    rw [Nat.add_sub_cancel_left]

set_option maxRecDepth 100000 in
set_option maxHeartbeats 2000000 in
theorem seeByte_ok (P g cap : Nat) (bs : List (BitVec 8)) (a : Nat) (ha : a < bs.length) (hn : bs.length ≤ 4194304) (w : World) (h : Rd w P g cap bs (a : Int) 0) :
    Calls Tryd.prog 86 #[.pointer (some ⟨P, 0, none⟩)] w fun e w' => e = .returned (.int .u8 (c (bs.getD a 0))) ∧ ∃ m, w' = (w.setCell ⟨P, 1, none⟩ (.int .i64 ((a + 1 : Nat) : Int))).drewN m := by
  have HN : Hid _ := next_ok P g cap bs a 1 (by decide) (by omega) hn w h
  have HB : Hid (∀ m, ((w.setCell ⟨P, 1, none⟩ (.int .i64 ((a + 1 : Nat) : Int))).drewN m).cell? ⟨g, a, none⟩ = some (.int .u8 (c (bs.getD a 0)))) := fun m => by
    have := h.byte a ha
    have hne := h.ne
    show (w.setCell ⟨P, 1, none⟩ _).cell? ⟨g, a, none⟩ = _
    rw [World.cell?_of_block (a := ⟨g, a, none⟩) (Below.heap_setCell w ⟨P, 1, none⟩ _ g hne)]
    exact this
  generalize bs.getD a 0 = x at *
  clear h
  go_enter Tryd.func86, Tryd.ntmps86
  go_wp2_with fail
  refine Calls.mono HN.out ?_
  rintro e w1 ⟨rfl, m, hw1⟩
  have gb := HB.out m
  rw [← hw1] at gb
  have HW : Hid (w1 = (w.setCell ⟨P, 1, none⟩ (.int .i64 ((a + 1 : Nat) : Int))).drewN m) := hw1
  clear hw1
  go_wp2
  go_ret
  exact ⟨rfl, m, HW.out⟩

end Go.Proofs.YtekgojokhjihfaaDoor
