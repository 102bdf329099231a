/-
  NewReader of any bytes; the law's own; the document's Read.
-/
import Derived.Test.YtekgojokhjihfaaXAx
import Derived.Test.YtekgojokhjihfaaXMk
import Derived.Test.YtekgojokhjihfaaXLaw2
namespace Go.Proofs.Ytekgojokhjihfaa
open Go Go.RowKit
open Sha

/-- A reader's first fault. -/
def f0 (bs : List (BitVec 8)) : Int := if 4194304 < bs.length then 30 else 0

set_option maxRecDepth 100000 in
set_option maxHeartbeats 1000000 in
theorem newReader_g (B : Option Addr) (n cb : Nat) (bs : List (BitVec 8)) (hb : bs.length = n) (hl : n ≤ 4194304) (hnil : B = none → cb = 0) (w : World) (hv : SlAt w (.slice B n cb) bs) :
    Calls Try.prog 30 #[.slice B n cb] w fun e w' => ∃ P A cap, e = .returned (.pointer (some ⟨P, 0, none⟩)) ∧ Rg w' P A cap bs 0 ∧ w.heap.size ≤ P ∧ Fresh w.heap.size (.slice A bs.length cap) ∧ Below w.heap.size w w' := by
  subst hb
  have h1 : ¬ (4194304 : Int) < (bs.length : Int) := by omega
  have HV : Hid _ := hv
  have HL : Hid (([] : List (BitVec 8)).length + bs.length ≤ 140737488355328) := by show 0 + _ ≤ _; omega
  have HN : Hid (B = none → cb = 0) := hnil
  have HLE : Hid (bs.length ≤ 4194304) := hl
  clear hv hl hnil
  go_enter Try.func30, Try.ntmps30
  go_wp2_with (refine wpList_app rfl _ (.tmp 8) rfl (.slice none 0 0) [] bs rfl (Bw.nil w) B bs.length cb rfl rfl HV.out HN.out HL.out ?_; intro v' w' q1 q2 q3; obtain ⟨Ax, cx, ex, _⟩ := Bw.form q1; subst ex; rw [List.nil_append] at q1 q3; have Q1 : Hid _ := q1; have Q2 : Hid _ := q2; have Q3 : Hid _ := q3; clear q1 q2 q3; simp only [Act.put, List.setIfInBounds_toArray, List.set_cons_zero, List.set_cons_succ, List.nil_append])
  go_ret
  have bB : Below w.heap.size w w' := (Below.refl _ _).grown Q2.out (Nat.le_refl _) (fun k hk => by simp [Value.ownBlock] at hk)
  have bA : Below w'.heap.size w' (w'.alloc (Obj.cells #[Value.slice Ax bs.length cx, Value.int IntKind.i64 0, Value.int IntKind.i64 0] 87)) := (Below.refl _ _).alloc (Nat.le_refl _) _
  refine ⟨w'.heap.size, rfl, Ax, cx, ⟨Row.new' rfl rfl, Bw.be Q1.out bA, Nat.zero_le _, HLE.out⟩, bB.size, fun g e => ?_, bB.trans (bA.mono bB.size)⟩
  rcases Q3.out with q | q
  · rw [e] at q; simp [Value.ownBlock] at q
  · rw [e] at q
    simp only [Option.some.injEq] at q
    omega

theorem newReader_x (B : Option Addr) (n cb : Nat) (bs : List (BitVec 8)) (hb : bs.length = n) (hnil : B = none → cb = 0) (w : World) (hv : SlAt w (.slice B n cb) bs) :
    Calls Try.prog 30 #[.slice B n cb] w fun e w' => ∃ P A cap, e = .returned (.pointer (some ⟨P, 0, none⟩)) ∧ Rx w' P A cap bs 0 (f0 bs) ∧ w.heap.size ≤ P ∧ Fresh w.heap.size (.slice A bs.length cap) ∧ Below w.heap.size w w' := by
  unfold f0
  by_cases hl : 4194304 < bs.length
  · rw [if_pos hl]
    refine (newReader_long B n cb (by omega) w).mono ?_
    rintro e w' ⟨rfl, h1, h2⟩
    exact ⟨w.heap.size, none, 0, rfl, .inr ⟨by decide, h1⟩, Nat.le_refl _, (fun g e => by simp [Value.ownBlock] at e), h2⟩
  · rw [if_neg hl]
    refine (newReader_g B n cb bs hb (by omega) hnil w hv).mono ?_
    rintro e w' ⟨P, A, cap, rfl, h1, h2, h3, h4⟩
    exact ⟨P, A, cap, rfl, .inl ⟨rfl, h1⟩, h2, h3, h4⟩

set_option maxRecDepth 100000 in
set_option maxHeartbeats 1000000 in
theorem read_any (g : Nat) (bs : List (BitVec 8)) (n : Nat) (hb : bs.length = n) (hl : n ≤ 140737488351232) (w : World) (hr : Row w g (vB bs) 5) :
    Calls Try.prog 36 #[.slice (some ⟨g, 0, none⟩) n n] w fun e w' => e = .returned (.pointer (some ⟨w.heap.size, 0, none⟩)) ∧ Rr w' w.heap.size g bs 0 (f0 bs) ∧ Below w.heap.size w w' := by
  have b1 : Below w.heap.size w (w.alloc (Obj.cells #[.slice (some ⟨g, 0, none⟩) n n, .int .i64 0, .int .i64 0] 97)) := (Below.refl _ _).alloc (Nat.le_refl _) _
  have r0 : Row (w.alloc (Obj.cells #[.slice (some ⟨g, 0, none⟩) n n, .int .i64 0, .int .i64 0] 97)) w.heap.size [.slice (some ⟨g, 0, none⟩) n n, .int .i64 0, .int .i64 0] 97 := Row.new' rfl rfl
  have hrr : Rr (w.alloc (Obj.cells #[.slice (some ⟨g, 0, none⟩) n n, .int .i64 0, .int .i64 0] 97)) w.heap.size g bs 0 0 := ⟨by rw [hb]; exact r0, Row.below hr b1 hr.lt, Nat.zero_le _, by omega⟩
  have hb2 : Below w.heap.size w (w.alloc (Obj.cells #[.slice (some ⟨g, 0, none⟩) n n, .int .i64 0, .int .i64 30] 97)) := (Below.refl _ _).alloc (Nat.le_refl _) _
  have hre : Rr (w.alloc (Obj.cells #[.slice (some ⟨g, 0, none⟩) n n, .int .i64 0, .int .i64 30] 97)) w.heap.size g bs 0 30 := ⟨by rw [hb]; exact Row.new' rfl rfl, Row.below hr hb2 hr.lt, Nat.zero_le _, by omega⟩
  have HR : Hid (Rr _ _ _ _ _ _) := hrr
  have HE : Hid (Rr _ _ _ _ _ _) := hre
  have B1 : Hid _ := b1
  have B2 : Hid _ := hb2
  unfold f0
  by_cases hc : 4194304 < bs.length
  · rw [if_pos hc]
    have c1 : (4194304 : Int) < (n : Int) := by omega
    clear hr hrr hre b1 hb2 r0 hb hc
    go_enter Try.func36, Try.ntmps36
    go_wp2
    go_ret
    exact ⟨rfl, HE.out, B2.out⟩
  · rw [if_neg hc]
    have c1 : ¬ (4194304 : Int) < (n : Int) := by omega
    clear hr hrr hre b1 hb2 r0 hb hc
    go_enter Try.func36, Try.ntmps36
    go_wp2
    go_ret
    exact ⟨rfl, HR.out, B1.out⟩

end Go.Proofs.Ytekgojokhjihfaa
