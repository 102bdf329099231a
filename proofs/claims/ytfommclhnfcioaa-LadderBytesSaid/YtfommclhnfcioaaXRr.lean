/-
  The document's reader.
-/
import Derived.Test.YtfommclhnfcioaaXSee
namespace Go.Proofs.Ytfommclhnfcioaa
open Go Go.RowKit
open Sha

/-- The document's reader. -/
structure Rr (w : World) (D g : Nat) (bs : List (BitVec 8)) (a : Nat) (f : Int) : Prop where
  row : Row w D [.slice (some ⟨g, 0, none⟩) bs.length bs.length, .int .i64 (a : Int), .int .i64 f] 137
  by' : Row w g (vB bs) 5
  le : a ≤ bs.length
  len : bs.length ≤ 140737488351232
section
variable {w w' : World} {D g a : Nat} {bs : List (BitVec 8)} {f : Int}
theorem Rr.be (h : Rr w D g bs a f) (k : Below w.heap.size w w') : Rr w' D g bs a f := ⟨Row.below h.row k h.row.lt, Row.below h.by' k h.by'.lt, h.le, h.len⟩
theorem Rr.ne (h : Rr w D g bs a f) : g ≠ D := row_ne h.by' h.row (by decide)
theorem Rr.gro {R : Nat → Prop} (h : Rr w D g bs a f) (k : Gro R w w') (h1 : ¬ R D) (h2 : ¬ R g) : Rr w' D g bs a f := ⟨k.row h.row h1, k.row h.by' h2, h.le, h.len⟩
theorem Rr.drewN (h : Rr w D g bs a f) (m : Nat) : Rr (w.drewN m) D g bs a f := ⟨h.row, h.by', h.le, h.len⟩
theorem Rr.move (h : Rr w D g bs a f) (b : Nat) (hb : b ≤ bs.length) : Rr (w.setCell ⟨D, 1, none⟩ (.int .i64 (b : Int))) D g bs b f := ⟨h.row.set 1 _, h.by'.set_other D 1 _ h.ne, hb, h.len⟩
theorem Rr.err (h : Rr w D g bs a f) (e : Int) : Rr (w.setCell ⟨D, 2, none⟩ (.int .i64 e)) D g bs a e := ⟨h.row.set 2 _, h.by'.set_other D 2 _ h.ne, h.le, h.len⟩
theorem Rr.byte (h : Rr w D g bs a f) (i : Nat) (hi : i < bs.length) : w.cell? ⟨g, i, none⟩ = some (.int .u8 ((at8 bs i : Nat) : Int)) := h.by'.cell i _ (vB_get bs i hi)
end

set_option maxRecDepth 100000 in
set_option maxHeartbeats 1000000 in
theorem rleft (D g : Nat) (bs : List (BitVec 8)) (a : Nat) (f : Int) (w : World) (h : Rr w D g bs a f) :
    Calls Try.prog 88 #[.pointer (some ⟨D, 0, none⟩)] w fun e w' => e = .returned (.int .i64 ((bs.length : Int) - a)) ∧ ∃ m, w' = w.drewN m := by
  have g0 := h.row.cell 0 _ rfl
  have g1 := h.row.cell 1 _ rfl
  have ha := h.le
  have hn := h.len
  clear h
  generalize bs.length = n at *
  go_enter Try.func88, Try.ntmps88
  go_wp2
  go_region
  go_wp2
  go_ret
  exact ⟨rfl, 1, rfl⟩

set_option maxRecDepth 100000 in
theorem rfixed_no (D g : Nat) (bs : List (BitVec 8)) (a : Nat) (f : Int) (hf : ¬ f = 0) (n : Int) (w : World) (h : Rr w D g bs a f) :
    Calls Try.prog 86 #[.pointer (some ⟨D, 0, none⟩), .int .i64 n] w fun e w' => e = .returned (.slice none 0 0) ∧ w' = w := by
  have g2 := h.row.cell 2 _ rfl
  clear h
  go_enter Try.func86, Try.ntmps86
  go_wp2
  go_ret
  exact ⟨rfl, rfl⟩

set_option maxRecDepth 100000 in
set_option maxHeartbeats 1000000 in
theorem rfixed_short (D g : Nat) (bs : List (BitVec 8)) (a n : Nat) (hl : bs.length < a + n) (w : World) (h : Rr w D g bs a 0) :
    Calls Try.prog 86 #[.pointer (some ⟨D, 0, none⟩), .int .i64 (n : Int)] w fun e w' => e = .returned (.slice none 0 0) ∧ Rr w' D g bs a 31 ∧ Gp D w w' := by
  have HL : Hid _ := rleft D g bs a 0 w h
  have g2 := h.row.cell 2 _ rfl
  have f2 := h.row.thaw 2
  have c1 : (bs.length : Int) - (a : Int) < (n : Int) := by omega
  have HR : Hid (Rr _ _ _ _ _ _) := h.err 31
  have HG : Hid (Gp D w (w.setCell ⟨D, 2, none⟩ (.int .i64 31))) := Gp.set (Gro.refl _ _) 2 _
  clear h hl
  generalize (bs.length : Int) - (a : Int) = q at *
  go_enter Try.func86, Try.ntmps86
  go_wp2_with fail
  refine Calls.mono HL.out ?_
  rintro e w2 ⟨rfl, m, rfl⟩
  have g2' : (w.drewN m).cell? ⟨D, 2, none⟩ = some (.int .i64 0) := g2
  have f2' : (w.drewN m).frozen? ⟨D, 2, none⟩ = false := f2
  clear g2 f2 HL
  go_wp2
  go_ret
  exact ⟨rfl, Rr.drewN HR.out m, Gro.drewN HG.out m⟩

set_option maxRecDepth 100000 in
set_option maxHeartbeats 2000000 in
theorem rfixed_ok (D g : Nat) (bs : List (BitVec 8)) (a n : Nat) (hl : a + n ≤ bs.length) (w : World) (h : Rr w D g bs a 0) :
    Calls Try.prog 86 #[.pointer (some ⟨D, 0, none⟩), .int .i64 (n : Int)] w fun e w' => ∃ A' c', e = .returned (.slice A' n c') ∧ n ≤ c' ∧ (A' = none → c' = 0) ∧ (0 < n → A' = some ⟨g, a, none⟩) ∧ Rr w' D g bs (a + n) 0 ∧ Gp D w w' := by
  have HL : Hid _ := rleft D g bs a 0 w h
  have g0 := h.row.cell 0 _ rfl
  have g1 := h.row.cell 1 _ rfl
  have g2 := h.row.cell 2 _ rfl
  have f1 := h.row.thaw 1
  have c1 : ¬ (bs.length : Int) - (a : Int) < (n : Int) := by omega
  have hlen := h.len
  have HR : Hid (Rr _ _ _ _ _ _) := h.move (a + n) hl
  have HG : Hid (Gp D w (w.setCell ⟨D, 1, none⟩ (.int .i64 ((a + n : Nat) : Int)))) := Gp.set (Gro.refl _ _) 1 _
  clear h
  generalize bs.length = L at *
  by_cases hc : L = a
  · obtain rfl : n = 0 := by omega
    subst hc
    go_enter Try.func86, Try.ntmps86
    go_wp2_with fail
    refine Calls.mono HL.out ?_
    rintro e w2 ⟨rfl, m, rfl⟩
    have g0' : (w.drewN m).cell? ⟨D, 0, none⟩ = some (.slice (some ⟨g, 0, none⟩) L L) := g0
    have g1' : (w.drewN m).cell? ⟨D, 1, none⟩ = some (.int .i64 (L : Int)) := g1
    have g2' : (w.drewN m).cell? ⟨D, 2, none⟩ = some (.int .i64 0) := g2
    have f1' : (w.drewN m).frozen? ⟨D, 1, none⟩ = false := f1
    clear HL
    go_wp2
    go_region
    all_goals
      go_wp2
      go_ret
      exact ⟨_, _, rfl, by omega, (fun e => by first | omega | cases e), (fun e => by omega), Rr.drewN HR.out (m + 1), Gro.drewN HG.out (m + 1)⟩
  · have hc2 : a < L := by omega
    go_enter Try.func86, Try.ntmps86
    go_wp2_with fail
    refine Calls.mono HL.out ?_
    rintro e w2 ⟨rfl, m, rfl⟩
    have g0' : (w.drewN m).cell? ⟨D, 0, none⟩ = some (.slice (some ⟨g, 0, none⟩) L L) := g0
    have g1' : (w.drewN m).cell? ⟨D, 1, none⟩ = some (.int .i64 (a : Int)) := g1
    have g2' : (w.drewN m).cell? ⟨D, 2, none⟩ = some (.int .i64 0) := g2
    have f1' : (w.drewN m).frozen? ⟨D, 1, none⟩ = false := f1
    clear HL
    go_wp2
    go_region
    all_goals
      go_wp2
      go_ret
      refine ⟨some ⟨g, a, none⟩, L - a, ?_, by omega, (fun e => by cases e), (fun _ => rfl), Rr.drewN HR.out (m + 1), Gro.drewN HG.out (m + 1)⟩
      show Ending.returned (Value.slice (some ⟨g, a, none⟩) (a + n - a) (L - a)) = _
      rw [Nat.add_sub_cancel_left]

set_option maxRecDepth 100000 in
theorem rbyte_ok (D g : Nat) (bs : List (BitVec 8)) (a : Nat) (hl : a < bs.length) (w : World) (h : Rr w D g bs a 0) :
    Calls Try.prog 51 #[.pointer (some ⟨D, 0, none⟩)] w fun e w' => e = .returned (.int .u8 ((at8 bs a : Nat) : Int)) ∧ Rr w' D g bs (a + 1) 0 ∧ Gp D w w' := by
  have HC : Hid _ := rfixed_ok D g bs a 1 (by omega) w h
  have HL : Hid (a < bs.length) := hl
  clear h hl
  go_enter Try.func51, Try.ntmps51
  go_wp2_with fail
  refine Calls.mono HC.out ?_
  rintro e V ⟨A', c', rfl, hc', _, hA, hr, hg⟩
  obtain rfl := hA (by decide)
  have g2 := hr.row.cell 2 _ rfl
  have gb := hr.byte a HL.out
  have HR : Hid (Rr _ _ _ _ _ _) := hr
  have HG : Hid (Gro _ _ _) := hg
  clear hr hg hA HC
  go_wp2
  go_ret
  exact ⟨rfl, HR.out, HG.out⟩

set_option maxRecDepth 100000 in
theorem rbyte_short (D g : Nat) (bs : List (BitVec 8)) (a : Nat) (hl : bs.length ≤ a) (w : World) (h : Rr w D g bs a 0) :
    Calls Try.prog 51 #[.pointer (some ⟨D, 0, none⟩)] w fun e w' => e = .returned (.int .u8 0) ∧ Rr w' D g bs a 31 ∧ Gp D w w' := by
  have HC : Hid _ := rfixed_short D g bs a 1 (by omega) w h
  clear h hl
  go_enter Try.func51, Try.ntmps51
  go_wp2_with fail
  refine Calls.mono HC.out ?_
  rintro e V ⟨rfl, hr, hg⟩
  have g2 := hr.row.cell 2 _ rfl
  have HR : Hid (Rr _ _ _ _ _ _) := hr
  have HG : Hid (Gro _ _ _) := hg
  clear hr hg HC
  go_wp2
  go_ret
  exact ⟨rfl, HR.out, HG.out⟩

set_option maxRecDepth 100000 in
theorem rbyte_no (D g : Nat) (bs : List (BitVec 8)) (a : Nat) (f : Int) (hf : ¬ f = 0) (w : World) (h : Rr w D g bs a f) :
    Calls Try.prog 51 #[.pointer (some ⟨D, 0, none⟩)] w fun e w' => e = .returned (.int .u8 0) ∧ w' = w := by
  have HC : Hid _ := rfixed_no D g bs a f hf 1 w h
  have g2 := h.row.cell 2 _ rfl
  clear h
  go_enter Try.func51, Try.ntmps51
  go_wp2_with fail
  refine Calls.mono HC.out ?_
  rintro e V ⟨rfl, rfl⟩
  clear HC
  go_wp2
  go_ret
  exact ⟨rfl, rfl⟩

end Go.Proofs.Ytfommclhnfcioaa
