/-
  the document's reader, of any room: bytes.
-/
import Derived.Test.YtfommclhnfcioaaXRr
namespace Go.Proofs.Ytfommclhnfcioaa
open Go Go.RowKit
open Sha

/-- The document's reader: bytes with room behind them, or nil. -/
structure Rq (w : World) (D g : Nat) (A : Option Addr) (cap ao : Nat) (bs : List (BitVec 8)) (a : Nat) (f : Int) : Prop where
  row : Row w D [.slice A bs.length cap, .int .i64 (a : Int), .int .i64 f] 137
  lies : (bs = [] ∧ (A = none → cap = 0)) ∨ A = some ⟨g, ao, none⟩
  by' : 0 < bs.length → w.rangeAt g ao (vB bs)
  nd : 0 < bs.length → g ≠ D
  le : a ≤ bs.length
  room : bs.length ≤ cap
  len : bs.length ≤ 140737488355328
theorem range_lt {w : World} {g ao : Nat} {bs : List (BitVec 8)} (h : w.rangeAt g ao (vB bs)) (h0 : 0 < bs.length) : g < w.heap.size :=
  World.block_lt_of_cell? w _ (h 0 _ (vB_get bs 0 h0))
section
variable {w w' : World} {D g a cap : Nat} {A : Option Addr} {ao : Nat} {bs : List (BitVec 8)} {f : Int}
theorem Rq.lt (h : Rq w D g A cap ao bs a f) (e : 0 < bs.length) : g < w.heap.size := range_lt (h.by' e) e
theorem Rq.be (h : Rq w D g A cap ao bs a f) (k : Below w.heap.size w w') : Rq w' D g A cap ao bs a f := ⟨Row.below h.row k h.row.lt, h.lies, fun e => range_be (h.by' e) k, h.nd, h.le, h.room, h.len⟩
theorem Rq.ne (h : Rq w D g A cap ao bs a f) (e : 0 < bs.length) : g ≠ D := h.nd e
theorem Rq.gro {R : Nat → Prop} (h : Rq w D g A cap ao bs a f) (k : Gro R w w') (h1 : ¬ R D) (h2 : 0 < bs.length → ¬ R g) : Rq w' D g A cap ao bs a f := ⟨k.row h.row h1, h.lies, fun e => range_block (h.by' e) (k.block g (h.lt e) (h2 e)), h.nd, h.le, h.room, h.len⟩
theorem Rq.drewN (h : Rq w D g A cap ao bs a f) (m : Nat) : Rq (w.drewN m) D g A cap ao bs a f := ⟨h.row, h.lies, h.by', h.nd, h.le, h.room, h.len⟩
theorem Rq.move (h : Rq w D g A cap ao bs a f) (b : Nat) (hb : b ≤ bs.length) : Rq (w.setCell ⟨D, 1, none⟩ (.int .i64 (b : Int))) D g A cap ao bs b f := ⟨h.row.set 1 _, h.lies, fun e => range_block (h.by' e) (((Gro.refl (· = D) w).set D 1 _ rfl).block g (h.lt e) (h.nd e)), h.nd, hb, h.room, h.len⟩
theorem Rq.err (h : Rq w D g A cap ao bs a f) (e : Int) : Rq (w.setCell ⟨D, 2, none⟩ (.int .i64 e)) D g A cap ao bs a e := ⟨h.row.set 2 _, h.lies, fun q => range_block (h.by' q) (((Gro.refl (· = D) w).set D 2 _ rfl).block g (h.lt q) (h.nd q)), h.nd, h.le, h.room, h.len⟩
theorem Rq.byte (h : Rq w D g A cap ao bs a f) (i : Nat) (hi : i < bs.length) : w.cell? ⟨g, ao + i, none⟩ = some (.int .u8 ((at8 bs i : Nat) : Int)) := h.by' (by omega) i _ (vB_get bs i hi)
theorem Rq.byteAt (h : Rq w D g A cap ao bs a f) (b t : Nat) (hi : b + t < bs.length) : w.cell? ⟨g, ao + b + t, none⟩ = some (.int .u8 ((at8 bs (b + t) : Nat) : Int)) := by
  rw [Nat.add_assoc]
  exact h.byte (b + t) hi
end

set_option maxRecDepth 100000 in
set_option maxHeartbeats 1000000 in
theorem qleft (D g : Nat) (A : Option Addr) (cap : Nat) (ao : Nat) (bs : List (BitVec 8)) (a : Nat) (f : Int) (w : World) (h : Rq w D g A cap ao bs a f) :
    Calls Try.prog 88 #[.pointer (some ⟨D, 0, none⟩)] w fun e w' => e = .returned (.int .i64 ((bs.length : Int) - a)) ∧ ∃ m, w' = w.drewN m := by
  have g0 := h.row.cell 0 _ rfl
  have g1 := h.row.cell 1 _ rfl
  have ha := h.le
  have hn : bs.length ≤ 140737488355328 := h.len
  clear h
  generalize bs.length = n at *
  go_enter Try.func88, Try.ntmps88
  go_wp2
  go_region
  go_wp2
  go_ret
  exact ⟨rfl, 1, rfl⟩

set_option maxRecDepth 100000 in
theorem qfixed_no (D g : Nat) (A : Option Addr) (cap : Nat) (ao : Nat) (bs : List (BitVec 8)) (a : Nat) (f : Int) (hf : ¬ f = 0) (n : Int) (w : World) (h : Rq w D g A cap ao bs a f) :
    Calls Try.prog 86 #[.pointer (some ⟨D, 0, none⟩), .int .i64 n] w fun e w' => e = .returned (.slice none 0 0) ∧ w' = w := by
  have g2 := h.row.cell 2 _ rfl
  clear h
  go_enter Try.func86, Try.ntmps86
  go_wp2
  go_ret
  exact ⟨rfl, rfl⟩

set_option maxRecDepth 100000 in
set_option maxHeartbeats 1000000 in
theorem qfixed_short (D g : Nat) (A : Option Addr) (cap : Nat) (ao : Nat) (bs : List (BitVec 8)) (a n : Nat) (hl : bs.length < a + n) (w : World) (h : Rq w D g A cap ao bs a 0) :
    Calls Try.prog 86 #[.pointer (some ⟨D, 0, none⟩), .int .i64 (n : Int)] w fun e w' => e = .returned (.slice none 0 0) ∧ Rq w' D g A cap ao bs a 31 ∧ Gp D w w' := by
  have HL : Hid _ := qleft D g A cap ao bs a 0 w h
  have g2 := h.row.cell 2 _ rfl
  have f2 := h.row.thaw 2
  have c1 : (bs.length : Int) - (a : Int) < (n : Int) := by omega
  have HR : Hid (Rq _ _ _ _ _ _ _ _ _) := h.err 31
  have HG : Hid (Gp D w (w.setCell ⟨D, 2, none⟩ (.int .i64 31))) := Gp.set (Gro.refl _ _) 2 _
  clear h hl
  generalize (bs.length : Int) - (a : Int) = q at *
  go_enter Try.func86, Try.ntmps86
  go_wp2_with fail
  refine Calls.mono HL.out ?_
  rintro e w2 ⟨rfl, m, rfl⟩
  have g2' : (w.drewN m).cell? ⟨D, 2, none⟩ = some (.int .i64 0) := g2
  have f2' : (w.drewN m).frozen? ⟨D, 2, none⟩ = false := f2
  clear g2 f2 HL
  go_wp2
  go_ret
  exact ⟨rfl, Rq.drewN HR.out m, Gro.drewN HG.out m⟩

set_option maxRecDepth 100000 in
set_option maxHeartbeats 2000000 in
theorem qfixed_ok (D g : Nat) (A : Option Addr) (cap : Nat) (ao : Nat) (bs : List (BitVec 8)) (a n : Nat) (hl : a + n ≤ bs.length) (w : World) (h : Rq w D g A cap ao bs a 0) :
    Calls Try.prog 86 #[.pointer (some ⟨D, 0, none⟩), .int .i64 (n : Int)] w fun e w' => ∃ A' c', e = .returned (.slice A' n c') ∧ n ≤ c' ∧ (A' = none → c' = 0) ∧ (0 < n → A' = some ⟨g, ao + a, none⟩) ∧ Rq w' D g A cap ao bs (a + n) 0 ∧ Gp D w w' := by
  have HL : Hid _ := qleft D g A cap ao bs a 0 w h
  have g0 := h.row.cell 0 _ rfl
  have g1 := h.row.cell 1 _ rfl
  have g2 := h.row.cell 2 _ rfl
  have f1 := h.row.thaw 1
  have c1 : ¬ (bs.length : Int) - (a : Int) < (n : Int) := by omega
  have hlen := h.len
  have hroom := h.room
  have hlies : (bs.length = 0 ∧ (A = none → cap = 0)) ∨ A = some ⟨g, ao, none⟩ := by
    rcases h.lies with ⟨e1, e2⟩ | e
    · exact .inl ⟨by rw [e1]; rfl, e2⟩
    · exact .inr e
  have HR : Hid (Rq _ _ _ _ _ _ _ _ _) := h.move (a + n) hl
  have HG : Hid (Gp D w (w.setCell ⟨D, 1, none⟩ (.int .i64 ((a + n : Nat) : Int)))) := Gp.set (Gro.refl _ _) 1 _
  clear h
  generalize bs.length = L at *
  rcases hlies with ⟨rfl, hnil⟩ | rfl
  · obtain rfl : n = 0 := by omega
    obtain rfl : a = 0 := by omega
    cases A with
    | none =>
      obtain rfl := hnil rfl
      clear hnil
      go_enter Try.func86, Try.ntmps86
      go_wp2_with fail
      refine Calls.mono HL.out ?_
      rintro e w2 ⟨rfl, m, rfl⟩
      have g0' : (w.drewN m).cell? ⟨D, 0, none⟩ = some (.slice none 0 0) := g0
      have g1' : (w.drewN m).cell? ⟨D, 1, none⟩ = some (.int .i64 0) := g1
      have g2' : (w.drewN m).cell? ⟨D, 2, none⟩ = some (.int .i64 0) := g2
      have f1' : (w.drewN m).frozen? ⟨D, 1, none⟩ = false := f1
      clear HL
      go_wp2
      go_region
      all_goals
        go_wp2
        go_ret
        exact ⟨_, _, rfl, by omega, (fun e => by first | rfl | omega | cases e), (fun e => by omega), Rq.drewN HR.out (m + 1), Gro.drewN HG.out (m + 1)⟩
    | some ad =>
      obtain ⟨g', o', sp⟩ := ad
      clear hnil
      by_cases hc : cap = 0
      · subst hc
        go_enter Try.func86, Try.ntmps86
        go_wp2_with fail
        refine Calls.mono HL.out ?_
        rintro e w2 ⟨rfl, m, rfl⟩
        have g0' : (w.drewN m).cell? ⟨D, 0, none⟩ = some (.slice (some ⟨g', o', sp⟩) 0 0) := g0
        have g1' : (w.drewN m).cell? ⟨D, 1, none⟩ = some (.int .i64 0) := g1
        have g2' : (w.drewN m).cell? ⟨D, 2, none⟩ = some (.int .i64 0) := g2
        have f1' : (w.drewN m).frozen? ⟨D, 1, none⟩ = false := f1
        clear HL
        go_wp2
        go_region
        all_goals
          go_wp2
          go_ret
          exact ⟨_, _, rfl, by omega, (fun e => by first | rfl | omega | cases e), (fun e => by omega), Rq.drewN HR.out (m + 1), Gro.drewN HG.out (m + 1)⟩
      · have hc2 : 0 < cap := by omega
        go_enter Try.func86, Try.ntmps86
        go_wp2_with fail
        refine Calls.mono HL.out ?_
        rintro e w2 ⟨rfl, m, rfl⟩
        have g0' : (w.drewN m).cell? ⟨D, 0, none⟩ = some (.slice (some ⟨g', o', sp⟩) 0 cap) := g0
        have g1' : (w.drewN m).cell? ⟨D, 1, none⟩ = some (.int .i64 0) := g1
        have g2' : (w.drewN m).cell? ⟨D, 2, none⟩ = some (.int .i64 0) := g2
        have f1' : (w.drewN m).frozen? ⟨D, 1, none⟩ = false := f1
        clear HL
        go_wp2
        go_region
        all_goals
          go_wp2
          go_ret
          exact ⟨_, _, rfl, by omega, (fun e => by first | rfl | omega | cases e), (fun e => by omega), Rq.drewN HR.out (m + 1), Gro.drewN HG.out (m + 1)⟩
  by_cases hc : cap = a
  · obtain rfl : n = 0 := by omega
    obtain rfl : L = a := by omega
    subst hc
    go_enter Try.func86, Try.ntmps86
    go_wp2_with fail
    refine Calls.mono HL.out ?_
    rintro e w2 ⟨rfl, m, rfl⟩
    have g0' : (w.drewN m).cell? ⟨D, 0, none⟩ = some (.slice (some ⟨g, ao, none⟩) cap cap) := g0
    have g1' : (w.drewN m).cell? ⟨D, 1, none⟩ = some (.int .i64 (cap : Int)) := g1
    have g2' : (w.drewN m).cell? ⟨D, 2, none⟩ = some (.int .i64 0) := g2
    have f1' : (w.drewN m).frozen? ⟨D, 1, none⟩ = false := f1
    clear HL
    go_wp2
    go_region
    all_goals
      go_wp2
      go_ret
      exact ⟨_, _, rfl, by omega, (fun e => by first | omega | cases e), (fun e => by omega), Rq.drewN HR.out (m + 1), Gro.drewN HG.out (m + 1)⟩
  · have hc2 : a < cap := by omega
    go_enter Try.func86, Try.ntmps86
    go_wp2_with fail
    refine Calls.mono HL.out ?_
    rintro e w2 ⟨rfl, m, rfl⟩
    have g0' : (w.drewN m).cell? ⟨D, 0, none⟩ = some (.slice (some ⟨g, ao, none⟩) L cap) := g0
    have g1' : (w.drewN m).cell? ⟨D, 1, none⟩ = some (.int .i64 (a : Int)) := g1
    have g2' : (w.drewN m).cell? ⟨D, 2, none⟩ = some (.int .i64 0) := g2
    have f1' : (w.drewN m).frozen? ⟨D, 1, none⟩ = false := f1
    clear HL
    go_wp2
    go_region
    all_goals
      go_wp2
      go_ret
      refine ⟨some ⟨g, ao + a, none⟩, cap - a, ?_, by omega, (fun e => by cases e), (fun _ => rfl), Rq.drewN HR.out (m + 1), Gro.drewN HG.out (m + 1)⟩
      show Ending.returned (Value.slice (some ⟨g, ao + a, none⟩) (a + n - a) (cap - a)) = _
      rw [Nat.add_sub_cancel_left]

set_option maxRecDepth 100000 in
theorem qbyte_ok (D g : Nat) (A : Option Addr) (cap : Nat) (ao : Nat) (bs : List (BitVec 8)) (a : Nat) (hl : a < bs.length) (w : World) (h : Rq w D g A cap ao bs a 0) :
    Calls Try.prog 51 #[.pointer (some ⟨D, 0, none⟩)] w fun e w' => e = .returned (.int .u8 ((at8 bs a : Nat) : Int)) ∧ Rq w' D g A cap ao bs (a + 1) 0 ∧ Gp D w w' := by
  have HC : Hid _ := qfixed_ok D g A cap ao bs a 1 (by omega) w h
  have HL : Hid (a < bs.length) := hl
  clear h hl
  go_enter Try.func51, Try.ntmps51
  go_wp2_with fail
  refine Calls.mono HC.out ?_
  rintro e V ⟨A', c', rfl, hc', _, hA, hr, hg⟩
  obtain rfl := hA (by decide)
  have g2 := hr.row.cell 2 _ rfl
  have gb := hr.byte a HL.out
  have HR : Hid (Rq _ _ _ _ _ _ _ _ _) := hr
  have HG : Hid (Gro _ _ _) := hg
  clear hr hg hA HC
  go_wp2
  go_ret
  exact ⟨rfl, HR.out, HG.out⟩

set_option maxRecDepth 100000 in
theorem qbyte_short (D g : Nat) (A : Option Addr) (cap : Nat) (ao : Nat) (bs : List (BitVec 8)) (a : Nat) (hl : bs.length ≤ a) (w : World) (h : Rq w D g A cap ao bs a 0) :
    Calls Try.prog 51 #[.pointer (some ⟨D, 0, none⟩)] w fun e w' => e = .returned (.int .u8 0) ∧ Rq w' D g A cap ao bs a 31 ∧ Gp D w w' := by
  have HC : Hid _ := qfixed_short D g A cap ao bs a 1 (by omega) w h
  clear h hl
  go_enter Try.func51, Try.ntmps51
  go_wp2_with fail
  refine Calls.mono HC.out ?_
  rintro e V ⟨rfl, hr, hg⟩
  have g2 := hr.row.cell 2 _ rfl
  have HR : Hid (Rq _ _ _ _ _ _ _ _ _) := hr
  have HG : Hid (Gro _ _ _) := hg
  clear hr hg HC
  go_wp2
  go_ret
  exact ⟨rfl, HR.out, HG.out⟩

set_option maxRecDepth 100000 in
theorem qbyte_no (D g : Nat) (A : Option Addr) (cap : Nat) (ao : Nat) (bs : List (BitVec 8)) (a : Nat) (f : Int) (hf : ¬ f = 0) (w : World) (h : Rq w D g A cap ao bs a f) :
    Calls Try.prog 51 #[.pointer (some ⟨D, 0, none⟩)] w fun e w' => e = .returned (.int .u8 0) ∧ w' = w := by
  have HC : Hid _ := qfixed_no D g A cap ao bs a f hf 1 w h
  have g2 := h.row.cell 2 _ rfl
  clear h
  go_enter Try.func51, Try.ntmps51
  go_wp2_with fail
  refine Calls.mono HC.out ?_
  rintro e V ⟨rfl, rfl⟩
  clear HC
  go_wp2
  go_ret
  exact ⟨rfl, rfl⟩

end Go.Proofs.Ytfommclhnfcioaa
