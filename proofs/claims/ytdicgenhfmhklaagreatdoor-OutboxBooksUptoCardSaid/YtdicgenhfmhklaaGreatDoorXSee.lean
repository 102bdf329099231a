/-
  wire.Reader: seeNumber, seeCount, seeFlag, seeWide, whatever the bytes.
-/
import Derived.Test.YtdicgenhfmhklaaGreatDoorXMem
import Derived.Test.YtdicgenhfmhklaaGreatDoorXKnown
import Derived.WalkSmall
import Derived.Laws.Bits64

namespace Go.Proofs.YtdicgenhfmhklaaGreatDoor
open Go Go.RowKit
open Sha

--MATH
def at8 (bs : List (BitVec 8)) (i : Nat) : Nat := (bs.getD i 0).toNat
theorem at8_lt (bs : List (BitVec 8)) (i : Nat) : at8 bs i < 256 := (bs.getD i 0).isLt
/-- What is wrong with a number of at most so many bytes at a place (0: nothing). -/
def hiF (most : Nat) (bs : List (BitVec 8)) (a : Nat) : Int :=
  if bs.length ≤ a then 31 else if most < at8 bs a then 32 else if bs.length < a + 1 + at8 bs a then 31 else if 0 < at8 bs a ∧ at8 bs (a + 1) = 0 then 32 else 0
/-- Part j of the number whose last byte stands ahead of e, by its last t bytes. -/
def lb (bs : List (BitVec 8)) (e : Nat) (j : Nat) : Nat → Nat
  | 0 => 0
  | t + 1 => if t / 8 = j then lb bs e j t + at8 bs (e - 1 - t) * 256 ^ (t % 8) else lb bs e j t
/-- The number by its first i bytes, from s on. -/
def hv (bs : List (BitVec 8)) (s : Nat) : Nat → Nat
  | 0 => 0
  | i + 1 => 256 * hv bs s i + at8 bs (s + i)
theorem lb_none (bs : List (BitVec 8)) (e j : Nat) : ∀ t, t ≤ 8 * j → lb bs e j t = 0
  | 0, _ => rfl
  | t + 1, h => by
    have ih := lb_none bs e j t (by omega)
    simp only [lb]
    rw [if_neg (by omega), ih]
theorem lb_lt (bs : List (BitVec 8)) (e j : Nat) : ∀ t, 8 * j ≤ t → t ≤ 8 * j + 8 → lb bs e j t < 256 ^ (t - 8 * j)
  | 0, h1, _ => by simp [lb]
  | t + 1, h1, h2 => by
    by_cases ht : t + 1 = 8 * j
    · rw [lb_none bs e j (t + 1) (by omega)]; exact Nat.pow_pos (by decide)
    have ih := lb_lt bs e j t (by omega) (by omega)
    have h8 : t / 8 = j := by omega
    simp only [lb]
    rw [if_pos h8]
    have hm : t % 8 = t - 8 * j := by omega
    rw [hm, show t + 1 - 8 * j = (t - 8 * j) + 1 by omega, Nat.pow_succ]
    have hd := at8_lt bs (e - 1 - t)
    have : at8 bs (e - 1 - t) * 256 ^ (t - 8 * j) ≤ 255 * 256 ^ (t - 8 * j) := Nat.mul_le_mul_right _ (by omega)
    omega
theorem lb_stay (bs : List (BitVec 8)) (e j : Nat) : ∀ t, 8 * j + 8 ≤ t → lb bs e j t = lb bs e j (8 * j + 8)
  | 0, h => by omega
  | t + 1, h => by
    by_cases ht : t + 1 = 8 * j + 8
    · rw [ht]
    · have ih := lb_stay bs e j t (by omega)
      have e1 : lb bs e j (t + 1) = if t / 8 = j then lb bs e j t + at8 bs (e - 1 - t) * 256 ^ (t % 8) else lb bs e j t := rfl
      rw [e1, if_neg (by omega), ih]
theorem lb_64 (bs : List (BitVec 8)) (e j t : Nat) : lb bs e j t < 18446744073709551616 := by
  by_cases h1 : t ≤ 8 * j
  · rw [lb_none bs e j t h1]; decide
  · by_cases h2 : t ≤ 8 * j + 8
    · have := lb_lt bs e j t (by omega) h2
      have h3 : 256 ^ (t - 8 * j) ≤ 256 ^ 8 := Nat.pow_le_pow_right (by decide) (by omega)
      have h4 : (256 : Nat) ^ 8 = 18446744073709551616 := by decide
      omega
    · rw [lb_stay bs e j t (by omega)]
      have := lb_lt bs e j (8 * j + 8) (by omega) (by omega)
      rw [show 8 * j + 8 - 8 * j = 8 by omega] at this
      have h4 : (256 : Nat) ^ 8 = 18446744073709551616 := by decide
      omega
/-- Or is plus. -/
theorem lb_or (bs : List (BitVec 8)) (e j t : Nat) (h : t / 8 = j) : lb bs e j t ||| (at8 bs (e - 1 - t) * 2 ^ (t % 8 * 8)) = lb bs e j (t + 1) := by
  have h1 := lb_lt bs e j t (by omega) (by omega)
  have e1 : (2 : Nat) ^ (t % 8 * 8) = 256 ^ (t % 8) := by rw [Nat.mul_comm, Nat.pow_mul]
  simp only [lb]
  rw [if_pos h]
  have h2 : lb bs e j t < 2 ^ (t % 8 * 8) := by rw [e1, show t % 8 = t - 8 * j by omega]; exact h1
  have := Nat.shiftLeft_add_eq_or_of_lt h2 (at8 bs (e - 1 - t))
  rw [Nat.shiftLeft_eq] at this
  rw [Nat.or_comm, ← this, e1, Nat.add_comm]
theorem hv_front (bs : List (BitVec 8)) (s : Nat) : ∀ k, hv bs s (k + 1) = at8 bs s * 256 ^ k + hv bs (s + 1) k
  | 0 => by simp [hv]
  | k + 1 => by
    have ih := hv_front bs s k
    rw [show hv bs s (k + 1 + 1) = 256 * hv bs s (k + 1) + at8 bs (s + (k + 1)) from rfl, ih, show hv bs (s + 1) (k + 1) = 256 * hv bs (s + 1) k + at8 bs (s + 1 + k) from rfl]
    rw [Nat.pow_succ, Nat.mul_add, show s + (k + 1) = s + 1 + k by omega]
    have : 256 * (at8 bs s * 256 ^ k) = at8 bs s * (256 ^ k * 256) := by rw [Nat.mul_comm 256, Nat.mul_assoc]
    omega
theorem hv_lb (bs : List (BitVec 8)) : ∀ k s, k ≤ 8 → hv bs s k = lb bs (s + k) 0 k
  | 0, s, _ => rfl
  | k + 1, s, h => by
    have ih := hv_lb bs k (s + 1) (by omega)
    rw [hv_front, ih]
    simp only [lb]
    rw [if_pos (by omega), show s + (k + 1) - 1 - k = s by omega, show s + 1 + k = s + (k + 1) by omega, Nat.mod_eq_of_lt (show k < 8 by omega)]
    omega
/-- What is wrong with a number; its worth. -/
def nuW (bs : List (BitVec 8)) (a : Nat) : Nat := lb bs (a + 1 + at8 bs a) 0 (at8 bs a)
def nuE (bs : List (BitVec 8)) (a : Nat) : Int := if hiF 8 bs a = 0 then (if 9223372036854775807 < nuW bs a then 32 else 0) else hiF 8 bs a
theorem nu_top (bs : List (BitVec 8)) (a : Nat) (h8 : at8 bs a ≤ 8) : (9223372036854775807 < nuW bs a) ↔ (at8 bs a = 8 ∧ 127 < at8 bs (a + 1)) := by
  unfold nuW
  generalize hk : at8 bs a = k at *
  by_cases h : k = 8
  · subst h
    have h1 := lb_lt bs (a + 1 + 8) 0 7 (by omega) (by omega)
    rw [show lb bs (a + 1 + 8) 0 8 = lb bs (a + 1 + 8) 0 7 + at8 bs (a + 1) * 256 ^ 7 from by
      show (if 7 / 8 = 0 then _ else _) = _
      rw [if_pos (by decide), show a + 1 + 8 - 1 - 7 = a + 1 by omega]]
    have e7 : (256 : Nat) ^ 7 = 72057594037927936 := by decide
    rw [show 7 - 8 * 0 = 7 by omega, e7] at h1
    rw [e7]
    omega
  · have h1 := lb_lt bs (a + 1 + k) 0 k (by omega) (by omega)
    have h2 : 256 ^ (k - 8 * 0) ≤ 256 ^ 7 := Nat.pow_le_pow_right (by decide) (by omega)
    have e7 : (256 : Nat) ^ 7 = 72057594037927936 := by decide
    omega
--END

end Go.Proofs.YtdicgenhfmhklaaGreatDoor

namespace Go.Proofs.YtdicgenhfmhklaaGreatDoor
open Go Go.RowKit
open Sha

/-- A reader that has no fault. -/
structure Rg (w : World) (P : Nat) (A : Option Addr) (cap : Nat) (bs : List (BitVec 8)) (a : Nat) : Prop where
  row : Row w P [.slice A bs.length cap, .int .i64 (a : Int), .int .i64 0] 120
  bw : Bw w (.slice A bs.length cap) bs
  le : a ≤ bs.length
  len : bs.length ≤ 4194304
/-- A reader with a fault. -/
abbrev Rf (w : World) (P : Nat) (a : Nat) (f : Int) : Prop := Row w P [.slice none 0 0, .int .i64 (a : Int), .int .i64 f] 120
section
variable {w w' : World} {P cap a : Nat} {A : Option Addr} {bs : List (BitVec 8)}
theorem Rg.be (h : Rg w P A cap bs a) (k : Below w.heap.size w w') : Rg w' P A cap bs a := ⟨Row.below h.row k h.row.lt, Bw.be h.bw k, h.le, h.len⟩
theorem Rg.drewN (h : Rg w P A cap bs a) (m : Nat) : Rg (w.drewN m) P A cap bs a := ⟨h.row, h.bw, h.le, h.len⟩
theorem Rg.move (h : Rg w P A cap bs a) (b : Nat) (hb : b ≤ bs.length) : Rg (w.setCell ⟨P, 1, none⟩ (.int .i64 (b : Int))) P A cap bs b :=
  ⟨h.row.set 1 _, Bw.set_other h.bw (Bw.ne h.bw h.row (by decide)), hb, h.len⟩
theorem Rg.setNew (h : Rg w P A cap bs a) (q o : Nat) (v : Value) {cs : List Value} {t : TypeId} (hq : Row w q cs t) (h1 : t ≠ 120) (h2 : t ≠ 5) : Rg (w.setCell ⟨q, o, none⟩ v) P A cap bs a :=
  ⟨h.row.set_other q o v (row_ne h.row hq (Ne.symm h1)), Bw.set_other h.bw (Bw.ne h.bw hq h2), h.le, h.len⟩
theorem Rg.setsNew (h : Rg w P A cap bs a) (q o : Nat) (vs : List Value) {cs : List Value} {t : TypeId} (hq : Row w q cs t) (h1 : t ≠ 120) (h2 : t ≠ 5) : Rg (w.setCells q o vs) P A cap bs a :=
  ⟨Row.setCells_other h.row _ _ _ (row_ne h.row hq (Ne.symm h1)), Bw.block h.bw fun k e => heap_sets w q o _ k (Bw.ne h.bw hq h2 k e), h.le, h.len⟩
theorem Rg.byte (h : Rg w P A cap bs a) (i : Nat) (hi : i < bs.length) : ∃ g, A = some ⟨g, 0, none⟩ ∧ w.cell? ⟨g, i, none⟩ = some (.int .u8 (c (bs.getD i 0))) := by
  rcases Bw.sl h.bw with ⟨h0, _⟩ | ⟨ab, ao, c', hv, _, hr⟩
  · subst h0; simp at hi
  · simp only [Value.slice.injEq] at hv
    rcases h.bw.2 with ⟨q, _⟩ | ⟨g, _, _, hv2, _⟩
    · simp only [Value.slice.injEq] at q
      rw [q.1] at hv; cases hv.1
    · simp only [Value.slice.injEq] at hv2
      obtain ⟨e2, _, _⟩ := hv2
      obtain ⟨e1, _, _⟩ := hv
      rw [e2] at e1
      simp only [Option.some.injEq, Addr.mk.injEq] at e1
      obtain ⟨rfl, rfl, _⟩ := e1
      refine ⟨g, e2, ?_⟩
      have := hr i _ (vB_get bs i hi)
      simpa using this
theorem Rg.room (h : Rg w P A cap bs a) : bs.length ≤ cap ∧ (A = none → cap = 0 ∧ bs.length = 0) := by
  rcases h.bw.2 with ⟨q, q0⟩ | ⟨g', cap', cur, hv, _, _, hc, _⟩
  · simp only [Value.slice.injEq] at q
    exact ⟨by omega, fun _ => ⟨q.2.2, q.2.1⟩⟩
  · simp only [Value.slice.injEq] at hv
    exact ⟨by omega, fun e => by rw [hv.1] at e; cases e⟩
theorem Rg.lies (h : Rg w P A cap bs a) : A = none ∨ ∃ g, A = some ⟨g, 0, none⟩ := by
  rcases h.bw.2 with ⟨q, q0⟩ | ⟨g', cap', cur, hv, _, _, hc, _⟩
  · simp only [Value.slice.injEq] at q
    exact .inl q.1
  · simp only [Value.slice.injEq] at hv
    exact .inr ⟨g', hv.1⟩
end
abbrev GU : TypeId := 141
abbrev gu (e : Int) : List PanicEntry := [{ v := .iface GU (.int .i64 e), recovered := false }]

set_option maxRecDepth 100000 in
set_option maxHeartbeats 2000000 in
theorem next_no (P : Nat) (A : Option Addr) (cap : Nat) (bs : List (BitVec 8)) (a n : Nat) (ha : bs.length < a + n) (w : World) (h : Rg w P A cap bs a) :
    Calls Tryz.prog 95 #[.pointer (some ⟨P, 0, none⟩), .int .i64 (n : Int)] w fun e w' => e = .panicked (gu 31) ∧ ∃ m, w' = w.drewN m := by
  have HL : Hid _ := left_ok P A bs.length cap a h.le h.len 0 w h.row
  have c1 : ((bs.length : Int) - (a : Int) < (n : Int)) := by omega
  clear h
  generalize bs.length = L at *
  go_enter Tryz.func95, Tryz.ntmps95
  go_wp2_with fail
  refine Calls.mono HL.out ?_
  rintro e w1 ⟨rfl, m, rfl⟩
  clear HL
  go_wp2
  exact ⟨rfl, rfl, m, rfl⟩

set_option maxRecDepth 100000 in
set_option maxHeartbeats 2000000 in
theorem next_any (P : Nat) (A : Option Addr) (cap : Nat) (bs : List (BitVec 8)) (a n : Nat) (ha : a + n ≤ bs.length) (w : World) (h : Rg w P A cap bs a) :
    Calls Tryz.prog 95 #[.pointer (some ⟨P, 0, none⟩), .int .i64 (n : Int)] w fun e w' => ∃ A' c', e = .returned (.slice A' n c') ∧ n ≤ c' ∧ (A' = none → c' = 0) ∧ (0 < n → ∃ g, A = some ⟨g, 0, none⟩ ∧ A' = some ⟨g, a, none⟩) ∧ ∃ m, w' = (w.setCell ⟨P, 1, none⟩ (.int .i64 ((a + n : Nat) : Int))).drewN m := by
  have HL : Hid _ := left_ok P A bs.length cap a h.le h.len 0 w h.row
  obtain ⟨hcap, hnone⟩ := h.room
  have hlen := h.len
  have g1 := h.row.cell 1 _ rfl
  have f1 := h.row.thaw 1
  have g0 := h.row.cell 0 _ rfl
  have c1 : ¬ ((bs.length : Int) - (a : Int) < (n : Int)) := by omega
  have hwh := h.lies
  clear h
  generalize bs.length = L at *
  by_cases hc : cap = a
  · obtain rfl : n = 0 := by omega
    obtain rfl : L = a := by omega
    subst hc
    go_enter Tryz.func95, Tryz.ntmps95
    go_wp2_with fail
    refine Calls.mono HL.out ?_
    rintro e w1 ⟨rfl, m, rfl⟩
    have g1' : (w.drewN m).cell? ⟨P, 1, none⟩ = some (.int .i64 (cap : Int)) := g1
    have g0' : (w.drewN m).cell? ⟨P, 0, none⟩ = some (.slice A cap cap) := g0
    have f1' : (w.drewN m).frozen? ⟨P, 1, none⟩ = false := f1
    clear g1 g0 f1 HL hwh hnone
    go_wp2
    go_region
    all_goals
      go_wp2
      go_ret
      first
      | exact ⟨_, _, rfl, by omega, fun _ => by omega, fun h => by omega, m + 1, rfl⟩
  · obtain rfl | ⟨g, rfl⟩ := hwh
    · have := hnone rfl; omega
    clear hnone
    go_enter Tryz.func95, Tryz.ntmps95
    go_wp2_with fail
    refine Calls.mono HL.out ?_
    rintro e w1 ⟨rfl, m, rfl⟩
    have g1' : (w.drewN m).cell? ⟨P, 1, none⟩ = some (.int .i64 (a : Int)) := g1
    have g0' : (w.drewN m).cell? ⟨P, 0, none⟩ = some (.slice (some ⟨g, 0, none⟩) L cap) := g0
    have f1' : (w.drewN m).frozen? ⟨P, 1, none⟩ = false := f1
    clear g1 g0 f1 HL
    go_wp2
    go_region
    all_goals
      go_wp2
      go_ret
      refine ⟨some ⟨g, a, none⟩, cap - a, ?_, by omega, (fun h => by cases h), fun _ => ⟨g, rfl, rfl⟩, m + 1, rfl⟩
      show Ending.returned (Value.slice (some ⟨g, a, none⟩) (a + n - a) (cap - a)) = _
      rw [Nat.add_sub_cancel_left]

set_option maxRecDepth 100000 in
set_option maxHeartbeats 2000000 in
theorem seeByte_no (P : Nat) (A : Option Addr) (cap : Nat) (bs : List (BitVec 8)) (a : Nat) (ha : bs.length ≤ a) (w : World) (h : Rg w P A cap bs a) :
    Calls Tryz.prog 75 #[.pointer (some ⟨P, 0, none⟩)] w fun e w' => e = .panicked (gu 31) ∧ ∃ m, w' = w.drewN m := by
  have HN : Hid _ := next_no P A cap bs a 1 (by omega) w h
  clear h ha
  go_enter Tryz.func75, Tryz.ntmps75
  go_wp2_with fail
  refine Calls.mono HN.out ?_
  rintro e w1 ⟨rfl, m, hw⟩
  have HW : Hid _ := hw
  clear hw
  go_wp2_with fail
  exact ⟨rfl, rfl, m, HW.out⟩

set_option maxRecDepth 100000 in
set_option maxHeartbeats 2000000 in
theorem seeByte_any (P : Nat) (A : Option Addr) (cap : Nat) (bs : List (BitVec 8)) (a : Nat) (ha : a < bs.length) (w : World) (h : Rg w P A cap bs a) :
    Calls Tryz.prog 75 #[.pointer (some ⟨P, 0, none⟩)] w fun e w' => e = .returned (.int .u8 (c (bs.getD a 0))) ∧ ∃ m, w' = (w.setCell ⟨P, 1, none⟩ (.int .i64 ((a + 1 : Nat) : Int))).drewN m := by
  have HN : Hid _ := next_any P A cap bs a 1 (by omega) w h
  obtain ⟨g, rfl, hb⟩ := h.byte a ha
  have hne : g ≠ P := Bw.ne h.bw h.row (by decide) g rfl
  have HB : Hid (∀ m, ((w.setCell ⟨P, 1, none⟩ (.int .i64 ((a + 1 : Nat) : Int))).drewN m).cell? ⟨g, a, none⟩ = some (.int .u8 (c (bs.getD a 0)))) := fun m => by
    show (w.setCell ⟨P, 1, none⟩ _).cell? ⟨g, a, none⟩ = _
    rw [World.cell?_of_block (a := ⟨g, a, none⟩) (Below.heap_setCell w ⟨P, 1, none⟩ _ g hne)]
    exact hb
  generalize bs.getD a 0 = x at *
  clear h hb hne
  go_enter Tryz.func75, Tryz.ntmps75
  go_wp2_with fail
  refine Calls.mono HN.out ?_
  rintro e w1 ⟨A', c', rfl, hc', _, hA', m, hw1⟩
  obtain ⟨g', e1, rfl⟩ := hA' (by decide)
  simp only [Option.some.injEq, Addr.mk.injEq] at e1
  obtain ⟨rfl, _⟩ := e1
  have gb := HB.out m
  rw [← hw1] at gb
  have HW : Hid (w1 = (w.setCell ⟨P, 1, none⟩ (.int .i64 ((a + 1 : Nat) : Int))).drewN m) := hw1
  clear hw1 HN HB hA'
  go_wp2
  go_ret
  exact ⟨rfl, m, HW.out⟩

end Go.Proofs.YtdicgenhfmhklaaGreatDoor

namespace Go.Proofs.YtdicgenhfmhklaaGreatDoor
open Go Go.RowKit
open Sha

/-- The reader's own block alone turns. -/
abbrev Gp (P : Nat) : World → World → Prop := Gro (fun k => k = P)
/-- A look gave up. -/
def Gave (w w' : World) (P : Nat) (A : Option Addr) (cap : Nat) (bs : List (BitVec 8)) : Prop := (∃ b, Rg w' P A cap bs b) ∧ Gp P w w'
theorem c_at8 (bs : List (BitVec 8)) (i : Nat) : c (bs.getD i 0) = (at8 bs i : Int) := rfl
def qd (bs : List (BitVec 8)) (e t : Nat) : List Value := q4 (lb bs e 0 t) (lb bs e 1 t) (lb bs e 2 t) (lb bs e 3 t)
theorem qd_get (bs : List (BitVec 8)) (e t j : Nat) (h : j < 4) : (qd bs e t)[j]? = some (.int .u64 ((lb bs e j t : Nat) : Int)) := by
  rcases (show j = 0 ∨ j = 1 ∨ j = 2 ∨ j = 3 by omega) with rfl | rfl | rfl | rfl <;> rfl
theorem lb_other (bs : List (BitVec 8)) (e t j : Nat) (h : ¬ t / 8 = j) : lb bs e j (t + 1) = lb bs e j t := by simp only [lb]; rw [if_neg h]
theorem qd_step (bs : List (BitVec 8)) (e t : Nat) (h : t / 8 < 4) : (qd bs e t).set (t / 8) (.int .u64 ((lb bs e (t / 8) (t + 1) : Nat) : Int)) = qd bs e (t + 1) := by
  generalize hj : t / 8 = j at *
  rcases (show j = 0 ∨ j = 1 ∨ j = 2 ∨ j = 3 by omega) with rfl | rfl | rfl | rfl
  · unfold qd; rw [lb_other bs e t 1 (by omega), lb_other bs e t 2 (by omega), lb_other bs e t 3 (by omega)]; rfl
  · unfold qd; rw [lb_other bs e t 0 (by omega), lb_other bs e t 2 (by omega), lb_other bs e t 3 (by omega)]; rfl
  · unfold qd; rw [lb_other bs e t 0 (by omega), lb_other bs e t 1 (by omega), lb_other bs e t 3 (by omega)]; rfl
  · unfold qd; rw [lb_other bs e t 0 (by omega), lb_other bs e t 1 (by omega), lb_other bs e t 2 (by omega)]; rfl
theorem qd_one (bs : List (BitVec 8)) (e t : Nat) : ∀ v ∈ qd bs e t, v.oneCell' = true := q4_one _ _ _ _
theorem Gp.set {w W : World} {P : Nat} (h : Gp P w W) (o : Nat) (v : Value) : Gp P w (W.setCell ⟨P, o, none⟩ v) := Gro.set h P o v rfl

set_option maxRecDepth 100000 in
set_option maxHeartbeats 4000000 in
theorem seeDigits_no (P : Nat) (A : Option Addr) (cap : Nat) (bs : List (BitVec 8)) (a most : Nat) (f : Int) (hf : hiF most bs a = f) (h0 : ¬ f = 0) (w : World) (h : Rg w P A cap bs a) :
    Calls Tryz.prog 97 #[.pointer (some ⟨P, 0, none⟩), .int .i64 (most : Int)] w fun e w' => e = .panicked (gu f) ∧ Gave w w' P A cap bs := by
  have b0 : Below w.heap.size w (w.alloc (Obj.cells q4z.toArray 38)) := (Below.refl _ _).alloc (Nat.le_refl _) _
  replace h := h.be b0
  have hg : Gp P w (w.alloc (Obj.cells q4z.toArray 38)) := Gro.of_below b0
  clear b0
  generalize hX : w.alloc (Obj.cells q4z.toArray 38) = X at *
  unfold hiF at hf
  by_cases h1 : bs.length ≤ a
  · rw [if_pos h1] at hf
    subst hf
    have HN : Hid _ := seeByte_no P A cap bs a h1 X h
    have H : Hid (Rg X P A cap bs a) := h
    have HG : Hid (Gro _ _ _) := hg
    clear h hg h1
    go_enter Tryz.func97, Tryz.ntmps97
    go_wp2_with fail
    rw [show w.alloc (Obj.cells #[Value.int IntKind.u64 0, Value.int IntKind.u64 0, Value.int IntKind.u64 0, Value.int IntKind.u64 0] 38) = X from hX]
    refine Calls.mono HN.out ?_
    rintro e w1 ⟨rfl, m, hw⟩
    have HW : Hid _ := hw
    clear hw
    go_wp2_with fail
    exact ⟨rfl, rfl, by rw [HW.out]; exact ⟨⟨a, Rg.drewN H.out m⟩, Gro.drewN HG.out m⟩⟩
  rw [if_neg h1] at hf
  have HN : Hid _ := seeByte_any P A cap bs a (by omega) X h
  have hk : at8 bs a < 256 := at8_lt bs a
  rw [c_at8] at HN
  have HM : Hid (∀ m, Rg ((X.setCell ⟨P, 1, none⟩ (.int .i64 ((a + 1 : Nat) : Int))).drewN m) P A cap bs (a + 1) ∧ Gp P w ((X.setCell ⟨P, 1, none⟩ (.int .i64 ((a + 1 : Nat) : Int))).drewN m)) := fun m => ⟨(h.move (a + 1) (by omega)).drewN m, (Gp.set hg 1 _).drewN m⟩
  generalize hkk : at8 bs a = k at *
  clear h hg h1
  by_cases h2 : most < k
  · rw [if_pos h2] at hf
    subst hf
    have c1 : (most : Int) < (k : Int) := by omega

    go_enter Tryz.func97, Tryz.ntmps97
    go_wp2_with fail
    rw [show w.alloc (Obj.cells #[Value.int IntKind.u64 0, Value.int IntKind.u64 0, Value.int IntKind.u64 0, Value.int IntKind.u64 0] 38) = X from hX]
    refine Calls.mono HN.out ?_
    rintro e w1 ⟨rfl, m, hw⟩
    have H1 : Hid (Rg w1 P A cap bs (a + 1) ∧ Gp P w w1) := by rw [hw]; exact HM.out m
    clear hw HM HN
    go_wp2_with fail
    exact ⟨rfl, rfl, ⟨_, H1.out.1⟩, H1.out.2⟩
  rw [if_neg h2] at hf
  have c1 : ¬ (most : Int) < (k : Int) := by omega
  by_cases h3 : bs.length < a + 1 + k
  · rw [if_pos h3] at hf
    subst hf
    have H3 : Hid (bs.length < a + 1 + k) := h3
    clear h3
    go_enter Tryz.func97, Tryz.ntmps97
    go_wp2_with fail
    rw [show w.alloc (Obj.cells #[Value.int IntKind.u64 0, Value.int IntKind.u64 0, Value.int IntKind.u64 0, Value.int IntKind.u64 0] 38) = X from hX]
    refine Calls.mono HN.out ?_
    rintro e w1 ⟨rfl, m, hw⟩
    have H1 : Hid (Rg w1 P A cap bs (a + 1) ∧ Gp P w w1) := by rw [hw]; exact HM.out m
    clear hw HM HN
    go_wp2_with fail
    refine Calls.mono (next_no P A cap bs (a + 1) k H3.out w1 H1.out.1) ?_
    rintro e w2 ⟨rfl, m2, hw⟩
    have HW : Hid _ := hw
    clear hw
    go_wp2_with fail
    exact ⟨rfl, rfl, by rw [HW.out]; exact ⟨⟨a + 1, Rg.drewN H1.out.1 m2⟩, Gro.drewN H1.out.2 m2⟩⟩
  rw [if_neg h3] at hf
  by_cases h4 : 0 < k ∧ at8 bs (a + 1) = 0
  · rw [if_pos h4] at hf
    subst hf
    obtain ⟨h5, h6⟩ := h4
    have H3 : Hid (a + 1 + k ≤ bs.length) := by show _ ≤ _; omega
    have H6 : Hid (at8 bs (a + 1) = 0) := h6
    have c5 : (0 : Int) < (k : Int) := by omega
    clear h3 h6
    go_enter Tryz.func97, Tryz.ntmps97
    go_wp2_with fail
    rw [show w.alloc (Obj.cells #[Value.int IntKind.u64 0, Value.int IntKind.u64 0, Value.int IntKind.u64 0, Value.int IntKind.u64 0] 38) = X from hX]
    refine Calls.mono HN.out ?_
    rintro e w1 ⟨rfl, m, hw⟩
    have H1 : Hid (Rg w1 P A cap bs (a + 1) ∧ Gp P w w1) := by rw [hw]; exact HM.out m
    clear hw HM HN
    go_wp2_with fail
    refine Calls.mono (next_any P A cap bs (a + 1) k H3.out w1 H1.out.1) ?_
    rintro e w2 ⟨A', c', rfl, hc', _, hA', m2, hw⟩
    obtain ⟨g, rfl, rfl⟩ := hA' h5
    have HQ : Hid (Rg w2 P (some ⟨g, 0, none⟩) cap bs (a + 1 + k) ∧ Gp P w w2) := by rw [hw]; exact ⟨(H1.out.1.move _ H3.out).drewN m2, (Gp.set H1.out.2 1 _).drewN m2⟩
    obtain ⟨g', e1, gb⟩ := HQ.out.1.byte (a + 1) (by have := H3.out; omega)
    simp only [Option.some.injEq, Addr.mk.injEq] at e1
    obtain ⟨rfl, _⟩ := e1
    rw [c_at8, H6.out] at gb
    clear hw H1 hA'
    go_wp2
    exact ⟨rfl, rfl, ⟨_, HQ.out.1⟩, HQ.out.2⟩
  · rw [if_neg h4] at hf
    exact absurd hf.symm h0

end Go.Proofs.YtdicgenhfmhklaaGreatDoor

namespace Go.Proofs.YtdicgenhfmhklaaGreatDoor
open Go Go.RowKit
open Sha

theorem hiF_ok {most : Nat} {bs : List (BitVec 8)} {a : Nat} (h : hiF most bs a = 0) : a < bs.length ∧ at8 bs a ≤ most ∧ a + 1 + at8 bs a ≤ bs.length ∧ (0 < at8 bs a → at8 bs (a + 1) ≠ 0) := by
  unfold hiF at h
  by_cases h1 : bs.length ≤ a
  · rw [if_pos h1] at h; cases h
  rw [if_neg h1] at h
  by_cases h2 : most < at8 bs a
  · rw [if_pos h2] at h; cases h
  rw [if_neg h2] at h
  by_cases h3 : bs.length < a + 1 + at8 bs a
  · rw [if_pos h3] at h; cases h
  rw [if_neg h3] at h
  by_cases h4 : 0 < at8 bs a ∧ at8 bs (a + 1) = 0
  · rw [if_pos h4] at h; cases h
  exact ⟨by omega, by omega, by omega, fun q e => h4 ⟨q, e⟩⟩

theorem wrap64_nat (n : Nat) (h : n < 18446744073709551616) : IntKind.u64.wrap (n : Int) = (n : Int) := by
  rw [IntKind.wrap_u64]
  omega
theorem bits_or (x y : Nat) (hx : x < 18446744073709551616) (hy : y < 18446744073709551616) : bits BinOp.or IntKind.u64 (x : Int) (y : Int) = ((x ||| y : Nat) : Int) := by
  have e : ∀ n : Nat, n < 18446744073709551616 → (BitVec.ofInt IntKind.u64.bits (n : Int)).toNat = n := fun n h => by
    show (BitVec.ofInt 64 (n : Int)).toNat = n
    rw [BitVec.toNat_ofInt]
    have e2 : ((2 ^ 64 : Nat) : Int) = 18446744073709551616 := by decide
    omega
  show IntKind.u64.wrap (((BitVec.ofInt IntKind.u64.bits (x : Int)) ||| (BitVec.ofInt IntKind.u64.bits (y : Int))).toNat : Int) = _
  rw [BitVec.toNat_or, e x hx, e y hy]
  exact wrap64_nat _ (Nat.or_lt_two_pow (n := 64) hx hy)
/-- A byte shifted, or'd. -/
theorem or_lb (bs : List (BitVec 8)) (e t : Nat) : bits BinOp.or IntKind.u64 ((lb bs e (t / 8) t : Nat) : Int) (IntKind.u64.wrap (((at8 bs (e - 1 - t) : Nat) : Int) * 2 ^ (t % 8 * 8))) = ((lb bs e (t / 8) (t + 1) : Nat) : Int) := by
  have h8 := at8_lt bs (e - 1 - t)
  have hp : (2 : Nat) ^ (t % 8 * 8) ≤ 2 ^ 56 := Nat.pow_le_pow_right (by decide) (by omega)
  have h56 : (2 : Nat) ^ 56 = 72057594037927936 := by decide
  have hm : at8 bs (e - 1 - t) * 2 ^ (t % 8 * 8) < 18446744073709551616 := by
    have h1 : at8 bs (e - 1 - t) * 2 ^ (t % 8 * 8) ≤ 255 * 2 ^ 56 := Nat.mul_le_mul (by omega) hp
    omega
  have ec : ((at8 bs (e - 1 - t) : Nat) : Int) * 2 ^ (t % 8 * 8) = ((at8 bs (e - 1 - t) * 2 ^ (t % 8 * 8) : Nat) : Int) := by norm_cast
  rw [ec, wrap64_nat _ hm, bits_or _ _ (lb_64 _ _ _ _) hm, lb_or bs e (t / 8) t rfl]

set_option maxRecDepth 100000 in
set_option maxHeartbeats 4000000 in
theorem seeDigits_any (P : Nat) (A : Option Addr) (cap : Nat) (bs : List (BitVec 8)) (a most : Nat) (hm : most ≤ 32) (hf : hiF most bs a = 0) (k : Nat) (hk : at8 bs a = k) (w : World) (h : Rg w P A cap bs a) :
    Calls Tryz.prog 97 #[.pointer (some ⟨P, 0, none⟩), .int .i64 (most : Int)] w fun e w' => e = .returned (.agg (qd bs (a + 1 + k) k).toArray) ∧ Rg w' P A cap bs (a + 1 + k) ∧ Gp P w w' := by
  obtain ⟨h1, h2, h3, h4⟩ := hiF_ok hf
  rw [hk] at h2 h3 h4
  have b0 : Below w.heap.size w (w.alloc (Obj.cells q4z.toArray 38)) := (Below.refl _ _).alloc (Nat.le_refl _) _
  have r0 : Row (w.alloc (Obj.cells q4z.toArray 38)) w.heap.size q4z 38 := Row.new' rfl rfl
  replace h := h.be b0
  have hg : Gp P w (w.alloc (Obj.cells q4z.toArray 38)) := Gro.of_below b0
  clear b0
  generalize hX : w.alloc (Obj.cells q4z.toArray 38) = X at *
  have HN : Hid _ := seeByte_any P A cap bs a h1 X h
  rw [c_at8, hk] at HN
  have HM : Hid (∀ m, Rg ((X.setCell ⟨P, 1, none⟩ (.int .i64 ((a + 1 : Nat) : Int))).drewN m) P A cap bs (a + 1) ∧ Gp P w ((X.setCell ⟨P, 1, none⟩ (.int .i64 ((a + 1 : Nat) : Int))).drewN m) ∧ Row ((X.setCell ⟨P, 1, none⟩ (.int .i64 ((a + 1 : Nat) : Int))).drewN m) w.heap.size q4z 38) := fun m => ⟨(h.move (a + 1) (by omega)).drewN m, (Gp.set hg 1 _).drewN m, (r0.set_other P 1 _ (row_ne r0 h.row (by decide))).drewN m⟩
  have c1 : ¬ (most : Int) < (k : Int) := by omega
  have k32 : k ≤ 32 := by omega
  have H3 : Hid (a + 1 + k ≤ bs.length) := h3
  have H4 : Hid (0 < k → at8 bs (a + 1) ≠ 0) := h4
  clear h hg h1 h2 h3 h4 hf hk hm r0
  go_enter Tryz.func97, Tryz.ntmps97
  go_wp2_with fail
  rw [show w.alloc (Obj.cells #[Value.int IntKind.u64 0, Value.int IntKind.u64 0, Value.int IntKind.u64 0, Value.int IntKind.u64 0] 38) = X from hX]
  clear hX
  refine Calls.mono HN.out ?_
  rintro e w1 ⟨rfl, m, hw⟩
  have H1 : Hid (Rg w1 P A cap bs (a + 1) ∧ Gp P w w1 ∧ Row w1 w.heap.size q4z 38) := by rw [hw]; exact HM.out m
  clear hw HM HN
  go_wp2_with fail
  refine Calls.mono (next_any P A cap bs (a + 1) k H3.out w1 H1.out.1) ?_
  rintro e W2 ⟨A', c', rfl, hc', hnil, hA', m2, hw⟩
  have HQ : Hid (Rg W2 P A cap bs (a + 1 + k) ∧ Gp P w W2 ∧ Row W2 w.heap.size q4z 38) := by
    rw [hw]; exact ⟨(H1.out.1.move _ H3.out).drewN m2, (Gp.set H1.out.2.1 1 _).drewN m2, (Row.set_other H1.out.2.2 P 1 _ (row_ne H1.out.2.2 H1.out.1.row (by decide))).drewN m2⟩
  clear hw H1
  have HN : Hid (w.heap.size < W2.heap.size) := Row.lt HQ.out.2.2
  have b2 : Below W2.heap.size W2 (W2.alloc (Obj.cells q4z.toArray 38)) := (Below.refl _ _).alloc (Nat.le_refl _) _
  have HR3 : Hid (Rg (W2.alloc (Obj.cells q4z.toArray 38)) P A cap bs (a + 1 + k)) := HQ.out.1.be b2
  have R03 : Hid (Row (W2.alloc (Obj.cells q4z.toArray 38)) w.heap.size q4z 38) := Row.below HQ.out.2.2 b2 (Row.lt HQ.out.2.2)
  have R73 : Hid (Row (W2.alloc (Obj.cells q4z.toArray 38)) W2.heap.size q4z 38) := Row.new' rfl rfl
  have HG3 : Hid (Gp P w (W2.alloc (Obj.cells q4z.toArray 38))) := HQ.out.2.1.below b2
  clear b2
  have HA : Hid (0 < k → ∃ g, A = some ⟨g, 0, none⟩ ∧ A' = some ⟨g, a + 1, none⟩) := hA'
  have cs : ¬ (0 : Int) < (k : Int) ∨ ((0 : Int) < (k : Int) ∧ ∃ g, A' = some ⟨g, a + 1, none⟩ ∧ ∃ x : Int, ¬ x = 0 ∧ W2.cell? ⟨g, a + 1, none⟩ = some (.int .u8 x)) := by
    by_cases hk : 0 < k
    · obtain ⟨g, hA, hA2⟩ := hA' hk
      obtain ⟨g', e1, gb⟩ := HQ.out.1.byte (a + 1) (by have := H3.out; omega)
      rw [hA] at e1
      simp only [Option.some.injEq, Addr.mk.injEq] at e1
      obtain ⟨rfl, _⟩ := e1
      exact .inr ⟨by omega, g, hA2, _, by rw [c_at8]; have := H4.out hk; omega, gb⟩
    · exact .inl (by omega)
  clear hA' HQ
  rcases cs with ck | ⟨ck, g, rfl, x, hx, gb⟩
  · have GB : True := trivial
    go_wp2
    go_loopw [8, 29] (fun _ i wr => ∃ t : Nat, t ≤ k ∧ i = .int .i64 (t : Int) ∧ Rg wr P A cap bs (a + 1 + k) ∧ Row wr w.heap.size q4z 38 ∧ Row wr W2.heap.size (qd bs (a + 1 + k) t) 38 ∧ Gp P w wr) (fun _ i _ => k - (intOf i).toNat)
    case atStart => exact ⟨0, Nat.zero_le _, rfl, HR3.out, R03.out, R73.out, HG3.out⟩
    case round =>
      clear HR3 R03 R73 HG3 GB
      obtain ⟨t, ht, rfl, hr, r0, r7, hg⟩ := hrel
      by_cases hlt : t < k
      · exact absurd hlt (by omega)
      · obtain rfl : t = k := by omega
        generalize hq : qd bs (a + 1 + t) t = cs at *
        have hcl : cs.length = 4 := by rw [← hq]; rfl
        have hone : cs.toArray.all (·.oneCell') = true := by rw [← hq]; exact all_oneCell_toArray (qd_one _ _ _)
        have hi : (Tryz.prog.info? 38).map (·.size) = some cs.length := by rw [info_q, hcl]
        have hi' : (Tryz.prog.info? 38).map (·.size) = some cs.toArray.size := by rw [info_q, List.size_toArray, hcl]
        have T0 := r0.there 0 cs.toArray.size (by rw [List.size_toArray, hcl]; decide)
        have nf := r0.over (vs := cs) (by rw [hcl]; rfl)
        have nr := hr.setsNew w.heap.size 0 cs r0 (by decide) (by decide)
        have ng : Gp P w (wr.setCells w.heap.size 0 cs) := by
          have k := below_setCells (Below.refl 0 wr) (b := w.heap.size) (o := 0) (Nat.zero_le _) cs
          exact ⟨k.os.trans hg.os, k.tape.trans hg.tape, k.output.trans hg.output, Nat.le_trans hg.size k.size, fun i hi hn => (heap_sets wr w.heap.size 0 _ i (by omega)).trans (hg.block i hi hn)⟩
        have HQ : Hid (qd bs (a + 1 + t) t = cs) := hq
        have HT : Hid _ := T0
        have HI : Hid _ := hi
        have HI' : Hid _ := hi'
        have HL : Hid (cs.length = 4) := hcl
        have HO : Hid _ := hone
        have NF : Hid _ := nf
        have NR : Hid (Rg _ _ _ _ _ _) := nr
        have NG : Hid (Gro _ _ _) := ng
        have R7 : Hid _ := r7
        clear T0 nf nr ng hr r0 r7 hg hi hi' hone hcl hq
        go_wp2_with (first
          | (refine wpList_load_w rfl 38 (.tmp 7) rfl W2.heap.size 0 rfl cs _ (Row.all R7.out) Tryz.underlying38 rfl HI.out ?_; simp only [Act.put, List.setIfInBounds_toArray, List.set_cons_zero, List.set_cons_succ])
          | (refine wpList_store_mid rfl 38 (.tmp 4) (.tmp 51) rfl w.heap.size 0 cs.toArray rfl rfl HT.out HI'.out HO.out ?_; simp only [Act.put]; (change wpList _ _ _ _ _ (World.setCells wr w.heap.size 0 cs))))
        exact bodyPost_ret (results_row Tryz.results97 _ _ w.heap.size 38 cs rfl NF.out Tryz.underlying38 info_q HL.out) rfl ⟨by rw [HQ.out], NR.out, NG.out⟩

  · have GB : True := trivial
    go_wp2
    go_loopw [8, 29] (fun _ i wr => ∃ t : Nat, t ≤ k ∧ i = .int .i64 (t : Int) ∧ Rg wr P A cap bs (a + 1 + k) ∧ Row wr w.heap.size q4z 38 ∧ Row wr W2.heap.size (qd bs (a + 1 + k) t) 38 ∧ Gp P w wr) (fun _ i _ => k - (intOf i).toNat)
    case atStart => exact ⟨0, Nat.zero_le _, rfl, HR3.out, R03.out, R73.out, HG3.out⟩
    case round =>
      clear HR3 R03 R73 HG3 GB gb
      obtain ⟨t, ht, rfl, hr, r0, r7, hg⟩ := hrel
      by_cases hlt : t < k
      · obtain ⟨u, hu⟩ : ∃ u : Nat, (k : Int) - 1 - (t : Int) = (u : Int) := ⟨k - 1 - t, by omega⟩
        have t8 : t / 8 < 4 := by omega
        obtain ⟨g', e1, gb'⟩ := hr.byte (a + 1 + u) (by have := H3.out; omega)
        obtain ⟨g2, e2, e3⟩ := HA.out (by omega)
        rw [e2] at e1
        simp only [Option.some.injEq, Addr.mk.injEq, and_true] at e1 e3
        have eg : g' = g := by rw [← e1, e3]
        subst eg
        have gb : wr.cell? ⟨g', a + 1 + u, none⟩ = some (.int .u8 (at8 bs (a + 1 + u) : Int)) := gb'
        have g7 := r7.cell (t / 8) _ (qd_get bs (a + 1 + k) t (t / 8) t8)
        have f7 := r7.thaw (t / 8)
        have q7 := r7.set (t / 8) (.int .u64 ((lb bs (a + 1 + k) (t / 8) (t + 1) : Nat) : Int))
        have q0 := r0.set_other W2.heap.size (t / 8) (.int .u64 ((lb bs (a + 1 + k) (t / 8) (t + 1) : Nat) : Int)) (by have := HN.out; omega)
        have qr := hr.setNew W2.heap.size (t / 8) (.int .u64 ((lb bs (a + 1 + k) (t / 8) (t + 1) : Nat) : Int)) r7 (by decide) (by decide)
        have qg := hg.setNew W2.heap.size (t / 8) (.int .u64 ((lb bs (a + 1 + k) (t / 8) (t + 1) : Nat) : Int)) (by have := HN.out; omega)
        rw [qd_step bs (a + 1 + k) t t8] at q7
        have eu : a + 1 + u = a + 1 + k - 1 - t := by omega
        have EX := or_lb bs (a + 1 + k) t
        rw [← eu] at EX
        have B8 := at8_lt bs (a + 1 + u)
        generalize at8 bs (a + 1 + u) = x at *
        generalize lb bs (a + 1 + k) (t / 8) (t + 1) = y at *
        generalize lb bs (a + 1 + k) (t / 8) t = z at *
        have EX' : Hid _ := EX
        have Q7 : Hid _ := q7
        have Q0 : Hid _ := q0
        have QR : Hid (Rg _ _ _ _ _ _) := qr
        have QG : Hid (Gro _ _ _) := qg
        have HUK : Hid (u + t + 1 = k) := by show _ = _; omega
        clear q7 q0 qr qg hr r0 r7 hg gb' e1 e3 e2 HA H4 EX eu
        go_wp2
        go_region
        rw [EX'.out]
        go_wp2
        exact ⟨⟨t + 1, hlt, by go_num, Rg.drewN QR.out 1, Q0.out, Q7.out, Gro.drewN QG.out 1⟩, by simp [intOf]; omega⟩
      · obtain rfl : t = k := by omega
        generalize hq : qd bs (a + 1 + t) t = cs at *
        have hcl : cs.length = 4 := by rw [← hq]; rfl
        have hone : cs.toArray.all (·.oneCell') = true := by rw [← hq]; exact all_oneCell_toArray (qd_one _ _ _)
        have hi : (Tryz.prog.info? 38).map (·.size) = some cs.length := by rw [info_q, hcl]
        have hi' : (Tryz.prog.info? 38).map (·.size) = some cs.toArray.size := by rw [info_q, List.size_toArray, hcl]
        have T0 := r0.there 0 cs.toArray.size (by rw [List.size_toArray, hcl]; decide)
        have nf := r0.over (vs := cs) (by rw [hcl]; rfl)
        have nr := hr.setsNew w.heap.size 0 cs r0 (by decide) (by decide)
        have ng : Gp P w (wr.setCells w.heap.size 0 cs) := by
          have k := below_setCells (Below.refl 0 wr) (b := w.heap.size) (o := 0) (Nat.zero_le _) cs
          exact ⟨k.os.trans hg.os, k.tape.trans hg.tape, k.output.trans hg.output, Nat.le_trans hg.size k.size, fun i hi hn => (heap_sets wr w.heap.size 0 _ i (by omega)).trans (hg.block i hi hn)⟩
        have HQ : Hid (qd bs (a + 1 + t) t = cs) := hq
        have HT : Hid _ := T0
        have HI : Hid _ := hi
        have HI' : Hid _ := hi'
        have HL : Hid (cs.length = 4) := hcl
        have HO : Hid _ := hone
        have NF : Hid _ := nf
        have NR : Hid (Rg _ _ _ _ _ _) := nr
        have NG : Hid (Gro _ _ _) := ng
        have R7 : Hid _ := r7
        clear T0 nf nr ng hr r0 r7 hg hi hi' hone hcl hq
        go_wp2_with (first
          | (refine wpList_load_w rfl 38 (.tmp 7) rfl W2.heap.size 0 rfl cs _ (Row.all R7.out) Tryz.underlying38 rfl HI.out ?_; simp only [Act.put, List.setIfInBounds_toArray, List.set_cons_zero, List.set_cons_succ])
          | (refine wpList_store_mid rfl 38 (.tmp 4) (.tmp 51) rfl w.heap.size 0 cs.toArray rfl rfl HT.out HI'.out HO.out ?_; simp only [Act.put]; (change wpList _ _ _ _ _ (World.setCells wr w.heap.size 0 cs))))
        exact bodyPost_ret (results_row Tryz.results97 _ _ w.heap.size 38 cs rfl NF.out Tryz.underlying38 info_q HL.out) rfl ⟨by rw [HQ.out], NR.out, NG.out⟩

end Go.Proofs.YtdicgenhfmhklaaGreatDoor

namespace Go.Proofs.YtdicgenhfmhklaaGreatDoor
open Go Go.RowKit
open Sha

theorem Gave.of {w w' : World} {P : Nat} {A : Option Addr} {cap : Nat} {bs : List (BitVec 8)} {b : Nat} (h : Rg w' P A cap bs b) (g : Gp P w w') : Gave w w' P A cap bs := ⟨⟨b, h⟩, g⟩
theorem nuE_ok {bs : List (BitVec 8)} {a : Nat} (h : nuE bs a = 0) : hiF 8 bs a = 0 ∧ nuW bs a ≤ 9223372036854775807 := by
  unfold nuE at h
  by_cases h1 : hiF 8 bs a = 0
  · rw [if_pos h1] at h
    by_cases h2 : 9223372036854775807 < nuW bs a
    · rw [if_pos h2] at h; cases h
    · exact ⟨h1, by omega⟩
  · rw [if_neg h1] at h
    exact absurd h h1

set_option maxRecDepth 100000 in
set_option maxHeartbeats 2000000 in
theorem seeNumber_no (P : Nat) (A : Option Addr) (cap : Nat) (bs : List (BitVec 8)) (a : Nat) (f : Int) (hf : nuE bs a = f) (h0 : ¬ f = 0) (w : World) (h : Rg w P A cap bs a) :
    Calls Tryz.prog 77 #[.pointer (some ⟨P, 0, none⟩)] w fun e w' => e = .panicked (gu f) ∧ Gave w w' P A cap bs := by
  unfold nuE at hf
  by_cases h1 : hiF 8 bs a = 0
  · rw [if_pos h1] at hf
    by_cases h2 : 9223372036854775807 < nuW bs a
    · rw [if_pos h2] at hf
      subst hf
      have HD : Hid _ := seeDigits_any P A cap bs a 8 (by decide) h1 _ rfl w h
      have hn : (9223372036854775807 : Int) < ((nuW bs a : Nat) : Int) := by omega
      have E0 : Hid ((qd bs (a + 1 + at8 bs a) (at8 bs a))[0]? = some (.int .u64 ((nuW bs a : Nat) : Int))) := rfl
      have HL : Hid ((qd bs (a + 1 + at8 bs a) (at8 bs a)).length = 4) := rfl
      have HO : Hid ((qd bs (a + 1 + at8 bs a) (at8 bs a)).toArray.all (·.oneCell') = true) := all_oneCell_toArray (qd_one _ _ _)
      generalize qd bs (a + 1 + at8 bs a) (at8 bs a) = cs at *
      generalize nuW bs a = n at *
      generalize a + 1 + at8 bs a = a' at *
      clear h h1 h2
      go_enter Tryz.func77, Tryz.ntmps77
      go_wp2_with fail
      refine Calls.mono HD.out ?_
      rintro e V ⟨rfl, hr, hg⟩
      have n0 : Row (V.alloc (Obj.cells q4z.toArray 38)) V.heap.size q4z 38 := Row.new' rfl rfl
      have T0 := n0.there 0 cs.toArray.size (by rw [List.size_toArray, HL.out]; decide)
      replace n0 := n0.over (vs := cs) (by rw [HL.out]; rfl)
      have hB : Below V.heap.size V ((V.alloc (Obj.cells q4z.toArray 38)).setCells V.heap.size 0 cs) := below_setCells ((Below.refl _ _).alloc (Nat.le_refl _) (Obj.cells q4z.toArray 38)) (b := V.heap.size) (o := 0) (Nat.le_refl _) cs
      replace hr := hr.be hB
      replace hg := hg.below hB
      have gc := n0.cell 0 _ E0.out
      have HI : Hid ((Tryz.prog.info? 38).map (·.size) = some cs.toArray.size) := by show _ = _; rw [List.size_toArray, HL.out]; exact info_q
      have HR : Hid (Gave w ((V.alloc (Obj.cells q4z.toArray 38)).setCells V.heap.size 0 cs) P A cap bs) := Gave.of hr hg
      clear n0 hr hg hB HD
      go_wp2_with (refine wpList_store_mid rfl 38 (.tmp 3) (.tmp 5) rfl V.heap.size 0 cs.toArray rfl rfl T0 HI.out HO.out ?_; simp only [Act.put]; clear T0; (change wpList _ _ _ _ _ ((V.alloc (Obj.cells q4z.toArray 38)).setCells V.heap.size 0 cs)); (generalize ((V.alloc (Obj.cells q4z.toArray 38)).setCells V.heap.size 0 cs) = X at *); (generalize hN : V.heap.size = N4 at *; clear hN))
      exact ⟨rfl, rfl, HR.out⟩
    · rw [if_neg h2] at hf
      exact absurd hf.symm h0
  · rw [if_neg h1] at hf
    have HD : Hid _ := seeDigits_no P A cap bs a 8 f hf h0 w h
    clear h
    go_enter Tryz.func77, Tryz.ntmps77
    go_wp2_with fail
    refine Calls.mono HD.out ?_
    rintro e V ⟨rfl, hr⟩
    have HR : Hid (Gave _ _ _ _ _ _) := hr
    clear hr
    go_wp2_with fail
    exact ⟨rfl, rfl, HR.out⟩

set_option maxRecDepth 100000 in
set_option maxHeartbeats 2000000 in
theorem seeNumber_any (P : Nat) (A : Option Addr) (cap : Nat) (bs : List (BitVec 8)) (a : Nat) (hf : nuE bs a = 0) (w : World) (h : Rg w P A cap bs a) :
    Calls Tryz.prog 77 #[.pointer (some ⟨P, 0, none⟩)] w fun e w' => e = .returned (.int .i64 ((nuW bs a : Nat) : Int)) ∧ Rg w' P A cap bs (a + 1 + at8 bs a) ∧ Gp P w w' := by
  obtain ⟨h1, h2⟩ := nuE_ok hf
  have HD : Hid _ := seeDigits_any P A cap bs a 8 (by decide) h1 _ rfl w h
  have hn : ¬ (9223372036854775807 : Int) < ((nuW bs a : Nat) : Int) := by omega
  have hn2 : ((nuW bs a : Nat) : Int) ≤ 9223372036854775807 := by omega
  have hw : IntKind.i64.wrap ((nuW bs a : Nat) : Int) = ((nuW bs a : Nat) : Int) := by rw [IntKind.wrap_i64]; omega
  have E0 : Hid ((qd bs (a + 1 + at8 bs a) (at8 bs a))[0]? = some (.int .u64 ((nuW bs a : Nat) : Int))) := rfl
  have HL : Hid ((qd bs (a + 1 + at8 bs a) (at8 bs a)).length = 4) := rfl
  have HO : Hid ((qd bs (a + 1 + at8 bs a) (at8 bs a)).toArray.all (·.oneCell') = true) := all_oneCell_toArray (qd_one _ _ _)
  generalize qd bs (a + 1 + at8 bs a) (at8 bs a) = cs at *
  generalize nuW bs a = n at *
  generalize a + 1 + at8 bs a = a' at *
  clear h h1 h2 hf
  go_enter Tryz.func77, Tryz.ntmps77
  go_wp2_with fail
  refine Calls.mono HD.out ?_
  rintro e V ⟨rfl, hr, hg⟩
  have n0 : Row (V.alloc (Obj.cells q4z.toArray 38)) V.heap.size q4z 38 := Row.new' rfl rfl
  have T0 := n0.there 0 cs.toArray.size (by rw [List.size_toArray, HL.out]; decide)
  replace n0 := n0.over (vs := cs) (by rw [HL.out]; rfl)
  have hB : Below V.heap.size V ((V.alloc (Obj.cells q4z.toArray 38)).setCells V.heap.size 0 cs) := below_setCells ((Below.refl _ _).alloc (Nat.le_refl _) (Obj.cells q4z.toArray 38)) (b := V.heap.size) (o := 0) (Nat.le_refl _) cs
  replace hr := hr.be hB
  replace hg := hg.below hB
  have gc := n0.cell 0 _ E0.out
  have HI : Hid ((Tryz.prog.info? 38).map (·.size) = some cs.toArray.size) := by show _ = _; rw [List.size_toArray, HL.out]; exact info_q
  have HR : Hid (Rg _ _ _ _ _ _) := hr
  have HG : Hid (Gro _ _ _) := hg
  clear n0 hr hg hB HD
  go_wp2_with (refine wpList_store_mid rfl 38 (.tmp 3) (.tmp 5) rfl V.heap.size 0 cs.toArray rfl rfl T0 HI.out HO.out ?_; simp only [Act.put]; clear T0; (change wpList _ _ _ _ _ ((V.alloc (Obj.cells q4z.toArray 38)).setCells V.heap.size 0 cs)); (generalize ((V.alloc (Obj.cells q4z.toArray 38)).setCells V.heap.size 0 cs) = X at *); (generalize hN : V.heap.size = N4 at *; clear hN))
  go_ret
  exact ⟨rfl, HR.out, HG.out⟩

/-- What is wrong with a list's number. -/
def cnE (bs : List (BitVec 8)) (a : Nat) (most : Int) : Int :=
  if nuE bs a = 0 then (if most < (nuW bs a : Int) then 30 else if bs.length < a + 1 + at8 bs a + nuW bs a then 31 else 0) else nuE bs a
theorem cnE_ok {bs : List (BitVec 8)} {a : Nat} {most : Int} (h : cnE bs a most = 0) : nuE bs a = 0 ∧ (nuW bs a : Int) ≤ most ∧ a + 1 + at8 bs a + nuW bs a ≤ bs.length := by
  unfold cnE at h
  by_cases h1 : nuE bs a = 0
  · rw [if_pos h1] at h
    by_cases h2 : most < (nuW bs a : Int)
    · rw [if_pos h2] at h; cases h
    · rw [if_neg h2] at h
      by_cases h3 : bs.length < a + 1 + at8 bs a + nuW bs a
      · rw [if_pos h3] at h; cases h
      · exact ⟨h1, by omega, by omega⟩
  · rw [if_neg h1] at h
    exact absurd h h1

end Go.Proofs.YtdicgenhfmhklaaGreatDoor
