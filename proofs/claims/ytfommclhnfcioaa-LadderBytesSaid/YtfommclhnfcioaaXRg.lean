/-
  wire.Reader, whatever the bytes: left, next, seeByte.
-/
import Derived.Test.YtfommclhnfcioaaXMem
import Derived.Test.YtfommclhnfcioaaXKnown
import Derived.WalkSmall

namespace Go.Proofs.Ytfommclhnfcioaa
open Go Go.RowKit
open Sha

--MATH
def at8 (bs : List (BitVec 8)) (i : Nat) : Nat := (bs.getD i 0).toNat
theorem at8_lt (bs : List (BitVec 8)) (i : Nat) : at8 bs i < 256 := (bs.getD i 0).isLt
/-- What is wrong with a number of at most so many bytes at a place (0: nothing). -/
def hiF (most : Nat) (bs : List (BitVec 8)) (a : Nat) : Int :=
  if bs.length ≤ a then 31 else if most < at8 bs a then 32 else if bs.length < a + 1 + at8 bs a then 31 else if 0 < at8 bs a ∧ at8 bs (a + 1) = 0 then 32 else 0
/-- Part j of the number whose last byte stands ahead of e, by its last t bytes. -/
def lb (bs : List (BitVec 8)) (e : Nat) (j : Nat) : Nat → Nat
  | 0 => 0
  | t + 1 => if t / 8 = j then lb bs e j t + at8 bs (e - 1 - t) * 256 ^ (t % 8) else lb bs e j t
/-- The number by its first i bytes, from s on. -/
def hv (bs : List (BitVec 8)) (s : Nat) : Nat → Nat
  | 0 => 0
  | i + 1 => 256 * hv bs s i + at8 bs (s + i)
theorem lb_none (bs : List (BitVec 8)) (e j : Nat) : ∀ t, t ≤ 8 * j → lb bs e j t = 0
  | 0, _ => rfl
  | t + 1, h => by
    have ih := lb_none bs e j t (by omega)
    simp only [lb]
    rw [if_neg (by omega), ih]
theorem lb_lt (bs : List (BitVec 8)) (e j : Nat) : ∀ t, 8 * j ≤ t → t ≤ 8 * j + 8 → lb bs e j t < 256 ^ (t - 8 * j)
  | 0, h1, _ => by simp [lb]
  | t + 1, h1, h2 => by
    by_cases ht : t + 1 = 8 * j
    · rw [lb_none bs e j (t + 1) (by omega)]; exact Nat.pow_pos (by decide)
    have ih := lb_lt bs e j t (by omega) (by omega)
    have h8 : t / 8 = j := by omega
    simp only [lb]
    rw [if_pos h8]
    have hm : t % 8 = t - 8 * j := by omega
    rw [hm, show t + 1 - 8 * j = (t - 8 * j) + 1 by omega, Nat.pow_succ]
    have hd := at8_lt bs (e - 1 - t)
    have : at8 bs (e - 1 - t) * 256 ^ (t - 8 * j) ≤ 255 * 256 ^ (t - 8 * j) := Nat.mul_le_mul_right _ (by omega)
    omega
theorem lb_stay (bs : List (BitVec 8)) (e j : Nat) : ∀ t, 8 * j + 8 ≤ t → lb bs e j t = lb bs e j (8 * j + 8)
  | 0, h => by omega
  | t + 1, h => by
    by_cases ht : t + 1 = 8 * j + 8
    · rw [ht]
    · have ih := lb_stay bs e j t (by omega)
      have e1 : lb bs e j (t + 1) = if t / 8 = j then lb bs e j t + at8 bs (e - 1 - t) * 256 ^ (t % 8) else lb bs e j t := rfl
      rw [e1, if_neg (by omega), ih]
theorem lb_64 (bs : List (BitVec 8)) (e j t : Nat) : lb bs e j t < 18446744073709551616 := by
  by_cases h1 : t ≤ 8 * j
  · rw [lb_none bs e j t h1]; decide
  · by_cases h2 : t ≤ 8 * j + 8
    · have := lb_lt bs e j t (by omega) h2
      have h3 : 256 ^ (t - 8 * j) ≤ 256 ^ 8 := Nat.pow_le_pow_right (by decide) (by omega)
      have h4 : (256 : Nat) ^ 8 = 18446744073709551616 := by decide
      omega
    · rw [lb_stay bs e j t (by omega)]
      have := lb_lt bs e j (8 * j + 8) (by omega) (by omega)
      rw [show 8 * j + 8 - 8 * j = 8 by omega] at this
      have h4 : (256 : Nat) ^ 8 = 18446744073709551616 := by decide
      omega
/-- Or is plus. -/
theorem lb_or (bs : List (BitVec 8)) (e j t : Nat) (h : t / 8 = j) : lb bs e j t ||| (at8 bs (e - 1 - t) * 2 ^ (t % 8 * 8)) = lb bs e j (t + 1) := by
  have h1 := lb_lt bs e j t (by omega) (by omega)
  have e1 : (2 : Nat) ^ (t % 8 * 8) = 256 ^ (t % 8) := by rw [Nat.mul_comm, Nat.pow_mul]
  simp only [lb]
  rw [if_pos h]
  have h2 : lb bs e j t < 2 ^ (t % 8 * 8) := by rw [e1, show t % 8 = t - 8 * j by omega]; exact h1
  have := Nat.shiftLeft_add_eq_or_of_lt h2 (at8 bs (e - 1 - t))
  rw [Nat.shiftLeft_eq] at this
  rw [Nat.or_comm, ← this, e1, Nat.add_comm]
theorem hv_front (bs : List (BitVec 8)) (s : Nat) : ∀ k, hv bs s (k + 1) = at8 bs s * 256 ^ k + hv bs (s + 1) k
  | 0 => by simp [hv]
  | k + 1 => by
    have ih := hv_front bs s k
    rw [show hv bs s (k + 1 + 1) = 256 * hv bs s (k + 1) + at8 bs (s + (k + 1)) from rfl, ih, show hv bs (s + 1) (k + 1) = 256 * hv bs (s + 1) k + at8 bs (s + 1 + k) from rfl]
    rw [Nat.pow_succ, Nat.mul_add, show s + (k + 1) = s + 1 + k by omega]
    have : 256 * (at8 bs s * 256 ^ k) = at8 bs s * (256 ^ k * 256) := by rw [Nat.mul_comm 256, Nat.mul_assoc]
    omega
theorem hv_lb (bs : List (BitVec 8)) : ∀ k s, k ≤ 8 → hv bs s k = lb bs (s + k) 0 k
  | 0, s, _ => rfl
  | k + 1, s, h => by
    have ih := hv_lb bs k (s + 1) (by omega)
    rw [hv_front, ih]
    simp only [lb]
    rw [if_pos (by omega), show s + (k + 1) - 1 - k = s by omega, show s + 1 + k = s + (k + 1) by omega, Nat.mod_eq_of_lt (show k < 8 by omega)]
    omega
/-- What is wrong with a number; its worth. -/
def nuW (bs : List (BitVec 8)) (a : Nat) : Nat := lb bs (a + 1 + at8 bs a) 0 (at8 bs a)
def nuE (bs : List (BitVec 8)) (a : Nat) : Int := if hiF 8 bs a = 0 then (if 9223372036854775807 < nuW bs a then 32 else 0) else hiF 8 bs a
theorem nu_top (bs : List (BitVec 8)) (a : Nat) (h8 : at8 bs a ≤ 8) : (9223372036854775807 < nuW bs a) ↔ (at8 bs a = 8 ∧ 127 < at8 bs (a + 1)) := by
  unfold nuW
  generalize hk : at8 bs a = k at *
  by_cases h : k = 8
  · subst h
    have h1 := lb_lt bs (a + 1 + 8) 0 7 (by omega) (by omega)
    rw [show lb bs (a + 1 + 8) 0 8 = lb bs (a + 1 + 8) 0 7 + at8 bs (a + 1) * 256 ^ 7 from by
      show (if 7 / 8 = 0 then _ else _) = _
      rw [if_pos (by decide), show a + 1 + 8 - 1 - 7 = a + 1 by omega]]
    have e7 : (256 : Nat) ^ 7 = 72057594037927936 := by decide
    rw [show 7 - 8 * 0 = 7 by omega, e7] at h1
    rw [e7]
    omega
  · have h1 := lb_lt bs (a + 1 + k) 0 k (by omega) (by omega)
    have h2 : 256 ^ (k - 8 * 0) ≤ 256 ^ 7 := Nat.pow_le_pow_right (by decide) (by omega)
    have e7 : (256 : Nat) ^ 7 = 72057594037927936 := by decide
    omega
--END

end Go.Proofs.Ytfommclhnfcioaa

namespace Go.Proofs.Ytfommclhnfcioaa
open Go Go.RowKit
open Sha

/-- A reader that has no fault. -/
structure Rg (w : World) (P : Nat) (A : Option Addr) (cap : Nat) (bs : List (BitVec 8)) (a : Nat) : Prop where
  row : Row w P [.slice A bs.length cap, .int .i64 (a : Int), .int .i64 0] 129
  bw : Bw w (.slice A bs.length cap) bs
  le : a ≤ bs.length
  len : bs.length ≤ 4194304
/-- A reader with a fault. -/
abbrev Rf (w : World) (P : Nat) (a : Nat) (f : Int) : Prop := Row w P [.slice none 0 0, .int .i64 (a : Int), .int .i64 f] 129
section
variable {w w' : World} {P cap a : Nat} {A : Option Addr} {bs : List (BitVec 8)}
theorem Rg.be (h : Rg w P A cap bs a) (k : Below w.heap.size w w') : Rg w' P A cap bs a := ⟨Row.below h.row k h.row.lt, Bw.be h.bw k, h.le, h.len⟩
theorem Rg.drewN (h : Rg w P A cap bs a) (m : Nat) : Rg (w.drewN m) P A cap bs a := ⟨h.row, h.bw, h.le, h.len⟩
theorem Rg.move (h : Rg w P A cap bs a) (b : Nat) (hb : b ≤ bs.length) : Rg (w.setCell ⟨P, 1, none⟩ (.int .i64 (b : Int))) P A cap bs b :=
  ⟨h.row.set 1 _, Bw.set_other h.bw (Bw.ne h.bw h.row (by decide)), hb, h.len⟩
theorem Rg.setNew (h : Rg w P A cap bs a) (q o : Nat) (v : Value) {cs : List Value} {t : TypeId} (hq : Row w q cs t) (h1 : t ≠ 129) (h2 : t ≠ 5) : Rg (w.setCell ⟨q, o, none⟩ v) P A cap bs a :=
  ⟨h.row.set_other q o v (row_ne h.row hq (Ne.symm h1)), Bw.set_other h.bw (Bw.ne h.bw hq h2), h.le, h.len⟩
theorem Rg.setsNew (h : Rg w P A cap bs a) (q o : Nat) (vs : List Value) {cs : List Value} {t : TypeId} (hq : Row w q cs t) (h1 : t ≠ 129) (h2 : t ≠ 5) : Rg (w.setCells q o vs) P A cap bs a :=
  ⟨Row.setCells_other h.row _ _ _ (row_ne h.row hq (Ne.symm h1)), Bw.block h.bw fun k e => heap_sets w q o _ k (Bw.ne h.bw hq h2 k e), h.le, h.len⟩
theorem Rg.byte (h : Rg w P A cap bs a) (i : Nat) (hi : i < bs.length) : ∃ g, A = some ⟨g, 0, none⟩ ∧ w.cell? ⟨g, i, none⟩ = some (.int .u8 (c (bs.getD i 0))) := by
  rcases Bw.sl h.bw with ⟨h0, _⟩ | ⟨ab, ao, c', hv, _, hr⟩
  · subst h0; simp at hi
  · simp only [Value.slice.injEq] at hv
    rcases h.bw.2 with ⟨q, _⟩ | ⟨g, _, _, hv2, _⟩
    · simp only [Value.slice.injEq] at q
      rw [q.1] at hv; cases hv.1
    · simp only [Value.slice.injEq] at hv2
      obtain ⟨e2, _, _⟩ := hv2
      obtain ⟨e1, _, _⟩ := hv
      rw [e2] at e1
      simp only [Option.some.injEq, Addr.mk.injEq] at e1
      obtain ⟨rfl, rfl, _⟩ := e1
      refine ⟨g, e2, ?_⟩
      have := hr i _ (vB_get bs i hi)
      simpa using this
theorem Rg.room (h : Rg w P A cap bs a) : bs.length ≤ cap ∧ (A = none → cap = 0 ∧ bs.length = 0) := by
  rcases h.bw.2 with ⟨q, q0⟩ | ⟨g', cap', cur, hv, _, _, hc, _⟩
  · simp only [Value.slice.injEq] at q
    exact ⟨by omega, fun _ => ⟨q.2.2, q.2.1⟩⟩
  · simp only [Value.slice.injEq] at hv
    exact ⟨by omega, fun e => by rw [hv.1] at e; cases e⟩
theorem Rg.lies (h : Rg w P A cap bs a) : A = none ∨ ∃ g, A = some ⟨g, 0, none⟩ := by
  rcases h.bw.2 with ⟨q, q0⟩ | ⟨g', cap', cur, hv, _, _, hc, _⟩
  · simp only [Value.slice.injEq] at q
    exact .inl q.1
  · simp only [Value.slice.injEq] at hv
    exact .inr ⟨g', hv.1⟩
end
abbrev GU : TypeId := 149
abbrev gu (e : Int) : List PanicEntry := [{ v := .iface GU (.int .i64 e), recovered := false }]

set_option maxRecDepth 100000 in
set_option maxHeartbeats 2000000 in
theorem next_no (P : Nat) (A : Option Addr) (cap : Nat) (bs : List (BitVec 8)) (a n : Nat) (ha : bs.length < a + n) (w : World) (h : Rg w P A cap bs a) :
    Calls Try.prog 98 #[.pointer (some ⟨P, 0, none⟩), .int .i64 (n : Int)] w fun e w' => e = .panicked (gu 31) ∧ ∃ m, w' = w.drewN m := by
  have HL : Hid _ := left_ok P A bs.length cap a h.le h.len 0 w h.row
  have c1 : ((bs.length : Int) - (a : Int) < (n : Int)) := by omega
  clear h
  generalize bs.length = L at *
  go_enter Try.func98, Try.ntmps98
  go_wp2_with fail
  refine Calls.mono HL.out ?_
  rintro e w1 ⟨rfl, m, rfl⟩
  clear HL
  go_wp2
  exact ⟨rfl, rfl, m, rfl⟩

set_option maxRecDepth 100000 in
set_option maxHeartbeats 2000000 in
theorem next_any (P : Nat) (A : Option Addr) (cap : Nat) (bs : List (BitVec 8)) (a n : Nat) (ha : a + n ≤ bs.length) (w : World) (h : Rg w P A cap bs a) :
    Calls Try.prog 98 #[.pointer (some ⟨P, 0, none⟩), .int .i64 (n : Int)] w fun e w' => ∃ A' c', e = .returned (.slice A' n c') ∧ n ≤ c' ∧ (A' = none → c' = 0) ∧ (0 < n → ∃ g, A = some ⟨g, 0, none⟩ ∧ A' = some ⟨g, a, none⟩) ∧ ∃ m, w' = (w.setCell ⟨P, 1, none⟩ (.int .i64 ((a + n : Nat) : Int))).drewN m := by
  have HL : Hid _ := left_ok P A bs.length cap a h.le h.len 0 w h.row
  obtain ⟨hcap, hnone⟩ := h.room
  have hlen := h.len
  have g1 := h.row.cell 1 _ rfl
  have f1 := h.row.thaw 1
  have g0 := h.row.cell 0 _ rfl
  have c1 : ¬ ((bs.length : Int) - (a : Int) < (n : Int)) := by omega
  have hwh := h.lies
  clear h
  generalize bs.length = L at *
  by_cases hc : cap = a
  · obtain rfl : n = 0 := by omega
    obtain rfl : L = a := by omega
    subst hc
    go_enter Try.func98, Try.ntmps98
    go_wp2_with fail
    refine Calls.mono HL.out ?_
    rintro e w1 ⟨rfl, m, rfl⟩
    have g1' : (w.drewN m).cell? ⟨P, 1, none⟩ = some (.int .i64 (cap : Int)) := g1
    have g0' : (w.drewN m).cell? ⟨P, 0, none⟩ = some (.slice A cap cap) := g0
    have f1' : (w.drewN m).frozen? ⟨P, 1, none⟩ = false := f1
    clear g1 g0 f1 HL hwh hnone
    go_wp2
    go_region
    all_goals
      go_wp2
      go_ret
      first
      | exact ⟨_, _, rfl, by omega, fun _ => by omega, fun h => by omega, m + 1, rfl⟩
  · obtain rfl | ⟨g, rfl⟩ := hwh
    · have := hnone rfl; omega
    clear hnone
    go_enter Try.func98, Try.ntmps98
    go_wp2_with fail
    refine Calls.mono HL.out ?_
    rintro e w1 ⟨rfl, m, rfl⟩
    have g1' : (w.drewN m).cell? ⟨P, 1, none⟩ = some (.int .i64 (a : Int)) := g1
    have g0' : (w.drewN m).cell? ⟨P, 0, none⟩ = some (.slice (some ⟨g, 0, none⟩) L cap) := g0
    have f1' : (w.drewN m).frozen? ⟨P, 1, none⟩ = false := f1
    clear g1 g0 f1 HL
    go_wp2
    go_region
    all_goals
      go_wp2
      go_ret
      refine ⟨some ⟨g, a, none⟩, cap - a, ?_, by omega, (fun h => by cases h), fun _ => ⟨g, rfl, rfl⟩, m + 1, rfl⟩
      show Ending.returned (Value.slice (some ⟨g, a, none⟩) (a + n - a) (cap - a)) = _
      rw [Nat.add_sub_cancel_left]

set_option maxRecDepth 100000 in
set_option maxHeartbeats 2000000 in
theorem seeByte_no (P : Nat) (A : Option Addr) (cap : Nat) (bs : List (BitVec 8)) (a : Nat) (ha : bs.length ≤ a) (w : World) (h : Rg w P A cap bs a) :
    Calls Try.prog 79 #[.pointer (some ⟨P, 0, none⟩)] w fun e w' => e = .panicked (gu 31) ∧ ∃ m, w' = w.drewN m := by
  have HN : Hid _ := next_no P A cap bs a 1 (by omega) w h
  clear h ha
  go_enter Try.func79, Try.ntmps79
  go_wp2_with fail
  refine Calls.mono HN.out ?_
  rintro e w1 ⟨rfl, m, hw⟩
  have HW : Hid _ := hw
  clear hw
  go_wp2_with fail
  exact ⟨rfl, rfl, m, HW.out⟩

set_option maxRecDepth 100000 in
set_option maxHeartbeats 2000000 in
theorem seeByte_any (P : Nat) (A : Option Addr) (cap : Nat) (bs : List (BitVec 8)) (a : Nat) (ha : a < bs.length) (w : World) (h : Rg w P A cap bs a) :
    Calls Try.prog 79 #[.pointer (some ⟨P, 0, none⟩)] w fun e w' => e = .returned (.int .u8 (c (bs.getD a 0))) ∧ ∃ m, w' = (w.setCell ⟨P, 1, none⟩ (.int .i64 ((a + 1 : Nat) : Int))).drewN m := by
  have HN : Hid _ := next_any P A cap bs a 1 (by omega) w h
  obtain ⟨g, rfl, hb⟩ := h.byte a ha
  have hne : g ≠ P := Bw.ne h.bw h.row (by decide) g rfl
  have HB : Hid (∀ m, ((w.setCell ⟨P, 1, none⟩ (.int .i64 ((a + 1 : Nat) : Int))).drewN m).cell? ⟨g, a, none⟩ = some (.int .u8 (c (bs.getD a 0)))) := fun m => by
    show (w.setCell ⟨P, 1, none⟩ _).cell? ⟨g, a, none⟩ = _
    rw [World.cell?_of_block (a := ⟨g, a, none⟩) (Below.heap_setCell w ⟨P, 1, none⟩ _ g hne)]
    exact hb
  generalize bs.getD a 0 = x at *
  clear h hb hne
  go_enter Try.func79, Try.ntmps79
  go_wp2_with fail
  refine Calls.mono HN.out ?_
  rintro e w1 ⟨A', c', rfl, hc', _, hA', m, hw1⟩
  obtain ⟨g', e1, rfl⟩ := hA' (by decide)
  simp only [Option.some.injEq, Addr.mk.injEq] at e1
  obtain ⟨rfl, _⟩ := e1
  have gb := HB.out m
  rw [← hw1] at gb
  have HW : Hid (w1 = (w.setCell ⟨P, 1, none⟩ (.int .i64 ((a + 1 : Nat) : Int))).drewN m) := hw1
  clear hw1 HN HB hA'
  go_wp2
  go_ret
  exact ⟨rfl, m, HW.out⟩

end Go.Proofs.Ytfommclhnfcioaa
