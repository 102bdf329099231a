/-
  The law's pick, known.
-/
import Derived.Test.YtefjonidpmpjbaaEsJ
import Derived.Test.YtefjonidpmpjbaaEsH
import Derived.Test.YtefjonidpmpjbaaEsG

namespace Go.Proofs.Ytefjonidpmpjbaa
open Go Go.RowKit Go.Maps
open Wd

/-- What is in the vault's blocks was made since w0. -/
structure Vn (w0 w : World) (p : Nat) (m1 m2 : Value) : Prop where
  p : w0.heap.size ≤ p
  a : ∀ g, Own1 m1 g → w0.heap.size ≤ g
  b : ∀ g, Own1 m2 g → w0.heap.size ≤ g
  be : Below w0.heap.size w0 w
/-- One vault, made since w0. -/
def Vl (w0 w : World) (p c : Nat) (s : St) : Prop := ∃ m1 m2, Vt w p c m1 m2 s ∧ Vn w0 w p m1 m2
/-- Every row but the vault's stays. -/
structure Kq (p : Nat) (w w' : World) : Prop where
  size : w.heap.size ≤ w'.heap.size
  row : ∀ {b : Nat} {cs : List Value} {t : TypeId}, Row w b cs t → b ≠ p → Row w' b cs t
theorem Kq.be {p : Nat} {w w' : World} (h : Below w.heap.size w w') : Kq p w w' := ⟨h.size, fun r _ => Row.below r h r.lt⟩
theorem Vl.be {w0 w w' : World} {p c : Nat} {s : St} (h : Vl w0 w p c s) (hB : Below w.heap.size w w') : Vl w0 w' p c s := by
  obtain ⟨m1, m2, hV, hl⟩ := h
  exact ⟨m1, m2, hV.be hB, hl.p, hl.a, hl.b, hl.be.trans (hB.mono hl.be.size)⟩
theorem Vl.mono {w0 w : World} {p c d : Nat} {s : St} (h : Vl w0 w p c s) (hd : c ≤ d) : Vl w0 w p d s := by
  obtain ⟨m1, m2, hV, hl⟩ := h
  exact ⟨m1, m2, hV.mono hd, hl⟩
theorem Vl.below {w0 w : World} {p c : Nat} {s : St} (h : Vl w0 w p c s) : Below w0.heap.size w0 w := by
  obtain ⟨m1, m2, hV, hl⟩ := h
  exact hl.be
theorem Vl.call {w0 w w' : World} {p c : Nat} {m1 m2 : Value} {s : St} {r : St × Int} {e : Ending} (hV : Vt w p c m1 m2 s) (hl : Vn w0 w p m1 m2) (hC : VtC w p c m1 m2 r e w') : e = .returned (.int .i64 r.2) ∧ Vl w0 w' p (c + 2) r.1 ∧ Kq p w w' := by
  obtain ⟨he, n1, n2, hV', k1, k2, hG⟩ := hC
  have hs := hl.be.size
  refine ⟨he, ⟨n1, n2, hV', hl.p, fun g hg => ?_, fun g hg => ?_, hl.be.trans (hG.to_below hs fun k hk => ?_)⟩, hG.size, fun {b cs t} r hb => hG.row r ?_⟩
  · rcases k1 with k | k
    · rw [k] at hg; exact hl.a g hg
    · exact Nat.le_trans hs (k g hg)
  · rcases k2 with k | k
    · rw [k] at hg; exact hl.b g hg
    · exact Nat.le_trans hs (k g hg)
  · rcases hk with hk | hk | hk
    · rw [hk]; exact hl.p
    · exact hl.a k hk
    · exact hl.b k hk
  · obtain ⟨g2, p1, p2⟩ := hV.pd
    rintro (q | q | q)
    · exact hb q
    · exact hV.tk.notrow r q
    · exact p1.notrow r q
theorem new_l (w0 w : World) (hB : Below w0.heap.size w0 w) : Calls Try.prog 9 #[] w fun e w' => ∃ p, e = .returned (.pointer (some ⟨p, 0, none⟩)) ∧ w.heap.size ≤ p ∧ Vl w0 w' p 0 ⟨fun _ => none, fun _ => 0, 0⟩ ∧ Below w.heap.size w w' :=
  (new_any w).mono fun _ _ ⟨p, he, hp, hV, hb⟩ => ⟨p, he, hp, ⟨_, _, hV, Nat.le_trans hB.size hp, fun _ h => (nomatch h), fun _ h => (nomatch h), hB.trans (hb.mono hB.size)⟩, hb⟩
theorem list_l {w0 w : World} {p c : Nat} {s s' : St} {E : Int} (h : Vl w0 w p c s) (hc : c + 1 < maxLen) (x : Int) (hs : sList s x = (s', E)) : Calls Try.prog 23 #[.pointer (some ⟨p, 0, none⟩), .int .i64 x] w fun e w' => e = .returned (.int .i64 E) ∧ Vl w0 w' p (c + 2) s' ∧ Kq p w w' := by
  obtain ⟨m1, m2, hV, hl⟩ := h
  have h9 := (list_any hV hc x).mono fun _ _ hC => Vl.call hV hl hC
  rw [hs] at h9
  exact h9
theorem stop_l {w0 w : World} {p c : Nat} {s s' : St} {E : Int} (h : Vl w0 w p c s) (hc : c + 1 < maxLen) (x : Int) (b : Bool) (hs : sStop s x b = (s', E)) : Calls Try.prog 27 #[.pointer (some ⟨p, 0, none⟩), .int .i64 x, .bool b] w fun e w' => e = .returned (.int .i64 E) ∧ Vl w0 w' p (c + 2) s' ∧ Kq p w w' := by
  obtain ⟨m1, m2, hV, hl⟩ := h
  have h9 := (stop_any hV hc x b).mono fun _ _ hC => Vl.call hV hl hC
  rw [hs] at h9
  exact h9
theorem dep_l {w0 w : World} {p c : Nat} {s s' : St} {E : Int} (h : Vl w0 w p c s) (hc : c + 1 < maxLen) (x : Int) (m : Nat) (hm : m < 2 ^ 256) (hs : sDep s x m = (s', E)) : Calls Try.prog 24 #[.pointer (some ⟨p, 0, none⟩), .int .i64 x, .agg (vQ (dgs m 4)).toArray] w fun e w' => e = .returned (.int .i64 E) ∧ Vl w0 w' p (c + 2) s' ∧ Kq p w w' := by
  obtain ⟨m1, m2, hV, hl⟩ := h
  have h9 := (dep_any hV hc x m hm).mono fun _ _ hC => Vl.call hV hl hC
  rw [hs] at h9
  exact h9
theorem pay_l {w0 w : World} {p c : Nat} {s s' : St} {E : Int} (h : Vl w0 w p c s) (hc : c + 1 < maxLen) (i x : Int) (m : Nat) (hm : m < 2 ^ 256) (hs : sPay s i x m = (s', E)) : Calls Try.prog 25 #[.pointer (some ⟨p, 0, none⟩), .int .i64 i, .int .i64 x, .agg (vQ (dgs m 4)).toArray] w fun e w' => e = .returned (.int .i64 E) ∧ Vl w0 w' p (c + 2) s' ∧ Kq p w w' := by
  obtain ⟨m1, m2, hV, hl⟩ := h
  have h9 := (pay_any hV hc i x m hm).mono fun _ _ hC => Vl.call hV hl hC
  rw [hs] at h9
  exact h9
theorem lock_l {w0 w : World} {p c : Nat} {s s' : St} {E : Int} (h : Vl w0 w p c s) (m : Nat) (hm : m < 2 ^ 256) (hs : sLock s m = (s', E)) : Calls Try.prog 28 #[.pointer (some ⟨p, 0, none⟩), .agg (vQ (dgs m 4)).toArray] w fun e w' => e = .returned (.int .i64 E) ∧ Vl w0 w' p (c + 2) s' ∧ Kq p w w' := by
  obtain ⟨m1, m2, hV, hl⟩ := h
  have h9 := (lock_any hV m hm).mono fun _ _ hC => Vl.call hV hl hC
  rw [hs] at h9
  exact h9
theorem free_l {w0 w : World} {p c : Nat} {s s' : St} {E : Int} (h : Vl w0 w p c s) (m : Nat) (hm : m < 2 ^ 256) (hs : sFree s m = (s', E)) : Calls Try.prog 29 #[.pointer (some ⟨p, 0, none⟩), .agg (vQ (dgs m 4)).toArray] w fun e w' => e = .returned (.int .i64 E) ∧ Vl w0 w' p (c + 2) s' ∧ Kq p w w' := by
  obtain ⟨m1, m2, hV, hl⟩ := h
  have h9 := (free_any hV m hm).mono fun _ _ hC => Vl.call hV hl hC
  rw [hs] at h9
  exact h9
theorem listed_l {w0 w : World} {p c : Nat} {s : St} (h : Vl w0 w p c s) (x : Int) {s1 : Bool} {h1 : Nat} {E : Int} (hf : fnd s.T x = (s1, h1, E)) : Calls Try.prog 30 #[.pointer (some ⟨p, 0, none⟩), .int .i64 x] w fun e w' => e = .returned (.tuple #[.bool (E == 0), .bool s1]) ∧ Vl w0 w' p c s ∧ Kq p w w' := by
  obtain ⟨m1, m2, hV, hl⟩ := h
  exact (listed_any hV x _ _ _ hf).mono fun _ _ hC => ⟨hC.1, Vl.be ⟨m1, m2, hV, hl⟩ hC.2, Kq.be hC.2⟩
theorem held_l {w0 w : World} {p c : Nat} {s : St} (h : Vl w0 w p c s) (x : Int) {s1 : Bool} {h1 : Nat} {E : Int} (hf : fnd s.T x = (s1, h1, E)) : Calls Try.prog 20 #[.pointer (some ⟨p, 0, none⟩), .int .i64 x] w fun e w' => e = .returned (.agg (vQ (dgs h1 4)).toArray) ∧ Vl w0 w' p c s ∧ Kq p w w' := by
  obtain ⟨m1, m2, hV, hl⟩ := h
  exact (held_any hV x _ _ _ hf).mono fun _ _ hC => ⟨hC.1, Vl.be ⟨m1, m2, hV, hl⟩ hC.2, Kq.be hC.2⟩
theorem paid_l {w0 w : World} {p c : Nat} {s : St} (h : Vl w0 w p c s) (i : Int) (hi : I64 i) : Calls Try.prog 21 #[.pointer (some ⟨p, 0, none⟩), .int .i64 i] w fun e w' => e = .returned (.bool (paid s.U i)) ∧ Vl w0 w' p c s ∧ Kq p w w' := by
  obtain ⟨m1, m2, hV, hl⟩ := h
  exact (paid_any hV i hi).mono fun _ _ hC => ⟨hC.1, Vl.be ⟨m1, m2, hV, hl⟩ hC.2, Kq.be hC.2⟩
theorem locked_l {w0 w : World} {p c : Nat} {s : St} (h : Vl w0 w p c s)  : Calls Try.prog 19 #[.pointer (some ⟨p, 0, none⟩)] w fun e w' => e = .returned (.agg (vQ (dgs s.L 4)).toArray) ∧ Vl w0 w' p c s ∧ Kq p w w' := by
  obtain ⟨m1, m2, hV, hl⟩ := h
  exact (locked_any hV).mono fun _ _ hC => ⟨hC.1, Vl.be ⟨m1, m2, hV, hl⟩ hC.2, Kq.be hC.2⟩

end Go.Proofs.Ytefjonidpmpjbaa

namespace Go.Proofs.Ytefjonidpmpjbaa
open Go Go.RowKit Go.Maps
open Wd

/-- Which one. -/
def pk (c n : Int) : Int := (if c < 0 then -(c + 1) else c) % n
theorem pk_range (c n : Int) (hn : 0 < n) : 0 ≤ pk c n ∧ pk c n < n := ⟨Int.emod_nonneg _ (by omega), Int.emod_lt_of_pos _ hn⟩
set_option maxRecDepth 100000 in
theorem pick_any (c n : Int) (hn : 0 < n) (h1 : -9223372036854775808 ≤ c) (h2 : c ≤ 9223372036854775807) (hn2 : n ≤ 9223372036854775807) (w : World) :
    Calls Try.prog 11 #[.int .i64 c, .int .i64 n] w fun e w' => e = .returned (.int .i64 (pk c n)) ∧ w' = w := by
  have hn0 : ¬ n = 0 := by omega
  have hn1 : ¬ n = -1 := by omega
  have hr := pk_range c n hn
  by_cases hc : c < 0
  · have e1 : Hid (pk c n = (-(c + 1)) % n) := by show _ = _; unfold pk; rw [if_pos hc]
    have e3 : (-(c + 1)).tmod n = pk c n := by rw [e1.out]; exact Int.tmod_eq_emod_of_nonneg (by omega)
    have e4 : (-1 + -c).tmod n = pk c n := by rw [show -1 + -c = -(c + 1) by omega]; exact e3
    have e5 : (-c + -1).tmod n = pk c n := by rw [show -c + -1 = -(c + 1) by omega]; exact e3
    generalize pk c n = r at *
    go_enter Try.func11, Try.ntmps11
    go_wp2
    go_ret
    exact ⟨by first | rfl | (simp; omega), rfl⟩
  · have e1 : Hid (pk c n = c % n) := by show _ = _; unfold pk; rw [if_neg hc]
    have e3 : c.tmod n = pk c n := by rw [e1.out]; exact Int.tmod_eq_emod_of_nonneg (by omega)
    generalize pk c n = r at *
    go_enter Try.func11, Try.ntmps11
    go_wp2
    go_ret
    exact ⟨by first | rfl | (simp; omega), rfl⟩

/-! ### known -/
def k0 : St := ⟨fun _ => none, fun _ => 0, 0⟩
def kA : St := { k0 with T := upd k0.T 3 (some (false, 0)) }
def kB : St := { kA with T := upd kA.T 3 (some (false, 9)) }
def kC : St := { kB with T := upd kB.T 3 (some (false, 5)), U := puts kB.U 7 }
def kD : St := { kC with L := 2 }
theorem kn1 : sList k0 3 = (kA, 0) := rfl
theorem kn2 : sDep kA 3 9 = (kB, 0) := rfl
theorem kn3 : sPay kB 7 3 4 = (kC, 0) := rfl
theorem kn4 : sPay kC 7 3 1 = (kC, 147) := rfl
theorem kn5 : sLock kC 2 = (kD, 0) := rfl
theorem kn6 : fnd kD.T 3 = (false, 5, 0) := rfl
theorem kn7 : paid kD.U 7 = true := rfl
set_option maxRecDepth 100000 in
set_option maxHeartbeats 4000000 in
theorem known_any (w : World) : Calls Try.prog 8 #[] w fun e w' => e = .returned (.bool true) ∧ Below w.heap.size w w' := by
  go_enter Try.func8, Try.ntmps8
  go_upto_region 2 with (go_at_call 9; refine Calls.mono (new_l w w (Below.refl _ _)) ?_; rintro e X1 ⟨p, rfl, _, v, _⟩; have VX1 : Hid (Vl w X1 p 0 k0) := v; clear v)
  go_upto_region 5 with (go_at_call 23; refine Calls.mono (list_l VX1.out (by decide) 3 kn1) ?_; rintro e X2 ⟨rfl, v, k⟩; have VX2 : Hid (Vl w X2 p 2 kA) := v; clear v k)
  go_upto_region 6 with (go_at_call 24; refine Calls.mono (dep_l VX2.out (by decide) 3 9 (by decide) kn2) ?_; rintro e X3 ⟨rfl, v, k⟩; have VX3 : Hid (Vl w X3 p 4 kB) := v; clear v k)
  go_upto_region 7 with (go_at_call 25; refine Calls.mono (pay_l VX3.out (by decide) 7 3 4 (by decide) kn3) ?_; rintro e X4 ⟨rfl, v, k⟩; have VX4 : Hid (Vl w X4 p 6 kC) := v; clear v k)
  go_upto_region 8 with (go_at_call 25; refine Calls.mono (pay_l VX4.out (by decide) 7 3 1 (by decide) kn4) ?_; rintro e X5 ⟨rfl, v, k⟩; have VX5 : Hid (Vl w X5 p 8 kC) := v; clear v k)
  go_upto_region 9 with (go_at_call 28; refine Calls.mono (lock_l VX5.out 2 (by decide) kn5) ?_; rintro e X6 ⟨rfl, v, k⟩; have VX6 : Hid (Vl w X6 p 10 kD) := v; clear v k)
  go_upto_region 10 with (go_at_call 30; refine Calls.mono (listed_l VX6.out 3 kn6) ?_; rintro e X7 ⟨rfl, v, k⟩; have VX7 : Hid (Vl w X7 p 10 kD) := v; clear v k)
  go_upto_region 11 with (first
    | (go_at_call 20; refine Calls.mono (held_l VX7.out 3 kn6) ?_; rintro e X8 ⟨rfl, v, k⟩; have VX8 : Hid (Vl w X8 p 10 kD) := v; clear v k)
    | (go_at_call 21; refine Calls.mono (paid_l VX8.out 7 ((i64_iff 7).2 (by decide))) ?_; rw [kn7]; rintro e X9 ⟨rfl, v, k⟩; have VX9 : Hid (Vl w X9 p 10 kD) := v; clear v k)
    | (go_at_call 19; refine Calls.mono (locked_l VX9.out) ?_; rintro e Y1 ⟨rfl, v, k⟩; have VY1 : Hid (Vl w Y1 p 10 kD) := v; clear v k)
    | (refine wpList_eql_c rfl (.tmp 39) (.tmp 40) _ rfl (c := vQ (dgs 5 4)) (d := vQ (dgs 5 4)) (m := 5) (n := 5) rfl rfl (by decide) (by decide) rfl rfl (B := true) (by decide) ?_)
    | (refine wpList_eql_c rfl (.tmp 49) (.tmp 50) _ rfl (c := vQ (dgs 2 4)) (d := vQ (dgs 2 4)) (m := 2) (n := 2) rfl rfl (by decide) (by decide) rfl rfl (B := true) (by decide) ?_))
  go_wp2_with fail
  go_ret
  exact ⟨rfl, VY1.out.below⟩


end Go.Proofs.Ytefjonidpmpjbaa
