/-
  One vault that was made here: its calls.
-/
import Derived.Test.YtefjonidpmpjbaaEsJ
import Derived.Test.YtefjonidpmpjbaaEsH
import Derived.Test.YtefjonidpmpjbaaEsG
namespace Go.Proofs.Ytefjonidpmpjbaa
open Go Go.RowKit Go.Maps
open Wd

/-- What is in the vault's blocks was made since w0. -/
structure Vn (w0 w : World) (p : Nat) (m1 m2 : Value) : Prop where
  p : w0.heap.size ≤ p
  a : ∀ g, Own1 m1 g → w0.heap.size ≤ g
  b : ∀ g, Own1 m2 g → w0.heap.size ≤ g
  be : Below w0.heap.size w0 w
/-- One vault, made since w0. -/
def Vl (w0 w : World) (p c : Nat) (s : St) : Prop := ∃ m1 m2, Vt w p c m1 m2 s ∧ Vn w0 w p m1 m2
/-- Every row but the vault's stays. -/
structure Kq (p : Nat) (w w' : World) : Prop where
  size : w.heap.size ≤ w'.heap.size
  row : ∀ {b : Nat} {cs : List Value} {t : TypeId}, Row w b cs t → b ≠ p → Row w' b cs t
theorem Kq.be {p : Nat} {w w' : World} (h : Below w.heap.size w w') : Kq p w w' := ⟨h.size, fun r _ => Row.below r h r.lt⟩
theorem Vl.be {w0 w w' : World} {p c : Nat} {s : St} (h : Vl w0 w p c s) (hB : Below w.heap.size w w') : Vl w0 w' p c s := by
  obtain ⟨m1, m2, hV, hl⟩ := h
  exact ⟨m1, m2, hV.be hB, hl.p, hl.a, hl.b, hl.be.trans (hB.mono hl.be.size)⟩
theorem Vl.mono {w0 w : World} {p c d : Nat} {s : St} (h : Vl w0 w p c s) (hd : c ≤ d) : Vl w0 w p d s := by
  obtain ⟨m1, m2, hV, hl⟩ := h
  exact ⟨m1, m2, hV.mono hd, hl⟩
theorem Vl.below {w0 w : World} {p c : Nat} {s : St} (h : Vl w0 w p c s) : Below w0.heap.size w0 w := by
  obtain ⟨m1, m2, hV, hl⟩ := h
  exact hl.be
theorem Vl.call {w0 w w' : World} {p c : Nat} {m1 m2 : Value} {s : St} {r : St × Int} {e : Ending} (hV : Vt w p c m1 m2 s) (hl : Vn w0 w p m1 m2) (hC : VtC w p c m1 m2 r e w') : e = .returned (.int .i64 r.2) ∧ Vl w0 w' p (c + 2) r.1 ∧ Kq p w w' := by
  obtain ⟨he, n1, n2, hV', k1, k2, hG⟩ := hC
  have hs := hl.be.size
  refine ⟨he, ⟨n1, n2, hV', hl.p, fun g hg => ?_, fun g hg => ?_, hl.be.trans (hG.to_below hs fun k hk => ?_)⟩, hG.size, fun {b cs t} r hb => hG.row r ?_⟩
  · rcases k1 with k | k
    · rw [k] at hg; exact hl.a g hg
    · exact Nat.le_trans hs (k g hg)
  · rcases k2 with k | k
    · rw [k] at hg; exact hl.b g hg
    · exact Nat.le_trans hs (k g hg)
  · rcases hk with hk | hk | hk
    · rw [hk]; exact hl.p
    · exact hl.a k hk
    · exact hl.b k hk
  · obtain ⟨g2, p1, p2⟩ := hV.pd
    rintro (q | q | q)
    · exact hb q
    · exact hV.tk.notrow r q
    · exact p1.notrow r q
theorem new_l (w0 w : World) (hB : Below w0.heap.size w0 w) : Calls Try.prog 9 #[] w fun e w' => ∃ p, e = .returned (.pointer (some ⟨p, 0, none⟩)) ∧ w.heap.size ≤ p ∧ Vl w0 w' p 0 ⟨fun _ => none, fun _ => 0, 0⟩ ∧ Below w.heap.size w w' :=
  (new_any w).mono fun _ _ ⟨p, he, hp, hV, hb⟩ => ⟨p, he, hp, ⟨_, _, hV, Nat.le_trans hB.size hp, fun _ h => (nomatch h), fun _ h => (nomatch h), hB.trans (hb.mono hB.size)⟩, hb⟩
theorem list_l {w0 w : World} {p c : Nat} {s s' : St} {E : Int} (h : Vl w0 w p c s) (hc : c + 1 < maxLen) (x : Int) (hs : sList s x = (s', E)) : Calls Try.prog 23 #[.pointer (some ⟨p, 0, none⟩), .int .i64 x] w fun e w' => e = .returned (.int .i64 E) ∧ Vl w0 w' p (c + 2) s' ∧ Kq p w w' := by
  obtain ⟨m1, m2, hV, hl⟩ := h
  have h9 := (list_any hV hc x).mono fun _ _ hC => Vl.call hV hl hC
  rw [hs] at h9
  exact h9
theorem stop_l {w0 w : World} {p c : Nat} {s s' : St} {E : Int} (h : Vl w0 w p c s) (hc : c + 1 < maxLen) (x : Int) (b : Bool) (hs : sStop s x b = (s', E)) : Calls Try.prog 27 #[.pointer (some ⟨p, 0, none⟩), .int .i64 x, .bool b] w fun e w' => e = .returned (.int .i64 E) ∧ Vl w0 w' p (c + 2) s' ∧ Kq p w w' := by
  obtain ⟨m1, m2, hV, hl⟩ := h
  have h9 := (stop_any hV hc x b).mono fun _ _ hC => Vl.call hV hl hC
  rw [hs] at h9
  exact h9
theorem dep_l {w0 w : World} {p c : Nat} {s s' : St} {E : Int} (h : Vl w0 w p c s) (hc : c + 1 < maxLen) (x : Int) (m : Nat) (hm : m < 2 ^ 256) (hs : sDep s x m = (s', E)) : Calls Try.prog 24 #[.pointer (some ⟨p, 0, none⟩), .int .i64 x, .agg (vQ (dgs m 4)).toArray] w fun e w' => e = .returned (.int .i64 E) ∧ Vl w0 w' p (c + 2) s' ∧ Kq p w w' := by
  obtain ⟨m1, m2, hV, hl⟩ := h
  have h9 := (dep_any hV hc x m hm).mono fun _ _ hC => Vl.call hV hl hC
  rw [hs] at h9
  exact h9
theorem pay_l {w0 w : World} {p c : Nat} {s s' : St} {E : Int} (h : Vl w0 w p c s) (hc : c + 1 < maxLen) (i x : Int) (m : Nat) (hm : m < 2 ^ 256) (hs : sPay s i x m = (s', E)) : Calls Try.prog 25 #[.pointer (some ⟨p, 0, none⟩), .int .i64 i, .int .i64 x, .agg (vQ (dgs m 4)).toArray] w fun e w' => e = .returned (.int .i64 E) ∧ Vl w0 w' p (c + 2) s' ∧ Kq p w w' := by
  obtain ⟨m1, m2, hV, hl⟩ := h
  have h9 := (pay_any hV hc i x m hm).mono fun _ _ hC => Vl.call hV hl hC
  rw [hs] at h9
  exact h9
theorem lock_l {w0 w : World} {p c : Nat} {s s' : St} {E : Int} (h : Vl w0 w p c s) (m : Nat) (hm : m < 2 ^ 256) (hs : sLock s m = (s', E)) : Calls Try.prog 28 #[.pointer (some ⟨p, 0, none⟩), .agg (vQ (dgs m 4)).toArray] w fun e w' => e = .returned (.int .i64 E) ∧ Vl w0 w' p (c + 2) s' ∧ Kq p w w' := by
  obtain ⟨m1, m2, hV, hl⟩ := h
  have h9 := (lock_any hV m hm).mono fun _ _ hC => Vl.call hV hl hC
  rw [hs] at h9
  exact h9
theorem free_l {w0 w : World} {p c : Nat} {s s' : St} {E : Int} (h : Vl w0 w p c s) (m : Nat) (hm : m < 2 ^ 256) (hs : sFree s m = (s', E)) : Calls Try.prog 29 #[.pointer (some ⟨p, 0, none⟩), .agg (vQ (dgs m 4)).toArray] w fun e w' => e = .returned (.int .i64 E) ∧ Vl w0 w' p (c + 2) s' ∧ Kq p w w' := by
  obtain ⟨m1, m2, hV, hl⟩ := h
  have h9 := (free_any hV m hm).mono fun _ _ hC => Vl.call hV hl hC
  rw [hs] at h9
  exact h9
theorem listed_l {w0 w : World} {p c : Nat} {s : St} (h : Vl w0 w p c s) (x : Int) {s1 : Bool} {h1 : Nat} {E : Int} (hf : fnd s.T x = (s1, h1, E)) : Calls Try.prog 30 #[.pointer (some ⟨p, 0, none⟩), .int .i64 x] w fun e w' => e = .returned (.tuple #[.bool (E == 0), .bool s1]) ∧ Vl w0 w' p c s ∧ Kq p w w' := by
  obtain ⟨m1, m2, hV, hl⟩ := h
  exact (listed_any hV x _ _ _ hf).mono fun _ _ hC => ⟨hC.1, Vl.be ⟨m1, m2, hV, hl⟩ hC.2, Kq.be hC.2⟩
theorem held_l {w0 w : World} {p c : Nat} {s : St} (h : Vl w0 w p c s) (x : Int) {s1 : Bool} {h1 : Nat} {E : Int} (hf : fnd s.T x = (s1, h1, E)) : Calls Try.prog 20 #[.pointer (some ⟨p, 0, none⟩), .int .i64 x] w fun e w' => e = .returned (.agg (vQ (dgs h1 4)).toArray) ∧ Vl w0 w' p c s ∧ Kq p w w' := by
  obtain ⟨m1, m2, hV, hl⟩ := h
  exact (held_any hV x _ _ _ hf).mono fun _ _ hC => ⟨hC.1, Vl.be ⟨m1, m2, hV, hl⟩ hC.2, Kq.be hC.2⟩
theorem paid_l {w0 w : World} {p c : Nat} {s : St} (h : Vl w0 w p c s) (i : Int) (hi : I64 i) : Calls Try.prog 21 #[.pointer (some ⟨p, 0, none⟩), .int .i64 i] w fun e w' => e = .returned (.bool (paid s.U i)) ∧ Vl w0 w' p c s ∧ Kq p w w' := by
  obtain ⟨m1, m2, hV, hl⟩ := h
  exact (paid_any hV i hi).mono fun _ _ hC => ⟨hC.1, Vl.be ⟨m1, m2, hV, hl⟩ hC.2, Kq.be hC.2⟩
theorem locked_l {w0 w : World} {p c : Nat} {s : St} (h : Vl w0 w p c s)  : Calls Try.prog 19 #[.pointer (some ⟨p, 0, none⟩)] w fun e w' => e = .returned (.agg (vQ (dgs s.L 4)).toArray) ∧ Vl w0 w' p c s ∧ Kq p w w' := by
  obtain ⟨m1, m2, hV, hl⟩ := h
  exact (locked_any hV).mono fun _ _ hC => ⟨hC.1, Vl.be ⟨m1, m2, hV, hl⟩ hC.2, Kq.be hC.2⟩

end Go.Proofs.Ytefjonidpmpjbaa
