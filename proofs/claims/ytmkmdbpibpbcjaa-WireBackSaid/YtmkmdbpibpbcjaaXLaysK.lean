/-
  The law's lays, at a kind below seven.
-/
import Derived.Test.YtmkmdbpibpbcjaaXLaw2
namespace Go.Proofs.Ytmkmdbpibpbcjaa
open Go Go.RowKit
open Sha

/-- A step's cells. -/
abbrev sc (k N : Int) (v : Value) (m0 m1 m2 m3 : Nat) (u : Value) : List Value := [.int .i64 k, .int .i64 N, v, .int .u64 (m0 : Int), .int .u64 (m1 : Int), .int .u64 (m2 : Int), .int .u64 (m3 : Int), u]
abbrev mx : Int := 9223372036854775807
/-- The form of a value of a kind. -/
def fo (k : Nat) (N : Int) (d : List (BitVec 8)) (m0 m1 m2 m3 : Nat) : List (BitVec 8) :=
  match k with
  | 0 => [BitVec.ofInt 8 N]
  | 1 => [if !(N.tmod 2 == 0) then 1#8 else 0#8]
  | 2 => fm [(pk N mx).toNat, 0, 0, 0] (nb (pk N mx).toNat 0 0 0)
  | 3 => fm [d.length, 0, 0, 0] (nb d.length 0 0 0) ++ d
  | 4 => fm [m0, m1, m2, m3] (nb m0 m1 m2 m3)
  | 5 => dgN 32 d
  | _ => dgN 20 d
theorem c_ofInt (N : Int) : c (BitVec.ofInt 8 N) = N % 256 := by
  show (((BitVec.ofInt 8 N).toNat : Nat) : Int) = _
  rw [BitVec.toNat_ofInt]
  omega
theorem pk_same (k n : Int) (h0 : 0 ≤ k) (h1 : k < n) : pk k n = k := by
  unfold pk; rw [if_neg (by omega)]; exact Int.emod_eq_of_lt h0 h1
theorem info_st : (Try.prog.info? 33).map (·.size) = some 8 := by kernel_rfl
theorem Rw_of {P : Nat} : ∀ g, Rw P none 0 [] g → g = P := fun g h => by
  rcases h with h | h
  · exact h
  · simp [Value.ownBlock] at h

set_option maxRecDepth 100000 in
set_option maxHeartbeats 2000000 in
theorem lays_0 (P : Nat) (N : Int) (hN1 : -9223372036854775808 ≤ N) (hN2 : N ≤ 9223372036854775807) (d : List (BitVec 8)) (n : Nat) (hd : d.length = n) (hn : n ≤ 4194304) (B : Option Addr) (cb : Nat) (hnil : B = none → cb = 0) (m0 m1 m2 m3 : Nat) (h0 : m0 < 18446744073709551616) (h1 : m1 < 18446744073709551616) (h2 : m2 < 18446744073709551616) (h3 : m3 < 18446744073709551616) (u : Value) (w : World) (hw : Wr w P none 0 [] 0) (hv : ∀ W, Gro (Rw P none 0 []) w W → SlAt W (.slice B n cb) d) :
    Calls Try.prog 21 #[.pointer (some ⟨P, 0, none⟩), .agg (sc 0 N (.slice B n cb) m0 m1 m2 m3 u).toArray] w fun e w' => e = .returned (.tuple #[]) ∧ Beh w w' P none 0 [] 0 (fo 0 N d m0 m1 m2 m3) := by
  have hall := And.intro hN1 (And.intro hN2 (And.intro hd (And.intro hn (And.intro hnil (And.intro h0 (And.intro h1 (And.intro h2 h3)))))))
  clear hall
  obtain ⟨X, hX⟩ : ∃ X, X = w.alloc (Obj.cells (sc 0 N (.slice B n cb) m0 m1 m2 m3 u).toArray 33) := ⟨_, rfl⟩
  have b1 : Below w.heap.size w X := by rw [hX]; exact (Below.refl _ _).alloc (Nat.le_refl _) _
  have r1 : Row X w.heap.size (sc 0 N (.slice B n cb) m0 m1 m2 m3 u) 33 := by rw [hX]; exact Row.new' rfl rfl
  have g0 := r1.cell 0 _ rfl
  have g1 := r1.cell 1 _ rfl
  have g2 := r1.cell 2 _ rfl
  have HP : Hid (∀ w, _) := fun w => pick_any 0 9 (by decide) (by decide) (by decide) (by decide) w
  rw [show pk 0 9 = 0 from pk_same 0 9 (by decide) (by decide)] at HP
  have hw1 := hw.be b1
  have hv1 : ∀ W, Gro (Rw P none 0 []) X W → SlAt W (.slice B n cb) d := fun W hG => hv W ((Gro.of_below b1).trans hG)
  have HB1 : Hid _ := b1
  have HC : Hid _ := byte_any P none 0 [] 0 (by decide) (BitVec.ofInt 8 N) (N % 256) (c_ofInt N).symm _ hw1
  clear b1 r1 hw hv hw1 hv1 hd hn hnil h0 h1 h2 h3
  go_enter Try.func21, Try.ntmps21
  go_wp2_with fail
  rw [← hX]
  clear hX
  refine (HP.out X).mono ?_
  rintro e w2 ⟨rfl, rfl⟩
  go_wp2_with fail
  refine Calls.mono HC.out ?_
  rintro e w' ⟨rfl, hh⟩
  have H1 : Hid _ := Beh.after HB1.out hh
  clear hh
  go_wp2_with fail
  first | go_end0 | refine bodyPost_ret (results_none rfl _ _ _) rfl ?_
  exact ⟨rfl, H1.out⟩

set_option maxRecDepth 100000 in
set_option maxHeartbeats 2000000 in
theorem lays_1 (P : Nat) (N : Int) (hN1 : -9223372036854775808 ≤ N) (hN2 : N ≤ 9223372036854775807) (d : List (BitVec 8)) (n : Nat) (hd : d.length = n) (hn : n ≤ 4194304) (B : Option Addr) (cb : Nat) (hnil : B = none → cb = 0) (m0 m1 m2 m3 : Nat) (h0 : m0 < 18446744073709551616) (h1 : m1 < 18446744073709551616) (h2 : m2 < 18446744073709551616) (h3 : m3 < 18446744073709551616) (u : Value) (w : World) (hw : Wr w P none 0 [] 0) (hv : ∀ W, Gro (Rw P none 0 []) w W → SlAt W (.slice B n cb) d) :
    Calls Try.prog 21 #[.pointer (some ⟨P, 0, none⟩), .agg (sc 1 N (.slice B n cb) m0 m1 m2 m3 u).toArray] w fun e w' => e = .returned (.tuple #[]) ∧ Beh w w' P none 0 [] 0 (fo 1 N d m0 m1 m2 m3) := by
  have hall := And.intro hN1 (And.intro hN2 (And.intro hd (And.intro hn (And.intro hnil (And.intro h0 (And.intro h1 (And.intro h2 h3)))))))
  clear hall
  obtain ⟨X, hX⟩ : ∃ X, X = w.alloc (Obj.cells (sc 1 N (.slice B n cb) m0 m1 m2 m3 u).toArray 33) := ⟨_, rfl⟩
  have b1 : Below w.heap.size w X := by rw [hX]; exact (Below.refl _ _).alloc (Nat.le_refl _) _
  have r1 : Row X w.heap.size (sc 1 N (.slice B n cb) m0 m1 m2 m3 u) 33 := by rw [hX]; exact Row.new' rfl rfl
  have g0 := r1.cell 0 _ rfl
  have g1 := r1.cell 1 _ rfl
  have g2 := r1.cell 2 _ rfl
  have HP : Hid (∀ w, _) := fun w => pick_any 1 9 (by decide) (by decide) (by decide) (by decide) w
  rw [show pk 1 9 = 1 from pk_same 1 9 (by decide) (by decide)] at HP
  have hw1 := hw.be b1
  have hv1 : ∀ W, Gro (Rw P none 0 []) X W → SlAt W (.slice B n cb) d := fun W hG => hv W ((Gro.of_below b1).trans hG)
  have HB1 : Hid _ := b1
  have HC : Hid _ := flag_any P none 0 [] 0 (by decide) (!(N.tmod 2 == 0)) _ hw1
  clear b1 r1 hw hv hw1 hv1 hd hn hnil h0 h1 h2 h3
  go_enter Try.func21, Try.ntmps21
  go_wp2_with fail
  rw [← hX]
  clear hX
  refine (HP.out X).mono ?_
  rintro e w2 ⟨rfl, rfl⟩
  go_wp2_with fail
  refine Calls.mono HC.out ?_
  rintro e w' ⟨rfl, hh⟩
  have H1 : Hid _ := Beh.after HB1.out hh
  clear hh
  go_wp2_with fail
  first | go_end0 | refine bodyPost_ret (results_none rfl _ _ _) rfl ?_
  exact ⟨rfl, H1.out⟩

set_option maxRecDepth 100000 in
set_option maxHeartbeats 2000000 in
theorem lays_2 (P : Nat) (N : Int) (hN1 : -9223372036854775808 ≤ N) (hN2 : N ≤ 9223372036854775807) (d : List (BitVec 8)) (n : Nat) (hd : d.length = n) (hn : n ≤ 4194304) (B : Option Addr) (cb : Nat) (hnil : B = none → cb = 0) (m0 m1 m2 m3 : Nat) (h0 : m0 < 18446744073709551616) (h1 : m1 < 18446744073709551616) (h2 : m2 < 18446744073709551616) (h3 : m3 < 18446744073709551616) (u : Value) (w : World) (hw : Wr w P none 0 [] 0) (hv : ∀ W, Gro (Rw P none 0 []) w W → SlAt W (.slice B n cb) d) :
    Calls Try.prog 21 #[.pointer (some ⟨P, 0, none⟩), .agg (sc 2 N (.slice B n cb) m0 m1 m2 m3 u).toArray] w fun e w' => e = .returned (.tuple #[]) ∧ Beh w w' P none 0 [] 0 (fo 2 N d m0 m1 m2 m3) := by
  have hall := And.intro hN1 (And.intro hN2 (And.intro hd (And.intro hn (And.intro hnil (And.intro h0 (And.intro h1 (And.intro h2 h3)))))))
  clear hall
  obtain ⟨X, hX⟩ : ∃ X, X = w.alloc (Obj.cells (sc 2 N (.slice B n cb) m0 m1 m2 m3 u).toArray 33) := ⟨_, rfl⟩
  have b1 : Below w.heap.size w X := by rw [hX]; exact (Below.refl _ _).alloc (Nat.le_refl _) _
  have r1 : Row X w.heap.size (sc 2 N (.slice B n cb) m0 m1 m2 m3 u) 33 := by rw [hX]; exact Row.new' rfl rfl
  have g0 := r1.cell 0 _ rfl
  have g1 := r1.cell 1 _ rfl
  have g2 := r1.cell 2 _ rfl
  have HP : Hid (∀ w, _) := fun w => pick_any 2 9 (by decide) (by decide) (by decide) (by decide) w
  rw [show pk 2 9 = 2 from pk_same 2 9 (by decide) (by decide)] at HP
  have hw1 := hw.be b1
  have hv1 : ∀ W, Gro (Rw P none 0 []) X W → SlAt W (.slice B n cb) d := fun W hG => hv W ((Gro.of_below b1).trans hG)
  have HB1 : Hid _ := b1
  have hpr := pk_range N mx (by decide)
  have hpm : pk N mx < 9223372036854775807 := hpr.2
  have HP2 : Hid (∀ w, _) := fun w => pick_any N mx (by decide) hN1 hN2 (by decide) w
  obtain ⟨m, hm⟩ : ∃ m : Nat, pk N mx = (m : Int) := ⟨(pk N mx).toNat, by omega⟩
  have hmt : (pk N mx).toNat = m := by omega
  have HC : Hid (Calls Try.prog 28 #[.pointer (some ⟨P, 0, none⟩), .int .i64 (m : Int)] X fun e w' => e = .returned (.tuple #[]) ∧ Beh X w' P none 0 [] 0 (fo 2 N d m0 m1 m2 m3)) := by
    show Calls _ _ _ _ _
    unfold fo
    simp only
    rw [hmt]
    exact number_in P none 0 [] 0 m (by omega) _ rfl (by decide) _ (Rw P none 0 []) rfl hw1
  rw [hm] at HP2
  clear b1 r1 hw hv hw1 hv1 hd hn hnil h0 h1 h2 h3 hpr hpm hm hmt
  go_enter Try.func21, Try.ntmps21
  go_wp2_with fail
  rw [← hX]
  clear hX
  refine (HP.out X).mono ?_
  rintro e w2 ⟨rfl, rfl⟩
  go_wp2_with (go_at_call 30; refine (HP2.out _).mono ?_; rintro e w3 ⟨rfl, rfl⟩)
  refine Calls.mono HC.out ?_
  rintro e w' ⟨rfl, hh⟩
  have H1 : Hid _ := Beh.after HB1.out hh
  clear hh
  go_wp2_with fail
  first | go_end0 | refine bodyPost_ret (results_none rfl _ _ _) rfl ?_
  exact ⟨rfl, H1.out⟩

set_option maxRecDepth 100000 in
set_option maxHeartbeats 2000000 in
theorem lays_3 (P : Nat) (N : Int) (hN1 : -9223372036854775808 ≤ N) (hN2 : N ≤ 9223372036854775807) (d : List (BitVec 8)) (n : Nat) (hd : d.length = n) (hn : n ≤ 4194304) (B : Option Addr) (cb : Nat) (hnil : B = none → cb = 0) (m0 m1 m2 m3 : Nat) (h0 : m0 < 18446744073709551616) (h1 : m1 < 18446744073709551616) (h2 : m2 < 18446744073709551616) (h3 : m3 < 18446744073709551616) (u : Value) (w : World) (hw : Wr w P none 0 [] 0) (hv : ∀ W, Gro (Rw P none 0 []) w W → SlAt W (.slice B n cb) d) :
    Calls Try.prog 21 #[.pointer (some ⟨P, 0, none⟩), .agg (sc 3 N (.slice B n cb) m0 m1 m2 m3 u).toArray] w fun e w' => e = .returned (.tuple #[]) ∧ Beh w w' P none 0 [] 0 (fo 3 N d m0 m1 m2 m3) := by
  have hall := And.intro hN1 (And.intro hN2 (And.intro hd (And.intro hn (And.intro hnil (And.intro h0 (And.intro h1 (And.intro h2 h3)))))))
  clear hall
  obtain ⟨X, hX⟩ : ∃ X, X = w.alloc (Obj.cells (sc 3 N (.slice B n cb) m0 m1 m2 m3 u).toArray 33) := ⟨_, rfl⟩
  have b1 : Below w.heap.size w X := by rw [hX]; exact (Below.refl _ _).alloc (Nat.le_refl _) _
  have r1 : Row X w.heap.size (sc 3 N (.slice B n cb) m0 m1 m2 m3 u) 33 := by rw [hX]; exact Row.new' rfl rfl
  have g0 := r1.cell 0 _ rfl
  have g1 := r1.cell 1 _ rfl
  have g2 := r1.cell 2 _ rfl
  have HP : Hid (∀ w, _) := fun w => pick_any 3 9 (by decide) (by decide) (by decide) (by decide) w
  rw [show pk 3 9 = 3 from pk_same 3 9 (by decide) (by decide)] at HP
  have hw1 := hw.be b1
  have hv1 : ∀ W, Gro (Rw P none 0 []) X W → SlAt W (.slice B n cb) d := fun W hG => hv W ((Gro.of_below b1).trans hG)
  have HB1 : Hid _ := b1
  have HC : Hid (Calls Try.prog 37 #[.pointer (some ⟨P, 0, none⟩), .slice B n cb] X fun e w' => e = .returned (.tuple #[]) ∧ Beh X w' P none 0 [] 0 (fo 3 N d m0 m1 m2 m3)) := by
    show Calls _ _ _ _ _
    unfold fo
    simp only
    rw [hd]
    exact bytes_lays P none 0 [] 0 (by decide) d n hd (by omega) B cb hnil _ rfl _ hw1 hv1 (by omega)
  clear b1 r1 hw hv hw1 hv1 hd hn hnil h0 h1 h2 h3
  go_enter Try.func21, Try.ntmps21
  go_wp2_with fail
  rw [← hX]
  clear hX
  refine (HP.out X).mono ?_
  rintro e w2 ⟨rfl, rfl⟩
  go_wp2_with fail
  refine Calls.mono HC.out ?_
  rintro e w' ⟨rfl, hh⟩
  have H1 : Hid _ := Beh.after HB1.out hh
  clear hh
  go_wp2_with fail
  first | go_end0 | refine bodyPost_ret (results_none rfl _ _ _) rfl ?_
  exact ⟨rfl, H1.out⟩

set_option maxRecDepth 100000 in
set_option maxHeartbeats 2000000 in
theorem lays_4 (P : Nat) (N : Int) (hN1 : -9223372036854775808 ≤ N) (hN2 : N ≤ 9223372036854775807) (d : List (BitVec 8)) (n : Nat) (hd : d.length = n) (hn : n ≤ 4194304) (B : Option Addr) (cb : Nat) (hnil : B = none → cb = 0) (m0 m1 m2 m3 : Nat) (h0 : m0 < 18446744073709551616) (h1 : m1 < 18446744073709551616) (h2 : m2 < 18446744073709551616) (h3 : m3 < 18446744073709551616) (u : Value) (w : World) (hw : Wr w P none 0 [] 0) (hv : ∀ W, Gro (Rw P none 0 []) w W → SlAt W (.slice B n cb) d) :
    Calls Try.prog 21 #[.pointer (some ⟨P, 0, none⟩), .agg (sc 4 N (.slice B n cb) m0 m1 m2 m3 u).toArray] w fun e w' => e = .returned (.tuple #[]) ∧ Beh w w' P none 0 [] 0 (fo 4 N d m0 m1 m2 m3) := by
  have hall := And.intro hN1 (And.intro hN2 (And.intro hd (And.intro hn (And.intro hnil (And.intro h0 (And.intro h1 (And.intro h2 h3)))))))
  clear hall
  obtain ⟨X, hX⟩ : ∃ X, X = w.alloc (Obj.cells (sc 4 N (.slice B n cb) m0 m1 m2 m3 u).toArray 33) := ⟨_, rfl⟩
  have b1 : Below w.heap.size w X := by rw [hX]; exact (Below.refl _ _).alloc (Nat.le_refl _) _
  have r1 : Row X w.heap.size (sc 4 N (.slice B n cb) m0 m1 m2 m3 u) 33 := by rw [hX]; exact Row.new' rfl rfl
  have g0 := r1.cell 0 _ rfl
  have g1 := r1.cell 1 _ rfl
  have g2 := r1.cell 2 _ rfl
  have HP : Hid (∀ w, _) := fun w => pick_any 4 9 (by decide) (by decide) (by decide) (by decide) w
  rw [show pk 4 9 = 4 from pk_same 4 9 (by decide) (by decide)] at HP
  have hw1 := hw.be b1
  have hv1 : ∀ W, Gro (Rw P none 0 []) X W → SlAt W (.slice B n cb) d := fun W hG => hv W ((Gro.of_below b1).trans hG)
  have HB1 : Hid _ := b1
  have HC : Hid (Calls Try.prog 41 #[.pointer (some ⟨P, 0, none⟩), .agg (q4 m0 m1 m2 m3).toArray] X fun e w' => e = .returned (.tuple #[]) ∧ Beh X w' P none 0 [] 0 (fo 4 N d m0 m1 m2 m3)) := wide_any P none 0 [] 0 m0 m1 m2 m3 h0 h1 h2 h3 _ rfl (by decide) _ (Rw P none 0 []) rfl hw1
  have rW : X.rangeAt w.heap.size 3 (q4 m0 m1 m2 m3) := r1.range 3 _ (fun j v hj => by
    rcases (show j = 0 ∨ j = 1 ∨ j = 2 ∨ j = 3 ∨ 4 ≤ j by omega) with rfl | rfl | rfl | rfl | hj4
    · exact hj
    · exact hj
    · exact hj
    · exact hj
    · rw [List.getElem?_eq_none (by simp; omega)] at hj; cases hj)
  clear b1 r1 hw hv hw1 hv1 hd hn hnil h0 h1 h2 h3
  go_enter Try.func21, Try.ntmps21
  go_wp2_with fail
  rw [← hX]
  clear hX
  refine (HP.out X).mono ?_
  rintro e w2 ⟨rfl, rfl⟩
  go_wp2_with (refine wpList_load_w rfl 30 (.tmp 38) rfl w.heap.size 3 rfl (q4 m0 m1 m2 m3) _ rW Try.underlying30 rfl info_q ?_; simp only [Act.put, List.setIfInBounds_toArray, List.set_cons_zero, List.set_cons_succ])
  refine Calls.mono HC.out ?_
  rintro e w' ⟨rfl, hh⟩
  have H1 : Hid _ := Beh.after HB1.out hh
  clear hh
  go_wp2_with fail
  first | go_end0 | refine bodyPost_ret (results_none rfl _ _ _) rfl ?_
  exact ⟨rfl, H1.out⟩

set_option maxRecDepth 100000 in
set_option maxHeartbeats 2000000 in
theorem lays_5 (P : Nat) (N : Int) (hN1 : -9223372036854775808 ≤ N) (hN2 : N ≤ 9223372036854775807) (d : List (BitVec 8)) (n : Nat) (hd : d.length = n) (hn : n ≤ 4194304) (B : Option Addr) (cb : Nat) (hnil : B = none → cb = 0) (m0 m1 m2 m3 : Nat) (h0 : m0 < 18446744073709551616) (h1 : m1 < 18446744073709551616) (h2 : m2 < 18446744073709551616) (h3 : m3 < 18446744073709551616) (u : Value) (w : World) (hw : Wr w P none 0 [] 0) (hv : ∀ W, Gro (Rw P none 0 []) w W → SlAt W (.slice B n cb) d) :
    Calls Try.prog 21 #[.pointer (some ⟨P, 0, none⟩), .agg (sc 5 N (.slice B n cb) m0 m1 m2 m3 u).toArray] w fun e w' => e = .returned (.tuple #[]) ∧ Beh w w' P none 0 [] 0 (fo 5 N d m0 m1 m2 m3) := by
  have hall := And.intro hN1 (And.intro hN2 (And.intro hd (And.intro hn (And.intro hnil (And.intro h0 (And.intro h1 (And.intro h2 h3)))))))
  clear hall
  obtain ⟨X, hX⟩ : ∃ X, X = w.alloc (Obj.cells (sc 5 N (.slice B n cb) m0 m1 m2 m3 u).toArray 33) := ⟨_, rfl⟩
  have b1 : Below w.heap.size w X := by rw [hX]; exact (Below.refl _ _).alloc (Nat.le_refl _) _
  have r1 : Row X w.heap.size (sc 5 N (.slice B n cb) m0 m1 m2 m3 u) 33 := by rw [hX]; exact Row.new' rfl rfl
  have g0 := r1.cell 0 _ rfl
  have g1 := r1.cell 1 _ rfl
  have g2 := r1.cell 2 _ rfl
  have HP : Hid (∀ w, _) := fun w => pick_any 5 9 (by decide) (by decide) (by decide) (by decide) w
  rw [show pk 5 9 = 5 from pk_same 5 9 (by decide) (by decide)] at HP
  have hw1 := hw.be b1
  have hv1 : ∀ W, Gro (Rw P none 0 []) X W → SlAt W (.slice B n cb) d := fun W hG => hv W ((Gro.of_below b1).trans hG)
  have HB1 : Hid _ := b1
  have HD2 : Hid (∀ W, Below X.heap.size X W → Calls Try.prog 43 #[.pointer (some ⟨P, 0, none⟩), .agg (vB (dgN 32 d)).toArray] W fun e w' => e = .returned (.tuple #[]) ∧ Beh W w' P none 0 [] 0 (dgN 32 d)) := fun W hB => digest_lays P none 0 [] 0 (by decide) (dgN 32 d) (dgN_len _ _) W (hw1.be hB)
  have HDG : Hid _ := digest_of d n hd B cb _ (hv1 _ (Gro.refl _ _))
  clear b1 r1 hw hv hw1 hv1 hd hn hnil h0 h1 h2 h3
  go_enter Try.func21, Try.ntmps21
  go_wp2_with fail
  rw [← hX]
  clear hX
  refine (HP.out X).mono ?_
  rintro e w2 ⟨rfl, rfl⟩
  go_wp2_with fail
  refine Calls.mono HDG.out ?_
  rintro e W2 ⟨rfl, hB2⟩
  have HB2 : Hid (Below w2.heap.size w2 W2) := hB2
  have HC : Hid _ := HD2.out W2 hB2
  clear hB2 HDG g0 g1 g2
  go_wp2_with fail
  refine Calls.mono HC.out ?_
  rintro e w' ⟨rfl, hh⟩
  have H1 : Hid _ := Beh.after HB1.out (Beh.after HB2.out hh)
  clear hh
  go_wp2_with fail
  first | go_end0 | refine bodyPost_ret (results_none rfl _ _ _) rfl ?_
  exact ⟨rfl, H1.out⟩

set_option maxRecDepth 100000 in
set_option maxHeartbeats 2000000 in
theorem lays_6 (P : Nat) (N : Int) (hN1 : -9223372036854775808 ≤ N) (hN2 : N ≤ 9223372036854775807) (d : List (BitVec 8)) (n : Nat) (hd : d.length = n) (hn : n ≤ 4194304) (B : Option Addr) (cb : Nat) (hnil : B = none → cb = 0) (m0 m1 m2 m3 : Nat) (h0 : m0 < 18446744073709551616) (h1 : m1 < 18446744073709551616) (h2 : m2 < 18446744073709551616) (h3 : m3 < 18446744073709551616) (u : Value) (w : World) (hw : Wr w P none 0 [] 0) (hv : ∀ W, Gro (Rw P none 0 []) w W → SlAt W (.slice B n cb) d) :
    Calls Try.prog 21 #[.pointer (some ⟨P, 0, none⟩), .agg (sc 6 N (.slice B n cb) m0 m1 m2 m3 u).toArray] w fun e w' => e = .returned (.tuple #[]) ∧ Beh w w' P none 0 [] 0 (fo 6 N d m0 m1 m2 m3) := by
  have hall := And.intro hN1 (And.intro hN2 (And.intro hd (And.intro hn (And.intro hnil (And.intro h0 (And.intro h1 (And.intro h2 h3)))))))
  clear hall
  obtain ⟨X, hX⟩ : ∃ X, X = w.alloc (Obj.cells (sc 6 N (.slice B n cb) m0 m1 m2 m3 u).toArray 33) := ⟨_, rfl⟩
  have b1 : Below w.heap.size w X := by rw [hX]; exact (Below.refl _ _).alloc (Nat.le_refl _) _
  have r1 : Row X w.heap.size (sc 6 N (.slice B n cb) m0 m1 m2 m3 u) 33 := by rw [hX]; exact Row.new' rfl rfl
  have g0 := r1.cell 0 _ rfl
  have g1 := r1.cell 1 _ rfl
  have g2 := r1.cell 2 _ rfl
  have HP : Hid (∀ w, _) := fun w => pick_any 6 9 (by decide) (by decide) (by decide) (by decide) w
  rw [show pk 6 9 = 6 from pk_same 6 9 (by decide) (by decide)] at HP
  have hw1 := hw.be b1
  have hv1 : ∀ W, Gro (Rw P none 0 []) X W → SlAt W (.slice B n cb) d := fun W hG => hv W ((Gro.of_below b1).trans hG)
  have HB1 : Hid _ := b1
  have HD2 : Hid (∀ W, Below X.heap.size X W → Calls Try.prog 46 #[.pointer (some ⟨P, 0, none⟩), .agg (vB (dgN 20 d)).toArray] W fun e w' => e = .returned (.tuple #[]) ∧ Beh W w' P none 0 [] 0 (dgN 20 d)) := fun W hB => address_lays P none 0 [] 0 (by decide) (dgN 20 d) (dgN_len _ _) W (hw1.be hB)
  have HDG : Hid _ := address_of d n hd B cb _ (hv1 _ (Gro.refl _ _))
  clear b1 r1 hw hv hw1 hv1 hd hn hnil h0 h1 h2 h3
  go_enter Try.func21, Try.ntmps21
  go_wp2_with fail
  rw [← hX]
  clear hX
  refine (HP.out X).mono ?_
  rintro e w2 ⟨rfl, rfl⟩
  go_wp2_with fail
  refine Calls.mono HDG.out ?_
  rintro e W2 ⟨rfl, hB2⟩
  have HB2 : Hid (Below w2.heap.size w2 W2) := hB2
  have HC : Hid _ := HD2.out W2 hB2
  clear hB2 HDG g0 g1 g2
  go_wp2_with fail
  refine Calls.mono HC.out ?_
  rintro e w' ⟨rfl, hh⟩
  have H1 : Hid _ := Beh.after HB1.out (Beh.after HB2.out hh)
  clear hh
  go_wp2_with fail
  first | go_end0 | refine bodyPost_ret (results_none rfl _ _ _) rfl ?_
  exact ⟨rfl, H1.out⟩

end Go.Proofs.Ytmkmdbpibpbcjaa
