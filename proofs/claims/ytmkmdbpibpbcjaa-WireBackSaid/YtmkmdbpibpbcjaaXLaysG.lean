/-
  The law's lays, behind whatever was laid.
-/
import Derived.Test.YtmkmdbpibpbcjaaXLaysK
namespace Go.Proofs.Ytmkmdbpibpbcjaa
open Go Go.RowKit
open Sha

set_option maxRecDepth 100000 in
set_option maxHeartbeats 2000000 in
theorem laysg_0 (P : Nat) (A : Option Addr) (ca : Nat) (xs : List (BitVec 8)) (hxs : xs.length ≤ 4194304) (f : Int) (N : Int) (hN1 : -9223372036854775808 ≤ N) (hN2 : N ≤ 9223372036854775807) (d : List (BitVec 8)) (n : Nat) (hd : d.length = n) (hn : n ≤ 4194304) (B : Option Addr) (cb : Nat) (hnil : B = none → cb = 0) (m0 m1 m2 m3 : Nat) (h0 : m0 < 18446744073709551616) (h1 : m1 < 18446744073709551616) (h2 : m2 < 18446744073709551616) (h3 : m3 < 18446744073709551616) (u : Value) (w : World) (hw : Wr w P A ca xs f) (hv : ∀ W, Gro (Rw P A ca xs) w W → SlAt W (.slice B n cb) d) :
    Calls Try.prog 21 #[.pointer (some ⟨P, 0, none⟩), .agg (sc 0 N (.slice B n cb) m0 m1 m2 m3 u).toArray] w fun e w' => e = .returned (.tuple #[]) ∧ Beh w w' P A ca xs f (fo 0 N d m0 m1 m2 m3) := by
  have hall := And.intro hN1 (And.intro hN2 (And.intro hd (And.intro hn (And.intro hnil (And.intro h0 (And.intro h1 (And.intro h2 h3)))))))
  clear hall
  obtain ⟨X, hX⟩ : ∃ X, X = w.alloc (Obj.cells (sc 0 N (.slice B n cb) m0 m1 m2 m3 u).toArray 33) := ⟨_, rfl⟩
  have b1 : Below w.heap.size w X := by rw [hX]; exact (Below.refl _ _).alloc (Nat.le_refl _) _
  have r1 : Row X w.heap.size (sc 0 N (.slice B n cb) m0 m1 m2 m3 u) 33 := by rw [hX]; exact Row.new' rfl rfl
  have g0 := r1.cell 0 _ rfl
  have g1 := r1.cell 1 _ rfl
  have g2 := r1.cell 2 _ rfl
  have HP : Hid (∀ w, _) := fun w => pick_any 0 9 (by decide) (by decide) (by decide) (by decide) w
  rw [show pk 0 9 = 0 from pk_same 0 9 (by decide) (by decide)] at HP
  have hw1 := hw.be b1
  have hv1 : ∀ W, Gro (Rw P A ca xs) X W → SlAt W (.slice B n cb) d := fun W hG => hv W ((Gro.of_below b1).trans hG)
  have HB1 : Hid _ := b1
  have HC : Hid _ := byte_any P A ca xs f hxs (BitVec.ofInt 8 N) (N % 256) (c_ofInt N).symm _ hw1
  clear b1 r1 hw hv hw1 hv1 hxs hd hn hnil h0 h1 h2 h3
  go_enter Try.func21, Try.ntmps21
  go_wp2_with fail
  rw [← hX]
  clear hX
  refine (HP.out X).mono ?_
  rintro e w2 ⟨rfl, rfl⟩
  go_wp2_with fail
  refine Calls.mono HC.out ?_
  rintro e w' ⟨rfl, hh⟩
  have H1 : Hid _ := Beh.after HB1.out hh
  clear hh
  go_wp2_with fail
  first | go_end0 | refine bodyPost_ret (results_none rfl _ _ _) rfl ?_
  exact ⟨rfl, H1.out⟩

set_option maxRecDepth 100000 in
set_option maxHeartbeats 2000000 in
theorem laysg_1 (P : Nat) (A : Option Addr) (ca : Nat) (xs : List (BitVec 8)) (hxs : xs.length ≤ 4194304) (f : Int) (N : Int) (hN1 : -9223372036854775808 ≤ N) (hN2 : N ≤ 9223372036854775807) (d : List (BitVec 8)) (n : Nat) (hd : d.length = n) (hn : n ≤ 4194304) (B : Option Addr) (cb : Nat) (hnil : B = none → cb = 0) (m0 m1 m2 m3 : Nat) (h0 : m0 < 18446744073709551616) (h1 : m1 < 18446744073709551616) (h2 : m2 < 18446744073709551616) (h3 : m3 < 18446744073709551616) (u : Value) (w : World) (hw : Wr w P A ca xs f) (hv : ∀ W, Gro (Rw P A ca xs) w W → SlAt W (.slice B n cb) d) :
    Calls Try.prog 21 #[.pointer (some ⟨P, 0, none⟩), .agg (sc 1 N (.slice B n cb) m0 m1 m2 m3 u).toArray] w fun e w' => e = .returned (.tuple #[]) ∧ Beh w w' P A ca xs f (fo 1 N d m0 m1 m2 m3) := by
  have hall := And.intro hN1 (And.intro hN2 (And.intro hd (And.intro hn (And.intro hnil (And.intro h0 (And.intro h1 (And.intro h2 h3)))))))
  clear hall
  obtain ⟨X, hX⟩ : ∃ X, X = w.alloc (Obj.cells (sc 1 N (.slice B n cb) m0 m1 m2 m3 u).toArray 33) := ⟨_, rfl⟩
  have b1 : Below w.heap.size w X := by rw [hX]; exact (Below.refl _ _).alloc (Nat.le_refl _) _
  have r1 : Row X w.heap.size (sc 1 N (.slice B n cb) m0 m1 m2 m3 u) 33 := by rw [hX]; exact Row.new' rfl rfl
  have g0 := r1.cell 0 _ rfl
  have g1 := r1.cell 1 _ rfl
  have g2 := r1.cell 2 _ rfl
  have HP : Hid (∀ w, _) := fun w => pick_any 1 9 (by decide) (by decide) (by decide) (by decide) w
  rw [show pk 1 9 = 1 from pk_same 1 9 (by decide) (by decide)] at HP
  have hw1 := hw.be b1
  have hv1 : ∀ W, Gro (Rw P A ca xs) X W → SlAt W (.slice B n cb) d := fun W hG => hv W ((Gro.of_below b1).trans hG)
  have HB1 : Hid _ := b1
  have HC : Hid _ := flag_any P A ca xs f hxs (!(N.tmod 2 == 0)) _ hw1
  clear b1 r1 hw hv hw1 hv1 hxs hd hn hnil h0 h1 h2 h3
  go_enter Try.func21, Try.ntmps21
  go_wp2_with fail
  rw [← hX]
  clear hX
  refine (HP.out X).mono ?_
  rintro e w2 ⟨rfl, rfl⟩
  go_wp2_with fail
  refine Calls.mono HC.out ?_
  rintro e w' ⟨rfl, hh⟩
  have H1 : Hid _ := Beh.after HB1.out hh
  clear hh
  go_wp2_with fail
  first | go_end0 | refine bodyPost_ret (results_none rfl _ _ _) rfl ?_
  exact ⟨rfl, H1.out⟩

set_option maxRecDepth 100000 in
set_option maxHeartbeats 2000000 in
theorem laysg_2 (P : Nat) (A : Option Addr) (ca : Nat) (xs : List (BitVec 8)) (hxs : xs.length ≤ 4194304) (f : Int) (N : Int) (hN1 : -9223372036854775808 ≤ N) (hN2 : N ≤ 9223372036854775807) (d : List (BitVec 8)) (n : Nat) (hd : d.length = n) (hn : n ≤ 4194304) (B : Option Addr) (cb : Nat) (hnil : B = none → cb = 0) (m0 m1 m2 m3 : Nat) (h0 : m0 < 18446744073709551616) (h1 : m1 < 18446744073709551616) (h2 : m2 < 18446744073709551616) (h3 : m3 < 18446744073709551616) (u : Value) (w : World) (hw : Wr w P A ca xs f) (hv : ∀ W, Gro (Rw P A ca xs) w W → SlAt W (.slice B n cb) d) :
    Calls Try.prog 21 #[.pointer (some ⟨P, 0, none⟩), .agg (sc 2 N (.slice B n cb) m0 m1 m2 m3 u).toArray] w fun e w' => e = .returned (.tuple #[]) ∧ Beh w w' P A ca xs f (fo 2 N d m0 m1 m2 m3) := by
  have hall := And.intro hN1 (And.intro hN2 (And.intro hd (And.intro hn (And.intro hnil (And.intro h0 (And.intro h1 (And.intro h2 h3)))))))
  clear hall
  obtain ⟨X, hX⟩ : ∃ X, X = w.alloc (Obj.cells (sc 2 N (.slice B n cb) m0 m1 m2 m3 u).toArray 33) := ⟨_, rfl⟩
  have b1 : Below w.heap.size w X := by rw [hX]; exact (Below.refl _ _).alloc (Nat.le_refl _) _
  have r1 : Row X w.heap.size (sc 2 N (.slice B n cb) m0 m1 m2 m3 u) 33 := by rw [hX]; exact Row.new' rfl rfl
  have g0 := r1.cell 0 _ rfl
  have g1 := r1.cell 1 _ rfl
  have g2 := r1.cell 2 _ rfl
  have HP : Hid (∀ w, _) := fun w => pick_any 2 9 (by decide) (by decide) (by decide) (by decide) w
  rw [show pk 2 9 = 2 from pk_same 2 9 (by decide) (by decide)] at HP
  have hw1 := hw.be b1
  have hv1 : ∀ W, Gro (Rw P A ca xs) X W → SlAt W (.slice B n cb) d := fun W hG => hv W ((Gro.of_below b1).trans hG)
  have HB1 : Hid _ := b1
  have hpr := pk_range N mx (by decide)
  have hpm : pk N mx < 9223372036854775807 := hpr.2
  have HP2 : Hid (∀ w, _) := fun w => pick_any N mx (by decide) hN1 hN2 (by decide) w
  obtain ⟨m, hm⟩ : ∃ m : Nat, pk N mx = (m : Int) := ⟨(pk N mx).toNat, by omega⟩
  have hmt : (pk N mx).toNat = m := by omega
  have HC : Hid (Calls Try.prog 28 #[.pointer (some ⟨P, 0, none⟩), .int .i64 (m : Int)] X fun e w' => e = .returned (.tuple #[]) ∧ Beh X w' P A ca xs f (fo 2 N d m0 m1 m2 m3)) := by
    show Calls _ _ _ _ _
    unfold fo
    simp only
    rw [hmt]
    exact number_in P A ca xs f m (by omega) _ rfl hxs _ (Rw P A ca xs) rfl hw1
  rw [hm] at HP2
  clear b1 r1 hw hv hw1 hv1 hxs hd hn hnil h0 h1 h2 h3 hpr hpm hm hmt
  go_enter Try.func21, Try.ntmps21
  go_wp2_with fail
  rw [← hX]
  clear hX
  refine (HP.out X).mono ?_
  rintro e w2 ⟨rfl, rfl⟩
  go_wp2_with (go_at_call 30; refine (HP2.out _).mono ?_; rintro e w3 ⟨rfl, rfl⟩)
  refine Calls.mono HC.out ?_
  rintro e w' ⟨rfl, hh⟩
  have H1 : Hid _ := Beh.after HB1.out hh
  clear hh
  go_wp2_with fail
  first | go_end0 | refine bodyPost_ret (results_none rfl _ _ _) rfl ?_
  exact ⟨rfl, H1.out⟩

set_option maxRecDepth 100000 in
set_option maxHeartbeats 2000000 in
theorem laysg_3 (P : Nat) (A : Option Addr) (ca : Nat) (xs : List (BitVec 8)) (hxs : xs.length ≤ 4194304) (f : Int) (N : Int) (hN1 : -9223372036854775808 ≤ N) (hN2 : N ≤ 9223372036854775807) (d : List (BitVec 8)) (n : Nat) (hd : d.length = n) (hn : n ≤ 4194304) (B : Option Addr) (cb : Nat) (hnil : B = none → cb = 0) (m0 m1 m2 m3 : Nat) (h0 : m0 < 18446744073709551616) (h1 : m1 < 18446744073709551616) (h2 : m2 < 18446744073709551616) (h3 : m3 < 18446744073709551616) (u : Value) (w : World) (hw : Wr w P A ca xs f) (hv : ∀ W, Gro (Rw P A ca xs) w W → SlAt W (.slice B n cb) d) :
    Calls Try.prog 21 #[.pointer (some ⟨P, 0, none⟩), .agg (sc 3 N (.slice B n cb) m0 m1 m2 m3 u).toArray] w fun e w' => e = .returned (.tuple #[]) ∧ Beh w w' P A ca xs f (fo 3 N d m0 m1 m2 m3) := by
  have hall := And.intro hN1 (And.intro hN2 (And.intro hd (And.intro hn (And.intro hnil (And.intro h0 (And.intro h1 (And.intro h2 h3)))))))
  clear hall
  obtain ⟨X, hX⟩ : ∃ X, X = w.alloc (Obj.cells (sc 3 N (.slice B n cb) m0 m1 m2 m3 u).toArray 33) := ⟨_, rfl⟩
  have b1 : Below w.heap.size w X := by rw [hX]; exact (Below.refl _ _).alloc (Nat.le_refl _) _
  have r1 : Row X w.heap.size (sc 3 N (.slice B n cb) m0 m1 m2 m3 u) 33 := by rw [hX]; exact Row.new' rfl rfl
  have g0 := r1.cell 0 _ rfl
  have g1 := r1.cell 1 _ rfl
  have g2 := r1.cell 2 _ rfl
  have HP : Hid (∀ w, _) := fun w => pick_any 3 9 (by decide) (by decide) (by decide) (by decide) w
  rw [show pk 3 9 = 3 from pk_same 3 9 (by decide) (by decide)] at HP
  have hw1 := hw.be b1
  have hv1 : ∀ W, Gro (Rw P A ca xs) X W → SlAt W (.slice B n cb) d := fun W hG => hv W ((Gro.of_below b1).trans hG)
  have HB1 : Hid _ := b1
  have HC : Hid (Calls Try.prog 37 #[.pointer (some ⟨P, 0, none⟩), .slice B n cb] X fun e w' => e = .returned (.tuple #[]) ∧ Beh X w' P A ca xs f (fo 3 N d m0 m1 m2 m3)) := by
    show Calls _ _ _ _ _
    unfold fo
    simp only
    rw [hd]
    exact bytes_lays P A ca xs f hxs d n hd (by omega) B cb hnil _ rfl _ hw1 hv1 (by omega)
  clear b1 r1 hw hv hw1 hv1 hxs hd hn hnil h0 h1 h2 h3
  go_enter Try.func21, Try.ntmps21
  go_wp2_with fail
  rw [← hX]
  clear hX
  refine (HP.out X).mono ?_
  rintro e w2 ⟨rfl, rfl⟩
  go_wp2_with fail
  refine Calls.mono HC.out ?_
  rintro e w' ⟨rfl, hh⟩
  have H1 : Hid _ := Beh.after HB1.out hh
  clear hh
  go_wp2_with fail
  first | go_end0 | refine bodyPost_ret (results_none rfl _ _ _) rfl ?_
  exact ⟨rfl, H1.out⟩

set_option maxRecDepth 100000 in
set_option maxHeartbeats 2000000 in
theorem laysg_4 (P : Nat) (A : Option Addr) (ca : Nat) (xs : List (BitVec 8)) (hxs : xs.length ≤ 4194304) (f : Int) (N : Int) (hN1 : -9223372036854775808 ≤ N) (hN2 : N ≤ 9223372036854775807) (d : List (BitVec 8)) (n : Nat) (hd : d.length = n) (hn : n ≤ 4194304) (B : Option Addr) (cb : Nat) (hnil : B = none → cb = 0) (m0 m1 m2 m3 : Nat) (h0 : m0 < 18446744073709551616) (h1 : m1 < 18446744073709551616) (h2 : m2 < 18446744073709551616) (h3 : m3 < 18446744073709551616) (u : Value) (w : World) (hw : Wr w P A ca xs f) (hv : ∀ W, Gro (Rw P A ca xs) w W → SlAt W (.slice B n cb) d) :
    Calls Try.prog 21 #[.pointer (some ⟨P, 0, none⟩), .agg (sc 4 N (.slice B n cb) m0 m1 m2 m3 u).toArray] w fun e w' => e = .returned (.tuple #[]) ∧ Beh w w' P A ca xs f (fo 4 N d m0 m1 m2 m3) := by
  have hall := And.intro hN1 (And.intro hN2 (And.intro hd (And.intro hn (And.intro hnil (And.intro h0 (And.intro h1 (And.intro h2 h3)))))))
  clear hall
  obtain ⟨X, hX⟩ : ∃ X, X = w.alloc (Obj.cells (sc 4 N (.slice B n cb) m0 m1 m2 m3 u).toArray 33) := ⟨_, rfl⟩
  have b1 : Below w.heap.size w X := by rw [hX]; exact (Below.refl _ _).alloc (Nat.le_refl _) _
  have r1 : Row X w.heap.size (sc 4 N (.slice B n cb) m0 m1 m2 m3 u) 33 := by rw [hX]; exact Row.new' rfl rfl
  have g0 := r1.cell 0 _ rfl
  have g1 := r1.cell 1 _ rfl
  have g2 := r1.cell 2 _ rfl
  have HP : Hid (∀ w, _) := fun w => pick_any 4 9 (by decide) (by decide) (by decide) (by decide) w
  rw [show pk 4 9 = 4 from pk_same 4 9 (by decide) (by decide)] at HP
  have hw1 := hw.be b1
  have hv1 : ∀ W, Gro (Rw P A ca xs) X W → SlAt W (.slice B n cb) d := fun W hG => hv W ((Gro.of_below b1).trans hG)
  have HB1 : Hid _ := b1
  have HC : Hid (Calls Try.prog 41 #[.pointer (some ⟨P, 0, none⟩), .agg (q4 m0 m1 m2 m3).toArray] X fun e w' => e = .returned (.tuple #[]) ∧ Beh X w' P A ca xs f (fo 4 N d m0 m1 m2 m3)) := wide_any P A ca xs f m0 m1 m2 m3 h0 h1 h2 h3 _ rfl hxs _ (Rw P A ca xs) rfl hw1
  have rW : X.rangeAt w.heap.size 3 (q4 m0 m1 m2 m3) := r1.range 3 _ (fun j v hj => by
    rcases (show j = 0 ∨ j = 1 ∨ j = 2 ∨ j = 3 ∨ 4 ≤ j by omega) with rfl | rfl | rfl | rfl | hj4
    · exact hj
    · exact hj
    · exact hj
    · exact hj
    · rw [List.getElem?_eq_none (by simp; omega)] at hj; cases hj)
  clear b1 r1 hw hv hw1 hv1 hxs hd hn hnil h0 h1 h2 h3
  go_enter Try.func21, Try.ntmps21
  go_wp2_with fail
  rw [← hX]
  clear hX
  refine (HP.out X).mono ?_
  rintro e w2 ⟨rfl, rfl⟩
  go_wp2_with (refine wpList_load_w rfl 30 (.tmp 38) rfl w.heap.size 3 rfl (q4 m0 m1 m2 m3) _ rW Try.underlying30 rfl info_q ?_; simp only [Act.put, List.setIfInBounds_toArray, List.set_cons_zero, List.set_cons_succ])
  refine Calls.mono HC.out ?_
  rintro e w' ⟨rfl, hh⟩
  have H1 : Hid _ := Beh.after HB1.out hh
  clear hh
  go_wp2_with fail
  first | go_end0 | refine bodyPost_ret (results_none rfl _ _ _) rfl ?_
  exact ⟨rfl, H1.out⟩

set_option maxRecDepth 100000 in
set_option maxHeartbeats 2000000 in
theorem laysg_5 (P : Nat) (A : Option Addr) (ca : Nat) (xs : List (BitVec 8)) (hxs : xs.length ≤ 4194304) (f : Int) (N : Int) (hN1 : -9223372036854775808 ≤ N) (hN2 : N ≤ 9223372036854775807) (d : List (BitVec 8)) (n : Nat) (hd : d.length = n) (hn : n ≤ 4194304) (B : Option Addr) (cb : Nat) (hnil : B = none → cb = 0) (m0 m1 m2 m3 : Nat) (h0 : m0 < 18446744073709551616) (h1 : m1 < 18446744073709551616) (h2 : m2 < 18446744073709551616) (h3 : m3 < 18446744073709551616) (u : Value) (w : World) (hw : Wr w P A ca xs f) (hv : ∀ W, Gro (Rw P A ca xs) w W → SlAt W (.slice B n cb) d) :
    Calls Try.prog 21 #[.pointer (some ⟨P, 0, none⟩), .agg (sc 5 N (.slice B n cb) m0 m1 m2 m3 u).toArray] w fun e w' => e = .returned (.tuple #[]) ∧ Beh w w' P A ca xs f (fo 5 N d m0 m1 m2 m3) := by
  have hall := And.intro hN1 (And.intro hN2 (And.intro hd (And.intro hn (And.intro hnil (And.intro h0 (And.intro h1 (And.intro h2 h3)))))))
  clear hall
  obtain ⟨X, hX⟩ : ∃ X, X = w.alloc (Obj.cells (sc 5 N (.slice B n cb) m0 m1 m2 m3 u).toArray 33) := ⟨_, rfl⟩
  have b1 : Below w.heap.size w X := by rw [hX]; exact (Below.refl _ _).alloc (Nat.le_refl _) _
  have r1 : Row X w.heap.size (sc 5 N (.slice B n cb) m0 m1 m2 m3 u) 33 := by rw [hX]; exact Row.new' rfl rfl
  have g0 := r1.cell 0 _ rfl
  have g1 := r1.cell 1 _ rfl
  have g2 := r1.cell 2 _ rfl
  have HP : Hid (∀ w, _) := fun w => pick_any 5 9 (by decide) (by decide) (by decide) (by decide) w
  rw [show pk 5 9 = 5 from pk_same 5 9 (by decide) (by decide)] at HP
  have hw1 := hw.be b1
  have hv1 : ∀ W, Gro (Rw P A ca xs) X W → SlAt W (.slice B n cb) d := fun W hG => hv W ((Gro.of_below b1).trans hG)
  have HB1 : Hid _ := b1
  have HD2 : Hid (∀ W, Below X.heap.size X W → Calls Try.prog 43 #[.pointer (some ⟨P, 0, none⟩), .agg (vB (dgN 32 d)).toArray] W fun e w' => e = .returned (.tuple #[]) ∧ Beh W w' P A ca xs f (dgN 32 d)) := fun W hB => digest_lays P A ca xs f hxs (dgN 32 d) (dgN_len _ _) W (hw1.be hB)
  have HDG : Hid _ := digest_of d n hd B cb _ (hv1 _ (Gro.refl _ _))
  clear b1 r1 hw hv hw1 hv1 hxs hd hn hnil h0 h1 h2 h3
  go_enter Try.func21, Try.ntmps21
  go_wp2_with fail
  rw [← hX]
  clear hX
  refine (HP.out X).mono ?_
  rintro e w2 ⟨rfl, rfl⟩
  go_wp2_with fail
  refine Calls.mono HDG.out ?_
  rintro e W2 ⟨rfl, hB2⟩
  have HB2 : Hid (Below w2.heap.size w2 W2) := hB2
  have HC : Hid _ := HD2.out W2 hB2
  clear hB2 HDG g0 g1 g2
  go_wp2_with fail
  refine Calls.mono HC.out ?_
  rintro e w' ⟨rfl, hh⟩
  have H1 : Hid _ := Beh.after HB1.out (Beh.after HB2.out hh)
  clear hh
  go_wp2_with fail
  first | go_end0 | refine bodyPost_ret (results_none rfl _ _ _) rfl ?_
  exact ⟨rfl, H1.out⟩

set_option maxRecDepth 100000 in
set_option maxHeartbeats 2000000 in
theorem laysg_6 (P : Nat) (A : Option Addr) (ca : Nat) (xs : List (BitVec 8)) (hxs : xs.length ≤ 4194304) (f : Int) (N : Int) (hN1 : -9223372036854775808 ≤ N) (hN2 : N ≤ 9223372036854775807) (d : List (BitVec 8)) (n : Nat) (hd : d.length = n) (hn : n ≤ 4194304) (B : Option Addr) (cb : Nat) (hnil : B = none → cb = 0) (m0 m1 m2 m3 : Nat) (h0 : m0 < 18446744073709551616) (h1 : m1 < 18446744073709551616) (h2 : m2 < 18446744073709551616) (h3 : m3 < 18446744073709551616) (u : Value) (w : World) (hw : Wr w P A ca xs f) (hv : ∀ W, Gro (Rw P A ca xs) w W → SlAt W (.slice B n cb) d) :
    Calls Try.prog 21 #[.pointer (some ⟨P, 0, none⟩), .agg (sc 6 N (.slice B n cb) m0 m1 m2 m3 u).toArray] w fun e w' => e = .returned (.tuple #[]) ∧ Beh w w' P A ca xs f (fo 6 N d m0 m1 m2 m3) := by
  have hall := And.intro hN1 (And.intro hN2 (And.intro hd (And.intro hn (And.intro hnil (And.intro h0 (And.intro h1 (And.intro h2 h3)))))))
  clear hall
  obtain ⟨X, hX⟩ : ∃ X, X = w.alloc (Obj.cells (sc 6 N (.slice B n cb) m0 m1 m2 m3 u).toArray 33) := ⟨_, rfl⟩
  have b1 : Below w.heap.size w X := by rw [hX]; exact (Below.refl _ _).alloc (Nat.le_refl _) _
  have r1 : Row X w.heap.size (sc 6 N (.slice B n cb) m0 m1 m2 m3 u) 33 := by rw [hX]; exact Row.new' rfl rfl
  have g0 := r1.cell 0 _ rfl
  have g1 := r1.cell 1 _ rfl
  have g2 := r1.cell 2 _ rfl
  have HP : Hid (∀ w, _) := fun w => pick_any 6 9 (by decide) (by decide) (by decide) (by decide) w
  rw [show pk 6 9 = 6 from pk_same 6 9 (by decide) (by decide)] at HP
  have hw1 := hw.be b1
  have hv1 : ∀ W, Gro (Rw P A ca xs) X W → SlAt W (.slice B n cb) d := fun W hG => hv W ((Gro.of_below b1).trans hG)
  have HB1 : Hid _ := b1
  have HD2 : Hid (∀ W, Below X.heap.size X W → Calls Try.prog 46 #[.pointer (some ⟨P, 0, none⟩), .agg (vB (dgN 20 d)).toArray] W fun e w' => e = .returned (.tuple #[]) ∧ Beh W w' P A ca xs f (dgN 20 d)) := fun W hB => address_lays P A ca xs f hxs (dgN 20 d) (dgN_len _ _) W (hw1.be hB)
  have HDG : Hid _ := address_of d n hd B cb _ (hv1 _ (Gro.refl _ _))
  clear b1 r1 hw hv hw1 hv1 hxs hd hn hnil h0 h1 h2 h3
  go_enter Try.func21, Try.ntmps21
  go_wp2_with fail
  rw [← hX]
  clear hX
  refine (HP.out X).mono ?_
  rintro e w2 ⟨rfl, rfl⟩
  go_wp2_with fail
  refine Calls.mono HDG.out ?_
  rintro e W2 ⟨rfl, hB2⟩
  have HB2 : Hid (Below w2.heap.size w2 W2) := hB2
  have HC : Hid _ := HD2.out W2 hB2
  clear hB2 HDG g0 g1 g2
  go_wp2_with fail
  refine Calls.mono HC.out ?_
  rintro e w' ⟨rfl, hh⟩
  have H1 : Hid _ := Beh.after HB1.out (Beh.after HB2.out hh)
  clear hh
  go_wp2_with fail
  first | go_end0 | refine bodyPost_ret (results_none rfl _ _ _) rfl ?_
  exact ⟨rfl, H1.out⟩

end Go.Proofs.Ytmkmdbpibpbcjaa
