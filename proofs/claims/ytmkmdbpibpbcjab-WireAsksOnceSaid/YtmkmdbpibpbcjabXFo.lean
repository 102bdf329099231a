/-
  The law's form, size, begins.
-/
import Derived.Test.YtmkmdbpibpbcjabXLaysK
namespace Go.Proofs.Ytmkmdbpibpbcjab
open Go Go.RowKit
open Sha

theorem lays_any (k : Nat) (hk : k < 7) (P : Nat) (N : Int) (hN1 : -9223372036854775808 ≤ N) (hN2 : N ≤ 9223372036854775807) (d : List (BitVec 8)) (n : Nat) (hd : d.length = n) (hn : n ≤ 4194304) (B : Option Addr) (cb : Nat) (hnil : B = none → cb = 0) (m0 m1 m2 m3 : Nat) (h0 : m0 < 18446744073709551616) (h1 : m1 < 18446744073709551616) (h2 : m2 < 18446744073709551616) (h3 : m3 < 18446744073709551616) (u : Value) (w : World) (hw : Wr w P none 0 [] 0) (hv : ∀ W, Gro (Rw P none 0 []) w W → SlAt W (.slice B n cb) d) :
    Calls Try.prog 34 #[.pointer (some ⟨P, 0, none⟩), .agg (sc (k : Int) N (.slice B n cb) m0 m1 m2 m3 u).toArray] w fun e w' => e = .returned (.tuple #[]) ∧ Beh w w' P none 0 [] 0 (fo k N d m0 m1 m2 m3) := by
  rcases (show k = 0 ∨ k = 1 ∨ k = 2 ∨ k = 3 ∨ k = 4 ∨ k = 5 ∨ k = 6 by omega) with rfl | rfl | rfl | rfl | rfl | rfl | rfl
  · exact lays_0 P N hN1 hN2 d n hd hn B cb hnil m0 m1 m2 m3 h0 h1 h2 h3 u w hw hv
  · exact lays_1 P N hN1 hN2 d n hd hn B cb hnil m0 m1 m2 m3 h0 h1 h2 h3 u w hw hv
  · exact lays_2 P N hN1 hN2 d n hd hn B cb hnil m0 m1 m2 m3 h0 h1 h2 h3 u w hw hv
  · exact lays_3 P N hN1 hN2 d n hd hn B cb hnil m0 m1 m2 m3 h0 h1 h2 h3 u w hw hv
  · exact lays_4 P N hN1 hN2 d n hd hn B cb hnil m0 m1 m2 m3 h0 h1 h2 h3 u w hw hv
  · exact lays_5 P N hN1 hN2 d n hd hn B cb hnil m0 m1 m2 m3 h0 h1 h2 h3 u w hw hv
  · exact lays_6 P N hN1 hN2 d n hd hn B cb hnil m0 m1 m2 m3 h0 h1 h2 h3 u w hw hv
theorem fo_len (k : Nat) (N : Int) (d : List (BitVec 8)) (m0 m1 m2 m3 : Nat) (hd : d.length ≤ 4194200) : 0 < (fo k N d m0 m1 m2 m3).length ∧ (fo k N d m0 m1 m2 m3).length ≤ 4194304 := by
  have q1 := nb_le (pk N mx).toNat 0 0 0
  have q2 := nb_le d.length 0 0 0
  have q3 := nb_le m0 m1 m2 m3
  unfold fo
  split <;> simp only [List.length_append, List.length_singleton, fm_len, dgN_len] <;> omega

set_option maxRecDepth 100000 in
set_option maxHeartbeats 2000000 in
theorem form_any (k : Nat) (hk : k < 7) (N : Int) (hN1 : -9223372036854775808 ≤ N) (hN2 : N ≤ 9223372036854775807) (d : List (BitVec 8)) (n : Nat) (hd : d.length = n) (hn : n ≤ 4194200) (B : Option Addr) (cb : Nat) (hnil : B = none → cb = 0) (m0 m1 m2 m3 : Nat) (h0 : m0 < 18446744073709551616) (h1 : m1 < 18446744073709551616) (h2 : m2 < 18446744073709551616) (h3 : m3 < 18446744073709551616) (u : Value) (w : World) (hv : SlAt w (.slice B n cb) d) (x : List (BitVec 8)) (hx : x = fo k N d m0 m1 m2 m3) :
    Calls Try.prog 10 #[.agg (sc (k : Int) N (.slice B n cb) m0 m1 m2 m3 u).toArray] w fun e w' => ∃ A' c', e = .returned (.slice A' x.length c') ∧ Bw w' (.slice A' x.length c') x ∧ Below w.heap.size w w' := by
  have hfl := fo_len k N d m0 m1 m2 m3 (by omega)
  rw [← hx] at hfl
  have eB : wrB [] 0 x = x := by unfold wrB; rw [if_pos rfl, if_pos (by simpa using hfl.2)]; rfl
  have eF : wrF [] 0 x = 0 := by unfold wrF; rw [if_pos rfl, if_pos (by simpa using hfl.2)]
  have b1 : Below w.heap.size w (w.alloc (Obj.cells (sc (k : Int) N (.slice B n cb) m0 m1 m2 m3 u).toArray 28)) := (Below.refl _ _).alloc (Nat.le_refl _) _
  have r1 : Row (w.alloc (Obj.cells (sc (k : Int) N (.slice B n cb) m0 m1 m2 m3 u).toArray 28)) w.heap.size (sc (k : Int) N (.slice B n cb) m0 m1 m2 m3 u) 28 := Row.new' rfl rfl
  have HL : Hid (∀ P W, Below w.heap.size w W → w.heap.size ≤ P → Wr W P none 0 [] 0 → Calls Try.prog 34 #[.pointer (some ⟨P, 0, none⟩), .agg (sc (k : Int) N (.slice B n cb) m0 m1 m2 m3 u).toArray] W fun e w' => e = .returned (.tuple #[]) ∧ Beh W w' P none 0 [] 0 x) := fun P W hB hP hw => by
    rw [hx]
    exact lays_any k hk P N hN1 hN2 d n hd (by omega) B cb hnil m0 m1 m2 m3 h0 h1 h2 h3 u W hw (fun W' hG => hv.be (hB.trans (hG.to_below hB.size (fun g hg => by rw [Rw_of g hg]; exact hP))))
  have EB : Hid (wrB [] 0 x = x) := eB
  have EF : Hid (wrF [] 0 x = 0) := eF
  have HX : Hid (x.length ≤ 4194304) := hfl.2
  clear hfl eB eF hv hx hk hN1 hN2 hd hn hnil h0 h1 h2 h3
  generalize hs : sc (k : Int) N (.slice B n cb) m0 m1 m2 m3 u = s at *
  have hsl : s.length = 8 := by rw [← hs]; rfl
  have HI : Hid ((Try.prog.info? 28).map (·.size) = some s.length) := by rw [info_st, hsl]; rfl
  clear hs hsl
  obtain ⟨X, hX⟩ : ∃ X, X = w.alloc (Obj.cells s.toArray 28) := ⟨_, rfl⟩
  rw [← hX] at b1 r1
  go_enter Try.func10, Try.ntmps10
  go_wp2_with fail
  rw [← hX]
  clear hX
  refine (newWriter_any X).mono ?_
  rintro e V0 ⟨rfl, hw0, hb0⟩
  have B0 : Hid (Below w.heap.size w V0) := b1.trans (hb0.mono b1.size)
  have R0 : Hid (Row V0 w.heap.size s 28) := Row.below r1 hb0 r1.lt
  have HC : Hid _ := HL.out X.heap.size V0 B0.out b1.size hw0
  have HP : Hid (w.heap.size ≤ X.heap.size) := b1.size
  clear hw0 hb0 b1 r1 HL
  go_wp2_with (refine wpList_load_w rfl 28 (.tmp 1) rfl w.heap.size 0 rfl s _ (Row.all R0.out) Try.underlying28 rfl HI.out ?_; simp only [Act.put, List.setIfInBounds_toArray, List.set_cons_zero, List.set_cons_succ])
  refine Calls.mono HC.out ?_
  rintro e V1 ⟨rfl, ⟨A1, c1, hw1, _⟩, hG1⟩
  rw [EB.out, EF.out] at hw1
  have B1 : Hid (Below w.heap.size w V1) := B0.out.trans (hG1.to_below B0.out.size (fun g hg => by rw [Rw_of g hg]; exact HP.out))
  have HD : Hid _ := done_ok X.heap.size A1 c1 x (by have := HX.out; omega) V1 hw1
  clear hw1 hG1 HC R0 B0
  go_wp2_with fail
  refine Calls.mono HD.out ?_
  rintro e V2 ⟨A2, c2, rfl, hbw, _, hb2⟩
  have HBW : Hid (Bw _ _ _) := hbw
  have B2 : Hid (Below w.heap.size w V2) := B1.out.trans (hb2.mono B1.out.size)
  clear hbw hb2 HD
  go_wp2_with fail
  go_ret
  exact ⟨A2, c2, rfl, HBW.out, B2.out⟩

end Go.Proofs.Ytmkmdbpibpbcjab
