/-
  The law's size and bounded; End at the end.
-/
import Derived.Test.YtmkmdbpibpbcjaaXBackA
import Derived.Test.YtmkmdbpibpbcjaaXOwn
namespace Go.Proofs.Ytmkmdbpibpbcjaa
open Go Go.RowKit
open Sha

set_option maxRecDepth 100000 in
theorem size_any (K N : Int) (B : Option Addr) (n cb m0 m1 m2 m3 : Nat) (L : Option Addr) (nl cl : Nat) (hn : n ≤ 140737488351232) (hnl : nl ≤ 140737488351232) (w : World) :
    Calls Try.prog 20 #[.agg (sc K N (.slice B n cb) m0 m1 m2 m3 (.slice L nl cl)).toArray] w fun e w' => e = .returned (.int .i64 ((64 + 4 * n + 10 * nl : Nat) : Int)) ∧ Below w.heap.size w w' := by
  have b1 : Below w.heap.size w (w.alloc (Obj.cells (sc K N (.slice B n cb) m0 m1 m2 m3 (.slice L nl cl)).toArray 33)) := (Below.refl _ _).alloc (Nat.le_refl _) _
  have r1 : Row (w.alloc (Obj.cells (sc K N (.slice B n cb) m0 m1 m2 m3 (.slice L nl cl)).toArray 33)) w.heap.size (sc K N (.slice B n cb) m0 m1 m2 m3 (.slice L nl cl)) 33 := Row.new' rfl rfl
  have g2 := r1.cell 2 _ rfl
  have g7 := r1.cell 7 _ rfl
  have HB : Hid _ := b1
  have E : Hid ((64 : Int) + 4 * (n : Int) + 10 * (nl : Int) = ((64 + 4 * n + 10 * nl : Nat) : Int)) := by show _ = _; omega
  clear b1 r1
  go_enter Try.func20, Try.ntmps20
  go_wp2_with fail
  go_ret
  exact ⟨by rw [← E.out]; rfl, HB.out⟩

set_option maxRecDepth 100000 in
theorem end_full (P : Nat) (A : Option Addr) (cap : Nat) (bs : List (BitVec 8)) (w : World) (h : Rg w P A cap bs bs.length) :
    Calls Try.prog 17 #[.pointer (some ⟨P, 0, none⟩)] w fun e w' => e = .returned (.int .i64 0) ∧ ∃ m, w' = w.drewN m := by
  have HE : Hid _ := err_ok P _ _ 0 w h.row
  have HL : Hid _ := left_ok P A bs.length cap bs.length (Nat.le_refl _) h.len 0 w h.row
  rw [Int.sub_self] at HL
  clear h
  go_enter Try.func17, Try.ntmps17
  go_wp2_with fail
  refine Calls.mono HE.out ?_
  rintro e w2 ⟨rfl, hq⟩
  obtain rfl := hq.symm
  go_wp2_with fail
  refine Calls.mono HL.out ?_
  rintro e w3 ⟨rfl, m, hm⟩
  have HM : Hid _ := hm
  clear hm
  go_wp2_with fail
  go_ret
  exact ⟨rfl, m, HM.out⟩

theorem pf_long (d : List (BitVec 8)) (n : Nat) (hd : d.length = n) (h0 : 0 < n) (hn : n ≤ 4194304) : cnE (pf d) 0 ((n : Int) - 1) = 30 := by
  obtain ⟨q1, q2, _, _⟩ := read_pf d (n : Int) (by omega) (by omega) (pf d) 0 (by omega) (by unfold sub; rw [List.drop_zero, List.take_length])
  have q3 := (cnE_ok q1).1
  unfold cnE
  rw [if_pos q3, q2, if_pos (by omega)]

set_option maxRecDepth 100000 in
set_option maxHeartbeats 4000000 in
theorem bounded_true (K N : Int) (B : Option Addr) (n cb m0 m1 m2 m3 : Nat) (L : Option Addr) (nl cl : Nat) (d : List (BitVec 8)) (hd : d.length = n) (hn : 4 * n ≤ 4194304) (hnil : B = none → cb = 0) (w : World) (hv : SlAt w (.slice B n cb) d) :
    Calls Try.prog 25 #[.agg (sc K N (.slice B n cb) m0 m1 m2 m3 (.slice L nl cl)).toArray] w fun e w' => e = .returned (.bool true) ∧ Below w.heap.size w w' := by
  have b1 : Below w.heap.size w (w.alloc (Obj.cells (sc K N (.slice B n cb) m0 m1 m2 m3 (.slice L nl cl)).toArray 33)) := (Below.refl _ _).alloc (Nat.le_refl _) _
  have r1 : Row (w.alloc (Obj.cells (sc K N (.slice B n cb) m0 m1 m2 m3 (.slice L nl cl)).toArray 33)) w.heap.size (sc K N (.slice B n cb) m0 m1 m2 m3 (.slice L nl cl)) 33 := Row.new' rfl rfl
  have g2 := r1.cell 2 _ rfl
  have R1 : Hid (Row (w.alloc (Obj.cells (sc K N (.slice B n cb) m0 m1 m2 m3 (.slice L nl cl)).toArray 33)) w.heap.size (sc K N (.slice B n cb) m0 m1 m2 m3 (.slice L nl cl)) 33) := r1
  have HB : Hid (Below w.heap.size w (w.alloc (Obj.cells (sc K N (.slice B n cb) m0 m1 m2 m3 (.slice L nl cl)).toArray 33))) := b1
  have HV : Hid (SlAt (w.alloc (Obj.cells (sc K N (.slice B n cb) m0 m1 m2 m3 (.slice L nl cl)).toArray 33)) (.slice B n cb) d) := hv.be b1
  have HD : Hid (d.length = n) := hd
  have HN : Hid (4 * n ≤ 4194304) := hn
  have HNI : Hid (B = none → cb = 0) := hnil
  clear b1 r1 hv hd hnil
  go_enter Try.func25, Try.ntmps25
  by_cases h0 : n = 0
  · subst h0
    go_wp2_with fail
    go_ret
    exact ⟨rfl, HB.out⟩
  · have hp : 0 < n := by omega
    go_wp2_with fail
    generalize (w.alloc (Obj.cells (sc K N (.slice B n cb) m0 m1 m2 m3 (.slice L nl cl)).toArray 33)) = Y at *
    refine Calls.mono (newWriter_any Y) ?_
    rintro e W1 ⟨rfl, hw1, hb1⟩
    have WK1 : Hid (Wk Y W1 Y.heap.size none 0 ([], 0)) := ⟨hw1, (fun g e => by simp [Value.ownBlock] at e), Nat.le_refl _, by decide, hb1⟩
    have g2a := (Row.below R1.out hb1 (Row.lt R1.out)).cell 2 _ rfl
    have HC : Hid _ := bytes_lays Y.heap.size none 0 [] 0 (by decide) d n HD.out (by omega) B cb HNI.out _ rfl W1 hw1 (fun W hG => HV.out.be (hb1.trans (Gro.to_below hG hb1.size (fun k q => by
      rcases q with q | q
      · rw [q]; exact Nat.le_refl _
      · simp [Value.ownBlock] at q)))) (by omega)
    clear hw1 hb1 g2
    generalize hQ : Y.heap.size = Q at *
    go_wp2_with fail
    refine Calls.mono HC.out ?_
    rintro e W2 ⟨rfl, hbeh⟩
    have hlen : (fm [n, 0, 0, 0] (nb n 0 0 0) ++ d).length ≤ 4194304 := by
      rw [List.length_append, fm_len, HD.out]
      have := nb_le n 0 0 0
      have := HN.out
      omega
    obtain ⟨A2, c2, hw2, _⟩ := WK1.out.laid hbeh (by rw [List.length_nil, Nat.zero_add]; exact hlen)
    have epf : [] ++ (fm [n, 0, 0, 0] (nb n 0 0 0) ++ d) = pf d := by unfold pf; rw [HD.out]; rfl
    rw [epf] at hw2
    have HPL : Hid ((pf d).length ≤ 4194304) := by have := hw2.len; exact this
    have HDN : Hid _ := done_ok Q A2 c2 (pf d) (Nat.le_trans HPL.out (by decide)) W2 hw2.wr
    have B2 : Hid (Below Y.heap.size Y W2) := hw2.below
    clear hbeh hlen hw2 epf HC WK1 g2a
    go_wp2_with fail
    refine Calls.mono HDN.out ?_
    rintro e W3 ⟨A3, c3, rfl, hbw, _, hb3⟩
    have hni : A3 = none → c3 = 0 := by
      obtain ⟨A', c', e', _, hz⟩ := Bw.form hbw
      simp only [Value.slice.injEq] at e'
      obtain ⟨rfl, _, rfl⟩ := e'
      exact hz
    have HNR : Hid _ := newReader_g A3 (pf d).length c3 (pf d) rfl HPL.out hni W3 (Bw.sl hbw)
    have B3 : Hid (Below Y.heap.size Y W3) := B2.out.trans (hb3.mono B2.out.size)
    clear hbw hb3 hni HDN B2
    go_wp2_with fail
    refine Calls.mono HNR.out ?_
    rintro e W4 ⟨P, Ar, capr, rfl, hrg, _, _, hb4⟩
    have B4 : Hid (Below Y.heap.size Y W4) := B3.out.trans (hb4.mono B3.out.size)
    have HPP : Hid (Y.heap.size ≤ P) := by show _ ≤ _; have := B3.out.size; omega
    have g2b := (Row.below R1.out B4.out (Row.lt R1.out)).cell 2 _ rfl
    have HF : Hid _ := face_bytes P Ar capr (pf d) 0 ((n : Int) - 1) W4 hrg
    rw [pf_long d n HD.out hp (by have := HN.out; omega)] at HF
    clear hrg hb4 HNR B3
    go_wp2_with fail
    refine Calls.mono HF.out ?_
    rintro e W5 ⟨_, hno, hg⟩
    obtain ⟨rfl, hrf⟩ := hno (by decide)
    have HE : Hid _ := err_ok P _ _ 30 W5 hrf
    have HA : Hid _ := at_any P _ _ 30 W5 hrf
    have HEN : Hid _ := end_shut P _ _ 30 (by decide) W5 hrf
    have B5 : Hid (Below w.heap.size w W5) := HB.out.trans ((B4.out.trans (Gro.to_below hg B4.out.size (fun k q => by rw [q]; exact HPP.out))).mono HB.out.size)
    clear hno hg hrf HF g2b
    go_wp2_with (first
      | (go_at_call 15; refine Calls.mono HE.out ?_; rintro e w3 ⟨rfl, hq⟩; obtain rfl := hq.symm)
      | (go_at_call 16; refine Calls.mono HA.out ?_; rintro e w3 ⟨rfl, hq⟩; obtain rfl := hq.symm)
      | (go_at_call 17; refine Calls.mono HEN.out ?_; rintro e w3 ⟨rfl, hq⟩; obtain rfl := hq.symm))
    go_ret
    exact ⟨rfl, B5.out⟩

end Go.Proofs.Ytmkmdbpibpbcjaa
