/-
  The law WireApart: its walk.
-/
import Derived.Test.YtmkmdbpibpbcjabXFmI
import Derived.Test.YtmkmdbpibpbcjabXKnown
namespace Go.Proofs.Ytmkmdbpibpbcjab
open Go Go.RowKit
open Sha

theorem apart_any (k : Nat) (hk : k < 7) (N N' : Int) (hN1 : -9223372036854775808 ≤ N) (hN2 : N ≤ 9223372036854775807) (hN1' : -9223372036854775808 ≤ N') (hN2' : N' ≤ 9223372036854775807) (d d' : List (BitVec 8)) (n n' : Nat) (hd : d.length = n) (hd' : d'.length = n') (hn : n ≤ 4194304) (hn' : n' ≤ 4194304) (B B' : Option Addr) (cb cb' : Nat) (m0 m1 m2 m3 p0 p1 p2 p3 : Nat) (u u' : Value) (w : World) (hv : SlAt w (.slice B n cb) d) (hv' : SlAt w (.slice B' n' cb') d') (R : Bool) (hR : ap k N N' d d' [m0, m1, m2, m3] [p0, p1, p2, p3] = R) :
    Calls Try.prog 11 #[.agg (sc (k : Int) N (.slice B n cb) m0 m1 m2 m3 u).toArray, .agg (sc (k : Int) N' (.slice B' n' cb') p0 p1 p2 p3 u').toArray] w fun e w' => e = .returned (.bool R) ∧ Below w.heap.size w w' := by
  rcases (show k = 0 ∨ k = 1 ∨ k = 2 ∨ k = 3 ∨ k = 4 ∨ k = 5 ∨ k = 6 by omega) with rfl | rfl | rfl | rfl | rfl | rfl | rfl
  · exact apart_0 N N' hN1 hN2 hN1' hN2' d d' n n' hd hd' hn hn' B B' cb cb' m0 m1 m2 m3 p0 p1 p2 p3 u u' w hv hv' R hR
  · exact apart_1 N N' hN1 hN2 hN1' hN2' d d' n n' hd hd' hn hn' B B' cb cb' m0 m1 m2 m3 p0 p1 p2 p3 u u' w hv hv' R hR
  · exact apart_2 N N' hN1 hN2 hN1' hN2' d d' n n' hd hd' hn hn' B B' cb cb' m0 m1 m2 m3 p0 p1 p2 p3 u u' w hv hv' R hR
  · exact apart_3 N N' hN1 hN2 hN1' hN2' d d' n n' hd hd' hn hn' B B' cb cb' m0 m1 m2 m3 p0 p1 p2 p3 u u' w hv hv' R hR
  · exact apart_4 N N' hN1 hN2 hN1' hN2' d d' n n' hd hd' hn hn' B B' cb cb' m0 m1 m2 m3 p0 p1 p2 p3 u u' w hv hv' R hR
  · exact apart_5 N N' hN1 hN2 hN1' hN2' d d' n n' hd hd' hn hn' B B' cb cb' m0 m1 m2 m3 p0 p1 p2 p3 u u' w hv hv' R hR
  · exact apart_6 N N' hN1 hN2 hN1' hN2' d d' n n' hd hd' hn hn' B B' cb cb' m0 m1 m2 m3 p0 p1 p2 p3 u u' w hv hv' R hR
theorem ap_symm (k : Nat) (N N' : Int) (d d' : List (BitVec 8)) (m m' : List Nat) : ap k N' N d' d m' m = ap k N N' d d' m m' := by
  unfold ap
  split
  all_goals first | (congr 1; exact BEq.comm) | (congr 1; exact decide_eq_decide.2 eq_comm)
theorem bw_some {w : World} {A : Option Addr} {c : Nat} {x : List (BitVec 8)} (h : Bw w (.slice A x.length c) x) (h0 : 0 < x.length) : ∃ g, A = some ⟨g, 0, none⟩ ∧ x.length ≤ c := by
  rcases h.2 with ⟨_, q0⟩ | ⟨g, cap, cur, hv, _, _, hc, _⟩
  · omega
  · simp only [Value.slice.injEq] at hv
    exact ⟨g, hv.1, by omega⟩

set_option maxRecDepth 100000 in
set_option maxHeartbeats 8000000 in
theorem apart_walk (K K' : Int) (hK1 : -9223372036854775808 ≤ K) (hK2 : K ≤ 9223372036854775807) (N N' : Int) (hN1 : -9223372036854775808 ≤ N) (hN2 : N ≤ 9223372036854775807) (hN1' : -9223372036854775808 ≤ N') (hN2' : N' ≤ 9223372036854775807) (d d' : List (BitVec 8)) (n n' : Nat) (hd : d.length = n) (hd' : d'.length = n') (hn : n ≤ 140737488351232) (hn' : n' ≤ 140737488351232) (B B' : Option Addr) (cb cb' : Nat) (hnil : B = none → cb = 0) (hnil' : B' = none → cb' = 0)
    (m0 m1 m2 m3 p0 p1 p2 p3 : Nat) (hm0 : m0 < 18446744073709551616) (hm1 : m1 < 18446744073709551616) (hm2 : m2 < 18446744073709551616) (hm3 : m3 < 18446744073709551616) (hp0 : p0 < 18446744073709551616) (hp1 : p1 < 18446744073709551616) (hp2 : p2 < 18446744073709551616) (hp3 : p3 < 18446744073709551616) (L L' : Option Addr) (nl nl' cl cl' : Nat) (hnl : nl ≤ 140737488351232) (hnl' : nl' ≤ 140737488351232) (w : World) (hv : SlAt w (.slice B n cb) d) (hv' : SlAt w (.slice B' n' cb') d') :
    Calls Try.prog 3 #[.agg (sc K N (.slice B n cb) m0 m1 m2 m3 (.slice L nl cl)).toArray, .agg (sc K' N' (.slice B' n' cb') p0 p1 p2 p3 (.slice L' nl' cl')).toArray] w fun e w' => e = .returned (.bool true) ∧ Below w.heap.size w w' := by
  obtain ⟨X, hX⟩ : ∃ X, X = (w.alloc (Obj.cells (sc K N (.slice B n cb) m0 m1 m2 m3 (.slice L nl cl)).toArray 28)).alloc (Obj.cells (sc K' N' (.slice B' n' cb') p0 p1 p2 p3 (.slice L' nl' cl')).toArray 28) := ⟨_, rfl⟩
  have b0 : Below w.heap.size w (w.alloc (Obj.cells (sc K N (.slice B n cb) m0 m1 m2 m3 (.slice L nl cl)).toArray 28)) := (Below.refl _ _).alloc (Nat.le_refl _) _
  have b1 : Below w.heap.size w X := by rw [hX]; exact b0.alloc b0.size _
  have r1 : Row X w.heap.size (sc K N (.slice B n cb) m0 m1 m2 m3 (.slice L nl cl)) 28 := by rw [hX]; exact (Row.new' rfl rfl).alloc _
  have r2 : Row X (w.heap.size + 1) (sc K' N' (.slice B' n' cb') p0 p1 p2 p3 (.slice L' nl' cl')) 28 := by rw [hX]; exact Row.new' (by simp) rfl
  have HV : Hid (SlAt w (.slice B n cb) d) := hv
  have HV' : Hid (SlAt w (.slice B' n' cb') d') := hv'
  have S1 : Hid (∀ w, _) := fun w => size_any K N B n cb hn m0 m1 m2 m3 L nl cl hnl w
  have S2 : Hid (∀ w, _) := fun w => size_any K' N' B' n' cb' hn' p0 p1 p2 p3 L' nl' cl' hnl' w
  have HP : Hid (∀ w, _) := fun w => pick_any K 7 (by decide) hK1 hK2 (by decide) w
  have hpr := pk_range K 7 (by decide)
  obtain ⟨k, hk⟩ : ∃ k : Nat, pk K 7 = (k : Int) := ⟨(pk K 7).toNat, by omega⟩
  have hk7 : k < 7 := by omega
  rw [hk] at HP
  clear hpr hk b0 hv hv'
  obtain ⟨x, hx⟩ : ∃ x, x = fo k N d m0 m1 m2 m3 := ⟨_, rfl⟩
  obtain ⟨y, hy⟩ : ∃ y, y = fo k N' d' p0 p1 p2 p3 := ⟨_, rfl⟩
  obtain ⟨R, hR⟩ : ∃ R, ap k N N' d d' [m0, m1, m2, m3] [p0, p1, p2, p3] = R := ⟨_, rfl⟩
  have FX : Hid (n ≤ 4194200 → ∀ u w, SlAt w (.slice B n cb) d → _) := fun h u w hv => form_any k hk7 N hN1 hN2 d n hd h B cb hnil m0 m1 m2 m3 hm0 hm1 hm2 hm3 u w hv x hx
  have FY : Hid (n' ≤ 4194200 → ∀ u w, SlAt w (.slice B' n' cb') d' → _) := fun h u w hv => form_any k hk7 N' hN1' hN2' d' n' hd' h B' cb' hnil' p0 p1 p2 p3 hp0 hp1 hp2 hp3 u w hv y hy
  have AP : Hid (n ≤ 4194304 → n' ≤ 4194304 → ∀ u u' w, SlAt w (.slice B n cb) d → SlAt w (.slice B' n' cb') d' → _) := fun h h' u u' w hv hv' => apart_any k hk7 N N' hN1 hN2 hN1' hN2' d d' n n' hd hd' h h' B B' cb cb' m0 m1 m2 m3 p0 p1 p2 p3 u u' w hv hv' R hR
  have LX : Hid (n ≤ 4194200 → 0 < x.length ∧ x.length ≤ 4194304) := fun h => by rw [hx]; exact fo_len k N d m0 m1 m2 m3 (by omega)
  have LY : Hid (n' ≤ 4194200 → 0 < y.length ∧ y.length ≤ 4194304) := fun h => by rw [hy]; exact fo_len k N' d' p0 p1 p2 p3 (by omega)
  have UN : Hid (n ≤ 4194304 → n' ≤ 4194304 → R = true → ¬ (x.length ≤ y.length ∧ x = y.take x.length) ∧ ¬ (y.length ≤ x.length ∧ y = x.take y.length)) := fun h h' hr => by
    rw [hx, hy]
    refine ⟨fo_apart k N N' d d' (by omega) (by omega) m0 m1 m2 m3 p0 p1 p2 p3 hm0 hm1 hm2 hm3 hp0 hp1 hp2 hp3 (hR.trans hr), fo_apart k N' N d' d (by omega) (by omega) p0 p1 p2 p3 m0 m1 m2 m3 hp0 hp1 hp2 hp3 hm0 hm1 hm2 hm3 ?_⟩
    rw [ap_symm]; exact hR.trans hr
  have AL : Hid (R = false → x = y) := fun hr => by rw [hx, hy]; exact fo_alike k N N' d d' m0 m1 m2 m3 p0 p1 p2 p3 (hR.trans hr)
  clear hx hy hR hK1 hK2 hN1 hN2 hN1' hN2' hd hd' hnil hnil' hm0 hm1 hm2 hm3 hp0 hp1 hp2 hp3
  have R1 : Hid (Row X _ _ _) := r1
  have R2 : Hid (Row X _ _ _) := r2
  have B1 : Hid (Below w.heap.size w X) := b1
  clear r1 r2 b1
  go_enter Try.func3, Try.ntmps3
  go_wp2_with fail
  rw [← hX]
  clear hX
  refine (known_any X).mono ?_
  rintro e V1 ⟨rfl, hb⟩
  have R11 : Hid (Row V1 _ _ _) := Row.below R1.out hb (Row.lt R1.out)
  have R21 : Hid (Row V1 _ _ _) := Row.below R2.out hb (Row.lt R2.out)
  have B11 : Hid (Below w.heap.size w V1) := B1.out.trans (hb.mono B1.out.size)
  clear hb R1 R2 B1
  go_wp2_with (refine wpList_load_w rfl 28 (.tmp 2) rfl w.heap.size 0 rfl (sc K N (.slice B n cb) m0 m1 m2 m3 (.slice L nl cl)) _ (Row.all R11.out) Try.underlying28 rfl info_st ?_; simp only [Act.put, List.setIfInBounds_toArray, List.set_cons_zero, List.set_cons_succ])
  refine (S1.out V1).mono ?_
  rintro e V2 ⟨rfl, hb⟩
  have R12 : Hid (Row V2 _ _ _) := Row.below R11.out hb (Row.lt R11.out)
  have R22 : Hid (Row V2 _ _ _) := Row.below R21.out hb (Row.lt R21.out)
  have B12 : Hid (Below w.heap.size w V2) := B11.out.trans (hb.mono B11.out.size)
  clear hb R11 R21 B11
  by_cases hs1 : (4194304 : Int) < 64 + 4 * (n : Int) + 10 * (nl : Int)
  · go_wp2_with fail
    refine (known_any V2).mono ?_
    rintro e V3 ⟨rfl, hb⟩
    have BF : Hid (Below w.heap.size w V3) := B12.out.trans (hb.mono B12.out.size)
    clear hb
    go_wp2_with fail
    go_ret
    exact ⟨rfl, BF.out⟩
  · have dd1 : decide ((4194304 : Int) < 64 + 4 * (n : Int) + 10 * (nl : Int)) = false := decide_eq_false hs1
    go_wp2_with (refine wpList_load_w rfl 28 (.tmp 3) rfl (w.heap.size + 1) 0 rfl (sc K' N' (.slice B' n' cb') p0 p1 p2 p3 (.slice L' nl' cl')) _ (Row.all R22.out) Try.underlying28 rfl info_st ?_; simp only [Act.put, List.setIfInBounds_toArray, List.set_cons_zero, List.set_cons_succ])
    refine (S2.out V2).mono ?_
    rintro e V3 ⟨rfl, hb⟩
    have R13 : Hid (Row V3 _ _ _) := Row.below R12.out hb (Row.lt R12.out)
    have R23 : Hid (Row V3 _ _ _) := Row.below R22.out hb (Row.lt R22.out)
    have B13 : Hid (Below w.heap.size w V3) := B12.out.trans (hb.mono B12.out.size)
    clear hb R12 R22 B12
    by_cases hs2 : (4194304 : Int) < 64 + 4 * (n' : Int) + 10 * (nl' : Int)
    · go_wp2_with fail
      refine (known_any V3).mono ?_
      rintro e V4 ⟨rfl, hb⟩
      have BF : Hid (Below w.heap.size w V4) := B13.out.trans (hb.mono B13.out.size)
      clear hb
      go_wp2_with fail
      go_ret
      exact ⟨rfl, BF.out⟩
    · have dd2 : decide ((4194304 : Int) < 64 + 4 * (n' : Int) + 10 * (nl' : Int)) = false := decide_eq_false hs2
      have hn4 : Hid (n ≤ 4194200) := by show _ ≤ _; omega
      have hn4' : Hid (n' ≤ 4194200) := by show _ ≤ _; omega
      have g0 := Row.cell R13.out 0 _ rfl
      have f0 := Row.thaw R13.out 0
      have g0' := Row.cell R23.out 0 _ rfl
      have f0' := Row.thaw R23.out 0
      have q1 := Row.set_other (Row.set R13.out 0 (.int .i64 (k : Int))) (w.heap.size + 1) 0 (.int .i64 (k : Int)) (by omega)
      have q2 := Row.set (Row.set_other R23.out w.heap.size 0 (.int .i64 (k : Int)) (by omega)) 0 (.int .i64 (k : Int))
      have qb := (B13.out.setCell (p := ⟨w.heap.size, 0, none⟩) (Nat.le_refl _) (.int .i64 (k : Int))).setCell (p := ⟨w.heap.size + 1, 0, none⟩) (by simp) (.int .i64 (k : Int))
      have Q1 : Hid (Row ((V3.setCell ⟨w.heap.size, 0, none⟩ (.int .i64 (k : Int))).setCell ⟨w.heap.size + 1, 0, none⟩ (.int .i64 (k : Int))) w.heap.size (sc (k : Int) N (.slice B n cb) m0 m1 m2 m3 (.slice L nl cl)) 28) := q1
      have Q2 : Hid (Row ((V3.setCell ⟨w.heap.size, 0, none⟩ (.int .i64 (k : Int))).setCell ⟨w.heap.size + 1, 0, none⟩ (.int .i64 (k : Int))) (w.heap.size + 1) (sc (k : Int) N' (.slice B' n' cb') p0 p1 p2 p3 (.slice L' nl' cl')) 28) := q2
      have QB : Hid (Below w.heap.size w ((V3.setCell ⟨w.heap.size, 0, none⟩ (.int .i64 (k : Int))).setCell ⟨w.heap.size + 1, 0, none⟩ (.int .i64 (k : Int)))) := qb
      clear q1 q2 qb R13 R23 B13 hn hn' hnl hnl' hk7
      go_wp2_with fail
      refine (HP.out V3).mono ?_
      rintro e w4 ⟨rfl, rfl⟩
      go_wp2_with (refine wpList_load_w rfl 28 (.tmp 2) rfl w.heap.size 0 rfl (sc (k : Int) N (.slice B n cb) m0 m1 m2 m3 (.slice L nl cl)) _ (Row.all Q1.out) Try.underlying28 rfl info_st ?_; simp only [Act.put, List.setIfInBounds_toArray, List.set_cons_zero, List.set_cons_succ])
      clear g0 f0 g0' f0'
      generalize (w4.setCell ⟨w.heap.size, 0, none⟩ (Value.int .i64 (k : Int))).setCell ⟨w.heap.size + 1, 0, none⟩ (Value.int .i64 (k : Int)) = W5 at *
      refine (FX.out hn4.out (.slice L nl cl) W5 (HV.out.be QB.out)).mono ?_
      rintro e W6 ⟨A6, c6, rfl, hx6, hb6⟩
      have Q16 : Hid (Row W6 _ _ _) := Row.below Q1.out hb6 (Row.lt Q1.out)
      have Q26 : Hid (Row W6 _ _ _) := Row.below Q2.out hb6 (Row.lt Q2.out)
      have QB6 : Hid (Below w.heap.size w W6) := QB.out.trans (hb6.mono QB.out.size)
      have X6 : Hid (Bw _ _ _) := hx6
      clear hx6 hb6 Q1 Q2 QB
      go_wp2_with (refine wpList_load_w rfl 28 (.tmp 3) rfl (w.heap.size + 1) 0 rfl (sc (k : Int) N' (.slice B' n' cb') p0 p1 p2 p3 (.slice L' nl' cl')) _ (Row.all Q26.out) Try.underlying28 rfl info_st ?_; simp only [Act.put, List.setIfInBounds_toArray, List.set_cons_zero, List.set_cons_succ])
      refine (FY.out hn4'.out (.slice L' nl' cl') W6 (HV'.out.be QB6.out)).mono ?_
      rintro e W7 ⟨A7, c7, rfl, hy7, hb7⟩
      have Q17 : Hid (Row W7 _ _ _) := Row.below Q16.out hb7 (Row.lt Q16.out)
      have Q27 : Hid (Row W7 _ _ _) := Row.below Q26.out hb7 (Row.lt Q26.out)
      have QB7 : Hid (Below w.heap.size w W7) := QB6.out.trans (hb7.mono QB6.out.size)
      have X7 : Hid (Bw _ _ _) := Bw.be X6.out hb7
      have Y7 : Hid (Bw _ _ _) := hy7
      have lx := LX.out hn4.out
      have ly := LY.out hn4'.out
      obtain ⟨gx, rfl, cx6⟩ := bw_some X7.out lx.1
      obtain ⟨gy, rfl, cy7⟩ := bw_some Y7.out ly.1
      clear hy7 hb7 Q16 Q26 QB6 X6 LX LY
      generalize hax : x.length = ax at *
      generalize hay : y.length = ay at *
      have HAX : Hid (x.length = ax) := hax
      have HAY : Hid (y.length = ay) := hay
      have zx : ¬ (ax : Int) = 0 := by omega
      have zy : ¬ (ay : Int) = 0 := by omega
      have zx' : ((ax : Int) == 0) = false := beq_false_of_ne zx
      have zy' : ((ay : Int) == 0) = false := beq_false_of_ne zy
      clear hax hay
      go_wp2_with (first
        | (refine wpList_load_w rfl 28 (.tmp 2) rfl w.heap.size 0 rfl (sc (k : Int) N (.slice B n cb) m0 m1 m2 m3 (.slice L nl cl)) _ (Row.all Q17.out) Try.underlying28 rfl info_st ?_; simp only [Act.put, List.setIfInBounds_toArray, List.set_cons_zero, List.set_cons_succ])
        | (refine wpList_load_w rfl 28 (.tmp 3) rfl (w.heap.size + 1) 0 rfl (sc (k : Int) N' (.slice B' n' cb') p0 p1 p2 p3 (.slice L' nl' cl')) _ (Row.all Q27.out) Try.underlying28 rfl info_st ?_; simp only [Act.put, List.setIfInBounds_toArray, List.set_cons_zero, List.set_cons_succ]))
      refine (AP.out (by have := hn4.out; omega) (by have := hn4'.out; omega) (.slice L nl cl) (.slice L' nl' cl') W7 (HV.out.be QB7.out) (HV'.out.be QB7.out)).mono ?_
      rintro e W8 ⟨rfl, hb8⟩
      have QB8 : Hid (Below w.heap.size w W8) := QB7.out.trans (hb8.mono QB7.out.size)
      have X8 : Hid (Bw _ _ _) := Bw.be X7.out hb8
      have Y8 : Hid (Bw _ _ _) := Bw.be Y7.out hb8
      clear hb8 Q17 Q27 X7 Y7 QB7
      have AL' := AL.out
      have UN' := UN.out (by have := hn4.out; omega) (by have := hn4'.out; omega)
      cases R with
      | true =>
        have UX : Hid (decide (ax ≤ ay ∧ x = y.take ax) = false) := decide_eq_false (UN' rfl).1
        have UY : Hid (decide (ay ≤ ax ∧ y = x.take ay) = false) := decide_eq_false (UN' rfl).2
        clear AL' UN' AL UN
        go_wp2_with fail
        refine (begins_any x y ax ay HAX.out HAY.out lx.2 (some ⟨gx, 0, none⟩) gy 0 c6 c7 cy7 W8 (Bw.sl X8.out) (Bw.sl Y8.out) false UX.out).mono ?_
        rintro e W9 ⟨rfl, hb9⟩
        have QB9 : Hid (Below w.heap.size w W9) := QB8.out.trans (hb9.mono QB8.out.size)
        have X9 : Hid (Bw _ _ _) := Bw.be X8.out hb9
        have Y9 : Hid (Bw _ _ _) := Bw.be Y8.out hb9
        clear hb9
        go_wp2_with fail
        refine (begins_any y x ay ax HAY.out HAX.out ly.2 (some ⟨gy, 0, none⟩) gx 0 c7 c6 cx6 W9 (Bw.sl Y9.out) (Bw.sl X9.out) false UY.out).mono ?_
        rintro e W10 ⟨rfl, hb10⟩
        have QB10 : Hid (Below w.heap.size w W10) := QB9.out.trans (hb10.mono QB9.out.size)
        clear hb10
        go_wp2_with fail
        go_ret
        exact ⟨rfl, QB10.out⟩
      | false =>
        have EXY : Hid (x = y) := AL' rfl
        clear AL' UN' AL UN
        go_wp2_with fail
        refine (same_any x y ax ay HAX.out HAY.out (by omega) (by omega) (some ⟨gx, 0, none⟩) (some ⟨gy, 0, none⟩) c6 c7 W8 (Bw.sl X8.out) (Bw.sl Y8.out) true (decide_eq_true EXY.out)).mono ?_
        rintro e W9 ⟨rfl, q, hq⟩
        have QB9 : Hid (Below w.heap.size w W9) := by rw [hq]; exact QB8.out.trans (drew_b _ _)
        clear hq
        go_wp2_with fail
        go_ret
        exact ⟨rfl, QB9.out⟩

end Go.Proofs.Ytmkmdbpibpbcjab
