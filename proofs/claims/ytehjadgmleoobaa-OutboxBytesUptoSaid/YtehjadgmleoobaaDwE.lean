/-
  the document's writer: Byte, Number, Address, Wide.
-/
import Derived.Test.YtehjadgmleoobaaDwB

namespace Go.Proofs.Ytehjadgmleoobaa
open Go Go.RowKit
open Sha

theorem fb_wd (l : List Nat) (i k : Nat) (hk : k < 8) (u : Int) (hu : u = ((l.getD i 0 / 256 ^ k : Nat) : Int) % 256) : (Value.int .u8 u) = .int .u8 (c (fb l (8 * i + k))) := by
  subst hu
  unfold fb c
  rw [show (8 * i + k) / 8 = i by omega, show (8 * i + k) % 8 = k by omega, BitVec.toNat_ofNat, show (2 : Nat) ^ (k * 8) = 256 ^ k by rw [show (256 : Nat) = 2 ^ 8 by decide, ← Nat.pow_mul, Nat.mul_comm]]
  rfl
theorem vQ_at (l : List Nat) (i : Nat) (h : i < l.length) : (vQ l)[i]? = some (.int .u64 ((l.getD i 0 : Nat) : Int)) := by
  unfold vQ
  rw [List.getElem?_map, List.getD_eq_getElem?_getD, List.getElem?_eq_getElem h]
  rfl
set_option maxRecDepth 100000 in
set_option maxHeartbeats 4000000 in
theorem plain_doc (am : List Nat) (ham : am.length = 4) (hq4 : ∀ x ∈ am, x < 18446744073709551616) (L : List Value) (hL : L = vQ am) (w : World) : Calls Try.prog 67 #[.agg L.toArray] w fun e w' => ∃ g, e = .returned (.slice (some ⟨g, 0, none⟩) 32 32) ∧ Row w' g (vB (pb am 32)) 5 ∧ w.heap.size ≤ g ∧ Below w.heap.size w w' := by
  have HL : Hid (L = vQ am) := hL
  have HAM : Hid (am.length = 4) := ham
  have HQ : Hid (∀ i, am.getD i 0 < 18446744073709551616) := fun i => by
    rw [List.getD_eq_getElem?_getD]
    cases h : am[i]? with
    | none => simp
    | some x => exact hq4 x (List.mem_of_getElem? h)
  clear hL ham hq4
  go_enter Try.func67, Try.ntmps67
  go_upto_region 2 with (first
    | (refine wpList_boxG 37 rfl (.tmp 0) rfl L rfl ?_; intro X1 q1 q2 q3; have R1 : Hid (Row X1 w.heap.size (vQ am) 37) := (by rw [← HL.out]; exact q1); have B1 : Hid (Below w.heap.size w X1) := q2; have S1 : Hid (X1.heap.size = w.heap.size + 1) := q3; clear q1 q2 q3; simp only [Act.put, List.setIfInBounds_toArray, List.set_cons_zero, List.set_cons_succ])
    | (refine wpList_make1 rfl _ _ rfl 32 32 32 rfl rfl rfl rfl (by decide) ?_; intro X2 q1 q2 q3; have R2' : Hid (Row X2 X1.heap.size (vB (List.replicate 32 0#8)) 5) := q1; have D2' : Hid (Below X1.heap.size X1 X2) := q2; clear q1 q2 q3; simp only [Act.put, List.setIfInBounds_toArray, List.set_cons_zero, List.set_cons_succ]))
  obtain ⟨bq, hbq⟩ : ∃ b, b = w.heap.size := ⟨_, rfl⟩
  obtain ⟨b, hb⟩ : ∃ b, b = X1.heap.size := ⟨_, rfl⟩
  have D2 : Below X1.heap.size X1 X2 := D2'.out
  have R2 : Hid (Row X2 b (vB (List.replicate 32 0#8)) 5) := by rw [hb]; exact R2'.out
  have RQ : Hid (Row X2 bq (vQ am) 37) := by rw [hbq]; exact Row.below R1.out D2 R1.out.lt
  have B2 : Hid (Below w.heap.size w X2) := B1.out.trans (D2.mono B1.out.size)
  have HBB : Hid (bq < b ∧ w.heap.size ≤ b) := by rw [hbq, hb]; have := S1.out; show _ ∧ _; omega
  rw [← hb, ← hbq]
  clear hbq hb D2 R1 B1 S1 R2' D2'
  go_wp2_with fail
  go_loopw [4] (fun v wr => ∃ i : Nat, i ≤ 4 ∧ v = .int .i64 (i : Int) ∧ Hid (Row wr b (vB (gl am 32 (8 * i))) 5) ∧ Hid (Row wr bq (vQ am) 37) ∧ Hid (Below w.heap.size w wr)) (fun v _ => 4 - (intOf v).toNat)
  case atStart => exact ⟨0, Nat.zero_le _, rfl, by rw [Nat.mul_zero, gl_zero]; exact R2, RQ, B2⟩
  case round =>
    clear R2 RQ B2
    obtain ⟨i, hi, rfl, HR, HRQ, HBE⟩ := hrel
    by_cases h4 : i < 4
    · have ci : wr.cell? ⟨bq, i, none⟩ = some (.int .u64 ((am.getD i 0 : Nat) : Int)) := HRQ.out.cell i _ (vQ_at am i (by rw [HAM.out]; exact h4))
      obtain ⟨x0, hx0⟩ : ∃ x, x = am.getD i 0 := ⟨_, rfl⟩
      have HX0 : Hid (x0 = am.getD i 0) := hx0
      have hxb : x0 < 18446744073709551616 := by rw [hx0]; exact HQ.out i
      rw [← hx0] at ci
      clear hx0
      have W0 : Hid (wr.heap.size = wr.heap.size) := rfl
      go_upto_region 7 with fail
      clear ci
      obtain ⟨w1, hw1⟩ : ∃ w1, w1 = wr := ⟨_, rfl⟩
      go_loopw [5, 6] (fun v5 v6 wz => ∃ k : Nat, k ≤ 8 ∧ v5 = .int .u64 ((x0 / 256 ^ k : Nat) : Int) ∧ v6 = .int .i64 (k : Int) ∧ Hid (Row wz b (vB (gl am 32 (8 * i + k))) 5) ∧ Hid (Row wz bq (vQ am) 37) ∧ Hid (Below w.heap.size w wz)) (fun _ v6 _ => 8 - (intOf v6).toNat)
      case atStart => exact ⟨0, Nat.zero_le _, by simp, rfl, HR, HRQ, HBE⟩
      case round =>
        rename_i wz_ _ _
        clear HR HRQ HBE
        obtain ⟨k, hk, rfl, rfl, HR, HRQ, HBE⟩ := hrel
        by_cases h8 : k < 8
        · obtain ⟨xv, hxv⟩ : ∃ xv, xv = x0 / 256 ^ k := ⟨_, rfl⟩
          have HXV : Hid (xv = x0 / 256 ^ k) := hxv
          have hxvb : xv < 18446744073709551616 := by rw [hxv]; exact Nat.lt_of_le_of_lt (Nat.div_le_self _ _) hxb
          obtain ⟨j, hj⟩ : ∃ j, j = 31 - 8 * i - k := ⟨_, rfl⟩
          have ej : (31 : Int) - 8 * (i : Int) - (k : Int) = (j : Int) := by omega
          have hj32 : j < 32 := by omega
          have HJ : Hid (j = 32 - 1 - (8 * i + k)) := by show _ = _; omega
          have HJL : Hid (j < (vB (gl am 32 (8 * i + k))).length) := by show _ < _; rw [vB_length, gl_len]; exact hj32
          rw [← hxv]
          clear hxv hj
          go_wp2_with (refine wpList_set1 rfl 5 (.tmp 28) (.tmp 27) rfl b j (.int .u8 ((xv : Int) % 256)) (vB (gl am 32 (8 * i + k))) 5 rfl rfl rfl HR.out HJL.out info_u1 rfl ?_; intro X5 q1 q2 q3; have R5 : Hid (Row X5 b ((vB (gl am 32 (8 * i + k))).set j (.int .u8 ((xv : Int) % 256))) 5) := q1; have G5 : Hid (Gro (· = b) _ X5) := q2; clear q1 q2 q3; simp only [Act.put])
          have R6 : Hid (Row X5 b (vB (gl am 32 (8 * i + (k + 1)))) 5) := by
            have q := R5.out
            rw [fb_wd am i k h8 _ (by rw [← HX0.out, ← HXV.out]), vB_put, HJ.out, gl_step _ 32 (8 * i + k) (by omega)] at q
            exact q
          have RQ6 : Hid (Row X5 bq (vQ am) 37) := G5.out.row HRQ.out (by have := HBB.out.1; omega)
          have B6 : Hid (Below w.heap.size w X5) := HBE.out.trans (G5.out.to_below HBE.out.size (fun g e => by rw [e]; exact HBB.out.2))
          exact ⟨⟨k + 1, by omega, by rw [Nat.pow_succ, ← Nat.div_div_eq_div_mul, ← HXV.out]; first | rfl | go_num, by first | rfl | go_num, R6, RQ6, B6⟩, by simp [intOf]; omega⟩
        · have ek : k = 8 := by omega
          subst ek
          go_wp2
          exact ⟨⟨i + 1, by omega, by first | rfl | go_num, by rw [show 8 * (i + 1) = 8 * i + 8 by omega]; exact HR, HRQ, HBE⟩, by simp [intOf]; omega⟩
    · have e4 : i = 4 := by omega
      subst e4
      have HF : Hid (Row wr b (vB (pb am 32)) 5) := by have q := HR.out; rw [show 8 * 4 = 32 by decide, gl_full] at q; exact q
      go_wp2
      go_ret
      exact ⟨b, rfl, HF.out, HBB.out.2, HBE.out⟩

end Go.Proofs.Ytehjadgmleoobaa

namespace Go.Proofs.Ytehjadgmleoobaa
open Go Go.RowKit
open Sha

set_option maxRecDepth 100000 in
set_option maxHeartbeats 4000000 in
theorem wide_doc (m0 m1 m2 m3 : Nat) (ha : m0 < 18446744073709551616) (hb : m1 < 18446744073709551616) (hc : m2 < 18446744073709551616) (hd : m3 < 18446744073709551616) (L : List Value) (hL : L = vQ [m0, m1, m2, m3]) (w : World) : Calls Try.prog 48 #[.agg L.toArray] w fun e w' => ∃ A c, e = .returned (.slice A (nb m0 m1 m2 m3 + 1) c) ∧ Bw w' (.slice A (nb m0 m1 m2 m3 + 1) c) (fm [m0, m1, m2, m3] (nb m0 m1 m2 m3)) ∧ Fresh w.heap.size (.slice A (nb m0 m1 m2 m3 + 1) c) ∧ Below w.heap.size w w' := by
  have HQ : Hid (m0 < 18446744073709551616 ∧ m1 < 18446744073709551616 ∧ m2 < 18446744073709551616 ∧ m3 < 18446744073709551616) := ⟨ha, hb, hc, hd⟩
  have HPL : Hid (∀ X, Calls Try.prog 67 #[.agg L.toArray] X fun e w' => ∃ g, e = .returned (.slice (some ⟨g, 0, none⟩) 32 32) ∧ Row w' g (vB (pb [m0, m1, m2, m3] 32)) 5 ∧ X.heap.size ≤ g ∧ Below X.heap.size X w') := fun X => plain_doc [m0, m1, m2, m3] rfl (fun x hx => by simp at hx; rcases hx with rfl | rfl | rfl | rfl <;> assumption) L hL X
  have HI : Hid ((Try.prog.info? 37).map (·.size) = some L.length) := by rw [hL]; exact info_Wd _ rfl
  obtain ⟨k, hk⟩ : ∃ k, k = nb m0 m1 m2 m3 := ⟨_, rfl⟩
  have hk32 : k ≤ 32 := by rw [hk]; exact nb_le _ _ _ _
  have HK : Hid (k = nb m0 m1 m2 m3) := hk
  rw [← hk]
  clear hk ha hb hc hd hL
  go_enter Try.func48, Try.ntmps48
  go_upto_region 2 with (first
    | (refine wpList_boxG 37 rfl (.tmp 0) rfl L rfl ?_; intro X1 q1 q2 q3; have R1 : Hid (Row X1 w.heap.size L 37) := q1; have B1 : Hid (Below w.heap.size w X1) := q2; clear q1 q2 q3; simp only [Act.put, List.setIfInBounds_toArray, List.set_cons_zero, List.set_cons_succ])
    | (refine wpList_load_w rfl 37 (.tmp 1) rfl w.heap.size 0 rfl L _ R1.out.all Try.underlying37 rfl HI.out ?_; simp only [Act.put, List.setIfInBounds_toArray, List.set_cons_zero, List.set_cons_succ])
    | (go_at_call 67; refine Calls.mono (HPL.out X1) ?_; rintro e X2 ⟨b, rfl, q1, q2, q3⟩; have R2 : Hid (Row X2 b (vB (pb [m0, m1, m2, m3] 32)) 5) := q1; have HB0 : Hid (w.heap.size ≤ b) := Nat.le_trans B1.out.size q2; have B2 : Hid (Below w.heap.size w X2) := B1.out.trans (q3.mono B1.out.size); clear q1 q2 q3))
  have HRG : Hid (∀ Y, Below X2.heap.size X2 Y → Y.rangeAt b 0 (vB (pb [m0, m1, m2, m3] 32))) := fun Y hY => range_be R2.out.all hY
  obtain ⟨A1, c1, hSe, hnil, hsl⟩ := bare_sl [m0, m1, m2, m3] 32 k b hk32 _ rfl
  have HBR : Hid (Calls Try.prog 66 #[.slice (some ⟨b, 0, none⟩) 32 32] X2 fun e w' => e = .returned (.slice A1 k c1) ∧ w' = X2) := by
    have q := bare_form m0 m1 m2 m3 32 HQ.out.1 HQ.out.2.1 HQ.out.2.2.1 HQ.out.2.2.2 (by decide) (by rw [← HK.out]; exact hk32) b _ rfl X2 (HRG.out X2 (Below.refl _ _))
    rw [← HK.out, hSe] at q
    exact q
  have HSL : Hid (∀ Y, Below X2.heap.size X2 Y → SlAt Y (.slice A1 k c1) (pb [m0, m1, m2, m3] k)) := fun Y hY => hsl Y (HRG.out Y hY)
  have HNL : Hid (A1 = none → c1 = 0) := hnil
  have HK32 : Hid (k ≤ 32) := hk32
  have HKL : Hid (([BitVec.ofNat 8 k] : List (BitVec 8)).length + k ≤ 140737488355328) := by show _ ≤ _; simp; omega
  clear hSe hnil hsl R1 B1
  go_wp2_with (first
    | (go_at_call 66; refine Calls.mono HBR.out ?_; rintro e X ⟨rfl, hq⟩; obtain rfl := hq.symm)
    | (refine wpList_buildOne 29 5 Try.underlying29 u8_open4 rfl (.tmp 12) rfl (.int .u8 (k : Int)) rfl rfl ?_; intro X3 q1 q2 q3; have W3 : Hid (Bw X3 (.slice (some ⟨X2.heap.size, 0, none⟩) 1 1) [BitVec.ofNat 8 k]) := one_bw HK32.out q1; have D3 : Hid (Below X2.heap.size X2 X3) := q2; clear q1 q2 q3; simp only [Act.put, List.setIfInBounds_toArray, List.set_cons_zero, List.set_cons_succ])
    | (refine wpList_app rfl (.tmp 14) (.tmp 15) rfl (.slice (some ⟨X2.heap.size, 0, none⟩) 1 1) [BitVec.ofNat 8 k] (pb [m0, m1, m2, m3] k) rfl W3.out A1 k c1 (pb_len _ _) rfl (HSL.out X3 D3.out) HNL.out HKL.out ?_; intro v4 X4 q1 q2 q3; have W4 : Hid (Bw X4 v4 ([BitVec.ofNat 8 k] ++ pb [m0, m1, m2, m3] k)) := q1; have G4 : Hid (X3.grownBy X4 (Value.slice (some ⟨X2.heap.size, 0, none⟩) 1 1).ownBlock) := q2; have O4 : Hid (v4.ownBlock = (Value.slice (some ⟨X2.heap.size, 0, none⟩) 1 1).ownBlock ∨ v4.ownBlock = some X3.heap.size) := q3; clear q1 q2 q3; simp only [Act.put, List.setIfInBounds_toArray, List.set_cons_zero, List.set_cons_succ]))
  go_ret
  obtain ⟨A3, c3, e3, _, _⟩ := Bw.form W4.out
  have hl3 : ([BitVec.ofNat 8 k] ++ pb [m0, m1, m2, m3] k).length = k + 1 := by rw [List.length_append, pb_len]; simp; omega
  rw [hl3] at e3
  subst e3
  refine ⟨A3, c3, rfl, W4.out, ?_, ?_⟩
  · intro g e
    rcases O4.out with h | h
    · rw [h] at e
      simp [Value.ownBlock] at e
      have := B2.out.size
      omega
    · rw [h] at e; cases e; exact Nat.le_trans B2.out.size D3.out.size
  · exact below_gb (B2.out.trans (D3.out.mono B2.out.size)) G4.out (fun g e => by simp [Value.ownBlock] at e; have := B2.out.size; omega)
/-- The document's writer: what was laid, and the fault. -/
structure Dw (w0 w : World) (Dp : Nat) (v : Value) (bs : List (BitVec 8)) (E : Int) : Prop where
  row : Row w Dp [v, .int .i64 E] 64
  bw : Bw w v bs
  fr : Fresh w0.heap.size v
  d0 : w0.heap.size ≤ Dp
  be : Below w0.heap.size w0 w
theorem Dw.keep {w0 w w' : World} {Dp : Nat} {v : Value} {bs : List (BitVec 8)} {E : Int} (h : Dw w0 w Dp v bs E) (k : Below w.heap.size w w') : Dw w0 w' Dp v bs E :=
  ⟨Row.below h.row k h.row.lt, Bw.be h.bw k, h.fr, h.d0, h.be.trans (k.mono h.be.size)⟩
theorem info_sl1 : (Try.prog.info? 29).map (·.size) = some 1 := by kernel_rfl
set_option maxRecDepth 100000 in
set_option maxHeartbeats 4000000 in
theorem lay_doc (w0 : World) (Dp : Nat) (v : Value) (bs : List (BitVec 8)) (E : Int) (d : List (BitVec 8)) (A : Option Addr) (n cap : Nat) (hn : d.length = n) (hnil : A = none → cap = 0) (hs : bs.length + n ≤ 4194304) (w : World) (h : Dw w0 w Dp v bs E) (hd : ∀ W, Below w.heap.size w W → SlAt W (.slice A n cap) d) :
    Calls Try.prog 46 #[.pointer (some ⟨Dp, 0, none⟩), .slice A n cap] w fun e w' => e = .returned (.tuple #[]) ∧ ∃ v', Dw w0 w' Dp v' (if E = 0 then bs ++ d else bs) E ∧ Gro (fun g => g = Dp ∨ v.ownBlock = some g) w w' := by
  have HH : Hid (Dw w0 w Dp v bs E) := h
  obtain ⟨Av, cv, hv, hvc, _⟩ := Bw.form h.bw
  subst hv
  have c0 := h.row.cell 0 _ rfl
  have c1 := h.row.cell 1 _ rfl
  obtain ⟨N, hN⟩ : ∃ N, N = bs.length := ⟨_, rfl⟩
  have HNN : Hid (N = bs.length) := hN
  rw [← hN] at c0
  by_cases hE : E = 0
  · have HW : Hid (Bw w (.slice Av N cv) bs) := by rw [hN]; exact h.bw
    have HSD : Hid (SlAt w (.slice A n cap) d) := hd w (Below.refl _ _)
    have HNL : Hid (A = none → cap = 0) := hnil
    have HDN : Hid (d.length = n) := hn
    have HKL : Hid (bs.length + n ≤ 140737488355328) := by show _ ≤ _; omega
    have el : ¬ ((4194304 : Int) < (N : Int) + (n : Int)) := by omega
    have hN2 : N ≤ 4194304 := by omega
    have hn2 : n ≤ 4194304 := by omega
    have HR : Hid (Row w Dp [.slice Av N cv, .int .i64 0] 64) := by rw [hN, ← hE]; exact h.row
    subst hE
    clear h hd hnil hn hs hN hvc
    go_enter Try.func46, Try.ntmps46
    go_wp2_with (first
      | (refine wpList_app rfl (.tmp 25) (.tmp 26) rfl (.slice Av N cv) bs d rfl HW.out A n cap HDN.out rfl HSD.out HNL.out HKL.out ?_; intro v4 X4 q1 q2 q3; have W4 : Hid (Bw X4 v4 (bs ++ d)) := q1; have G4 : Hid (w.grownBy X4 (Value.slice Av N cv).ownBlock) := q2; have O4 : Hid (v4.ownBlock = (Value.slice Av N cv).ownBlock ∨ v4.ownBlock = some w.heap.size) := q3; have R4 : Hid (Row X4 Dp [.slice Av N cv, .int .i64 0] 64) := row_gb HR.out q2 (some_ne (Bw.ne HW.out HR.out (by decide))); clear q1 q2 q3; obtain ⟨A5, c5, e5, _, _⟩ := Bw.form W4.out; subst e5; simp only [Act.put, List.setIfInBounds_toArray, List.set_cons_zero, List.set_cons_succ])
      | (refine wpList_set1 rfl 29 (.tmp 29) (.tmp 27) rfl Dp 0 (.slice A5 (bs ++ d).length c5) [.slice Av N cv, .int .i64 0] 64 rfl rfl rfl R4.out (Nat.succ_pos _) info_sl1 rfl ?_; intro X6 q1 q2 q3; have R6 : Hid (Row X6 Dp [.slice A5 (bs ++ d).length c5, .int .i64 0] 64) := q1; have G6 : Hid (Gro (· = Dp) X4 X6) := q2; clear q1 q2 q3; simp only [Act.put]))
    go_end0
    have hG : Gro (fun g => g = Dp ∨ (Value.slice Av N cv).ownBlock = some g) w X6 := Gro.trans (Gro.grown (Gro.refl _ _) G4.out (fun g e => .inl (.inr e))) (Gro.mono G6.out (fun g e => .inl e))
    refine ⟨rfl, ⟨.slice A5 (bs ++ d).length c5, ⟨R6.out, ?_, ?_, HH.out.d0, ?_⟩⟩, by rw [← HNN.out]; exact hG⟩
    · exact Bw.gro W4.out G6.out (Bw.ne W4.out R4.out (by decide))
    · intro g e
      rcases O4.out with q | q
      · exact HH.out.fr g (by rw [← HNN.out, ← q]; exact e)
      · rw [q] at e; cases e; exact HH.out.be.size
    · refine HH.out.be.trans (hG.to_below HH.out.be.size (fun g q => ?_))
      rcases q with q | q
      · rw [q]; exact HH.out.d0
      · exact HH.out.fr g (by rw [← HNN.out]; exact q)
  · have ex : (E != 0) = true := by simpa using hE
    have HE : Hid (¬ E = 0) := hE
    clear h hd hnil hn hs hN hvc hE
    go_enter Try.func46, Try.ntmps46
    go_wp2
    refine bodyPost_ret (results_none rfl _ _ _) rfl ?_
    exact ⟨rfl, ⟨_, HH.out⟩, Gro.refl _ _⟩

end Go.Proofs.Ytehjadgmleoobaa

namespace Go.Proofs.Ytehjadgmleoobaa
open Go Go.RowKit
open Sha

def dB (bs : List (BitVec 8)) (E : Int) (d : List (BitVec 8)) : List (BitVec 8) := if E = 0 then bs ++ d else bs
def dnE (E n : Int) : Int := if E = 0 then (if n < 0 then 32 else 0) else E
def dnB (bs : List (BitVec 8)) (E n : Int) : List (BitVec 8) := if E = 0 ∧ 0 ≤ n then bs ++ nf n else bs
theorem dB_len (bs : List (BitVec 8)) (E : Int) (d : List (BitVec 8)) : (dB bs E d).length ≤ bs.length + d.length := by
  unfold dB
  split
  · rw [List.length_append]; exact Nat.le_refl _
  · omega
theorem dnB_len (bs : List (BitVec 8)) (E n : Int) : (dnB bs E n).length ≤ bs.length + 33 := by
  have := nf_len n
  unfold dnB
  split
  · rw [List.length_append]; omega
  · omega
set_option maxRecDepth 100000 in
set_option maxHeartbeats 4000000 in
theorem dw_byte (w0 : World) (Dp : Nat) (v : Value) (bs : List (BitVec 8)) (E : Int) (hs : bs.length ≤ 1000000) (x : BitVec 8) (y : Int) (hy : y = c x) (w : World) (h : Dw w0 w Dp v bs E) : Calls Try.prog 25 #[.pointer (some ⟨Dp, 0, none⟩), .int .u8 y] w fun e w' => e = .returned (.tuple #[]) ∧ ∃ v', Dw w0 w' Dp v' (dB bs E [x]) E := by
  have HH : Hid (Dw w0 w Dp v bs E) := h
  have HY : Hid (y = c x) := hy
  have HS : Hid (bs.length + 1 ≤ 4194304) := by show _ ≤ _; omega
  clear h hy hs
  go_enter Try.func25, Try.ntmps25
  go_wp2_with (first
    | (refine wpList_buildOne 29 5 Try.underlying29 u8_open4 rfl (.tmp 5) rfl (.int .u8 y) rfl rfl ?_; intro X1 q1 q2 q3; have C1 : Hid _ := lay_doc w0 Dp v bs E [x] (some ⟨w.heap.size, 0, none⟩) 1 1 rfl (fun hh => by cases hh) HS.out X1 (HH.out.keep q2) (fun W hW => sl_row (d := [x]) (by have r := Row.below q1 hW q1.lt; rw [HY.out] at r; exact r)); clear q1 q2 q3; simp only [Act.put, List.setIfInBounds_toArray, List.set_cons_zero, List.set_cons_succ])
    | (go_at_call 46; refine Calls.mono C1.out ?_; rintro e X2 ⟨rfl, v2, q, _⟩; have D2 : Hid (Dw w0 X2 Dp v2 (dB bs E [x]) E) := q; clear q))
  go_end0
  exact ⟨rfl, _, D2.out⟩
set_option maxRecDepth 100000 in
set_option maxHeartbeats 4000000 in
theorem dw_address (w0 : World) (Dp : Nat) (v : Value) (bs : List (BitVec 8)) (E : Int) (hs : bs.length ≤ 1000000) (d : List (BitVec 8)) (hd : d.length = 20) (w : World) (h : Dw w0 w Dp v bs E) : Calls Try.prog 27 #[.pointer (some ⟨Dp, 0, none⟩), .agg (vB d).toArray] w fun e w' => e = .returned (.tuple #[]) ∧ ∃ v', Dw w0 w' Dp v' (dB bs E d) E := by
  have HH : Hid (Dw w0 w Dp v bs E) := h
  have HD : Hid (d.length = 20) := hd
  have HS : Hid (bs.length + 20 ≤ 4194304) := by show _ ≤ _; omega
  obtain ⟨L, hL⟩ : ∃ L, L = vB d := ⟨_, rfl⟩
  have HL : Hid (L = vB d) := hL
  rw [← hL]
  clear h hd hs hL
  go_enter Try.func27, Try.ntmps27
  go_wp2_with (first
    | (refine wpList_boxG 34 rfl (.tmp 1) rfl L rfl ?_; intro X1 q1 q2 q3; rw [HL.out] at q1; have C1 : Hid _ := lay_doc w0 Dp v bs E d (some ⟨w.heap.size, 0, none⟩) 20 20 HD.out (fun hh => by cases hh) HS.out X1 (HH.out.keep q2) (fun W hW => by have r := sl_row (Row.below q1 hW q1.lt); rw [HD.out] at r; exact r); clear q1 q2 q3; simp only [Act.put, List.setIfInBounds_toArray, List.set_cons_zero, List.set_cons_succ])
    | (refine wpList_slice_all rfl 34 5 20 (.tmp 3) w.heap.size 0 rfl rfl Try.underlying34 info_u1 ?_; simp only [Act.put, List.setIfInBounds_toArray, List.set_cons_zero, List.set_cons_succ])
    | (go_at_call 46; refine Calls.mono C1.out ?_; rintro e X2 ⟨rfl, v2, q, _⟩; have D2 : Hid (Dw w0 X2 Dp v2 (dB bs E d) E) := q; clear q))
  go_end0
  exact ⟨rfl, _, D2.out⟩
set_option maxRecDepth 100000 in
set_option maxHeartbeats 4000000 in
theorem dw_wide (w0 : World) (Dp : Nat) (v : Value) (bs : List (BitVec 8)) (E : Int) (hs : bs.length ≤ 1000000) (am : List Nat) (ham : am.length = 4) (hq4 : ∀ x ∈ am, x < 18446744073709551616) (w : World) (h : Dw w0 w Dp v bs E) : Calls Try.prog 28 #[.pointer (some ⟨Dp, 0, none⟩), .agg (vQ am).toArray] w fun e w' => e = .returned (.tuple #[]) ∧ ∃ v', Dw w0 w' Dp v' (dB bs E (wf am)) E := by
  obtain ⟨m0, m1, m2, m3, rfl⟩ : ∃ m0 m1 m2 m3, am = [m0, m1, m2, m3] := by
    rcases am with _ | ⟨m0, _ | ⟨m1, _ | ⟨m2, _ | ⟨m3, _ | ⟨m4, r⟩⟩⟩⟩⟩
    all_goals first | exact ⟨_, _, _, _, rfl⟩ | (simp at ham)
  have HH : Hid (Dw w0 w Dp v bs E) := h
  obtain ⟨L, hL⟩ : ∃ L, L = vQ [m0, m1, m2, m3] := ⟨_, rfl⟩
  obtain ⟨k, hk⟩ : ∃ k, k = nb m0 m1 m2 m3 := ⟨_, rfl⟩
  have HK : Hid (k = nb m0 m1 m2 m3) := hk
  have HS : Hid (bs.length + (k + 1) ≤ 4194304) := by show _ ≤ _; have := nb_le m0 m1 m2 m3; omega
  have HWD : Hid (∀ X, Calls Try.prog 48 #[.agg L.toArray] X fun e w' => ∃ A c, e = .returned (.slice A (k + 1) c) ∧ Bw w' (.slice A (k + 1) c) (wf [m0, m1, m2, m3]) ∧ Fresh X.heap.size (.slice A (k + 1) c) ∧ Below X.heap.size X w') := fun X => by rw [hk]; exact wide_doc m0 m1 m2 m3 (hq4 _ (by simp)) (hq4 _ (by simp)) (hq4 _ (by simp)) (hq4 _ (by simp)) L hL X
  have HI : Hid ((Try.prog.info? 37).map (·.size) = some L.length) := by rw [hL]; exact info_Wd _ rfl
  have HWL : Hid ((wf [m0, m1, m2, m3]).length = k + 1) := by show _ = _; rw [hk]; exact fm_len _ _
  rw [← hL]
  clear h hs hL hk ham hq4
  go_enter Try.func28, Try.ntmps28
  go_wp2_with (first
    | (refine wpList_boxG 37 rfl (.tmp 1) rfl L rfl ?_; intro X1 q1 q2 q3; have R1 : Hid (Row X1 w.heap.size L 37) := q1; have D1 : Hid (Dw w0 X1 Dp v bs E) := HH.out.keep q2; clear q1 q2 q3; simp only [Act.put, List.setIfInBounds_toArray, List.set_cons_zero, List.set_cons_succ])
    | (refine wpList_load_w rfl 37 (.tmp 3) rfl w.heap.size 0 rfl L _ R1.out.all Try.underlying37 rfl HI.out ?_; simp only [Act.put, List.setIfInBounds_toArray, List.set_cons_zero, List.set_cons_succ])
    | (go_at_call 48; refine Calls.mono (HWD.out X1) ?_; rintro e X2 ⟨A2, c2, rfl, q1, q2, q3⟩; obtain ⟨_, _, e2, _, n2⟩ := Bw.form q1; rw [HWL.out] at e2; simp only [Value.slice.injEq] at e2; obtain ⟨rfl, _, rfl⟩ := e2; have C2 : Hid _ := lay_doc w0 Dp v bs E (wf [m0, m1, m2, m3]) A2 (k + 1) c2 HWL.out n2 HS.out X2 (D1.out.keep q3) (fun W hW => Bw.sl (Bw.be q1 hW)); clear q1 q2 q3 n2)
    | (go_at_call 46; refine Calls.mono C2.out ?_; rintro e X3 ⟨rfl, v3, q, _⟩; have D3 : Hid (Dw w0 X3 Dp v3 (dB bs E (wf [m0, m1, m2, m3])) E) := q; clear q))
  go_end0
  exact ⟨rfl, _, D3.out⟩
set_option maxRecDepth 100000 in
set_option maxHeartbeats 4000000 in
theorem dw_number (w0 : World) (Dp : Nat) (v : Value) (bs : List (BitVec 8)) (E : Int) (hs : bs.length ≤ 1000000) (n : Int) (hn : n < 9223372036854775808) (w : World) (h : Dw w0 w Dp v bs E) : Calls Try.prog 26 #[.pointer (some ⟨Dp, 0, none⟩), .int .i64 n] w fun e w' => e = .returned (.tuple #[]) ∧ ∃ v', Dw w0 w' Dp v' (dnB bs E n) (dnE E n) := by
  have HH : Hid (Dw w0 w Dp v bs E) := h
  have c1 := h.row.cell 1 _ rfl
  by_cases hE : E = 0
  · subst hE
    by_cases hn0 : n < 0
    · have HR : Hid (Row w Dp [v, .int .i64 0] 64) := h.row
      have e1 : Hid (dnB bs 0 n = bs ∧ dnE 0 n = 32) := ⟨by unfold dnB; rw [if_neg (by omega)], by unfold dnE; rw [if_pos rfl, if_pos hn0]⟩
      clear h hs hn
      go_enter Try.func26, Try.ntmps26
      go_wp2_with (refine wpList_set1 rfl 30 (.tmp 13) _ rfl Dp 1 (.int .i64 32) [v, .int .i64 0] 64 rfl rfl rfl HR.out (by decide : 1 < 2) (by kernel_rfl) rfl ?_; intro X6 q1 q2 q3; have R6 : Hid (Row X6 Dp [v, .int .i64 32] 64) := q1; have G6 : Hid (Gro (· = Dp) w X6) := q2; clear q1 q2 q3; simp only [Act.put])
      refine bodyPost_ret (results_none rfl _ _ _) rfl ?_
      refine ⟨rfl, v, ?_⟩
      rw [e1.out.1, e1.out.2]
      exact ⟨R6.out, Bw.gro HH.out.bw G6.out (Bw.ne HH.out.bw HR.out (by decide)), HH.out.fr, HH.out.d0, HH.out.be.trans (G6.out.to_below HH.out.be.size (fun g e => by rw [e]; exact HH.out.d0))⟩
    · obtain ⟨m, rfl⟩ : ∃ m : Nat, n = (m : Int) := ⟨n.toNat, by omega⟩
      obtain ⟨k, hk⟩ : ∃ k, k = nb m 0 0 0 := ⟨_, rfl⟩
      have HND : Hid (∀ X, Calls Try.prog 47 #[.int .i64 (m : Int)] X fun e w' => ∃ A c, e = .returned (.slice A (k + 1) c) ∧ Bw w' (.slice A (k + 1) c) (nf (m : Int)) ∧ Fresh X.heap.size (.slice A (k + 1) c) ∧ Below X.heap.size X w') := fun X => by rw [hk]; exact number_doc m (by omega) X
      have HWL : Hid ((nf (m : Int)).length = k + 1) := by show _ = _; rw [hk]; exact fm_len _ _
      have HS : Hid (bs.length + (k + 1) ≤ 4194304) := by show _ ≤ _; have := nb_le m 0 0 0; omega
      have e1 : Hid (dnB bs 0 (m : Int) = dB bs 0 (nf (m : Int)) ∧ dnE 0 (m : Int) = 0) := ⟨by unfold dnB dB; rw [if_pos ⟨rfl, by omega⟩, if_pos rfl], by unfold dnE; rw [if_pos rfl, if_neg hn0]⟩
      clear h hs hn hk
      go_enter Try.func26, Try.ntmps26
      go_wp2_with (first
        | (go_at_call 47; refine Calls.mono (HND.out w) ?_; rintro e X2 ⟨A2, c2, rfl, q1, q2, q3⟩; obtain ⟨_, _, e2, _, n2⟩ := Bw.form q1; rw [HWL.out] at e2; simp only [Value.slice.injEq] at e2; obtain ⟨rfl, _, rfl⟩ := e2; have C2 : Hid _ := lay_doc w0 Dp v bs 0 (nf (m : Int)) A2 (k + 1) c2 HWL.out n2 HS.out X2 (HH.out.keep q3) (fun W hW => Bw.sl (Bw.be q1 hW)); clear q1 q2 q3 n2)
        | (go_at_call 46; refine Calls.mono C2.out ?_; rintro e X3 ⟨rfl, v3, q, _⟩; have D3 : Hid (Dw w0 X3 Dp v3 (dB bs 0 (nf (m : Int))) 0) := q; clear q))
      first | go_end0 | refine bodyPost_ret (results_none rfl _ _ _) rfl ?_
      exact ⟨rfl, v3, by rw [e1.out.1, e1.out.2]; exact D3.out⟩
  · have ex : (E != 0) = true := by simpa using hE
    have e1 : Hid (dnB bs E n = bs ∧ dnE E n = E) := ⟨by unfold dnB; rw [if_neg (fun q => hE q.1)], by unfold dnE; rw [if_neg hE]⟩
    clear h hs hn hE
    go_enter Try.func26, Try.ntmps26
    go_wp2
    refine bodyPost_ret (results_none rfl _ _ _) rfl ?_
    exact ⟨rfl, v, by rw [e1.out.1, e1.out.2]; exact HH.out⟩

end Go.Proofs.Ytehjadgmleoobaa
