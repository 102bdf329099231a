/-
  OutboxBooks: a step of any kind; both books side by side; still.
-/
import Derived.Test.YtdicgenhfmhklaaGreatDoorBkM
import Derived.Test.YtdicgenhfmhklaaGreatDoorBkK

namespace Go.Proofs.YtdicgenhfmhklaaGreatDoor
open Go Go.RowKit
open Sha

theorem Gro.more11 {R S : Nat → Prop} {a b c : World} (h : Gro R a b) (k : Gro S b c) (hS : ∀ g, S g → R g ∨ a.heap.size ≤ g) : Gro R a c :=
  ⟨k.os.trans h.os, k.tape.trans h.tape, k.output.trans h.output, Nat.le_trans h.size k.size, fun g hg hn => (k.block g (Nat.lt_of_lt_of_le hg h.size) (fun q => (hS g q).elim hn (fun z => absurd hg (Nat.not_lt.2 z)))).trans (h.block g hg hn)⟩
set_option maxRecDepth 100000 in
set_option maxHeartbeats 8000000 in
theorem booked_path (K : Int) (hK : K = 8 ∨ K = 9 ∨ K = 10) (w0 w : World) (hG : Given w0) (hT : Tab w0 2) (B Bp : Nat) (vp vl vw : Value) (us ws : List Value) (ls : List Lv11) (ds : List (List (List (BitVec 8)))) (hls : ls.length ≤ 900000) (hds : ds.length ≤ 900000) (A : Option Addr) (n c : Nat) (x : Sv11) (hx : x.Ok) (hk : pk x.wh 12 = K) (XC : List Value) (hXC : XC = x.cells) (hb : Bo1 w0 w B Bp vp vl vw us ws ls ds A n c) :
    Calls Tryz.prog 6 #[.pointer (some ⟨B, 0, none⟩), .pointer (some ⟨Bp, 0, none⟩), .slice A n c, .agg XC.toArray] w fun e w' => ∃ A' n' c', e = .returned (.tuple #[.slice A' n' c', .bool true]) ∧ Bo2 w0 w w' B Bp vp vl vw ls.length ds.length A' n' c' := by
  obtain ⟨wh, xn, xm, l⟩ := x
  have HPK : Hid (∀ X, Calls Tryz.prog 14 #[.int .i64 wh, .int .i64 12] X fun e w' => e = .returned (.int .i64 K) ∧ w' = X) := fun X => by
    have := pick11 wh 12 (by decide) hx.w1 hx.w2 (by decide) X
    rw [show pk wh 12 = K from hk] at this
    exact this
  have HB : Hid (Bo1 w0 w B Bp vp vl vw us ws ls ds A n c) := hb
  have HGv : Hid (Given w0) := hG
  have HTb : Hid (Tab w0 2) := hT
  obtain ⟨L, hL⟩ : ∃ L, L = l.cells := ⟨_, rfl⟩
  have HXL : Hid (XC = .int .i64 wh :: .int .i64 xn :: .int .i64 xm :: L) := by rw [hL]; exact hXC
  have hlo : l.Ok := hx.l
  have HI : Hid ((Tryz.prog.info? 40).map (·.size) = some L.length) := by rw [hL]; exact Lv11.info hlo
  obtain ⟨d, E, hd1, hd2, hP, hD⟩ := path_both ls (by omega) hb.dk.ok xn xm
  obtain ⟨N, hN⟩ : ∃ N, N = d.length := ⟨_, rfl⟩
  rw [← hN] at hP hD
  have HP : Hid (∀ (w0 : World) (B : Nat) (v : Value) (w : World), Tab w 2 → Bk w0 w B v (ls.map Lv11.bytes) → Calls Tryz.prog 17 #[.pointer (some ⟨B, 0, none⟩), .int .i64 xn, .int .i64 xm] w fun e w' => ∃ A' c', e = .returned (.tuple #[.slice A' N c', .int .i64 E]) ∧ Pw w' (.slice A' N c') d ∧ Fresh w.heap.size (.slice A' N c') ∧ Below w.heap.size w w') := hP
  have HD : Hid (∀ (w : World) (A : Option Addr) (n c : Nat), Given w → Dk w A n c ls → Calls Tryz.prog 18 #[.slice A n c, .int .i64 xn, .int .i64 xm] w fun e w' => ∃ A' c', e = .returned (.tuple #[.slice A' N c', .int .i64 E]) ∧ Pw w' (.slice A' N c') d ∧ Fresh w.heap.size (.slice A' N c') ∧ Below w.heap.size w w') := hD
  have HN : Hid (N = d.length) := hN
  have HN2 : Hid (N ≤ 1000000) := by show _ ≤ _; omega
  have HD32 : Hid (∀ x ∈ d, x.length = 32) := hd2
  have HDS : Hid (ds.length ≤ 900000) := hds
  clear hP hD hlo hL hls hds hN hd1 hd2
  clear hx hk hXC hb hG hT
  go_enter Tryz.func6, Tryz.ntmps6
  go_upto_region 1 with (refine wpList_boxG 42 rfl (.tmp 3) rfl XC rfl ?_; intro X1 q1 q2 q3; have R1 : Hid (Row X1 w.heap.size XC 42) := q1; have B1 : Hid (Below w.heap.size w X1) := q2; clear q1 q2 q3; simp only [Act.put, List.setIfInBounds_toArray, List.set_cons_zero, List.set_cons_succ])
  have HRW : Hid (∀ W, Below X1.heap.size X1 W → Row W w.heap.size (.int .i64 wh :: .int .i64 xn :: .int .i64 xm :: L) 42) := fun W hW => by
    have := Row.below R1.out hW R1.out.lt
    rwa [HXL.out] at this
  have HBX : Hid (Bo1 w0 X1 B Bp vp vl vw us ws ls ds A n c) := HB.out.be B1.out
  have c0 : X1.cell? ⟨w.heap.size, 0, none⟩ = some (.int .i64 wh) := (HRW.out X1 (Below.refl _ _)).cell 0 _ rfl
  have c1 : X1.cell? ⟨w.heap.size, 1, none⟩ = some (.int .i64 xn) := (HRW.out X1 (Below.refl _ _)).cell 1 _ rfl
  have c2 : X1.cell? ⟨w.heap.size, 2, none⟩ = some (.int .i64 xm) := (HRW.out X1 (Below.refl _ _)).cell 2 _ rfl
  have HL3 : Hid (∀ W, Row W w.heap.size (.int .i64 wh :: .int .i64 xn :: .int .i64 xm :: L) 42 → W.rangeAt w.heap.size 3 L) := fun W hW => hW.range 3 L (fun j u hj => by rw [show 3 + j = j + 1 + 1 + 1 by omega]; exact hj)
  clear HXL
  rcases hK with rfl | rfl | rfl
  all_goals
    go_upto_region 23 with (go_at_call 14; refine Calls.mono (HPK.out _) ?_; rintro e X ⟨rfl, hX⟩; obtain rfl := hX.symm)
    go_upto_region 24 with (go_at_call 17; refine Calls.mono (HP.out w0 Bp vp X1 (HTb.out.below HBX.out.bk.be HTb.out.lt) HBX.out.bk) ?_; rintro e X2 ⟨A1, d1, rfl, q1, q2, q3⟩; have P1_X2 : Hid (Pw X2 (.slice A1 N d1) d) := q1; have F1 : Hid (Fresh X1.heap.size (.slice A1 N d1)) := q2; have B_X2 : Hid (Below X1.heap.size X1 X2) := q3; clear q1 q2 q3)
    have HB2 : Hid (Bo1 w0 X2 B Bp vp vl vw us ws ls ds A n c) := HBX.out.be B_X2.out
    clear c0 c1 c2
    have HR_X2 : Hid (Row X2 w.heap.size (.int .i64 wh :: .int .i64 xn :: .int .i64 xm :: L) 42) := HRW.out X2 B_X2.out
    have c0 : X2.cell? ⟨w.heap.size, 0, none⟩ = some (.int .i64 wh) := HR_X2.out.cell 0 _ rfl
    have c1 : X2.cell? ⟨w.heap.size, 1, none⟩ = some (.int .i64 xn) := HR_X2.out.cell 1 _ rfl
    have c2 : X2.cell? ⟨w.heap.size, 2, none⟩ = some (.int .i64 xm) := HR_X2.out.cell 2 _ rfl
    go_upto_region 25 with (go_at_call 17; refine Calls.mono (HP.out w0 Bp vp X2 (HTb.out.below HB2.out.bk.be HTb.out.lt) HB2.out.bk) ?_; rintro e X3 ⟨A2, d2, rfl, q1, q2, q3⟩; have P2_X3 : Hid (Pw X3 (.slice A2 N d2) d) := q1; have F2 : Hid (Fresh X2.heap.size (.slice A2 N d2)) := q2; have B_X3 : Hid (Below X2.heap.size X2 X3) := q3; clear q1 q2 q3)
    have HB3 : Hid (Bo1 w0 X3 B Bp vp vl vw us ws ls ds A n c) := HB2.out.be B_X3.out
    clear c0 c1 c2
    have HR_X3 : Hid (Row X3 w.heap.size (.int .i64 wh :: .int .i64 xn :: .int .i64 xm :: L) 42) := HRW.out X3 (B_X2.out.trans (B_X3.out.mono B_X2.out.size))
    have c0 : X3.cell? ⟨w.heap.size, 0, none⟩ = some (.int .i64 wh) := HR_X3.out.cell 0 _ rfl
    have c1 : X3.cell? ⟨w.heap.size, 1, none⟩ = some (.int .i64 xn) := HR_X3.out.cell 1 _ rfl
    have c2 : X3.cell? ⟨w.heap.size, 2, none⟩ = some (.int .i64 xm) := HR_X3.out.cell 2 _ rfl
    go_upto_region 26 with (go_at_call 18; refine Calls.mono (HD.out X3 A n c (HGv.out.low HB3.out.bk.be) HB3.out.dk) ?_; rintro e X4 ⟨A3, d3, rfl, q1, q2, q3⟩; have P3_X4 : Hid (Pw X4 (.slice A3 N d3) d) := q1; have F3 : Hid (Fresh X3.heap.size (.slice A3 N d3)) := q2; have B_X4 : Hid (Below X3.heap.size X3 X4) := q3; clear q1 q2 q3)
    clear c0 c1 c2
    have HB4 : Hid (Bo1 w0 X4 B Bp vp vl vw us ws ls ds A n c) := HB3.out.be B_X4.out
    have P1 : Hid (Pw X4 (.slice A1 N d1) d) := (P1_X2.out.be B_X3.out).be B_X4.out
    have P2 : Hid (Pw X4 (.slice A2 N d2) d) := P2_X3.out.be B_X4.out
    have K1 : Hid (Calls Tryz.prog 19 #[.pointer (some ⟨B, 0, none⟩), .slice A1 N d1, .slice A3 N d3] X4 fun e w' => e = .returned (.tuple #[]) ∧ ∃ vl' vw' us' ws', Bo1 w0 w' B Bp vp vl' vw' us' ws' ls (ds ++ [d]) A n c ∧ (∀ v ∈ us', ∀ g, v.ownBlock = some g → g < X2.heap.size) ∧ Gro (Rp B vl vw) X4 w' ∧ (∀ g, Rp B vl' vw' g → Rp B vl vw g ∨ X4.heap.size ≤ g)) := by
      refine (keepsPath_ok w0 B vl vw us ws ds (Nat.le_trans HDS.out (by decide)) d HD32.out A1 A3 N d1 d3 HN.out HN2.out X4 P1.out (fun v hv g hg q => ?_) (fun g q => ?_) P3_X4.out HB4.out.pb).mono ?_
      · exact Nat.lt_irrefl _ (Nat.lt_of_lt_of_le (HBX.out.pb.us_lt v hv g hg) (F1.out g q))
      · exact Nat.le_trans HBX.out.bk.be.size (F1.out g q)
      · rintro e w' ⟨q0, vl', vw', x, q1, q2, q3, q4⟩
        refine ⟨q0, vl', vw', _, _, HB4.out.kept ⟨Nat.le_trans (Nat.le_of_eq HN.out.symm) HN2.out, HD32.out⟩ q2 q1, fun v hv g hg => ?_, q2, ?_⟩
        · rcases List.mem_append.1 hv with z | z
          · exact Nat.lt_of_lt_of_le (HBX.out.pb.us_lt v z g hg) B_X2.out.size
          · rw [List.mem_singleton.1 z] at hg
            exact Pw.lt P1_X2.out g hg
        · rintro g (z | z | z)
          · exact .inl (.inl z)
          · exact (q3 g z).imp (fun y => .inr (.inl y)) id
          · exact (q4 g z).imp (fun y => .inr (.inr y)) id
    go_upto_region 27 with (go_at_call 19; refine Calls.mono K1.out ?_; rintro e X5 ⟨rfl, vl1, vw1, us1, ws1, q1, q2, q3, q4⟩; have HB5 : Hid (Bo1 w0 X5 B Bp vp vl1 vw1 us1 ws1 ls (ds ++ [d]) A n c) := q1; have HU5 : Hid (∀ v ∈ us1, ∀ g, v.ownBlock = some g → g < X2.heap.size) := q2; have G5 : Hid (Gro (Rp B vl vw) X4 X5) := q3; have H5 : Hid (∀ g, Rp B vl1 vw1 g → Rp B vl vw g ∨ X4.heap.size ≤ g) := q4; clear q1 q2 q3 q4)
    have Q1 : Hid (Pw X5 (.slice A1 N d1) d) := Pw.gro P1.out G5.out (HB4.out.pb.offL P1.out (by decide) (by decide))
    have Q2 : Hid (Pw X5 (.slice A2 N d2) d) := Pw.gro P2.out G5.out (HB4.out.pb.offL P2.out (by decide) (by decide))
    have Q3 : Hid (Pw X5 (.slice A3 N d3) d) := Pw.gro P3_X4.out G5.out (HB4.out.pb.offL P3_X4.out (by decide) (by decide))
    have K2 : Hid (Calls Tryz.prog 19 #[.pointer (some ⟨B, 0, none⟩), .slice A2 N d2, .slice A3 N d3] X5 fun e w' => e = .returned (.tuple #[]) ∧ ∃ vl' vw' us' ws', Bo1 w0 w' B Bp vp vl' vw' us' ws' ls (ds ++ [d] ++ [d]) A n c ∧ Gro (Rp B vl1 vw1) X5 w') := by
      refine (keepsPath_ok w0 B vl1 vw1 us1 ws1 (ds ++ [d]) (by rw [List.length_append, List.length_singleton]; exact Nat.le_trans (Nat.succ_le_succ HDS.out) (by decide)) d HD32.out A2 A3 N d2 d3 HN.out HN2.out X5 Q2.out (fun v hv g hg q => ?_) (fun g q => ?_) Q3.out HB5.out.pb).mono ?_
      · exact Nat.lt_irrefl _ (Nat.lt_of_lt_of_le (HU5.out v hv g hg) (F2.out g q))
      · exact Nat.le_trans HB2.out.bk.be.size (F2.out g q)
      · rintro e w' ⟨q0, vl', vw', x, q1, q2, q3, q4⟩
        exact ⟨q0, vl', vw', _, _, HB5.out.kept ⟨Nat.le_trans (Nat.le_of_eq HN.out.symm) HN2.out, HD32.out⟩ q2 q1, q2⟩
    clear K1
    go_upto_region 28 with (go_at_call 19; refine Calls.mono K2.out ?_; rintro e X6 ⟨rfl, vl2, vw2, us2, ws2, q1, q2⟩; have HB6 : Hid (Bo1 w0 X6 B Bp vp vl2 vw2 us2 ws2 ls (ds ++ [d] ++ [d]) A n c) := q1; have G6 : Hid (Gro (Rp B vl1 vw1) X5 X6) := q2; clear q1 q2)
    have S1 : Hid (PAt X6 (.slice A1 N d1) d) := Pw.pat (Pw.gro Q1.out G6.out (HB5.out.pb.offL Q1.out (by decide) (by decide))) HD32.out
    have S3 : Hid (PAt X6 (.slice A3 N d3) d) := Pw.pat (Pw.gro Q3.out G6.out (HB5.out.pb.offL Q3.out (by decide) (by decide))) HD32.out
    have HS : Hid (Calls Tryz.prog 20 #[.slice A1 N d1, .slice A3 N d3] X6 fun e w' => e = .returned (.bool true) ∧ Below X6.heap.size X6 w') := samePath_any d N HN.out.symm (Nat.le_trans HN2.out (by decide)) A1 A3 d1 d3 X6 S1.out S3.out
    go_wp2_with (go_at_call 20; refine Calls.mono HS.out ?_; rintro e X7 ⟨rfl, q⟩; have B_X7 : Hid (Below X6.heap.size X6 X7) := q; clear q)
    go_ret2
    have g4 : Gro (fun g => Rp B vl vw g ∨ Rq Bp vp g) w X4 := ((((Gro.of_below B1.out).below B_X2.out).below B_X3.out).below B_X4.out)
    have g5 := g4.more11 G5.out (fun g q => .inl (.inl q))
    have g6 := g5.more11 G6.out (fun g q => (H5.out g q).imp .inl (fun z => Nat.le_trans g4.size z))
    exact ⟨A, n, c, rfl, ⟨⟨vp, vl2, vw2, us2, ws2, ls, _, HB6.out.be B_X7.out, Nat.le_succ _, by simp, fun g hg => .inl hg⟩, g6.below B_X7.out⟩⟩

end Go.Proofs.YtdicgenhfmhklaaGreatDoor

namespace Go.Proofs.YtdicgenhfmhklaaGreatDoor
open Go Go.RowKit
open Sha

set_option maxRecDepth 100000 in
theorem eqA1k (w : World) (l : List (BitVec 8)) (hl : l.length = 20) : (Op.equalIn 9999 35 (.agg (vB l).toArray) (.agg (vB l).toArray)).run Tryz.prog w = .ok true w := by
  have q := run_equalIn_bytes (P := Tryz.prog) w 9997 35 5 20 Tryz.underlying35 Tryz.underlying5 szU8 (toU l) (toU l) (by rw [toU_length, hl]) (by rw [toU_length, hl])
  rw [toU_beq, decide_eq_true rfl, ← vB_cell] at q
  exact q
theorem eqW1k (w : World) (l : List Nat) (hl : l.length = 4) : (Op.equalIn 9999 38 (.agg (vQ l).toArray) (.agg (vQ l).toArray)).run Tryz.prog w = .ok true w := by
  have q := run_equalIn_vQ (P := Tryz.prog) (w := w) 9997 38 36 4 Tryz.underlying38 Tryz.underlying36 szU64 l l hl hl
  rw [decide_eq_true rfl] at q
  exact q
set_option maxRecDepth 100000 in
set_option maxHeartbeats 4000000 in
theorem eqLk1 (ix en tk : Int) (s0 s1 s2 s3 s4 s5 s6 s7 s8 s9 s10 s11 s12 s13 s14 s15 s16 s17 s18 s19 : BitVec 8) (a0 a1 a2 a3 : Nat) (w : World) : (binOp .eql 40 (.agg #[.int .i64 ix, .int .i64 en, .int .i64 tk, .int .u8 (c s0), .int .u8 (c s1), .int .u8 (c s2), .int .u8 (c s3), .int .u8 (c s4), .int .u8 (c s5), .int .u8 (c s6), .int .u8 (c s7), .int .u8 (c s8), .int .u8 (c s9), .int .u8 (c s10), .int .u8 (c s11), .int .u8 (c s12), .int .u8 (c s13), .int .u8 (c s14), .int .u8 (c s15), .int .u8 (c s16), .int .u8 (c s17), .int .u8 (c s18), .int .u8 (c s19), .int .u64 (a0 : Int), .int .u64 (a1 : Int), .int .u64 (a2 : Int), .int .u64 (a3 : Int)]) (.agg #[.int .i64 ix, .int .i64 en, .int .i64 tk, .int .u8 (c s0), .int .u8 (c s1), .int .u8 (c s2), .int .u8 (c s3), .int .u8 (c s4), .int .u8 (c s5), .int .u8 (c s6), .int .u8 (c s7), .int .u8 (c s8), .int .u8 (c s9), .int .u8 (c s10), .int .u8 (c s11), .int .u8 (c s12), .int .u8 (c s13), .int .u8 (c s14), .int .u8 (c s15), .int .u8 (c s16), .int .u8 (c s17), .int .u8 (c s18), .int .u8 (c s19), .int .u64 (a0 : Int), .int .u64 (a1 : Int), .int .u64 (a2 : Int), .int .u64 (a3 : Int)])).run Tryz.prog w = .ok (.bool true) w := by
  have hA : ∀ w, (Op.equalIn 9999 35 (.agg #[.int .u8 (c s0), .int .u8 (c s1), .int .u8 (c s2), .int .u8 (c s3), .int .u8 (c s4), .int .u8 (c s5), .int .u8 (c s6), .int .u8 (c s7), .int .u8 (c s8), .int .u8 (c s9), .int .u8 (c s10), .int .u8 (c s11), .int .u8 (c s12), .int .u8 (c s13), .int .u8 (c s14), .int .u8 (c s15), .int .u8 (c s16), .int .u8 (c s17), .int .u8 (c s18), .int .u8 (c s19)]) (.agg #[.int .u8 (c s0), .int .u8 (c s1), .int .u8 (c s2), .int .u8 (c s3), .int .u8 (c s4), .int .u8 (c s5), .int .u8 (c s6), .int .u8 (c s7), .int .u8 (c s8), .int .u8 (c s9), .int .u8 (c s10), .int .u8 (c s11), .int .u8 (c s12), .int .u8 (c s13), .int .u8 (c s14), .int .u8 (c s15), .int .u8 (c s16), .int .u8 (c s17), .int .u8 (c s18), .int .u8 (c s19)])).run Tryz.prog w = .ok true w := fun w => eqA1k w [s0, s1, s2, s3, s4, s5, s6, s7, s8, s9, s10, s11, s12, s13, s14, s15, s16, s17, s18, s19] rfl
  have hW : ∀ w, (Op.equalIn 9999 38 (.agg #[.int .u64 (a0 : Int), .int .u64 (a1 : Int), .int .u64 (a2 : Int), .int .u64 (a3 : Int)]) (.agg #[.int .u64 (a0 : Int), .int .u64 (a1 : Int), .int .u64 (a2 : Int), .int .u64 (a3 : Int)])).run Tryz.prog w = .ok true w := fun w => eqW1k w [a0, a1, a2, a3] rfl
  go_simp
theorem eqLk (ix en tk : Int) (rc : List (BitVec 8)) (am : List Nat) (h : rc.length = 20) (h4 : am.length = 4) (w : World) : (binOp .eql 40 (.agg (lf ix en tk rc am).toArray) (.agg (lf ix en tk rc am).toArray)).run Tryz.prog w = .ok (.bool true) w := by
  match rc, h, am, h4 with
  | [s0, s1, s2, s3, s4, s5, s6, s7, s8, s9, s10, s11, s12, s13, s14, s15, s16, s17, s18, s19], _, [a0, a1, a2, a3], _ => exact eqLk1 ix en tk s0 s1 s2 s3 s4 s5 s6 s7 s8 s9 s10 s11 s12 s13 s14 s15 s16 s17 s18 s19 a0 a1 a2 a3 w
set_option maxRecDepth 100000 in
set_option maxHeartbeats 8000000 in
theorem booked_leaf (K : Int) (hK : K = 5) (w0 w : World) (hG : Given w0) (hT : Tab w0 2) (B Bp : Nat) (vp vl vw : Value) (us ws : List Value) (ls : List Lv11) (ds : List (List (List (BitVec 8)))) (hls : ls.length ≤ 900000) (_hds : ds.length ≤ 900000) (A : Option Addr) (n c : Nat) (x : Sv11) (hx : x.Ok) (hk : pk x.wh 12 = K) (XC : List Value) (hXC : XC = x.cells) (hb : Bo1 w0 w B Bp vp vl vw us ws ls ds A n c) :
    Calls Tryz.prog 6 #[.pointer (some ⟨B, 0, none⟩), .pointer (some ⟨Bp, 0, none⟩), .slice A n c, .agg XC.toArray] w fun e w' => ∃ A' n' c', e = .returned (.tuple #[.slice A' n' c', .bool true]) ∧ Bo2 w0 w w' B Bp vp vl vw ls.length ds.length A' n' c' := by
  obtain ⟨wh, xn, xm, l⟩ := x
  have HPK : Hid (∀ X, Calls Tryz.prog 14 #[.int .i64 wh, .int .i64 12] X fun e w' => e = .returned (.int .i64 K) ∧ w' = X) := fun X => by
    have := pick11 wh 12 (by decide) hx.w1 hx.w2 (by decide) X
    rw [show pk wh 12 = K from hk] at this
    exact this
  have HB : Hid (Bo1 w0 w B Bp vp vl vw us ws ls ds A n c) := hb
  have HGv : Hid (Given w0) := hG
  have HTb : Hid (Tab w0 2) := hT
  obtain ⟨L, hL⟩ : ∃ L, L = l.cells := ⟨_, rfl⟩
  have HXL : Hid (XC = .int .i64 wh :: .int .i64 xn :: .int .i64 xm :: L) := by rw [hL]; exact hXC
  have hlo : l.Ok := hx.l
  have HI : Hid ((Tryz.prog.info? 40).map (·.size) = some L.length) := by rw [hL]; exact Lv11.info hlo
  obtain ⟨C, E, ⟨l2, hl2, hC⟩, hP, hD⟩ := leaf_both ls (by omega) hb.dk.ok hb.dk.may xn
  have HP : Hid (∀ (w0 : World) (B : Nat) (v : Value) (w : World), Bk w0 w B v (ls.map Lv11.bytes) → Calls Tryz.prog 13 #[.pointer (some ⟨B, 0, none⟩), .int .i64 xn] w fun e w' => e = .returned (.tuple #[.agg C.toArray, .int .i64 E]) ∧ Below w.heap.size w w') := hP
  have HD : Hid (∀ (w : World) (A : Option Addr) (n c : Nat), Dk w A n c ls → Calls Tryz.prog 16 #[.slice A n c, .int .i64 xn] w fun e w' => e = .returned (.tuple #[.agg C.toArray, .int .i64 E]) ∧ Below w.heap.size w w') := hD
  have HCL : Hid (C.length = zLf.length) := by show _ = _; rw [hC]; exact Lv11.len hl2
  have HCI : Hid ((Tryz.prog.info? 40).map (·.size) = some C.length) := by rw [hC]; exact Lv11.info hl2
  have HCO : Hid (C.toArray.all (·.oneCell') = true) := by rw [hC]; exact all_oneCell_toArray lf_one
  have HEQ : Hid (∀ w, (binOp .eql 40 (.agg C.toArray) (.agg C.toArray)).run Tryz.prog w = .ok (.bool true) w) := fun w => by rw [hC]; exact eqLk _ _ _ _ _ hl2.rc hl2.am w
  clear hP hD hC hl2
  clear hlo hL hls _hds
  clear hx hk hXC hb hG hT
  go_enter Tryz.func6, Tryz.ntmps6
  go_upto_region 1 with (refine wpList_boxG 42 rfl (.tmp 3) rfl XC rfl ?_; intro X1 q1 q2 q3; have R1 : Hid (Row X1 w.heap.size XC 42) := q1; have B1 : Hid (Below w.heap.size w X1) := q2; clear q1 q2 q3; simp only [Act.put, List.setIfInBounds_toArray, List.set_cons_zero, List.set_cons_succ])
  have HRW : Hid (∀ W, Below X1.heap.size X1 W → Row W w.heap.size (.int .i64 wh :: .int .i64 xn :: .int .i64 xm :: L) 42) := fun W hW => by
    have := Row.below R1.out hW R1.out.lt
    rwa [HXL.out] at this
  have HBX : Hid (Bo1 w0 X1 B Bp vp vl vw us ws ls ds A n c) := HB.out.be B1.out
  have c0 : X1.cell? ⟨w.heap.size, 0, none⟩ = some (.int .i64 wh) := (HRW.out X1 (Below.refl _ _)).cell 0 _ rfl
  have c1 : X1.cell? ⟨w.heap.size, 1, none⟩ = some (.int .i64 xn) := (HRW.out X1 (Below.refl _ _)).cell 1 _ rfl
  have c2 : X1.cell? ⟨w.heap.size, 2, none⟩ = some (.int .i64 xm) := (HRW.out X1 (Below.refl _ _)).cell 2 _ rfl
  have HL3 : Hid (∀ W, Row W w.heap.size (.int .i64 wh :: .int .i64 xn :: .int .i64 xm :: L) 42 → W.rangeAt w.heap.size 3 L) := fun W hW => hW.range 3 L (fun j u hj => by rw [show 3 + j = j + 1 + 1 + 1 by omega]; exact hj)
  clear HXL
  rcases hK with rfl
  all_goals
    go_upto_region 12 with (go_at_call 14; refine Calls.mono (HPK.out _) ?_; rintro e X ⟨rfl, hX⟩; obtain rfl := hX.symm)
    go_upto_region 13 with (first
      | (go_at_call 13; refine Calls.mono (HP.out w0 Bp vp X1 HBX.out.bk) ?_; rintro e X2 ⟨rfl, q⟩; have B_X2 : Hid (Below X1.heap.size X1 X2) := q; clear q)
      | (refine wpList_allocLf rfl rfl ?_; intro X3 q1 q2 q3; have R_X3 : Hid (Row X3 X2.heap.size zLf 40) := q1; have B_X3 : Hid (Below X2.heap.size X2 X3) := q2; clear q1 q2 q3; simp only [Act.put, List.setIfInBounds_toArray, List.set_cons_zero, List.set_cons_succ])
      | (refine wpList_storeL rfl 40 (.tmp 13) (.tmp 71) rfl X2.heap.size C zLf 40 rfl rfl R_X3.out HCL.out HCI.out HCO.out ?_; intro X4 q1 q2; have R_X4 : Hid (Row X4 X2.heap.size C 40) := q2; have B_X4 : Hid (Below X1.heap.size X1 X4) := B_X2.out.trans ((by rw [q1]; exact below_setCells B_X3.out (Nat.le_refl _) C : Below X2.heap.size X2 X4).mono B_X2.out.size); clear q1 q2; simp only [Act.put]))
    have HB4 : Hid (Bo1 w0 X4 B Bp vp vl vw us ws ls ds A n c) := HBX.out.be B_X4.out
    clear c0 c1 c2
    have HR_X4 : Hid (Row X4 w.heap.size (.int .i64 wh :: .int .i64 xn :: .int .i64 xm :: L) 42) := HRW.out X4 B_X4.out
    have c0 : X4.cell? ⟨w.heap.size, 0, none⟩ = some (.int .i64 wh) := HR_X4.out.cell 0 _ rfl
    have c1 : X4.cell? ⟨w.heap.size, 1, none⟩ = some (.int .i64 xn) := HR_X4.out.cell 1 _ rfl
    have c2 : X4.cell? ⟨w.heap.size, 2, none⟩ = some (.int .i64 xm) := HR_X4.out.cell 2 _ rfl
    go_upto_region 14 with (first
      | (go_at_call 16; refine Calls.mono (HD.out X4 A n c HB4.out.dk) ?_; rintro e X5 ⟨rfl, q⟩; have B_X5 : Hid (Below X4.heap.size X4 X5) := q; clear q)
      | (refine wpList_allocLf rfl rfl ?_; intro X6 q1 q2 q3; have R_X6 : Hid (Row X6 X5.heap.size zLf 40) := q1; have B_X6 : Hid (Below X5.heap.size X5 X6) := q2; clear q1 q2 q3; simp only [Act.put, List.setIfInBounds_toArray, List.set_cons_zero, List.set_cons_succ])
      | (refine wpList_storeL rfl 40 (.tmp 15) (.tmp 78) rfl X5.heap.size C zLf 40 rfl rfl R_X6.out HCL.out HCI.out HCO.out ?_; intro X7 q1 q2; have R_X7 : Hid (Row X7 X5.heap.size C 40) := q2; have B_X7 : Hid (Below X4.heap.size X4 X7) := B_X5.out.trans ((by rw [q1]; exact below_setCells B_X6.out (Nat.le_refl _) C : Below X5.heap.size X5 X7).mono B_X5.out.size); clear q1 q2; simp only [Act.put]))
    clear c0 c1 c2
    have R_7 : Hid (Row X7 X2.heap.size C 40) := Row.below R_X4.out B_X7.out R_X4.out.lt
    go_wp2_with (first
      | (refine wpList_load_w rfl 40 (.tmp 13) rfl X2.heap.size 0 rfl C _ R_7.out.all Tryz.underlying40 rfl HCI.out ?_; simp only [Act.put, List.setIfInBounds_toArray, List.set_cons_zero, List.set_cons_succ])
      | (refine wpList_load_w rfl 40 (.tmp 15) rfl X5.heap.size 0 rfl C _ R_X7.out.all Tryz.underlying40 rfl HCI.out ?_; simp only [Act.put, List.setIfInBounds_toArray, List.set_cons_zero, List.set_cons_succ])
      | (refine wpList_eqlLf rfl (.tmp 81) (.tmp 82) _ rfl C rfl rfl HEQ.out ?_; simp only [Act.put, List.setIfInBounds_toArray, List.set_cons_zero, List.set_cons_succ]))
    go_ret2
    exact ⟨A, n, c, rfl, HB.out.same (B1.out.trans ((B_X4.out.trans (B_X7.out.mono B_X4.out.size)).mono B1.out.size))⟩

end Go.Proofs.YtdicgenhfmhklaaGreatDoor

namespace Go.Proofs.YtdicgenhfmhklaaGreatDoor
open Go Go.RowKit
open Sha

set_option maxRecDepth 100000 in
set_option maxHeartbeats 8000000 in
theorem booked_cut (K : Int) (hK : K = 11) (w0 w : World) (hG : Given w0) (hT : Tab w0 2) (B Bp : Nat) (vp vl vw : Value) (us ws : List Value) (ls : List Lv11) (ds : List (List (List (BitVec 8)))) (hls : ls.length ≤ 900000) (_hds : ds.length ≤ 900000) (A : Option Addr) (n c : Nat) (x : Sv11) (hx : x.Ok) (hk : pk x.wh 12 = K) (XC : List Value) (hXC : XC = x.cells) (hb : Bo1 w0 w B Bp vp vl vw us ws ls ds A n c) :
    Calls Tryz.prog 6 #[.pointer (some ⟨B, 0, none⟩), .pointer (some ⟨Bp, 0, none⟩), .slice A n c, .agg XC.toArray] w fun e w' => ∃ A' n' c', e = .returned (.tuple #[.slice A' n' c', .bool true]) ∧ Bo2 w0 w w' B Bp vp vl vw ls.length ds.length A' n' c' := by
  obtain ⟨wh, xn, xm, l⟩ := x
  have HPK : Hid (∀ X, Calls Tryz.prog 14 #[.int .i64 wh, .int .i64 12] X fun e w' => e = .returned (.int .i64 K) ∧ w' = X) := fun X => by
    have := pick11 wh 12 (by decide) hx.w1 hx.w2 (by decide) X
    rw [show pk wh 12 = K from hk] at this
    exact this
  have HB : Hid (Bo1 w0 w B Bp vp vl vw us ws ls ds A n c) := hb
  have HGv : Hid (Given w0) := hG
  have HTb : Hid (Tab w0 2) := hT
  obtain ⟨L, hL⟩ : ∃ L, L = l.cells := ⟨_, rfl⟩
  have HXL : Hid (XC = .int .i64 wh :: .int .i64 xn :: .int .i64 xm :: L) := by rw [hL]; exact hXC
  have hlo : l.Ok := hx.l
  have HI : Hid ((Tryz.prog.info? 40).map (·.size) = some L.length) := by rw [hL]; exact Lv11.info hlo
  obtain ⟨E, ls', hl', hP, hD⟩ := cut_both ls (by omega) xm
  have HP : Hid (∀ (w0 : World) (B : Nat) (v : Value) (w : World), Bk w0 w B v (ls.map Lv11.bytes) → Calls Tryz.prog 21 #[.pointer (some ⟨B, 0, none⟩), .int .i64 xm] w fun e w' => e = .returned (.int .i64 E) ∧ ∃ v', Bk w0 w' B v' (ls'.map Lv11.bytes) ∧ Gro (fun g => g = B ∨ v.ownBlock = some g) w w' ∧ ∀ g, v'.ownBlock = some g → v.ownBlock = some g ∨ w.heap.size ≤ g) := hP
  have HD : Hid (∀ (w : World) (A : Option Addr) (n c : Nat), Dk w A n c ls → Calls Tryz.prog 22 #[.slice A n c, .int .i64 xm] w fun e w' => ∃ A' n' c', e = .returned (.tuple #[.slice A' n' c', .int .i64 E]) ∧ Dk w' A' n' c' ls' ∧ Below w.heap.size w w') := hD
  have HLE : Hid (ls'.length ≤ ls.length) := hl'
  clear hP hD hl' hlo hL hls _hds
  clear hx hk hXC hb hG hT
  go_enter Tryz.func6, Tryz.ntmps6
  go_upto_region 1 with (refine wpList_boxG 42 rfl (.tmp 3) rfl XC rfl ?_; intro X1 q1 q2 q3; have R1 : Hid (Row X1 w.heap.size XC 42) := q1; have B1 : Hid (Below w.heap.size w X1) := q2; clear q1 q2 q3; simp only [Act.put, List.setIfInBounds_toArray, List.set_cons_zero, List.set_cons_succ])
  have HRW : Hid (∀ W, Below X1.heap.size X1 W → Row W w.heap.size (.int .i64 wh :: .int .i64 xn :: .int .i64 xm :: L) 42) := fun W hW => by
    have := Row.below R1.out hW R1.out.lt
    rwa [HXL.out] at this
  have HBX : Hid (Bo1 w0 X1 B Bp vp vl vw us ws ls ds A n c) := HB.out.be B1.out
  have c0 : X1.cell? ⟨w.heap.size, 0, none⟩ = some (.int .i64 wh) := (HRW.out X1 (Below.refl _ _)).cell 0 _ rfl
  have c1 : X1.cell? ⟨w.heap.size, 1, none⟩ = some (.int .i64 xn) := (HRW.out X1 (Below.refl _ _)).cell 1 _ rfl
  have c2 : X1.cell? ⟨w.heap.size, 2, none⟩ = some (.int .i64 xm) := (HRW.out X1 (Below.refl _ _)).cell 2 _ rfl
  have HL3 : Hid (∀ W, Row W w.heap.size (.int .i64 wh :: .int .i64 xn :: .int .i64 xm :: L) 42 → W.rangeAt w.heap.size 3 L) := fun W hW => hW.range 3 L (fun j u hj => by rw [show 3 + j = j + 1 + 1 + 1 by omega]; exact hj)
  clear HXL
  subst hK
  go_wp2_with (first
    | (go_at_call 14; refine Calls.mono (HPK.out _) ?_; rintro e X ⟨rfl, hX⟩; obtain rfl := hX.symm)
    | (go_at_call 21; refine Calls.mono (HP.out w0 Bp vp X1 HBX.out.bk) ?_; rintro e X2 ⟨rfl, vp', q1, q2, q3⟩; have HR_X2 : Hid (Row X2 w.heap.size (.int .i64 wh :: .int .i64 xn :: .int .i64 xm :: L) 42) := ((q2.block w.heap.size (HRW.out X1 (Below.refl _ _)).lt (HBX.out.bk.offR (HRW.out X1 (Below.refl _ _)) (by decide) (by decide))).trans (HRW.out X1 (Below.refl _ _))); have HBK : Hid (Bk w0 X2 Bp vp' (ls'.map Lv11.bytes)) := q1; have HGR : Hid (Gro (fun g => g = Bp ∨ vp.ownBlock = some g) X1 X2) := q2; have HN : Hid (∀ g, vp'.ownBlock = some g → vp.ownBlock = some g ∨ X1.heap.size ≤ g) := q3; have HDK : Hid (Dk X2 A n c ls) := (HBX.out.turned q2).1; clear q1 q2 q3 c0 c1 c2; have c0 : X2.cell? ⟨w.heap.size, 0, none⟩ = some (.int .i64 wh) := HR_X2.out.cell 0 _ rfl; have c1 : X2.cell? ⟨w.heap.size, 1, none⟩ = some (.int .i64 xn) := HR_X2.out.cell 1 _ rfl; have c2 : X2.cell? ⟨w.heap.size, 2, none⟩ = some (.int .i64 xm) := HR_X2.out.cell 2 _ rfl)
    | (go_at_call 22; refine Calls.mono (HD.out X2 A n c HDK.out) ?_; rintro e X3 ⟨A', n', c', rfl, q1, q2⟩; have HD3 : Hid (Dk X3 A' n' c' ls') := q1; have HB3 : Hid (Below X2.heap.size X2 X3) := q2; clear q1 q2))
  go_ret2
  obtain ⟨⟨vq, vl', vw', us', ws', lt, dt, z1, z2, z3, z4⟩, z5⟩ := HBX.out.next HGR.out HBK.out (Nat.le_succ_of_le HLE.out) HN.out HB3.out HD3.out
  exact ⟨A', n', c', rfl, ⟨⟨vq, vl', vw', us', ws', lt, dt, z1, z2, z3, fun g hg => (z4 g hg).imp id (fun q => Nat.le_trans B1.out.size q)⟩, (Gro.of_below B1.out).trans z5⟩⟩
set_option maxRecDepth 100000 in
set_option maxHeartbeats 4000000 in
theorem booked_len (K : Int) (hK : K = 4) (w0 w : World) (B Bp : Nat) (vp vl vw : Value) (us ws : List Value) (ls : List Lv11) (ds : List (List (List (BitVec 8)))) (A : Option Addr) (n c : Nat) (x : Sv11) (hx : x.Ok) (hk : pk x.wh 12 = K) (XC : List Value) (hXC : XC = x.cells) (hb : Bo1 w0 w B Bp vp vl vw us ws ls ds A n c) :
    Calls Tryz.prog 6 #[.pointer (some ⟨B, 0, none⟩), .pointer (some ⟨Bp, 0, none⟩), .slice A n c, .agg XC.toArray] w fun e w' => ∃ A' n' c', e = .returned (.tuple #[.slice A' n' c', .bool true]) ∧ Bo2 w0 w w' B Bp vp vl vw ls.length ds.length A' n' c' := by
  obtain ⟨wh, xn, xm, l⟩ := x
  have HPK : Hid (∀ X, Calls Tryz.prog 14 #[.int .i64 wh, .int .i64 12] X fun e w' => e = .returned (.int .i64 K) ∧ w' = X) := fun X => by
    have := pick11 wh 12 (by decide) hx.w1 hx.w2 (by decide) X
    rw [show pk wh 12 = K from hk] at this
    exact this
  have HB : Hid (Bo1 w0 w B Bp vp vl vw us ws ls ds A n c) := hb
  obtain ⟨Ap, cp, ep⟩ : ∃ Ap cp, vp = .slice Ap n cp := by
    obtain ⟨Ap, cp, ep⟩ := hb.bk.form
    rw [List.length_map, hb.dk.len] at ep
    exact ⟨Ap, cp, ep⟩
  obtain ⟨L, hL⟩ : ∃ L, L = l.cells := ⟨_, rfl⟩
  have HXL : Hid (XC = .int .i64 wh :: .int .i64 xn :: .int .i64 xm :: L) := by rw [hL]; exact hXC
  have HEP : Hid (vp = .slice Ap n cp) := ep
  have HLN : Hid (∀ X, Calls Tryz.prog 9 #[.slice Ap n cp] X fun e w' => e = .returned (.int .i64 (n : Int)) ∧ w' = X) := fun X => len_any Ap n cp X
  clear hx hk hXC hb hL ep
  subst hK
  go_enter Tryz.func6, Tryz.ntmps6
  go_upto_region 1 with (refine wpList_boxG 42 rfl (.tmp 3) rfl XC rfl ?_; intro X1 q1 q2 q3; have R1 : Hid (Row X1 w.heap.size XC 42) := q1; have B1 : Hid (Below w.heap.size w X1) := q2; clear q1 q2 q3; simp only [Act.put, List.setIfInBounds_toArray, List.set_cons_zero, List.set_cons_succ])
  have c0 : X1.cell? ⟨w.heap.size, 0, none⟩ = some (.int .i64 wh) := by
    have := R1.out
    rw [HXL.out] at this
    exact this.cell 0 _ rfl
  have c9 : X1.cell? ⟨Bp, 0, none⟩ = some (.slice Ap n cp) := by
    have := (HB.out.be B1.out).bk.row
    rw [HEP.out] at this
    exact this.cell 0 _ rfl
  go_wp2_with (first
    | (go_at_call 14; refine Calls.mono (HPK.out _) ?_; rintro e X ⟨rfl, hX⟩; obtain rfl := hX.symm)
    | (go_at_call 9; refine Calls.mono (HLN.out _) ?_; rintro e X ⟨rfl, hX⟩; obtain rfl := hX.symm))
  go_ret2
  exact ⟨A, n, c, rfl, HB.out.same B1.out⟩

end Go.Proofs.YtdicgenhfmhklaaGreatDoor

namespace Go.Proofs.YtdicgenhfmhklaaGreatDoor
open Go Go.RowKit
open Sha

set_option maxRecDepth 100000 in
set_option maxHeartbeats 8000000 in
theorem booked_root (K : Int) (hK : K = 6 ∨ K = 7) (w0 w : World) (hG : Given w0) (hT : Tab w0 2) (B Bp : Nat) (vp vl vw : Value) (us ws : List Value) (ls : List Lv11) (ds : List (List (List (BitVec 8)))) (hls : ls.length ≤ 900000) (_hds : ds.length ≤ 900000) (A : Option Addr) (n c : Nat) (x : Sv11) (hx : x.Ok) (hk : pk x.wh 12 = K) (XC : List Value) (hXC : XC = x.cells) (hb : Bo1 w0 w B Bp vp vl vw us ws ls ds A n c) :
    Calls Tryz.prog 6 #[.pointer (some ⟨B, 0, none⟩), .pointer (some ⟨Bp, 0, none⟩), .slice A n c, .agg XC.toArray] w fun e w' => ∃ A' n' c', e = .returned (.tuple #[.slice A' n' c', .bool true]) ∧ Bo2 w0 w w' B Bp vp vl vw ls.length ds.length A' n' c' := by
  obtain ⟨wh, xn, xm, l⟩ := x
  have HPK : Hid (∀ X, Calls Tryz.prog 14 #[.int .i64 wh, .int .i64 12] X fun e w' => e = .returned (.int .i64 K) ∧ w' = X) := fun X => by
    have := pick11 wh 12 (by decide) hx.w1 hx.w2 (by decide) X
    rw [show pk wh 12 = K from hk] at this
    exact this
  have HB : Hid (Bo1 w0 w B Bp vp vl vw us ws ls ds A n c) := hb
  have HGv : Hid (Given w0) := hG
  have HTb : Hid (Tab w0 2) := hT
  obtain ⟨L, hL⟩ : ∃ L, L = l.cells := ⟨_, rfl⟩
  have HXL : Hid (XC = .int .i64 wh :: .int .i64 xn :: .int .i64 xm :: L) := by rw [hL]; exact hXC
  have hlo : l.Ok := hx.l
  have HI : Hid ((Tryz.prog.info? 40).map (·.size) = some L.length) := by rw [hL]; exact Lv11.info hlo
  obtain ⟨dd, E, h32, hP, hD⟩ := root_both ls (by omega) hb.dk.ok xm
  have HP : Hid (∀ (w0 : World) (B : Nat) (v : Value) (w : World), Tab w 2 → Bk w0 w B v (ls.map Lv11.bytes) → Calls Tryz.prog 7 #[.pointer (some ⟨B, 0, none⟩), .int .i64 xm] w fun e w' => e = .returned (.tuple #[.agg (vB dd).toArray, .int .i64 E]) ∧ Below w.heap.size w w') := hP
  have HD : Hid (∀ (w : World) (A : Option Addr) (n c : Nat), Given w → Dk w A n c ls → Calls Tryz.prog 8 #[.slice A n c, .int .i64 xm] w fun e w' => e = .returned (.tuple #[.agg (vB dd).toArray, .int .i64 E]) ∧ Below w.heap.size w w') := hD
  have HCL : Hid ((vB dd).length = (vB (List.replicate 32 0#8)).length) := by show _ = _; rw [vB_length, h32]; rfl
  have HCI : Hid ((Tryz.prog.info? 44).map (·.size) = some (vB dd).length) := info_dg11 dd h32
  have HCO : Hid ((vB dd).toArray.all (·.oneCell') = true) := vB_all11 dd
  have HDl : Hid (Dl dd) := h32
  clear hP hD h32
  clear hlo hL hls _hds
  clear hx hk hXC hb hG hT
  go_enter Tryz.func6, Tryz.ntmps6
  go_upto_region 1 with (refine wpList_boxG 42 rfl (.tmp 3) rfl XC rfl ?_; intro X1 q1 q2 q3; have R1 : Hid (Row X1 w.heap.size XC 42) := q1; have B1 : Hid (Below w.heap.size w X1) := q2; clear q1 q2 q3; simp only [Act.put, List.setIfInBounds_toArray, List.set_cons_zero, List.set_cons_succ])
  have HRW : Hid (∀ W, Below X1.heap.size X1 W → Row W w.heap.size (.int .i64 wh :: .int .i64 xn :: .int .i64 xm :: L) 42) := fun W hW => by
    have := Row.below R1.out hW R1.out.lt
    rwa [HXL.out] at this
  have HBX : Hid (Bo1 w0 X1 B Bp vp vl vw us ws ls ds A n c) := HB.out.be B1.out
  have c0 : X1.cell? ⟨w.heap.size, 0, none⟩ = some (.int .i64 wh) := (HRW.out X1 (Below.refl _ _)).cell 0 _ rfl
  have c1 : X1.cell? ⟨w.heap.size, 1, none⟩ = some (.int .i64 xn) := (HRW.out X1 (Below.refl _ _)).cell 1 _ rfl
  have c2 : X1.cell? ⟨w.heap.size, 2, none⟩ = some (.int .i64 xm) := (HRW.out X1 (Below.refl _ _)).cell 2 _ rfl
  have HL3 : Hid (∀ W, Row W w.heap.size (.int .i64 wh :: .int .i64 xn :: .int .i64 xm :: L) 42 → W.rangeAt w.heap.size 3 L) := fun W hW => hW.range 3 L (fun j u hj => by rw [show 3 + j = j + 1 + 1 + 1 by omega]; exact hj)
  clear HXL
  rcases hK with rfl | rfl
  all_goals
    go_upto_region 17 with (go_at_call 14; refine Calls.mono (HPK.out _) ?_; rintro e X ⟨rfl, hX⟩; obtain rfl := hX.symm)
    go_upto_region 18 with (first
      | (go_at_call 7; refine Calls.mono (HP.out w0 Bp vp X1 (HTb.out.below HBX.out.bk.be HTb.out.lt) HBX.out.bk) ?_; rintro e X2 ⟨rfl, q⟩; have B_X2 : Hid (Below X1.heap.size X1 X2) := q; clear q)
      | (refine wpList_allocDg rfl rfl ?_; intro X3 q1 q2 ; have R_X3 : Hid (Row X3 X2.heap.size (vB (List.replicate 32 0#8)) 44) := q1; have B_X3 : Hid (Below X2.heap.size X2 X3) := q2; clear q1 q2 ; simp only [Act.put, List.setIfInBounds_toArray, List.set_cons_zero, List.set_cons_succ])
      | (refine wpList_storeL rfl 44 (.tmp 17) (.tmp 97) rfl X2.heap.size (vB dd) (vB (List.replicate 32 0#8)) 44 rfl rfl R_X3.out HCL.out HCI.out HCO.out ?_; intro X4 q1 q2; have R_X4 : Hid (Row X4 X2.heap.size (vB dd) 44) := q2; have B_X4 : Hid (Below X1.heap.size X1 X4) := B_X2.out.trans ((by rw [q1]; exact below_setCells B_X3.out (Nat.le_refl _) (vB dd) : Below X2.heap.size X2 X4).mono B_X2.out.size); clear q1 q2; simp only [Act.put]))
    have HB4 : Hid (Bo1 w0 X4 B Bp vp vl vw us ws ls ds A n c) := HBX.out.be B_X4.out
    clear c0 c1 c2
    have HR_X4 : Hid (Row X4 w.heap.size (.int .i64 wh :: .int .i64 xn :: .int .i64 xm :: L) 42) := HRW.out X4 B_X4.out
    have c0 : X4.cell? ⟨w.heap.size, 0, none⟩ = some (.int .i64 wh) := HR_X4.out.cell 0 _ rfl
    have c1 : X4.cell? ⟨w.heap.size, 1, none⟩ = some (.int .i64 xn) := HR_X4.out.cell 1 _ rfl
    have c2 : X4.cell? ⟨w.heap.size, 2, none⟩ = some (.int .i64 xm) := HR_X4.out.cell 2 _ rfl
    go_upto_region 19 with (first
      | (go_at_call 8; refine Calls.mono (HD.out X4 A n c (HGv.out.low HB4.out.bk.be) HB4.out.dk) ?_; rintro e X5 ⟨rfl, q⟩; have B_X5 : Hid (Below X4.heap.size X4 X5) := q; clear q)
      | (refine wpList_allocDg rfl rfl ?_; intro X6 q1 q2 ; have R_X6 : Hid (Row X6 X5.heap.size (vB (List.replicate 32 0#8)) 44) := q1; have B_X6 : Hid (Below X5.heap.size X5 X6) := q2; clear q1 q2 ; simp only [Act.put, List.setIfInBounds_toArray, List.set_cons_zero, List.set_cons_succ])
      | (refine wpList_storeL rfl 44 (.tmp 19) (.tmp 104) rfl X5.heap.size (vB dd) (vB (List.replicate 32 0#8)) 44 rfl rfl R_X6.out HCL.out HCI.out HCO.out ?_; intro X7 q1 q2; have R_X7 : Hid (Row X7 X5.heap.size (vB dd) 44) := q2; have B_X7 : Hid (Below X4.heap.size X4 X7) := B_X5.out.trans ((by rw [q1]; exact below_setCells B_X6.out (Nat.le_refl _) (vB dd) : Below X5.heap.size X5 X7).mono B_X5.out.size); clear q1 q2; simp only [Act.put]))
    clear c0 c1 c2
    have R_7 : Hid (Row X7 X2.heap.size (vB dd) 44) := Row.below R_X4.out B_X7.out R_X4.out.lt
    go_wp2_with (first
      | (refine wpList_load_w rfl 44 (.tmp 17) rfl X2.heap.size 0 rfl (vB dd) _ R_7.out.all Tryz.underlying44 rfl HCI.out ?_; simp only [Act.put, List.setIfInBounds_toArray, List.set_cons_zero, List.set_cons_succ])
      | (refine wpList_load_w rfl 44 (.tmp 19) rfl X5.heap.size 0 rfl (vB dd) _ R_X7.out.all Tryz.underlying44 rfl HCI.out ?_; simp only [Act.put, List.setIfInBounds_toArray, List.set_cons_zero, List.set_cons_succ])
      | (refine wpList_eql_same rfl (.tmp 107) (.tmp 108) _ rfl dd HDl.out rfl rfl ?_; simp only [Act.put, List.setIfInBounds_toArray, List.set_cons_zero, List.set_cons_succ]))
    go_ret2
    exact ⟨A, n, c, rfl, HB.out.same (B1.out.trans ((B_X4.out.trans (B_X7.out.mono B_X4.out.size)).mono B1.out.size))⟩

end Go.Proofs.YtdicgenhfmhklaaGreatDoor

namespace Go.Proofs.YtdicgenhfmhklaaGreatDoor
open Go Go.RowKit
open Sha

set_option maxRecDepth 100000 in
set_option maxHeartbeats 8000000 in
theorem booked_put (K : Int) (hK : K = 0 ∨ K = 1 ∨ K = 2 ∨ K = 3) (w0 w : World) (hG : Given w0) (hT : Tab w0 2) (B Bp : Nat) (vp vl vw : Value) (us ws : List Value) (ls : List Lv11) (ds : List (List (List (BitVec 8)))) (hls : ls.length ≤ 900000) (_hds : ds.length ≤ 900000) (A : Option Addr) (n c : Nat) (x : Sv11) (hx : x.Ok) (hk : pk x.wh 12 = K) (XC : List Value) (hXC : XC = x.cells) (hb : Bo1 w0 w B Bp vp vl vw us ws ls ds A n c) :
    Calls Tryz.prog 6 #[.pointer (some ⟨B, 0, none⟩), .pointer (some ⟨Bp, 0, none⟩), .slice A n c, .agg XC.toArray] w fun e w' => ∃ A' n' c', e = .returned (.tuple #[.slice A' n' c', .bool true]) ∧ Bo2 w0 w w' B Bp vp vl vw ls.length ds.length A' n' c' := by
  obtain ⟨wh, xn, xm, l⟩ := x
  have HPK : Hid (∀ X, Calls Tryz.prog 14 #[.int .i64 wh, .int .i64 12] X fun e w' => e = .returned (.int .i64 K) ∧ w' = X) := fun X => by
    have := pick11 wh 12 (by decide) hx.w1 hx.w2 (by decide) X
    rw [show pk wh 12 = K from hk] at this
    exact this
  have HB : Hid (Bo1 w0 w B Bp vp vl vw us ws ls ds A n c) := hb
  have HGv : Hid (Given w0) := hG
  have HTb : Hid (Tab w0 2) := hT
  obtain ⟨L, hL⟩ : ∃ L, L = l.cells := ⟨_, rfl⟩
  have HXL : Hid (XC = .int .i64 wh :: .int .i64 xn :: .int .i64 xm :: L) := by rw [hL]; exact hXC
  have hlo : l.Ok := hx.l
  have HI : Hid ((Tryz.prog.info? 40).map (·.size) = some L.length) := by rw [hL]; exact Lv11.info hlo
  obtain ⟨E, ls', hl', hP, hD⟩ := put_both ls (by omega) l hlo L hL
  have HP : Hid (∀ (w0 : World) (B : Nat) (v : Value) (w : World), Bk w0 w B v (ls.map Lv11.bytes) → Calls Tryz.prog 12 #[.pointer (some ⟨B, 0, none⟩), .agg L.toArray] w fun e w' => e = .returned (.int .i64 E) ∧ ∃ v', Bk w0 w' B v' (ls'.map Lv11.bytes) ∧ Gro (fun g => g = B ∨ v.ownBlock = some g) w w' ∧ ∀ g, v'.ownBlock = some g → v.ownBlock = some g ∨ w.heap.size ≤ g) := hP
  have HD : Hid (∀ (w : World) (A : Option Addr) (n c : Nat), Dk w A n c ls → Calls Tryz.prog 15 #[.slice A n c, .agg L.toArray] w fun e w' => ∃ A' n' c', e = .returned (.tuple #[.slice A' n' c', .int .i64 E]) ∧ Dk w' A' n' c' ls' ∧ Below w.heap.size w w') := hD
  have HLE : Hid (ls'.length ≤ ls.length + 1) := hl'
  clear hP hD hl' hlo hL hls _hds
  clear hx hk hXC hb hG hT
  go_enter Tryz.func6, Tryz.ntmps6
  go_upto_region 1 with (refine wpList_boxG 42 rfl (.tmp 3) rfl XC rfl ?_; intro X1 q1 q2 q3; have R1 : Hid (Row X1 w.heap.size XC 42) := q1; have B1 : Hid (Below w.heap.size w X1) := q2; clear q1 q2 q3; simp only [Act.put, List.setIfInBounds_toArray, List.set_cons_zero, List.set_cons_succ])
  have HRW : Hid (∀ W, Below X1.heap.size X1 W → Row W w.heap.size (.int .i64 wh :: .int .i64 xn :: .int .i64 xm :: L) 42) := fun W hW => by
    have := Row.below R1.out hW R1.out.lt
    rwa [HXL.out] at this
  have HBX : Hid (Bo1 w0 X1 B Bp vp vl vw us ws ls ds A n c) := HB.out.be B1.out
  have c0 : X1.cell? ⟨w.heap.size, 0, none⟩ = some (.int .i64 wh) := (HRW.out X1 (Below.refl _ _)).cell 0 _ rfl
  have c1 : X1.cell? ⟨w.heap.size, 1, none⟩ = some (.int .i64 xn) := (HRW.out X1 (Below.refl _ _)).cell 1 _ rfl
  have c2 : X1.cell? ⟨w.heap.size, 2, none⟩ = some (.int .i64 xm) := (HRW.out X1 (Below.refl _ _)).cell 2 _ rfl
  have HL3 : Hid (∀ W, Row W w.heap.size (.int .i64 wh :: .int .i64 xn :: .int .i64 xm :: L) 42 → W.rangeAt w.heap.size 3 L) := fun W hW => hW.range 3 L (fun j u hj => by rw [show 3 + j = j + 1 + 1 + 1 by omega]; exact hj)
  clear HXL
  have HR_X1 : Hid (Row X1 w.heap.size (.int .i64 wh :: .int .i64 xn :: .int .i64 xm :: L) 42) := HRW.out X1 (Below.refl _ _)
  rcases hK with rfl | rfl | rfl | rfl
  all_goals
    go_wp2_with (first
      | (go_at_call 14; refine Calls.mono (HPK.out _) ?_; rintro e X ⟨rfl, hX⟩; obtain rfl := hX.symm)
      | (refine wpList_load_w rfl 40 (.tmp 39) rfl w.heap.size 3 rfl L _ (HL3.out X1 HR_X1.out) Tryz.underlying40 rfl HI.out ?_; simp only [Act.put, List.setIfInBounds_toArray, List.set_cons_zero, List.set_cons_succ])
      | (go_at_call 12; refine Calls.mono (HP.out w0 Bp vp X1 HBX.out.bk) ?_; rintro e X2 ⟨rfl, vp', q1, q2, q3⟩; have HR_X2 : Hid (Row X2 w.heap.size (.int .i64 wh :: .int .i64 xn :: .int .i64 xm :: L) 42) := ((q2.block w.heap.size (HRW.out X1 (Below.refl _ _)).lt (HBX.out.bk.offR (HRW.out X1 (Below.refl _ _)) (by decide) (by decide))).trans (HRW.out X1 (Below.refl _ _))); have HBK : Hid (Bk w0 X2 Bp vp' (ls'.map Lv11.bytes)) := q1; have HGR : Hid (Gro (fun g => g = Bp ∨ vp.ownBlock = some g) X1 X2) := q2; have HN : Hid (∀ g, vp'.ownBlock = some g → vp.ownBlock = some g ∨ X1.heap.size ≤ g) := q3; have HDK : Hid (Dk X2 A n c ls) := (HBX.out.turned q2).1; clear q1 q2 q3 c0 c1 c2)
      | (refine wpList_load_w rfl 40 (.tmp 44) rfl w.heap.size 3 rfl L _ (HL3.out X2 HR_X2.out) Tryz.underlying40 rfl HI.out ?_; simp only [Act.put, List.setIfInBounds_toArray, List.set_cons_zero, List.set_cons_succ])
      | (go_at_call 15; refine Calls.mono (HD.out X2 A n c HDK.out) ?_; rintro e X3 ⟨A', n', c', rfl, q1, q2⟩; have HD3 : Hid (Dk X3 A' n' c' ls') := q1; have HB3 : Hid (Below X2.heap.size X2 X3) := q2; clear q1 q2))
    go_ret2
    obtain ⟨⟨vq, vl', vw', us', ws', lt, dt, z1, z2, z3, z4⟩, z5⟩ := HBX.out.next HGR.out HBK.out HLE.out HN.out HB3.out HD3.out
    exact ⟨A', n', c', rfl, ⟨⟨vq, vl', vw', us', ws', lt, dt, z1, z2, z3, fun g hg => (z4 g hg).imp id (fun q => Nat.le_trans B1.out.size q)⟩, (Gro.of_below B1.out).trans z5⟩⟩

end Go.Proofs.YtdicgenhfmhklaaGreatDoor

namespace Go.Proofs.YtdicgenhfmhklaaGreatDoor
open Go Go.RowKit
open Sha

theorem booked11 (w0 w : World) (hG : Given w0) (hT : Tab w0 2) (B Bp : Nat) (vp vl vw : Value) (us ws : List Value) (ls : List Lv11) (ds : List (List (List (BitVec 8)))) (hls : ls.length ≤ 900000) (hds : ds.length ≤ 900000) (A : Option Addr) (n c : Nat) (x : Sv11) (hx : x.Ok) (XC : List Value) (hXC : XC = x.cells) (hb : Bo1 w0 w B Bp vp vl vw us ws ls ds A n c) :
    Calls Tryz.prog 6 #[.pointer (some ⟨B, 0, none⟩), .pointer (some ⟨Bp, 0, none⟩), .slice A n c, .agg XC.toArray] w fun e w' => ∃ A' n' c', e = .returned (.tuple #[.slice A' n' c', .bool true]) ∧ Bo2 w0 w w' B Bp vp vl vw ls.length ds.length A' n' c' := by
  obtain ⟨h0, h1⟩ := pk_range x.wh 12 (by decide)
  obtain ⟨K, hK⟩ : ∃ K, pk x.wh 12 = K := ⟨_, rfl⟩
  have hk : (K = 0 ∨ K = 1 ∨ K = 2 ∨ K = 3) ∨ K = 4 ∨ K = 5 ∨ (K = 6 ∨ K = 7) ∨ (K = 8 ∨ K = 9 ∨ K = 10) ∨ K = 11 := by omega
  rcases hk with h | h | h | h | h | h
  · exact booked_put K h w0 w hG hT B Bp vp vl vw us ws ls ds hls hds A n c x hx hK XC hXC hb
  · exact booked_len K h w0 w B Bp vp vl vw us ws ls ds A n c x hx hK XC hXC hb
  · exact booked_leaf K h w0 w hG hT B Bp vp vl vw us ws ls ds hls hds A n c x hx hK XC hXC hb
  · exact booked_root K h w0 w hG hT B Bp vp vl vw us ws ls ds hls hds A n c x hx hK XC hXC hb
  · exact booked_path K h w0 w hG hT B Bp vp vl vw us ws ls ds hls hds A n c x hx hK XC hXC hb
  · exact booked_cut K h w0 w hG hT B Bp vp vl vw us ws ls ds hls hds A n c x hx hK XC hXC hb
/-- Both books, the document's beside them, and the law's book of paths. -/
def Tb (w0 w : World) (B Bp Bq ka kb kd : Nat) (Aa : Option Addr) (na ca : Nat) (Ab : Option Addr) (nb cb : Nat) : Prop :=
  ∃ (vp vq vl vw : Value) (us ws : List Value) (la lb : List Lv11) (ds : List (List (List (BitVec 8)))), Bk w0 w Bp vp (la.map Lv11.bytes) ∧ Dk w Aa na ca la ∧ Bk w0 w Bq vq (lb.map Lv11.bytes) ∧ Dk w Ab nb cb lb ∧ Pbk w0 w B vl vw vl vw us ws ds ds ∧ (∀ d ∈ ds, d.length ≤ 1000000 ∧ ∀ x ∈ d, x.length = 32) ∧ la.length ≤ ka ∧ lb.length ≤ kb ∧ ds.length ≤ kd ∧ Bp ≠ Bq ∧ ∀ g, vp.ownBlock = some g → vq.ownBlock ≠ some g
section
variable {w0 w w' : World} {B Bp Bq ka kb kd ka' kb' kd' : Nat} {Aa Ab : Option Addr} {na ca nb cb : Nat}
theorem Tb.swap (h : Tb w0 w B Bp Bq ka kb kd Aa na ca Ab nb cb) : Tb w0 w B Bq Bp kb ka kd Ab nb cb Aa na ca := by
  obtain ⟨vp, vq, vl, vw, us, ws, la, lb, ds, h1, h2, h3, h4, h5, h6, h7, h8, h9, h10, h11⟩ := h
  exact ⟨vq, vp, vl, vw, us, ws, lb, la, ds, h3, h4, h1, h2, h5, h6, h8, h7, h9, h10.symm, fun g hg q => h11 g q hg⟩
theorem Tb.mono (h : Tb w0 w B Bp Bq ka kb kd Aa na ca Ab nb cb) (h1 : ka ≤ ka') (h2 : kb ≤ kb') (h3 : kd ≤ kd') : Tb w0 w B Bp Bq ka' kb' kd' Aa na ca Ab nb cb := by
  obtain ⟨vp, vq, vl, vw, us, ws, la, lb, ds, p1, p2, p3, p4, p5, p6, p7, p8, p9, p10⟩ := h
  exact ⟨vp, vq, vl, vw, us, ws, la, lb, ds, p1, p2, p3, p4, p5, p6, Nat.le_trans p7 h1, Nat.le_trans p8 h2, Nat.le_trans p9 h3, p10⟩
theorem Tb.be (h : Tb w0 w B Bp Bq ka kb kd Aa na ca Ab nb cb) : Below w0.heap.size w0 w := by
  obtain ⟨vp, vq, vl, vw, us, ws, la, lb, ds, p1, _⟩ := h
  exact p1.be
theorem Tb.keep (h : Tb w0 w B Bp Bq ka kb kd Aa na ca Ab nb cb) (k : Below w.heap.size w w') : Tb w0 w' B Bp Bq ka kb kd Aa na ca Ab nb cb := by
  obtain ⟨vp, vq, vl, vw, us, ws, la, lb, ds, p1, p2, p3, p4, p5, p6⟩ := h
  exact ⟨vp, vq, vl, vw, us, ws, la, lb, ds, p1.keep k, p2.be k, p3.keep k, p4.be k, p5.below k, p6⟩
theorem Tb.step (h : Tb w0 w B Bp Bq ka kb kd Aa na ca Ab nb cb) (hG : Given w0) (hT : Tab w0 2) (hka : ka ≤ 900000) (hkd : kd ≤ 900000) (x : Sv11) (hx : x.Ok) (XC : List Value) (hXC : XC = x.cells) :
    Calls Tryz.prog 6 #[.pointer (some ⟨B, 0, none⟩), .pointer (some ⟨Bp, 0, none⟩), .slice Aa na ca, .agg XC.toArray] w fun e w' => ∃ A' n' c', e = .returned (.tuple #[.slice A' n' c', .bool true]) ∧ Tb w0 w' B Bp Bq (ka + 1) kb (kd + 2) A' n' c' Ab nb cb := by
  obtain ⟨vp, vq, vl, vw, us, ws, la, lb, ds, h1, h2, h3, h4, h5, h6, h7, h8, h9, h10, h11⟩ := h
  refine (booked11 w0 w hG hT B Bp vp vl vw us ws la ds (by omega) (by omega) Aa na ca x hx XC hXC ⟨h1, h2, h5, h6⟩).mono ?_
  rintro e w' ⟨A', n', c', rfl, ⟨vp', vl', vw', us', ws', ls', ds', q1, q2, q3, q4⟩, q5⟩
  refine ⟨A', n', c', rfl, vp', vq, vl', vw', us', ws', ls', lb, ds', q1.bk, q1.dk, ?_, ?_, q1.pb, q1.pd, by omega, h8, by omega, h10, fun g hg q => ?_⟩
  · obtain ⟨cs', l3, _⟩ := h3.own
    refine h3.gro11 q5 ?_ (fun g hg => ?_) (fun u d hu g hg => ?_) ?_
    · rintro (z | z | z)
      · exact h5.offR h3.row (by decide) (by decide) z
      · exact h10 z.symm
      · obtain ⟨cs2, l2, _⟩ := h1.own
        exact Lw.ne l2 h3.row (by decide) _ z rfl
    · rintro (z | z | z)
      · exact h5.offL l3 (by decide) (by decide) g hg z
      · exact Lw.ne l3 h1.row (by decide) g hg z
      · exact h11 g z hg
    · rintro (z | z)
      · exact h5.offL hu (by decide) (by decide) g hg z
      · exact h1.offL hu (by decide) (by decide) g hg z
    · rintro g ((z | z | z) | z | z)
      · rw [z]; exact h5.b0
      · exact h5.l0 g z
      · exact h5.z0 g z
      · rw [z]; exact h1.b0
      · exact h1.v0 g z
  · refine h4.gro q5 (fun g hg => ?_)
    rintro (z | z)
    · exact h5.offL h4.own (by decide) (by decide) g hg z
    · exact h1.offL h4.own (by decide) (by decide) g hg z
  · obtain ⟨cs', l3, _⟩ := h3.own
    rcases q4 g hg with z | z
    · exact h11 g z q
    · exact Nat.lt_irrefl _ (Nat.lt_of_lt_of_le (Lw.lt l3 g q) z)
theorem Tb.start (h1 : Bk w0 w Bp (.slice none 0 0) []) (h2 : Bk w0 w Bq (.slice none 0 0) []) (r : Row w B (bkp (.slice none 0 0) (.slice none 0 0)) 30) (hB : w0.heap.size ≤ B) (hne : Bp ≠ Bq) : Tb w0 w B Bp Bq 0 0 0 none 0 0 none 0 0 :=
  ⟨(.slice none 0 0), (.slice none 0 0), (.slice none 0 0), (.slice none 0 0), [], [], [], [], [], h1, Dk.nil _, h2, Dk.nil _, ⟨r, Lw.nil _ _ _, Lw.nil _ _ _, (fun g e => by simp [Value.ownBlock] at e), (fun i d hd => by simp at hd), (fun i d hd => by simp at hd), (fun i j u v _ hu => by simp at hu), hB, (fun g e => by simp [Value.ownBlock] at e), (fun g e => by simp [Value.ownBlock] at e), (fun u hu => by simp at hu), h1.be⟩, (fun d hd => by cases hd), Nat.le_refl _, Nat.le_refl _, Nat.le_refl _, hne, fun g hg => by simp [Value.ownBlock] at hg⟩
end
set_option maxRecDepth 100000 in
set_option maxHeartbeats 4000000 in
theorem still11 (w0 : World) (B : Nat) (vl vw : Value) (us ws : List Value) (ds : List (List (List (BitVec 8)))) (hn2 : ds.length ≤ 1000000) (hpd : ∀ d ∈ ds, d.length ≤ 1000000 ∧ ∀ x ∈ d, x.length = 32) (w : World) (hb : Pbk w0 w B vl vw vl vw us ws ds ds) :
    Calls Tryz.prog 10 #[.pointer (some ⟨B, 0, none⟩)] w fun e w' => e = .returned (.bool true) ∧ Below w0.heap.size w0 w' := by
  have HSP : Hid (Calls Tryz.prog 29 #[.pointer (some ⟨B, 0, none⟩)] w fun e w' => e = .returned (.bool true) ∧ Below w0.heap.size w0 w') := stillPaths_any w0 B vl vw us ws ds hn2 (fun d hd => (hpd d hd).1) (fun d hd => (hpd d hd).2) w hb
  have c2 : w.cell? ⟨B, 0, none⟩ = some (.slice none 0 0) := hb.row.cell 0 _ rfl
  clear hb hn2 hpd
  go_enter Tryz.func10, Tryz.ntmps10
  go_wp2
  go_loopw [3] (fun k wr => k = .int .i64 0 ∧ wr = w) (fun _ _ => 0)
  case atStart => exact ⟨rfl, rfl⟩
  case round =>
    obtain ⟨rfl, hw⟩ := hrel
    obtain rfl := hw.symm
    go_wp2
    go_loopw [4, 5] (fun k _ wr => k = .int .i64 0 ∧ wr = w) (fun _ _ _ => 0)
    case atStart => exact ⟨rfl, rfl⟩
    case round =>
      obtain ⟨rfl, hw⟩ := hrel
      obtain rfl := hw.symm
      go_wp2
      go_loopw [7, 8, 9] (fun k _ _ wr => k = .int .i64 0 ∧ wr = w) (fun _ _ _ _ => 0)
      case atStart => exact ⟨rfl, rfl⟩
      case round =>
        obtain ⟨rfl, hw⟩ := hrel
        obtain rfl := hw.symm
        go_wp2
        go_loopw [10] (fun k wr => k = .int .i64 0 ∧ wr = w) (fun _ _ => 0)
        case atStart => exact ⟨rfl, rfl⟩
        case round =>
          obtain ⟨rfl, hw⟩ := hrel
          obtain rfl := hw.symm
          go_wp2_with (go_at_call 29; refine Calls.mono HSP.out ?_; rintro e X9 ⟨rfl, p⟩; have B9 : Hid (Below w0.heap.size w0 X9) := p; clear p)
          go_ret
          exact ⟨rfl, B9.out⟩
/-- Steps in memory: read alone. -/
def StA (w : World) (A : Option Addr) (xs : List Sv11) : Prop := ∀ (i : Nat) (x : Sv11), xs[i]? = some x → x.Ok ∧ ∃ b o, A = some ⟨b, o, none⟩ ∧ w.rangeAt b (o + i * 30) x.cells
theorem StA.low {w w' : World} {A : Option Addr} {xs : List Sv11} (h : StA w A xs) (k : Below w.heap.size w w') : StA w' A xs := fun i l hl => by
  obtain ⟨h1, b, o, h2, h3⟩ := h i l hl
  exact ⟨h1, b, o, h2, range_be h3 k⟩
theorem Sv11.len {x : Sv11} (h : x.Ok) : x.cells.length = 30 := by
  show x.l.cells.length + 1 + 1 + 1 = 30
  rw [Lv11.len h.l]
theorem info_st30 : (Tryz.prog.info? 42).map (·.size) = some 30 := by kernel_rfl

end Go.Proofs.YtdicgenhfmhklaaGreatDoor
