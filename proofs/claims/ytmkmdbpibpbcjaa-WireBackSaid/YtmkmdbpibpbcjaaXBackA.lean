/-
  A Step's form; the law's lays and takes at every kind.
-/
import Derived.Test.YtmkmdbpibpbcjaaXFaces
import Derived.Test.YtmkmdbpibpbcjaaXFmB
import Derived.Test.YtmkmdbpibpbcjaaXLaysK
import Derived.Test.YtmkmdbpibpbcjaaXStp
import Derived.Test.YtmkmdbpibpbcjaaXTa5
import Derived.Deep.MidRow
import Derived.Test.YtmkmdbpibpbcjaaXEql
import Derived.Test.YtmkmdbpibpbcjaaXPcs
import Derived.Test.YtmkmdbpibpbcjaaXSteps
import Derived.Test.YtmkmdbpibpbcjaaXLaysR
import Derived.Test.YtmkmdbpibpbcjaaXLaysL
import Derived.Test.YtmkmdbpibpbcjaaXTa0
import Derived.Test.YtmkmdbpibpbcjaaXTa3
import Derived.Test.YtmkmdbpibpbcjaaXTa6
import Derived.Test.YtmkmdbpibpbcjaaXTa7
import Derived.Test.YtmkmdbpibpbcjaaXTa8

namespace Go.Proofs.Ytmkmdbpibpbcjaa
open Go Go.RowKit
open Sha

theorem same_wide (w : World) (a b c d : Nat) : (Op.equalIn 10000 30 (.agg (q4 a b c d).toArray) (.agg (q4 a b c d).toArray)).run Try.prog w = .ok true w := by
  have := run_equalIn_vQ w 9998 30 28 4 Try.underlying30 Try.underlying28 size_u64 [a, b, c, d] [a, b, c, d] rfl rfl
  rw [decide_eq_true (rfl : [a, b, c, d] = [a, b, c, d])] at this
  exact this

set_option maxRecDepth 100000 in
set_option maxHeartbeats 4000000 in
theorem takes_4 (P : Nat) (Ar : Option Addr) (capr : Nat) (bs : List (BitVec 8)) (a : Nat) (K N : Int) (hK1 : -9223372036854775808 ≤ K) (hK2 : K ≤ 9223372036854775807) (hk : pk K 9 = 4) (hN1 : -9223372036854775808 ≤ N) (hN2 : N ≤ 9223372036854775807) (u : Value) (m0 m1 m2 m3 : Nat) (u2 : Value) (hE : hiF 32 bs a = 0) (hx : qd bs (a + 1 + at8 bs a) (at8 bs a) = q4 m0 m1 m2 m3) (w : World) (h : Rg w P Ar capr bs a) :
    Calls Try.prog 24 #[.pointer (some ⟨P, 0, none⟩), .agg (sc K N u m0 m1 m2 m3 u2).toArray] w fun e w' => e = .returned (.bool true) ∧ Rg w' P Ar capr bs (a + 1 + at8 bs a) ∧ Gp P w w' := by
  have hall := And.intro hN1 hN2
  clear hall
  have HP : Hid (∀ w, _) := fun w => pick_any K 9 (by decide) hK1 hK2 (by decide) w
  rw [hk] at HP
  have b1 : Below w.heap.size w (w.alloc (Obj.cells (sc K N u m0 m1 m2 m3 u2).toArray 33)) := (Below.refl _ _).alloc (Nat.le_refl _) _
  have r1 : Row (w.alloc (Obj.cells (sc K N u m0 m1 m2 m3 u2).toArray 33)) w.heap.size (sc K N u m0 m1 m2 m3 u2) 33 := Row.new' rfl rfl
  have hr := h.be b1
  have G1 : Hid (Gp P w (w.alloc (Obj.cells (sc K N u m0 m1 m2 m3 u2).toArray 33))) := Gro.of_below b1
  have HNE : Hid (w.heap.size ≠ P) := by show _ ≠ _; have := h.row.lt; omega
  have g0 := r1.cell 0 _ rfl
  
  clear h b1 hK1 hK2 hk
  go_enter Try.func24, Try.ntmps24
  go_wp2_with fail
  refine Calls.mono (HP.out (w.alloc (Obj.cells (sc K N u m0 m1 m2 m3 u2).toArray 33))) ?_
  rintro e w2 ⟨rfl, rfl⟩
  generalize (w.alloc (Obj.cells (sc K N u m0 m1 m2 m3 u2).toArray 33)) = Y at *
  have HF : Hid _ := face_wide P Ar capr bs a (World.drew Y) ⟨hr.row, hr.bw, hr.le, hr.len⟩
  have R1 : Hid (Row (World.drew Y) w.heap.size (sc K N u m0 m1 m2 m3 u2) 33) := r1
  have GD : Hid (Gp P w (World.drew Y)) := Gro.drewN G1.out 1
  have HX : Hid (qd bs (a + 1 + at8 bs a) (at8 bs a) = q4 m0 m1 m2 m3) := hx
  have HEE : Hid (hiF 32 bs a = 0) := hE
  have heq := fun w => same_wide w m0 m1 m2 m3
  have l3 := R1.out.cell 3 _ rfl
  have l4 := R1.out.cell 4 _ rfl
  have l5 := R1.out.cell 5 _ rfl
  have l6 := R1.out.cell 6 _ rfl
  have heq2 : ∀ w, (Op.equalIn 10000 30 (.agg (q4 m0 m1 m2 m3).toArray) (.agg #[.int .u64 (m0 : Int), .int .u64 (m1 : Int), .int .u64 (m2 : Int), .int .u64 (m3 : Int)])).run Try.prog w = .ok true w := heq
  clear hr r1 g0 HP hx hE hN1 hN2
  rw [HX.out] at HF
  go_wp2_with fail
  go_region_law (refine stp_fcall rfl 65 #[.pointer (some ⟨P, 0, none⟩)] (by go_simp) (Calls.mono HF.out ?_); rintro e V ⟨hok, _, hg⟩; obtain ⟨rfl, hrv⟩ := hok HEE.out; refine ⟨_, rfl, ?_⟩; have HRV : Hid (Rg _ _ _ _ _ _) := hrv; have HGV : Hid (Gp P w V) := GD.out.trans hg; have rV := hg.row R1.out HNE.out; have l3V := rV.cell 3 _ rfl; have l4V := rV.cell 4 _ rfl; have l5V := rV.cell 5 _ rfl; have l6V := rV.cell 6 _ rfl; clear hok hrv hg rV HF)
  all_goals
    go_wp2_with fail
    go_ret
    exact ⟨rfl, HRV.out, HGV.out⟩

end Go.Proofs.Ytmkmdbpibpbcjaa

namespace Go.Proofs.Ytmkmdbpibpbcjaa
open Go Go.RowKit
open Sha

set_option maxRecDepth 100000 in
set_option maxHeartbeats 4000000 in
theorem takes_2 (P : Nat) (Ar : Option Addr) (capr : Nat) (bs : List (BitVec 8)) (a : Nat) (K N : Int) (hK1 : -9223372036854775808 ≤ K) (hK2 : K ≤ 9223372036854775807) (hk : pk K 9 = 2) (hN1 : -9223372036854775808 ≤ N) (hN2 : N ≤ 9223372036854775807) (u : Value) (m0 m1 m2 m3 : Nat) (u2 : Value) (hE : nuE bs a = 0) (hx : ((nuW bs a : Nat) : Int) = pk N 9223372036854775807) (w : World) (h : Rg w P Ar capr bs a) :
    Calls Try.prog 24 #[.pointer (some ⟨P, 0, none⟩), .agg (sc K N u m0 m1 m2 m3 u2).toArray] w fun e w' => e = .returned (.bool true) ∧ Rg w' P Ar capr bs (a + 1 + at8 bs a) ∧ Gp P w w' := by
  have hall := And.intro hN1 hN2
  clear hall
  have HP : Hid (∀ w, _) := fun w => pick_any K 9 (by decide) hK1 hK2 (by decide) w
  rw [hk] at HP
  have b1 : Below w.heap.size w (w.alloc (Obj.cells (sc K N u m0 m1 m2 m3 u2).toArray 33)) := (Below.refl _ _).alloc (Nat.le_refl _) _
  have r1 : Row (w.alloc (Obj.cells (sc K N u m0 m1 m2 m3 u2).toArray 33)) w.heap.size (sc K N u m0 m1 m2 m3 u2) 33 := Row.new' rfl rfl
  have hr := h.be b1
  have G1 : Hid (Gp P w (w.alloc (Obj.cells (sc K N u m0 m1 m2 m3 u2).toArray 33))) := Gro.of_below b1
  have HNE : Hid (w.heap.size ≠ P) := by show _ ≠ _; have := h.row.lt; omega
  have g0 := r1.cell 0 _ rfl
  
  clear h b1 hK1 hK2 hk
  go_enter Try.func24, Try.ntmps24
  go_wp2_with fail
  refine Calls.mono (HP.out (w.alloc (Obj.cells (sc K N u m0 m1 m2 m3 u2).toArray 33))) ?_
  rintro e w2 ⟨rfl, rfl⟩
  generalize (w.alloc (Obj.cells (sc K N u m0 m1 m2 m3 u2).toArray 33)) = Y at *
  have HF : Hid _ := face_number P Ar capr bs a (World.drew Y) ⟨hr.row, hr.bw, hr.le, hr.len⟩
  have R1 : Hid (Row (World.drew Y) w.heap.size (sc K N u m0 m1 m2 m3 u2) 33) := r1
  have GD : Hid (Gp P w (World.drew Y)) := Gro.drewN G1.out 1
  have g1 := r1.cell 1 _ rfl
  have HX : Hid (((nuW bs a : Nat) : Int) = pk N 9223372036854775807) := hx
  have HEE : Hid (nuE bs a = 0) := hE
  have HPN : Hid (∀ w, _) := fun w => pick_any N 9223372036854775807 (by decide) hN1 hN2 (by decide) w
  clear hr r1 g0 HP hx hE hN1 hN2
  rw [HX.out] at HF
  generalize pk N 9223372036854775807 = pv at *
  go_wp2_with fail
  go_region_law (first
    | (refine stp_fcall rfl 29 #[.pointer (some ⟨P, 0, none⟩)] (by go_simp) (Calls.mono HF.out ?_); rintro e V ⟨hok, _, hg⟩; obtain ⟨rfl, hrv⟩ := hok HEE.out; refine ⟨_, rfl, ?_⟩; have HRV : Hid (Rg _ _ _ _ _ _) := hrv; have HGV : Hid (Gp P w V) := GD.out.trans hg; have rV := hg.row R1.out HNE.out; have g1V := rV.cell 1 _ rfl; clear hok hrv hg rV HF)
    | (refine stp_fcall rfl 30 #[.int .i64 N, .int .i64 9223372036854775807] (by go_simp) (Calls.mono (HPN.out _) ?_); rintro e w4 ⟨rfl, hq⟩; obtain rfl := hq.symm; refine ⟨_, rfl, ?_⟩))
  all_goals
    go_wp2_with fail
    go_ret
    exact ⟨rfl, HRV.out, HGV.out⟩

end Go.Proofs.Ytmkmdbpibpbcjaa

namespace Go.Proofs.Ytmkmdbpibpbcjaa
open Go Go.RowKit
open Sha

def foS (s : SV) : List (BitVec 8) :=
  if pk s.K 9 = 7 then fo7 s.d s.d.length (1 + pk s.N 9).toNat else if pk s.K 9 = 8 then fo8 s.ns s.ns.length else fo (pk s.K 9).toNat s.N s.d s.m0 s.m1 s.m2 s.m3
theorem kinds (k : Int) (h : 0 ≤ k ∧ k < 9) : k = 0 ∨ k = 1 ∨ k = 2 ∨ k = 3 ∨ k = 4 ∨ k = 5 ∨ k = 6 ∨ k = 7 ∨ k = 8 := by omega
theorem foS_0 {s : SV} (h : pk s.K 9 = 0) : foS s = fo 0 s.N s.d s.m0 s.m1 s.m2 s.m3 := by unfold foS; rw [h]; rfl
theorem foS_1 {s : SV} (h : pk s.K 9 = 1) : foS s = fo 1 s.N s.d s.m0 s.m1 s.m2 s.m3 := by unfold foS; rw [h]; rfl
theorem foS_2 {s : SV} (h : pk s.K 9 = 2) : foS s = fo 2 s.N s.d s.m0 s.m1 s.m2 s.m3 := by unfold foS; rw [h]; rfl
theorem foS_3 {s : SV} (h : pk s.K 9 = 3) : foS s = fo 3 s.N s.d s.m0 s.m1 s.m2 s.m3 := by unfold foS; rw [h]; rfl
theorem foS_4 {s : SV} (h : pk s.K 9 = 4) : foS s = fo 4 s.N s.d s.m0 s.m1 s.m2 s.m3 := by unfold foS; rw [h]; rfl
theorem foS_5 {s : SV} (h : pk s.K 9 = 5) : foS s = fo 5 s.N s.d s.m0 s.m1 s.m2 s.m3 := by unfold foS; rw [h]; rfl
theorem foS_6 {s : SV} (h : pk s.K 9 = 6) : foS s = fo 6 s.N s.d s.m0 s.m1 s.m2 s.m3 := by unfold foS; rw [h]; rfl
theorem foS_7 {s : SV} (h : pk s.K 9 = 7) : foS s = fo7 s.d s.d.length (1 + pk s.N 9).toNat := by unfold foS; rw [if_pos h]
theorem foS_8 {s : SV} (h : pk s.K 9 = 8) : foS s = fo8 s.ns s.ns.length := by unfold foS; rw [h]; rfl
theorem nb_num (n : Nat) : nb n 0 0 0 ≤ 8 := by
  unfold nb
  rw [if_neg (by simp), if_neg (by simp), if_neg (by simp)]
  split
  · exact bl_le n
  · omega
theorem nb_nine : ∀ l : Fin 10, nb l.val 0 0 0 ≤ 1 := by decide
theorem pfs_cts (d : List (BitVec 8)) (n s c : Nat) (hd : d.length = n) (hs9 : s ≤ 9) : ∀ t, t ≤ c → (pfs (cts d s c) t).length ≤ 2 * t + min (t * s) n
  | 0, _ => by simp [pfs]
  | t + 1, h => by
    have ih := pfs_cts d n s c hd hs9 t (by omega)
    have hl : ((cts d s c).getD t []).length ≤ min s (n - t * s) := by
      unfold cts ct sub
      rw [List.getD_eq_getElem?_getD, List.getElem?_map, List.getElem?_range (by omega)]
      simp only [Option.map_some, Option.getD_some, List.length_take, List.length_drop]
      omega
    have hn := nb_nine ⟨((cts d s c).getD t []).length, by omega⟩
    rw [pfs_succ _ t (by rw [cts_len]; omega), List.length_append]
    unfold pf
    rw [List.length_append, fm_len]
    have e : (t + 1) * s = t * s + s := by rw [Nat.add_mul, Nat.one_mul]
    simp only at hn
    omega
theorem fms_nine (ns : List Nat) : ∀ t, t ≤ ns.length → (fms ns t).length ≤ 9 * t
  | 0, _ => by simp [fms]
  | t + 1, h => by
    have ih := fms_nine ns t (by omega)
    rw [fms_succ ns t (by omega), List.length_append, fm_len]
    have := nb_num (ns.getD t 0)
    omega
theorem foS_size (s : SV) : (foS s).length ≤ 64 + 4 * s.d.length + 10 * s.ns.length := by
  have hN := pk_range s.N 9 (by decide)
  rcases kinds (pk s.K 9) (pk_range s.K 9 (by decide)) with h | h | h | h | h | h | h | h | h
  · rw [foS_0 h]; unfold fo; simp only [List.length_cons, List.length_nil]; omega
  · rw [foS_1 h]; unfold fo; simp only [List.length_cons, List.length_nil]; omega
  · rw [foS_2 h]; unfold fo; simp only [fm_len]; have := nb_le (pk s.N mx).toNat 0 0 0; omega
  · rw [foS_3 h]; unfold fo; simp only [List.length_append, fm_len]; have := nb_le s.d.length 0 0 0; omega
  · rw [foS_4 h]; unfold fo; simp only [fm_len]; have := nb_le s.m0 s.m1 s.m2 s.m3; omega
  · rw [foS_5 h]; unfold fo; simp only [dgN_len]; omega
  · rw [foS_6 h]; unfold fo; simp only [dgN_len]; omega
  · rw [foS_7 h]; unfold fo7
    have h1 := pfs_cts s.d s.d.length (1 + pk s.N 9).toNat (cn s.d.length (1 + pk s.N 9).toNat) rfl (by omega) _ (Nat.le_refl _)
    have h2 := cn_le s.d.length (1 + pk s.N 9).toNat (by omega)
    have h3 := nb_le (cn s.d.length (1 + pk s.N 9).toNat) 0 0 0
    rw [List.length_append, fm_len]
    omega
  · rw [foS_8 h]; unfold fo8
    have h1 := fms_nine (ng s.ns) s.ns.length (by rw [ng_len]; exact Nat.le_refl _)
    have h3 := nb_le s.ns.length 0 0 0
    rw [List.length_append, fm_len]
    omega

theorem lays_any (w0 : World) (Q : Nat) (A : Option Addr) (cap : Nat) (xs : List (BitVec 8)) (s : SV) (hok : s.ok w0) (hsz : 64 + 4 * s.d.length + 10 * s.ns.length ≤ 4194304) (hT : xs.length + (foS s).length ≤ 4194304) (w : World) (hw : Wk w0 w Q A cap (xs, 0)) :
    Calls Try.prog 21 #[.pointer (some ⟨Q, 0, none⟩), .agg (sc s.K s.N (.slice s.B s.d.length s.cb) s.m0 s.m1 s.m2 s.m3 (.slice s.L s.ns.length s.cl)).toArray] w fun e w' => e = .returned (.tuple #[]) ∧ ∃ A' cap', Wk w0 w' Q A' cap' (xs ++ foS s, 0) := by
  have hN := pk_range s.N 9 (by decide)
  have hv : ∀ W, Gro (Rw Q A cap xs) w W → SlAt W (.slice s.B s.d.length s.cb) s.d := fun W hG => (hok.be (hw.below.trans (Gro.to_below hG hw.below.size (fun k q => by
    rcases q with q | q
    · rw [q]; exact hw.hP
    · exact hw.fw k q)))).sl
  rcases kinds (pk s.K 9) (pk_range s.K 9 (by decide)) with h | h | h | h | h | h | h | h | h
  · rw [foS_0 h] at hT ⊢
    refine (laysr_0 Q A cap xs hw.len 0 s.K hok.k1 hok.k2 h s.N hok.n1 hok.n2 s.d _ rfl (by omega) s.B s.cb hok.nil s.m0 s.m1 s.m2 s.m3 hok.h0 hok.h1 hok.h2 hok.h3 _ w hw.wr hv).mono ?_
    rintro e w' ⟨rfl, hb⟩
    obtain ⟨A', cap', h1, _⟩ := hw.laid hb hT
    exact ⟨rfl, A', cap', h1⟩
  · rw [foS_1 h] at hT ⊢
    refine (laysr_1 Q A cap xs hw.len 0 s.K hok.k1 hok.k2 h s.N hok.n1 hok.n2 s.d _ rfl (by omega) s.B s.cb hok.nil s.m0 s.m1 s.m2 s.m3 hok.h0 hok.h1 hok.h2 hok.h3 _ w hw.wr hv).mono ?_
    rintro e w' ⟨rfl, hb⟩
    obtain ⟨A', cap', h1, _⟩ := hw.laid hb hT
    exact ⟨rfl, A', cap', h1⟩
  · rw [foS_2 h] at hT ⊢
    refine (laysr_2 Q A cap xs hw.len 0 s.K hok.k1 hok.k2 h s.N hok.n1 hok.n2 s.d _ rfl (by omega) s.B s.cb hok.nil s.m0 s.m1 s.m2 s.m3 hok.h0 hok.h1 hok.h2 hok.h3 _ w hw.wr hv).mono ?_
    rintro e w' ⟨rfl, hb⟩
    obtain ⟨A', cap', h1, _⟩ := hw.laid hb hT
    exact ⟨rfl, A', cap', h1⟩
  · rw [foS_3 h] at hT ⊢
    refine (laysr_3 Q A cap xs hw.len 0 s.K hok.k1 hok.k2 h s.N hok.n1 hok.n2 s.d _ rfl (by omega) s.B s.cb hok.nil s.m0 s.m1 s.m2 s.m3 hok.h0 hok.h1 hok.h2 hok.h3 _ w hw.wr hv).mono ?_
    rintro e w' ⟨rfl, hb⟩
    obtain ⟨A', cap', h1, _⟩ := hw.laid hb hT
    exact ⟨rfl, A', cap', h1⟩
  · rw [foS_4 h] at hT ⊢
    refine (laysr_4 Q A cap xs hw.len 0 s.K hok.k1 hok.k2 h s.N hok.n1 hok.n2 s.d _ rfl (by omega) s.B s.cb hok.nil s.m0 s.m1 s.m2 s.m3 hok.h0 hok.h1 hok.h2 hok.h3 _ w hw.wr hv).mono ?_
    rintro e w' ⟨rfl, hb⟩
    obtain ⟨A', cap', h1, _⟩ := hw.laid hb hT
    exact ⟨rfl, A', cap', h1⟩
  · rw [foS_5 h] at hT ⊢
    refine (laysr_5 Q A cap xs hw.len 0 s.K hok.k1 hok.k2 h s.N hok.n1 hok.n2 s.d _ rfl (by omega) s.B s.cb hok.nil s.m0 s.m1 s.m2 s.m3 hok.h0 hok.h1 hok.h2 hok.h3 _ w hw.wr hv).mono ?_
    rintro e w' ⟨rfl, hb⟩
    obtain ⟨A', cap', h1, _⟩ := hw.laid hb hT
    exact ⟨rfl, A', cap', h1⟩
  · rw [foS_6 h] at hT ⊢
    refine (laysr_6 Q A cap xs hw.len 0 s.K hok.k1 hok.k2 h s.N hok.n1 hok.n2 s.d _ rfl (by omega) s.B s.cb hok.nil s.m0 s.m1 s.m2 s.m3 hok.h0 hok.h1 hok.h2 hok.h3 _ w hw.wr hv).mono ?_
    rintro e w' ⟨rfl, hb⟩
    obtain ⟨A', cap', h1, _⟩ := hw.laid hb hT
    exact ⟨rfl, A', cap', h1⟩
  · rw [foS_7 h] at hT ⊢
    exact lays_l7 w0 Q A cap xs s.K hok.k1 hok.k2 h s.N hok.n1 hok.n2 s.B _ s.cb s.m0 s.m1 s.m2 s.m3 s.L s.ns.length s.cl s.d rfl (by omega) (1 + pk s.N 9).toNat (by omega) (fun W hB => (hok.be hB).sl) hT w hw
  · rw [foS_8 h] at hT ⊢
    exact lays_l8 w0 Q A cap xs s.K hok.k1 hok.k2 h s.N hok.n1 hok.n2 s.B s.d.length s.cb s.m0 s.m1 s.m2 s.m3 s.L _ s.cl s.ns rfl (by omega) hok.lb (fun W hB => (hok.be hB).li) hT w hw

theorem at8_sub (bs : List (BitVec 8)) (a : Nat) (x : BitVec 8) (hs : sub bs a 1 = [x]) : at8 bs a = x.toNat := by
  have h := sub_get bs a 1 0 (by decide)
  rw [hs] at h
  unfold at8
  rw [List.getD_eq_getElem?_getD]
  rw [Nat.add_zero] at h
  rw [← h]
  rfl
theorem takes_any (w0 : World) (P : Nat) (Ar : Option Addr) (capr : Nat) (bs : List (BitVec 8)) (a : Nat) (s : SV) (hok : s.ok w0) (hsz : 64 + 4 * s.d.length + 10 * s.ns.length ≤ 4194304) (hP0 : w0.heap.size ≤ P) (hl : a + (foS s).length ≤ bs.length) (hf : sub bs a (foS s).length = foS s) (w : World) (hb0 : Below w0.heap.size w0 w) (hr : Rg w P Ar capr bs a) :
    Calls Try.prog 24 #[.pointer (some ⟨P, 0, none⟩), .agg (sc s.K s.N (.slice s.B s.d.length s.cb) s.m0 s.m1 s.m2 s.m3 (.slice s.L s.ns.length s.cl)).toArray] w fun e w' => e = .returned (.bool true) ∧ Rg w' P Ar capr bs (a + (foS s).length) ∧ Gp P w w' := by
  have hN := pk_range s.N 9 (by decide)
  have hv : ∀ W, Below w0.heap.size w0 W → SlAt W (.slice s.B s.d.length s.cb) s.d := fun W hB => (hok.be hB).sl
  rcases kinds (pk s.K 9) (pk_range s.K 9 (by decide)) with h | h | h | h | h | h | h | h | h
  · rw [foS_0 h] at hl hf ⊢
    have e1 : (fo 0 s.N s.d s.m0 s.m1 s.m2 s.m3).length = 1 := rfl
    rw [e1] at hl hf ⊢
    have e2 := at8_sub bs a _ hf
    exact takes_0 P Ar capr bs a s.K s.N hok.k1 hok.k2 h hok.n1 hok.n2 _ s.m0 s.m1 s.m2 s.m3 _ (by unfold byE; rw [if_neg (by omega)]) (by rw [e2]; exact c_ofInt s.N) w hr
  · rw [foS_1 h] at hl hf ⊢
    have e1 : (fo 1 s.N s.d s.m0 s.m1 s.m2 s.m3).length = 1 := rfl
    rw [e1] at hl hf ⊢
    have e2 := at8_sub bs a _ hf
    have e3 : at8 bs a ≤ 1 ∧ ((((at8 bs a : Nat) : Int) == 1) = (!(s.N.tmod 2 == 0))) := by
      rw [e2]
      cases (!(s.N.tmod 2 == 0)) <;> decide
    exact takes_1 P Ar capr bs a s.K s.N hok.k1 hok.k2 h hok.n1 hok.n2 _ s.m0 s.m1 s.m2 s.m3 _ (by unfold flE; rw [if_neg (by omega), if_neg (by omega)]) e3.2 w hr
  · rw [foS_2 h] at hl hf ⊢
    have hp := pk_range s.N mx (by decide)
    have hp2 : pk s.N mx < 9223372036854775807 := hp.2
    have e1 : (fo 2 s.N s.d s.m0 s.m1 s.m2 s.m3).length = 1 + nb (pk s.N mx).toNat 0 0 0 := by unfold fo; exact fm_len1 _ _
    rw [e1] at hl hf ⊢
    obtain ⟨q1, q2, q3⟩ := read_num (pk s.N mx).toNat (by omega) bs a _ rfl hl hf
    have := takes_2 P Ar capr bs a s.K s.N hok.k1 hok.k2 h hok.n1 hok.n2 (.slice s.B s.d.length s.cb) s.m0 s.m1 s.m2 s.m3 (.slice s.L s.ns.length s.cl) q2 (by rw [q3]; exact Int.toNat_of_nonneg hp.1) w hr
    rw [q1] at this
    rw [← Nat.add_assoc]
    exact this
  · rw [foS_3 h] at hl hf ⊢
    obtain ⟨q1, q2, q3, q4⟩ := read_pf s.d (s.d.length : Int) (Int.le_refl _) (by omega) bs a hl hf
    have e4 : a + 1 + at8 bs a + nuW bs a = a + (fo 3 s.N s.d s.m0 s.m1 s.m2 s.m3).length := q4
    rw [← e4, q2]
    rw [q2] at q3
    exact takes_3 P Ar capr bs a s.K s.N hok.k1 hok.k2 h hok.n1 hok.n2 s.B s.cb s.m0 s.m1 s.m2 s.m3 _ s.d s.d.length rfl (by omega) w0 hP0 hv q1 q2 q3 w hb0 hr
  · rw [foS_4 h] at hl hf ⊢
    have e1 : (fo 4 s.N s.d s.m0 s.m1 s.m2 s.m3).length = 1 + nb s.m0 s.m1 s.m2 s.m3 := by unfold fo; exact fm_len1 _ _
    rw [e1] at hl hf ⊢
    obtain ⟨q1, q2, q3⟩ := read_form s.m0 s.m1 s.m2 s.m3 hok.h0 hok.h1 hok.h2 hok.h3 32 bs a _ rfl (nb_le _ _ _ _) hl hf
    have := takes_4 P Ar capr bs a s.K s.N hok.k1 hok.k2 h hok.n1 hok.n2 (.slice s.B s.d.length s.cb) s.m0 s.m1 s.m2 s.m3 (.slice s.L s.ns.length s.cl) q2 (by
      rw [q1]; unfold qd
      rw [q3 0 (by decide), q3 1 (by decide), q3 2 (by decide), q3 3 (by decide)]
      rfl) w hr
    rw [q1] at this
    rw [← Nat.add_assoc]
    exact this
  · rw [foS_5 h] at hl hf ⊢
    have e1 : (fo 5 s.N s.d s.m0 s.m1 s.m2 s.m3).length = 32 := by unfold fo; exact dgN_len _ _
    rw [e1] at hl hf ⊢
    exact takes_5 P Ar capr bs a s.K s.N hok.k1 hok.k2 h hok.n1 hok.n2 s.B s.cb s.m0 s.m1 s.m2 s.m3 _ s.d s.d.length rfl (by omega) w0 hP0 hv (by unfold dgE; rw [if_neg (by omega)]) hf w hb0 hr
  · rw [foS_6 h] at hl hf ⊢
    have e1 : (fo 6 s.N s.d s.m0 s.m1 s.m2 s.m3).length = 20 := by unfold fo; exact dgN_len _ _
    rw [e1] at hl hf ⊢
    exact takes_6 P Ar capr bs a s.K s.N hok.k1 hok.k2 h hok.n1 hok.n2 s.B s.cb s.m0 s.m1 s.m2 s.m3 _ s.d s.d.length rfl (by omega) w0 hP0 hv (by unfold dgE; rw [if_neg (by omega)]) hf w hb0 hr
  · rw [foS_7 h] at hl hf ⊢
    exact takes_7 P Ar capr bs a s.K s.N hok.k1 hok.k2 h hok.n1 hok.n2 s.B s.cb s.m0 s.m1 s.m2 s.m3 _ s.d s.d.length rfl (by omega) w0 hP0 hv (1 + pk s.N 9).toNat (by omega) hl hf w hb0 hr
  · rw [foS_8 h] at hl hf ⊢
    exact takes_8 P Ar capr bs a s.K s.N hok.k1 hok.k2 h hok.n1 hok.n2 _ s.m0 s.m1 s.m2 s.m3 s.L s.cl s.ns s.ns.length rfl (by omega) hok.lb w0 hP0 (fun W hB => (hok.be hB).li) hl hf w hb0 hr

end Go.Proofs.Ytmkmdbpibpbcjaa
