/-
  The law's again.
-/
import Derived.Test.YtmkmdbpibpbcjaaXPcs
import Derived.Test.YtmkmdbpibpbcjaaXStp
import Derived.Test.YtmkmdbpibpbcjaaXLaysK
namespace Go.Proofs.Ytmkmdbpibpbcjaa
open Go Go.RowKit
open Sha

theorem cts_nine (d : List (BitVec 8)) (s c : Nat) (hs : s ≤ 9) : ∀ i, i < c → ((cts d s c).getD i []).length ≤ 9 := fun i hi => by
  unfold cts ct sub
  rw [List.getD_eq_getElem?_getD, List.getElem?_map, List.getElem?_range hi]
  simp only [Option.map_some, Option.getD_some, List.length_take, List.length_drop]
  omega
theorem be_dr {N : Nat} {w w' : World} (h : Below N w w') (q : Nat) : Below N w (w'.drewN q) := ⟨h.os, h.tape, h.output, h.size, h.block⟩
theorem be_dr1 {N : Nat} {w w' : World} (h : Below N w w') : Below N w (World.drew w') := ⟨h.os, h.tape, h.output, h.size, h.block⟩

set_option maxRecDepth 100000 in
set_option maxHeartbeats 4000000 in
theorem again_true (K N : Int) (h1 : -9223372036854775808 ≤ N) (h2 : N ≤ 9223372036854775807) (B : Option Addr) (n cb : Nat) (d : List (BitVec 8)) (hd : d.length = n) (hn : n ≤ 4194304) (s : Nat) (hs : ((s : Nat) : Int) = 1 + pk N 9) (m0 m1 m2 m3 : Nat) (u2 : Value) (Av : Option Addr) (cv : Nat) (vs : List Value) (M : Nat) (w : World) (hl : Ly M w (.slice Av (cn n s) cv) vs (cts d s (cn n s))) (hv : SlAt w (.slice B n cb) d) :
    Calls Try.prog 82 #[.slice Av (cn n s) cv, .agg (sc K N (.slice B n cb) m0 m1 m2 m3 u2).toArray] w fun e w' => e = .returned (.bool true) ∧ Below w.heap.size w w' := by
  have b1 : Below w.heap.size w (w.alloc (Obj.cells (sc K N (.slice B n cb) m0 m1 m2 m3 u2).toArray 33)) := (Below.refl _ _).alloc (Nat.le_refl _) _
  have r1 : Row (w.alloc (Obj.cells (sc K N (.slice B n cb) m0 m1 m2 m3 u2).toArray 33)) w.heap.size (sc K N (.slice B n cb) m0 m1 m2 m3 u2) 33 := Row.new' rfl rfl
  have g1 := r1.cell 1 _ rfl
  have g2 := r1.cell 2 _ rfl
  have HC : Hid _ := pieces_any B n cb d hd hn N h1 h2 s hs (w.alloc (Obj.cells (sc K N (.slice B n cb) m0 m1 m2 m3 u2).toArray 33)) (hv.be b1)
  have HB : Hid (Below w.heap.size w (w.alloc (Obj.cells (sc K N (.slice B n cb) m0 m1 m2 m3 u2).toArray 33))) := b1
  have L1 : Hid (Ly M (w.alloc (Obj.cells (sc K N (.slice B n cb) m0 m1 m2 m3 u2).toArray 33)) (.slice Av (cn n s) cv) vs (cts d s (cn n s))) := hl.gro (Gro.of_below (R := fun _ => False) b1) (fun _ _ q => q) (fun _ _ _ q => q)
  have hs9 : s ≤ 9 := by have := pk_range N 9 (by decide); omega
  have HN9 : Hid (∀ i, i < cn n s → ((cts d s (cn n s)).getD i []).length ≤ 9) := cts_nine d s (cn n s) hs9
  have HLN : Hid ((cts d s (cn n s)).length = cn n s) := cts_len _ _ _
  have hc4 : cn n s ≤ 4194304 + 9 := by unfold cn; exact Nat.le_trans (Nat.div_le_self _ _) (by omega)
  clear b1 r1 hl hv hd hn hs h1 h2 hs9
  go_enter Try.func82, Try.ntmps82
  go_wp2_with fail
  refine Calls.mono HC.out ?_
  rintro e V ⟨⟨A2, c2, vs2, rfl, hly2⟩, hb⟩
  have K1 : Hid (Ly M V (.slice Av (cn n s) cv) vs (cts d s (cn n s))) := L1.out.gro (Gro.of_below (R := fun _ => False) hb) (fun _ _ q => q) (fun _ _ _ q => q)
  have K2 : Hid (Ly (w.alloc (Obj.cells (sc K N (.slice B n cb) m0 m1 m2 m3 u2).toArray 33)).heap.size V (.slice A2 (cn n s) c2) vs2 (cts d s (cn n s))) := hly2
  have HV : Hid (Below w.heap.size w V) := HB.out.trans (hb.mono HB.out.size)
  clear hly2 hb HC HB L1 g1 g2
  generalize (w.alloc (Obj.cells (sc K N (.slice B n cb) m0 m1 m2 m3 u2).toArray 33)) = Y at *
  generalize cts d s (cn n s) = ps at *
  generalize cn n s = c at *
  go_wp2_with fail
  go_loopw [6] (fun i wr => ∃ t : Nat, t ≤ c ∧ i = .int .i64 (t : Int) ∧ Below V.heap.size V wr) (fun i _ => c - (intOf i).toNat)
  case atStart => exact ⟨0, Nat.zero_le _, rfl, Below.refl _ _⟩
  case round =>
    obtain ⟨t, ht, rfl, hbw⟩ := hrel
    have HBW : Hid (Below V.heap.size V wr) := hbw
    have HW : Hid (Below w.heap.size w wr) := HV.out.trans (hbw.mono HV.out.size)
    clear hbw
    by_cases hlt : t < c
    · have hl1 : vs.length = c := by rw [K1.out.len, HLN.out]
      have hl2 : vs2.length = c := by rw [K2.out.len, HLN.out]
      have q1 := K1.out.gro (Gro.of_below (R := fun _ => False) (be_dr1 HBW.out)) (fun _ _ q => q) (fun _ _ _ q => q)
      have q2 := K2.out.gro (Gro.of_below (R := fun _ => False) (be_dr1 HBW.out)) (fun _ _ q => q) (fun _ _ _ q => q)
      obtain ⟨Ai, ci, ei, bi, _⟩ := q1.each t (by rw [HLN.out]; exact hlt)
      obtain ⟨Aj, cj, ej, bj, _⟩ := q2.each t (by rw [HLN.out]; exact hlt)
      obtain ⟨ga, _, ⟨ka, ea, hka⟩, xa⟩ := Sw.at q1.own t (by rw [hl1]; exact hlt)
      obtain ⟨gb, _, ⟨kb, eb, hkb⟩, xb⟩ := Sw.at q2.own t (by rw [hl2]; exact hlt)
      rw [ei] at xa
      rw [ej] at xb
      simp only [Value.slice.injEq] at ea eb
      obtain ⟨rfl, e1, rfl⟩ := ea
      obtain ⟨rfl, e2, rfl⟩ := eb
      have HP9 : Hid ((ps.getD t []).length ≤ 9) := HN9.out t hlt
      have HSM : Hid _ := same_any (ps.getD t []) (ps.getD t []) _ _ rfl rfl (Nat.le_trans HP9.out (by decide)) (Nat.le_trans HP9.out (by decide)) Ai Aj ci cj (World.drew wr) (Bw.sl bi) (Bw.sl bj) true (decide_eq_true rfl)
      generalize (ps.getD t []).length = pl at *
      clear e1 e2 q1 q2 bi bj ei ej hka hkb hl1 hl2
      go_wp2_with fail
      go_region_law (refine stp_fcall rfl 27 #[.slice Ai pl ci, .slice Aj pl cj] (by go_simp) (Calls.mono HSM.out ?_); rintro e V2 ⟨rfl, q, hq⟩; refine ⟨_, rfl, ?_⟩; have HQ : Hid (V2 = (World.drew wr).drewN q) := hq; clear hq HSM)
      all_goals
        have xa2 : True := trivial
        go_wp2_with fail
        refine ⟨⟨t + 1, hlt, rfl, by rw [HQ.out]; exact be_dr (be_dr1 HBW.out) q⟩, by simp only [intOf]; omega⟩
    · obtain rfl : t = c := by omega
      go_wp2_with fail
      go_ret
      exact ⟨rfl, HW.out⟩

end Go.Proofs.Ytmkmdbpibpbcjaa
