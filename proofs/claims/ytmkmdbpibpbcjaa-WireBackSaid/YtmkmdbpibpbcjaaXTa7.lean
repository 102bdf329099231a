/-
  The law's takes, at some kinds.
-/
import Derived.Test.YtmkmdbpibpbcjaaXFaces
import Derived.Test.YtmkmdbpibpbcjaaXFmB
import Derived.Test.YtmkmdbpibpbcjaaXLaysK
import Derived.Test.YtmkmdbpibpbcjaaXStp
import Derived.Test.YtmkmdbpibpbcjaaXTa5
import Derived.Test.YtmkmdbpibpbcjaaXLp
import Derived.Test.YtmkmdbpibpbcjaaXBackM
import Derived.Test.YtmkmdbpibpbcjaaXAgain
import Derived.Test.YtmkmdbpibpbcjaaXLaysL
import Derived.Test.YtmkmdbpibpbcjaaXEql
import Derived.Test.YtmkmdbpibpbcjaaXPcs
namespace Go.Proofs.Ytmkmdbpibpbcjaa
open Go Go.RowKit
open Sha

theorem cn_le (n s : Nat) (hs : 1 ≤ s) : cn n s ≤ n := Nat.le_of_not_lt fun hc => by
  have h3 := (cn_lt n s n (by omega)).1 hc
  have := Nat.mul_le_mul_left n hs
  omega
theorem list_fo7 (P : Nat) (Ar : Option Addr) (capr : Nat) (bs : List (BitVec 8)) (a : Nat) (d : List (BitVec 8)) (n s : Nat) (hn : n ≤ 4194304) (hs1 : 1 ≤ s) (hs9 : s ≤ 9) (hl : a + (fo7 d n s).length ≤ bs.length) (hf : sub bs a (fo7 d n s).length = fo7 d n s) (w : World) (h : Rg w P Ar capr bs a) :
    Calls Try.prog 83 #[.pointer (some ⟨P, 0, none⟩), .int .i64 (n : Int), .func (.func 84) #[] #[]] w fun e w' => (∃ Av cv vs, e = .returned (.slice Av (cn n s) cv) ∧ Ly w.heap.size w' (.slice Av (cn n s) cv) vs (cts d s (cn n s))) ∧ Rg w' P Ar capr bs (a + (fo7 d n s).length) ∧ Gp P w w' := by
  have hc := cn_le n s hs1
  obtain ⟨e1, e2, e3, e4⟩ := read_cn (cn n s) (n : Int) (by omega) (by omega) (pfs (cts d s (cn n s)) (cn n s)) (pfs_ge _ _ (by rw [cts_len]; exact Nat.le_refl _)) bs a hl hf
  have e5 : a + 1 + at8 bs a + (pfs (cts d s (cn n s)) (cn n s)).length = a + (fo7 d n s).length := e4
  have h9 : ∀ i, i < (cts d s (cn n s)).length → ((cts d s (cn n s)).getD i []).length ≤ 9 := fun i hi => cts_nine d s (cn n s) hs9 i (by rw [cts_len] at hi; exact hi)
  have hl' : a + 1 + at8 bs a + (pfs (cts d s (cn n s)) (cts d s (cn n s)).length).length ≤ bs.length := by rw [cts_len, e5]; exact hl
  have hf' : sub bs (a + 1 + at8 bs a) (pfs (cts d s (cn n s)) (cts d s (cn n s)).length).length = pfs (cts d s (cn n s)) (cts d s (cn n s)).length := by rw [cts_len]; exact e3
  have hrn := rn_of (cts d s (cn n s)) h9 bs (a + 1 + at8 bs a) hl' hf'
  have hpn := pns_of (cts d s (cn n s)) h9 bs (a + 1 + at8 bs a) hl' hf'
  rw [cts_len] at hrn hpn
  refine (list_pieces P Ar capr bs a (n : Int) w h e1 (fun t ht => by rw [e2] at ht; rw [hrn t ht])).mono ?_
  rintro e w' ⟨⟨Av, cv, vs, he, hly, hr⟩, hg⟩
  rw [e2] at he hly hr
  rw [hpn] at hly
  rw [hrn _ (Nat.le_refl _)] at hr
  exact ⟨⟨Av, cv, vs, he, hly⟩, by rw [← e5]; exact hr, hg⟩

set_option maxRecDepth 100000 in
set_option maxHeartbeats 4000000 in
theorem takes_7 (P : Nat) (Ar : Option Addr) (capr : Nat) (bs : List (BitVec 8)) (a : Nat) (K N : Int) (hK1 : -9223372036854775808 ≤ K) (hK2 : K ≤ 9223372036854775807) (hk : pk K 9 = 7) (hN1 : -9223372036854775808 ≤ N) (hN2 : N ≤ 9223372036854775807) (B : Option Addr) (cb : Nat) (m0 m1 m2 m3 : Nat) (u2 : Value) (d : List (BitVec 8)) (n : Nat) (hd : d.length = n) (hn : n ≤ 4194304) (w0 : World) (hP0 : w0.heap.size ≤ P) (hv : ∀ W, Below w0.heap.size w0 W → SlAt W (.slice B n cb) d) (s : Nat) (hs : ((s : Nat) : Int) = 1 + pk N 9) (hl : a + (fo7 d n s).length ≤ bs.length) (hf : sub bs a (fo7 d n s).length = fo7 d n s) (w : World) (hb0 : Below w0.heap.size w0 w) (h : Rg w P Ar capr bs a) :
    Calls Try.prog 24 #[.pointer (some ⟨P, 0, none⟩), .agg (sc K N (.slice B n cb) m0 m1 m2 m3 u2).toArray] w fun e w' => e = .returned (.bool true) ∧ Rg w' P Ar capr bs (a + (fo7 d n s).length) ∧ Gp P w w' := by
  have hall := And.intro hN1 hN2
  clear hall
  have HP : Hid (∀ w, _) := fun w => pick_any K 9 (by decide) hK1 hK2 (by decide) w
  rw [hk] at HP
  have b1 : Below w.heap.size w (w.alloc (Obj.cells (sc K N (.slice B n cb) m0 m1 m2 m3 u2).toArray 33)) := (Below.refl _ _).alloc (Nat.le_refl _) _
  have r1 : Row (w.alloc (Obj.cells (sc K N (.slice B n cb) m0 m1 m2 m3 u2).toArray 33)) w.heap.size (sc K N (.slice B n cb) m0 m1 m2 m3 u2) 33 := Row.new' rfl rfl
  have hr := h.be b1
  have HD : Hid (∀ W, Gp P w W → SlAt W (.slice B n cb) d) := fun W hg => hv W (hb0.trans (Gro.to_below hg hb0.size (fun k q => by rw [q]; exact hP0)))
  have G1 : Hid (Gp P w (w.alloc (Obj.cells (sc K N (.slice B n cb) m0 m1 m2 m3 u2).toArray 33))) := Gro.of_below b1
  have HNE : Hid (w.heap.size ≠ P) := by show _ ≠ _; have := h.row.lt; omega
  have g0 := r1.cell 0 _ rfl
  
  clear h b1 hK1 hK2 hk
  go_enter Try.func24, Try.ntmps24
  go_wp2_with fail
  refine Calls.mono (HP.out (w.alloc (Obj.cells (sc K N (.slice B n cb) m0 m1 m2 m3 u2).toArray 33))) ?_
  rintro e w2 ⟨rfl, rfl⟩
  generalize (w.alloc (Obj.cells (sc K N (.slice B n cb) m0 m1 m2 m3 u2).toArray 33)) = Y at *
  have HF : Hid _ := (fun W hW => list_fo7 P Ar capr bs a d n s hn (by have := pk_range N 9 (by decide); omega) (by have := pk_range N 9 (by decide); omega) hl hf W hW) (World.drew Y) ⟨hr.row, hr.bw, hr.le, hr.len⟩
  have R1 : Hid (Row (World.drew Y) w.heap.size (sc K N (.slice B n cb) m0 m1 m2 m3 u2) 33) := r1
  have GD : Hid (Gp P w (World.drew Y)) := Gro.drewN G1.out 1
  have c0 := R1.out.cell 0 _ rfl
  have c1 := R1.out.cell 1 _ rfl
  have c2 := R1.out.cell 2 _ rfl
  have c3 := R1.out.cell 3 _ rfl
  have c4 := R1.out.cell 4 _ rfl
  have c5 := R1.out.cell 5 _ rfl
  have c6 := R1.out.cell 6 _ rfl
  have c7 := R1.out.cell 7 _ rfl
  have HDN : Hid (d.length = n) := hd
  have HAG : Hid (∀ (Av : Option Addr) (cv : Nat) (vs : List Value) (M : Nat) (W : World), Gp P w W → Ly M W (.slice Av (cn n s) cv) vs (cts d s (cn n s)) → Calls Try.prog 82 #[.slice Av (cn n s) cv, .agg #[.int .i64 K, .int .i64 N, .slice B n cb, .int .u64 (m0 : Int), .int .u64 (m1 : Int), .int .u64 (m2 : Int), .int .u64 (m3 : Int), u2]] W fun e w' => e = .returned (.bool true) ∧ Below W.heap.size W w') := fun Av cv vs M W hg hly => again_true K N hN1 hN2 B n cb d hd hn s hs m0 m1 m2 m3 u2 Av cv vs M W hly (HD.out W hg)
  clear hr r1 g0 HP hN1 hN2 hd hn hv hb0 hP0 hs hl hf HD
  generalize cts d s (cn n s) = ps at *
  generalize cn n s = c at *
  go_wp2_with fail
  go_region_law (first
    | (refine stp_fcall rfl 83 #[.pointer (some ⟨P, 0, none⟩), .int .i64 (n : Int), .func (.func 84) #[] #[]] (by go_simp) (Calls.mono HF.out ?_); rintro e V ⟨⟨Av, cv, vs, rfl, hly⟩, hrv, hg⟩; refine ⟨_, rfl, ?_⟩; have HRV : Hid (Rg _ _ _ _ _ _) := hrv; have HGV : Hid (Gp P w V) := GD.out.trans hg; have rV := hg.row R1.out HNE.out; have c0V := rV.cell 0 _ rfl; have c1V := rV.cell 1 _ rfl; have c2V := rV.cell 2 _ rfl; have c3V := rV.cell 3 _ rfl; have c4V := rV.cell 4 _ rfl; have c5V := rV.cell 5 _ rfl; have c6V := rV.cell 6 _ rfl; have c7V := rV.cell 7 _ rfl; have HC : Hid _ := HAG.out Av cv vs _ V HGV.out hly; clear hly hrv hg rV HF HAG)
    | (refine stp_fcall rfl 82 #[.slice Av c cv, .agg #[.int .i64 K, .int .i64 N, .slice B n cb, .int .u64 (m0 : Int), .int .u64 (m1 : Int), .int .u64 (m2 : Int), .int .u64 (m3 : Int), u2]] (by go_simp) (Calls.mono HC.out ?_); rintro e V2 ⟨rfl, hbv⟩; refine ⟨_, rfl, ?_⟩; have HB2 : Hid (Below V.heap.size V V2) := hbv; clear hbv HC))
  all_goals
    go_wp2_with fail
    go_ret
    exact ⟨rfl, HRV.out.be HB2.out, HGV.out.below HB2.out⟩

end Go.Proofs.Ytmkmdbpibpbcjaa
