/-
  The law's takes, at some kinds.
-/
import Derived.Test.YtmkmdbpibpbcjaaXFaces
import Derived.Test.YtmkmdbpibpbcjaaXFmB
import Derived.Test.YtmkmdbpibpbcjaaXLaysK
import Derived.Test.YtmkmdbpibpbcjaaXStp
import Derived.Test.YtmkmdbpibpbcjaaXTa5
import Derived.Test.YtmkmdbpibpbcjaaXLb
import Derived.Test.YtmkmdbpibpbcjaaXEql
import Derived.Test.YtmkmdbpibpbcjaaXPcs
namespace Go.Proofs.Ytmkmdbpibpbcjaa
open Go Go.RowKit
open Sha

set_option maxRecDepth 100000 in
set_option maxHeartbeats 4000000 in
theorem takes_3 (P : Nat) (Ar : Option Addr) (capr : Nat) (bs : List (BitVec 8)) (a : Nat) (K N : Int) (hK1 : -9223372036854775808 ≤ K) (hK2 : K ≤ 9223372036854775807) (hk : pk K 9 = 3) (hN1 : -9223372036854775808 ≤ N) (hN2 : N ≤ 9223372036854775807) (B : Option Addr) (cb : Nat) (m0 m1 m2 m3 : Nat) (u2 : Value) (d : List (BitVec 8)) (n : Nat) (hd : d.length = n) (hn : n ≤ 4194304) (w0 : World) (hP0 : w0.heap.size ≤ P) (hv : ∀ W, Below w0.heap.size w0 W → SlAt W (.slice B n cb) d) (hE : cnE bs a (n : Int) = 0) (hx : nuW bs a = n) (hs : sub bs (a + 1 + at8 bs a) n = d) (w : World) (hb0 : Below w0.heap.size w0 w) (h : Rg w P Ar capr bs a) :
    Calls Try.prog 24 #[.pointer (some ⟨P, 0, none⟩), .agg (sc K N (.slice B n cb) m0 m1 m2 m3 u2).toArray] w fun e w' => e = .returned (.bool true) ∧ Rg w' P Ar capr bs (a + 1 + at8 bs a + n) ∧ Gp P w w' := by
  have hall := And.intro hN1 hN2
  clear hall
  have HP : Hid (∀ w, _) := fun w => pick_any K 9 (by decide) hK1 hK2 (by decide) w
  rw [hk] at HP
  have b1 : Below w.heap.size w (w.alloc (Obj.cells (sc K N (.slice B n cb) m0 m1 m2 m3 u2).toArray 33)) := (Below.refl _ _).alloc (Nat.le_refl _) _
  have r1 : Row (w.alloc (Obj.cells (sc K N (.slice B n cb) m0 m1 m2 m3 u2).toArray 33)) w.heap.size (sc K N (.slice B n cb) m0 m1 m2 m3 u2) 33 := Row.new' rfl rfl
  have hr := h.be b1
  have HD : Hid (∀ W, Gp P w W → SlAt W (.slice B n cb) d) := fun W hg => hv W (hb0.trans (Gro.to_below hg hb0.size (fun k q => by rw [q]; exact hP0)))
  have G1 : Hid (Gp P w (w.alloc (Obj.cells (sc K N (.slice B n cb) m0 m1 m2 m3 u2).toArray 33))) := Gro.of_below b1
  have HNE : Hid (w.heap.size ≠ P) := by show _ ≠ _; have := h.row.lt; omega
  have g0 := r1.cell 0 _ rfl
  
  clear h b1 hK1 hK2 hk
  go_enter Try.func24, Try.ntmps24
  go_wp2_with fail
  refine Calls.mono (HP.out (w.alloc (Obj.cells (sc K N (.slice B n cb) m0 m1 m2 m3 u2).toArray 33))) ?_
  rintro e w2 ⟨rfl, rfl⟩
  generalize (w.alloc (Obj.cells (sc K N (.slice B n cb) m0 m1 m2 m3 u2).toArray 33)) = Y at *
  have HF : Hid _ := face_bytes P Ar capr bs a (n : Int) (World.drew Y) ⟨hr.row, hr.bw, hr.le, hr.len⟩
  have R1 : Hid (Row (World.drew Y) w.heap.size (sc K N (.slice B n cb) m0 m1 m2 m3 u2) 33) := r1
  have GD : Hid (Gp P w (World.drew Y)) := Gro.drewN G1.out 1
  have g2 := r1.cell 2 _ rfl
  have HEE : Hid (cnE bs a (n : Int) = 0) := hE
  have HDN : Hid (d.length = n) := hd
  have HNN : Hid (n ≤ 4194304) := hn
  rw [hx, hs] at HF
  clear hr r1 g0 HP hx hE hN1 hN2 hd hn hv hb0 hP0 hs
  go_wp2_with fail
  go_region_law (first
    | (refine stp_fcall rfl 62 #[.pointer (some ⟨P, 0, none⟩), .int .i64 (n : Int)] (by go_simp) (Calls.mono HF.out ?_); rintro e V ⟨hok, _, hg⟩; obtain ⟨v, rfl, ⟨Av, cv, rfl, hbw, hfr, _⟩, hrv⟩ := hok HEE.out; refine ⟨_, rfl, ?_⟩; have HRV : Hid (Rg _ _ _ _ _ _) := hrv; have HGV : Hid (Gp P w V) := GD.out.trans hg; have rV := hg.row R1.out HNE.out; have g2V := rV.cell 2 _ rfl; have HC : Hid _ := same_any d d n n HDN.out HDN.out (Nat.le_trans HNN.out (by decide)) (Nat.le_trans HNN.out (by decide)) Av B cv cb V (Bw.sl hbw) (HD.out V HGV.out) true (decide_eq_true rfl); clear hok hrv hg rV HF hbw hfr)
    | (refine stp_fcall rfl 27 #[.slice Av n cv, .slice B n cb] (by go_simp) (Calls.mono HC.out ?_); rintro e V2 ⟨rfl, q, hq⟩; refine ⟨_, rfl, ?_⟩; have HQ : Hid (V2 = V.drewN q) := hq; clear hq HC))
  all_goals
    go_wp2_with fail
    go_ret
    exact ⟨rfl, by rw [HQ.out]; exact HRV.out.drewN q, by rw [HQ.out]; exact Gro.drewN HGV.out q⟩

end Go.Proofs.Ytmkmdbpibpbcjaa
