/-
  The law's takes, at some kinds.
-/
import Derived.Test.YtmkmdbpibpbcjaaXFaces
import Derived.Test.YtmkmdbpibpbcjaaXFmB
import Derived.Test.YtmkmdbpibpbcjaaXLaysK
import Derived.Test.YtmkmdbpibpbcjaaXStp
import Derived.Test.YtmkmdbpibpbcjaaXTa5
import Derived.Test.YtmkmdbpibpbcjaaXEql
import Derived.Test.YtmkmdbpibpbcjaaXPcs
namespace Go.Proofs.Ytmkmdbpibpbcjaa
open Go Go.RowKit
open Sha

set_option maxRecDepth 100000 in
set_option maxHeartbeats 4000000 in
theorem takes_6 (P : Nat) (Ar : Option Addr) (capr : Nat) (bs : List (BitVec 8)) (a : Nat) (K N : Int) (hK1 : -9223372036854775808 ≤ K) (hK2 : K ≤ 9223372036854775807) (hk : pk K 9 = 6) (hN1 : -9223372036854775808 ≤ N) (hN2 : N ≤ 9223372036854775807) (B : Option Addr) (cb : Nat) (m0 m1 m2 m3 : Nat) (u2 : Value) (d : List (BitVec 8)) (n : Nat) (hd : d.length = n) (hn : n ≤ 4194304) (w0 : World) (hP0 : w0.heap.size ≤ P) (hv : ∀ W, Below w0.heap.size w0 W → SlAt W (.slice B n cb) d) (hE : dgE 20 bs a = 0) (hx : sub bs a 20 = dgN 20 d) (w : World) (hb0 : Below w0.heap.size w0 w) (h : Rg w P Ar capr bs a) :
    Calls Try.prog 24 #[.pointer (some ⟨P, 0, none⟩), .agg (sc K N (.slice B n cb) m0 m1 m2 m3 u2).toArray] w fun e w' => e = .returned (.bool true) ∧ Rg w' P Ar capr bs (a + 20) ∧ Gp P w w' := by
  have hall := And.intro hN1 hN2
  clear hall
  have HP : Hid (∀ w, _) := fun w => pick_any K 9 (by decide) hK1 hK2 (by decide) w
  rw [hk] at HP
  have b1 : Below w.heap.size w (w.alloc (Obj.cells (sc K N (.slice B n cb) m0 m1 m2 m3 u2).toArray 33)) := (Below.refl _ _).alloc (Nat.le_refl _) _
  have r1 : Row (w.alloc (Obj.cells (sc K N (.slice B n cb) m0 m1 m2 m3 u2).toArray 33)) w.heap.size (sc K N (.slice B n cb) m0 m1 m2 m3 u2) 33 := Row.new' rfl rfl
  have hr := h.be b1
  have HD : Hid (∀ W, Gp P w W → SlAt W (.slice B n cb) d) := fun W hg => hv W (hb0.trans (Gro.to_below hg hb0.size (fun k q => by rw [q]; exact hP0)))
  have G1 : Hid (Gp P w (w.alloc (Obj.cells (sc K N (.slice B n cb) m0 m1 m2 m3 u2).toArray 33))) := Gro.of_below b1
  have HNE : Hid (w.heap.size ≠ P) := by show _ ≠ _; have := h.row.lt; omega
  have g0 := r1.cell 0 _ rfl
  
  clear h b1 hK1 hK2 hk
  go_enter Try.func24, Try.ntmps24
  go_wp2_with fail
  refine Calls.mono (HP.out (w.alloc (Obj.cells (sc K N (.slice B n cb) m0 m1 m2 m3 u2).toArray 33))) ?_
  rintro e w2 ⟨rfl, rfl⟩
  generalize (w.alloc (Obj.cells (sc K N (.slice B n cb) m0 m1 m2 m3 u2).toArray 33)) = Y at *
  have HF : Hid _ := face_address P Ar capr bs a (World.drew Y) ⟨hr.row, hr.bw, hr.le, hr.len⟩
  have R1 : Hid (Row (World.drew Y) w.heap.size (sc K N (.slice B n cb) m0 m1 m2 m3 u2) 33) := r1
  have GD : Hid (Gp P w (World.drew Y)) := Gro.drewN G1.out 1
  have g2 := r1.cell 2 _ rfl
  have HX : Hid (sub bs a 20 = dgN 20 d) := hx
  have heq : ∀ w, (Op.equalIn 10000 85 (.agg (vB (dgN 20 d)).toArray) (.agg (vB (dgN 20 d)).toArray)).run Try.prog w = .ok true w := fun w => same_self w 85 20 Try.underlying85 _ (dgN_len _ _)
  have HEE : Hid (dgE 20 bs a = 0) := hE
  have HDN : Hid (d.length = n) := hd
  have HNN : Hid (n ≤ 4194304) := hn
  clear hr r1 g0 HP hx hE hN1 hN2 hd hn hv hb0 hP0
  rw [HX.out] at HF
  go_wp2_with fail
  go_region_law (first
    | (refine stp_fcall rfl 69 #[.pointer (some ⟨P, 0, none⟩)] (by go_simp) (Calls.mono HF.out ?_); rintro e V ⟨hok, _, hg⟩; obtain ⟨rfl, hrv⟩ := hok HEE.out; refine ⟨_, rfl, ?_⟩; have HRV : Hid (Rg _ _ _ _ _ _) := hrv; have HGV : Hid (Gp P w V) := GD.out.trans hg; have rV := hg.row R1.out HNE.out; have g2V := rV.cell 2 _ rfl; have HC : Hid _ := address_of d n HDN.out B cb V (HD.out V HGV.out); clear hok hrv hg rV HF)
    | (refine stp_fcall rfl 47 #[.slice B n cb] (by go_simp) (Calls.mono HC.out ?_); rintro e V2 ⟨rfl, hbv⟩; refine ⟨_, rfl, ?_⟩; have HB2 : Hid (Below V.heap.size V V2) := hbv; clear hbv HC))
  all_goals
    go_wp2_with fail
    go_ret
    exact ⟨rfl, HRV.out.be HB2.out, HGV.out.below HB2.out⟩

end Go.Proofs.Ytmkmdbpibpbcjaa
