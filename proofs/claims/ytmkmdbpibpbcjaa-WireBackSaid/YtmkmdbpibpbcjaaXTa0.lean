/-
  The law's takes, at some kinds.
-/
import Derived.Test.YtmkmdbpibpbcjaaXFaces
import Derived.Test.YtmkmdbpibpbcjaaXFmB
import Derived.Test.YtmkmdbpibpbcjaaXLaysK
import Derived.Test.YtmkmdbpibpbcjaaXStp
namespace Go.Proofs.Ytmkmdbpibpbcjaa
open Go Go.RowKit
open Sha

set_option maxRecDepth 100000 in
set_option maxHeartbeats 4000000 in
theorem takes_0 (P : Nat) (Ar : Option Addr) (capr : Nat) (bs : List (BitVec 8)) (a : Nat) (K N : Int) (hK1 : -9223372036854775808 ≤ K) (hK2 : K ≤ 9223372036854775807) (hk : pk K 9 = 0) (hN1 : -9223372036854775808 ≤ N) (hN2 : N ≤ 9223372036854775807) (u : Value) (m0 m1 m2 m3 : Nat) (u2 : Value) (hE : byE bs a = 0) (hx : ((at8 bs a : Nat) : Int) = N % 256) (w : World) (h : Rg w P Ar capr bs a) :
    Calls Try.prog 24 #[.pointer (some ⟨P, 0, none⟩), .agg (sc K N u m0 m1 m2 m3 u2).toArray] w fun e w' => e = .returned (.bool true) ∧ Rg w' P Ar capr bs (a + 1) ∧ Gp P w w' := by
  have hall := And.intro hN1 hN2
  clear hall
  have HP : Hid (∀ w, _) := fun w => pick_any K 9 (by decide) hK1 hK2 (by decide) w
  rw [hk] at HP
  have b1 : Below w.heap.size w (w.alloc (Obj.cells (sc K N u m0 m1 m2 m3 u2).toArray 33)) := (Below.refl _ _).alloc (Nat.le_refl _) _
  have r1 : Row (w.alloc (Obj.cells (sc K N u m0 m1 m2 m3 u2).toArray 33)) w.heap.size (sc K N u m0 m1 m2 m3 u2) 33 := Row.new' rfl rfl
  have hr := h.be b1
  have G1 : Hid (Gp P w (w.alloc (Obj.cells (sc K N u m0 m1 m2 m3 u2).toArray 33))) := Gro.of_below b1
  have HNE : Hid (w.heap.size ≠ P) := by show _ ≠ _; have := h.row.lt; omega
  have g0 := r1.cell 0 _ rfl
  
  clear h b1 hK1 hK2 hk
  go_enter Try.func24, Try.ntmps24
  go_wp2_with fail
  refine Calls.mono (HP.out (w.alloc (Obj.cells (sc K N u m0 m1 m2 m3 u2).toArray 33))) ?_
  rintro e w2 ⟨rfl, rfl⟩
  generalize (w.alloc (Obj.cells (sc K N u m0 m1 m2 m3 u2).toArray 33)) = Y at *
  have HF : Hid _ := face_byte P Ar capr bs a (World.drew Y) ⟨hr.row, hr.bw, hr.le, hr.len⟩
  have R1 : Hid (Row (World.drew Y) w.heap.size (sc K N u m0 m1 m2 m3 u2) 33) := r1
  have GD : Hid (Gp P w (World.drew Y)) := Gro.drewN G1.out 1
  have g1 := r1.cell 1 _ rfl
  have HX : Hid (((at8 bs a : Nat) : Int) = N % 256) := hx
  have HEE : Hid (byE bs a = 0) := hE
  clear hr r1 g0 HP hx hE
  rw [HX.out] at HF
  go_wp2_with fail
  go_region_law (refine stp_fcall rfl 57 #[.pointer (some ⟨P, 0, none⟩)] (by go_simp) (Calls.mono HF.out ?_); rintro e V ⟨hok, _, hg⟩; obtain ⟨rfl, hrv⟩ := hok HEE.out; refine ⟨_, rfl, ?_⟩; have HRV : Hid (Rg _ _ _ _ _ _) := hrv; have HGV : Hid (Gp P w V) := GD.out.trans hg; have rV := hg.row R1.out HNE.out; have g1V := rV.cell 1 _ rfl; clear hok hrv hg rV HF)
  all_goals
    go_wp2_with fail
    go_ret
    exact ⟨by (show Ending.returned (Value.bool (N % 256 == N % 256)) = _; rw [beq_self_eq_true]), HRV.out, HGV.out⟩

set_option maxRecDepth 100000 in
set_option maxHeartbeats 4000000 in
theorem takes_1 (P : Nat) (Ar : Option Addr) (capr : Nat) (bs : List (BitVec 8)) (a : Nat) (K N : Int) (hK1 : -9223372036854775808 ≤ K) (hK2 : K ≤ 9223372036854775807) (hk : pk K 9 = 1) (hN1 : -9223372036854775808 ≤ N) (hN2 : N ≤ 9223372036854775807) (u : Value) (m0 m1 m2 m3 : Nat) (u2 : Value) (hE : flE bs a = 0) (hx : (((at8 bs a : Nat) : Int) == 1) = (!(N.tmod 2 == 0))) (w : World) (h : Rg w P Ar capr bs a) :
    Calls Try.prog 24 #[.pointer (some ⟨P, 0, none⟩), .agg (sc K N u m0 m1 m2 m3 u2).toArray] w fun e w' => e = .returned (.bool true) ∧ Rg w' P Ar capr bs (a + 1) ∧ Gp P w w' := by
  have hall := And.intro hN1 hN2
  clear hall
  have HP : Hid (∀ w, _) := fun w => pick_any K 9 (by decide) hK1 hK2 (by decide) w
  rw [hk] at HP
  have b1 : Below w.heap.size w (w.alloc (Obj.cells (sc K N u m0 m1 m2 m3 u2).toArray 33)) := (Below.refl _ _).alloc (Nat.le_refl _) _
  have r1 : Row (w.alloc (Obj.cells (sc K N u m0 m1 m2 m3 u2).toArray 33)) w.heap.size (sc K N u m0 m1 m2 m3 u2) 33 := Row.new' rfl rfl
  have hr := h.be b1
  have G1 : Hid (Gp P w (w.alloc (Obj.cells (sc K N u m0 m1 m2 m3 u2).toArray 33))) := Gro.of_below b1
  have HNE : Hid (w.heap.size ≠ P) := by show _ ≠ _; have := h.row.lt; omega
  have g0 := r1.cell 0 _ rfl
  
  clear h b1 hK1 hK2 hk
  go_enter Try.func24, Try.ntmps24
  go_wp2_with fail
  refine Calls.mono (HP.out (w.alloc (Obj.cells (sc K N u m0 m1 m2 m3 u2).toArray 33))) ?_
  rintro e w2 ⟨rfl, rfl⟩
  generalize (w.alloc (Obj.cells (sc K N u m0 m1 m2 m3 u2).toArray 33)) = Y at *
  have HF : Hid _ := face_flag P Ar capr bs a (World.drew Y) ⟨hr.row, hr.bw, hr.le, hr.len⟩
  have R1 : Hid (Row (World.drew Y) w.heap.size (sc K N u m0 m1 m2 m3 u2) 33) := r1
  have GD : Hid (Gp P w (World.drew Y)) := Gro.drewN G1.out 1
  have g1 := r1.cell 1 _ rfl
  have HX : Hid ((((at8 bs a : Nat) : Int) == 1) = (!(N.tmod 2 == 0))) := hx
  have HEE : Hid (flE bs a = 0) := hE
  clear hr r1 g0 HP hx hE
  rw [HX.out] at HF
  go_wp2_with fail
  go_region_law (refine stp_fcall rfl 59 #[.pointer (some ⟨P, 0, none⟩)] (by go_simp) (Calls.mono HF.out ?_); rintro e V ⟨hok, _, hg⟩; obtain ⟨rfl, hrv⟩ := hok HEE.out; refine ⟨_, rfl, ?_⟩; have HRV : Hid (Rg _ _ _ _ _ _) := hrv; have HGV : Hid (Gp P w V) := GD.out.trans hg; have rV := hg.row R1.out HNE.out; have g1V := rV.cell 1 _ rfl; clear hok hrv hg rV HF)
  all_goals
    go_wp2_with fail
    go_ret
    exact ⟨by (show Ending.returned (Value.bool ((!(N.tmod 2 == 0)) == (!(N.tmod 2 == 0)))) = _; rw [beq_self_eq_true]), HRV.out, HGV.out⟩

end Go.Proofs.Ytmkmdbpibpbcjaa
