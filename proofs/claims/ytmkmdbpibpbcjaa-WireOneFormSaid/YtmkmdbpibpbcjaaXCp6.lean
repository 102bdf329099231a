/-
  The law's copies, at some kinds.
-/
import Derived.Test.YtmkmdbpibpbcjaaXCp
namespace Go.Proofs.Ytmkmdbpibpbcjaa
open Go Go.RowKit
open Sha

set_option maxRecDepth 100000 in
set_option maxHeartbeats 4000000 in
theorem copies_6 (N P : Nat) (Ar : Option Addr) (capr : Nat) (bs : List (BitVec 8)) (a Q : Nat) (A : Option Addr) (cap : Nat) (K sN : Int) (h1K : -9223372036854775808 ≤ K) (h2K : K ≤ 9223372036854775807) (hk : pk K 8 = 6) (u : Value) (m0 m1 m2 m3 : Nat) (u2 : Value) (w : World) (h : Cp N w P Ar capr bs a 0 Q A cap (bs.take a)) :
    Calls Try.prog 26 #[.pointer (some ⟨P, 0, none⟩), .pointer (some ⟨Q, 0, none⟩), .agg (sc K sN u m0 m1 m2 m3 u2).toArray] w fun e w' => e = .returned (.tuple #[]) ∧ Cd N w w' P Ar capr bs a Q := by
  have HP : Hid (∀ w, _) := fun w => pick_any K 8 (by decide) h1K h2K (by decide) w
  rw [hk] at HP
  have b0 : Below w.heap.size w (w.alloc (Obj.cells (sc K sN u m0 m1 m2 m3 u2).toArray 33)) := (Below.refl _ _).alloc (Nat.le_refl _) _
  have b1 : Below w.heap.size w ((w.alloc (Obj.cells (sc K sN u m0 m1 m2 m3 u2).toArray 33)).alloc (Obj.cells zst.toArray 33)) := b0.alloc b0.size _
  have rs : Row ((w.alloc (Obj.cells (sc K sN u m0 m1 m2 m3 u2).toArray 33)).alloc (Obj.cells zst.toArray 33)) w.heap.size (sc K sN u m0 m1 m2 m3 u2) 33 := (Row.new' rfl rfl).alloc _
  have rv : Row ((w.alloc (Obj.cells (sc K sN u m0 m1 m2 m3 u2).toArray 33)).alloc (Obj.cells zst.toArray 33)) (w.heap.size + 1) zst 33 := Row.new' (by simp) rfl
  have h1 := h.be b1
  have G1 : Gn N P w ((w.alloc (Obj.cells (sc K sN u m0 m1 m2 m3 u2).toArray 33)).alloc (Obj.cells zst.toArray 33)) := Gn.of_below b1
  have gs0 := rs.cell 0 _ rfl
  have HVN : Hid (N ≤ w.heap.size + 1) := by show _ ≤ _; have := h.hN; omega
  have hrg : Rg w P Ar capr bs a := by
    rcases h.rx with ⟨_, q⟩ | ⟨q, _⟩
    · exact q
    · exact absurd rfl q
  have HLEN : Hid (bs.length ≤ 4194304) := hrg.len
  have HALE : Hid (a ≤ bs.length) := hrg.le
  clear h b0 b1 h1K h2K hk hrg
  go_enter Try.func26, Try.ntmps26
  go_wp2_with fail
  refine Calls.mono (HP.out ((w.alloc (Obj.cells (sc K sN u m0 m1 m2 m3 u2).toArray 33)).alloc (Obj.cells zst.toArray 33))) ?_
  rintro e w2 ⟨rfl, rfl⟩
  clear gs0 HP
  generalize ((w.alloc (Obj.cells (sc K sN u m0 m1 m2 m3 u2).toArray 33)).alloc (Obj.cells zst.toArray 33)) = X at *
  generalize hvb : w.heap.size + 1 = vb at *
  have gv0 := rv.cell 0 _ rfl
  have fv0 := rv.thaw 0
  have rv1 := rv.set 0 (.int .i64 6)
  have rs1 := rs.set_other vb 0 (.int .i64 6) (by omega)
  have c1 := h1.set rv (by decide) (by decide) (by decide) 0 (.int .i64 6)
  have G1' := Gn.setNew G1 HVN.out 0 (.int .i64 6)
  have gs1 := rs1.cell 1 _ rfl
  have hrg : Rg (X.setCell ⟨vb, 0, none⟩ (.int .i64 6)) P Ar capr bs a := by
    rcases c1.rx with ⟨_, q⟩ | ⟨q, _⟩
    · exact q
    · exact absurd rfl q
  have HF : Hid _ := face_address P Ar capr bs a _ hrg
  have RV1 : Hid (Row _ _ _ _) := rv1
  have RS1 : Hid (Row _ _ _ _) := rs1
  have C1 : Hid (Cp _ _ _ _ _ _ _ _ _ _ _ _) := c1
  have GG1 : Hid (Gro _ _ _) := G1'
  have HNE : Hid (vb ≠ P) := row_ne rv1 hrg.row (by decide)
  clear rv rs h1 G1 rv1 rs1 c1 G1' hrg
  go_wp2_with fail
  refine Calls.mono HF.out ?_
  rintro e V ⟨hok, hno, hg⟩
  have RV2 : Hid (Row V vb (sc 6 0 (.slice none 0 0) 0 0 0 0 (.slice none 0 0)) 33) := hg.row RV1.out HNE.out
  have GG2 : Hid (Gn N P w V) := GG1.out.trans (Gn.of_gp hg)
  clear HF gv0 fv0 gs1
  by_cases hz : dgE 20 bs a = 0
  · obtain ⟨rfl, hr⟩ := hok hz
    have c2 := C1.out.read hg (.inl ⟨rfl, hr⟩) (fun _ => rfl)
    have hlt : a + 20 ≤ bs.length := hr.le
    have rv2 := RV2.out
    have hdl := sub_len bs a 20 hlt
    have HDD : Hid (sub bs a 20 = sub bs a 20) := rfl
    generalize hdd : sub bs a 20 = d at hdl ⊢
    have HD2 : Hid (sub bs a 20 = d) := hdd
    have HCL : Hid ((vB d).length = 20) := by show _ = _; rw [vB_length, hdl]
    have n0 : Row (V.alloc (Obj.cells z20.toArray 85)) V.heap.size z20 85 := Row.new' rfl rfl
    have T0 := n0.there 0 (vB d).toArray.size (by rw [List.size_toArray, HCL.out]; decide)
    have n1 := n0.over (vs := (vB d)) (by rw [HCL.out]; rfl)
    have hB3 : Below V.heap.size V ((V.alloc (Obj.cells z20.toArray 85)).setCells V.heap.size 0 (vB d)) := below_setCells ((Below.refl _ _).alloc (Nat.le_refl _) (Obj.cells z20.toArray 85)) (b := V.heap.size) (o := 0) (Nat.le_refl _) (vB d)
    have HI' : Hid ((Try.prog.info? 85).map (·.size) = some (vB d).toArray.size) := by show _ = _; rw [List.size_toArray, HCL.out]; exact info_a20
    have HO : Hid ((vB d).toArray.all (·.oneCell') = true) := all_oneCell_toArray (vB_one _)
    have rv3 := Row.below rv2 hB3 rv2.lt
    have c3 := c2.be hB3
    have GG3 : Gn N P w _ := GG2.out.trans (Gn.of_below hB3)
    have HOW : Hid _ := own_any (some ⟨V.heap.size, 0, none⟩) 20 20 d (hdl) (by decide) _ (.inr ⟨V.heap.size, 0, 20, by rw [hdl], by rw [hdl]; exact Nat.le_refl _, (by have := n1.all; exact this)⟩)
    have C3 : Hid (Cp _ _ _ _ _ _ _ _ _ _ _ _) := c3
    have RV3 : Hid (Row _ _ _ _) := rv3
    have GGG : Hid (Gro _ _ _) := GG3
    clear hok hno hg hr c2 c3 rv2 rv3 RV1 RS1 C1 GG1 RV2 GG2 GG3 n0 n1 hB3
    
    go_wp2_with (first
      | (refine wpList_store_mid rfl 85 (.tmp 9) (.tmp 54) rfl V.heap.size 0 (vB d).toArray rfl rfl T0 HI'.out HO.out ?_; simp only [Act.put]; clear T0; (change wpList _ _ _ _ _ ((V.alloc (Obj.cells z20.toArray 85)).setCells V.heap.size 0 (vB d))); (generalize ((V.alloc (Obj.cells z20.toArray 85)).setCells V.heap.size 0 (vB d)) = X3 at *))
      | (refine wpList_slice_all rfl 85 5 20 (.tmp 9) V.heap.size 0 rfl rfl Try.underlying85 info_u8 ?_; simp only [Act.put, List.setIfInBounds_toArray, List.set_cons_zero, List.set_cons_succ])
      | fail)
    refine Calls.mono HOW.out ?_
    rintro e V3 ⟨rfl, hrow3, hb3⟩
    have c4 := C3.out.be hb3
    have rv4 := Row.below RV3.out hb3 (Row.lt RV3.out)
    have G4 : Gn N P w V3 := GGG.out.trans (Gn.of_below hb3)
    have g2 := rv4.cell 2 _ rfl
    have f2 := rv4.thaw 2
    have HNEB : X3.heap.size ≠ vb := by have := Row.lt RV3.out; omega
    have r5 : Row (V3.setCell ⟨vb, 2, none⟩ (.slice (some ⟨X3.heap.size, 0, none⟩) 20 20)) X3.heap.size (vB d) 5 := hrow3.set_other vb 2 _ HNEB
    have c5 := c4.set rv4 (by decide) (by decide) (by decide) 2 (.slice (some ⟨X3.heap.size, 0, none⟩) 20 20)
    have rv5 := rv4.set 2 (.slice (some ⟨X3.heap.size, 0, none⟩) 20 20)
    have G5 : Gn N P w _ := Gn.setNew G4 HVN.out 2 (.slice (some ⟨X3.heap.size, 0, none⟩) 20 20)
    obtain ⟨v0, hrow⟩ := c5.rx.row
    have HE : Hid _ := err_ok P v0 _ 0 _ hrow
    have hsl5 : ∀ W, Gro (Rw Q A cap (bs.take a)) (V3.setCell ⟨vb, 2, none⟩ (.slice (some ⟨X3.heap.size, 0, none⟩) 20 20)) W → SlAt W (.slice (some ⟨X3.heap.size, 0, none⟩) 20 20) d := fun W hG => by
      have q := sl_row (hG.row r5 (fun q => by
        rcases q with q | q
        · have := Row.lt C3.out.wr.1; omega
        · have := Bw.lt C3.out.wr.2 _ q; omega))
      rw [hdl] at q
      exact q
    have HD : Hid (fo 6 0 d 0 0 0 0 = sub bs a 20) := by
      show dgN 20 d = _
      rw [HD2.out]; unfold dgN; rw [List.take_of_length_le (by rw [hdl]; exact Nat.le_refl _), hdl]; simp
    have HLY : Hid _ := laysg_6 Q A cap (bs.take a) (by rw [List.length_take]; have := HLEN.out; omega) 0 0 (by decide) (by decide) d 20 hdl (by decide) (some ⟨X3.heap.size, 0, none⟩) 20 (fun q => by cases q) 0 0 0 0 (by decide) (by decide) (by decide) (by decide) (.slice none 0 0) _ c5.wr hsl5
    rw [HD.out] at HLY
    have RNG : Hid _ := rv5.all
    have hk0 := rv5.cell 0 _ rfl
    have hk1 := rv5.cell 1 _ rfl
    have C5 : Hid (Cp _ _ _ _ _ _ _ _ _ _ _ _) := c5
    have HAL : Hid (a + 20 ≤ bs.length) := hlt
    have G55 : Hid (Gro _ _ _) := G5
    clear hz hlt HD hb3 c4 rv4 G4 r5 c5 rv5 G5 hrow hsl5 hrow3 hdl hdd HNEB
    generalize X3.heap.size = xh at *
    go_wp2_with (first
      | (go_at_call 15; refine Calls.mono HE.out ?_; rintro e w3 ⟨rfl, hq⟩; obtain rfl := hq.symm)
      | (refine wpList_load_w rfl 33 (.tmp 6) rfl vb 0 rfl (sc 6 0 (.slice (some ⟨xh, 0, none⟩) 20 20) 0 0 0 0 (.slice none 0 0)) _ RNG.out Try.underlying33 rfl info_st ?_; simp only [Act.put, List.setIfInBounds_toArray, List.set_cons_zero, List.set_cons_succ])
      | (go_at_call 21; refine Calls.mono HLY.out ?_; rintro e V4 ⟨rfl, hbeh⟩; have HBH : Hid (Beh _ _ _ _ _ _ _ _) := hbeh; clear hbeh))
    first | go_end0 | refine bodyPost_ret (results_none rfl _ _ _) rfl ?_
    obtain ⟨A', cap', c6, g6⟩ := C5.out.laid HBH.out (take_len bs a _ HAL.out HLEN.out)
    rw [take_sub] at c6
    exact ⟨rfl, _, _, A', cap', _, c6, (fun _ => ⟨rfl, Nat.le_add_right _ _, HAL.out⟩), (fun q => absurd rfl q), G55.out.trans g6⟩
  · obtain ⟨rfl, hr⟩ := hno hz
    have c2 := C1.out.read hg (.inr ⟨hz, hr⟩) (fun q => absurd q hz)
    have rv2 := RV2.out
    have HCL : Hid (z20.length = 20) := rfl
    have n0 : Row (V.alloc (Obj.cells z20.toArray 85)) V.heap.size z20 85 := Row.new' rfl rfl
    have T0 := n0.there 0 z20.toArray.size (by rw [List.size_toArray, HCL.out]; decide)
    have n1 := n0.over (vs := z20) rfl
    have hB3 : Below V.heap.size V ((V.alloc (Obj.cells z20.toArray 85)).setCells V.heap.size 0 z20) := below_setCells ((Below.refl _ _).alloc (Nat.le_refl _) (Obj.cells z20.toArray 85)) (b := V.heap.size) (o := 0) (Nat.le_refl _) z20
    have HI' : Hid ((Try.prog.info? 85).map (·.size) = some z20.toArray.size) := by show _ = _; rw [List.size_toArray, HCL.out]; exact info_a20
    have HO : Hid (z20.toArray.all (·.oneCell') = true) := all_oneCell_toArray (vB_one _)
    have rv3 := Row.below rv2 hB3 rv2.lt
    have c3 := c2.be hB3
    have GG3 : Gn N P w _ := GG2.out.trans (Gn.of_below hB3)
    have HOW : Hid _ := own_any (some ⟨V.heap.size, 0, none⟩) 20 20 (List.replicate 20 0#8) ((List.length_replicate)) (by decide) _ (.inr ⟨V.heap.size, 0, 20, by rw [(List.length_replicate)], by rw [(List.length_replicate)]; exact Nat.le_refl _, n1.all⟩)
    have C3 : Hid (Cp _ _ _ _ _ _ _ _ _ _ _ _) := c3
    have RV3 : Hid (Row _ _ _ _) := rv3
    have GGG : Hid (Gro _ _ _) := GG3
    clear hok hno hg hr c2 c3 rv2 rv3 RV1 RS1 C1 GG1 RV2 GG2 GG3 n0 n1 hB3
    
    go_wp2_with (first
      | (refine wpList_store_mid rfl 85 (.tmp 9) (.tmp 54) rfl V.heap.size 0 z20.toArray rfl rfl T0 HI'.out HO.out ?_; simp only [Act.put]; clear T0; (change wpList _ _ _ _ _ ((V.alloc (Obj.cells z20.toArray 85)).setCells V.heap.size 0 z20)); (generalize ((V.alloc (Obj.cells z20.toArray 85)).setCells V.heap.size 0 z20) = X3 at *))
      | (refine wpList_slice_all rfl 85 5 20 (.tmp 9) V.heap.size 0 rfl rfl Try.underlying85 info_u8 ?_; simp only [Act.put, List.setIfInBounds_toArray, List.set_cons_zero, List.set_cons_succ])
      | fail)
    refine Calls.mono HOW.out ?_
    rintro e V3 ⟨rfl, hrow3, hb3⟩
    have c4 := C3.out.be hb3
    have rv4 := Row.below RV3.out hb3 (Row.lt RV3.out)
    have G4 : Gn N P w V3 := GGG.out.trans (Gn.of_below hb3)
    have g2 := rv4.cell 2 _ rfl
    have f2 := rv4.thaw 2
    have HNEB : X3.heap.size ≠ vb := by have := Row.lt RV3.out; omega
    have r5 : Row (V3.setCell ⟨vb, 2, none⟩ (.slice (some ⟨X3.heap.size, 0, none⟩) 20 20)) X3.heap.size (vB (List.replicate 20 0#8)) 5 := hrow3.set_other vb 2 _ HNEB
    have c5 := c4.set rv4 (by decide) (by decide) (by decide) 2 (.slice (some ⟨X3.heap.size, 0, none⟩) 20 20)
    have rv5 := rv4.set 2 (.slice (some ⟨X3.heap.size, 0, none⟩) 20 20)
    have G5 : Gn N P w _ := Gn.setNew G4 HVN.out 2 (.slice (some ⟨X3.heap.size, 0, none⟩) 20 20)
    obtain ⟨v0, hrow⟩ := c5.rx.row
    have HE : Hid _ := err_ok P v0 _ _ _ hrow
    have C5 : Hid (Cp _ _ _ _ _ _ _ _ _ _ _ _) := c5
    have G55 : Hid (Gro _ _ _) := G5
    have HZ : Hid (¬ dgE 20 bs a = 0) := hz
    have hb0 : (dgE 20 bs a == 0) = false := by simp [hz]
    clear hb3 c4 rv4 G4 r5 c5 rv5 G5 hrow hrow3 HNEB
    generalize X3.heap.size = xh at *
    generalize dgE 20 bs a = fe at *
    go_wp2_with (first
      | (go_at_call 15; refine Calls.mono HE.out ?_; rintro e w3 ⟨rfl, hq⟩; obtain rfl := hq.symm)
      | fail)
    first | go_end0 | refine bodyPost_ret (results_none rfl _ _ _) rfl ?_
    exact ⟨rfl, _, _, A, cap, _, C5.out, (fun q => absurd q HZ.out), (fun _ => ⟨rfl, Nat.le_refl _, HALE.out⟩), G55.out⟩

end Go.Proofs.Ytmkmdbpibpbcjaa
