/-
  The law's copies, at some kinds.
-/
import Derived.Test.YtmkmdbpibpbcjaaXCp
namespace Go.Proofs.Ytmkmdbpibpbcjaa
open Go Go.RowKit
open Sha

theorem flag_two {bs : List (BitVec 8)} {a : Nat} (h : flE bs a = 0) : at8 bs a = 0 ∨ at8 bs a = 1 := by
  unfold flE at h
  by_cases h1 : bs.length ≤ a
  · rw [if_pos h1] at h; cases h
  · rw [if_neg h1] at h
    by_cases h2 : 1 < at8 bs a
    · rw [if_pos h2] at h; cases h
    · omega
theorem sub_one (bs : List (BitVec 8)) (a : Nat) (h : a + 1 ≤ bs.length) (x : BitVec 8) (hx : at8 bs a = x.toNat) : [x] = sub bs a 1 := by
  apply List.ext_getElem (by rw [sub_len bs a 1 h]; rfl)
  intro p h1 h2
  obtain rfl : p = 0 := by simp at h1; omega
  have e2 := sub_get bs a 1 0 (by omega)
  rw [List.getElem?_eq_getElem (by rw [sub_len bs a 1 h]; omega), List.getElem?_eq_getElem (by omega)] at e2
  rw [Option.some.inj e2]
  simp only [List.getElem_cons_zero, Nat.add_zero]
  apply BitVec.eq_of_toNat_eq
  rw [← hx]
  unfold at8; rw [List.getD_eq_getElem?_getD, List.getElem?_eq_getElem (by omega)]; rfl

set_option maxRecDepth 100000 in
set_option maxHeartbeats 4000000 in
theorem copies_1 (N P : Nat) (Ar : Option Addr) (capr : Nat) (bs : List (BitVec 8)) (a Q : Nat) (A : Option Addr) (cap : Nat) (K sN : Int) (h1K : -9223372036854775808 ≤ K) (h2K : K ≤ 9223372036854775807) (hk : pk K 8 = 1) (u : Value) (m0 m1 m2 m3 : Nat) (u2 : Value) (w : World) (h : Cp N w P Ar capr bs a 0 Q A cap (bs.take a)) :
    Calls Try.prog 26 #[.pointer (some ⟨P, 0, none⟩), .pointer (some ⟨Q, 0, none⟩), .agg (sc K sN u m0 m1 m2 m3 u2).toArray] w fun e w' => e = .returned (.tuple #[]) ∧ Cd N w w' P Ar capr bs a Q := by
  have HP : Hid (∀ w, _) := fun w => pick_any K 8 (by decide) h1K h2K (by decide) w
  rw [hk] at HP
  have b0 : Below w.heap.size w (w.alloc (Obj.cells (sc K sN u m0 m1 m2 m3 u2).toArray 33)) := (Below.refl _ _).alloc (Nat.le_refl _) _
  have b1 : Below w.heap.size w ((w.alloc (Obj.cells (sc K sN u m0 m1 m2 m3 u2).toArray 33)).alloc (Obj.cells zst.toArray 33)) := b0.alloc b0.size _
  have rs : Row ((w.alloc (Obj.cells (sc K sN u m0 m1 m2 m3 u2).toArray 33)).alloc (Obj.cells zst.toArray 33)) w.heap.size (sc K sN u m0 m1 m2 m3 u2) 33 := (Row.new' rfl rfl).alloc _
  have rv : Row ((w.alloc (Obj.cells (sc K sN u m0 m1 m2 m3 u2).toArray 33)).alloc (Obj.cells zst.toArray 33)) (w.heap.size + 1) zst 33 := Row.new' (by simp) rfl
  have h1 := h.be b1
  have G1 : Gn N P w ((w.alloc (Obj.cells (sc K sN u m0 m1 m2 m3 u2).toArray 33)).alloc (Obj.cells zst.toArray 33)) := Gn.of_below b1
  have gs0 := rs.cell 0 _ rfl
  have HVN : Hid (N ≤ w.heap.size + 1) := by show _ ≤ _; have := h.hN; omega
  have hrg : Rg w P Ar capr bs a := by
    rcases h.rx with ⟨_, q⟩ | ⟨q, _⟩
    · exact q
    · exact absurd rfl q
  have HLEN : Hid (bs.length ≤ 4194304) := hrg.len
  have HALE : Hid (a ≤ bs.length) := hrg.le
  clear h b0 b1 h1K h2K hk hrg
  go_enter Try.func26, Try.ntmps26
  go_wp2_with fail
  refine Calls.mono (HP.out ((w.alloc (Obj.cells (sc K sN u m0 m1 m2 m3 u2).toArray 33)).alloc (Obj.cells zst.toArray 33))) ?_
  rintro e w2 ⟨rfl, rfl⟩
  clear gs0 HP
  generalize ((w.alloc (Obj.cells (sc K sN u m0 m1 m2 m3 u2).toArray 33)).alloc (Obj.cells zst.toArray 33)) = X at *
  generalize hvb : w.heap.size + 1 = vb at *
  have gv0 := rv.cell 0 _ rfl
  have fv0 := rv.thaw 0
  have rv1 := rv.set 0 (.int .i64 1)
  have rs1 := rs.set_other vb 0 (.int .i64 1) (by omega)
  have c1 := h1.set rv (by decide) (by decide) (by decide) 0 (.int .i64 1)
  have G1' := Gn.setNew G1 HVN.out 0 (.int .i64 1)
  have gs1 := rs1.cell 1 _ rfl
  have hrg : Rg (X.setCell ⟨vb, 0, none⟩ (.int .i64 1)) P Ar capr bs a := by
    rcases c1.rx with ⟨_, q⟩ | ⟨q, _⟩
    · exact q
    · exact absurd rfl q
  have HF : Hid _ := face_flag P Ar capr bs a _ hrg
  have RV1 : Hid (Row _ _ _ _) := rv1
  have RS1 : Hid (Row _ _ _ _) := rs1
  have C1 : Hid (Cp _ _ _ _ _ _ _ _ _ _ _ _) := c1
  have GG1 : Hid (Gro _ _ _) := G1'
  have HNE : Hid (vb ≠ P) := row_ne rv1 hrg.row (by decide)
  clear rv rs h1 G1 rv1 rs1 c1 G1' hrg
  go_wp2_with fail
  refine Calls.mono HF.out ?_
  rintro e V ⟨hok, hno, hg⟩
  have RV2 : Hid (Row V vb (sc 1 0 (.slice none 0 0) 0 0 0 0 (.slice none 0 0)) 33) := hg.row RV1.out HNE.out
  have GG2 : Hid (Gn N P w V) := GG1.out.trans (Gn.of_gp hg)
  clear HF gv0 fv0 gs1
  by_cases hz : flE bs a = 0
  · obtain ⟨rfl, hr⟩ := hok hz
    have c2 := C1.out.read hg (.inl ⟨rfl, hr⟩) (fun _ => rfl)
    have hlt : a + 1 ≤ bs.length := hr.le
    have rv2 := RV2.out
    have g1 := rv2.cell 1 _ rfl
    have f1 := rv2.thaw 1
    rcases flag_two hz with e01 | e01
    · have c3 := c2
      have rv3 := rv2
      have GG3 : Hid (Gn N P w V) := GG2.out
      have HD : Hid (fo 1 0 [] 0 0 0 0 = sub bs a 1) := sub_one bs a hlt 0#8 (by rw [e01]; rfl)
      rw [e01]
      obtain ⟨v0, hrow⟩ := c3.rx.row
      have HE : Hid _ := err_ok P v0 _ 0 _ hrow
      have HLY : Hid _ := laysg_1 Q A cap (bs.take a) (by rw [List.length_take]; have := HLEN.out; omega) 0 0 (by decide) (by decide) [] 0 rfl (by decide) none 0 (fun _ => rfl) 0 0 0 0 (by decide) (by decide) (by decide) (by decide) (.slice none 0 0) _ c3.wr (fun W _ => .inl ⟨rfl, none, 0, rfl⟩)
      rw [HD.out] at HLY
      have RNG : Hid _ := rv3.all
      have hk0 := rv3.cell 0 _ rfl
      have hk1 := rv3.cell 1 _ rfl
      have C3 : Hid (Cp _ _ _ _ _ _ _ _ _ _ _ _) := c3
      have HAL : Hid (a + (1) ≤ bs.length) := hlt
      clear hok hno hg hr c2 c3 rv2 rv3 hrow RV1 RS1 C1 GG1 RV2 GG2 hz hlt HD
      
      go_wp2_with (first
        | (go_at_call 15; refine Calls.mono HE.out ?_; rintro e w3 ⟨rfl, hq⟩; obtain rfl := hq.symm)
        
        | (refine wpList_load_w rfl 33 (.tmp 6) rfl vb 0 rfl (sc 1 0 (.slice none 0 0) 0 0 0 0 (.slice none 0 0)) _ RNG.out Try.underlying33 rfl info_st ?_; simp only [Act.put, List.setIfInBounds_toArray, List.set_cons_zero, List.set_cons_succ])
        | (go_at_call 21; refine Calls.mono HLY.out ?_; rintro e V4 ⟨rfl, hbeh⟩; have HBH : Hid (Beh _ _ _ _ _ _ _ _) := hbeh; clear hbeh))
      first | go_end0 | refine bodyPost_ret (results_none rfl _ _ _) rfl ?_
      obtain ⟨A', cap', c4, g4⟩ := C3.out.laid HBH.out (take_len bs a _ HAL.out HLEN.out)
      rw [take_sub] at c4
      exact ⟨rfl, _, _, A', cap', _, c4, (fun _ => ⟨rfl, Nat.le_add_right _ _, HAL.out⟩), (fun q => absurd rfl q), GG3.out.trans g4⟩
    · have c3 := c2.set rv2 (by decide) (by decide) (by decide) 1 (.int .i64 1)
      have rv3 := rv2.set 1 (.int .i64 1)
      have GG3 : Hid (Gn N P w _) := Gn.setNew GG2.out HVN.out 1 (.int .i64 1)
      have HD : Hid (fo 1 1 [] 0 0 0 0 = sub bs a 1) := sub_one bs a hlt 1#8 (by rw [e01]; rfl)
      rw [e01]
      obtain ⟨v0, hrow⟩ := c3.rx.row
      have HE : Hid _ := err_ok P v0 _ 0 _ hrow
      have HLY : Hid _ := laysg_1 Q A cap (bs.take a) (by rw [List.length_take]; have := HLEN.out; omega) 0 1 (by decide) (by decide) [] 0 rfl (by decide) none 0 (fun _ => rfl) 0 0 0 0 (by decide) (by decide) (by decide) (by decide) (.slice none 0 0) _ c3.wr (fun W _ => .inl ⟨rfl, none, 0, rfl⟩)
      rw [HD.out] at HLY
      have RNG : Hid _ := rv3.all
      have hk0 := rv3.cell 0 _ rfl
      have hk1 := rv3.cell 1 _ rfl
      have C3 : Hid (Cp _ _ _ _ _ _ _ _ _ _ _ _) := c3
      have HAL : Hid (a + (1) ≤ bs.length) := hlt
      clear hok hno hg hr c2 c3 rv2 rv3 hrow RV1 RS1 C1 GG1 RV2 GG2 hz hlt HD
      
      go_wp2_with (first
        | (go_at_call 15; refine Calls.mono HE.out ?_; rintro e w3 ⟨rfl, hq⟩; obtain rfl := hq.symm)
        
        | (refine wpList_load_w rfl 33 (.tmp 6) rfl vb 0 rfl (sc 1 1 (.slice none 0 0) 0 0 0 0 (.slice none 0 0)) _ RNG.out Try.underlying33 rfl info_st ?_; simp only [Act.put, List.setIfInBounds_toArray, List.set_cons_zero, List.set_cons_succ])
        | (go_at_call 21; refine Calls.mono HLY.out ?_; rintro e V4 ⟨rfl, hbeh⟩; have HBH : Hid (Beh _ _ _ _ _ _ _ _) := hbeh; clear hbeh))
      first | go_end0 | refine bodyPost_ret (results_none rfl _ _ _) rfl ?_
      obtain ⟨A', cap', c4, g4⟩ := C3.out.laid HBH.out (take_len bs a _ HAL.out HLEN.out)
      rw [take_sub] at c4
      exact ⟨rfl, _, _, A', cap', _, c4, (fun _ => ⟨rfl, Nat.le_add_right _ _, HAL.out⟩), (fun q => absurd rfl q), GG3.out.trans g4⟩
  · obtain ⟨rfl, hr⟩ := hno hz
    have c3 := C1.out.read hg (.inr ⟨hz, hr⟩) (fun q => absurd q hz)
    have c2 : True := trivial
    have rv2 : True := trivial
    have GG3 : Hid (Gn N P w V) := GG2.out
    obtain ⟨v0, hrow⟩ := c3.rx.row
    have HE : Hid _ := err_ok P v0 _ _ _ hrow
    have C3 : Hid (Cp _ _ _ _ _ _ _ _ _ _ _ _) := c3
    have HZ : Hid (¬ flE bs a = 0) := hz
    have hb0 : (flE bs a == 0) = false := by simp [hz]
    clear hok hno hg hr c2 c3 rv2 hrow RV1 RS1 C1 GG1 RV2 GG2
    generalize flE bs a = fe at *
    go_wp2_with (first
      | (go_at_call 15; refine Calls.mono HE.out ?_; rintro e w3 ⟨rfl, hq⟩; obtain rfl := hq.symm)
      | fail)
    first | go_end0 | refine bodyPost_ret (results_none rfl _ _ _) rfl ?_
    exact ⟨rfl, _, _, A, cap, _, C3.out, (fun q => absurd q HZ.out), (fun _ => ⟨rfl, Nat.le_refl _, HALE.out⟩), GG3.out⟩

end Go.Proofs.Ytmkmdbpibpbcjaa
