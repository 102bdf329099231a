/-
  The law's copies, at some kinds.
-/
import Derived.Test.YtmkmdbpibpbcjaaXCp
namespace Go.Proofs.Ytmkmdbpibpbcjaa
open Go Go.RowKit
open Sha

set_option maxRecDepth 100000 in
set_option maxHeartbeats 4000000 in
theorem copies_3 (N P : Nat) (Ar : Option Addr) (capr : Nat) (bs : List (BitVec 8)) (a Q : Nat) (A : Option Addr) (cap : Nat) (K sN : Int) (h1K : -9223372036854775808 ≤ K) (h2K : K ≤ 9223372036854775807) (hk : pk K 8 = 3) (u : Value) (m0 m1 m2 m3 : Nat) (u2 : Value) (w : World) (h : Cp N w P Ar capr bs a 0 Q A cap (bs.take a)) :
    Calls Try.prog 26 #[.pointer (some ⟨P, 0, none⟩), .pointer (some ⟨Q, 0, none⟩), .agg (sc K sN u m0 m1 m2 m3 u2).toArray] w fun e w' => e = .returned (.tuple #[]) ∧ Cd N w w' P Ar capr bs a Q := by
  have HP : Hid (∀ w, _) := fun w => pick_any K 8 (by decide) h1K h2K (by decide) w
  rw [hk] at HP
  have b0 : Below w.heap.size w (w.alloc (Obj.cells (sc K sN u m0 m1 m2 m3 u2).toArray 33)) := (Below.refl _ _).alloc (Nat.le_refl _) _
  have b1 : Below w.heap.size w ((w.alloc (Obj.cells (sc K sN u m0 m1 m2 m3 u2).toArray 33)).alloc (Obj.cells zst.toArray 33)) := b0.alloc b0.size _
  have rs : Row ((w.alloc (Obj.cells (sc K sN u m0 m1 m2 m3 u2).toArray 33)).alloc (Obj.cells zst.toArray 33)) w.heap.size (sc K sN u m0 m1 m2 m3 u2) 33 := (Row.new' rfl rfl).alloc _
  have rv : Row ((w.alloc (Obj.cells (sc K sN u m0 m1 m2 m3 u2).toArray 33)).alloc (Obj.cells zst.toArray 33)) (w.heap.size + 1) zst 33 := Row.new' (by simp) rfl
  have h1 := h.be b1
  have G1 : Gn N P w ((w.alloc (Obj.cells (sc K sN u m0 m1 m2 m3 u2).toArray 33)).alloc (Obj.cells zst.toArray 33)) := Gn.of_below b1
  have gs0 := rs.cell 0 _ rfl
  have HVN : Hid (N ≤ w.heap.size + 1) := by show _ ≤ _; have := h.hN; omega
  have hrg : Rg w P Ar capr bs a := by
    rcases h.rx with ⟨_, q⟩ | ⟨q, _⟩
    · exact q
    · exact absurd rfl q
  have HLEN : Hid (bs.length ≤ 4194304) := hrg.len
  have HALE : Hid (a ≤ bs.length) := hrg.le
  clear h b0 b1 h1K h2K hk hrg
  go_enter Try.func26, Try.ntmps26
  go_wp2_with fail
  refine Calls.mono (HP.out ((w.alloc (Obj.cells (sc K sN u m0 m1 m2 m3 u2).toArray 33)).alloc (Obj.cells zst.toArray 33))) ?_
  rintro e w2 ⟨rfl, rfl⟩
  clear gs0 HP
  generalize ((w.alloc (Obj.cells (sc K sN u m0 m1 m2 m3 u2).toArray 33)).alloc (Obj.cells zst.toArray 33)) = X at *
  generalize hvb : w.heap.size + 1 = vb at *
  have gv0 := rv.cell 0 _ rfl
  have fv0 := rv.thaw 0
  have rv1 := rv.set 0 (.int .i64 3)
  have rs1 := rs.set_other vb 0 (.int .i64 3) (by omega)
  have c1 := h1.set rv (by decide) (by decide) (by decide) 0 (.int .i64 3)
  have G1' := Gn.setNew G1 HVN.out 0 (.int .i64 3)
  have gs1 := rs1.cell 1 _ rfl
  have hrg : Rg (X.setCell ⟨vb, 0, none⟩ (.int .i64 3)) P Ar capr bs a := by
    rcases c1.rx with ⟨_, q⟩ | ⟨q, _⟩
    · exact q
    · exact absurd rfl q
  have HF : Hid _ := face_bytes P Ar capr bs a sN _ hrg
  have RV1 : Hid (Row _ _ _ _) := rv1
  have RS1 : Hid (Row _ _ _ _) := rs1
  have C1 : Hid (Cp _ _ _ _ _ _ _ _ _ _ _ _) := c1
  have GG1 : Hid (Gro _ _ _) := G1'
  have HNE : Hid (vb ≠ P) := row_ne rv1 hrg.row (by decide)
  clear rv rs h1 G1 rv1 rs1 c1 G1' hrg
  go_wp2_with fail
  refine Calls.mono HF.out ?_
  rintro e V ⟨hok, hno, hg⟩
  have RV2 : Hid (Row V vb (sc 3 0 (.slice none 0 0) 0 0 0 0 (.slice none 0 0)) 33) := hg.row RV1.out HNE.out
  have GG2 : Hid (Gn N P w V) := GG1.out.trans (Gn.of_gp hg)
  clear HF gv0 fv0 gs1
  by_cases hz : cnE bs a sN = 0
  · obtain ⟨v, rfl, ⟨A2, c5, rfl, hbw, hfr, hnil⟩, hr⟩ := hok hz
    have c2 := C1.out.read hg (.inl ⟨rfl, hr⟩) (fun _ => rfl)
    have hz1 := (cnE_ok hz).1
    have hlt : a + (1 + at8 bs a + nuW bs a) ≤ bs.length := by have := hr.le; omega
    have rv2 := RV2.out
    have g1 := rv2.cell 2 _ rfl
    have f1 := rv2.thaw 2
    have HD : Hid (fo 3 0 (sub bs (a + 1 + at8 bs a) (nuW bs a)) 0 0 0 0 = sub bs a (1 + at8 bs a + nuW bs a)) := by
      show fm _ _ ++ _ = _
      rw [sub_len bs _ _ (by omega), (form_num hz1).1, (form_num hz1).2, show a + 1 + at8 bs a = a + (1 + at8 bs a) by omega, sub_add]
    have hdl := sub_len bs (a + 1 + at8 bs a) (nuW bs a) (by omega)
    rw [show a + 1 + at8 bs a + nuW bs a = a + (1 + at8 bs a + nuW bs a) by omega] at c2
    generalize sub bs (a + 1 + at8 bs a) (nuW bs a) = d at *
    generalize nuW bs a = n at *
    have c3 := c2.set rv2 (by decide) (by decide) (by decide) 2 (.slice A2 n c5)
    have rv3 := rv2.set 2 (.slice A2 n c5)
    have GG3 : Hid (Gn N P w _) := Gn.setNew GG2.out HVN.out 2 (.slice A2 n c5)
    have hbw3 : Bw (V.setCell ⟨vb, 2, none⟩ (.slice A2 n c5)) (.slice A2 n c5) d := Bw.set_other hbw (Bw.ne hbw rv2 (by decide))
    have hsl3 : ∀ W, Gro (Rw Q A cap (bs.take a)) (V.setCell ⟨vb, 2, none⟩ (.slice A2 n c5)) W → SlAt W (.slice A2 n c5) d := fun W hG => Bw.sl (Bw.gro hbw3 hG (fun g e q => by
      have h1 := hfr g e
      rcases q with q | q
      · have := Row.lt C1.out.wr.1; omega
      · have := Bw.lt C1.out.wr.2 g q; omega))
    obtain ⟨v0, hrow⟩ := c3.rx.row
    have HE : Hid _ := err_ok P v0 _ 0 _ hrow
    have HLY : Hid _ := laysg_3 Q A cap (bs.take a) (by rw [List.length_take]; have := HLEN.out; omega) 0 0 (by decide) (by decide) d n hdl (by have := HLEN.out; omega) A2 c5 hnil 0 0 0 0 (by decide) (by decide) (by decide) (by decide) (.slice none 0 0) _ c3.wr hsl3
    rw [HD.out] at HLY
    have RNG : Hid _ := rv3.all
    have hk0 := rv3.cell 0 _ rfl
    have hk1 := rv3.cell 1 _ rfl
    have C3 : Hid (Cp _ _ _ _ _ _ _ _ _ _ _ _) := c3
    have HAL : Hid (a + (1 + at8 bs a + n) ≤ bs.length) := hlt
    clear hok hno hg hr c2 c3 rv2 rv3 hrow RV1 RS1 C1 GG1 RV2 GG2 hz hlt HD
    clear hbw hfr hnil hbw3 hsl3 hdl hz1
    go_wp2_with (first
      | (go_at_call 15; refine Calls.mono HE.out ?_; rintro e w3 ⟨rfl, hq⟩; obtain rfl := hq.symm)
      
      | (refine wpList_load_w rfl 33 (.tmp 6) rfl vb 0 rfl (sc 3 0 (.slice A2 n c5) 0 0 0 0 (.slice none 0 0)) _ RNG.out Try.underlying33 rfl info_st ?_; simp only [Act.put, List.setIfInBounds_toArray, List.set_cons_zero, List.set_cons_succ])
      | (go_at_call 21; refine Calls.mono HLY.out ?_; rintro e V4 ⟨rfl, hbeh⟩; have HBH : Hid (Beh _ _ _ _ _ _ _ _) := hbeh; clear hbeh))
    first | go_end0 | refine bodyPost_ret (results_none rfl _ _ _) rfl ?_
    obtain ⟨A', cap', c4, g4⟩ := C3.out.laid HBH.out (take_len bs a _ HAL.out HLEN.out)
    rw [take_sub] at c4
    exact ⟨rfl, _, _, A', cap', _, c4, (fun _ => ⟨rfl, Nat.le_add_right _ _, HAL.out⟩), (fun q => absurd rfl q), GG3.out.trans g4⟩
  · obtain ⟨rfl, hr⟩ := hno hz
    have c2 := C1.out.read hg (.inr ⟨hz, hr⟩) (fun q => absurd q hz)
    have rv2 := RV2.out
    have g1 := rv2.cell 2 _ rfl
    have f1 := rv2.thaw 2
    have c3 := c2.set rv2 (by decide) (by decide) (by decide) 2 (.slice none 0 0)
    have GG3 : Hid (Gn N P w _) := Gn.setNew GG2.out HVN.out 2 (.slice none 0 0)
    obtain ⟨v0, hrow⟩ := c3.rx.row
    have HE : Hid _ := err_ok P v0 _ _ _ hrow
    have C3 : Hid (Cp _ _ _ _ _ _ _ _ _ _ _ _) := c3
    have HZ : Hid (¬ cnE bs a sN = 0) := hz
    have hb0 : (cnE bs a sN == 0) = false := by simp [hz]
    clear hok hno hg hr c2 c3 rv2 hrow RV1 RS1 C1 GG1 RV2 GG2
    generalize cnE bs a sN = fe at *
    go_wp2_with (first
      | (go_at_call 15; refine Calls.mono HE.out ?_; rintro e w3 ⟨rfl, hq⟩; obtain rfl := hq.symm)
      | fail)
    first | go_end0 | refine bodyPost_ret (results_none rfl _ _ _) rfl ?_
    exact ⟨rfl, _, _, A, cap, _, C3.out, (fun q => absurd q HZ.out), (fun _ => ⟨rfl, Nat.le_refl _, HALE.out⟩), GG3.out⟩

end Go.Proofs.Ytmkmdbpibpbcjaa
