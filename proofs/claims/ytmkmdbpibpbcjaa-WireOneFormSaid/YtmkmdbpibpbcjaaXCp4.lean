/-
  The law's copies, at some kinds.
-/
import Derived.Test.YtmkmdbpibpbcjaaXCp
namespace Go.Proofs.Ytmkmdbpibpbcjaa
open Go Go.RowKit
open Sha

set_option maxRecDepth 100000 in
set_option maxHeartbeats 4000000 in
theorem copies_4 (N P : Nat) (Ar : Option Addr) (capr : Nat) (bs : List (BitVec 8)) (a Q : Nat) (A : Option Addr) (cap : Nat) (K sN : Int) (h1K : -9223372036854775808 ≤ K) (h2K : K ≤ 9223372036854775807) (hk : pk K 8 = 4) (u : Value) (m0 m1 m2 m3 : Nat) (u2 : Value) (w : World) (h : Cp N w P Ar capr bs a 0 Q A cap (bs.take a)) :
    Calls Try.prog 26 #[.pointer (some ⟨P, 0, none⟩), .pointer (some ⟨Q, 0, none⟩), .agg (sc K sN u m0 m1 m2 m3 u2).toArray] w fun e w' => e = .returned (.tuple #[]) ∧ Cd N w w' P Ar capr bs a Q := by
  have HP : Hid (∀ w, _) := fun w => pick_any K 8 (by decide) h1K h2K (by decide) w
  rw [hk] at HP
  have b0 : Below w.heap.size w (w.alloc (Obj.cells (sc K sN u m0 m1 m2 m3 u2).toArray 33)) := (Below.refl _ _).alloc (Nat.le_refl _) _
  have b1 : Below w.heap.size w ((w.alloc (Obj.cells (sc K sN u m0 m1 m2 m3 u2).toArray 33)).alloc (Obj.cells zst.toArray 33)) := b0.alloc b0.size _
  have rs : Row ((w.alloc (Obj.cells (sc K sN u m0 m1 m2 m3 u2).toArray 33)).alloc (Obj.cells zst.toArray 33)) w.heap.size (sc K sN u m0 m1 m2 m3 u2) 33 := (Row.new' rfl rfl).alloc _
  have rv : Row ((w.alloc (Obj.cells (sc K sN u m0 m1 m2 m3 u2).toArray 33)).alloc (Obj.cells zst.toArray 33)) (w.heap.size + 1) zst 33 := Row.new' (by simp) rfl
  have h1 := h.be b1
  have G1 : Gn N P w ((w.alloc (Obj.cells (sc K sN u m0 m1 m2 m3 u2).toArray 33)).alloc (Obj.cells zst.toArray 33)) := Gn.of_below b1
  have gs0 := rs.cell 0 _ rfl
  have HVN : Hid (N ≤ w.heap.size + 1) := by show _ ≤ _; have := h.hN; omega
  have hrg : Rg w P Ar capr bs a := by
    rcases h.rx with ⟨_, q⟩ | ⟨q, _⟩
    · exact q
    · exact absurd rfl q
  have HLEN : Hid (bs.length ≤ 4194304) := hrg.len
  have HALE : Hid (a ≤ bs.length) := hrg.le
  clear h b0 b1 h1K h2K hk hrg
  go_enter Try.func26, Try.ntmps26
  go_wp2_with fail
  refine Calls.mono (HP.out ((w.alloc (Obj.cells (sc K sN u m0 m1 m2 m3 u2).toArray 33)).alloc (Obj.cells zst.toArray 33))) ?_
  rintro e w2 ⟨rfl, rfl⟩
  clear gs0 HP
  generalize ((w.alloc (Obj.cells (sc K sN u m0 m1 m2 m3 u2).toArray 33)).alloc (Obj.cells zst.toArray 33)) = X at *
  generalize hvb : w.heap.size + 1 = vb at *
  have gv0 := rv.cell 0 _ rfl
  have fv0 := rv.thaw 0
  have rv1 := rv.set 0 (.int .i64 4)
  have rs1 := rs.set_other vb 0 (.int .i64 4) (by omega)
  have c1 := h1.set rv (by decide) (by decide) (by decide) 0 (.int .i64 4)
  have G1' := Gn.setNew G1 HVN.out 0 (.int .i64 4)
  have gs1 := rs1.cell 1 _ rfl
  have hrg : Rg (X.setCell ⟨vb, 0, none⟩ (.int .i64 4)) P Ar capr bs a := by
    rcases c1.rx with ⟨_, q⟩ | ⟨q, _⟩
    · exact q
    · exact absurd rfl q
  have HF : Hid _ := face_wide P Ar capr bs a _ hrg
  have RV1 : Hid (Row _ _ _ _) := rv1
  have RS1 : Hid (Row _ _ _ _) := rs1
  have C1 : Hid (Cp _ _ _ _ _ _ _ _ _ _ _ _) := c1
  have GG1 : Hid (Gro _ _ _) := G1'
  have HNE : Hid (vb ≠ P) := row_ne rv1 hrg.row (by decide)
  clear rv rs h1 G1 rv1 rs1 c1 G1' hrg
  go_wp2_with fail
  refine Calls.mono HF.out ?_
  rintro e V ⟨hok, hno, hg⟩
  have RV2 : Hid (Row V vb (sc 4 0 (.slice none 0 0) 0 0 0 0 (.slice none 0 0)) 33) := hg.row RV1.out HNE.out
  have GG2 : Hid (Gn N P w V) := GG1.out.trans (Gn.of_gp hg)
  clear HF gv0 fv0 gs1
  by_cases hz : hiF 32 bs a = 0
  · obtain ⟨rfl, hr⟩ := hok hz
    have c2 := C1.out.read hg (.inl ⟨rfl, hr⟩) (fun _ => rfl)
    have hlt : a + (1 + at8 bs a) ≤ bs.length := by have := hr.le; omega
    have rv2 := RV2.out
    have HCL : Hid ((qd bs (a + 1 + at8 bs a) (at8 bs a)).length = 4) := rfl
    have T0 := rv2.there 3 (qd bs (a + 1 + at8 bs a) (at8 bs a)).toArray.size (by rw [List.size_toArray, HCL.out]; decide)
    have c3 := c2.sets rv2 (by decide) (by decide) (by decide) 3 (qd bs (a + 1 + at8 bs a) (at8 bs a))
    have GG3 : Hid (Gn N P w (V.setCells vb 3 (qd bs (a + 1 + at8 bs a) (at8 bs a)))) := by
      have k0 := below_setCells (Below.refl 0 V) (b := vb) (o := 3) (Nat.zero_le _) (qd bs (a + 1 + at8 bs a) (at8 bs a))
      exact ⟨k0.os.trans GG2.out.os, k0.tape.trans GG2.out.tape, k0.output.trans GG2.out.output, Nat.le_trans GG2.out.size k0.size, fun i hi hn => (heap_sets V vb 3 _ i (fun e => hn (.inr (by rw [e]; exact HVN.out)))).trans (GG2.out.block i hi hn)⟩
    have HI' : Hid ((Try.prog.info? 30).map (·.size) = some (qd bs (a + 1 + at8 bs a) (at8 bs a)).toArray.size) := by show _ = _; rw [List.size_toArray, HCL.out]; exact info_q
    have HO : Hid ((qd bs (a + 1 + at8 bs a) (at8 bs a)).toArray.all (·.oneCell') = true) := all_oneCell_toArray (qd_one _ _ _)
    have rv3 : Row (V.setCells vb 3 (qd bs (a + 1 + at8 bs a) (at8 bs a))) vb (sc 4 0 (.slice none 0 0) (lb bs (a + 1 + at8 bs a) 0 (at8 bs a)) (lb bs (a + 1 + at8 bs a) 1 (at8 bs a)) (lb bs (a + 1 + at8 bs a) 2 (at8 bs a)) (lb bs (a + 1 + at8 bs a) 3 (at8 bs a)) (.slice none 0 0)) 33 := Row.setCells 3 (qd bs (a + 1 + at8 bs a) (at8 bs a)) rv2 (by show 3 + 4 ≤ 8; decide)
    have HD : Hid (fo 4 0 [] (lb bs (a + 1 + at8 bs a) 0 (at8 bs a)) (lb bs (a + 1 + at8 bs a) 1 (at8 bs a)) (lb bs (a + 1 + at8 bs a) 2 (at8 bs a)) (lb bs (a + 1 + at8 bs a) 3 (at8 bs a)) = sub bs a (1 + at8 bs a)) := by
      obtain ⟨q1, q2⟩ := form_read (by decide) hz _ rfl
      show fm _ _ = _
      rw [q1]; exact q2
    have l0 := lb_64 bs (a + 1 + at8 bs a) 0 (at8 bs a)
    have l1 := lb_64 bs (a + 1 + at8 bs a) 1 (at8 bs a)
    have l2 := lb_64 bs (a + 1 + at8 bs a) 2 (at8 bs a)
    have l3 := lb_64 bs (a + 1 + at8 bs a) 3 (at8 bs a)
    obtain ⟨v0, hrow⟩ := c3.rx.row
    have HE : Hid _ := err_ok P v0 _ 0 _ hrow
    have HLY : Hid _ := laysg_4 Q A cap (bs.take a) (by rw [List.length_take]; have := HLEN.out; omega) 0 0 (by decide) (by decide) [] 0 rfl (by decide) none 0 (fun _ => rfl) (lb bs (a + 1 + at8 bs a) 0 (at8 bs a)) (lb bs (a + 1 + at8 bs a) 1 (at8 bs a)) (lb bs (a + 1 + at8 bs a) 2 (at8 bs a)) (lb bs (a + 1 + at8 bs a) 3 (at8 bs a)) l0 l1 l2 l3 (.slice none 0 0) _ c3.wr (fun W _ => .inl ⟨rfl, none, 0, rfl⟩)
    rw [HD.out] at HLY
    have HQ : Hid (qd bs (a + 1 + at8 bs a) (at8 bs a) = q4 (lb bs (a + 1 + at8 bs a) 0 (at8 bs a)) (lb bs (a + 1 + at8 bs a) 1 (at8 bs a)) (lb bs (a + 1 + at8 bs a) 2 (at8 bs a)) (lb bs (a + 1 + at8 bs a) 3 (at8 bs a))) := rfl
    generalize qd bs (a + 1 + at8 bs a) (at8 bs a) = cs at *
    generalize (lb bs (a + 1 + at8 bs a) 0 (at8 bs a)) = b0 at *
    generalize (lb bs (a + 1 + at8 bs a) 1 (at8 bs a)) = b1 at *
    generalize (lb bs (a + 1 + at8 bs a) 2 (at8 bs a)) = b2 at *
    generalize (lb bs (a + 1 + at8 bs a) 3 (at8 bs a)) = b3 at *
    have RNG : Hid _ := rv3.all
    have hk0 := rv3.cell 0 _ rfl
    have hk1 := rv3.cell 1 _ rfl
    have C3 : Hid (Cp _ _ _ _ _ _ _ _ _ _ _ _) := c3
    have HAL : Hid (a + (1 + at8 bs a) ≤ bs.length) := hlt
    clear hok hno hg hr c2 c3 rv2 rv3 hrow RV1 RS1 C1 GG1 RV2 GG2 hz hlt HD l0 l1 l2 l3
    go_wp2_with (first
      | (go_at_call 15; refine Calls.mono HE.out ?_; rintro e w3 ⟨rfl, hq⟩; obtain rfl := hq.symm)
      | (refine wpList_store_mid rfl 30 (.tmp 43) (.tmp 42) rfl vb 3 cs.toArray rfl rfl T0 HI'.out HO.out ?_; simp only [Act.put]; clear T0; (change wpList _ _ _ _ _ (World.setCells V vb 3 cs)))
      | (refine wpList_load_w rfl 33 (.tmp 6) rfl vb 0 rfl (sc 4 0 (.slice none 0 0) b0 b1 b2 b3 (.slice none 0 0)) _ RNG.out Try.underlying33 rfl info_st ?_; simp only [Act.put, List.setIfInBounds_toArray, List.set_cons_zero, List.set_cons_succ])
      | (go_at_call 21; refine Calls.mono HLY.out ?_; rintro e V4 ⟨rfl, hbeh⟩; have HBH : Hid (Beh _ _ _ _ _ _ _ _) := hbeh; clear hbeh))
    first | go_end0 | refine bodyPost_ret (results_none rfl _ _ _) rfl ?_
    obtain ⟨A', cap', c4, g4⟩ := C3.out.laid HBH.out (take_len bs a _ HAL.out HLEN.out)
    rw [take_sub] at c4
    exact ⟨rfl, _, _, A', cap', _, c4, (fun _ => ⟨by rw [← Nat.add_assoc], by omega, by have := HAL.out; omega⟩), (fun q => absurd rfl q), GG3.out.trans g4⟩
  · obtain ⟨rfl, hr⟩ := hno hz
    have c2 := C1.out.read hg (.inr ⟨hz, hr⟩) (fun q => absurd q hz)
    have rv2 := RV2.out
    have HCL : Hid (q4z.length = 4) := rfl
    have T0 := rv2.there 3 q4z.toArray.size (by rw [List.size_toArray, HCL.out]; decide)
    have c3 := c2.sets rv2 (by decide) (by decide) (by decide) 3 q4z
    have GG3 : Hid (Gn N P w (V.setCells vb 3 q4z)) := by
      have k0 := below_setCells (Below.refl 0 V) (b := vb) (o := 3) (Nat.zero_le _) q4z
      exact ⟨k0.os.trans GG2.out.os, k0.tape.trans GG2.out.tape, k0.output.trans GG2.out.output, Nat.le_trans GG2.out.size k0.size, fun i hi hn => (heap_sets V vb 3 _ i (fun e => hn (.inr (by rw [e]; exact HVN.out)))).trans (GG2.out.block i hi hn)⟩
    have HI' : Hid ((Try.prog.info? 30).map (·.size) = some q4z.toArray.size) := by show _ = _; rw [List.size_toArray, HCL.out]; exact info_q
    have HO : Hid (q4z.toArray.all (·.oneCell') = true) := all_oneCell_toArray (q4_one 0 0 0 0)
    obtain ⟨v0, hrow⟩ := c3.rx.row
    have HE : Hid _ := err_ok P v0 _ _ _ hrow
    have C3 : Hid (Cp _ _ _ _ _ _ _ _ _ _ _ _) := c3
    have HZ : Hid (¬ hiF 32 bs a = 0) := hz
    have hb0 : (hiF 32 bs a == 0) = false := by simp [hz]
    clear hok hno hg hr c2 c3 rv2 hrow RV1 RS1 C1 GG1 RV2 GG2
    generalize hiF 32 bs a = fe at *
    go_wp2_with (first
      | (go_at_call 15; refine Calls.mono HE.out ?_; rintro e w3 ⟨rfl, hq⟩; obtain rfl := hq.symm)
      | (refine wpList_store_mid rfl 30 (.tmp 43) (.tmp 42) rfl vb 3 q4z.toArray rfl rfl T0 HI'.out HO.out ?_; simp only [Act.put]; clear T0; (change wpList _ _ _ _ _ (World.setCells V vb 3 q4z))))
    first | go_end0 | refine bodyPost_ret (results_none rfl _ _ _) rfl ?_
    exact ⟨rfl, _, _, A, cap, _, C3.out, (fun q => absurd q HZ.out), (fun _ => ⟨rfl, Nat.le_refl _, HALE.out⟩), GG3.out⟩

end Go.Proofs.Ytmkmdbpibpbcjaa
