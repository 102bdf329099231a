/-
  The law's copies, at some kinds.
-/
import Derived.Test.YtmkmdbpibpbcjaaXLb3
import Derived.Test.YtmkmdbpibpbcjaaXLy2
namespace Go.Proofs.Ytmkmdbpibpbcjaa
open Go Go.RowKit
open Sha

theorem pf_read (bs : List (BitVec 8)) (r : Nat) (h : cnE bs r 5 = 0) : pf (sub bs (r + 1 + at8 bs r) (nuW bs r)) = sub bs r (1 + at8 bs r + nuW bs r) := by
  obtain ⟨h1, h2, h3⟩ := cnE_ok h
  unfold pf
  rw [sub_len bs _ _ h3, (form_num h1).1, (form_num h1).2, show r + 1 + at8 bs r = r + (1 + at8 bs r) by omega, sub_add]
theorem pcs_get (bs : List (BitVec 8)) (a n t : Nat) (h : t < n) : (pcs bs a n).getD t [] = pb bs a t := by
  unfold pcs; simp [h]
theorem rb_zero (bs : List (BitVec 8)) (a : Nat) (t u : Nat) (h : (rb bs a 0 u).2 = 0) (hu : t ≤ u) : (rb bs a 0 t).2 = 0 := by
  by_cases q : (rb bs a 0 t).2 = 0
  · exact q
  · have := rb_stay bs a t q (u - t)
    rw [show t + (u - t) = u by omega] at this
    rw [this] at h
    exact absurd h q
theorem pfs_sub (bs : List (BitVec 8)) (a n : Nat) (ha : a ≤ bs.length) (h : (rb bs a 0 n).2 = 0) : ∀ t, t ≤ n → pfs (pcs bs a n) t = sub bs a ((rb bs a 0 t).1 - a)
  | 0, _ => by
    show pfs (pcs bs a n) 0 = sub bs a (a - a)
    rw [Nat.sub_self]
    unfold pfs sub
    simp
  | t + 1, ht => by
    have ih := pfs_sub bs a n ha h t (by omega)
    have hz := rb_zero bs a (t + 1) n h ht
    obtain ⟨h1, h2⟩ := rb_pre bs a t hz
    have hge := rb_ge bs a ha t
    rw [pfs_succ _ _ (by rw [pcs_len]; omega), ih, pcs_get bs a n t (by omega)]
    unfold pb
    rw [pf_read bs _ h2]
    have e : (rb bs a 0 (t + 1)).1 = (rb bs a 0 t).1 + (1 + at8 bs (rb bs a 0 t).1 + nuW bs (rb bs a 0 t).1) := by
      show (if (rb bs a 0 t).2 = 0 then _ else _ : Nat × Int).1 = _
      rw [if_pos h1, if_pos h2]
      simp only
      omega
    rw [e]
    have e2 := sub_add bs a ((rb bs a 0 t).1 - a) (1 + at8 bs (rb bs a 0 t).1 + nuW bs (rb bs a 0 t).1)
    rw [show a + ((rb bs a 0 t).1 - a) = (rb bs a 0 t).1 by omega] at e2
    rw [e2]
    congr 1
    omega

set_option maxRecDepth 100000 in
set_option maxHeartbeats 4000000 in
theorem copies_7 (N P : Nat) (Ar : Option Addr) (capr : Nat) (bs : List (BitVec 8)) (a Q : Nat) (A : Option Addr) (cap : Nat) (K sN : Int) (h1K : -9223372036854775808 ≤ K) (h2K : K ≤ 9223372036854775807) (hk : pk K 8 = 7) (u : Value) (m0 m1 m2 m3 : Nat) (u2 : Value) (w : World) (h : Cp N w P Ar capr bs a 0 Q A cap (bs.take a)) :
    Calls Try.prog 26 #[.pointer (some ⟨P, 0, none⟩), .pointer (some ⟨Q, 0, none⟩), .agg (sc K sN u m0 m1 m2 m3 u2).toArray] w fun e w' => e = .returned (.tuple #[]) ∧ Cd N w w' P Ar capr bs a Q := by
  have HP : Hid (∀ w, _) := fun w => pick_any K 8 (by decide) h1K h2K (by decide) w
  rw [hk] at HP
  have b0 : Below w.heap.size w (w.alloc (Obj.cells (sc K sN u m0 m1 m2 m3 u2).toArray 33)) := (Below.refl _ _).alloc (Nat.le_refl _) _
  have b1 : Below w.heap.size w ((w.alloc (Obj.cells (sc K sN u m0 m1 m2 m3 u2).toArray 33)).alloc (Obj.cells zst.toArray 33)) := b0.alloc b0.size _
  have rs : Row ((w.alloc (Obj.cells (sc K sN u m0 m1 m2 m3 u2).toArray 33)).alloc (Obj.cells zst.toArray 33)) w.heap.size (sc K sN u m0 m1 m2 m3 u2) 33 := (Row.new' rfl rfl).alloc _
  have rv : Row ((w.alloc (Obj.cells (sc K sN u m0 m1 m2 m3 u2).toArray 33)).alloc (Obj.cells zst.toArray 33)) (w.heap.size + 1) zst 33 := Row.new' (by simp) rfl
  have h1 := h.be b1
  have G1 : Gn N P w ((w.alloc (Obj.cells (sc K sN u m0 m1 m2 m3 u2).toArray 33)).alloc (Obj.cells zst.toArray 33)) := Gn.of_below b1
  have gs0 := rs.cell 0 _ rfl
  have HVN : Hid (N ≤ w.heap.size + 1) := by show _ ≤ _; have := h.hN; omega
  have hrg : Rg w P Ar capr bs a := by
    rcases h.rx with ⟨_, q⟩ | ⟨q, _⟩
    · exact q
    · exact absurd rfl q
  have HLEN : Hid (bs.length ≤ 4194304) := hrg.len
  have HALE : Hid (a ≤ bs.length) := hrg.le
  clear h b0 b1 h1K h2K hk hrg
  go_enter Try.func26, Try.ntmps26
  go_wp2_with fail
  refine Calls.mono (HP.out ((w.alloc (Obj.cells (sc K sN u m0 m1 m2 m3 u2).toArray 33)).alloc (Obj.cells zst.toArray 33))) ?_
  rintro e w2 ⟨rfl, rfl⟩
  clear gs0 HP
  generalize ((w.alloc (Obj.cells (sc K sN u m0 m1 m2 m3 u2).toArray 33)).alloc (Obj.cells zst.toArray 33)) = X at *
  generalize hvb : w.heap.size + 1 = vb at *
  have gv0 := rv.cell 0 _ rfl
  have fv0 := rv.thaw 0
  have rv1 := rv.set 0 (.int .i64 7)
  have rs1 := rs.set_other vb 0 (.int .i64 7) (by omega)
  have c1 := h1.set rv (by decide) (by decide) (by decide) 0 (.int .i64 7)
  have G1' := Gn.setNew G1 HVN.out 0 (.int .i64 7)
  have gs1 := rs1.cell 1 _ rfl
  have hrg : Rg (X.setCell ⟨vb, 0, none⟩ (.int .i64 7)) P Ar capr bs a := by
    rcases c1.rx with ⟨_, q⟩ | ⟨q, _⟩
    · exact q
    · exact absurd rfl q
  have HF : Hid _ := list_bytes P Ar capr bs a sN _ hrg
  have RV1 : Hid (Row _ _ _ _) := rv1
  have RS1 : Hid (Row _ _ _ _) := rs1
  have C1 : Hid (Cp _ _ _ _ _ _ _ _ _ _ _ _) := c1
  have GG1 : Hid (Gro _ _ _) := G1'
  have HNE : Hid (vb ≠ P) := row_ne rv1 hrg.row (by decide)
  clear rv rs h1 G1 rv1 rs1 c1 G1' hrg
  go_wp2_with fail
  refine Calls.mono HF.out ?_
  rintro e V ⟨hlp, hg⟩
  have RV2 : Hid (Row V vb (sc 7 0 (.slice none 0 0) 0 0 0 0 (.slice none 0 0)) 33) := hg.row RV1.out HNE.out
  have GG2 : Hid (Gn N P w V) := GG1.out.trans (Gn.of_gp hg)
  clear HF gv0 fv0 gs1
  rcases hlp with ⟨hz, hfz, Av, cv, vs, rfl, hly, hr⟩ | ⟨b, f, hfn, hb1, hb2, rfl, hr⟩
  · have c2 := C1.out.read hg (.inl ⟨rfl, hr⟩) (fun _ => rfl)
    obtain ⟨hz1, _, hz3⟩ := cnE_ok hz
    have hn4 : nuW bs a ≤ 4194304 := by have := HLEN.out; omega
    have hge := rb_ge bs (a + 1 + at8 bs a) (by omega) (nuW bs a)
    have HAL : Hid (a + ((rb bs (a + 1 + at8 bs a) 0 (nuW bs a)).1 - a) ≤ bs.length) := by show _ ≤ _; omega
    have HEE : Hid ((rb bs (a + 1 + at8 bs a) 0 (nuW bs a)).1 = a + ((rb bs (a + 1 + at8 bs a) 0 (nuW bs a)).1 - a)) := by show _ = _; omega
    have HD : fm [nuW bs a, 0, 0, 0] (nb (nuW bs a) 0 0 0) ++ pfs (pcs bs (a + 1 + at8 bs a) (nuW bs a)) (nuW bs a) = sub bs a ((rb bs (a + 1 + at8 bs a) 0 (nuW bs a)).1 - a) := by
      rw [(form_num hz1).1, (form_num hz1).2, pfs_sub bs _ _ (by omega) hfz _ (Nat.le_refl _), show a + 1 + at8 bs a = a + (1 + at8 bs a) by omega, sub_add]
      congr 1
      rw [show a + 1 + at8 bs a = a + (1 + at8 bs a) by omega] at hge
      omega
    have hTT : (bs.take a).length + ((fm [nuW bs a, 0, 0, 0] (nb (nuW bs a) 0 0 0)).length + (pfs (pcs bs (a + 1 + at8 bs a) (nuW bs a)) (nuW bs a)).length) ≤ 4194304 := by
      rw [← List.length_append, HD]
      exact take_len bs a _ HAL.out HLEN.out
    have hpp : ∀ i, i < nuW bs a → ((pcs bs (a + 1 + at8 bs a) (nuW bs a)).getD i []).length ≤ 4194304 := fun i hi => by
      rw [pcs_get _ _ _ _ hi]
      unfold pb sub
      rw [List.length_take, List.length_drop]
      have := HLEN.out
      omega
    have hcl : Cl N _ V P Ar capr bs (rb bs (a + 1 + at8 bs a) 0 (nuW bs a)).1 0 Q A cap (bs.take a) (.slice Av (nuW bs a) cv) vs (pcs bs (a + 1 + at8 bs a) (nuW bs a)) := ⟨c2, hly, fun g q r => by
      have h1 := (hly.lt g q).2
      rcases r with r | r
      · have := Row.lt C1.out.wr.1; omega
      · have := Bw.lt C1.out.wr.2 g r; omega⟩
    have HLY : Hid _ := lay_bytes N _ P Ar capr bs _ 0 Q A cap (bs.take a) Av cv vs (pcs bs (a + 1 + at8 bs a) (nuW bs a)) (nuW bs a) (pcs_len _ _ _) hn4 V hcl hTT hpp
    rw [HD, take_sub, ← HEE.out] at HLY
    obtain ⟨v0, hrow⟩ := c2.rx.row
    have HE : Hid _ := err_ok P v0 _ 0 _ hrow
    have rv2 := RV2.out
    have hk0 := rv2.cell 0 _ rfl
    have HGE : Hid (a ≤ (rb bs (a + 1 + at8 bs a) 0 (nuW bs a)).1 ∧ (rb bs (a + 1 + at8 bs a) 0 (nuW bs a)).1 ≤ bs.length) := ⟨by omega, hge.2⟩
    clear hg hr c2 rv2 hrow RV1 RS1 C1 GG1 RV2 hz hfz hly hz1 hz3 hge HD hTT hpp hcl HEE HAL
    generalize (rb bs (a + 1 + at8 bs a) 0 (nuW bs a)).1 = a2 at *
    generalize nuW bs a = n at *
    go_wp2_with (first
      | (go_at_call 15; refine Calls.mono HE.out ?_; rintro e w3 ⟨rfl, hq⟩; obtain rfl := hq.symm)
      | fail)
    refine Calls.mono HLY.out ?_
    rintro e V4 ⟨rfl, ⟨A', cap', c4⟩, g4⟩
    have C4 : Hid (Cp _ _ _ _ _ _ _ _ _ _ _ _) := c4
    have G4 : Hid (Gn N P w V4) := GG2.out.trans g4
    clear c4 g4 HLY
    go_wp2_with fail
    first | go_end0 | refine bodyPost_ret (results_none rfl _ _ _) rfl ?_
    exact ⟨rfl, _, _, A', cap', _, C4.out, (fun _ => ⟨rfl, HGE.out.1, HGE.out.2⟩), (fun q => absurd rfl q), G4.out⟩
  · have c3 := C1.out.read hg (.inr ⟨hfn, hr⟩) (fun q => absurd q hfn)
    obtain ⟨v0, hrow⟩ := c3.rx.row
    have HE : Hid _ := err_ok P v0 _ _ _ hrow
    have C3 : Hid (Cp _ _ _ _ _ _ _ _ _ _ _ _) := c3
    have HZ : Hid (¬ f = 0) := hfn
    have HBB : Hid (a ≤ b ∧ b ≤ bs.length) := ⟨hb1, hb2⟩
    have hb0 : (f == 0) = false := by simp [hfn]
    clear hg hr c3 hrow RV1 RS1 C1 GG1 RV2 hb1 hb2
    go_wp2_with (first
      | (go_at_call 15; refine Calls.mono HE.out ?_; rintro e w3 ⟨rfl, hq⟩; obtain rfl := hq.symm)
      | fail)
    first | go_end0 | refine bodyPost_ret (results_none rfl _ _ _) rfl ?_
    exact ⟨rfl, _, _, A, cap, _, C3.out, (fun q => absurd q HZ.out), (fun _ => ⟨rfl, HBB.out.1, HBB.out.2⟩), GG2.out⟩

end Go.Proofs.Ytmkmdbpibpbcjaa
