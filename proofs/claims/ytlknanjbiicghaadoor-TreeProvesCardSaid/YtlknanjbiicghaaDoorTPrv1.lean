/-
  The law TreeProves: the walk up to the loop, and its rounds.
-/
import Derived.Test.YtlknanjbiicghaaDoorTPrv0
namespace Go.Proofs.YtlknanjbiicghaaDoor
open Go Go.RowKit
open Sha

set_option maxRecDepth 100000 in
set_option maxHeartbeats 1000000 in
theorem lroot_none (P m : Nat) (dr : List (BitVec 8)) (hdr : dr = dig []) (w : World) (hK : Tab w 2) (h : Row w P [.int .i64 (m : Int), .slice none 0 0] tL) :
    Calls Tryd.prog 7 #[.pointer (some ⟨P, 0, none⟩)] w fun e w' => e = .returned (.agg (vB dr).toArray) ∧ Below w.heap.size w w' := by
  have HDRL : Hid (dr.length = 32) := by show _ = _; rw [hdr]; exact dig_length _
  have b1 : Below w.heap.size w (w.alloc (Obj.cells #[.int .u8 0, .int .u8 0, .int .u8 0, .int .u8 0, .int .u8 0, .int .u8 0, .int .u8 0, .int .u8 0, .int .u8 0, .int .u8 0, .int .u8 0, .int .u8 0, .int .u8 0, .int .u8 0, .int .u8 0, .int .u8 0, .int .u8 0, .int .u8 0, .int .u8 0, .int .u8 0, .int .u8 0, .int .u8 0, .int .u8 0, .int .u8 0, .int .u8 0, .int .u8 0, .int .u8 0, .int .u8 0, .int .u8 0, .int .u8 0, .int .u8 0, .int .u8 0] 28)) := (Below.refl _ _).alloc (Nat.le_refl _) _
  have HR : Hid _ := root_nil none 0 dr hdr (w.alloc (Obj.cells #[.int .u8 0, .int .u8 0, .int .u8 0, .int .u8 0, .int .u8 0, .int .u8 0, .int .u8 0, .int .u8 0, .int .u8 0, .int .u8 0, .int .u8 0, .int .u8 0, .int .u8 0, .int .u8 0, .int .u8 0, .int .u8 0, .int .u8 0, .int .u8 0, .int .u8 0, .int .u8 0, .int .u8 0, .int .u8 0, .int .u8 0, .int .u8 0, .int .u8 0, .int .u8 0, .int .u8 0, .int .u8 0, .int .u8 0, .int .u8 0, .int .u8 0, .int .u8 0] 28)) (hK.below b1 hK.lt)
  have g1 := (h.alloc (Obj.cells #[.int .u8 0, .int .u8 0, .int .u8 0, .int .u8 0, .int .u8 0, .int .u8 0, .int .u8 0, .int .u8 0, .int .u8 0, .int .u8 0, .int .u8 0, .int .u8 0, .int .u8 0, .int .u8 0, .int .u8 0, .int .u8 0, .int .u8 0, .int .u8 0, .int .u8 0, .int .u8 0, .int .u8 0, .int .u8 0, .int .u8 0, .int .u8 0, .int .u8 0, .int .u8 0, .int .u8 0, .int .u8 0, .int .u8 0, .int .u8 0, .int .u8 0, .int .u8 0] 28)).cell 1 _ rfl
  have HB : Hid (Below w.heap.size w (w.alloc (Obj.cells #[.int .u8 0, .int .u8 0, .int .u8 0, .int .u8 0, .int .u8 0, .int .u8 0, .int .u8 0, .int .u8 0, .int .u8 0, .int .u8 0, .int .u8 0, .int .u8 0, .int .u8 0, .int .u8 0, .int .u8 0, .int .u8 0, .int .u8 0, .int .u8 0, .int .u8 0, .int .u8 0, .int .u8 0, .int .u8 0, .int .u8 0, .int .u8 0, .int .u8 0, .int .u8 0, .int .u8 0, .int .u8 0, .int .u8 0, .int .u8 0, .int .u8 0, .int .u8 0] 28))) := b1
  clear h hK hdr b1
  go_enter Tryd.func7, Tryd.ntmps7
  go_wp2_with fail
  refine Calls.mono HR.out ?_
  rintro e W ⟨rfl, hB⟩
  have r2 : Row W w.heap.size (vB (List.replicate 32 0#8)) 28 := Row.below (Row.new' rfl rfl) hB (by simp)
  have hb : Below w.heap.size w W := HB.out.trans (hB.mono HB.out.size)
  clear HR hB
  go_wp2_with (refine wpList_store_mid rfl 28 (.tmp 2) (.tmp 17) rfl w.heap.size 0 (vB dr).toArray rfl rfl (Row.there r2 0 _ (by simp [vB_length, HDRL.out])) (dl_info' HDRL.out) (all_oneCell_toArray (vB_one dr)) ?_; simp only [Act.put])
  have nf := r2.over (vs := vB dr) (by rw [vB_length, HDRL.out]; rfl)
  have nB := below_setCells hb (b := w.heap.size) (o := 0) (Nat.le_refl _) (vB dr)
  exact bodyPost_ret (results_row Tryd.results7 _ _ w.heap.size 28 (vB dr) rfl nf Tryd.underlying28 info_dig (by rw [vB_length, HDRL.out])) rfl ⟨rfl, nB⟩
theorem row_tl {w : World} {b c : Nat} {cs ds : List Value} (h : Row w b cs tL) (k : Row w c ds 28) : b ≠ c := fun e => by
  subst e
  have := h.symm.trans k
  simp only [Option.some.injEq, Obj.cells.injEq] at this
  exact absurd this.2.1 (by decide)
theorem run_load_sb (w : World) (b f : Nat) (v : Value) (h : w.cell? ⟨b, f, none⟩ = some v) : (loadVar 38 ⟨b, f, none⟩).run Tryd.prog w = .ok v w := by
  simp [loadVar, isAgg, run_underlying Tryd.underlying38, h]
theorem bsz {B : Nat} {W1 V : World} (hB : B = W1.heap.size) (h : Below B W1 V) : B ≤ V.heap.size := by rw [hB]; exact h.size
theorem bst {B : Nat} {W1 V X : World} (hB : B = W1.heap.size) (h : Below B W1 V) (k : Below V.heap.size V X) : Below B W1 X := h.trans (k.mono (bsz hB h))
theorem tab64 {B : Nat} {W1 V : World} (h : TabAt 1 Lib.deBruijn64tab W1) (k : Below B W1 V) (hB : 1 < B) : TabAt 1 Lib.deBruijn64tab V := fun j hj => (k.cell (p := ⟨1, j, none⟩) hB).trans (h j hj)
/-- A leaf of the list that came in. -/
theorem leaf_at {B : Nat} {W1 : World} {b o : Nat} {ps : List (List (BitVec 8))} (hB : B = W1.heap.size) (h : LsAt W1 b o ps) (i : Nat) (hi : i < ps.length) : ∃ lv, ∀ V, Below B W1 V → V.cell? ⟨b, o + i, none⟩ = some lv ∧ SlAt V lv (ps.getD i []) := by
  subst hB
  obtain ⟨vs, h1, h2, h3⟩ := h
  refine ⟨vs.getD i undef, fun V k => ⟨?_, (h3 i hi).below k (Nat.le_refl _)⟩⟩
  have hc := h2 i (vs.getD i undef) (by rw [List.getD_eq_getElem?_getD, List.getElem?_eq_getElem (by omega)]; rfl)
  exact (k.cell (p := ⟨b, o + i, none⟩) (World.block_lt_of_cell? W1 _ hc)).trans hc

set_option maxRecDepth 100000 in
set_option maxHeartbeats 8000000 in
theorem prv_walk (ps0 : List (List (BitVec 8))) (N : Nat) (hN : ps0.length = N) (A : Option Addr) (cap : Nat) (hc : N ≤ cap) (fr0 at0 : Int) (hf1 : -9223372036854775808 ≤ fr0) (hf2 : fr0 ≤ 9223372036854775807) (ha1 : -9223372036854775808 ≤ at0) (ha2 : at0 ≤ 9223372036854775807)
    (hls : ∀ j, j < ps0.length → (ps0.getD j []).length < 1152921504606846975) (w : World) (hK : Tab w 2) (h64 : TabAt 1 Lib.deBruijn64tab w) (hv : Lw w A ps0) :
    Calls Tryd.prog 3 #[.slice A N cap, .int .i64 fr0, .int .i64 at0] w fun e w' => e = .returned (.bool true) ∧ Below w.heap.size w w' := by
  have HAW : Hid _ := awake_any w hK
  obtain ⟨ps, hps⟩ : ∃ ps, ps = ps0.take 260 := ⟨_, rfl⟩
  obtain ⟨n, hn⟩ : ∃ n, n = ps.length := ⟨_, rfl⟩
  have hn260 : n ≤ 260 := by rw [hn, hps, List.length_take]; omega
  have hncap : n ≤ cap := by rw [hn, hps, List.length_take]; omega
  have hlp : ∀ j, j < ps.length → (ps.getD j []).length < 1152921504606846975 := fun j hj => by
    rw [hps, List.length_take] at hj
    have e2 : (ps0.take 260).getD j [] = ps0.getD j [] := by simp [List.getD_eq_getElem?_getD, show j < 260 by omega]
    rw [hps, e2]; exact hls j (by omega)
  have HLP : Hid (∀ j, j < ps.length → (ps.getD j []).length < 1152921504606846975) := hlp
  have HN : Hid (n = ps.length) := hn
  have HK0 : Hid (Tab w 2) := hK
  have H640 : Hid (TabAt 1 Lib.deBruijn64tab w) := h64
  have HV0 : Hid (Lw w A ps0) := hv
  have HSM : Hid (∀ W, Lw W A ps0 → Calls Tryd.prog 5 #[.slice A N cap, .int .i64 260] W fun e w' => e = .returned (.slice A n cap) ∧ w' = W) := fun W hW => by
    have q := some260 ps0 N hN A cap hc W hW
    rw [← hps, ← hn] at q; exact q
  have HPS : Hid (ps = ps0.take 260) := hps
  have h64b : 1 < w.heap.size := by
    have q := h64 0 (by decide)
    exact World.block_lt_of_cell? w ⟨1, 0, none⟩ q
  have hKb : 2 < w.heap.size := hK.lt
  clear hps hn hlp hls hK h64 hv hN hc
  go_enter Tryd.func3, Tryd.ntmps3
  go_wp2_with fail
  refine Calls.mono HAW.out ?_
  rintro e W1 ⟨rfl, hB1⟩
  have HB1 : Hid (Below w.heap.size w W1) := hB1
  have HSW : Hid _ := HSM.out W1 (HV0.out.below hB1)
  have HVL : Hid (Lw W1 A ps) := by show Lw _ _ _; rw [HPS.out]; exact (HV0.out.below hB1).take 260
  have HK1 : Hid (Tab W1 2) := HK0.out.below hB1 hKb
  have H641 : Hid (TabAt 1 Lib.deBruijn64tab W1) := tab64 H640.out hB1 h64b
  have HNW : Hid _ := lnew_any W1
  obtain ⟨B, hBe⟩ : ∃ B, B = W1.heap.size := ⟨_, rfl⟩
  have HBE : Hid (B = W1.heap.size) := hBe
  have hcb : 2 < B := by rw [hBe]; exact Nat.lt_of_lt_of_le hKb hB1.size
  have hdb : 1 < B := by rw [hBe]; exact Nat.lt_of_lt_of_le h64b hB1.size
  clear hB1 HAW HSM HV0 HK0 H640 hKb h64b hBe
  go_wp2_with (go_at_call 5; refine Calls.mono HSW.out ?_; rintro e Wz ⟨rfl, hqq⟩; obtain rfl := hqq.symm)
  refine Calls.mono HNW.out ?_
  rintro e W2 ⟨rfl, hLg, hB2⟩
  have HL2 : Hid (Lg W2 W1.heap.size 0 (.slice none 0 0) []) := hLg
  have HB2 : Hid (Below W1.heap.size W1 W2) := hB2
  obtain ⟨d0, hd0⟩ : ∃ d0, d0 = dig [] := ⟨_, rfl⟩
  have HR2 : Hid _ := lroot_none W1.heap.size 0 d0 hd0 W2 (HK1.out.below hB2 HK1.out.lt) hLg.row
  have HD0 : Hid (d0.length = 32) := by show _ = _; rw [hd0]; exact dig_length _
  have HDE : Hid (d0 = dig []) := hd0
  clear hLg hB2 HNW HSW hd0
  go_wp2_with fail
  refine Calls.mono HR2.out ?_
  rintro e W3 ⟨rfl, hB3⟩
  obtain ⟨X4, hX4, rX4, bX4⟩ := laid_d W3 d0 HD0.out
  have HX4 : Hid (X4 = _) := hX4
  have HL4 : Hid (Lg X4 W1.heap.size 0 (.slice none 0 0) []) := (HL2.out.be hB3).be bX4
  have HB4 : Hid (Below W1.heap.size W1 X4) := bst rfl (bst rfl HB2.out hB3) bX4
  have RX4 : Hid (Row X4 W3.heap.size (vB d0) 28) := rX4
  have bX5 : Below X4.heap.size X4 (X4.alloc (.cells (vB d0).toArray 28)) := (Below.refl _ _).alloc (Nat.le_refl _) _
  have RX5 : Hid (Row (X4.alloc (.cells (vB d0).toArray 28)) X4.heap.size (vB d0) 28) := Row.new' rfl rfl
  have HL5 : Hid (Lg (X4.alloc (.cells (vB d0).toArray 28)) W1.heap.size 0 (.slice none 0 0) []) := HL4.out.be bX5
  have HBX : Hid (Below W1.heap.size W1 X4) := HB4.out
  have HB5 : Hid (Below W1.heap.size W1 (X4.alloc (.cells (vB d0).toArray 28))) := bst rfl HB4.out bX5
  obtain ⟨m, hm⟩ : ∃ m : Nat, pk fr0 ((n : Int) + 1) = (m : Int) := ⟨(pk fr0 ((n : Int) + 1)).toNat, by have := pk_range fr0 ((n : Int) + 1) (by omega); omega⟩
  have hmn : m ≤ n := by have := pk_range fr0 ((n : Int) + 1) (by omega); omega
  have hpk := fun W => pick_any fr0 ((n : Int) + 1) (by omega) hf1 hf2 (by omega) W
  rw [hm] at hpk
  have HPK : Hid (∀ W, Calls Tryd.prog 8 #[.int .i64 fr0, .int .i64 ((n : Int) + 1)] W fun e w' => e = .returned (.int .i64 (m : Int)) ∧ w' = W) := hpk
  have HNW2 : Hid _ := lnew_any (X4.alloc (.cells (vB d0).toArray 28))
  clear hX4 hm hpk hB3 rX4 bX4 bX5 HR2 HL2 HB2 HL4 HB4 hf1 hf2
  go_wp2_with (first
    | (refine wpList_store_mid rfl 28 (.tmp 10) (.tmp 42) rfl W3.heap.size 0 (vB d0).toArray rfl rfl (Row.there (Row.new' (cs := (vB (List.replicate 32 0#8))) rfl rfl) 0 _ (by simp [vB_length, HD0.out])) (dl_info' HD0.out) (all_oneCell_toArray (vB_one d0)) ?_; simp only [Act.put]; change wpList _ _ _ _ _ (World.setCells (World.alloc W3 (Obj.cells #[.int .u8 0, .int .u8 0, .int .u8 0, .int .u8 0, .int .u8 0, .int .u8 0, .int .u8 0, .int .u8 0, .int .u8 0, .int .u8 0, .int .u8 0, .int .u8 0, .int .u8 0, .int .u8 0, .int .u8 0, .int .u8 0, .int .u8 0, .int .u8 0, .int .u8 0, .int .u8 0, .int .u8 0, .int .u8 0, .int .u8 0, .int .u8 0, .int .u8 0, .int .u8 0, .int .u8 0, .int .u8 0, .int .u8 0, .int .u8 0, .int .u8 0, .int .u8 0] 28)) W3.heap.size 0 (vB d0)); rw [← HX4.out])
    | (refine wpList_load_w rfl 28 (.tmp 10) rfl W3.heap.size 0 rfl (vB d0) _ (Row.all RX4.out) Tryd.underlying28 rfl (dl_info HD0.out) ?_; simp only [Act.put, List.setIfInBounds_toArray, List.set_cons_zero, List.set_cons_succ])
    | (refine wpList_build_dd rfl (.tmp 43) rfl d0 HD0.out rfl ?_; simp only [Act.put, List.setIfInBounds_toArray, List.set_cons_zero, List.set_cons_succ])
    | (go_at_call 8; refine Calls.mono (HPK.out _) ?_; rintro e Wz ⟨rfl, hqq⟩; obtain rfl := hqq.symm))
  refine Calls.mono HNW2.out ?_
  rintro e W6 ⟨rfl, hLu, hB6⟩
  have hPV : Pv B ps W6 W1.heap.size (.slice none 0 0) 0 (.slice (some ⟨X4.heap.size, 0, none⟩) 1 1) 1 (X4.alloc (.cells (vB d0).toArray 28)).heap.size (.slice none 0 0) 0 [] := by
    have hBs := HBE.out
    have h1 := HB5.out.size
    have hX4s : W1.heap.size ≤ X4.heap.size := by have := HBX.out.size; exact this
    have hr : Ow (X4.alloc (.cells (vB d0).toArray 28)) (.slice (some ⟨X4.heap.size, 0, none⟩) 1 1) 1 (vB (rs ps 1).flatten) := by
      have e0 : (rs ps 1).flatten = d0 := by
        rw [HDE.out]; simp [rs]; exact rt_nil [] rfl
      rw [e0]
      exact ow_of (one_owns HD0.out (Nat.zero_le _))
    have hf : ∀ {q : Prop} {v : Value} (g : Nat), (Value.slice none 0 0).ownBlock = some g → q := fun g e => by simp [Value.ownBlock] at e
    refine ⟨?_, hr.be hB6, hLu, (fun g e => by simp [Value.ownBlock] at e), (fun g e => by simp only [Value.ownBlock, Option.some.injEq] at e; omega), (fun g e => by simp [Value.ownBlock] at e), by omega, by omega, (fun g e => by simp [Value.ownBlock] at e), (fun g e => by simp [Value.ownBlock] at e), (fun g e e2 => by simp [Value.ownBlock] at e2), ?_⟩
    · have e1 : fi ps 0 = [] := fr_zero 0 _
      rw [e1]
      exact HL5.out.be hB6
    · have := HL5.out.row.lt
      omega
  have hBW6 : Below B W1 W6 := by rw [HBE.out]; exact bst rfl HB5.out hB6
  have HPV0 : Hid (Pv B ps W6 W1.heap.size (.slice none 0 0) 0 (.slice (some ⟨X4.heap.size, 0, none⟩) 1 1) 1 (X4.alloc (.cells (vB d0).toArray 28)).heap.size (.slice none 0 0) 0 []) := hPV
  have HBW6 : Hid (Below B W1 W6) := hBW6
  clear hPV hBW6 hB6 hLu HNW2 HPK HL5 HB5 RX4 RX5 HBX
  generalize (X4.alloc (.cells (vB d0).toArray 28)).heap.size = Pu0 at *
  generalize X4.heap.size = r0 at *
  obtain ⟨P, hPe⟩ : ∃ P, P = W1.heap.size := ⟨_, rfl⟩
  rw [← hPe] at HPV0
  rw [← hPe]
  clear hPe
  go_wp2_with fail
  go_loopw [11, 13, 14] (fun a11 a13 a14 wr => ∃ (i : Nat) (vt : Value) (Ar : Option Addr) (cr : Nat) (Pu : Nat) (vu : Value) (mu : Nat) (Fu : List (List (BitVec 8))), i ≤ n ∧ a14 = .int .i64 (i : Int) ∧ a11 = .slice Ar (i + 1) cr ∧ a13 = .pointer (some ⟨Pu, 0, none⟩) ∧ Pv B ps wr P vt i (.slice Ar (i + 1) cr) (i + 1) Pu vu mu Fu ∧ (m < i → mu = i ∧ Fu = fi ps i) ∧ Below B W1 wr) (fun _ _ a14 _ => n - (intOf a14).toNat)
  case atStart => exact ⟨0, .slice none 0 0, some ⟨r0, 0, none⟩, 1, Pu0, .slice none 0 0, 0, [], Nat.zero_le _, rfl, rfl, rfl, HPV0.out, (fun h => by omega), HBW6.out⟩
  case round =>
    clear HPV0 HBW6
    obtain ⟨i, vt, Ar, cr, Pu, vu, mu, Fu, hi, rfl, rfl, rfl, hPV, hmu, hBr⟩ := hrel
    by_cases hlt : i < n
    · obtain ⟨b, o, hA, hLS⟩ : ∃ b o, A = some ⟨b, o, none⟩ ∧ LsAt W1 b o ps := by
        rcases HVL.out with h | h
        · have := HN.out; rw [h] at this; simp at this; omega
        · exact h
      subst hA
      obtain ⟨lv, hlv⟩ := leaf_at HBE.out hLS i (by rw [← HN.out]; exact hlt)
      have HLV : Hid (∀ V, Below B W1 V → V.cell? ⟨b, o + i, none⟩ = some lv ∧ SlAt V lv (ps.getD i [])) := hlv
      have HLS : Hid (LsAt W1 b o ps) := hLS
      have hips : i < ps.length := by rw [← HN.out]; exact hlt
      have hps260 : ps.length ≤ 260 := by rw [← HN.out]; exact hn260
      obtain ⟨dr, hdr⟩ : ∃ dr, dr = rt (ps.take (i + 1)) := ⟨_, rfl⟩
      have HDR : Hid (dr = rt (ps.take (i + 1))) := hdr
      have HDL : Hid (dr.length = 32) := by show _ = _; rw [hdr]; exact rt_length _
      have HLT : Hid (i < n) := hlt
      have HIC : Hid (i + 1 ≤ cap) := by show _ ≤ _; omega
      have HKK : Hid ((i + 1 + 1) * 32 ≤ 140737488355328) := by show _ ≤ _; omega
      have HADD : Hid (∀ (Q : Nat) (vq : Value) (V : World), B ≤ Q → Fresh B vq → Below B W1 V → Lg V Q i vq (fi ps i) → Calls Tryd.prog 12 #[.pointer (some ⟨Q, 0, none⟩), lv] V fun e w' => e = .returned (.int .i64 (i : Int)) ∧ ∃ v', Lg w' Q (i + 1) v' (fi ps (i + 1)) ∧ (v'.ownBlock = vq.ownBlock ∨ ∃ k, v'.ownBlock = some k ∧ V.heap.size ≤ k) ∧ Gro (fun k => k = Q ∨ vq.ownBlock = some k) V w') := fun Q vq V hQ hq hV hl => by
        have q := ladd_any B Q i vq (fi ps i) (fi_len ps i (by omega)).2 (by omega) (by rw [(fi_len ps i (by omega)).1]; exact t1_le i) hQ hq hcb hdb lv (ps.getD i []) (dig ([0#8] ++ ps.getD i [])) rfl (HLP.out i hips) V (bsz HBE.out hV) (HK1.out.below hV hcb) (tab64 H641.out hV hdb) (hlv V hV).2 hl
        rw [fi_next ps i hips hps260] at q
        exact q
      have HROOT : Hid (∀ (Q : Nat) (vq : Value) (V : World), Below B W1 V → Lg V Q (i + 1) vq (fi ps (i + 1)) → Calls Tryd.prog 7 #[.pointer (some ⟨Q, 0, none⟩)] V fun e w' => e = .returned (.agg (vB dr).toArray) ∧ Below V.heap.size V w') := fun Q vq V hV hl => by
        obtain ⟨G, z, hGz, hfold⟩ := fi_root ps i hips hps260
        have hlen := (fi_len ps (i + 1) (by omega)).2
        rw [hGz] at hl hlen
        exact lroot_some Q (i + 1) vq G z G.length rfl (by simp at hlen; omega) dr (by rw [hdr, hfold]) V (HK1.out.below hV hcb) hl
      have HALL : Hid (∀ V, Below B W1 V → Calls Tryd.prog 13 #[.slice (some ⟨b, o, none⟩) (i + 1) cap] V fun e w' => e = .returned (.agg (vB dr).toArray) ∧ Below V.heap.size V w') := fun V hV => by
        have hV' : Below W1.heap.size W1 V := by rw [← HBE.out]; exact hV
        exact root_any (i + 1) (ps.take (i + 1)) (by rw [List.length_take]; omega) (by omega) (fun j hj => by
          rw [List.length_take] at hj
          have e2 : (ps.take (i + 1)).getD j [] = ps.getD j [] := by simp [List.getD_eq_getElem?_getD, show j < i + 1 by omega]
          rw [e2]; exact HLP.out j (by omega)) dr hdr b o cap HIC.out V (HK1.out.below hV hcb) ((hLS.below hV').take _)
      clear hlv hLS hips hps260 hdr
      rcases Nat.lt_trichotomy i m with hc | hc | hc
      · have HPV : Hid (Pv B ps wr P vt i (.slice Ar (i + 1) cr) (i + 1) Pu vu mu Fu) := hPV
        have HBR : Hid (Below B W1 wr) := hBr
        have ci : ¬ ((i : Int) = (m : Int)) := by omega
        have cg : ¬ ((m : Int) ≤ (i : Int)) := by omega
        clear hPV hmu hBr
        have gl := (HLV.out wr HBR.out).1
        have HA1 : Hid _ := HADD.out P vt wr HPV.out.pt HPV.out.ft HBR.out HPV.out.t
        go_wp2_with (refine wpList_index_s rfl 22 38 (.tmp 78) (.tmp 79) rfl b o n cap i 1 rfl rfl HLT.out Tryd.underlying22 info_slb ?_; simp only [Act.put, List.setIfInBounds_toArray, List.set_cons_zero, List.set_cons_succ])
        refine Calls.mono HA1.out ?_
        rintro e V3 ⟨rfl, vt2, hl3, ho3, hG3⟩
        have HPV3 : Hid (Pv B ps V3 P vt2 (i + 1) (.slice Ar (i + 1) cr) (i + 1) Pu vu mu Fu) := HPV.out.addT hG3 hl3 ho3 (bsz HBE.out HBR.out)
        have HB3 : Hid (Below B W1 V3) := gro_b HBR.out (bsz HBE.out HBR.out) hG3 (fun g q => by rcases q with q | q; (rw [q]; exact HPV.out.pt); exact HPV.out.ft g q)
        have HRT : Hid _ := HROOT.out P vt2 V3 HB3.out HPV3.out.t
        clear hl3 ho3 hG3 HA1 gl HPV HBR
        go_wp2_with fail
        refine Calls.mono HRT.out ?_
        rintro e V4 ⟨rfl, hB4⟩
        obtain ⟨X5, hX5, rX5, bX5⟩ := laid_d V4 dr HDL.out
        have HX5 : Hid (X5 = _) := hX5
        have HPV4 : Hid (Pv B ps V4 P vt2 (i + 1) (.slice Ar (i + 1) cr) (i + 1) Pu vu mu Fu) := HPV3.out.be hB4
        have HPV5 : Hid (Pv B ps X5 P vt2 (i + 1) (.slice Ar (i + 1) cr) (i + 1) Pu vu mu Fu) := HPV4.out.be bX5
        have HB5 : Hid (Below B W1 X5) := bst HBE.out (bst HBE.out HB3.out hB4) bX5
        have HALL5 : Hid _ := HALL.out X5 HB5.out
        have RX5 : Hid (Row X5 V4.heap.size (vB dr) 28) := rX5
        have HOr : Hid (∀ g, (Value.slice Ar (i + 1) cr).ownBlock = some g → g < V4.heap.size) := HPV4.out.r.lt
        have HOu : Hid (∀ g, (vu).ownBlock = some g → g < V4.heap.size) := HPV4.out.u.own.lt
        clear hX5 rX5 bX5 hB4 HPV3 HPV4 HB3 HRT
        go_wp2_with (first
          | (refine wpList_store_mid rfl 28 (.tmp 18) (.tmp 84) rfl V4.heap.size 0 (vB dr).toArray rfl rfl (Row.there (Row.new' (cs := (vB (List.replicate 32 0#8))) rfl rfl) 0 _ (by simp [vB_length, HDL.out])) (dl_info' HDL.out) (all_oneCell_toArray (vB_one dr)) ?_; simp only [Act.put]; change wpList _ _ _ _ _ (World.setCells (World.alloc V4 (Obj.cells #[.int .u8 0, .int .u8 0, .int .u8 0, .int .u8 0, .int .u8 0, .int .u8 0, .int .u8 0, .int .u8 0, .int .u8 0, .int .u8 0, .int .u8 0, .int .u8 0, .int .u8 0, .int .u8 0, .int .u8 0, .int .u8 0, .int .u8 0, .int .u8 0, .int .u8 0, .int .u8 0, .int .u8 0, .int .u8 0, .int .u8 0, .int .u8 0, .int .u8 0, .int .u8 0, .int .u8 0, .int .u8 0, .int .u8 0, .int .u8 0, .int .u8 0, .int .u8 0] 28)) V4.heap.size 0 (vB dr)); rw [← HX5.out])
          | (refine wpList_slice_to rfl 22 38 (.tmp 85) (.tmp 87) b o n cap (i + 1) rfl rfl rfl HIC.out Tryd.underlying22 info_slb ?_; simp only [Act.put, List.setIfInBounds_toArray, List.set_cons_zero, List.set_cons_succ]))
        refine Calls.mono HALL5.out ?_
        rintro e V6 ⟨rfl, hB6⟩
        obtain ⟨X7, hX7, rX7, bX7⟩ := laid_d V6 dr HDL.out
        have HX7 : Hid (X7 = _) := hX7
        have hB7 : Below X5.heap.size X5 X7 := hB6.trans (bX7.mono hB6.size)
        have HPV7 : Hid (Pv B ps X7 P vt2 (i + 1) (.slice Ar (i + 1) cr) (i + 1) Pu vu mu Fu) := HPV5.out.be hB7
        have HB7 : Hid (Below B W1 X7) := bst HBE.out HB5.out hB7
        have RX18 : Hid (Row X7 V4.heap.size (vB dr) 28) := Row.below RX5.out hB7 RX5.out.lt
        have RX19 : Hid (Row X7 V6.heap.size (vB dr) 28) := rX7
        have bX8 : Below X7.heap.size X7 (X7.alloc (.cells (vB dr).toArray 28)) := (Below.refl _ _).alloc (Nat.le_refl _) _
        have HPV8 : Hid (Pv B ps (X7.alloc (.cells (vB dr).toArray 28)) P vt2 (i + 1) (.slice Ar (i + 1) cr) (i + 1) Pu vu mu Fu) := HPV7.out.be bX8
        have RX8 : Hid (Row (X7.alloc (.cells (vB dr).toArray 28)) X7.heap.size (vB dr) 28) := Row.new' rfl rfl
        have R18 : Hid (Row (X7.alloc (.cells (vB dr).toArray 28)) V4.heap.size (vB dr) 28) := Row.below RX18.out bX8 RX18.out.lt
        have HB8 : Hid (Below B W1 (X7.alloc (.cells (vB dr).toArray 28))) := bst HBE.out HB7.out bX8
        clear hX7 rX7 bX7 hB6 hB7 bX8 HPV5 HB5 HALL5 RX5 HPV7 HB7
        go_wp2_with (first
          | (refine wpList_store_mid rfl 28 (.tmp 19) (.tmp 89) rfl V6.heap.size 0 (vB dr).toArray rfl rfl (Row.there (Row.new' (cs := (vB (List.replicate 32 0#8))) rfl rfl) 0 _ (by simp [vB_length, HDL.out])) (dl_info' HDL.out) (all_oneCell_toArray (vB_one dr)) ?_; simp only [Act.put]; change wpList _ _ _ _ _ (World.setCells (World.alloc V6 (Obj.cells #[.int .u8 0, .int .u8 0, .int .u8 0, .int .u8 0, .int .u8 0, .int .u8 0, .int .u8 0, .int .u8 0, .int .u8 0, .int .u8 0, .int .u8 0, .int .u8 0, .int .u8 0, .int .u8 0, .int .u8 0, .int .u8 0, .int .u8 0, .int .u8 0, .int .u8 0, .int .u8 0, .int .u8 0, .int .u8 0, .int .u8 0, .int .u8 0, .int .u8 0, .int .u8 0, .int .u8 0, .int .u8 0, .int .u8 0, .int .u8 0, .int .u8 0, .int .u8 0] 28)) V6.heap.size 0 (vB dr)); rw [← HX7.out])
          | (refine wpList_load_w rfl 28 (.tmp 18) rfl V4.heap.size 0 rfl (vB dr) _ (Row.all RX18.out) Tryd.underlying28 rfl (dl_info HDL.out) ?_; simp only [Act.put, List.setIfInBounds_toArray, List.set_cons_zero, List.set_cons_succ])
          | (refine wpList_load_w rfl 28 (.tmp 19) rfl V6.heap.size 0 rfl (vB dr) _ (Row.all RX19.out) Tryd.underlying28 rfl (dl_info HDL.out) ?_; simp only [Act.put, List.setIfInBounds_toArray, List.set_cons_zero, List.set_cons_succ])
          | (refine wpList_neq_w rfl 28 (.tmp 94) (.tmp 95) _ rfl 5 32 dr rfl rfl Tryd.underlying28 Tryd.underlying5 info_u8 HDL.out guard_dig ?_; simp only [Act.put, List.setIfInBounds_toArray, List.set_cons_zero, List.set_cons_succ])
          | (refine wpList_build_dd rfl (.tmp 99) rfl dr HDL.out rfl ?_; simp only [Act.put, List.setIfInBounds_toArray, List.set_cons_zero, List.set_cons_succ])
          | (refine wpList_append_still rfl (.tmp 98) (.tmp 100) rfl X7.heap.size (i + 1) (.slice Ar (i + 1) cr) _ dr HDL.out rfl HPV8.out.r rfl RX8.out HKK.out ?_; intro v9 V9 q1 q2 q3 _; obtain ⟨A9, c9, e9, _⟩ := q1.form; subst e9; have HPV9 : Hid (Pv B ps V9 P vt2 (i + 1) (.slice A9 (i + 1 + 1) c9) (i + 1 + 1) Pu vu mu Fu) := HPV8.out.addR (by rw [← HDR.out]; exact q1) q2 q3 (bsz HBE.out HB8.out); have HB9 : Hid (Below B W1 V9) := gro_b HB8.out (bsz HBE.out HB8.out) ((Gro.refl (fun g => (Value.slice Ar (i + 1) cr).ownBlock = some g) _).grown q2 (fun g e => .inl e)) HPV8.out.fr; have R9 : Hid (Row V9 V4.heap.size (vB dr) 28) := (q2.block _ R18.out.lt (fun e => Nat.lt_irrefl _ (HOr.out _ e.symm))).trans R18.out; clear q1 q2 q3; simp only [Act.put, List.setIfInBounds_toArray, List.set_cons_zero, List.set_cons_succ]))
        exact ⟨⟨i + 1, vt2, A9, c9, Pu, vu, mu, Fu, HLT.out, by go_num, rfl, rfl, HPV9.out, (fun h => by omega), HB9.out⟩, by simp [intOf]; omega⟩
      · have HPV : Hid (Pv B ps wr P vt i (.slice Ar (i + 1) cr) (i + 1) Pu vu mu Fu) := hPV
        have HBR : Hid (Below B W1 wr) := hBr
        subst hc
        have cg : (i : Int) ≤ (i : Int) := Int.le_refl _
        have HSZ : Hid _ := lsize_any P i vt wr hPV.t.row
        have HFRT : Hid _ := lfront_any P i vt (fi ps i) (fi_len ps i (by omega)).2 wr hPV.t
        clear hPV hmu hBr
        go_wp2_with (go_at_call 10; refine Calls.mono HSZ.out ?_; rintro e Wz ⟨rfl, hqq⟩; obtain rfl := hqq.symm)
        refine Calls.mono HFRT.out ?_
        rintro e V1 ⟨v1, rfl, hO1, hF1, hB1⟩
        obtain ⟨A9, c9, e9, _⟩ := hO1.form
        subst e9
        have HB1x : Hid (Below B W1 V1) := bst HBE.out HBR.out hB1
        have HPV1 : Hid (Pv B ps V1 P vt i (.slice Ar (i + 1) cr) (i + 1) Pu vu mu Fu) := HPV.out.be hB1
        have HRES : Hid _ := lresume_any i (by omega) _ (fi ps i) (fi_len ps i (by omega)).1 (fi_dl ps i) (fi_len ps i (by omega)).2 V1 hO1
        clear hO1 hF1 hB1 HFRT HSZ
        go_wp2_with fail
        refine Calls.mono HRES.out ?_
        rintro e V2 ⟨P2, v2, rfl, hL2, hP2, hF2, hB2⟩
        have HPV2 : Hid (Pv B ps V2 P vt i (.slice Ar (i + 1) cr) (i + 1) P2 v2 i (fi ps i)) := HPV1.out.new hB2 hL2 hP2 hF2 (bsz HBE.out HB1x.out)
        have HBR2 : Hid (Below B W1 V2) := bst HBE.out HB1x.out hB2
        clear hL2 hP2 hF2 hB2 HRES HPV1 HB1x HPV HBR
        have gl := (HLV.out V2 HBR2.out).1
        have HA1 : Hid _ := HADD.out P vt V2 HPV2.out.pt HPV2.out.ft HBR2.out HPV2.out.t
        go_wp2_with (refine wpList_index_s rfl 22 38 (.tmp 78) (.tmp 79) rfl b o n cap i 1 rfl rfl HLT.out Tryd.underlying22 info_slb ?_; simp only [Act.put, List.setIfInBounds_toArray, List.set_cons_zero, List.set_cons_succ])
        refine Calls.mono HA1.out ?_
        rintro e V3 ⟨rfl, vt2, hl3, ho3, hG3⟩
        have HPV3 : Hid (Pv B ps V3 P vt2 (i + 1) (.slice Ar (i + 1) cr) (i + 1) P2 v2 i (fi ps i)) := HPV2.out.addT hG3 hl3 ho3 (bsz HBE.out HBR2.out)
        have HB3 : Hid (Below B W1 V3) := gro_b HBR2.out (bsz HBE.out HBR2.out) hG3 (fun g q => by rcases q with q | q; (rw [q]; exact HPV2.out.pt); exact HPV2.out.ft g q)
        have HRT : Hid _ := HROOT.out P vt2 V3 HB3.out HPV3.out.t
        clear hl3 ho3 hG3 HA1 gl HPV2 HBR2
        go_wp2_with fail
        refine Calls.mono HRT.out ?_
        rintro e V4 ⟨rfl, hB4⟩
        obtain ⟨X5, hX5, rX5, bX5⟩ := laid_d V4 dr HDL.out
        have HX5 : Hid (X5 = _) := hX5
        have HPV4 : Hid (Pv B ps V4 P vt2 (i + 1) (.slice Ar (i + 1) cr) (i + 1) P2 v2 i (fi ps i)) := HPV3.out.be hB4
        have HPV5 : Hid (Pv B ps X5 P vt2 (i + 1) (.slice Ar (i + 1) cr) (i + 1) P2 v2 i (fi ps i)) := HPV4.out.be bX5
        have HB5 : Hid (Below B W1 X5) := bst HBE.out (bst HBE.out HB3.out hB4) bX5
        have HALL5 : Hid _ := HALL.out X5 HB5.out
        have RX5 : Hid (Row X5 V4.heap.size (vB dr) 28) := rX5
        have HOr : Hid (∀ g, (Value.slice Ar (i + 1) cr).ownBlock = some g → g < V4.heap.size) := HPV4.out.r.lt
        have HOu : Hid (∀ g, (v2).ownBlock = some g → g < V4.heap.size) := HPV4.out.u.own.lt
        clear hX5 rX5 bX5 hB4 HPV3 HPV4 HB3 HRT
        go_wp2_with (first
          | (refine wpList_store_mid rfl 28 (.tmp 18) (.tmp 84) rfl V4.heap.size 0 (vB dr).toArray rfl rfl (Row.there (Row.new' (cs := (vB (List.replicate 32 0#8))) rfl rfl) 0 _ (by simp [vB_length, HDL.out])) (dl_info' HDL.out) (all_oneCell_toArray (vB_one dr)) ?_; simp only [Act.put]; change wpList _ _ _ _ _ (World.setCells (World.alloc V4 (Obj.cells #[.int .u8 0, .int .u8 0, .int .u8 0, .int .u8 0, .int .u8 0, .int .u8 0, .int .u8 0, .int .u8 0, .int .u8 0, .int .u8 0, .int .u8 0, .int .u8 0, .int .u8 0, .int .u8 0, .int .u8 0, .int .u8 0, .int .u8 0, .int .u8 0, .int .u8 0, .int .u8 0, .int .u8 0, .int .u8 0, .int .u8 0, .int .u8 0, .int .u8 0, .int .u8 0, .int .u8 0, .int .u8 0, .int .u8 0, .int .u8 0, .int .u8 0, .int .u8 0] 28)) V4.heap.size 0 (vB dr)); rw [← HX5.out])
          | (refine wpList_slice_to rfl 22 38 (.tmp 85) (.tmp 87) b o n cap (i + 1) rfl rfl rfl HIC.out Tryd.underlying22 info_slb ?_; simp only [Act.put, List.setIfInBounds_toArray, List.set_cons_zero, List.set_cons_succ]))
        refine Calls.mono HALL5.out ?_
        rintro e V6 ⟨rfl, hB6⟩
        obtain ⟨X7, hX7, rX7, bX7⟩ := laid_d V6 dr HDL.out
        have HX7 : Hid (X7 = _) := hX7
        have hB7 : Below X5.heap.size X5 X7 := hB6.trans (bX7.mono hB6.size)
        have HPV7 : Hid (Pv B ps X7 P vt2 (i + 1) (.slice Ar (i + 1) cr) (i + 1) P2 v2 i (fi ps i)) := HPV5.out.be hB7
        have HB7 : Hid (Below B W1 X7) := bst HBE.out HB5.out hB7
        have RX18 : Hid (Row X7 V4.heap.size (vB dr) 28) := Row.below RX5.out hB7 RX5.out.lt
        have RX19 : Hid (Row X7 V6.heap.size (vB dr) 28) := rX7
        have bX8 : Below X7.heap.size X7 (X7.alloc (.cells (vB dr).toArray 28)) := (Below.refl _ _).alloc (Nat.le_refl _) _
        have HPV8 : Hid (Pv B ps (X7.alloc (.cells (vB dr).toArray 28)) P vt2 (i + 1) (.slice Ar (i + 1) cr) (i + 1) P2 v2 i (fi ps i)) := HPV7.out.be bX8
        have RX8 : Hid (Row (X7.alloc (.cells (vB dr).toArray 28)) X7.heap.size (vB dr) 28) := Row.new' rfl rfl
        have R18 : Hid (Row (X7.alloc (.cells (vB dr).toArray 28)) V4.heap.size (vB dr) 28) := Row.below RX18.out bX8 RX18.out.lt
        have HB8 : Hid (Below B W1 (X7.alloc (.cells (vB dr).toArray 28))) := bst HBE.out HB7.out bX8
        clear hX7 rX7 bX7 hB6 hB7 bX8 HPV5 HB5 HALL5 RX5 HPV7 HB7
        go_wp2_with (first
          | (refine wpList_store_mid rfl 28 (.tmp 19) (.tmp 89) rfl V6.heap.size 0 (vB dr).toArray rfl rfl (Row.there (Row.new' (cs := (vB (List.replicate 32 0#8))) rfl rfl) 0 _ (by simp [vB_length, HDL.out])) (dl_info' HDL.out) (all_oneCell_toArray (vB_one dr)) ?_; simp only [Act.put]; change wpList _ _ _ _ _ (World.setCells (World.alloc V6 (Obj.cells #[.int .u8 0, .int .u8 0, .int .u8 0, .int .u8 0, .int .u8 0, .int .u8 0, .int .u8 0, .int .u8 0, .int .u8 0, .int .u8 0, .int .u8 0, .int .u8 0, .int .u8 0, .int .u8 0, .int .u8 0, .int .u8 0, .int .u8 0, .int .u8 0, .int .u8 0, .int .u8 0, .int .u8 0, .int .u8 0, .int .u8 0, .int .u8 0, .int .u8 0, .int .u8 0, .int .u8 0, .int .u8 0, .int .u8 0, .int .u8 0, .int .u8 0, .int .u8 0] 28)) V6.heap.size 0 (vB dr)); rw [← HX7.out])
          | (refine wpList_load_w rfl 28 (.tmp 18) rfl V4.heap.size 0 rfl (vB dr) _ (Row.all RX18.out) Tryd.underlying28 rfl (dl_info HDL.out) ?_; simp only [Act.put, List.setIfInBounds_toArray, List.set_cons_zero, List.set_cons_succ])
          | (refine wpList_load_w rfl 28 (.tmp 19) rfl V6.heap.size 0 rfl (vB dr) _ (Row.all RX19.out) Tryd.underlying28 rfl (dl_info HDL.out) ?_; simp only [Act.put, List.setIfInBounds_toArray, List.set_cons_zero, List.set_cons_succ])
          | (refine wpList_neq_w rfl 28 (.tmp 94) (.tmp 95) _ rfl 5 32 dr rfl rfl Tryd.underlying28 Tryd.underlying5 info_u8 HDL.out guard_dig ?_; simp only [Act.put, List.setIfInBounds_toArray, List.set_cons_zero, List.set_cons_succ])
          | (refine wpList_build_dd rfl (.tmp 99) rfl dr HDL.out rfl ?_; simp only [Act.put, List.setIfInBounds_toArray, List.set_cons_zero, List.set_cons_succ])
          | (refine wpList_append_still rfl (.tmp 98) (.tmp 100) rfl X7.heap.size (i + 1) (.slice Ar (i + 1) cr) _ dr HDL.out rfl HPV8.out.r rfl RX8.out HKK.out ?_; intro v9 V9 q1 q2 q3 _; obtain ⟨A9, c9, e9, _⟩ := q1.form; subst e9; have HPV9 : Hid (Pv B ps V9 P vt2 (i + 1) (.slice A9 (i + 1 + 1) c9) (i + 1 + 1) P2 v2 i (fi ps i)) := HPV8.out.addR (by rw [← HDR.out]; exact q1) q2 q3 (bsz HBE.out HB8.out); have HB9 : Hid (Below B W1 V9) := gro_b HB8.out (bsz HBE.out HB8.out) ((Gro.refl (fun g => (Value.slice Ar (i + 1) cr).ownBlock = some g) _).grown q2 (fun g e => .inl e)) HPV8.out.fr; have R9 : Hid (Row V9 V4.heap.size (vB dr) 28) := (q2.block _ R18.out.lt (fun e => Nat.lt_irrefl _ (HOr.out _ e.symm))).trans R18.out; have gl := (HLV.out V9 HB9.out).1; have HA2 : Hid _ := HADD.out P2 v2 V9 HPV9.out.pu HPV9.out.fu HB9.out HPV9.out.u; clear q1 q2 q3; simp only [Act.put, List.setIfInBounds_toArray, List.set_cons_zero, List.set_cons_succ])
          | (refine wpList_index_s rfl 22 38 (.tmp 106) (.tmp 107) rfl b o n cap i 1 rfl rfl HLT.out Tryd.underlying22 info_slb ?_; simp only [Act.put, List.setIfInBounds_toArray, List.set_cons_zero, List.set_cons_succ]))
        refine Calls.mono HA2.out ?_
        rintro e V10 ⟨rfl, vu2, hl10, ho10, hG10⟩
        have HPV10 : Hid (Pv B ps V10 P vt2 (i + 1) (.slice A9 (i + 1 + 1) c9) (i + 1 + 1) P2 vu2 (i + 1) (fi ps (i + 1))) := HPV9.out.addU hG10 hl10 ho10 (bsz HBE.out HB9.out)
        have HB10 : Hid (Below B W1 V10) := gro_b HB9.out (bsz HBE.out HB9.out) hG10 (fun g q => by rcases q with q | q; (rw [q]; exact HPV9.out.pu); exact HPV9.out.fu g q)
        have R10 : Hid (Row V10 V4.heap.size (vB dr) 28) := (hG10.block _ R9.out.lt (fun q => by rcases q with q | q; exact row_tl HPV9.out.u.row R9.out q.symm; exact Nat.lt_irrefl _ (HOu.out _ q))).trans R9.out
        have HRT2 : Hid _ := HROOT.out P2 vu2 V10 HB10.out HPV10.out.u
        clear hl10 ho10 hG10 HA2 gl HPV9 HB9 R9 HPV8 HB8 R18 RX8 RX18 RX19
        go_wp2_with fail
        refine Calls.mono HRT2.out ?_
        rintro e V11 ⟨rfl, hB11⟩
        obtain ⟨X12, hX12, rX12, bX12⟩ := laid_d V11 dr HDL.out
        have HX12 : Hid (X12 = _) := hX12
        have hB12 : Below V10.heap.size V10 X12 := hB11.trans (bX12.mono hB11.size)
        have HPV12 : Hid (Pv B ps X12 P vt2 (i + 1) (.slice A9 (i + 1 + 1) c9) (i + 1 + 1) P2 vu2 (i + 1) (fi ps (i + 1))) := HPV10.out.be hB12
        have HB12 : Hid (Below B W1 X12) := bst HBE.out HB10.out hB12
        have R18b : Hid (Row X12 V4.heap.size (vB dr) 28) := Row.below R10.out hB12 R10.out.lt
        have R21 : Hid (Row X12 V11.heap.size (vB dr) 28) := rX12
        clear hX12 rX12 bX12 hB11 hB12 HPV10 HB10 R10 HRT2
        go_wp2_with (first
          | (refine wpList_store_mid rfl 28 (.tmp 21) (.tmp 112) rfl V11.heap.size 0 (vB dr).toArray rfl rfl (Row.there (Row.new' (cs := (vB (List.replicate 32 0#8))) rfl rfl) 0 _ (by simp [vB_length, HDL.out])) (dl_info' HDL.out) (all_oneCell_toArray (vB_one dr)) ?_; simp only [Act.put]; change wpList _ _ _ _ _ (World.setCells (World.alloc V11 (Obj.cells #[.int .u8 0, .int .u8 0, .int .u8 0, .int .u8 0, .int .u8 0, .int .u8 0, .int .u8 0, .int .u8 0, .int .u8 0, .int .u8 0, .int .u8 0, .int .u8 0, .int .u8 0, .int .u8 0, .int .u8 0, .int .u8 0, .int .u8 0, .int .u8 0, .int .u8 0, .int .u8 0, .int .u8 0, .int .u8 0, .int .u8 0, .int .u8 0, .int .u8 0, .int .u8 0, .int .u8 0, .int .u8 0, .int .u8 0, .int .u8 0, .int .u8 0, .int .u8 0] 28)) V11.heap.size 0 (vB dr)); rw [← HX12.out])
          | (refine wpList_load_w rfl 28 (.tmp 21) rfl V11.heap.size 0 rfl (vB dr) _ (Row.all R21.out) Tryd.underlying28 rfl (dl_info HDL.out) ?_; simp only [Act.put, List.setIfInBounds_toArray, List.set_cons_zero, List.set_cons_succ])
          | (refine wpList_load_w rfl 28 (.tmp 18) rfl V4.heap.size 0 rfl (vB dr) _ (Row.all R18b.out) Tryd.underlying28 rfl (dl_info HDL.out) ?_; simp only [Act.put, List.setIfInBounds_toArray, List.set_cons_zero, List.set_cons_succ])
          | (refine wpList_neq_w rfl 28 (.tmp 117) (.tmp 118) _ rfl 5 32 dr rfl rfl Tryd.underlying28 Tryd.underlying5 info_u8 HDL.out guard_dig ?_; simp only [Act.put, List.setIfInBounds_toArray, List.set_cons_zero, List.set_cons_succ]))
        exact ⟨⟨i + 1, vt2, A9, c9, P2, vu2, i + 1, fi ps (i + 1), HLT.out, by go_num, rfl, rfl, HPV12.out, (fun _ => ⟨rfl, rfl⟩), HB12.out⟩, by simp [intOf]; omega⟩
      · have HPV : Hid (Pv B ps wr P vt i (.slice Ar (i + 1) cr) (i + 1) Pu vu mu Fu) := hPV
        have HBR : Hid (Below B W1 wr) := hBr
        obtain ⟨hmu1, hmu2⟩ := hmu hc
        subst hmu2
        rw [hmu1] at HPV
        clear hPV hmu hBr hmu1
        have ci : ¬ ((i : Int) = (m : Int)) := by omega
        have cg : (m : Int) ≤ (i : Int) := by omega
        have gl := (HLV.out wr HBR.out).1
        have HA1 : Hid _ := HADD.out P vt wr HPV.out.pt HPV.out.ft HBR.out HPV.out.t
        go_wp2_with (refine wpList_index_s rfl 22 38 (.tmp 78) (.tmp 79) rfl b o n cap i 1 rfl rfl HLT.out Tryd.underlying22 info_slb ?_; simp only [Act.put, List.setIfInBounds_toArray, List.set_cons_zero, List.set_cons_succ])
        refine Calls.mono HA1.out ?_
        rintro e V3 ⟨rfl, vt2, hl3, ho3, hG3⟩
        have HPV3 : Hid (Pv B ps V3 P vt2 (i + 1) (.slice Ar (i + 1) cr) (i + 1) Pu vu i (fi ps i)) := HPV.out.addT hG3 hl3 ho3 (bsz HBE.out HBR.out)
        have HB3 : Hid (Below B W1 V3) := gro_b HBR.out (bsz HBE.out HBR.out) hG3 (fun g q => by rcases q with q | q; (rw [q]; exact HPV.out.pt); exact HPV.out.ft g q)
        have HRT : Hid _ := HROOT.out P vt2 V3 HB3.out HPV3.out.t
        clear hl3 ho3 hG3 HA1 gl HPV HBR
        go_wp2_with fail
        refine Calls.mono HRT.out ?_
        rintro e V4 ⟨rfl, hB4⟩
        obtain ⟨X5, hX5, rX5, bX5⟩ := laid_d V4 dr HDL.out
        have HX5 : Hid (X5 = _) := hX5
        have HPV4 : Hid (Pv B ps V4 P vt2 (i + 1) (.slice Ar (i + 1) cr) (i + 1) Pu vu i (fi ps i)) := HPV3.out.be hB4
        have HPV5 : Hid (Pv B ps X5 P vt2 (i + 1) (.slice Ar (i + 1) cr) (i + 1) Pu vu i (fi ps i)) := HPV4.out.be bX5
        have HB5 : Hid (Below B W1 X5) := bst HBE.out (bst HBE.out HB3.out hB4) bX5
        have HALL5 : Hid _ := HALL.out X5 HB5.out
        have RX5 : Hid (Row X5 V4.heap.size (vB dr) 28) := rX5
        have HOr : Hid (∀ g, (Value.slice Ar (i + 1) cr).ownBlock = some g → g < V4.heap.size) := HPV4.out.r.lt
        have HOu : Hid (∀ g, (vu).ownBlock = some g → g < V4.heap.size) := HPV4.out.u.own.lt
        clear hX5 rX5 bX5 hB4 HPV3 HPV4 HB3 HRT
        go_wp2_with (first
          | (refine wpList_store_mid rfl 28 (.tmp 18) (.tmp 84) rfl V4.heap.size 0 (vB dr).toArray rfl rfl (Row.there (Row.new' (cs := (vB (List.replicate 32 0#8))) rfl rfl) 0 _ (by simp [vB_length, HDL.out])) (dl_info' HDL.out) (all_oneCell_toArray (vB_one dr)) ?_; simp only [Act.put]; change wpList _ _ _ _ _ (World.setCells (World.alloc V4 (Obj.cells #[.int .u8 0, .int .u8 0, .int .u8 0, .int .u8 0, .int .u8 0, .int .u8 0, .int .u8 0, .int .u8 0, .int .u8 0, .int .u8 0, .int .u8 0, .int .u8 0, .int .u8 0, .int .u8 0, .int .u8 0, .int .u8 0, .int .u8 0, .int .u8 0, .int .u8 0, .int .u8 0, .int .u8 0, .int .u8 0, .int .u8 0, .int .u8 0, .int .u8 0, .int .u8 0, .int .u8 0, .int .u8 0, .int .u8 0, .int .u8 0, .int .u8 0, .int .u8 0] 28)) V4.heap.size 0 (vB dr)); rw [← HX5.out])
          | (refine wpList_slice_to rfl 22 38 (.tmp 85) (.tmp 87) b o n cap (i + 1) rfl rfl rfl HIC.out Tryd.underlying22 info_slb ?_; simp only [Act.put, List.setIfInBounds_toArray, List.set_cons_zero, List.set_cons_succ]))
        refine Calls.mono HALL5.out ?_
        rintro e V6 ⟨rfl, hB6⟩
        obtain ⟨X7, hX7, rX7, bX7⟩ := laid_d V6 dr HDL.out
        have HX7 : Hid (X7 = _) := hX7
        have hB7 : Below X5.heap.size X5 X7 := hB6.trans (bX7.mono hB6.size)
        have HPV7 : Hid (Pv B ps X7 P vt2 (i + 1) (.slice Ar (i + 1) cr) (i + 1) Pu vu i (fi ps i)) := HPV5.out.be hB7
        have HB7 : Hid (Below B W1 X7) := bst HBE.out HB5.out hB7
        have RX18 : Hid (Row X7 V4.heap.size (vB dr) 28) := Row.below RX5.out hB7 RX5.out.lt
        have RX19 : Hid (Row X7 V6.heap.size (vB dr) 28) := rX7
        have bX8 : Below X7.heap.size X7 (X7.alloc (.cells (vB dr).toArray 28)) := (Below.refl _ _).alloc (Nat.le_refl _) _
        have HPV8 : Hid (Pv B ps (X7.alloc (.cells (vB dr).toArray 28)) P vt2 (i + 1) (.slice Ar (i + 1) cr) (i + 1) Pu vu i (fi ps i)) := HPV7.out.be bX8
        have RX8 : Hid (Row (X7.alloc (.cells (vB dr).toArray 28)) X7.heap.size (vB dr) 28) := Row.new' rfl rfl
        have R18 : Hid (Row (X7.alloc (.cells (vB dr).toArray 28)) V4.heap.size (vB dr) 28) := Row.below RX18.out bX8 RX18.out.lt
        have HB8 : Hid (Below B W1 (X7.alloc (.cells (vB dr).toArray 28))) := bst HBE.out HB7.out bX8
        clear hX7 rX7 bX7 hB6 hB7 bX8 HPV5 HB5 HALL5 RX5 HPV7 HB7
        go_wp2_with (first
          | (refine wpList_store_mid rfl 28 (.tmp 19) (.tmp 89) rfl V6.heap.size 0 (vB dr).toArray rfl rfl (Row.there (Row.new' (cs := (vB (List.replicate 32 0#8))) rfl rfl) 0 _ (by simp [vB_length, HDL.out])) (dl_info' HDL.out) (all_oneCell_toArray (vB_one dr)) ?_; simp only [Act.put]; change wpList _ _ _ _ _ (World.setCells (World.alloc V6 (Obj.cells #[.int .u8 0, .int .u8 0, .int .u8 0, .int .u8 0, .int .u8 0, .int .u8 0, .int .u8 0, .int .u8 0, .int .u8 0, .int .u8 0, .int .u8 0, .int .u8 0, .int .u8 0, .int .u8 0, .int .u8 0, .int .u8 0, .int .u8 0, .int .u8 0, .int .u8 0, .int .u8 0, .int .u8 0, .int .u8 0, .int .u8 0, .int .u8 0, .int .u8 0, .int .u8 0, .int .u8 0, .int .u8 0, .int .u8 0, .int .u8 0, .int .u8 0, .int .u8 0] 28)) V6.heap.size 0 (vB dr)); rw [← HX7.out])
          | (refine wpList_load_w rfl 28 (.tmp 18) rfl V4.heap.size 0 rfl (vB dr) _ (Row.all RX18.out) Tryd.underlying28 rfl (dl_info HDL.out) ?_; simp only [Act.put, List.setIfInBounds_toArray, List.set_cons_zero, List.set_cons_succ])
          | (refine wpList_load_w rfl 28 (.tmp 19) rfl V6.heap.size 0 rfl (vB dr) _ (Row.all RX19.out) Tryd.underlying28 rfl (dl_info HDL.out) ?_; simp only [Act.put, List.setIfInBounds_toArray, List.set_cons_zero, List.set_cons_succ])
          | (refine wpList_neq_w rfl 28 (.tmp 94) (.tmp 95) _ rfl 5 32 dr rfl rfl Tryd.underlying28 Tryd.underlying5 info_u8 HDL.out guard_dig ?_; simp only [Act.put, List.setIfInBounds_toArray, List.set_cons_zero, List.set_cons_succ])
          | (refine wpList_build_dd rfl (.tmp 99) rfl dr HDL.out rfl ?_; simp only [Act.put, List.setIfInBounds_toArray, List.set_cons_zero, List.set_cons_succ])
          | (refine wpList_append_still rfl (.tmp 98) (.tmp 100) rfl X7.heap.size (i + 1) (.slice Ar (i + 1) cr) _ dr HDL.out rfl HPV8.out.r rfl RX8.out HKK.out ?_; intro v9 V9 q1 q2 q3 _; obtain ⟨A9, c9, e9, _⟩ := q1.form; subst e9; have HPV9 : Hid (Pv B ps V9 P vt2 (i + 1) (.slice A9 (i + 1 + 1) c9) (i + 1 + 1) Pu vu i (fi ps i)) := HPV8.out.addR (by rw [← HDR.out]; exact q1) q2 q3 (bsz HBE.out HB8.out); have HB9 : Hid (Below B W1 V9) := gro_b HB8.out (bsz HBE.out HB8.out) ((Gro.refl (fun g => (Value.slice Ar (i + 1) cr).ownBlock = some g) _).grown q2 (fun g e => .inl e)) HPV8.out.fr; have R9 : Hid (Row V9 V4.heap.size (vB dr) 28) := (q2.block _ R18.out.lt (fun e => Nat.lt_irrefl _ (HOr.out _ e.symm))).trans R18.out; have gl := (HLV.out V9 HB9.out).1; have HA2 : Hid _ := HADD.out Pu vu V9 HPV9.out.pu HPV9.out.fu HB9.out HPV9.out.u; clear q1 q2 q3; simp only [Act.put, List.setIfInBounds_toArray, List.set_cons_zero, List.set_cons_succ])
          | (refine wpList_index_s rfl 22 38 (.tmp 106) (.tmp 107) rfl b o n cap i 1 rfl rfl HLT.out Tryd.underlying22 info_slb ?_; simp only [Act.put, List.setIfInBounds_toArray, List.set_cons_zero, List.set_cons_succ]))
        refine Calls.mono HA2.out ?_
        rintro e V10 ⟨rfl, vu2, hl10, ho10, hG10⟩
        have HPV10 : Hid (Pv B ps V10 P vt2 (i + 1) (.slice A9 (i + 1 + 1) c9) (i + 1 + 1) Pu vu2 (i + 1) (fi ps (i + 1))) := HPV9.out.addU hG10 hl10 ho10 (bsz HBE.out HB9.out)
        have HB10 : Hid (Below B W1 V10) := gro_b HB9.out (bsz HBE.out HB9.out) hG10 (fun g q => by rcases q with q | q; (rw [q]; exact HPV9.out.pu); exact HPV9.out.fu g q)
        have R10 : Hid (Row V10 V4.heap.size (vB dr) 28) := (hG10.block _ R9.out.lt (fun q => by rcases q with q | q; exact row_tl HPV9.out.u.row R9.out q.symm; exact Nat.lt_irrefl _ (HOu.out _ q))).trans R9.out
        have HRT2 : Hid _ := HROOT.out Pu vu2 V10 HB10.out HPV10.out.u
        clear hl10 ho10 hG10 HA2 gl HPV9 HB9 R9 HPV8 HB8 R18 RX8 RX18 RX19
        go_wp2_with fail
        refine Calls.mono HRT2.out ?_
        rintro e V11 ⟨rfl, hB11⟩
        obtain ⟨X12, hX12, rX12, bX12⟩ := laid_d V11 dr HDL.out
        have HX12 : Hid (X12 = _) := hX12
        have hB12 : Below V10.heap.size V10 X12 := hB11.trans (bX12.mono hB11.size)
        have HPV12 : Hid (Pv B ps X12 P vt2 (i + 1) (.slice A9 (i + 1 + 1) c9) (i + 1 + 1) Pu vu2 (i + 1) (fi ps (i + 1))) := HPV10.out.be hB12
        have HB12 : Hid (Below B W1 X12) := bst HBE.out HB10.out hB12
        have R18b : Hid (Row X12 V4.heap.size (vB dr) 28) := Row.below R10.out hB12 R10.out.lt
        have R21 : Hid (Row X12 V11.heap.size (vB dr) 28) := rX12
        clear hX12 rX12 bX12 hB11 hB12 HPV10 HB10 R10 HRT2
        go_wp2_with (first
          | (refine wpList_store_mid rfl 28 (.tmp 21) (.tmp 112) rfl V11.heap.size 0 (vB dr).toArray rfl rfl (Row.there (Row.new' (cs := (vB (List.replicate 32 0#8))) rfl rfl) 0 _ (by simp [vB_length, HDL.out])) (dl_info' HDL.out) (all_oneCell_toArray (vB_one dr)) ?_; simp only [Act.put]; change wpList _ _ _ _ _ (World.setCells (World.alloc V11 (Obj.cells #[.int .u8 0, .int .u8 0, .int .u8 0, .int .u8 0, .int .u8 0, .int .u8 0, .int .u8 0, .int .u8 0, .int .u8 0, .int .u8 0, .int .u8 0, .int .u8 0, .int .u8 0, .int .u8 0, .int .u8 0, .int .u8 0, .int .u8 0, .int .u8 0, .int .u8 0, .int .u8 0, .int .u8 0, .int .u8 0, .int .u8 0, .int .u8 0, .int .u8 0, .int .u8 0, .int .u8 0, .int .u8 0, .int .u8 0, .int .u8 0, .int .u8 0, .int .u8 0] 28)) V11.heap.size 0 (vB dr)); rw [← HX12.out])
          | (refine wpList_load_w rfl 28 (.tmp 21) rfl V11.heap.size 0 rfl (vB dr) _ (Row.all R21.out) Tryd.underlying28 rfl (dl_info HDL.out) ?_; simp only [Act.put, List.setIfInBounds_toArray, List.set_cons_zero, List.set_cons_succ])
          | (refine wpList_load_w rfl 28 (.tmp 18) rfl V4.heap.size 0 rfl (vB dr) _ (Row.all R18b.out) Tryd.underlying28 rfl (dl_info HDL.out) ?_; simp only [Act.put, List.setIfInBounds_toArray, List.set_cons_zero, List.set_cons_succ])
          | (refine wpList_neq_w rfl 28 (.tmp 117) (.tmp 118) _ rfl 5 32 dr rfl rfl Tryd.underlying28 Tryd.underlying5 info_u8 HDL.out guard_dig ?_; simp only [Act.put, List.setIfInBounds_toArray, List.set_cons_zero, List.set_cons_succ]))
        exact ⟨⟨i + 1, vt2, A9, c9, Pu, vu2, i + 1, fi ps (i + 1), HLT.out, by go_num, rfl, rfl, HPV12.out, (fun _ => ⟨rfl, rfl⟩), HB12.out⟩, by simp [intOf]; omega⟩
    · have hin : n = i := by omega
      subst hin
      obtain ⟨g, cr', hvg⟩ := hPV.r.open (by omega)
      simp only [Value.slice.injEq, true_and] at hvg
      obtain ⟨rfl, rfl⟩ := hvg
      have hnl := HN.out
      have HGRO : Hid _ := growth_all ps n m hnl.symm hn260 hmn HLP.out A cap hncap wr (HK1.out.below hBr hcb) (HVL.out.below (by rw [← HBE.out]; exact hBr))
      have HPV : Hid (Pv B ps wr P vt n (.slice (some ⟨g, 0, none⟩) (n + 1) cr) (n + 1) Pu vu mu Fu) := hPV
      have HBR : Hid (Below B W1 wr) := hBr
      clear hPV hBr hmu hnl
      go_wp2_with fail
      refine Calls.mono HGRO.out ?_
      rintro e V1 ⟨vg, rfl, hpg, hB1x⟩
      obtain ⟨x, hx⟩ : ∃ x, x = rt (ps.take m) := ⟨_, rfl⟩
      obtain ⟨y, hy⟩ : ∃ y, y = rt ps := ⟨_, rfl⟩
      have HXL : Hid (x.length = 32) := by show _ = _; rw [hx]; exact rt_length _
      have HYL : Hid (y.length = 32) := by show _ = _; rw [hy]; exact rt_length _
      obtain ⟨ds, hds⟩ : ∃ ds, ds = gq0 m ps := ⟨_, rfl⟩
      rw [← hds] at hpg
      obtain ⟨Ag, cg, hvg, _⟩ := hpg.2
      subst hvg
      obtain ⟨kg, hkg⟩ : ∃ kg, kg = ds.length := ⟨_, rfl⟩
      have HPV1 : Hid (Pv B ps V1 P vt n (.slice (some ⟨g, 0, none⟩) (n + 1) cr) (n + 1) Pu vu mu Fu) := HPV.out.be hB1x
      have HBV1 : Hid (Below B W1 V1) := bst HBE.out HBR.out hB1x
      have HRX : Hid (∀ W, Below V1.heap.size V1 W → W.rangeAt g (0 + m * 32) (vB x)) := fun W hB => by
        have q := (HPV1.out.r.be hB).at (rs_len ps (n + 1)) (rs_dl ps (n + 1)) m (by omega)
        rw [rs_at ps (n + 1) m (by omega), ← hx] at q
        rw [Nat.zero_add]; exact q
      have hyn : rt (ps.take n) = y := by rw [hy, List.take_of_length_le (by rw [← HN.out]; exact Nat.le_refl _)]
      have HRYA : Hid (∀ V, Pv B ps V P vt n (.slice (some ⟨g, 0, none⟩) (n + 1) cr) (n + 1) Pu vu mu Fu → V.rangeAt g (0 + n * 32) (vB y)) := fun V hP => by
        have q := hP.r.at (rs_len ps (n + 1)) (rs_dl ps (n + 1)) n (by omega)
        rw [rs_at ps (n + 1) n (by omega), hyn] at q
        rw [Nat.zero_add]; exact q
      have HRY : Hid (∀ W, Below V1.heap.size V1 W → W.rangeAt g (0 + n * 32) (vB y)) := fun W hB => HRYA.out W (HPV1.out.be hB)
      have HGW : Hid (∀ W, Below V1.heap.size V1 W → Calls Tryd.prog 15 #[.agg (vB x).toArray, .int .i64 (m : Int), .agg (vB y).toArray, .int .i64 (n : Int), .slice Ag kg cg] W fun e w' => e = .returned (.int .i64 0) ∧ Below W.heap.size W w') := fun W hB => by
        have q := grew_any (m : Int) (n : Int) x y HXL.out HYL.out ds Ag cg W (HK1.out.below (bst HBE.out HBV1.out hB) hcb) (by have q9 := hpg.below hB; exact q9)
        have e0 : gw x y (m : Int) (n : Int) ds = 0 := by
          rw [hx, hy, hds, HN.out]
          exact gw_gq m ps (by rw [← HN.out]; exact hmn) (by rw [← HN.out]; omega)
        rw [e0, ← hkg] at q
        exact q
      have HMN1 : Hid (m < n + 1) := by show _ < _; omega
      have HYE : Hid (y = rt ps) := hy
      rw [← hkg]
      have hb1 : Below V1.heap.size V1 V1 := Below.refl _ _
      clear hpg hB1x hx hy hds hkg hyn HGRO
      go_wp2_with fail
      refine wp_named fun a0 ha0 => ?_
      have hsz : a0.tmps.size = 183 := by rw [ha0]; rfl
      have zs11 : a0.eval (.tmp 11) = .slice (some ⟨g, 0, none⟩) (n + 1) cr := by rw [ha0]; rfl
      have zs12 : a0.eval (.tmp 12) = .int .i64 (m : Int) := by rw [ha0]; rfl
      have zs22 : a0.eval (.tmp 22) = .int .i64 (n : Int) := by rw [ha0]; rfl
      have zs23 : a0.eval (.tmp 23) = .slice Ag kg cg := by rw [ha0]; rfl
      obtain ⟨D, hD⟩ : ∃ D : List (Tmp × SP), D = [(129, SP.is (.slice (some ⟨g, 0, none⟩) (n + 1) cr)), (130, SP.is (.int .i64 (m : Int))), (131, SP.is (.pointer (some ⟨g, 0 + m * 32, none⟩))), (132, SP.is (.agg (vB x).toArray)), (133, SP.is (.int .i64 (m : Int))), (134, SP.is (.slice (some ⟨g, 0, none⟩) (n + 1) cr)), (135, SP.is (.int .i64 (n : Int))), (136, SP.is (.pointer (some ⟨g, 0 + n * 32, none⟩))), (137, SP.is (.agg (vB y).toArray)), (138, SP.is (.int .i64 (n : Int))), (139, SP.is (.slice Ag kg cg)), (140, SP.is (.int .i64 0)), (25, SP.is (.int .i64 0))] := ⟨_, rfl⟩
      refine wp_region_down (by kernel_rfl) (fun listed ac W => listed.size = 13 ∧ Fp D a0 listed ac W ∧ Below V1.heap.size V1 W) ?_ ?_ ?_
      · exact ⟨by simp, Fp.start D a0 _ _, Below.drew hb1⟩
      · clear ha0 hb1  
        intro listed ac W k hI hdn hk
        obtain ⟨hl, hF, hb1⟩ := hI
        have hk1 : k < 13 := List.mem_range.1 (List.mem_filter.1 hk).1
        have hl2 : ∀ j, (listed.setIfInBounds j true).size = 13 := fun j => by rw [Array.size_setIfInBounds]; exact hl
        rcases (show k = 0 ∨ k = 1 ∨ k = 2 ∨ k = 3 ∨ k = 4 ∨ k = 5 ∨ k = 6 ∨ k = 7 ∨ k = 8 ∨ k = 9 ∨ k = 10 ∨ k = 11 ∨ k = 12 by omega) with rfl | rfl | rfl | rfl | rfl | rfl | rfl | rfl | rfl | rfl | rfl | rfl | rfl
        · have hk3 := hk
          exact wpOp_plain rfl rfl (wp_move_v (ac.eval (.tmp 11)) rfl rfl ⟨hl2 0, (hF.put 0 129 (SP.is (.slice (some ⟨g, 0, none⟩) (n + 1) cr)) (ac.eval (.tmp 11)) (by rw [hD]; rfl) (((hF.keep 11 (by rw [hD]; rfl)).trans zs11)) (by rw [hD]; rfl) (by rw [hsz]; decide) (by rw [hl]; decide)), hb1⟩)
        · have hk3 := hk
          exact wpOp_plain rfl rfl (wp_move_v (ac.eval (.tmp 12)) rfl rfl ⟨hl2 1, (hF.put 1 130 (SP.is (.int .i64 (m : Int))) (ac.eval (.tmp 12)) (by rw [hD]; rfl) (((hF.keep 12 (by rw [hD]; rfl)).trans zs12)) (by rw [hD]; rfl) (by rw [hsz]; decide) (by rw [hl]; decide)), hb1⟩)
        · have hk3 := hk
          have ea := (hF.done 0 (129, SP.is (.slice (some ⟨g, 0, none⟩) (n + 1) cr)) (by rw [hD]; rfl) (ready_dep hk 0 (by kernel_rfl)))
          have eb := (hF.done 1 (130, SP.is (.int .i64 (m : Int))) (by rw [hD]; rfl) (ready_dep hk 1 (by kernel_rfl)))
          exact wpOp_plain rfl rfl (wp_index_s 30 28 rfl g 0 (n + 1) cr m 32 ea eb HMN1.out Tryd.underlying30 info_dig ⟨hl2 2, (hF.put 2 131 (SP.is (.pointer (some ⟨g, 0 + m * 32, none⟩))) (.pointer (some ⟨g, 0 + m * 32, none⟩)) (by rw [hD]; rfl) rfl (by rw [hD]; rfl) (by rw [hsz]; decide) (by rw [hl]; decide)), hb1⟩)
        · have hk3 := hk
          have ea := (hF.done 2 (131, SP.is (.pointer (some ⟨g, 0 + m * 32, none⟩))) (by rw [hD]; rfl) (ready_dep hk 2 (by kernel_rfl)))
          exact wpOp_plain rfl rfl (wp_load_mid 28 (.tmp 131) rfl g (0 + m * 32) ea (vB x) _ (HRX.out W hb1) Tryd.underlying28 rfl (dl_info HXL.out) ⟨hl2 3, (hF.put 3 132 (SP.is (.agg (vB x).toArray)) (.agg (vB x).toArray) (by rw [hD]; rfl) rfl (by rw [hD]; rfl) (by rw [hsz]; decide) (by rw [hl]; decide)), hb1⟩)
        · have hk3 := hk
          exact wpOp_plain rfl rfl (wp_move_v (ac.eval (.tmp 12)) rfl rfl ⟨hl2 4, (hF.put 4 133 (SP.is (.int .i64 (m : Int))) (ac.eval (.tmp 12)) (by rw [hD]; rfl) (((hF.keep 12 (by rw [hD]; rfl)).trans zs12)) (by rw [hD]; rfl) (by rw [hsz]; decide) (by rw [hl]; decide)), hb1⟩)
        · have hk3 := hk
          exact wpOp_plain rfl rfl (wp_move_v (ac.eval (.tmp 11)) rfl rfl ⟨hl2 5, (hF.put 5 134 (SP.is (.slice (some ⟨g, 0, none⟩) (n + 1) cr)) (ac.eval (.tmp 11)) (by rw [hD]; rfl) (((hF.keep 11 (by rw [hD]; rfl)).trans zs11)) (by rw [hD]; rfl) (by rw [hsz]; decide) (by rw [hl]; decide)), hb1⟩)
        · have hk3 := hk
          exact wpOp_plain rfl rfl (wp_move_v (ac.eval (.tmp 22)) rfl rfl ⟨hl2 6, (hF.put 6 135 (SP.is (.int .i64 (n : Int))) (ac.eval (.tmp 22)) (by rw [hD]; rfl) (((hF.keep 22 (by rw [hD]; rfl)).trans zs22)) (by rw [hD]; rfl) (by rw [hsz]; decide) (by rw [hl]; decide)), hb1⟩)
        · have hk3 := hk
          have ea := (hF.done 5 (134, SP.is (.slice (some ⟨g, 0, none⟩) (n + 1) cr)) (by rw [hD]; rfl) (ready_dep hk 5 (by kernel_rfl)))
          have eb := (hF.done 6 (135, SP.is (.int .i64 (n : Int))) (by rw [hD]; rfl) (ready_dep hk 6 (by kernel_rfl)))
          exact wpOp_plain rfl rfl (wp_index_s 30 28 rfl g 0 (n + 1) cr n 32 ea eb (Nat.lt_succ_self n) Tryd.underlying30 info_dig ⟨hl2 7, (hF.put 7 136 (SP.is (.pointer (some ⟨g, 0 + n * 32, none⟩))) (.pointer (some ⟨g, 0 + n * 32, none⟩)) (by rw [hD]; rfl) rfl (by rw [hD]; rfl) (by rw [hsz]; decide) (by rw [hl]; decide)), hb1⟩)
        · have hk3 := hk
          have ea := (hF.done 7 (136, SP.is (.pointer (some ⟨g, 0 + n * 32, none⟩))) (by rw [hD]; rfl) (ready_dep hk 7 (by kernel_rfl)))
          exact wpOp_plain rfl rfl (wp_load_mid 28 (.tmp 136) rfl g (0 + n * 32) ea (vB y) _ (HRY.out W hb1) Tryd.underlying28 rfl (dl_info HYL.out) ⟨hl2 8, (hF.put 8 137 (SP.is (.agg (vB y).toArray)) (.agg (vB y).toArray) (by rw [hD]; rfl) rfl (by rw [hD]; rfl) (by rw [hsz]; decide) (by rw [hl]; decide)), hb1⟩)
        · have hk3 := hk
          exact wpOp_plain rfl rfl (wp_move_v (ac.eval (.tmp 22)) rfl rfl ⟨hl2 9, (hF.put 9 138 (SP.is (.int .i64 (n : Int))) (ac.eval (.tmp 22)) (by rw [hD]; rfl) (((hF.keep 22 (by rw [hD]; rfl)).trans zs22)) (by rw [hD]; rfl) (by rw [hsz]; decide) (by rw [hl]; decide)), hb1⟩)
        · have hk3 := hk
          exact wpOp_plain rfl rfl (wp_move_v (ac.eval (.tmp 23)) rfl rfl ⟨hl2 10, (hF.put 10 139 (SP.is (.slice Ag kg cg)) (ac.eval (.tmp 23)) (by rw [hD]; rfl) (((hF.keep 23 (by rw [hD]; rfl)).trans zs23)) (by rw [hD]; rfl) (by rw [hsz]; decide) (by rw [hl]; decide)), hb1⟩)
        · have hk3 := hk
          have ea := (hF.done 3 (132, SP.is (.agg (vB x).toArray)) (by rw [hD]; rfl) (ready_dep hk 3 (by kernel_rfl)))
          have eb := (hF.done 4 (133, SP.is (.int .i64 (m : Int))) (by rw [hD]; rfl) (ready_dep hk 4 (by kernel_rfl)))
          have ec := (hF.done 8 (137, SP.is (.agg (vB y).toArray)) (by rw [hD]; rfl) (ready_dep hk 8 (by kernel_rfl)))
          have ed := (hF.done 9 (138, SP.is (.int .i64 (n : Int))) (by rw [hD]; rfl) (ready_dep hk 9 (by kernel_rfl)))
          have ee := (hF.done 10 (139, SP.is (.slice Ag kg cg)) (by rw [hD]; rfl) (ready_dep hk 10 (by kernel_rfl)))
          refine wpOp_plain rfl rfl (wp_fcall_v 15 #[.agg (vB x).toArray, .int .i64 (m : Int), .agg (vB y).toArray, .int .i64 (n : Int), .slice Ag kg cg] rfl rfl (by show [ac.eval (.tmp 132), ac.eval (.tmp 133), ac.eval (.tmp 137), ac.eval (.tmp 138), ac.eval (.tmp 139)] = _; rw [show ac.eval (.tmp 132) = _ from ea, show ac.eval (.tmp 133) = _ from eb, show ac.eval (.tmp 137) = _ from ec, show ac.eval (.tmp 138) = _ from ed, show ac.eval (.tmp 139) = _ from ee]) (by go_simp) ((HGW.out W hb1).mono ?_))
          rintro e W2 ⟨rfl, hB⟩
          exact ⟨_, rfl, hl2 11, ((hF.world hB).put 11 140 (SP.is (.int .i64 0)) (.int .i64 0) (by rw [hD]; rfl) rfl (by rw [hD]; rfl) (by rw [hsz]; decide) (by rw [hl]; decide)), hb1.trans (hB.mono hb1.size)⟩
        · have hk3 := hk
          exact wpOp_plain rfl rfl (wp_assign_v (ac.eval (.tmp 140)) rfl rfl ⟨hl2 12, (hF.put 12 25 (SP.is (.int .i64 0)) (ac.eval (.tmp 140)) (by rw [hD]; rfl) ((hF.done 11 (140, SP.is (.int .i64 0)) (by rw [hD]; rfl) (ready_dep hk 11 (by kernel_rfl)))) (by rw [hD]; rfl) (by rw [hsz]; decide) (by rw [hl]; decide)), hb1⟩)
      · clear hb1  
        intro listed ac W hI hr
        obtain ⟨hl, hF, hb1⟩ := hI
        have hall := all_listed (by kernel_rfl) hl hr
        have h129 : ac.eval (.tmp 129) = .slice (some ⟨g, 0, none⟩) (n + 1) cr := hF.done 0 (129, SP.is (.slice (some ⟨g, 0, none⟩) (n + 1) cr)) (by rw [hD]; rfl) (hall 0 (by decide))
        have h130 : ac.eval (.tmp 130) = .int .i64 (m : Int) := hF.done 1 (130, SP.is (.int .i64 (m : Int))) (by rw [hD]; rfl) (hall 1 (by decide))
        have h131 : ac.eval (.tmp 131) = .pointer (some ⟨g, 0 + m * 32, none⟩) := hF.done 2 (131, SP.is (.pointer (some ⟨g, 0 + m * 32, none⟩))) (by rw [hD]; rfl) (hall 2 (by decide))
        have h132 : ac.eval (.tmp 132) = .agg (vB x).toArray := hF.done 3 (132, SP.is (.agg (vB x).toArray)) (by rw [hD]; rfl) (hall 3 (by decide))
        have h133 : ac.eval (.tmp 133) = .int .i64 (m : Int) := hF.done 4 (133, SP.is (.int .i64 (m : Int))) (by rw [hD]; rfl) (hall 4 (by decide))
        have h134 : ac.eval (.tmp 134) = .slice (some ⟨g, 0, none⟩) (n + 1) cr := hF.done 5 (134, SP.is (.slice (some ⟨g, 0, none⟩) (n + 1) cr)) (by rw [hD]; rfl) (hall 5 (by decide))
        have h135 : ac.eval (.tmp 135) = .int .i64 (n : Int) := hF.done 6 (135, SP.is (.int .i64 (n : Int))) (by rw [hD]; rfl) (hall 6 (by decide))
        have h136 : ac.eval (.tmp 136) = .pointer (some ⟨g, 0 + n * 32, none⟩) := hF.done 7 (136, SP.is (.pointer (some ⟨g, 0 + n * 32, none⟩))) (by rw [hD]; rfl) (hall 7 (by decide))
        have h137 : ac.eval (.tmp 137) = .agg (vB y).toArray := hF.done 8 (137, SP.is (.agg (vB y).toArray)) (by rw [hD]; rfl) (hall 8 (by decide))
        have h138 : ac.eval (.tmp 138) = .int .i64 (n : Int) := hF.done 9 (138, SP.is (.int .i64 (n : Int))) (by rw [hD]; rfl) (hall 9 (by decide))
        have h139 : ac.eval (.tmp 139) = .slice Ag kg cg := hF.done 10 (139, SP.is (.slice Ag kg cg)) (by rw [hD]; rfl) (hall 10 (by decide))
        have h140 : ac.eval (.tmp 140) = .int .i64 0 := hF.done 11 (140, SP.is (.int .i64 0)) (by rw [hD]; rfl) (hall 11 (by decide))
        have h25 : ac.eval (.tmp 25) = .int .i64 0 := hF.done 12 (25, SP.is (.int .i64 0)) (by rw [hD]; rfl) (hall 12 (by decide))
        have ea := hF.lay [(129, .slice (some ⟨g, 0, none⟩) (n + 1) cr), (130, .int .i64 (m : Int)), (131, .pointer (some ⟨g, 0 + m * 32, none⟩)), (132, .agg (vB x).toArray), (133, .int .i64 (m : Int)), (134, .slice (some ⟨g, 0, none⟩) (n + 1) cr), (135, .int .i64 (n : Int)), (136, .pointer (some ⟨g, 0 + n * 32, none⟩)), (137, .agg (vB y).toArray), (138, .int .i64 (n : Int)), (139, .slice Ag kg cg), (140, .int .i64 0), (25, .int .i64 0)] (by rw [hD, hsz]; rfl) (by simp only [List.forall_mem_cons, List.not_mem_nil, false_implies, implies_true, and_true]; exact ⟨h129, h130, h131, h132, h133, h134, h135, h136, h137, h138, h139, h140, h25⟩)
        rw [ha0] at ea
        simp only [List.foldl_cons, List.foldl_nil, List.setIfInBounds_toArray, List.set_cons_zero, List.set_cons_succ] at ea
        clear hF hall hr hl hD  zs11 zs12 zs22 zs23 ha0 hsz h129 h130 h131 h132 h133 h134 h135 h136 h137 h138 h139 h140 h25
        subst ea
        have HPV2 : Hid (Pv B ps W P vt n (.slice (some ⟨g, 0, none⟩) (n + 1) cr) (n + 1) Pu vu mu Fu) := HPV1.out.be hb1
        have HBV2 : Hid (Below B W1 W) := bst HBE.out HBV1.out hb1
        have HSZ : Hid _ := lsize_any P n vt W HPV2.out.t.row
        obtain ⟨V2, hV2⟩ : ∃ V2, V2 = W := ⟨_, rfl⟩
        rw [← hV2] at HPV2 HBV2 HSZ
        rw [← hV2]
        clear hV2 hb1 HPV1 HBV1 HRX HRY HGW HPV HBR
        by_cases hn0 : n = 0
        · have c0 : ((n : Int) == 0) = true := by simp; omega
          have c1 : (n : Int) = 0 := by omega
          go_wp2_with (go_at_call 10; refine Calls.mono HSZ.out ?_; rintro e Wz ⟨rfl, hqq⟩; obtain rfl := hqq.symm)
          go_ret
          exact ⟨rfl, HB1.out.trans ((show Below W1.heap.size W1 _ by rw [← HBE.out]; exact HBV2.out).mono HB1.out.size)⟩
        · obtain ⟨b, o, hA, hLS⟩ : ∃ b o, A = some ⟨b, o, none⟩ ∧ LsAt W1 b o ps := by
            rcases HVL.out with h | h
            · have := HN.out; rw [h] at this; simp at this; omega
            · exact h
          subst hA
          have c1 : ¬ (n : Int) = 0 := by omega
          obtain ⟨j, hj⟩ : ∃ j : Nat, pk at0 (n : Int) = (j : Int) := ⟨(pk at0 (n : Int)).toNat, by have := pk_range at0 (n : Int) (by omega); omega⟩
          have hjn : j < n := by have := pk_range at0 (n : Int) (by omega); omega
          have hpk := pick_any at0 (n : Int) (by omega) ha1 ha2 (by omega) V2
          rw [hj] at hpk
          have HPK : Hid _ := hpk
          have hjp : j < ps.length := by rw [← HN.out]; exact hjn
          obtain ⟨lv, hlv⟩ := leaf_at HBE.out hLS j hjp
          have hLS2 : LsAt V2 b o ps := hLS.below (by rw [← HBE.out]; exact HBV2.out)
          have HPATH : Hid _ := path_in n j ps HN.out.symm hjn (by omega) HLP.out b o cap hncap V2 (HK1.out.below HBV2.out hcb) hLS2
          clear hpk hj hLS hLS2
          go_wp2_with (first
            | (go_at_call 10; refine Calls.mono HSZ.out ?_; rintro e Wz ⟨rfl, hqq⟩; obtain rfl := hqq.symm)
            | (go_at_call 8; refine Calls.mono HPK.out ?_; rintro e Wz ⟨rfl, hqq⟩; obtain rfl := hqq.symm))
          refine Calls.mono HPATH.out ?_
          rintro e V3 ⟨vq, rfl, hoq, hB3x⟩
          obtain ⟨dq, hdq⟩ : ∃ dq, dq = pt j ps := ⟨_, rfl⟩
          have hpq : PAt V3 vq dq := by rw [hdq]; exact PAt.of_own hoq (pt_each ps.length j ps rfl (by omega) (by rw [← HN.out]; omega))
          obtain ⟨Aq, cq, hvq, _⟩ := hpq.2
          subst hvq
          obtain ⟨kq, hkq⟩ : ∃ kq, kq = dq.length := ⟨_, rfl⟩
          have HPV3 : Hid (Pv B ps V3 P vt n (.slice (some ⟨g, 0, none⟩) (n + 1) cr) (n + 1) Pu vu mu Fu) := HPV2.out.be hB3x
          have HBV3 : Hid (Below B W1 V3) := bst HBE.out HBV2.out hB3x
          have HRY2 : Hid (∀ W, Below V3.heap.size V3 W → W.rangeAt g (0 + n * 32) (vB y)) := fun W hB => HRYA.out W (HPV3.out.be hB)
          have HLV : Hid (∀ W, Below V3.heap.size V3 W → W.cell? ⟨b, o + j, none⟩ = some lv ∧ SlAt W lv (ps.getD j [])) := fun W hB => hlv W (bst HBE.out HBV3.out hB)
          have HJN : Hid (j < n) := hjn
          have HCK : Hid (∀ W, Below V3.heap.size V3 W → Calls Tryd.prog 17 #[.agg (vB y).toArray, .int .i64 (n : Int), .int .i64 (j : Int), lv, .slice Aq kq cq] W fun e w' => e = .returned (.int .i64 0) ∧ Below W.heap.size W w') := fun W hB => by
            have q := check_any (n : Int) (j : Int) y (ps.getD j []) dq HYL.out (HLP.out j hjp) (.slice Aq dq.length cq) lv W (HK1.out.below (bst HBE.out HBV3.out hB) hcb) (hpq.below hB) (HLV.out W hB).2
            have e0 : ck y (n : Int) (j : Int) (ps.getD j []) dq = 0 := by
              unfold ck
              rw [if_neg (by omega), if_neg (by omega), Int.toNat_natCast, Int.toNat_natCast, if_pos]
              refine ⟨?_, ?_⟩
              · rw [hdq, HN.out]; exact pt_length ps.length j ps rfl (by omega) (by rw [← HN.out]; omega)
              · rw [hdq, HN.out, HYE.out]; exact rb_pt ps.length j ps rfl hjp (by rw [← HN.out]; omega)
            rw [e0, ← hkq] at q
            exact q
          rw [← hkq]
          have hb1 : Below V3.heap.size V3 V3 := Below.refl _ _
          clear hoq hB3x hpq hdq hkq hlv hjp HPATH HPK HSZ HPV2 HBV2 hjn
          go_wp2_with fail
          refine wp_named fun a0 ha0 => ?_
          have hsz : a0.tmps.size = 183 := by rw [ha0]; rfl
          have zs8 : a0.eval (.tmp 8) = .slice (some ⟨b, o, none⟩) n cap := by rw [ha0]; rfl
          have zs11 : a0.eval (.tmp 11) = .slice (some ⟨g, 0, none⟩) (n + 1) cr := by rw [ha0]; rfl
          have zs22 : a0.eval (.tmp 22) = .int .i64 (n : Int) := by rw [ha0]; rfl
          have zs27 : a0.eval (.tmp 27) = .int .i64 (j : Int) := by rw [ha0]; rfl
          have zs28 : a0.eval (.tmp 28) = .slice Aq kq cq := by rw [ha0]; rfl
          obtain ⟨D, hD⟩ : ∃ D : List (Tmp × SP), D = [(165, SP.is (.slice (some ⟨g, 0, none⟩) (n + 1) cr)), (166, SP.is (.int .i64 (n : Int))), (167, SP.is (.pointer (some ⟨g, 0 + n * 32, none⟩))), (168, SP.is (.agg (vB y).toArray)), (169, SP.is (.int .i64 (n : Int))), (170, SP.is (.int .i64 (j : Int))), (171, SP.is (.slice (some ⟨b, o, none⟩) n cap)), (172, SP.is (.int .i64 (j : Int))), (173, SP.is (.pointer (some ⟨b, o + j * 1, none⟩))), (174, SP.is (lv)), (175, SP.is (.slice Aq kq cq)), (176, SP.is (.int .i64 0)), (30, SP.is (.int .i64 0))] := ⟨_, rfl⟩
          refine wp_region_down (by kernel_rfl) (fun listed ac W => listed.size = 13 ∧ Fp D a0 listed ac W ∧ Below V3.heap.size V3 W) ?_ ?_ ?_
          · exact ⟨by simp, Fp.start D a0 _ _, Below.drew hb1⟩
          · clear ha0 hb1  
            intro listed ac W k hI hdn hk
            obtain ⟨hl, hF, hb1⟩ := hI
            have hk1 : k < 13 := List.mem_range.1 (List.mem_filter.1 hk).1
            have hl2 : ∀ j, (listed.setIfInBounds j true).size = 13 := fun j => by rw [Array.size_setIfInBounds]; exact hl
            rcases (show k = 0 ∨ k = 1 ∨ k = 2 ∨ k = 3 ∨ k = 4 ∨ k = 5 ∨ k = 6 ∨ k = 7 ∨ k = 8 ∨ k = 9 ∨ k = 10 ∨ k = 11 ∨ k = 12 by omega) with rfl | rfl | rfl | rfl | rfl | rfl | rfl | rfl | rfl | rfl | rfl | rfl | rfl
            · have hk3 := hk
              exact wpOp_plain rfl rfl (wp_move_v (ac.eval (.tmp 11)) rfl rfl ⟨hl2 0, (hF.put 0 165 (SP.is (.slice (some ⟨g, 0, none⟩) (n + 1) cr)) (ac.eval (.tmp 11)) (by rw [hD]; rfl) (((hF.keep 11 (by rw [hD]; rfl)).trans zs11)) (by rw [hD]; rfl) (by rw [hsz]; decide) (by rw [hl]; decide)), hb1⟩)
            · have hk3 := hk
              exact wpOp_plain rfl rfl (wp_move_v (ac.eval (.tmp 22)) rfl rfl ⟨hl2 1, (hF.put 1 166 (SP.is (.int .i64 (n : Int))) (ac.eval (.tmp 22)) (by rw [hD]; rfl) (((hF.keep 22 (by rw [hD]; rfl)).trans zs22)) (by rw [hD]; rfl) (by rw [hsz]; decide) (by rw [hl]; decide)), hb1⟩)
            · have hk3 := hk
              have ea := (hF.done 0 (165, SP.is (.slice (some ⟨g, 0, none⟩) (n + 1) cr)) (by rw [hD]; rfl) (ready_dep hk 0 (by kernel_rfl)))
              have eb := (hF.done 1 (166, SP.is (.int .i64 (n : Int))) (by rw [hD]; rfl) (ready_dep hk 1 (by kernel_rfl)))
              exact wpOp_plain rfl rfl (wp_index_s 30 28 rfl g 0 (n + 1) cr n 32 ea eb (Nat.lt_succ_self n) Tryd.underlying30 info_dig ⟨hl2 2, (hF.put 2 167 (SP.is (.pointer (some ⟨g, 0 + n * 32, none⟩))) (.pointer (some ⟨g, 0 + n * 32, none⟩)) (by rw [hD]; rfl) rfl (by rw [hD]; rfl) (by rw [hsz]; decide) (by rw [hl]; decide)), hb1⟩)
            · have hk3 := hk
              have ea := (hF.done 2 (167, SP.is (.pointer (some ⟨g, 0 + n * 32, none⟩))) (by rw [hD]; rfl) (ready_dep hk 2 (by kernel_rfl)))
              exact wpOp_plain rfl rfl (wp_load_mid 28 (.tmp 167) rfl g (0 + n * 32) ea (vB y) _ (HRY2.out W hb1) Tryd.underlying28 rfl (dl_info HYL.out) ⟨hl2 3, (hF.put 3 168 (SP.is (.agg (vB y).toArray)) (.agg (vB y).toArray) (by rw [hD]; rfl) rfl (by rw [hD]; rfl) (by rw [hsz]; decide) (by rw [hl]; decide)), hb1⟩)
            · have hk3 := hk
              exact wpOp_plain rfl rfl (wp_move_v (ac.eval (.tmp 22)) rfl rfl ⟨hl2 4, (hF.put 4 169 (SP.is (.int .i64 (n : Int))) (ac.eval (.tmp 22)) (by rw [hD]; rfl) (((hF.keep 22 (by rw [hD]; rfl)).trans zs22)) (by rw [hD]; rfl) (by rw [hsz]; decide) (by rw [hl]; decide)), hb1⟩)
            · have hk3 := hk
              exact wpOp_plain rfl rfl (wp_move_v (ac.eval (.tmp 27)) rfl rfl ⟨hl2 5, (hF.put 5 170 (SP.is (.int .i64 (j : Int))) (ac.eval (.tmp 27)) (by rw [hD]; rfl) (((hF.keep 27 (by rw [hD]; rfl)).trans zs27)) (by rw [hD]; rfl) (by rw [hsz]; decide) (by rw [hl]; decide)), hb1⟩)
            · have hk3 := hk
              exact wpOp_plain rfl rfl (wp_move_v (ac.eval (.tmp 8)) rfl rfl ⟨hl2 6, (hF.put 6 171 (SP.is (.slice (some ⟨b, o, none⟩) n cap)) (ac.eval (.tmp 8)) (by rw [hD]; rfl) (((hF.keep 8 (by rw [hD]; rfl)).trans zs8)) (by rw [hD]; rfl) (by rw [hsz]; decide) (by rw [hl]; decide)), hb1⟩)
            · have hk3 := hk
              exact wpOp_plain rfl rfl (wp_move_v (ac.eval (.tmp 27)) rfl rfl ⟨hl2 7, (hF.put 7 172 (SP.is (.int .i64 (j : Int))) (ac.eval (.tmp 27)) (by rw [hD]; rfl) (((hF.keep 27 (by rw [hD]; rfl)).trans zs27)) (by rw [hD]; rfl) (by rw [hsz]; decide) (by rw [hl]; decide)), hb1⟩)
            · have hk3 := hk
              have ea := (hF.done 6 (171, SP.is (.slice (some ⟨b, o, none⟩) n cap)) (by rw [hD]; rfl) (ready_dep hk 6 (by kernel_rfl)))
              have eb := (hF.done 7 (172, SP.is (.int .i64 (j : Int))) (by rw [hD]; rfl) (ready_dep hk 7 (by kernel_rfl)))
              exact wpOp_plain rfl rfl (wp_index_s 22 38 rfl b o n cap j 1 ea eb HJN.out Tryd.underlying22 info_slb ⟨hl2 8, (hF.put 8 173 (SP.is (.pointer (some ⟨b, o + j * 1, none⟩))) (.pointer (some ⟨b, o + j * 1, none⟩)) (by rw [hD]; rfl) rfl (by rw [hD]; rfl) (by rw [hsz]; decide) (by rw [hl]; decide)), hb1⟩)
            · have hk3 := hk
              have ea := (hF.done 8 (173, SP.is (.pointer (some ⟨b, o + j * 1, none⟩))) (by rw [hD]; rfl) (ready_dep hk 8 (by kernel_rfl)))
              exact wpOp_plain rfl rfl (wp_load_1 b (o + j * 1) lv rfl ea (run_load_sb W b _ _ (by rw [Nat.mul_one]; exact (HLV.out W hb1).1)) ⟨hl2 9, (hF.put 9 174 (SP.is (lv)) lv (by rw [hD]; rfl) rfl (by rw [hD]; rfl) (by rw [hsz]; decide) (by rw [hl]; decide)), hb1⟩)
            · have hk3 := hk
              exact wpOp_plain rfl rfl (wp_move_v (ac.eval (.tmp 28)) rfl rfl ⟨hl2 10, (hF.put 10 175 (SP.is (.slice Aq kq cq)) (ac.eval (.tmp 28)) (by rw [hD]; rfl) (((hF.keep 28 (by rw [hD]; rfl)).trans zs28)) (by rw [hD]; rfl) (by rw [hsz]; decide) (by rw [hl]; decide)), hb1⟩)
            · have hk3 := hk
              have ea := (hF.done 3 (168, SP.is (.agg (vB y).toArray)) (by rw [hD]; rfl) (ready_dep hk 3 (by kernel_rfl)))
              have eb := (hF.done 4 (169, SP.is (.int .i64 (n : Int))) (by rw [hD]; rfl) (ready_dep hk 4 (by kernel_rfl)))
              have ec := (hF.done 5 (170, SP.is (.int .i64 (j : Int))) (by rw [hD]; rfl) (ready_dep hk 5 (by kernel_rfl)))
              have ed := (hF.done 9 (174, SP.is (lv)) (by rw [hD]; rfl) (ready_dep hk 9 (by kernel_rfl)))
              have ee := (hF.done 10 (175, SP.is (.slice Aq kq cq)) (by rw [hD]; rfl) (ready_dep hk 10 (by kernel_rfl)))
              refine wpOp_plain rfl rfl (wp_fcall_v 17 #[.agg (vB y).toArray, .int .i64 (n : Int), .int .i64 (j : Int), lv, .slice Aq kq cq] rfl rfl (by show [ac.eval (.tmp 168), ac.eval (.tmp 169), ac.eval (.tmp 170), ac.eval (.tmp 174), ac.eval (.tmp 175)] = _; rw [show ac.eval (.tmp 168) = _ from ea, show ac.eval (.tmp 169) = _ from eb, show ac.eval (.tmp 170) = _ from ec, show ac.eval (.tmp 174) = _ from ed, show ac.eval (.tmp 175) = _ from ee]) (by go_simp) ((HCK.out W hb1).mono ?_))
              rintro e W2 ⟨rfl, hB⟩
              exact ⟨_, rfl, hl2 11, ((hF.world hB).put 11 176 (SP.is (.int .i64 0)) (.int .i64 0) (by rw [hD]; rfl) rfl (by rw [hD]; rfl) (by rw [hsz]; decide) (by rw [hl]; decide)), hb1.trans (hB.mono hb1.size)⟩
            · have hk3 := hk
              exact wpOp_plain rfl rfl (wp_assign_v (ac.eval (.tmp 176)) rfl rfl ⟨hl2 12, (hF.put 12 30 (SP.is (.int .i64 0)) (ac.eval (.tmp 176)) (by rw [hD]; rfl) ((hF.done 11 (176, SP.is (.int .i64 0)) (by rw [hD]; rfl) (ready_dep hk 11 (by kernel_rfl)))) (by rw [hD]; rfl) (by rw [hsz]; decide) (by rw [hl]; decide)), hb1⟩)
          · clear hb1  
            intro listed ac W hI hr
            obtain ⟨hl, hF, hb1⟩ := hI
            have hall := all_listed (by kernel_rfl) hl hr
            have h165 : ac.eval (.tmp 165) = .slice (some ⟨g, 0, none⟩) (n + 1) cr := hF.done 0 (165, SP.is (.slice (some ⟨g, 0, none⟩) (n + 1) cr)) (by rw [hD]; rfl) (hall 0 (by decide))
            have h166 : ac.eval (.tmp 166) = .int .i64 (n : Int) := hF.done 1 (166, SP.is (.int .i64 (n : Int))) (by rw [hD]; rfl) (hall 1 (by decide))
            have h167 : ac.eval (.tmp 167) = .pointer (some ⟨g, 0 + n * 32, none⟩) := hF.done 2 (167, SP.is (.pointer (some ⟨g, 0 + n * 32, none⟩))) (by rw [hD]; rfl) (hall 2 (by decide))
            have h168 : ac.eval (.tmp 168) = .agg (vB y).toArray := hF.done 3 (168, SP.is (.agg (vB y).toArray)) (by rw [hD]; rfl) (hall 3 (by decide))
            have h169 : ac.eval (.tmp 169) = .int .i64 (n : Int) := hF.done 4 (169, SP.is (.int .i64 (n : Int))) (by rw [hD]; rfl) (hall 4 (by decide))
            have h170 : ac.eval (.tmp 170) = .int .i64 (j : Int) := hF.done 5 (170, SP.is (.int .i64 (j : Int))) (by rw [hD]; rfl) (hall 5 (by decide))
            have h171 : ac.eval (.tmp 171) = .slice (some ⟨b, o, none⟩) n cap := hF.done 6 (171, SP.is (.slice (some ⟨b, o, none⟩) n cap)) (by rw [hD]; rfl) (hall 6 (by decide))
            have h172 : ac.eval (.tmp 172) = .int .i64 (j : Int) := hF.done 7 (172, SP.is (.int .i64 (j : Int))) (by rw [hD]; rfl) (hall 7 (by decide))
            have h173 : ac.eval (.tmp 173) = .pointer (some ⟨b, o + j * 1, none⟩) := hF.done 8 (173, SP.is (.pointer (some ⟨b, o + j * 1, none⟩))) (by rw [hD]; rfl) (hall 8 (by decide))
            have h174 : ac.eval (.tmp 174) = lv := hF.done 9 (174, SP.is (lv)) (by rw [hD]; rfl) (hall 9 (by decide))
            have h175 : ac.eval (.tmp 175) = .slice Aq kq cq := hF.done 10 (175, SP.is (.slice Aq kq cq)) (by rw [hD]; rfl) (hall 10 (by decide))
            have h176 : ac.eval (.tmp 176) = .int .i64 0 := hF.done 11 (176, SP.is (.int .i64 0)) (by rw [hD]; rfl) (hall 11 (by decide))
            have h30 : ac.eval (.tmp 30) = .int .i64 0 := hF.done 12 (30, SP.is (.int .i64 0)) (by rw [hD]; rfl) (hall 12 (by decide))
            have ea := hF.lay [(165, .slice (some ⟨g, 0, none⟩) (n + 1) cr), (166, .int .i64 (n : Int)), (167, .pointer (some ⟨g, 0 + n * 32, none⟩)), (168, .agg (vB y).toArray), (169, .int .i64 (n : Int)), (170, .int .i64 (j : Int)), (171, .slice (some ⟨b, o, none⟩) n cap), (172, .int .i64 (j : Int)), (173, .pointer (some ⟨b, o + j * 1, none⟩)), (174, lv), (175, .slice Aq kq cq), (176, .int .i64 0), (30, .int .i64 0)] (by rw [hD, hsz]; rfl) (by simp only [List.forall_mem_cons, List.not_mem_nil, false_implies, implies_true, and_true]; exact ⟨h165, h166, h167, h168, h169, h170, h171, h172, h173, h174, h175, h176, h30⟩)
            rw [ha0] at ea
            simp only [List.foldl_cons, List.foldl_nil, List.setIfInBounds_toArray, List.set_cons_zero, List.set_cons_succ] at ea
            clear hF hall hr hl hD  zs8 zs11 zs22 zs27 zs28 ha0 hsz h165 h166 h167 h168 h169 h170 h171 h172 h173 h174 h175 h176 h30
            subst ea
            have HBW : Hid (Below B W1 W) := bst HBE.out HBV3.out hb1
            go_wp2_with fail
            go_ret
            exact ⟨rfl, HB1.out.trans ((show Below W1.heap.size W1 _ by rw [← HBE.out]; exact HBW.out).mono HB1.out.size)⟩

end Go.Proofs.YtlknanjbiicghaaDoor
