/-
  The document's lists of binary digits, wherever they lie: causewayref02's cut, number, answered.
-/
import Derived.Test.YtkbdnebmekhcdaaWDig
import Derived.Test.YtkbdnebmekhcdaaWDgM
import Derived.Test.YtkbdnebmekhcdaaWKn
namespace Go.Proofs.Ytkbdnebmekhcdaa
open Go Go.RowKit
open Wd

/-- The first n cells of block N are the binary digits of m. -/
def Cl (W : World) (N n m : Nat) : Prop := N < W.heap.size ∧ ∀ j, j < n → W.cell? ⟨N, j, none⟩ = some (.int .i64 ((bt m j : Nat) : Int))
theorem Cl.below {W W' : World} {N n m : Nat} (h : Cl W N n m) (hB : Below W.heap.size W W') : Cl W' N n m :=
  ⟨Nat.lt_of_lt_of_le h.1 hB.size, fun j hj => (hB.cell (p := ⟨N, j, none⟩) h.1).trans (h.2 j hj)⟩
theorem Cl.less {W : World} {N n k m : Nat} (h : Cl W N n m) (hk : k ≤ n) : Cl W N k m := ⟨h.1, fun j hj => h.2 j (by omega)⟩
theorem Cl.row {W : World} {N n m : Nat} (r : Row W N (vI (bts m n)) 3) : Cl W N n m :=
  ⟨Row.lt r, fun j hj => by have := r.cell j _ (vI_get _ j (by rw [bts_length]; exact hj)); rw [bts_getD _ _ _ hj] at this; exact this⟩
theorem Cl.drewN {W : World} {N n m : Nat} (h : Cl W N n m) (k : Nat) : Cl (W.drewN k) N n m := ⟨h.1, h.2⟩
theorem Cl.set_other {W : World} {N n m : Nat} (h : Cl W N n m) (M j : Nat) (v : Value) (hne : N ≠ M) : Cl (W.setCell ⟨M, j, none⟩ v) N n m :=
  ⟨by rw [World.size_setCell]; exact h.1, fun i hi => by rw [World.cell?_setCell_other _ _ _ _ (by intro e; simp at e)]; exact h.2 i hi⟩
theorem Cl.drew {W : World} {N n m : Nat} (h : Cl W N n m) : Cl W.drew N n m := ⟨h.1, h.2⟩
/-- v is a list of n binary digits, those of m. -/
def Dg (W : World) (v : Value) (n m : Nat) : Prop := m < 2 ^ n ∧ n < 4611686018427387904 ∧ ((v = .slice none 0 0 ∧ n = 0) ∨ ∃ N c, v = .slice (some ⟨N, 0, none⟩) n c ∧ n ≤ c ∧ Cl W N n m)
theorem Dg.below {W W' : World} {v : Value} {n m : Nat} (h : Dg W v n m) (hB : Below W.heap.size W W') : Dg W' v n m :=
  ⟨h.1, h.2.1, h.2.2.imp id (fun ⟨N, c, e, hc, hcl⟩ => ⟨N, c, e, hc, hcl.below hB⟩)⟩

set_option maxRecDepth 100000 in
set_option maxHeartbeats 1000000 in
theorem cut_cl (a N n c : Nat) (hn : blen a ≤ n) (hc : n ≤ c) (hc2 : n < 4611686018427387904) (w : World) (HC : Hid (Cl w N n a)) :
    Calls Try.prog 61 #[.slice (some ⟨N, 0, none⟩) n c] w fun e w' => e = .returned (.slice (some ⟨N, 0, none⟩) (blen a) c) ∧ w' = w := by
  go_enter Try.func61, Try.ntmps61
  go_wp2
  go_loopw [3] (fun v wr => ∃ t : Nat, t ≤ n ∧ v = .int .i64 (t : Int) ∧ wr = w ∧ Hid (blen a ≤ t)) (fun v _ => (intOf v).toNat)
  case atStart => exact ⟨n, Nat.le_refl _, rfl, rfl, hn⟩
  case round =>
    obtain ⟨t, ht, rfl, rfl, hb⟩ := hrel
    by_cases h0 : 0 < t
    · obtain ⟨k, rfl⟩ : ∃ k, t = k + 1 := ⟨t - 1, by omega⟩
      have ei : (((k + 1 : Nat) : Int) - 1) = (k : Int) := by omega
      have hp : (0 : Int) < ((k + 1 : Nat) : Int) := by omega
      have g := HC.out.2 k (by omega)
      have hkn : k < n := by omega
      by_cases hz : bt a k = 0
      · rw [hz] at g
        have HB : Hid (blen a ≤ k) := by
          rcases Nat.lt_or_ge (blen a) (k + 1) with h | h
          · show blen a ≤ k; omega
          · exfalso
            have := bt_top a k (by have := hb.out; omega)
            omega
        clear hz h0 ht
        go_wp2
        exact ⟨⟨k, by omega, rfl, trivial, HB.out⟩, by simp [intOf]⟩
      · have h1 : bt a k = 1 := by have := bt_lt a k; omega
        rw [h1] at g
        have HB : Hid (blen a = k + 1) := by
          show blen a = k + 1
          rcases Nat.lt_or_ge (blen a) (k + 1) with h | h
          · exact absurd (bt_zero a k (by omega)) hz
          · have := hb.out; omega
        clear hz h0 h1 ht
        go_wp2
        go_ret
        exact ⟨by rw [HB.out]; rfl, rfl⟩
    · have et : t = 0 := by omega
      subst et
      clear h0 ht
      have HB : Hid (blen a = 0) := by have := hb.out; show blen a = 0; omega
      go_wp2
      go_ret
      exact ⟨by rw [HB.out]; rfl, rfl⟩

set_option maxRecDepth 100000 in
set_option maxHeartbeats 1000000 in
theorem cut_nil (w : World) : Calls Try.prog 61 #[.slice none 0 0] w fun e w' => e = .returned (.slice none 0 0) ∧ w' = w := by
  go_enter Try.func61, Try.ntmps61
  go_wp2
  go_loopw [3] (fun v wr => v = .int .i64 0 ∧ wr = w) (fun _ _ => 0)
  case atStart => exact ⟨rfl, rfl⟩
  case round =>
    obtain ⟨rfl, rfl⟩ := hrel
    go_wp2
    go_ret
    exact ⟨rfl, rfl⟩

theorem blen_zero (m n : Nat) (h : m < 2 ^ n) (hn : n = 0) : m = 0 ∧ blen m = 0 := by
  subst hn
  have : m = 0 := by simpa using h
  subst this
  exact ⟨rfl, rfl⟩
theorem cut_dg (v : Value) (n m : Nat) (w : World) (h : Dg w v n m) :
    Calls Try.prog 61 #[v] w fun e w' => ∃ v', e = .returned v' ∧ Dg w v' (blen m) m ∧ w' = w := by
  obtain ⟨h1, h2, h3⟩ := h
  have hl := blen_le m n h1
  rcases h3 with ⟨rfl, hn⟩ | ⟨N, c, rfl, hc, hcl⟩
  · refine (cut_nil w).mono fun e w' h => ⟨_, h.1, ⟨blen_lt m, by omega, Or.inl ⟨rfl, (blen_zero m n h1 hn).2⟩⟩, h.2⟩
  · refine (cut_cl m N n c hl hc h2 w hcl).mono fun e w' h => ⟨_, h.1, ⟨blen_lt m, by omega, Or.inr ⟨N, c, rfl, by omega, hcl.less hl⟩⟩, h.2⟩

/-- What number and answered tell. -/
def numR (m : Nat) : Nat := if m < 2 ^ 256 then m else 0
theorem wide_of (m : Nat) : m < 2 ^ 256 ↔ blen m ≤ 256 := ⟨blen_le m 256, fun h => Nat.lt_of_lt_of_le (blen_lt m) (Nat.pow_le_pow_right (by decide) h)⟩

set_option maxRecDepth 100000 in
set_option maxHeartbeats 2000000 in
theorem number_dg (v : Value) (n m : Nat) (w : World) (h : Dg w v n m) :
    Calls Try.prog 60 #[v] w fun e w' => e = .returned (.tuple #[.agg (vQ (dgs (numR m) 4)).toArray, .bool (decide (m < 2 ^ 256))]) ∧ Below w.heap.size w w' := by
  have n2 : Row (w.alloc (Obj.cells #[Value.int IntKind.u64 0, Value.int IntKind.u64 0, Value.int IntKind.u64 0, Value.int IntKind.u64 0] 33)) w.heap.size (vQ (List.replicate 4 0)) 33 := Row.new' rfl rfl
  have hb0 : Below w.heap.size w (w.alloc (Obj.cells #[Value.int IntKind.u64 0, Value.int IntKind.u64 0, Value.int IntKind.u64 0, Value.int IntKind.u64 0] 33)) := (Below.refl _ _).alloc (Nat.le_refl _) _
  have HCUT : Hid (Calls _ _ _ _ _) := cut_dg v n m _ (h.below hb0)
  clear h
  go_enter Try.func60, Try.ntmps60
  go_wp2_with fail
  generalize w.alloc (Obj.cells #[Value.int IntKind.u64 0, Value.int IntKind.u64 0, Value.int IntKind.u64 0, Value.int IntKind.u64 0] 33) = W0 at *
  refine HCUT.out.mono ?_
  rintro e W0 ⟨v1, rfl, hD, rfl⟩
  clear HCUT
  have n4 : Row (W0.alloc (Obj.cells #[Value.int IntKind.u64 0, Value.int IntKind.u64 0, Value.int IntKind.u64 0, Value.int IntKind.u64 0] 33)) W0.heap.size (vQ (List.replicate 4 0)) 33 := Row.new' rfl rfl
  have l2 := Row.lt n2
  have n2' := Row.alloc n2 (Obj.cells #[Value.int IntKind.u64 0, Value.int IntKind.u64 0, Value.int IntKind.u64 0, Value.int IntKind.u64 0] 33)
  have hb1 := hb0.alloc hb0.size (Obj.cells #[Value.int IntKind.u64 0, Value.int IntKind.u64 0, Value.int IntKind.u64 0, Value.int IntKind.u64 0] 33)
  have hBa : Below W0.heap.size W0 (W0.alloc (Obj.cells #[Value.int IntKind.u64 0, Value.int IntKind.u64 0, Value.int IntKind.u64 0, Value.int IntKind.u64 0] 33)) := (Below.refl _ _).alloc (Nat.le_refl _) _
  clear n2 hb0
  obtain ⟨k, hk⟩ : ∃ k, k = blen m := ⟨_, rfl⟩
  have HK : Hid (k = blen m) := hk
  rw [← hk] at hD
  clear hk
  obtain ⟨d1, d2, d3⟩ := hD
  have HM : Hid (m < 2 ^ k) := d1
  clear d1
  have hex : ∀ (v2 : Value), True := fun _ => trivial
  clear hex
  by_cases hl : k ≤ 256
  · have hm : m < 2 ^ 256 := (wide_of m).2 (by rw [← HK.out]; exact hl)
    have HR : Hid (numR m = m ∧ decide (m < 2 ^ 256) = true) := ⟨if_pos hm, decide_eq_true hm⟩
    have HMM : Hid (m % 2 ^ k = m) := Nat.mod_eq_of_lt HM.out
    clear hm
    rcases d3 with ⟨rfl, hk0⟩ | ⟨N, c, rfl, hc, hcl⟩
    · subst hk0
      have HZ : Hid (m = 0) := (blen_zero m 0 HM.out rfl).1
      clear hBa
      go_wp2
      generalize W0.alloc (Obj.cells #[Value.int IntKind.u64 0, Value.int IntKind.u64 0, Value.int IntKind.u64 0, Value.int IntKind.u64 0] 33) = W1 at *
      generalize W0.heap.size = M at *
      have T := n2'.there 0 (vQ (List.replicate 4 0)).toArray.size (Nat.le_refl 4)
      have fin := n2'.over (vs := vQ (List.replicate 4 0)) rfl
      have hbf := below_setCells hb1 (b := w.heap.size) (o := 0) (Nat.le_refl _) (vQ (List.replicate 4 0))
      have i4 : (Try.prog.info? 33).map (·.size) = some (vQ (List.replicate 4 0)).length := info_w4
      go_loopw [5] (fun v wr => v = .int .i64 0 ∧ wr = W1) (fun _ _ => 0)
      case atStart => exact ⟨rfl, rfl⟩
      case round =>
        obtain ⟨rfl, rfl⟩ := hrel
        go_wp2_with (first
          | (refine wpList_load_mid rfl 33 (.tmp 4) rfl M 0 rfl (vQ (List.replicate 4 0)) _ n4.all Try.underlying33 rfl i4 ?_; simp only [Act.put, List.setIfInBounds_toArray, List.set_cons_zero, List.set_cons_succ])
          | (refine wpList_store_mid rfl 33 (.tmp 2) (.tmp 34) rfl w.heap.size 0 (vQ (List.replicate 4 0)).toArray rfl rfl T info_w4 (all_oneCell_toArray (vQ_one _)) ?_; simp only [Act.put]))
        exact bodyPost_ret (results_row_tmp Try.results60 _ _ w.heap.size 33 (vQ (List.replicate 4 0)) (.bool true) rfl rfl fin Try.underlying33 info_w4 rfl) rfl ⟨by rw [HR.out.1, HR.out.2, HZ.out, dgs_zero], hbf⟩
    · have hNM := hcl.1
      have HCL : Hid (Cl _ N k m) := hcl.below hBa
      clear hcl hBa
      go_wp2
      generalize W0.alloc (Obj.cells #[Value.int IntKind.u64 0, Value.int IntKind.u64 0, Value.int IntKind.u64 0, Value.int IntKind.u64 0] 33) = W1 at *
      generalize W0.heap.size = M at *
      go_loopw [5] (fun v wr => ∃ t : Nat, t ≤ k ∧ v = .int .i64 (t : Int) ∧ Below w.heap.size w wr ∧ Row wr w.heap.size (vQ (List.replicate 4 0)) 33 ∧ Row wr M (vQ (dgs (m % 2 ^ t) 4)) 33 ∧ Hid (Cl wr N k m)) (fun v _ => k - (intOf v).toNat)
      case atStart => exact ⟨0, by omega, rfl, hb1, n2', by rw [Nat.pow_zero, Nat.mod_one, dgs_zero]; exact n4, HCL.out⟩
      case round =>
        clear hb1 n2' n4 HCL
        obtain ⟨t, ht, rfl, hb1, n2, n4, hC⟩ := hrel
        by_cases hlt : t < k
        · have hq : t / 64 < 4 := by omega
          have hr : t % 64 < 64 := Nat.mod_lt _ (by decide)
          have g4 := n4.cell (t / 64) _ (vQ_get _ (t / 64) (by rw [dgs_length]; exact hq))
          rw [dgs_getD _ _ _ hq] at g4
          have gf := n4.thaw (t / 64)
          have gl := hC.out.2 t hlt
          obtain ⟨p1, p2, p3⟩ := put_bit m t (by omega)
          have hor := upl_or (lim (m % 2 ^ t) (t / 64)) (bt m t) (t % 64) p1 (by omega)
          rw [Nat.mod_eq_of_lt p3] at hor
          have HP : Hid _ := p2
          have hx := lim_lt (m % 2 ^ t) (t / 64)
          have hd := bt_lt m t
          have e1 : (t : Int) / 64 = ((t / 64 : Nat) : Int) := by omega
          have e2 : (t : Int) % 64 = ((t % 64 : Nat) : Int) := by omega
          clear p2 p1
          generalize lim (m % 2 ^ t) (t / 64) = x at *
          generalize bt m t = d at *
          obtain ⟨q, hqe⟩ : ∃ q, q = t / 64 := ⟨_, rfl⟩
          obtain ⟨r, hre⟩ : ∃ r, r = t % 64 := ⟨_, rfl⟩
          rw [← hqe] at g4 gf e1 hq HP
          rw [← hre] at e2 hr hor p3 HP
          have eB : IntKind.u64.wrap ((d : Int) * 2 ^ r) = ((d * 2 ^ r : Nat) : Int) := by rw [wrap_shl, Nat.mod_eq_of_lt p3]
          obtain ⟨y, hy⟩ : ∃ y, y = d * 2 ^ r := ⟨_, rfl⟩
          rw [← hy] at eB hor p3 HP
          have eO : bits .or .u64 (x : Int) (y : Int) = ((x + y : Nat) : Int) := by rw [bits_or_u64_nat _ _ hx p3, hor]
          obtain ⟨z, hz⟩ : ∃ z, z = x + y := ⟨_, rfl⟩
          rw [← hz] at eO HP
          have eC : IntKind.u64.wrap (d : Int) = (d : Int) := by rw [IntKind.wrap_u64]; omega
          have hdi : (d : Int) < 2 := by omega
          clear hqe hre hy hz hor hx p3 hd ht
          go_wp2
          go_region
          go_wp2
          refine ⟨⟨t + 1, hlt, by go_num, Below.drew (Below.setCell hb1 (by simp; omega) _), Row.drew (n2.set_other _ _ _ (by omega)), ?_, Cl.drew (hC.out.set_other _ _ _ (by omega))⟩, by simp [intOf]; omega⟩
          have := n4.set q (.int .u64 (z : Int))
          rw [vQ_set, HP.out] at this
          exact Row.drew this
        · have et : t = k := by omega
          subst et
          have n4' : Row wr M (vQ (dgs m 4)) 33 := by have := n4; rw [HMM.out] at this; exact this
          obtain ⟨cs, Hc⟩ : ∃ c, Wc c m := ⟨_, rfl⟩
          rw [← show cs = vQ (dgs m 4) from Hc] at n4'
          have T := Hc.there n2 rfl
          have fin := n2.over (vs := cs) (by rw [Hc.len]; rfl)
          have hbf := below_setCells hb1 (b := w.heap.size) (o := 0) (Nat.le_refl _) cs
          clear n4 hlt ht
          go_wp2_with (first
            | (refine wpList_load_mid rfl 33 (.tmp 4) rfl M 0 rfl cs _ n4'.all Try.underlying33 rfl Hc.info ?_; simp only [Act.put, List.setIfInBounds_toArray, List.set_cons_zero, List.set_cons_succ])
            | (refine wpList_store_mid rfl 33 (.tmp 2) (.tmp 34) rfl w.heap.size 0 cs.toArray rfl rfl T Hc.info' Hc.one ?_; simp only [Act.put]))
          exact bodyPost_ret (results_row_tmp Try.results60 _ _ w.heap.size 33 cs (.bool true) rfl rfl fin Try.underlying33 info_w4 Hc.len) rfl ⟨by rw [HR.out.1, HR.out.2, ← show cs = vQ (dgs m 4) from Hc], hbf⟩
  · have hm : ¬ m < 2 ^ 256 := fun h => hl (by rw [HK.out]; exact (wide_of m).1 h)
    have HR : Hid (numR m = 0 ∧ decide (m < 2 ^ 256) = false) := ⟨if_neg hm, decide_eq_false hm⟩
    have hki : (256 : Int) < (k : Int) := by omega
    rcases d3 with ⟨rfl, hk0⟩ | ⟨N, c, rfl, hc, hcl⟩
    · omega
    · have T := n2'.there 0 (vQ (List.replicate 4 0)).toArray.size (Nat.le_refl 4)
      have fin := n2'.over (vs := vQ (List.replicate 4 0)) rfl
      have hbf := below_setCells hb1 (b := w.heap.size) (o := 0) (Nat.le_refl _) (vQ (List.replicate 4 0))
      have i4 : (Try.prog.info? 33).map (·.size) = some (vQ (List.replicate 4 0)).length := info_w4
      clear hm hl hcl hBa
      go_wp2_with (first
        | (refine wpList_load_mid rfl 33 (.tmp 4) rfl W0.heap.size 0 rfl (vQ (List.replicate 4 0)) _ n4.all Try.underlying33 rfl i4 ?_; simp only [Act.put, List.setIfInBounds_toArray, List.set_cons_zero, List.set_cons_succ])
        | (refine wpList_store_mid rfl 33 (.tmp 2) (.tmp 11) rfl w.heap.size 0 (vQ (List.replicate 4 0)).toArray rfl rfl T info_w4 (all_oneCell_toArray (vQ_one _)) ?_; simp only [Act.put]))
      exact bodyPost_ret (results_row_tmp Try.results60 _ _ w.heap.size 33 (vQ (List.replicate 4 0)) (.bool false) rfl rfl fin Try.underlying33 info_w4 rfl) rfl ⟨by rw [HR.out.1, HR.out.2, dgs_zero], hbf⟩

/-- What answered tells. -/
def ansErr (m : Nat) : Int := if m < 2 ^ 256 then 0 else 22

set_option maxRecDepth 100000 in
set_option maxHeartbeats 2000000 in
theorem answered_dg (v : Value) (n m : Nat) (w : World) (h : Dg w v n m) :
    Calls Try.prog 43 #[v] w fun e w' => e = .returned (.tuple #[.agg (vQ (dgs (numR m) 4)).toArray, .int .i64 (ansErr m)]) ∧ Below w.heap.size w w' := by
  have r2 : Row (w.alloc (Obj.cells #[Value.int IntKind.u64 0, Value.int IntKind.u64 0, Value.int IntKind.u64 0, Value.int IntKind.u64 0] 33)) w.heap.size (vQ (List.replicate 4 0)) 33 := Row.new' rfl rfl
  have hb0 : Below w.heap.size w (w.alloc (Obj.cells #[Value.int IntKind.u64 0, Value.int IntKind.u64 0, Value.int IntKind.u64 0, Value.int IntKind.u64 0] 33)) := (Below.refl _ _).alloc (Nat.le_refl _) _
  have HN : Hid (Calls _ _ _ _ _) := number_dg v n m _ (h.below hb0)
  obtain ⟨cs, Hc⟩ : ∃ c, Wc c (numR m) := ⟨_, rfl⟩
  rw [← show cs = vQ (dgs (numR m) 4) from Hc] at HN ⊢
  clear h
  go_enter Try.func43, Try.ntmps43
  go_wp2_with fail
  generalize w.alloc (Obj.cells #[Value.int IntKind.u64 0, Value.int IntKind.u64 0, Value.int IntKind.u64 0, Value.int IntKind.u64 0] 33) = W0 at *
  refine HN.out.mono ?_
  rintro e V ⟨rfl, hB⟩
  have hb1 := hb0.trans (hB.mono hb0.size)
  replace r2 := Row.below r2 hB (Row.lt r2)
  have l2 := Row.lt r2
  clear hB hb0 HN
  have n4 : Row (V.alloc (Obj.cells #[Value.int IntKind.u64 0, Value.int IntKind.u64 0, Value.int IntKind.u64 0, Value.int IntKind.u64 0] 33)) V.heap.size (vQ (List.replicate 4 0)) 33 := Row.new' rfl rfl
  have T4 := Hc.there n4 rfl
  have r4 : Row ((V.alloc (Obj.cells #[Value.int IntKind.u64 0, Value.int IntKind.u64 0, Value.int IntKind.u64 0, Value.int IntKind.u64 0] 33)).setCells V.heap.size 0 cs) V.heap.size cs 33 := n4.over (by rw [Hc.len]; rfl)
  have u2 : Row ((V.alloc (Obj.cells #[Value.int IntKind.u64 0, Value.int IntKind.u64 0, Value.int IntKind.u64 0, Value.int IntKind.u64 0] 33)).setCells V.heap.size 0 cs) w.heap.size (vQ (List.replicate 4 0)) 33 := Row.setCells_other (Row.alloc r2 _) _ _ _ (by omega)
  have hb2 : Below w.heap.size w ((V.alloc (Obj.cells #[Value.int IntKind.u64 0, Value.int IntKind.u64 0, Value.int IntKind.u64 0, Value.int IntKind.u64 0] 33)).setCells V.heap.size 0 cs) := below_setCells (hb1.alloc hb1.size _) hb1.size _
  clear n4 r2 hb1
  by_cases hm : m < 2 ^ 256
  · have HR : Hid (ansErr m = 0) := if_pos hm
    have hd : decide (m < 2 ^ 256) = true := decide_eq_true hm
    rw [hd]
    have T := Hc.there u2 rfl
    have fin := u2.over (vs := cs) (by rw [Hc.len]; rfl)
    have hbf := below_setCells hb2 (b := w.heap.size) (o := 0) (Nat.le_refl _) cs
    clear hm hd
    go_wp2_with (first
      | (refine wpList_store_mid rfl 33 (.tmp 4) (.tmp 9) rfl V.heap.size 0 cs.toArray rfl rfl T4 Hc.info' Hc.one ?_; simp only [Act.put])
      | (refine wpList_load_mid rfl 33 (.tmp 4) rfl V.heap.size 0 rfl cs _ r4.all Try.underlying33 rfl Hc.info ?_; simp only [Act.put, List.setIfInBounds_toArray, List.set_cons_zero, List.set_cons_succ])
      | (refine wpList_store_mid rfl 33 (.tmp 2) (.tmp 14) rfl w.heap.size 0 cs.toArray rfl rfl T Hc.info' Hc.one ?_; simp only [Act.put]))
    exact bodyPost_ret (results_row_tmp Try.results43 _ _ w.heap.size 33 cs (.int .i64 0) rfl rfl fin Try.underlying33 info_w4 Hc.len) rfl ⟨by rw [HR.out], hbf⟩
  · have HR : Hid (ansErr m = 22) := if_neg hm
    have hd : decide (m < 2 ^ 256) = false := decide_eq_false hm
    rw [hd]
    have HZ : Hid (cs = vQ (List.replicate 4 0)) := by
      show cs = _
      rw [show cs = vQ (dgs (numR m) 4) from Hc, show numR m = 0 from if_neg hm, dgs_zero]
    have T := u2.there 0 (vQ (List.replicate 4 0)).toArray.size (Nat.le_refl 4)
    have fin := u2.over (vs := vQ (List.replicate 4 0)) rfl
    have hbf := below_setCells hb2 (b := w.heap.size) (o := 0) (Nat.le_refl _) (vQ (List.replicate 4 0))
    clear hm hd
    go_wp2_with (first
      | (refine wpList_store_mid rfl 33 (.tmp 4) (.tmp 9) rfl V.heap.size 0 cs.toArray rfl rfl T4 Hc.info' Hc.one ?_; simp only [Act.put])
      | (refine wpList_store_mid rfl 33 (.tmp 2) (.tmp 13) rfl w.heap.size 0 (vQ (List.replicate 4 0)).toArray rfl rfl T info_w4 (all_oneCell_toArray (vQ_one _)) ?_; simp only [Act.put]))
    exact bodyPost_ret (results_row_tmp Try.results43 _ _ w.heap.size 33 (vQ (List.replicate 4 0)) (.int .i64 22) rfl rfl fin Try.underlying33 info_w4 rfl) rfl ⟨by rw [HR.out, HZ.out], hbf⟩

end Go.Proofs.Ytkbdnebmekhcdaa
