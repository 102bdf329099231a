/-
  causewayref10's parts: the walk.
-/
import Derived.Test.YtclbiophgnkggaaGreatDoorMkGf
namespace Go.Proofs.YtclbiophgnkggaaGreatDoor
open Go Go.RowKit
open Wd

theorem bits_or_i64_nat (a b : Nat) (ha : a < 9223372036854775808) (hb : b < 9223372036854775808) : bits .or .i64 (a : Int) (b : Int) = ((a ||| b : Nat) : Int) := by
  have hab : a ||| b < 9223372036854775808 := Nat.or_lt_two_pow (n := 63) ha hb
  have key : (BitVec.ofInt 64 (a : Int) ||| BitVec.ofInt 64 (b : Int)).toNat = a ||| b := by
    rw [BitVec.toNat_or, BitVec.toNat_ofInt, BitVec.toNat_ofInt]
    rw [show ((a : Int) % ((2 ^ 64 : Nat) : Int)).toNat = a by omega, show ((b : Int) % ((2 ^ 64 : Nat) : Int)).toNat = b by omega]
  show IntKind.i64.wrap ((BitVec.ofInt 64 (a : Int) ||| BitVec.ofInt 64 (b : Int)).toNat : Nat) = _
  rw [key, IntKind.wrap_i64]
  omega
theorem shl1_i64 (r : Nat) (hr : r ≤ 7) : IntKind.i64.wrap ((2 : Int) ^ r) = ((2 ^ r : Nat) : Int) ∧ 2 ^ r ≤ 128 := by
  have : ∀ r : Fin 8, IntKind.i64.wrap ((2 : Int) ^ r.1) = ((2 ^ r.1 : Nat) : Int) ∧ 2 ^ r.1 ≤ 128 := by decide
  exact this ⟨r, by omega⟩
theorem Rf.drw {W : World} {N n : Nat} {f : Nat → Nat} (h : Rf W N n f) : Rf W.drew N n f := by
  obtain ⟨l, h1, h2⟩ := h
  exact ⟨l, Row.drew h1, h2⟩
theorem Ch.drw {W : World} {N o n a : Nat} (h : Ch W N o n a) : Ch W.drew N o n a := ⟨h.1, h.2⟩
/-- The rest's digits behind u of 33 moved up. -/
def shf (R e u j : Nat) : Nat := if j < u then ht (2 * R + e) (32 - j) else ht R (32 - j)

set_option maxRecDepth 100000 in
set_option maxHeartbeats 8000000 in
theorem parts_g (a b N M c1 c2 : Nat) (ha : a < 256 ^ 32) (hb : b < 256 ^ 32) (hb0 : 0 < b) (w : World) (r1 : Ch w N 0 32 a) (r2 : Ch w M 0 32 b) :
    Calls Tryz.prog 28 #[.slice (some ⟨N, 0, none⟩) 32 c1, .slice (some ⟨M, 0, none⟩) 32 c2] w fun e w' => ∃ q r, e = .returned (.tuple #[.slice (some ⟨q, 0, none⟩) 32 32, .slice (some ⟨r, 1, none⟩) 32 32]) ∧ Ch w' q 0 32 (a / b) ∧ Ch w' r 1 32 (a % b) ∧ Below w.heap.size w w' := by
  have HA : Hid (a < 256 ^ 32) := ha
  have HB : Hid (b < 256 ^ 32) := hb
  have HB0 : Hid (0 < b) := hb0
  have H1 : Hid (Ch w N 0 32 a) := r1
  have H2 : Hid (Ch w M 0 32 b) := r2
  clear ha hb hb0 r1 r2
  go_enter Tryz.func28, Tryz.ntmps28
  go_upto_region 3 with (first
    | (refine wpList_make_i rfl 29 (.const (.int .i64 32)) (.const (.int .i64 32)) rfl 3 32 _ _ rfl rfl rfl rfl (by omega) Tryz.underlying29 info_all_int ?_; simp only [Act.put, List.setIfInBounds_toArray, List.set_cons_zero, List.set_cons_succ])
    | (refine wpList_make_i rfl 29 (.const (.int .i64 33)) (.const (.int .i64 33)) rfl 3 33 _ _ rfl rfl rfl rfl (by omega) Tryz.underlying29 info_all_int ?_; simp only [Act.put, List.setIfInBounds_toArray, List.set_cons_zero, List.set_cons_succ]))
  obtain ⟨W0, hW0⟩ : ∃ W, W = (w.alloc (Obj.cells (vI (List.replicate 32 0)).toArray 3)).alloc (Obj.cells (vI (List.replicate 33 0)).toArray 3) := ⟨_, rfl⟩
  have hQ : Rf W0 w.heap.size 32 (fun _ => 0) := by
    rw [hW0]
    exact (Rf.start w.heap.size 32 rfl).be ((Below.refl _ _).alloc (Nat.le_refl _) _)
  have hR : Rf W0 (w.heap.size + 1) 33 (fun _ => 0) := by rw [hW0]; exact Rf.start _ 33 (by simp)
  have hB0 : Below w.heap.size w W0 := by rw [hW0]; exact ((Below.refl _ _).alloc (Nat.le_refl _) _).alloc (by simp) _
  have hsz : W0.heap.size = w.heap.size + 2 := by rw [hW0]; simp
  have HSZ : Hid (W0.heap.size = w.heap.size + 2) := hsz
  rw [← hW0]
  obtain ⟨b1, hb1⟩ : ∃ b1, b1 = (w.alloc (Obj.cells (vI (List.replicate 32 0)).toArray 3)).heap.size := ⟨_, rfl⟩
  have HB1 : Hid (b1 = w.heap.size + 1) := by show b1 = _; rw [hb1]; simp
  rw [← hb1]
  clear hb1
  have HQ : Hid (Rf W0 w.heap.size 32 (fun _ => 0)) := hQ
  have HR : Hid (Rf W0 (w.heap.size + 1) 33 (fun _ => 0)) := hR
  clear hQ hR hW0 hsz
  go_wp2_with (refine wpList_nought_on rfl (.tmp 15) (.tmp 16) rfl W0 b M c2 rfl rfl HB.out (H2.out.be hB0) ?_; intro g cap W2 hg hC2 hB2; simp only [Act.put, List.setIfInBounds_toArray, List.set_cons_zero, List.set_cons_succ])
  have HQ2 : Hid (Rf W2 w.heap.size 32 (fun _ => 0)) := HQ.out.be hB2
  have HR2 : Hid (Rf W2 (w.heap.size + 1) 33 (fun _ => 0)) := HR.out.be hB2
  have hBw : Below w.heap.size w W2 := hB0.trans (hB2.mono (by have := HSZ.out; omega))
  have HG : Hid (w.heap.size + 2 ≤ g) := by have := HSZ.out; show w.heap.size + 2 ≤ g; omega
  have HC2 : Hid (Ch W2 g 0 33 b) := hC2
  clear HQ HR hB0 hB2 hg hC2 HSZ
  obtain ⟨bw, hbw⟩ : ∃ bw, bw = w.heap.size := ⟨_, rfl⟩
  have HBW : Hid (bw = w.heap.size) := hbw
  go_loopw [7, 9, 10, 11, 12] (fun rv v _ _ _ wr => ∃ t n1 : Nat, t ≤ 256 ∧ rv = .slice (some ⟨n1, 0, none⟩) 33 33 ∧ v = .int .i64 (t : Int) ∧ Below w.heap.size w wr ∧ Hid (w.heap.size < n1 ∧ n1 ≠ g ∧ Rf wr n1 33 (fun j => ht (a / 2 ^ (256 - t) % b) (32 - j)) ∧ Rf wr w.heap.size 32 (fun j => ht (a / 2 ^ (256 - t) / b * 2 ^ (256 - t)) (31 - j)) ∧ Ch wr g 0 33 b)) (fun _ v _ _ _ _ => 256 - (intOf v).toNat)
  case atStart =>
    refine ⟨0, b1, Nat.zero_le _, rfl, rfl, hBw, by have := HB1.out; omega, by have := HG.out; have := HB1.out; omega, ?_, ?_, HC2.out⟩
    · rw [HB1.out]
      refine HR2.out.congr (fun j _ => ?_)
      rw [Nat.sub_zero, show a / 2 ^ 256 = 0 from Nat.div_eq_of_lt (by rw [← p32]; exact HA.out), Nat.zero_mod, ht_nil]
    · refine HQ2.out.congr (fun j _ => ?_)
      rw [Nat.sub_zero, show a / 2 ^ 256 = 0 from Nat.div_eq_of_lt (by rw [← p32]; exact HA.out), Nat.zero_div, Nat.zero_mul, ht_nil]
  case round =>
    clear HQ2 HR2 hBw HC2
    obtain ⟨t, n1, ht', rfl, rfl, hb, hI⟩ := hrel
    by_cases hlt : t < 256
    · obtain ⟨Q0, hQ0⟩ : ∃ Q0, Q0 = a / 2 ^ (256 - t) / b := ⟨_, rfl⟩
      obtain ⟨R0, hR0⟩ : ∃ R0, R0 = a / 2 ^ (256 - t) % b := ⟨_, rfl⟩
      obtain ⟨e, he⟩ : ∃ e, e = hbit a t := ⟨_, rfl⟩
      have he2 : e < 2 := by rw [he]; exact hbit_lt a t
      have hnx := hbit_next a t hlt
      rw [← he] at hnx
      obtain ⟨d1, d2⟩ := div_one_more (a / 2 ^ (256 - t)) b e HB0.out he2
      rw [← hnx, ← hQ0, ← hR0] at d1
      rw [← hnx, ← hR0] at d2
      obtain ⟨i1, i2, i3, i4, i5⟩ := hI.out
      rw [← hR0] at i3
      rw [← hQ0] at i4
      have hRb : R0 < b := by rw [hR0]; exact Nat.mod_lt _ HB0.out
      have hbB := HB.out
      have h33 : 2 * R0 + e < 256 ^ 33 := by
        rw [show 33 = 32 + 1 from rfl, Nat.pow_succ]
        generalize 256 ^ 32 = p at *
        omega
      have hb33 : b < 256 ^ 33 := by
        rw [show 33 = 32 + 1 from rfl, Nat.pow_succ]
        generalize 256 ^ 32 = p at *
        omega
      have HD1 : Hid _ := d1
      have HD2 : Hid _ := d2
      have H33 : Hid (2 * R0 + e < 256 ^ 33 ∧ b < 256 ^ 33) := ⟨h33, hb33⟩
      have HN : Hid (w.heap.size < n1 ∧ n1 ≠ g) := ⟨i1, i2⟩
      have HI4 : Hid (Rf wr w.heap.size 32 (fun j => ht (Q0 * 2 ^ (256 - t)) (31 - j))) := i4
      have HI5 : Hid (Ch wr g 0 33 b) := i5
      have HI3 : Hid (Rf wr n1 33 (shf R0 e 0)) := i3.congr (fun j _ => by unfold shf; rw [if_neg (Nat.not_lt_zero j)])
      obtain ⟨j8, hj8⟩ : ∃ j8, j8 = t / 8 := ⟨_, rfl⟩
      obtain ⟨m8, hm8⟩ : ∃ m8, m8 = t % 8 := ⟨_, rfl⟩
      obtain ⟨r, hr⟩ : ∃ r, r = 7 - m8 := ⟨_, rfl⟩
      have g1 := (H1.out.be hb).at0 j8 (by omega)
      obtain ⟨x, hx⟩ : ∃ x, x = ht a (32 - 1 - j8) := ⟨_, rfl⟩
      rw [← hx] at g1
      have hbt := hbit_ht a t hlt
      rw [← hj8, ← hm8, ← hr, show 31 - j8 = 32 - 1 - j8 by omega, ← hx, ← he] at hbt
      have hx2 : x < 256 := by rw [hx]; exact ht_lt _ _
      have eK : (x : Int) / 2 ^ r = ((x / 2 ^ r : Nat) : Int) := by simp
      have hxr : x / 2 ^ r ≤ x := Nat.div_le_self _ _
      obtain ⟨y, hy⟩ : ∃ y, y = x / 2 ^ r := ⟨_, rfl⟩
      rw [← hy] at eK hbt hxr
      have eA : bits .and .i64 (y : Int) 1 = (e : Int) := by rw [i64_and1]; omega
      have e1 : (t : Int) / 8 = (j8 : Int) := by omega
      have e2 : (t : Int) % 8 = (m8 : Int) := by omega
      have e3 : (7 : Int) - (m8 : Int) = (r : Int) := by omega
      have lr : r < 64 := by omega
      have lr7 : r ≤ 7 := by omega
      have lj : (j8 : Int) < 32 := by omega
      have lj' : j8 < 32 := by omega
      have lx : (x : Int) < 256 := by omega
      have ly : (y : Int) < 256 := by omega
      have le : (e : Int) < 2 := by omega
      have HQP : Hid (∀ Q j, j < 32 → (if j = j8 then ht (Q * 2 ^ (256 - t)) (31 - j8) + 2 ^ r else ht (Q * 2 ^ (256 - t)) (31 - j)) = ht ((2 * Q + 1) * 2 ^ (256 - (t + 1))) (31 - j)) := fun Q j hj => by
        have := q_put Q t j hlt hj
        rw [← hj8, ← hm8, ← hr] at this
        exact this
      have HQL : Hid (∀ Q, ht (Q * 2 ^ (256 - t)) (31 - j8) ||| 2 ^ r = ht (Q * 2 ^ (256 - t)) (31 - j8) + 2 ^ r ∧ ht (Q * 2 ^ (256 - t)) (31 - j8) + 2 ^ r < 256) := fun Q => by
        have h0 := q_low Q t hlt
        rw [← hj8, ← hm8, ← hr] at h0
        exact or_bit ⟨_, ht_lt _ _⟩ ⟨r, by omega⟩ h0
      have HQZ : Hid (∀ Q, Q * 2 ^ (256 - t) = (2 * Q) * 2 ^ (256 - (t + 1))) := fun Q => q_zero Q t hlt
      have hlt' : (t : Int) < 256 := by omega
      clear d1 d2 h33 hb33 i1 i2 i3 i4 i5 hI hQ0 hR0 he he2 hnx hRb hbB hj8 hm8 hr hx hbt hx2 hxr hy ht'
      go_wp2
      go_loopw [11, 12] (fun v _ wx => ∃ u : Nat, u ≤ 33 ∧ v = .int .i64 (u : Int) ∧ Below w.heap.size w wx ∧ Hid (Rf wx n1 33 (shf R0 e u) ∧ Rf wx w.heap.size 32 (fun j => ht (Q0 * 2 ^ (256 - t)) (31 - j)) ∧ Ch wx g 0 33 b)) (fun v _ _ => 33 - (intOf v).toNat)
      case atStart => exact ⟨0, Nat.zero_le _, rfl, hb, HI3.out, HI4.out, HI5.out⟩
      case round =>
        clear hb HI3 HI4 HI5 g1 eK eA
        obtain ⟨u, hu, rfl, hb, hI⟩ := hrel
        by_cases hul : u < 33
        · obtain ⟨g3, gf⟩ := hI.out.1.cell u hul
          have hz : shf R0 e u u = ht R0 (32 - u) := by unfold shf; rw [if_neg (Nat.lt_irrefl _)]
          rw [hz] at g3
          have HO : Hid (∀ j, j < 33 → j ≠ u → shf R0 e (u + 1) j = shf R0 e u j) := fun j hj hne => by
            unfold shf
            by_cases hl : j < u
            · rw [if_pos hl, if_pos (by omega)]
            · rw [if_neg hl, if_neg (by omega)]
          have HN2 : Hid (∀ d : Nat, Below w.heap.size w (wr.setCell ⟨n1, u, none⟩ (.int .i64 (d : Int))) ∧ Rf (wr.setCell ⟨n1, u, none⟩ (.int .i64 (d : Int))) w.heap.size 32 (fun j => ht (Q0 * 2 ^ (256 - t)) (31 - j)) ∧ Ch (wr.setCell ⟨n1, u, none⟩ (.int .i64 (d : Int))) g 0 33 b) := fun d =>
            ⟨Below.setCell hb (Nat.le_of_lt HN.out.1) _, hI.out.2.1.other (Nat.ne_of_lt HN.out.1), hI.out.2.2.set_other _ _ _ (Ne.symm HN.out.2)⟩
          have hul' : (u : Int) < 33 := by omega
          by_cases h32 : u < 32
          · obtain ⟨g4, _⟩ := hI.out.1.cell (u + 1) (by omega)
            have hz2 : shf R0 e u (u + 1) = ht R0 (31 - u) := by unfold shf; rw [if_neg (by omega), show 32 - (u + 1) = 31 - u by omega]
            rw [hz2] at g4
            have hs := sh_succ R0 e (31 - u) (by omega)
            rw [show 31 - u + 1 = 32 - u by omega] at hs
            have HD : Hid (ht R0 (32 - u) % 128 * 2 + ht R0 (31 - u) / 128 = shf R0 e (u + 1) u) := by
              show _ = _
              unfold shf
              rw [if_pos (by omega), hs]
            have y1 := ht_lt R0 (32 - u)
            have y2 := ht_lt R0 (31 - u)
            generalize ht R0 (32 - u) = X at *
            generalize ht R0 (31 - u) = Y at *
            obtain ⟨v1, hv1⟩ : ∃ v1, v1 = X % 128 := ⟨_, rfl⟩
            obtain ⟨v2, hv2⟩ : ∃ v2, v2 = v1 * 2 := ⟨_, rfl⟩
            obtain ⟨v3, hv3⟩ : ∃ v3, v3 = Y / 128 := ⟨_, rfl⟩
            obtain ⟨v4, hv4⟩ : ∃ v4, v4 = v2 + v3 := ⟨_, rfl⟩
            rw [← hv1, ← hv2, ← hv3, ← hv4] at HD
            have f1 : (X : Int) % 128 = (v1 : Int) := by omega
            have f2 : (v1 : Int) * 2 = (v2 : Int) := by omega
            have f3 : (Y : Int) / 128 = (v3 : Int) := by omega
            have f4 : (v2 : Int) + (v3 : Int) = (v4 : Int) := by omega
            have l1 : (v1 : Int) < 128 := by omega
            have l2 : (v2 : Int) < 256 := by omega
            have l3 : (v3 : Int) < 2 := by omega
            have l4 : (v4 : Int) < 258 := by omega
            have lX : (X : Int) < 256 := by omega
            have lY : (Y : Int) < 256 := by omega
            have h32' : (u : Int) < 32 := by omega
            clear hv1 hv2 hv3 hv4 y1 y2 hs hz hz2 hu
            go_wp2
            exact ⟨⟨u + 1, by omega, by go_num, (HN2.out _).1, hI.out.1.put hul HD.out HO.out, (HN2.out _).2⟩, by simp [intOf]; omega⟩
          · obtain rfl : u = 32 := by omega
            have hs := sh_zero R0 e (by omega)
            have HD : Hid (ht R0 (32 - 32) % 128 * 2 + e = shf R0 e (32 + 1) 32) := by
              show _ = _
              unfold shf
              rw [if_pos (by omega), Nat.sub_self, hs]
            have y1 := ht_lt R0 (32 - 32)
            generalize ht R0 (32 - 32) = X at *
            obtain ⟨v1, hv1⟩ : ∃ v1, v1 = X % 128 := ⟨_, rfl⟩
            obtain ⟨v2, hv2⟩ : ∃ v2, v2 = v1 * 2 := ⟨_, rfl⟩
            obtain ⟨v4, hv4⟩ : ∃ v4, v4 = v2 + e := ⟨_, rfl⟩
            rw [← hv1, ← hv2, ← hv4] at HD
            have f1 : (X : Int) % 128 = (v1 : Int) := by omega
            have f2 : (v1 : Int) * 2 = (v2 : Int) := by omega
            have f4 : (v2 : Int) + (e : Int) = (v4 : Int) := by omega
            have l1 : (v1 : Int) < 128 := by omega
            have l2 : (v2 : Int) < 256 := by omega
            have l4 : (v4 : Int) < 258 := by omega
            have lX : (X : Int) < 256 := by omega
            clear hv1 hv2 hv4 y1 hs hz hu h32 hul hul'
            go_wp2
            exact ⟨⟨33, by omega, rfl, (HN2.out _).1, hI.out.1.put (by omega) HD.out HO.out, (HN2.out _).2⟩, by simp [intOf]⟩
        · obtain rfl : u = 33 := by omega
          obtain ⟨i1, i2, i3⟩ := hI.out
          have hCr : Ch wr n1 0 33 (2 * R0 + e) := Rh.ch (Rf.rh (i1.congr (fun j hj => by unfold shf; rw [if_pos hj])))
          have HC : Hid (Calls _ _ _ _ _) := compare_g (2 * R0 + e) b 33 n1 g 33 cap (by decide) H33.out.1 H33.out.2 wr hCr i3
          have HI2 : Hid (Rf wr w.heap.size 32 (fun j => ht (Q0 * 2 ^ (256 - t)) (31 - j))) := i2
          have HI3 : Hid (Ch wr g 0 33 b) := i3
          have HCr : Hid (Ch wr n1 0 33 (2 * R0 + e)) := hCr
          have HIR : Hid (Rf wr n1 33 (fun j => ht (2 * R0 + e) (32 - j))) := i1.congr (fun j hj => by unfold shf; rw [if_pos hj])
          clear i1 i2 i3 hCr hI hu hul
          by_cases hge : b ≤ 2 * R0 + e
          · obtain ⟨cv, hcv⟩ : ∃ cv, cv = cmpR (2 * R0 + e) b := ⟨_, rfl⟩
            have hc0 : 0 ≤ cv := by
              rw [hcv]
              unfold cmpR
              by_cases q : 2 * R0 + e = b
              · rw [if_pos q]; decide
              · rw [if_neg q, if_neg (by omega)]; decide
            rw [← hcv] at HC
            clear hcv
            have HL : Hid (∀ k, Calls Tryz.prog 64 #[.slice (some ⟨n1, 0, none⟩) 33 33, .slice (some ⟨g, 0, none⟩) 33 cap] (wr.drewN k) fun e' w' => ∃ R, e' = .returned (.slice (some ⟨R, 0, none⟩) 33 33) ∧ (wr.drewN k).heap.size ≤ R ∧ Rh w' R 33 (2 * R0 + e - b) ∧ Below (wr.drewN k).heap.size (wr.drewN k) w') :=
              fun k => less_g (2 * R0 + e) b 33 n1 g 33 cap (by decide) hge (wr.drewN k) (HCr.out.drew k) (HI3.out.drew k)
            have d1 := HD1.out
            have d2 := HD2.out
            rw [if_pos hge] at d1 d2
            have HD3 : Hid (a / 2 ^ (256 - (t + 1)) / b = 2 * Q0 + 1) := d1
            have HD4 : Hid (a / 2 ^ (256 - (t + 1)) % b = 2 * R0 + e - b) := d2
            clear d1 d2 HD1 HD2
            go_upto_region 18 with (first
              | (go_at_call 63; refine HC.out.mono ?_; rintro e' w2 ⟨rfl, k2, rfl⟩)
              | (go_at_call 64; refine (HL.out _).mono ?_; rintro e' w3 ⟨n3, rfl, hn3, hr3, hb3⟩))
            have hbw : Below w.heap.size w (wr.drewN k2) := Below_dN hb _
            have HQ3 : Hid (Rf w3 w.heap.size 32 (fun j => ht (Q0 * 2 ^ (256 - t)) (31 - j))) := (HI2.out.drew k2).be hb3
            have HG3 : Hid (Ch w3 g 0 33 b) := (HI3.out.drew k2).be hb3
            have hbw3 : Below w.heap.size w w3 := hbw.trans (hb3.mono hbw.size)
            have HR3 : Hid (Rh w3 n3 33 (2 * R0 + e - b)) := hr3
            have HN3 : Hid (w.heap.size < n3 ∧ n3 ≠ g) := ⟨Nat.lt_of_lt_of_le HI2.out.lt hn3, by have h1 : g < wr.heap.size := HI3.out.1; have h2 : wr.heap.size ≤ n3 := hn3; omega⟩
            clear hr3 hn3 hb3 hbw hb
            obtain ⟨g5, gf5⟩ := HQ3.out.cell j8 lj'
            obtain ⟨o1, o2⟩ := HQL.out Q0
            obtain ⟨s1, s2⟩ := shl1_i64 r lr7
            have HO : Hid (∀ j, j < 32 → j ≠ j8 → ht ((2 * Q0 + 1) * 2 ^ (256 - (t + 1))) (31 - j) = ht (Q0 * 2 ^ (256 - t)) (31 - j)) := fun j hj hne => by
              have := HQP.out Q0 j hj
              rw [if_neg hne] at this
              exact this.symm
            have HDz : Hid (ht (Q0 * 2 ^ (256 - t)) (31 - j8) + 2 ^ r = ht ((2 * Q0 + 1) * 2 ^ (256 - (t + 1))) (31 - j8)) := by
              have := HQP.out Q0 j8 lj'
              rw [if_pos rfl] at this
              exact this
            generalize ht (Q0 * 2 ^ (256 - t)) (31 - j8) = X at g5 o1 o2 HDz
            obtain ⟨y2, hy2⟩ : ∃ y2, y2 = 2 ^ r := ⟨_, rfl⟩
            rw [← hy2] at o1 o2 s1 s2 HDz
            have eO : bits .or .i64 (X : Int) (y2 : Int) = ((X + y2 : Nat) : Int) := by rw [bits_or_i64_nat _ _ (by omega) (by omega), o1]
            obtain ⟨z, hz⟩ : ∃ z, z = X + y2 := ⟨_, rfl⟩
            rw [← hz] at eO HDz
            have s1' : IntKind.i64.wrap (1 * (2 : Int) ^ r) = (y2 : Int) := by rw [Int.one_mul]; exact s1
            clear hy2 hz o1 o2 s2
            go_region
            go_wp2
            refine ⟨⟨t + 1, n3, hlt, rfl, by go_num, Below.drew (Below.setCell hbw3 (by simp) _), HN3.out.1, HN3.out.2, ?_, ?_, Ch.drw (HG3.out.set_other _ _ _ (by have := HG.out; omega))⟩, by simp [intOf]; omega⟩
            · rw [HD4.out]
              exact Rf.drw ((Rh.rf HR3.out).other (by have := HN3.out.1; omega))
            · rw [HD3.out]
              exact Rf.drw (HQ3.out.put lj' HDz.out HO.out)
          · have hcv : cmpR (2 * R0 + e) b = -1 := by
              unfold cmpR
              rw [if_neg (by omega), if_pos (by omega)]
            rw [hcv] at HC
            have d1 := HD1.out
            have d2 := HD2.out
            rw [if_neg hge] at d1 d2
            have HD3 : Hid (a / 2 ^ (256 - (t + 1)) / b = 2 * Q0) := d1
            have HD4 : Hid (a / 2 ^ (256 - (t + 1)) % b = 2 * R0 + e) := d2
            clear d1 d2 HD1 HD2 hcv
            go_wp2_with (go_at_call 63; refine HC.out.mono ?_; rintro e' w2 ⟨rfl, k2, rfl⟩)
            refine ⟨⟨t + 1, n1, hlt, rfl, by go_num, Below_dN hb _, HN.out.1, HN.out.2, ?_, ?_, HI3.out.drew _⟩, by simp [intOf]; omega⟩
            · rw [HD4.out]
              exact HIR.out.drew _
            · rw [HD3.out, ← HQZ.out]
              exact HI2.out.drew _
    · obtain rfl : t = 256 := by omega
      obtain ⟨i1, i2, i3, i4, i5⟩ := hI.out
      have HX : Hid (Ch wr w.heap.size 0 32 (a / b)) := by
        refine Rh.ch (Rf.rh (i4.congr (fun j _ => ?_)))
        rw [Nat.sub_self, Nat.pow_zero, Nat.div_one, Nat.mul_one]
      have HY : Hid (Ch wr n1 1 32 (a % b)) := by
        have h3 : Ch wr n1 0 (1 + 32) (a % b) := Rh.ch (Rf.rh (i3.congr (fun j _ => by rw [Nat.sub_self, Nat.pow_zero, Nat.div_one])))
        have := h3.on
        rw [Nat.zero_add, Nat.mod_eq_of_lt (Nat.lt_trans (Nat.mod_lt _ HB0.out) HB.out)] at this
        exact this
      clear i1 i2 i3 i4 i5 hI hlt ht'
      go_wp2
      go_region
      go_wp2
      go_ret2
      exact ⟨w.heap.size, n1, rfl, Ch.drw HX.out, Ch.drw HY.out, Below.drew hb⟩

end Go.Proofs.YtclbiophgnkggaaGreatDoor
