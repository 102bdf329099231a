/-
  causewayref10's parts.
-/
import Derived.Test.YtclbiophgnkggaaGreatDoorMkGa
import Derived.Test.YtclbiophgnkggaaGreatDoorWDig
import Derived.Test.YtclbiophgnkggaaGreatDoorWRd
import Derived.Test.YtclbiophgnkggaaGreatDoorMkB
import Derived.Test.YtclbiophgnkggaaGreatDoorWVU
import Derived.Laws.AppendOwn
import Derived.Laws.OwnMore

namespace Go.Proofs.YtclbiophgnkggaaGreatDoor
open Go Go.RowKit
open Wd

/-- n cells are a number's first n digits of base 256, the highest first. -/
def Ch (W : World) (N o n a : Nat) : Prop := N < W.heap.size ∧ ∀ t, t < n → W.cell? ⟨N, o + t, none⟩ = some (.int .i64 ((ht a (n - 1 - t) : Nat) : Int))
theorem Ch.below {W W' : World} {N o n a B : Nat} (h : Ch W N o n a) (hB : Below B W W') (hN : N < B) : Ch W' N o n a :=
  ⟨Nat.lt_of_lt_of_le h.1 hB.size, fun t ht => (hB.cell (p := ⟨N, o + t, none⟩) hN).trans (h.2 t ht)⟩
theorem Ch.be {W W' : World} {N o n a : Nat} (h : Ch W N o n a) (hB : Below W.heap.size W W') : Ch W' N o n a := h.below hB h.1
theorem Ch.drew {W : World} {N o n a : Nat} (h : Ch W N o n a) (k : Nat) : Ch (W.drewN k) N o n a := ⟨h.1, h.2⟩
theorem Ch.row {W : World} {N n a : Nat} {l : List Nat} {T : TypeId} (r : Row W N (vI l) T) (hl : n = l.length) (h : ∀ t, t < n → l.getD t 0 = ht a (n - 1 - t)) : Ch W N 0 n a :=
  ⟨Row.lt r, fun t ht => by rw [Nat.zero_add, r.cell t _ (vI_get l t (by omega)), h t ht]⟩
theorem Ch.set_other {W : World} {N o n a : Nat} (h : Ch W N o n a) (M j : Nat) (v : Value) (hne : N ≠ M) : Ch (W.setCell ⟨M, j, none⟩ v) N o n a :=
  ⟨by rw [World.size_setCell]; exact h.1, fun i hi => by rw [World.cell?_setCell_other _ _ _ _ (by intro e; simp at e)]; exact h.2 i hi⟩
/-- The digits behind the first k. -/
theorem Ch.on {W : World} {N o n a k : Nat} (h : Ch W N o (k + n) a) : Ch W N (o + k) n (a % 256 ^ n) := by
  refine ⟨h.1, fun t ht' => ?_⟩
  have h2 := h.2 (k + t) (by omega)
  rw [show o + k + t = o + (k + t) by omega, h2, show k + n - 1 - (k + t) = n - 1 - t by omega]
  have e : ht (a % 256 ^ n) (n - 1 - t) = ht a (n - 1 - t) := by
    refine ht_cong _ _ _ ?_
    exact Nat.mod_mod_of_dvd _ (Nat.pow_dvd_pow _ (by omega))
  rw [e]
theorem Ch.at0 {W : World} {N n a : Nat} (h : Ch W N 0 n a) (t : Nat) (ht' : t < n) : W.cell? ⟨N, t, none⟩ = some (.int .i64 ((ht a (n - 1 - t) : Nat) : Int)) := by
  have := h.2 t ht'
  rw [Nat.zero_add] at this
  exact this

set_option maxRecDepth 100000 in
set_option maxHeartbeats 1000000 in
theorem digits_g (a : Nat) (w : World) :
    Calls Tryz.prog 27 #[.agg (vQ (dgs a 4)).toArray] w fun e w' => ∃ N, e = .returned (.slice (some ⟨N, 0, none⟩) 32 32) ∧ w.heap.size ≤ N ∧ Ch w' N 0 32 a ∧ Below w.heap.size w w' := by
  go_enter Tryz.func27, Tryz.ntmps27
  go_wp2_with (refine wpList_make_i rfl 29 (.const (.int .i64 32)) (.const (.int .i64 32)) rfl 3 32 _ _ rfl rfl rfl rfl (by decide) Tryz.underlying29 info_all_int ?_; simp only [Act.put, List.setIfInBounds_toArray, List.set_cons_zero, List.set_cons_succ])
  go_loopw [4] (fun v wr => ∃ t : Nat, t ≤ 32 ∧ v = .int .i64 (t : Int) ∧ Below w.heap.size w wr ∧ Row wr w.heap.size (vQ (dgs a 4)) 37 ∧ Row wr (w.heap.size + 1) (vI (hts a 32 t ++ List.replicate (32 - t) 0)) 3) (fun v _ => 32 - (intOf v).toNat)
  case atStart =>
    refine ⟨0, by omega, rfl, ((Below.refl _ _).alloc (Nat.le_refl _) _).alloc (by simp) _, ?_, ?_⟩
    · exact (Row.new' rfl rfl).alloc _
    · rw [show hts a 32 0 = [] from rfl, List.nil_append, Nat.sub_zero]
      exact Row.new' (by simp) rfl
  case round =>
    obtain ⟨t, ht', rfl, hb, h1, h3⟩ := hrel
    by_cases hlt : t < 32
    · obtain ⟨p, hp⟩ : ∃ p, p = 31 - t := ⟨_, rfl⟩
      have hq : p / 8 < 4 := by omega
      have g1 := h1.cell (p / 8) _ (vQ_get _ (p / 8) (by rw [dgs_length]; exact hq))
      rw [dgs_getD _ _ _ hq] at g1
      have g3 := h3.cell t _ (vI_get _ t (by rw [List.length_append, hts_length, List.length_replicate]; omega))
      have gf := h3.thaw t
      have hbt := ht_lim a p
      have hx := lim_lt a (p / 8)
      have HS : Hid ((hts a 32 t ++ List.replicate (32 - t) 0).set t (ht a p) = hts a 32 (t + 1) ++ List.replicate (32 - (t + 1)) 0) := by
        show _ = _
        rw [hts_succ, show 32 - 1 - t = p by omega, fill _ t 32 _ (hts_length _ _ _) hlt]
      obtain ⟨q1, hq1⟩ : ∃ q, q = t / 8 := ⟨_, rfl⟩
      obtain ⟨q2, hq2⟩ : ∃ q, q = p / 8 := ⟨_, rfl⟩
      obtain ⟨r1, hr1⟩ : ∃ r, r = t % 8 := ⟨_, rfl⟩
      obtain ⟨r2, hr2⟩ : ∃ r, r = 8 * r1 := ⟨_, rfl⟩
      obtain ⟨r, hre⟩ : ∃ r, r = p % 8 * 8 := ⟨_, rfl⟩
      have e1 : (t : Int) / 8 = (q1 : Int) := by omega
      have e2 : (3 : Int) - (q1 : Int) = (q2 : Int) := by omega
      have e3 : (t : Int) % 8 = (r1 : Int) := by omega
      have e4 : 8 * (r1 : Int) = (r2 : Int) := by omega
      have e5 : (56 : Int) - (r2 : Int) = (r : Int) := by omega
      have lr : (r : Int) ≤ 56 := by omega
      have lr' : r < 64 := by omega
      have lq : (q2 : Int) < 4 := by omega
      rw [← hq2] at g1 hbt hx hq
      rw [← hre] at hbt
      generalize (hts a 32 t ++ List.replicate (32 - t) 0).getD t 0 = z at g3
      generalize lim a q2 = x at *
      have eK : (x : Int) / 2 ^ r = ((x / 2 ^ r : Nat) : Int) := by simp
      have hy64 : x / 2 ^ r < 18446744073709551616 := Nat.lt_of_le_of_lt (Nat.div_le_self _ _) hx
      obtain ⟨y, hy⟩ : ∃ y, y = x / 2 ^ r := ⟨_, rfl⟩
      rw [← hy] at eK hbt hy64
      obtain ⟨d, hd⟩ : ∃ d, d = ht a p := ⟨_, rfl⟩
      have hd2 := ht_lt a p
      rw [← hd] at hbt hd2 HS
      have eA : bits .and .u64 (y : Int) 255 = (d : Int) := by
        rw [show (255 : Int) = ((2 ^ 8 - 1 : Nat) : Int) by rfl, bits_and_u64_nat _ _ hy64 (by decide), Nat.and_two_pow_sub_one_eq_mod, ← hbt]
      have eC : IntKind.i64.wrap (d : Int) = (d : Int) := by rw [IntKind.wrap_i64]; omega
      have hdi : (d : Int) < 256 := by omega
      have hF := h3.set t (.int .i64 (d : Int))
      rw [vI_set, HS.out] at hF
      have HF : Hid _ := hF
      clear hF hq1 hq2 hr1 hr2 hre hy hd hbt hx hy64 hd2 ht' hp h3 HS
      go_wp2
      exact ⟨⟨t + 1, hlt, by go_num, Below.setCell hb (by simp) _, h1.set_other _ _ _ (by omega), HF.out⟩, by simp [intOf]; omega⟩
    · have et : t = 32 := by omega
      have e4 : (t : Int) = 32 := by omega
      rw [et] at h3
      rw [e4]
      have HC : Hid (Ch wr (w.heap.size + 1) 0 32 a) := by
        have h3' : Row wr (w.heap.size + 1) (vI (hts a 32 32)) 3 := by simpa using h3
        exact Ch.row h3' (by rw [hts_length]) (fun j hj => hts_getD _ _ _ _ hj)
      clear et e4 ht' hlt h3
      go_wp2
      go_ret
      exact ⟨w.heap.size + 1, by simp, by omega, HC.out, hb⟩

set_option maxRecDepth 100000 in
set_option maxHeartbeats 4000000 in
theorem number_g (a N o n c : Nat) (hn : n ≤ 32) (ha : a < 256 ^ n) (w : World) (h : Ch w N o n a ∨ n = 0) :
    Calls Tryz.prog 13 #[.slice (some ⟨N, o, none⟩) n c] w fun e w' => e = .returned (.agg (vQ (dgs a 4)).toArray) ∧ Below w.heap.size w w' := by
  have HH : Hid (∀ t, t < n → w.cell? ⟨N, o + t, none⟩ = some (.int .i64 ((ht a (n - 1 - t) : Nat) : Int)) ∧ N < w.heap.size) := fun t ht' => by
    rcases h with h | h
    · exact ⟨h.2 t ht', h.1⟩
    · omega
  have HA : Hid (a < 2 ^ 256) := by
    show a < 2 ^ 256
    rw [← p32]
    exact Nat.lt_of_lt_of_le ha (Nat.pow_le_pow_right (by decide) hn)
  have HT : Hid (hiG a n = 0) := hiG_top a n ha
  clear h ha
  have hn' : (n : Int) ≤ 32 := by omega
  go_enter Tryz.func13, Tryz.ntmps13
  go_wp2
  go_loopw [4, 5] (fun v _ wr => ∃ t : Nat, t ≤ n ∧ v = .int .i64 (t : Int) ∧ Below w.heap.size w wr ∧ Row wr w.heap.size (vQ (dgs 0 4)) 37 ∧ Row wr (w.heap.size + 1) (vQ (dgs (hiG a (n - t)) 4)) 37) (fun v _ _ => n - (intOf v).toNat)
  case atStart =>
    refine ⟨0, by omega, rfl, ((Below.refl _ _).alloc (Nat.le_refl _) _).alloc (by simp) _, ?_, ?_⟩
    · exact (Row.new' rfl (by rw [dgs_zero]; rfl)).alloc _
    · rw [Nat.sub_zero, HT.out]
      exact Row.new' (by simp) rfl
  case round =>
    obtain ⟨t, ht', rfl, hb1, n2, n4⟩ := hrel
    by_cases hlt : t < n
    · obtain ⟨k, hk⟩ : ∃ k, k = n - 1 - t := ⟨_, rfl⟩
      have ek : n - t = k + 1 := by omega
      have ek2 : n - (t + 1) = k := by omega
      have hk32 : k < 32 := by omega
      rw [ek] at n4
      have hq : k / 8 < 4 := by omega
      have g4 := n4.cell (k / 8) _ (vQ_get _ (k / 8) (by rw [dgs_length]; exact hq))
      rw [dgs_getD _ _ _ hq] at g4
      have gf := n4.thaw (k / 8)
      obtain ⟨gl, hN⟩ := HH.out t hlt
      rw [← hk] at gl
      have gl : wr.cell? ⟨N, o + t, none⟩ = some (.int .i64 ((ht a k : Nat) : Int)) := (hb1.cell (p := ⟨N, o + t, none⟩) hN).trans gl
      obtain ⟨hor, p2, p3⟩ := put_hiG a k hk32 HA.out
      have HP : Hid _ := p2
      have hx := lim_lt (hiG a (k + 1)) (k / 8)
      have hd := ht_lt a k
      obtain ⟨d, hd0⟩ : ∃ d, d = ht a k := ⟨_, rfl⟩
      rw [← hd0] at gl hor p3 HP hd
      clear p2 hd0
      obtain ⟨x, hx0⟩ : ∃ x, x = lim (hiG a (k + 1)) (k / 8) := ⟨_, rfl⟩
      rw [← hx0] at g4 hor HP hx
      clear hx0
      obtain ⟨q, hqe⟩ : ∃ q, q = k / 8 := ⟨_, rfl⟩
      obtain ⟨r0, hr0⟩ : ∃ r0, r0 = k % 8 := ⟨_, rfl⟩
      obtain ⟨r, hre⟩ : ∃ r, r = r0 * 8 := ⟨_, rfl⟩
      have e0 : (n : Int) - 1 - (t : Int) = (k : Int) := by omega
      have e1 : (k : Int) / 8 = (q : Int) := by omega
      have e2 : (k : Int) % 8 = (r0 : Int) := by omega
      have e3 : 8 * (r0 : Int) = (r : Int) := by omega
      rw [← hqe] at g4 gf hq HP
      rw [← hr0] at hor p3 HP
      rw [← hre] at hor p3 HP
      have lr : (r : Int) ≤ 56 := by omega
      have lr' : r < 64 := by omega
      have lq : (q : Int) < 4 := by omega
      have lk : (k : Int) ≤ 31 := by omega
      have htn : (t : Int) < (n : Int) := by omega
      have eB : IntKind.u64.wrap ((d : Int) * 2 ^ r) = ((d * 2 ^ r : Nat) : Int) := by rw [wrap_shl, Nat.mod_eq_of_lt p3]
      obtain ⟨y, hy⟩ : ∃ y, y = d * 2 ^ r := ⟨_, rfl⟩
      rw [← hy] at eB hor p3 HP
      have eO : bits .or .u64 (x : Int) (y : Int) = ((x + y : Nat) : Int) := by rw [bits_or_u64_nat _ _ hx p3, hor]
      obtain ⟨z, hz⟩ : ∃ z, z = x + y := ⟨_, rfl⟩
      rw [← hz] at eO HP
      have eC : IntKind.u64.wrap (d : Int) = (d : Int) := by rw [IntKind.wrap_u64]; omega
      have hdi : (d : Int) < 256 := by omega
      have hF := n4.set q (.int .u64 (z : Int))
      rw [vQ_set, HP.out, ← ek2] at hF
      have HF : Hid _ := hF
      clear hF hqe hre hr0 hy hz hor hx p3 hd ht' n4 HP ek ek2 hk hN
      go_wp2
      go_region
      go_wp2
      exact ⟨⟨t + 1, hlt, by go_num, Below.drew (Below.setCell hb1 (by simp) _), Row.drew (n2.set_other _ _ _ (by omega)), Row.drew HF.out⟩, by simp [intOf]; omega⟩
    · have et : t = n := by omega
      rw [et, Nat.sub_self, hiG_zero] at n4
      obtain ⟨cs, Hc⟩ : ∃ c, Wc c a := ⟨_, rfl⟩
      rw [← show cs = vQ (dgs a 4) from Hc] at n4
      have T := Hc.there n2 rfl
      have fin := n2.over (vs := cs) (by rw [Hc.len]; rfl)
      have hbf := below_setCells hb1 (b := w.heap.size) (o := 0) (Nat.le_refl _) cs
      have htn : ¬ (t : Int) < (n : Int) := by omega
      clear et hlt ht'
      go_wp2_with (first
        | (refine wpList_load_mid rfl 37 (.tmp 3) rfl (w.heap.size + 1) 0 rfl cs _ n4.all Tryz.underlying37 rfl Hc.info ?_; simp only [Act.put, List.setIfInBounds_toArray, List.set_cons_zero, List.set_cons_succ])
        | (refine wpList_store_mid rfl 37 (.tmp 2) (.tmp 32) rfl w.heap.size 0 cs.toArray rfl rfl T Hc.info' Hc.one ?_; simp only [Act.put]))
      exact bodyPost_ret (results_rowA Tryz.results13 _ _ w.heap.size 37 cs rfl fin Tryz.underlying37 (by rw [Hc.len]; exact info_w4)) rfl ⟨by rw [show cs = vQ (dgs a 4) from Hc], hbf⟩

end Go.Proofs.YtclbiophgnkggaaGreatDoor

namespace Go.Proofs.YtclbiophgnkggaaGreatDoor
open Go Go.RowKit
open Wd

theorem getD_setG (l : List Nat) (i x j : Nat) (hi : i < l.length) : (l.set i x).getD j 0 = if j = i then x else l.getD j 0 := by
  by_cases h : j = i
  · subst h
    rw [if_pos rfl]
    simp [List.getD_eq_getElem?_getD, hi]
  · rw [if_neg h]
    simp [List.getD_eq_getElem?_getD, List.getElem?_set_ne (Ne.symm h)]
/-- A row that is a number's first n digits, the highest first. -/
def Rh (W : World) (N n a : Nat) : Prop := ∃ l : List Nat, Row W N (vI l) 3 ∧ l.length = n ∧ ∀ t, t < n → l.getD t 0 = ht a (n - 1 - t)
theorem Rh.ch {W : World} {N n a : Nat} (h : Rh W N n a) : Ch W N 0 n a := by
  obtain ⟨l, h1, h2, h3⟩ := h
  exact Ch.row h1 h2.symm h3
theorem Rh.lt {W : World} {N n a : Nat} (h : Rh W N n a) : N < W.heap.size := h.ch.1
theorem Rh.below {W W' : World} {N n a B : Nat} (h : Rh W N n a) (hB : Below B W W') (hN : N < B) : Rh W' N n a := by
  obtain ⟨l, h1, h2⟩ := h
  exact ⟨l, h1.below hB hN, h2⟩
theorem Rh.be {W W' : World} {N n a : Nat} (h : Rh W N n a) (hB : Below W.heap.size W W') : Rh W' N n a := h.below hB h.lt
theorem Rh.drew {W : World} {N n a : Nat} (h : Rh W N n a) (k : Nat) : Rh (W.drewN k) N n a := by
  obtain ⟨l, h1, h2⟩ := h
  exact ⟨l, Row.drew h1, h2⟩

theorem Below_dN {B : Nat} {a w : World} (h : Below B a w) (k : Nat) : Below B a (w.drewN k) := ⟨h.os, h.tape, h.output, h.size, h.block⟩
theorem drewN_add10 (w : World) (m k : Nat) : (w.drewN m).drewN k = w.drewN (m + k) := by simp [World.drewN, Nat.add_assoc]

set_option maxRecDepth 100000 in
set_option maxHeartbeats 2000000 in
theorem compare_g (a b n N M c1 c2 : Nat) (hn : n ≤ 64) (ha : a < 256 ^ n) (hb : b < 256 ^ n) (w : World) (r1 : Ch w N 0 n a) (r2 : Ch w M 0 n b) :
    Calls Tryz.prog 63 #[.slice (some ⟨N, 0, none⟩) n c1, .slice (some ⟨M, 0, none⟩) n c2] w fun e w' => e = .returned (.int .i64 (cmpR a b)) ∧ ∃ k, w' = w.drewN k := by
  have HA : Hid (a < 256 ^ n) := ha
  have HB : Hid (b < 256 ^ n) := hb
  have H1 : Hid (Ch w N 0 n a) := r1
  have H2 : Hid (Ch w M 0 n b) := r2
  have hn' : (n : Int) ≤ 64 := by omega
  clear ha hb r1 r2
  go_enter Tryz.func63, Tryz.ntmps63
  go_wp2
  go_loopw [5] (fun v wr => ∃ t k : Nat, t ≤ n ∧ v = .int .i64 (t : Int) ∧ Hid (wr = w.drewN k) ∧ Hid (a / 256 ^ (n - t) = b / 256 ^ (n - t))) (fun v _ => (n - intOf v).toNat)
  case atStart =>
    refine ⟨0, 0, Nat.zero_le _, rfl, (World.drewN_zero w).symm, ?_⟩
    show a / 256 ^ (n - 0) = b / 256 ^ (n - 0)
    rw [Nat.sub_zero, Nat.div_eq_of_lt HA.out, Nat.div_eq_of_lt HB.out]
  case round =>
    obtain ⟨t, k, ht', rfl, hw, hI⟩ := hrel
    by_cases hlt : t < n
    · have hlt' : (t : Int) < (n : Int) := by omega
      obtain ⟨p, hp⟩ : ∃ p, p = n - 1 - t := ⟨_, rfl⟩
      have g1 := H1.out.at0 t hlt
      have g2 := H2.out.at0 t hlt
      rw [← hp] at g1 g2
      replace g1 : wr.cell? ⟨N, t, none⟩ = some (.int .i64 ((ht a p : Nat) : Int)) := by rw [hw.out]; exact g1
      replace g2 : wr.cell? ⟨M, t, none⟩ = some (.int .i64 ((ht b p : Nat) : Int)) := by rw [hw.out]; exact g2
      have hI' : a / 256 ^ (p + 1) = b / 256 ^ (p + 1) := by have := hI.out; rwa [show n - t = p + 1 by omega] at this
      have HP : Hid (p = n - (t + 1)) := by show p = n - (t + 1); omega
      have HLT : Hid (ht a p < ht b p → cmpR a b = -1) := fun h => by
        have := ht_less a b p hI' h
        exact (if_neg (by omega)).trans (if_pos this)
      have HGT : Hid (ht b p < ht a p → cmpR a b = 1) := fun h => by
        have := ht_less b a p hI'.symm h
        exact (if_neg (by omega)).trans (if_neg (by omega))
      have HEQ : Hid (ht a p = ht b p → a / 256 ^ p = b / 256 ^ p) := fun h => ht_same a b p hI' h
      generalize ht a p = x at *
      generalize ht b p = y at *
      clear hI hI' hp ht' H1 H2
      rcases Nat.lt_trichotomy x y with h | h | h
      · have hd : (x : Int) < (y : Int) := by omega
        have hne : ¬ (x : Int) = (y : Int) := by omega
        have HR : Hid (cmpR a b = -1) := HLT.out h
        clear h
        go_wp2
        go_quiet (fail)
        go_wp2
        go_quiet (fail)
        go_wp2
        go_ret
        exact ⟨by rw [HR.out]; rfl, _, by rw [hw.out]; exact (congrArg (fun x => World.drewN x _) (drewN_add10 _ _ _)).trans (drewN_add10 _ _ _)⟩
      · subst h
        have HR : Hid (a / 256 ^ p = b / 256 ^ p) := HEQ.out rfl
        go_wp2
        go_quiet (fail)
        go_wp2
        exact ⟨⟨t + 1, _, by omega, by go_num, (congrArg (fun x => World.drewN x _) hw.out).trans (drewN_add10 _ _ _), by rw [← HP.out]; exact HR.out⟩, by simp [intOf]; omega⟩
      · have hd : (y : Int) < (x : Int) := by omega
        have hd2 : ¬ (x : Int) < (y : Int) := by omega
        have hne : ¬ (x : Int) = (y : Int) := by omega
        have HR : Hid (cmpR a b = 1) := HGT.out h
        clear h
        go_wp2
        go_quiet (fail)
        go_wp2
        go_quiet (fail)
        go_wp2
        go_ret
        exact ⟨by rw [HR.out]; rfl, _, by rw [hw.out]; exact (congrArg (fun x => World.drewN x _) (drewN_add10 _ _ _)).trans (drewN_add10 _ _ _)⟩
    · have et : t = n := by omega
      have hlt' : ¬ (t : Int) < (n : Int) := by omega
      have HR : Hid (cmpR a b = 0) := if_pos (by have := hI.out; rw [et, Nat.sub_self] at this; simpa using this)
      clear ht' hI hlt et
      go_wp2
      go_ret
      exact ⟨by rw [HR.out]; rfl, k, hw.out⟩

end Go.Proofs.YtclbiophgnkggaaGreatDoor

namespace Go.Proofs.YtclbiophgnkggaaGreatDoor
open Go Go.RowKit
open Wd

/-- A row of n numbers of which those from t on are a number's digits. -/
def Rt (W : World) (N n a t : Nat) : Prop := ∃ l : List Nat, Row W N (vI l) 3 ∧ l.length = n ∧ ∀ j, t ≤ j → j < n → l.getD j 0 = ht a (n - 1 - j)
theorem Rt.put {W : World} {N n a t d : Nat} (h : Rt W N n a (t + 1)) (ht' : t < n) (hd : d = ht a (n - 1 - t)) : Rt (W.setCell ⟨N, t, none⟩ (.int .i64 (d : Int))) N n a t := by
  obtain ⟨l, h1, h2, h3⟩ := h
  refine ⟨l.set t d, ?_, by rw [List.length_set, h2], fun j hj hn => ?_⟩
  · have := h1.set t (.int .i64 (d : Int))
    rw [vI_set] at this
    exact this
  · rw [getD_setG _ _ _ _ (by omega)]
    by_cases e : j = t
    · rw [if_pos e, e, hd]
    · rw [if_neg e]
      exact h3 j (by omega) hn
theorem Rt.drew {W : World} {N n a t : Nat} (h : Rt W N n a t) (k : Nat) : Rt (W.drewN k) N n a t := by
  obtain ⟨l, h1, h2⟩ := h
  exact ⟨l, Row.drew h1, h2⟩
theorem Rt.start (W : World) (B n a : Nat) (hB : W.heap.size = B) : Rt (W.alloc (.cells (vI (List.replicate n 0)).toArray 3)) B n a n :=
  ⟨_, Row.new' hB.symm rfl, by simp, fun j h1 h2 => by omega⟩
theorem Rt.all {W : World} {N n a : Nat} (h : Rt W N n a 0) : Rh W N n a := by
  obtain ⟨l, h1, h2, h3⟩ := h
  exact ⟨l, h1, h2, fun t ht' => h3 t (Nat.zero_le _) ht'⟩
theorem Rt.cell {W : World} {N n a t : Nat} (h : Rt W N n a t) (j : Nat) (hj : j < n) : ∃ z : Nat, W.cell? ⟨N, j, none⟩ = some (.int .i64 (z : Int)) ∧ W.frozen? ⟨N, j, none⟩ = false := by
  obtain ⟨l, h1, h2, h3⟩ := h
  exact ⟨_, h1.cell j _ (vI_get l j (by omega)), h1.thaw j⟩

set_option maxRecDepth 100000 in
set_option maxHeartbeats 4000000 in
theorem less_g (a b n N M c1 c2 : Nat) (hn : n ≤ 64) (hba : b ≤ a) (w : World) (r1 : Ch w N 0 n a) (r2 : Ch w M 0 n b) :
    Calls Tryz.prog 64 #[.slice (some ⟨N, 0, none⟩) n c1, .slice (some ⟨M, 0, none⟩) n c2] w fun e w' => ∃ R, e = .returned (.slice (some ⟨R, 0, none⟩) n n) ∧ w.heap.size ≤ R ∧ Rh w' R n (a - b) ∧ Below w.heap.size w w' := by
  have HBA : Hid (b ≤ a) := hba
  have H1 : Hid (Ch w N 0 n a) := r1
  have H2 : Hid (Ch w M 0 n b) := r2
  have hn' : (n : Int) ≤ 64 := by omega
  clear hba r1 r2
  go_enter Tryz.func64, Tryz.ntmps64
  go_wp2_with (refine wpList_make_i rfl 29 (.tmp 10) (.tmp 10) rfl 3 n _ _ rfl rfl rfl rfl (by omega) Tryz.underlying29 info_all_int ?_; simp only [Act.put, List.setIfInBounds_toArray, List.set_cons_zero, List.set_cons_succ])
  obtain ⟨W1, hW1⟩ : ∃ W, W = w.alloc (Obj.cells (vI (List.replicate n 0)).toArray 3) := ⟨_, rfl⟩
  have hS := Rt.start w w.heap.size n (a - b) rfl
  rw [← hW1] at hS ⊢
  have hB1 : Below w.heap.size w W1 := by rw [hW1]; exact (Below.refl _ _).alloc (Nat.le_refl _) _
  have HS : Hid _ := hS
  clear hS hW1
  go_loopw [6, 7, 8] (fun cv v _ wr => ∃ t : Nat, t ≤ n ∧ v = .int .i64 ((t : Int) - 1) ∧ cv = .int .i64 ((bw a b (n - t) : Nat) : Int) ∧ Below w.heap.size w wr ∧ Hid (Rt wr w.heap.size n (a - b) t)) (fun _ v _ _ => (intOf v + 1).toNat)
  case atStart =>
    exact ⟨n, Nat.le_refl _, rfl, by rw [Nat.sub_self, bw_zero]; rfl, hB1, HS.out⟩
  case round =>
    obtain ⟨t, ht', rfl, rfl, hb, hR⟩ := hrel
    by_cases h0 : 0 < t
    · obtain ⟨i, rfl⟩ : ∃ i, t = i + 1 := ⟨t - 1, by omega⟩
      have ei : (((i + 1 : Nat) : Int) - 1) = (i : Int) := by omega
      rw [ei]
      have g1 := (H1.out.be hb).at0 i (by omega)
      have g2 := (H2.out.be hb).at0 i (by omega)
      obtain ⟨p, hp⟩ : ∃ p, p = n - 1 - i := ⟨_, rfl⟩
      have hst := bw_step a b p HBA.out
      have x1 := ht_lt a p
      have x2 := ht_lt b p
      have y1 := bw_le a b p
      have y2 := bw_le a b (p + 1)
      rw [← hp] at g1 g2
      rw [show n - (i + 1) = p by omega]
      have hin : i < n := by omega
      have hin' : (i : Int) < (n : Int) := by omega
      obtain ⟨z, g3, gf⟩ := hR.out.cell i (by omega)
      have HD : Hid (ht (a - b) p = ht (a - b) (n - 1 - i)) := by rw [← hp]; rfl
      have HC1 : Hid (bw a b (n - i) = bw a b (p + 1)) := by rw [show n - i = p + 1 by omega]; rfl
      generalize ht a p = x at *
      generalize ht b p = y at *
      obtain ⟨B1, hB1⟩ : ∃ B1, B1 = bw a b (p + 1) := ⟨_, rfl⟩
      obtain ⟨B0, hB0⟩ : ∃ B0, B0 = bw a b p := ⟨_, rfl⟩
      obtain ⟨D, hD⟩ : ∃ D, D = ht (a - b) p := ⟨_, rfl⟩
      have x3 := ht_lt (a - b) p
      rw [← hD, ← hB0, ← hB1] at hst
      rw [← hD] at x3 HD
      rw [← hB0] at y1 ⊢
      rw [← hB1] at y2 HC1
      obtain ⟨s1, hs1⟩ : ∃ s1 : Int, s1 = (x : Int) - (y : Int) := ⟨_, rfl⟩
      obtain ⟨s2, hs2⟩ : ∃ s2 : Int, s2 = s1 - (B0 : Int) := ⟨_, rfl⟩
      have e1 : (x : Int) - (y : Int) = s1 := by omega
      have e2 : s1 - (B0 : Int) = s2 := by omega
      have l1 : s1 ≤ 256 := by omega
      have l2 : s2 ≤ 256 := by omega
      have l3 : -256 ≤ s1 := by omega
      have l4 : -257 ≤ s2 := by omega
      have hi2 : (0 : Int) ≤ (i : Int) := by omega
      by_cases hneg : s2 < 0
      · have e3 : s2 + 256 = (D : Int) := by omega
        obtain rfl : B1 = 1 := by omega
        clear hst x1 x2 x3 y1 y2 hs1 hs2 hp hD hB0 hB1 h0 ei
        go_wp2
        go_quiet (fail)
        go_wp2
        exact ⟨⟨i, by omega, rfl, by rw [HC1.out] <;> rfl, Below.setCell (Below_dN hb _) (by simp) _, (Rt.put (Rt.drew hR.out _) hin HD.out)⟩, by simp [intOf]⟩
      · obtain rfl : s2 = (D : Int) := by omega
        obtain rfl : B1 = 0 := by omega
        clear hst x1 x2 x3 y1 y2 hs1 hs2 hp hD hB0 hB1 h0 ei
        go_wp2
        go_quiet (fail)
        go_wp2
        exact ⟨⟨i, by omega, rfl, by rw [HC1.out] <;> rfl, Below.setCell (Below_dN hb _) (by simp) _, (Rt.put (Rt.drew hR.out _) hin HD.out)⟩, by simp [intOf]⟩
    · have et : t = 0 := by omega
      subst et
      clear h0 ht'
      go_wp2
      go_ret
      exact ⟨w.heap.size, rfl, Nat.le_refl _, hR.out.all, hb⟩

end Go.Proofs.YtclbiophgnkggaaGreatDoor

namespace Go.Proofs.YtclbiophgnkggaaGreatDoor
open Go Go.RowKit
open Wd

/-- A row of 64 numbers that f tells. -/
def R64 (W : World) (N : Nat) (f : Nat → Nat) : Prop := ∃ l : List Nat, Row W N (vI l) 3 ∧ l.length = 64 ∧ ∀ j, j < 64 → l.getD j 0 = f j
theorem R64.put {W : World} {N : Nat} {f g : Nat → Nat} {t d : Nat} (h : R64 W N f) (ht' : t < 64) (hd : d = g t) (hg : ∀ j, j < 64 → j ≠ t → g j = f j) : R64 (W.setCell ⟨N, t, none⟩ (.int .i64 (d : Int))) N g := by
  obtain ⟨l, h1, h2, h3⟩ := h
  refine ⟨l.set t d, ?_, by rw [List.length_set, h2], fun j hj => ?_⟩
  · have := h1.set t (.int .i64 (d : Int))
    rw [vI_set] at this
    exact this
  · rw [getD_setG _ _ _ _ (by omega)]
    by_cases e : j = t
    · rw [if_pos e, e, hd]
    · rw [if_neg e, hg j hj e]
      exact h3 j hj
theorem R64.drew {W : World} {N : Nat} {f : Nat → Nat} (h : R64 W N f) (k : Nat) : R64 (W.drewN k) N f := by
  obtain ⟨l, h1, h2⟩ := h
  exact ⟨l, Row.drew h1, h2⟩
theorem R64.cell {W : World} {N : Nat} {f : Nat → Nat} (h : R64 W N f) (j : Nat) (hj : j < 64) : W.cell? ⟨N, j, none⟩ = some (.int .i64 ((f j : Nat) : Int)) ∧ W.frozen? ⟨N, j, none⟩ = false := by
  obtain ⟨l, h1, h2, h3⟩ := h
  have := h1.cell j _ (vI_get l j (by omega))
  rw [h3 j hj] at this
  exact ⟨this, h1.thaw j⟩
theorem R64.congr {W : World} {N : Nat} {f g : Nat → Nat} (h : R64 W N f) (hg : ∀ j, j < 64 → g j = f j) : R64 W N g := by
  obtain ⟨l, h1, h2, h3⟩ := h
  exact ⟨l, h1, h2, fun j hj => (h3 j hj).trans (hg j hj).symm⟩
/-- The product's digits behind m of b's: those from place q on are new. -/
def tmf (P F q j : Nat) : Nat := if q < j then ht F (63 - j) else ht P (63 - j)

end Go.Proofs.YtclbiophgnkggaaGreatDoor

namespace Go.Proofs.YtclbiophgnkggaaGreatDoor
open Go Go.RowKit
open Wd

/-- A row of n numbers that f tells. -/
def Rf (W : World) (N n : Nat) (f : Nat → Nat) : Prop := ∃ l : List Nat, Row W N (vI l) 3 ∧ l.length = n ∧ ∀ j, j < n → l.getD j 0 = f j
section
variable {W W' : World} {N n : Nat} {f g : Nat → Nat}
theorem Rf.put {t d : Nat} (h : Rf W N n f) (ht' : t < n) (hd : d = g t) (hg : ∀ j, j < n → j ≠ t → g j = f j) : Rf (W.setCell ⟨N, t, none⟩ (.int .i64 (d : Int))) N n g := by
  obtain ⟨l, h1, h2, h3⟩ := h
  refine ⟨l.set t d, ?_, by rw [List.length_set, h2], fun j hj => ?_⟩
  · have := h1.set t (.int .i64 (d : Int))
    rw [vI_set] at this
    exact this
  · rw [getD_setG _ _ _ _ (by omega)]
    by_cases e : j = t
    · rw [if_pos e, e, hd]
    · rw [if_neg e, hg j hj e]
      exact h3 j hj
theorem Rf.lt (h : Rf W N n f) : N < W.heap.size := by
  obtain ⟨l, h1, h2⟩ := h
  exact Row.lt h1
theorem Rf.drew (h : Rf W N n f) (k : Nat) : Rf (W.drewN k) N n f := by
  obtain ⟨l, h1, h2⟩ := h
  exact ⟨l, Row.drew h1, h2⟩
theorem Rf.be (h : Rf W N n f) (hB : Below W.heap.size W W') : Rf W' N n f := by
  obtain ⟨l, h1, h2⟩ := h
  exact ⟨l, h1.below hB (Row.lt h1), h2⟩
theorem Rf.other (h : Rf W N n f) {M t : Nat} {v : Value} (hne : N ≠ M) : Rf (W.setCell ⟨M, t, none⟩ v) N n f := by
  obtain ⟨l, h1, h2⟩ := h
  exact ⟨l, h1.set_other _ _ _ hne, h2⟩
theorem Rf.cell (h : Rf W N n f) (j : Nat) (hj : j < n) : W.cell? ⟨N, j, none⟩ = some (.int .i64 ((f j : Nat) : Int)) ∧ W.frozen? ⟨N, j, none⟩ = false := by
  obtain ⟨l, h1, h2, h3⟩ := h
  have := h1.cell j _ (vI_get l j (by omega))
  rw [h3 j hj] at this
  exact ⟨this, h1.thaw j⟩
theorem Rf.congr (h : Rf W N n f) (hg : ∀ j, j < n → g j = f j) : Rf W N n g := by
  obtain ⟨l, h1, h2, h3⟩ := h
  exact ⟨l, h1, h2, fun j hj => (h3 j hj).trans (hg j hj).symm⟩
theorem Rf.start (B n : Nat) (hB : W.heap.size = B) : Rf (W.alloc (.cells (vI (List.replicate n 0)).toArray 3)) B n (fun _ => 0) :=
  ⟨_, Row.new' hB.symm rfl, by simp, fun j hj => by rw [List.getD_eq_getElem?_getD, List.getElem?_replicate]; split <;> rfl⟩
theorem Rf.rh {a : Nat} (h : Rf W N n (fun j => ht a (n - 1 - j))) : Rh W N n a := h
theorem Rh.rf {a : Nat} (h : Rh W N n a) : Rf W N n (fun j => ht a (n - 1 - j)) := h
end
theorem ht_nil (j : Nat) : ht 0 j = 0 := by simp [ht]

section
variable {ops : Array Oper} {rest : List Oper} {op : Oper} {a : Act} {Q : Exit → Act → World → Prop}
/-- A nought and a number's 32 digits behind it. -/
theorem wpList_nought_on (hgd : op.guard = none) (s x : Operand) (ho : op.op = .call { callee := .builtin .append, args := #[s, x], argTypes := #[29, 29] }) (W0 : World) (b M c : Nat)
    (hs : a.eval s = .slice (some ⟨W0.heap.size, 0, none⟩) 1 1) (hx : a.eval x = .slice (some ⟨M, 0, none⟩) 32 c) (hb : b < 256 ^ 32) (hC : Ch W0 M 0 32 b)
    (h : ∀ g cap w', W0.heap.size ≤ g → Ch w' g 0 33 b → Below W0.heap.size W0 w' → wpList Tryz.prog ops Q rest (a.put op.dst (.slice (some ⟨g, 0, none⟩) 33 cap)) w') :
    wpList Tryz.prog ops Q (op :: rest) a (W0.alloc (.cells #[.int .i64 0] 3)) := by
  obtain ⟨i, hi0, hz, hsz, hby⟩ := info_parts info_all_int
  have hk0 : Below W0.heap.size W0 (W0.alloc (.cells #[.int .i64 0] 3)) := (Below.refl _ _).alloc (Nat.le_refl _) _
  have hC1 := hC.be hk0
  have hr : Row (W0.alloc (.cells #[.int .i64 0] 3)) W0.heap.size [.int .i64 0] 3 := Row.new _ _ _
  generalize hW1 : W0.alloc (.cells #[.int .i64 0] 3) = W1 at *
  have hown : W1.ownsRow W0.heap.size 3 1 (.slice (some ⟨W0.heap.size, 0, none⟩) 1 1) 1 (vI [0]) := by
    refine ⟨rfl, .inr ⟨W0.heap.size, 1, _, rfl, Nat.le_refl _, hr, Nat.le_refl _, by decide, rfl, rfl⟩⟩
  refine wpList_append_own _ hgd s x 29 ho W0.heap.size 3 i (.int .i64 0) 1 8 Tryz.underlying29 hi0 hz hsz hby rfl (by decide) _ 1 (vI [0]) hs hown ⟨M, 0, none⟩ 32 c (vI (hts b 32 32)) hx (by rw [vI_length, hts_length]) ?_ ?_ (by unfold maxLen; omega) (by omega) hk0.size ?_
  · intro j u hj
    have hj2 : j < 32 := by have := (List.getElem?_eq_some_iff.1 hj).1; rwa [vI_length, hts_length] at this
    rw [vI_get _ j (by rw [hts_length]; exact hj2), hts_getD _ _ _ _ hj2] at hj
    rw [Addr.add_mid]
    exact (hC1.2 j hj2).trans hj
  · intro u hu
    obtain ⟨x, _, rfl⟩ := List.mem_map.1 hu
    rfl
  · intro v' w' h2 h3 _
    have hB2 : Below W0.heap.size W0 w' := hk0.grown h3 hk0.size (fun k hk => by
      have : k = W0.heap.size := by simpa [Value.ownBlock] using hk.symm
      omega)
    rcases h2.2 with ⟨_, h0⟩ | ⟨g, cap, cur, hv, hg, hh, hc, hm, hcs, htk⟩
    · omega
    · subst hv
      refine h g cap w' hg ⟨(Array.getElem?_eq_some_iff.1 hh).1, fun t ht' => ?_⟩ hB2
      have hrw : Row w' g cur.toList 3 := by unfold Row; rw [hh]
      rw [Nat.zero_add]
      refine hrw.cell t _ ?_
      have h5 : (vI [0] ++ vI (hts b 32 32))[t]? = cur.toList[t]? := by
        rw [← htk]
        exact List.getElem?_take_of_lt (by omega)
      rw [← h5]
      cases t with
      | zero =>
        show some (Value.int .i64 _) = _
        rw [show 33 - 1 - 0 = 32 from rfl, ht_zero b 32 32 hb (Nat.le_refl _)]
      | succ t =>
        rw [show vI [0] ++ vI (hts b 32 32) = .int .i64 0 :: vI (hts b 32 32) from rfl, List.getElem?_cons_succ, vI_get _ t (by rw [hts_length]; omega), hts_getD _ _ _ _ (by omega), show 33 - 1 - (t + 1) = 32 - 1 - t by omega]
end

end Go.Proofs.YtclbiophgnkggaaGreatDoor
