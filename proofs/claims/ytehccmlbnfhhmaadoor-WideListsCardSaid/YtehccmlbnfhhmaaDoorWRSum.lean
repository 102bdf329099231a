/-
  causewayref02.Sum.
-/
import Derived.Test.YtehccmlbnfhhmaaDoorWSum
import Derived.Test.YtehccmlbnfhhmaaDoorWPls
namespace Go.Proofs.YtehccmlbnfhhmaaDoor
open Go Go.RowKit
open Wd

theorem sum_lt (xs : List Nat) (hxs : ∀ x ∈ xs, x < 2 ^ 256) : xs.sum ≤ xs.length * 2 ^ 256 := by
  induction xs with
  | nil => simp
  | cons x r ih =>
    have h1 := ih (fun y hy => hxs y (List.mem_cons_of_mem _ hy))
    have h2 := hxs x List.mem_cons_self
    rw [List.sum_cons, List.length_cons, Nat.add_mul, Nat.one_mul]
    omega
theorem blen_sum (xs : List Nat) (hxs : ∀ x ∈ xs, x < 2 ^ 256) (hlen : xs.length ≤ 4398046511104) (t : Nat) : blen (xs.take t).sum ≤ 43 + 256 := by
  refine blen_le _ (43 + 256) ?_
  have h1 := sum_take xs t
  have h2 := sum_lt xs hxs
  have h3 : xs.length * 2 ^ 256 < 2 ^ 43 * 2 ^ 256 := Nat.mul_lt_mul_of_pos_right (Nat.lt_of_le_of_lt hlen (by decide)) (by decide)
  exact Nat.lt_of_lt_of_eq (Nat.lt_of_le_of_lt (Nat.le_trans h1 h2) h3) (Nat.pow_add 2 43 256).symm

set_option maxRecDepth 100000 in
set_option maxHeartbeats 4000000 in
theorem refSum_ws (xs : List Nat) (hxs : ∀ x ∈ xs, x < 2 ^ 256) (n : Nat) (hn : xs.length = n) (hlen : n ≤ 4398046511104) (A : Option Addr) (cap : Nat) (w : World) (h : Ws w A xs) :
    Calls Tryd.prog 29 #[.slice A n cap] w fun e w' => e = .returned (.tuple #[.agg (vQ (dgs (sumR xs) 4)).toArray, .int .i64 (sumE xs)]) ∧ Below w.heap.size w w' := by
  have HN : Hid (xs.length = n) := hn
  have HW : Hid (Ws w A xs) := h
  have HX : Hid (∀ i, xs.getD i 0 < 2 ^ 256) := fun i => wid_lt hxs i
  have HM : Hid (∀ t, t < n → (xs.take (t + 1)).sum = (xs.take t).sum + xs.getD t 0) := fun t ht => sum_more xs t (by omega)
  have HL : Hid ((xs.take n).sum = xs.sum) := by show _ = _; rw [← hn, List.take_length]
  have HBL : Hid (∀ t, blen (xs.take t).sum ≤ 1048576) := fun t => Nat.le_trans (blen_sum xs hxs (by omega) t) (by decide)
  have ln : (n : Int) ≤ 4398046511104 := by omega
  clear h hxs hn hlen
  go_enter Tryd.func29, Tryd.ntmps29
  go_wp2
  go_loopw [4, 5] (fun lv iv wr => ∃ t : Nat, t ≤ n ∧ iv = .int .i64 (t : Int) ∧ Below w.heap.size w wr ∧ Row wr w.heap.size (vQ (List.replicate 4 0)) 24 ∧ Hid (Dg wr lv (blen (xs.take t).sum) (xs.take t).sum)) (fun _ iv _ => n - (intOf iv).toNat)
  case atStart =>
    exact ⟨0, by omega, rfl, (Below.refl _ _).alloc (Nat.le_refl _) _, Row.new' rfl rfl, ⟨by simp [blen], by simp [blen], .inl ⟨rfl, by simp [blen]⟩⟩⟩
  case round =>
    obtain ⟨t, ht, rfl, hb, r2, hD⟩ := hrel
    by_cases hlt : t < n
    · have hlt' : (t : Int) < (n : Int) := by omega
      obtain ⟨b, o, rfl, rg, hbw⟩ := (HW.out.below hb) t (by rw [HN.out]; exact hlt)
      have hm := HM.out t hlt
      have hbl := HBL.out t
      have dl := hD.out
      obtain ⟨m, em⟩ : ∃ m, m = (xs.take t).sum := ⟨_, rfl⟩
      rw [← em] at hm dl hbl
      obtain ⟨x, ex⟩ : ∃ x, x = xs.getD t 0 := ⟨_, rfl⟩
      have HXx : Hid (x < 2 ^ 256) := by show x < _; rw [ex]; exact HX.out t
      rw [← ex] at rg hm
      have HBX : Hid (blen x ≤ 256) := blen_le x 256 HXx.out
      have HDX : Hid (∀ w, _) := fun w => digits_any x HXx.out w
      obtain ⟨cx, Hx⟩ : ∃ c, Wc c x := ⟨_, rfl⟩
      rw [← show cx = vQ (dgs x 4) from Hx] at rg HDX
      have HMM : Hid ((xs.take (t + 1)).sum = m + x) := hm
      have HBM : Hid (blen m ≤ 1048576) := hbl
      clear hm em ex ht hbw hD hbl
      go_wp2_with (first
        | (refine wpList_index_ws rfl (.tmp 13) (.tmp 14) rfl b o n cap t rfl rfl hlt ?_; simp only [Act.put, List.setIfInBounds_toArray, List.set_cons_zero, List.set_cons_succ])
        | (refine wpList_load_w rfl 24 (.tmp 15) rfl b (o + t * 4) rfl cx _ rg Tryd.underlying24 rfl Hx.info ?_; simp only [Act.put, List.setIfInBounds_toArray, List.set_cons_zero, List.set_cons_succ]))
      refine (HDX.out _).mono ?_
      rintro e V1 ⟨N, _, rN, rfl, hB⟩
      replace dl := dl.below hB
      replace r2 := Row.below r2 hB (Row.lt r2)
      replace hb := hb.trans (hB.mono hb.size)
      clear hB rg HDX
      have HP := plus_dg m x (blen m) (blen x) _ _ HBM.out (Nat.le_trans HBX.out (by decide)) V1 dl ⟨blen_lt x, Nat.lt_of_le_of_lt HBX.out (by decide), .inr ⟨N, 256, rfl, HBX.out, (Cl.row rN).less HBX.out⟩⟩
      clear dl rN
      go_wp2_with fail
      refine HP.mono ?_
      rintro e V2 ⟨v2, rfl, dl, hB⟩
      replace r2 := Row.below r2 hB (Row.lt r2)
      replace hb := hb.trans (hB.mono hb.size)
      clear hB HP
      have HD2 : Hid _ := dl
      clear dl
      go_wp2_with fail
      exact ⟨⟨t + 1, hlt, by go_num, hb, r2, by rw [HMM.out]; exact HD2.out⟩, by simp [intOf]; omega⟩
    · obtain rfl : t = n := by omega
      have hlt' : ¬ (t : Int) < (t : Int) := by omega
      have dl := hD.out
      rw [HL.out] at dl
      have HA := answered_dg _ (blen xs.sum) xs.sum _ dl
      have HE : Hid (numR xs.sum = sumR xs ∧ ansErr xs.sum = sumE xs) := ⟨rfl, rfl⟩
      obtain ⟨cR, HR⟩ : ∃ c, Wc c (sumR xs) := ⟨_, rfl⟩
      rw [HE.out.1, HE.out.2, ← show cR = vQ (dgs (sumR xs) 4) from HR] at HA
      clear hD dl ht hlt
      go_wp2_with fail
      refine HA.mono ?_
      rintro e V1 ⟨rfl, hB⟩
      replace r2 := Row.below r2 hB (Row.lt r2)
      replace hb := hb.trans (hB.mono hb.size)
      clear hB HA
      have T2 := HR.there r2 rfl
      have fin := r2.over (vs := cR) (by rw [HR.len]; rfl)
      have hbf := below_setCells hb (b := w.heap.size) (o := 0) (by omega) cR
      go_wp2_with (refine wpList_store_mid rfl 24 (.tmp 2) (.tmp 21) rfl w.heap.size 0 cR.toArray rfl rfl T2 HR.info' HR.one ?_; simp only [Act.put])
      exact bodyPost_ret (results_row_tmp Tryd.results29 _ _ w.heap.size 24 cR (.int .i64 (sumE xs)) rfl rfl fin Tryd.underlying24 info_w4 HR.len) rfl ⟨by rw [← show cR = vQ (dgs (sumR xs) 4) from HR], hbf⟩

theorem refSum_c {xs : List Nat} (hxs : ∀ x ∈ xs, x < 2 ^ 256) {n : Nat} (hn : xs.length = n) (hlen : n ≤ 4398046511104) {A : Option Addr} (cap : Nat) {r : Nat} {E : Int} (hr : sumR xs = r) (hE : sumE xs = E) (w : World) (h : Ws w A xs) : Calls Tryd.prog 29 #[.slice A n cap] w fun e w' => ∃ c, Wc c r ∧ e = .returned (.tuple #[.agg c.toArray, .int .i64 E]) ∧ Below w.heap.size w w' := by
  subst hr hE
  exact (refSum_ws xs hxs n hn hlen A cap w h).mono fun e w' h => ⟨_, rfl, h.1, h.2⟩

end Go.Proofs.YtehccmlbnfhhmaaDoor
