/-
  wide.putDigit.
-/
import Derived.Test.YtehccmlbnfhhmaaDoorWCmp
namespace Go.Proofs.YtehccmlbnfhhmaaDoor
open Go Go.RowKit
open Wd
namespace Wd
def pc (a d t : Nat) : Nat := (10 * (a % 2 ^ (64 * t)) + d) / 2 ^ (64 * t)
theorem pc_zero (a d : Nat) : pc a d 0 = d := by simp [pc, Nat.mod_one]
theorem pc_lt (a d t : Nat) (hd : d < 256) : pc a d t < 18446744073709551616 := by
  unfold pc
  have hp : 0 < 2 ^ (64 * t) := Nat.two_pow_pos _
  have h1 := Nat.mod_lt a hp
  refine Nat.div_lt_of_lt_mul ?_
  have h2 : 2 ^ (64 * t) * 266 ≤ 2 ^ (64 * t) * 18446744073709551616 := Nat.mul_le_mul_left _ (by decide)
  have h3 : 1 ≤ 2 ^ (64 * t) := hp
  have h4 : 256 ≤ 2 ^ (64 * t) * 256 := Nat.le_mul_of_pos_left _ hp
  generalize 2 ^ (64 * t) = q at *
  generalize a % q = r at *
  omega
theorem put_step (a d t : Nat) (h : t < 4) : (lim a t * 10 + pc a d t) % 18446744073709551616 = lim (10 * a + d) t ∧ (lim a t * 10 + pc a d t) / 18446744073709551616 = pc a d (t + 1) := by
  match t, h with
  | 0, _ => simp only [lim, pc, Nat.reduceMul, Nat.reducePow, Nat.reduceAdd]; omega
  | 1, _ => simp only [lim, pc, Nat.reduceMul, Nat.reducePow, Nat.reduceAdd]; omega
  | 2, _ => simp only [lim, pc, Nat.reduceMul, Nat.reducePow, Nat.reduceAdd]; omega
  | 3, _ => simp only [lim, pc, Nat.reduceMul, Nat.reducePow, Nat.reduceAdd]; omega
theorem pc_four (a d : Nat) (ha : a < 2 ^ 256) : pc a d 4 = (10 * a + d) / 2 ^ 256 := by
  simp only [pc, Nat.reduceMul]; rw [Nat.mod_eq_of_lt ha]
theorem mid_set (n a t : Nat) (h : t < 4) : (dgs n t ++ (dgs a 4).drop t).set t (lim n t) = dgs n (t + 1) ++ (dgs a 4).drop (t + 1) := by
  rw [List.set_append_right _ _ (by rw [dgs_length]; exact Nat.le_refl _), dgs_length, Nat.sub_self, List.drop_eq_getElem_cons (by rw [dgs_length]; exact h), List.set_cons_zero, dgs_succ n t, List.append_assoc]
  rfl
theorem mid_get (n a t : Nat) (h : t < 4) : (dgs n t ++ (dgs a 4).drop t).getD t 0 = lim a t := by
  rw [List.getD_eq_getElem?_getD, List.getElem?_append_right (by rw [dgs_length]; exact Nat.le_refl _), dgs_length, Nat.sub_self, List.getElem?_drop, Nat.add_zero, dgs_get a 4 t h]; rfl
theorem mid_length (n a t : Nat) (h : t ≤ 4) : (dgs n t ++ (dgs a 4).drop t).length = 4 := by
  rw [List.length_append, List.length_drop, dgs_length, dgs_length]; omega
end Wd

set_option maxRecDepth 100000 in
set_option maxHeartbeats 1000000 in
theorem putDigit_any (a d : Nat) (ha : a < 2 ^ 256) (hd : d < 256) (w : World) :
    Calls Tryd.prog 61 #[.agg (vQ (dgs a 4)).toArray, .int .u8 (d : Int)] w fun e w' => e = .returned (.tuple #[.agg (vQ (dgs (10 * a + d) 4)).toArray, .int .u64 (((10 * a + d) / 2 ^ 256 : Nat) : Int)]) ∧ Below w.heap.size w w' := by
  have HP4 : Hid (pc a d 4 = (10 * a + d) / 2 ^ 256) := pc_four a d ha
  obtain ⟨ov, hov⟩ : ∃ ov, ov = (10 * a + d) / 2 ^ 256 := ⟨_, rfl⟩
  rw [← hov] at HP4 ⊢
  clear hov ha
  obtain ⟨n, hn⟩ : ∃ n, n = 10 * a + d := ⟨_, rfl⟩
  have HSTEP : Hid (∀ t, t < 4 → (lim a t * 10 + pc a d t) % 18446744073709551616 = lim n t ∧ (lim a t * 10 + pc a d t) / 18446744073709551616 = pc a d (t + 1)) := by rw [hn]; exact fun t ht => put_step a d t ht
  rw [← hn]
  clear hn
  have HPL : Hid (∀ t, pc a d t < 18446744073709551616) := fun t => pc_lt a d t hd
  go_enter Tryd.func61, Tryd.ntmps61
  go_wp2
  go_loopw [6, 7, 10] (fun c _ i wr => ∃ t : Nat, t ≤ 4 ∧ i = .int .i64 (t : Int) ∧ c = .int .u64 ((pc a d t : Nat) : Int) ∧ Below w.heap.size w wr ∧ Row wr w.heap.size (vQ (dgs n t ++ (dgs a 4).drop t)) 24 ∧ Row wr (w.heap.size + 1) (vQ (List.replicate 4 0)) 24)
    (fun _ _ i _ => 4 - (intOf i).toNat)
  case atStart =>
    refine ⟨0, by omega, rfl, by rw [pc_zero], ((Below.refl _ _).alloc (Nat.le_refl _) _).alloc (by simp) _, ?_, ?_⟩
    · exact (Row.new' rfl rfl).alloc _
    · exact Row.new' (by simp) rfl
  case round =>
    obtain ⟨t, ht, rfl, rfl, hb, h0, h1⟩ := hrel
    by_cases hlt : t < 4
    · have g0 := h0.cell t _ (vQ_get _ t (by rw [mid_length n a t ht]; exact hlt))
      have gf := h0.thaw t
      rw [mid_get n a t hlt] at g0
      have HMA : Hid (∀ w, Calls Tryd.prog 63 #[.int .u64 ((lim a t : Nat) : Int), .int .u64 10, .int .u64 ((pc a d t : Nat) : Int)] w fun e w' => e = .returned (.tuple #[.int .u64 ((pc a d (t + 1) : Nat) : Int), .int .u64 ((lim n t : Nat) : Int)]) ∧ w' = w) := by
        intro w
        have h := mulAdd_any (lim a t) 10 (pc a d t) (lim_lt _ _) (by decide) (HPL.out t) w
        rw [(HSTEP.out t hlt).1, (HSTEP.out t hlt).2] at h
        exact h
      generalize lim a t = x at g0 HMA
      go_wp2_with (go_at_call 63; refine (HMA.out wr).mono ?_; rintro e wr ⟨rfl, rfl⟩)
      refine ⟨⟨t + 1, hlt, by go_num, rfl, Below.setCell hb (by simp) _, ?_, h1.set_other _ _ _ (by omega)⟩, by simp [intOf]; omega⟩
      have := h0.set t (.int .u64 ((lim n t : Nat) : Int))
      rw [vQ_set, mid_set n a t hlt] at this
      exact this
    · have e4 : (t : Int) = 4 := by omega
      have et : t = 4 := by omega
      rw [et] at h0
      rw [show pc a d t = ov by rw [et]; exact HP4.out, e4]
      clear e4 et ht hlt
      have h0' : Row wr w.heap.size (vQ (dgs n 4)) 24 := by
        have e : (dgs a 4).drop 4 = [] := List.drop_of_length_le (by rw [dgs_length]; exact Nat.le_refl _)
        rw [e, List.append_nil] at h0; exact h0
      obtain ⟨cs, hcs⟩ : ∃ cs, cs = vQ (dgs n 4) := ⟨_, rfl⟩
      have hl : cs.length = 4 := by rw [hcs, vQ_length, dgs_length]
      rw [← hcs] at h0'
      have i4 : (Tryd.prog.info? 24).map (·.size) = some cs.length := by rw [info_w4, hl]
      have i4' : (Tryd.prog.info? 24).map (·.size) = some cs.toArray.size := by rw [info_w4]; simp [hl]
      have hone := all_oneCell_toArray (show ∀ v ∈ cs, v.oneCell' = true by rw [hcs]; exact vQ_one _)
      have T := h1.there 0 cs.toArray.size (by simp [hl, vQ_length])
      have fin := h1.over (vs := cs) (by rw [hl]; rfl)
      have hbf := below_setCells hb (b := w.heap.size + 1) (o := 0) (by omega) cs
      have HE : Hid (vQ (dgs n 4) = cs) := hcs.symm
      have HL : Hid (cs.length = 4) := hl
      clear hcs hl hb h0 HP4 HSTEP HPL
      go_wp2_with (first
        | (refine wpList_load_mid rfl 24 (.tmp 2) rfl w.heap.size 0 rfl cs _ h0'.all Tryd.underlying24 rfl i4 ?_; simp only [Act.put, List.setIfInBounds_toArray, List.set_cons_zero, List.set_cons_succ])
        | (refine wpList_store_mid rfl 24 (.tmp 4) (.tmp 24) rfl (w.heap.size + 1) 0 cs.toArray rfl rfl T i4' hone ?_; simp only [Act.put]))
      exact bodyPost_ret (results_row_tmp Tryd.results61 _ _ (w.heap.size + 1) 24 cs (.int .u64 (ov : Int)) rfl rfl fin Tryd.underlying24 info_w4 HL.out) rfl ⟨by rw [HE.out], hbf⟩

end Go.Proofs.YtehccmlbnfhhmaaDoor
