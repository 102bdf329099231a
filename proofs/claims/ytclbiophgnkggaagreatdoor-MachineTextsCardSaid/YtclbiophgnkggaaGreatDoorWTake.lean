/-
  wide.takeAway.
-/
import Derived.Test.YtclbiophgnkggaaGreatDoorWEq
import Derived.Test.YtclbiophgnkggaaGreatDoorWDivU
import Derived.Test.YtclbiophgnkggaaGreatDoorWDvM
import Derived.Test.YtclbiophgnkggaaGreatDoorWCut
import Derived.Test.YtclbiophgnkggaaGreatDoorWDvN

namespace Go.Proofs.YtclbiophgnkggaaGreatDoor
open Go Go.RowKit
open Wd

theorem run_index_vQ {P : Program} (t e : TypeId) (n : Nat) (ht : P.underlying t = some (.array n e)) (he : P.underlying e = some (.int .u64)) (hsz : ∀ w, (sizeOf e).run P w = .ok 1 w) (xs : List Nat) (hx : xs.length = n) (i : Nat) (hi : i < n) (w : World) :
    (Instr.index t (.agg (vQ xs).toArray) (.int .i64 (i : Int))).run P w = .ok (.int .u64 ((xs.getD i 0 : Nat) : Int)) w := by
  have h1 : (0 : Int) ≤ (i : Int) ∧ (i : Int) < (n : Int) := by omega
  have hp : (part e (vQ xs).toArray i).run P w = .ok (.int .u64 ((xs.getD i 0 : Nat) : Int)) w := by
    simp [part, isAgg, run_underlying he, vQ, List.getElem?_eq_getElem (show i < xs.length by omega)]
  simp [Instr.index, run_underlying ht, asIntOf, hsz, hp, hi]

theorem info_d9 : (Tryz.prog.info? 153).map (·.size) = some 9 := by kernel_rfl
theorem info_d8' : (Tryz.prog.info? 135).map (·.size) = some 8 := by kernel_rfl

set_option maxRecDepth 100000 in
set_option maxHeartbeats 2000000 in
theorem shiftUp_any (D s : Nat) (hD : D < 18446744073709551616 ^ 8) (hs : s ≤ 63) (w : World) :
    Calls Tryz.prog 109 #[.agg (vQ (dgs D 8)).toArray, .int .i64 (s : Int)] w fun e w' => e = .returned (.agg (vQ (dgs (D * 2 ^ s) 9)).toArray) ∧ Below w.heap.size w w' := by
  have HEND : Hid (upl D s 8 = dgs (D * 2 ^ s) 9) := upl_end D s hD
  have HIX : Hid (∀ (i : Nat) (w : World), i < 8 → (Instr.index 135 (.agg (vQ (dgs D 8)).toArray) (.int .i64 (i : Int))).run Tryz.prog w = .ok (.int .u64 ((lim D i : Nat) : Int)) w) := fun i w hi => by
    rw [run_index_vQ 135 35 8 Tryz.underlying135 Tryz.underlying35 size_u64 (dgs D 8) (dgs_length _ _) i hi w, dgs_getD _ _ _ hi]
  obtain ⟨ca, hca⟩ : ∃ ca, ca = vQ (dgs D 8) := ⟨_, rfl⟩
  rw [← hca] at HIX ⊢
  have la : ca.length = 8 := by rw [hca, vQ_length, dgs_length]
  have ia : (Tryz.prog.info? 135).map (·.size) = some ca.length := by rw [info_d8', la]
  clear hca la hD
  have rA : Row (w.alloc (Obj.cells ca.toArray 135)) w.heap.size ca 135 := Row.new w ca _
  go_enter Tryz.func109, Tryz.ntmps109
  go_wp2_with (refine wpList_load_mid rfl 135 (.tmp 2) rfl w.heap.size 0 rfl ca _ (Row.alloc (Row.alloc rA _) _).all Tryz.underlying135 rfl ia ?_; simp only [Act.put, List.setIfInBounds_toArray, List.set_cons_zero, List.set_cons_succ])
  go_loopw [6, 7, 9] (fun _ _ i wr => ∃ t : Nat, t ≤ 8 ∧ i = .int .i64 (t : Int) ∧ Below w.heap.size w wr ∧ Row wr (w.heap.size + 1) (vQ (List.replicate 9 0)) 153 ∧ Row wr (w.heap.size + 1 + 1) (vQ (upl D s t)) 153)
    (fun _ _ i _ => 8 - (intOf i).toNat)
  case atStart =>
    refine ⟨0, by omega, rfl, (((Below.refl _ _).alloc (Nat.le_refl _) _).alloc (by simp) _).alloc (by simp; omega) _, ?_, ?_⟩
    · exact (Row.new' (by simp) rfl).alloc _
    · rw [upl_zero]; exact Row.new' (by simp) rfl
  case round =>
    obtain ⟨t, ht, rfl, hb, h4, h5⟩ := hrel
    by_cases hlt : t < 8
    · have g5 := h5.cell t _ (vQ_get _ t (by rw [upl_length D s t ht]; omega))
      have gf := h5.thaw t
      have g6 := h5.cell (t + 1) _ (vQ_get _ (t + 1) (by rw [upl_length D s t ht]; omega))
      have gg := h5.thaw (t + 1)
      have HST : Hid _ := upl_step D s t hs hlt
      have hor := upl_or ((upl D s t).getD t 0) (lim D t) s (by rw [upl_at' D s t hs]; exact top_lt D s t) hs
      have hpl : (upl D s t).getD t 0 < 18446744073709551616 := by rw [upl_at]; exact Nat.mod_lt _ (by decide)
      have hxl := lim_lt D t
      have hix := HIX.out t wr hlt
      generalize (upl D s t).getD t 0 = p at g5 HST hor hpl
      generalize (upl D s t).getD (t + 1) 0 = z at g6
      generalize lim D t = x at HST hor hix hxl
      have eB : IntKind.u64.wrap ((x : Int) * 2 ^ s) = ((x * 2 ^ s % 18446744073709551616 : Nat) : Int) := wrap_shl x s
      have hml : x * 2 ^ s % 18446744073709551616 < 18446744073709551616 := Nat.mod_lt _ (by decide)
      obtain ⟨m, hm⟩ : ∃ m, m = x * 2 ^ s % 18446744073709551616 := ⟨_, rfl⟩
      rw [← hm] at eB hor HST hml
      have eO : bits .or .u64 (p : Int) (m : Int) = ((p + m : Nat) : Int) := by rw [bits_or_u64_nat _ _ hpl hml, hor]
      have eK : (x : Int) / 2 ^ (64 - s) = ((x / 2 ^ (64 - s) : Nat) : Int) := by simp
      obtain ⟨v, hv⟩ : ∃ v, v = p + m := ⟨_, rfl⟩
      rw [← hv] at eO HST
      obtain ⟨y, hy⟩ : ∃ y, y = x / 2 ^ (64 - s) := ⟨_, rfl⟩
      rw [← hy] at eK HST
      clear hv hm hor hpl hml hy hxl ht
      go_wp2
      go_region
      go_wp2
      refine ⟨⟨t + 1, hlt, by go_num, Below.drew (Below.setCell (Below.setCell hb (by simp; omega) _) (by simp; omega) _), Row.drew ((h4.set_other _ _ _ (by omega)).set_other _ _ _ (by omega)), ?_⟩, by simp [intOf]; omega⟩
      have := (h5.set t (.int .u64 (v : Int))).set (t + 1) (.int .u64 (y : Int))
      rw [vQ_set, vQ_set, HST.out] at this
      exact Row.drew this
    · have e8 : (t : Int) = 8 := by omega
      have et : t = 8 := by omega
      rw [et, HEND.out] at h5
      rw [e8]
      clear et e8 ht hlt HEND HIX ia rA
      obtain ⟨cs, hcs⟩ : ∃ cs, cs = vQ (dgs (D * 2 ^ s) 9) := ⟨_, rfl⟩
      have hl : cs.length = 9 := by rw [hcs, vQ_length, dgs_length]
      rw [← hcs] at h5
      have i9 : (Tryz.prog.info? 153).map (·.size) = some cs.length := by rw [info_d9, hl]
      have i9' : (Tryz.prog.info? 153).map (·.size) = some cs.toArray.size := by rw [info_d9]; simp [hl]
      have hone := all_oneCell_toArray (show ∀ v ∈ cs, v.oneCell' = true by rw [hcs]; exact vQ_one _)
      have T := h4.there 0 cs.toArray.size (by simp [hl, vQ_length])
      have fin := h4.over (vs := cs) (by rw [hl]; rfl)
      have hbf := below_setCells hb (b := w.heap.size + 1) (o := 0) (by omega) cs
      have HE : Hid (vQ (dgs (D * 2 ^ s) 9) = cs) := hcs.symm
      have HL : Hid (cs.length = 9) := hl
      clear hcs hl hb
      go_wp2_with (first
        | (refine wpList_load_mid rfl 153 (.tmp 5) rfl (w.heap.size + 1 + 1) 0 rfl cs _ h5.all Tryz.underlying153 rfl i9 ?_; simp only [Act.put, List.setIfInBounds_toArray, List.set_cons_zero, List.set_cons_succ])
        | (refine wpList_store_mid rfl 153 (.tmp 4) (.tmp 29) rfl (w.heap.size + 1) 0 cs.toArray rfl rfl T i9' hone ?_; simp only [Act.put]))
      exact bodyPost_ret (results_row Tryz.results109 _ _ (w.heap.size + 1) 153 cs rfl fin Tryz.underlying153 info_d9 HL.out) rfl ⟨by rw [HE.out], hbf⟩

/-! ### shiftDown -/
theorem dnpart (R s t : Nat) (hs : s ≤ 63) (ht : t < 4) : (dgs (R / 2 ^ s) t ++ List.replicate (4 - t) 0).set t (lim R t / 2 ^ s ||| (lim R (t + 1) * 2 ^ (64 - s) % 18446744073709551616)) = dgs (R / 2 ^ s) (t + 1) ++ List.replicate (4 - (t + 1)) 0 := by
  rw [down_part R s t hs, fill _ t 4 _ (dgs_length _ _) ht, ← dgs_succ]

set_option maxRecDepth 100000 in
set_option maxHeartbeats 2000000 in
theorem shiftDown_any (R s : Nat) (hs : s ≤ 63) (w : World) :
    Calls Tryz.prog 112 #[.agg (vQ (dgs R 9)).toArray, .int .i64 (s : Int)] w fun e w' => e = .returned (.agg (vQ (dgs (R / 2 ^ s) 4)).toArray) ∧ Below w.heap.size w w' := by
  go_enter Tryz.func112, Tryz.ntmps112
  go_wp2
  go_loopw [6, 7] (fun _ i wr => ∃ t : Nat, t ≤ 4 ∧ i = .int .i64 (t : Int) ∧ Below w.heap.size w wr ∧ Row wr w.heap.size (vQ (dgs R 9)) 153 ∧ Row wr (w.heap.size + 1) (vQ (List.replicate 4 0)) 37 ∧ Row wr (w.heap.size + 1 + 1) (vQ (dgs (R / 2 ^ s) t ++ List.replicate (4 - t) 0)) 37)
    (fun _ i _ => 4 - (intOf i).toNat)
  case atStart =>
    refine ⟨0, by omega, rfl, (((Below.refl _ _).alloc (Nat.le_refl _) _).alloc (by simp) _).alloc (by simp; omega) _, ?_, ?_, ?_⟩
    · exact ((Row.new' rfl rfl).alloc _).alloc _
    · exact (Row.new' (by simp) rfl).alloc _
    · exact Row.new' (by simp) rfl
  case round =>
    obtain ⟨t, ht, rfl, hb, h2, h4, h5⟩ := hrel
    by_cases hlt : t < 4
    · have g2 := h2.cell t _ (vQ_get _ t (by rw [dgs_length]; omega))
      have g3 := h2.cell (t + 1) _ (vQ_get _ (t + 1) (by rw [dgs_length]; omega))
      rw [dgs_getD _ _ _ (by omega)] at g2 g3
      have g5 := h5.cell t _ (vQ_get _ t (by rw [List.length_append, dgs_length, List.length_replicate]; omega))
      have gf := h5.thaw t
      have HST : Hid _ := dnpart R s t hs hlt
      have hx := lim_lt R t
      have hy := lim_lt R (t + 1)
      generalize lim R t = x at *
      generalize lim R (t + 1) = y at *
      generalize (dgs (R / 2 ^ s) t ++ List.replicate (4 - t) 0).getD t 0 = z at g5
      have eK : (x : Int) / 2 ^ s = ((x / 2 ^ s : Nat) : Int) := by simp
      have eB : IntKind.u64.wrap ((y : Int) * 2 ^ (64 - s)) = ((y * 2 ^ (64 - s) % 18446744073709551616 : Nat) : Int) := wrap_shl y (64 - s)
      have hml : y * 2 ^ (64 - s) % 18446744073709551616 < 18446744073709551616 := Nat.mod_lt _ (by decide)
      have hkl : x / 2 ^ s < 18446744073709551616 := Nat.lt_of_le_of_lt (Nat.div_le_self _ _) hx
      obtain ⟨m, hm⟩ : ∃ m, m = y * 2 ^ (64 - s) % 18446744073709551616 := ⟨_, rfl⟩
      obtain ⟨q, hq⟩ : ∃ q, q = x / 2 ^ s := ⟨_, rfl⟩
      rw [← hm] at eB HST hml
      rw [← hq] at eK HST hkl
      have eO : bits .or .u64 (q : Int) (m : Int) = ((q ||| m : Nat) : Int) := bits_or_u64_nat _ _ hkl hml
      obtain ⟨v, hv⟩ : ∃ v, v = q ||| m := ⟨_, rfl⟩
      rw [← hv] at eO HST
      clear hv hm hq hkl hml hx hy ht
      go_wp2
      go_region
      go_wp2
      refine ⟨⟨t + 1, hlt, by go_num, Below.drew (Below.setCell hb (by simp; omega) _), Row.drew (h2.set_other _ _ _ (by omega)), Row.drew (h4.set_other _ _ _ (by omega)), ?_⟩, by simp [intOf]; omega⟩
      have := h5.set t (.int .u64 (v : Int))
      rw [vQ_set, HST.out] at this
      exact Row.drew this
    · have e4 : (t : Int) = 4 := by omega
      have et : t = 4 := by omega
      rw [et] at h5
      rw [e4]
      clear et e4 ht hlt
      have h5' : Row wr (w.heap.size + 1 + 1) (vQ (dgs (R / 2 ^ s) 4)) 37 := by simpa using h5
      clear h5
      obtain ⟨cs, hcs⟩ : ∃ cs, cs = vQ (dgs (R / 2 ^ s) 4) := ⟨_, rfl⟩
      have hl : cs.length = 4 := by rw [hcs, vQ_length, dgs_length]
      rw [← hcs] at h5'
      have i9 : (Tryz.prog.info? 37).map (·.size) = some cs.length := by rw [info_w4, hl]
      have i9' : (Tryz.prog.info? 37).map (·.size) = some cs.toArray.size := by rw [info_w4]; simp [hl]
      have hone := all_oneCell_toArray (show ∀ v ∈ cs, v.oneCell' = true by rw [hcs]; exact vQ_one _)
      have T := h4.there 0 cs.toArray.size (by simp [hl, vQ_length])
      have fin := h4.over (vs := cs) (by rw [hl]; rfl)
      have hbf := below_setCells hb (b := w.heap.size + 1) (o := 0) (by omega) cs
      have HE : Hid (vQ (dgs (R / 2 ^ s) 4) = cs) := hcs.symm
      have HL : Hid (cs.length = 4) := hl
      clear hcs hl hb
      go_wp2_with (first
        | (refine wpList_load_mid rfl 37 (.tmp 5) rfl (w.heap.size + 1 + 1) 0 rfl cs _ h5'.all Tryz.underlying37 rfl i9 ?_; simp only [Act.put, List.setIfInBounds_toArray, List.set_cons_zero, List.set_cons_succ])
        | (refine wpList_store_mid rfl 37 (.tmp 4) (.tmp 26) rfl (w.heap.size + 1) 0 cs.toArray rfl rfl T i9' hone ?_; simp only [Act.put]))
      exact bodyPost_ret (results_row Tryz.results112 _ _ (w.heap.size + 1) 37 cs rfl fin Tryz.underlying37 info_w4 HL.out) rfl ⟨by rw [HE.out], hbf⟩

end Go.Proofs.YtclbiophgnkggaaGreatDoor

namespace Go.Proofs.YtclbiophgnkggaaGreatDoor
open Go Go.RowKit
open Wd

set_option maxHeartbeats 1000000 in
theorem guess_any (hi lo y : Nat) (hh : hi ≤ y) (hl : lo < 18446744073709551616) (hy : y < 18446744073709551616) (w : World) :
    Calls Tryz.prog 110 #[.int .u64 (hi : Int), .int .u64 (lo : Int), .int .u64 (y : Int)] w fun e w' => e = .returned (.int .u64 ((gss hi lo y : Nat) : Int)) ∧ ∃ n, w' = w.drewN n := by
  by_cases he : hi = y
  · subst he
    have hg : gss hi lo hi = 18446744073709551615 := if_pos rfl
    rw [hg]
    clear hg hh hl hy
    go_enter Tryz.func110, Tryz.ntmps110
    go_wp2
    go_ret
    exact ⟨rfl, 0, by rw [World.drewN_zero]⟩
  · have hg : gss hi lo y = (hi * 18446744073709551616 + lo) / y := if_neg he
    rw [hg]
    have HD : Hid (∀ w, _) := div64_N hi lo y (by omega) hl hy
    have hne : ((hi : Int) == (y : Int)) = false := by simpa using (by omega : ¬ (hi : Int) = (y : Int))
    have hne' : ¬ (hi : Int) = (y : Int) := by omega
    generalize (hi * 18446744073709551616 + lo) / y = q at *
    generalize (hi * 18446744073709551616 + lo) % y = r at *
    clear hg hh hl hy he
    go_enter Tryz.func110, Tryz.ntmps110
    go_wp2_with (go_at_call 103; refine (HD.out w).mono ?_; rintro e w2 ⟨rfl, n, rfl⟩)
    go_ret
    exact ⟨rfl, n, rfl⟩

end Go.Proofs.YtclbiophgnkggaaGreatDoor

namespace Go.Proofs.YtclbiophgnkggaaGreatDoor
open Go Go.RowKit
open Wd
namespace Wd
/-- What holds at round t. -/
structure Tk (R Y q k n t : Nat) (l : List Nat) (c b : Nat) : Prop where
  len : l.length = 9
  lt : ∀ x ∈ l, x < 18446744073709551616
  cl : c < 18446744073709551616
  bl : b ≤ 1
  top : ∀ j, k + n + 1 ≤ j → l.getD j 0 = 0
  sum : num l + q * (Y % 18446744073709551616 ^ t) * 18446744073709551616 ^ k = R + (c + b) * 18446744073709551616 ^ (k + t)
theorem get_lt (l : List Nat) (k : Nat) (h : ∀ x ∈ l, x < 18446744073709551616) : l.getD k 0 < 18446744073709551616 := by
  by_cases hk : k < l.length
  · rw [List.getD_eq_getElem?_getD, List.getElem?_eq_getElem hk]; exact h _ (List.getElem_mem _)
  · rw [List.getD_eq_getElem?_getD, List.getElem?_eq_none (by omega)]; decide
theorem pow_le (a b : Nat) (h : a ≤ b) : 18446744073709551616 ^ a ≤ 18446744073709551616 ^ b := Nat.pow_le_pow_right (by decide) h
theorem lim_above (R j m : Nat) (h : R < 18446744073709551616 ^ m) (hj : m ≤ j) : lim R j = 0 := by
  rw [lim_pow, Nat.div_eq_of_lt (Nat.lt_of_lt_of_le h (pow_le _ _ hj))]
theorem Tk.start (R Y q k n : Nat) (hk : k + n ≤ 8) (hR : R < 18446744073709551616 ^ (k + n + 1)) : Tk R Y q k n 0 (dgs R 9) 0 0 := by
  refine ⟨dgs_length _ _, all_dgs _ _, by decide, by decide, fun j hj => ?_, ?_⟩
  · by_cases h9 : j < 9
    · rw [dgs_getD _ _ _ h9, lim_above R j _ hR hj]
    · rw [List.getD_eq_getElem?_getD, List.getElem?_eq_none (by rw [dgs_length]; omega)]; rfl
  · rw [num_dgs' R 9 (Nat.lt_of_lt_of_le hR (pow_le _ _ (by omega)))]; simp [Nat.mod_one]
theorem sub_eq (x lo b : Nat) (hx : x < 18446744073709551616) (hl : lo < 18446744073709551616) (hb : b ≤ 1) : (x + 18446744073709551616 - lo - b) % 18446744073709551616 + lo + b = x + (if x < lo + b then 1 else 0) * 18446744073709551616 := by
  split <;> omega
theorem set_top (l : List Nat) (i v m : Nat) (hi : i < m) (h : ∀ j, m ≤ j → l.getD j 0 = 0) : ∀ j, m ≤ j → (l.set i v).getD j 0 = 0 := fun j hj => by
  rw [List.getD_eq_getElem?_getD, List.getElem?_set_ne (by omega), ← List.getD_eq_getElem?_getD]; exact h j hj
theorem Tk.step {R Y q k n t : Nat} {l : List Nat} {c b : Nat} (h : Tk R Y q k n t l c b) (hq : q < 18446744073709551616) (ht : t < n) (hk : k + n ≤ 8) :
    Tk R Y q k n (t + 1) (l.set (k + t) ((l.getD (k + t) 0 + 18446744073709551616 - (lim Y t * q + c) % 18446744073709551616 - b) % 18446744073709551616)) ((lim Y t * q + c) / 18446744073709551616) (if l.getD (k + t) 0 < (lim Y t * q + c) % 18446744073709551616 + b then 1 else 0) := by
  have hy := lim_lt Y t
  refine ⟨by rw [List.length_set]; exact h.len, set_all _ _ _ h.lt (Nat.mod_lt _ (by decide)), ?_, by split <;> omega, set_top _ _ _ _ (by omega) h.top, ?_⟩
  · have := h.cl
    have h1 : lim Y t * q ≤ 18446744073709551615 * 18446744073709551615 := Nat.mul_le_mul (by omega) (by omega)
    refine Nat.div_lt_of_lt_mul ?_
    omega
  · exact take_step l R Y q c b k t _ _ _ _ _ (by rw [h.len]; omega) rfl h.sum (by rw [Nat.mul_comm (_ / _)]; exact (Nat.div_add_mod _ _).symm) (sub_eq _ _ _ (get_lt _ _ h.lt) (Nat.mod_lt _ (by decide)) h.bl)
theorem Tk.last {R Y q k n : Nat} {l : List Nat} {c b : Nat} (h : Tk R Y q k n n l c b) (hY : Y < 18446744073709551616 ^ n) (hk : k + n ≤ 8) :
    ((if l.getD (k + n) 0 < c + b then 1 else 0 : Nat) = 0 ↔ q * Y * 18446744073709551616 ^ k ≤ R) ∧ (q * Y * 18446744073709551616 ^ k ≤ R → l.set (k + n) ((l.getD (k + n) 0 + 18446744073709551616 - c - b) % 18446744073709551616) = dgs (R - q * Y * 18446744073709551616 ^ k) 9) := by
  have hs := take_last l R Y q c b k n _ _ _ (by rw [h.len]; omega) rfl hY h.sum (sub_eq _ _ _ (get_lt _ _ h.lt) h.cl h.bl)
  have hall := set_all l (k + n) ((l.getD (k + n) 0 + 18446744073709551616 - c - b) % 18446744073709551616) h.lt (Nat.mod_lt _ (by decide))
  have hX := num_top _ (k + n + 1) hall (set_top l (k + n) _ (k + n + 1) (by omega) h.top)
  have he := take_enough _ R (q * Y * 18446744073709551616 ^ k) _ k n (by split <;> omega) hX hs
  refine ⟨he.1, fun hle => ?_⟩
  have hd := dgs_num _ hall
  rw [List.length_set, h.len, he.2 (he.1.2 hle)] at hd
  exact hd.symm
end Wd

set_option maxRecDepth 100000 in
set_option maxHeartbeats 2000000 in
theorem takeAway_any (R Y q k n : Nat) (hk : k + n ≤ 8) (hY : Y < 18446744073709551616 ^ n) (hq : q < 18446744073709551616) (hR : R < 18446744073709551616 ^ (k + n + 1)) (w : World) :
    Calls Tryz.prog 111 #[.agg (vQ (dgs R 9)).toArray, .agg (vQ (dgs Y 9)).toArray, .int .i64 (n : Int), .int .u64 (q : Int), .int .i64 (k : Int)] w fun e w' => ∃ l : List Nat, e = .returned (.tuple #[.agg (vQ l).toArray, .bool (decide (q * Y * 18446744073709551616 ^ k ≤ R))]) ∧ l.length = 9 ∧ (q * Y * 18446744073709551616 ^ k ≤ R → l = dgs (R - q * Y * 18446744073709551616 ^ k) 9) ∧ Below w.heap.size w w' := by
  have HS : Hid (Tk R Y q k n 0 (dgs R 9) 0 0) := Tk.start R Y q k n hk hR
  have HY : Hid (Y < 18446744073709551616 ^ n) := hY
  have HQ : Hid (q < 18446744073709551616) := hq
  obtain ⟨Z, hZ⟩ : ∃ Z, Z = q * Y * 18446744073709551616 ^ k := ⟨_, rfl⟩
  have HLAST : Hid (∀ (l : List Nat) (c b : Nat), Tk R Y q k n n l c b → ((if l.getD (k + n) 0 < c + b then 1 else 0 : Nat) = 0 ↔ Z ≤ R) ∧ (Z ≤ R → l.set (k + n) ((l.getD (k + n) 0 + 18446744073709551616 - c - b) % 18446744073709551616) = dgs (R - Z) 9)) := by rw [hZ]; exact fun l c b h => h.last hY hk
  rw [← hZ]
  clear hZ hY hq hR
  go_enter Tryz.func111, Tryz.ntmps111
  go_wp2
  go_loopw [12, 13, 14, 15, 17] (fun cv bv _ _ i wr => ∃ (t : Nat) (l : List Nat) (c b : Nat), t ≤ n ∧ i = .int .i64 (t : Int) ∧ cv = .int .u64 (c : Int) ∧ bv = .int .u64 (b : Int) ∧ Below w.heap.size w wr ∧ Row wr w.heap.size (vQ l) 153 ∧ Row wr (w.heap.size + 1) (vQ (dgs Y 9)) 153 ∧ Row wr (w.heap.size + 1 + 1) (vQ (List.replicate 9 0)) 153 ∧ Hid (Tk R Y q k n t l c b))
    (fun _ _ _ _ i _ => n - (intOf i).toNat)
  case atStart =>
    refine ⟨0, dgs R 9, 0, 0, by omega, rfl, rfl, rfl, (((Below.refl _ _).alloc (Nat.le_refl _) _).alloc (by simp) _).alloc (by simp; omega) _, ?_, ?_, ?_, HS.out⟩
    · exact ((Row.new' rfl rfl).alloc _).alloc _
    · exact (Row.new' (by simp) rfl).alloc _
    · exact Row.new' (by simp) rfl
  case round =>
    obtain ⟨t, l, c, b, ht, rfl, rfl, rfl, hb, h5, h6, h10, hN⟩ := hrel
    by_cases hlt : t < n
    · have g5 := h5.cell (k + t) _ (vQ_get _ (k + t) (by rw [hN.out.len]; omega))
      have gf := h5.thaw (k + t)
      have g6 := h6.cell t _ (vQ_get _ t (by rw [dgs_length]; omega))
      rw [dgs_getD _ _ _ (by omega)] at g6
      have HST : Hid _ := hN.out.step HQ.out hlt hk
      have HMA : Hid (∀ w, _) := mulAdd_any (lim Y t) q c (lim_lt _ _) HQ.out hN.out.cl
      have H64 : Hid (∀ w, _) := sub64_run (l.getD (k + t) 0) ((lim Y t * q + c) % 18446744073709551616) b hN.out.bl
      have hlt' : (t : Int) < (n : Int) := by omega
      have hkt : k + t < 9 := by omega
      have ht9 : t < 9 := by omega
      generalize lim Y t = y at *
      obtain ⟨hi, hhi⟩ : ∃ hi, hi = (y * q + c) / 18446744073709551616 := ⟨_, rfl⟩
      obtain ⟨lo, hlo⟩ : ∃ lo, lo = (y * q + c) % 18446744073709551616 := ⟨_, rfl⟩
      rw [← hhi, ← hlo] at HMA HST
      rw [← hlo] at H64
      obtain ⟨x, hx⟩ : ∃ x, x = l.getD (k + t) 0 := ⟨_, rfl⟩
      rw [← hx] at g5 H64 HST
      obtain ⟨v, hv⟩ : ∃ v, v = (x + 18446744073709551616 - lo - b) % 18446744073709551616 := ⟨_, rfl⟩
      obtain ⟨b2, hb2⟩ : ∃ b2, b2 = (if x < lo + b then 1 else 0 : Nat) := ⟨_, rfl⟩
      rw [← hv, ← hb2] at H64 HST
      clear hhi hlo hx hv hb2 ht hN
      have h64 := H64.out
      go_wp2_with (go_at_call 106; refine (HMA.out wr).mono ?_; rintro e wr ⟨rfl, rfl⟩)
      refine ⟨⟨t + 1, l.set (k + t) v, hi, b2, hlt, by go_num, rfl, rfl, Below.setCell hb (by simp) _, ?_, h6.set_other _ _ _ (by omega), h10.set_other _ _ _ (by omega), HST.out⟩, by simp [intOf]; omega⟩
      have := h5.set (k + t) (.int .u64 (v : Int))
      rw [vQ_set] at this
      exact this
    · have et : t = n := by omega
      subst et
      clear ht hlt
      have hL := HLAST.out l c b hN.out
      have g5 := h5.cell (k + t) _ (vQ_get _ (k + t) (by rw [hN.out.len]; omega))
      have gf := h5.thaw (k + t)
      have H64 : Hid (∀ w, _) := sub64_run (l.getD (k + t) 0) c b hN.out.bl
      have HLL : Hid (l.length = 9) := hN.out.len
      have hkt : k + t < 9 := by omega
      obtain ⟨x, hx⟩ : ∃ x, x = l.getD (k + t) 0 := ⟨_, rfl⟩
      rw [← hx] at g5 H64 hL
      obtain ⟨v, hv⟩ : ∃ v, v = (x + 18446744073709551616 - c - b) % 18446744073709551616 := ⟨_, rfl⟩
      obtain ⟨b2, hb2⟩ : ∃ b2, b2 = (if x < c + b then 1 else 0 : Nat) := ⟨_, rfl⟩
      rw [← hv, ← hb2] at H64
      rw [← hv, ← hb2] at hL
      clear hx hv hb2 HLAST HS HY HQ hN
      have HF : Hid (decide (Z ≤ R) = decide (b2 = 0)) := by show _ = _; rw [Bool.eq_iff_iff]; simp only [decide_eq_true_eq]; exact hL.1.symm
      have HD : Hid (Z ≤ R → l.set (k + t) v = dgs (R - Z) 9) := hL.2
      clear hL
      obtain ⟨cs, hcs⟩ : ∃ cs, cs = vQ (l.set (k + t) v) := ⟨_, rfl⟩
      have hl : cs.length = 9 := by rw [hcs, vQ_length, List.length_set]; exact HLL.out
      have r5 : Row (wr.setCell ⟨w.heap.size, k + t, none⟩ (.int .u64 (v : Int))) w.heap.size cs 153 := by
        have := h5.set (k + t) (.int .u64 (v : Int))
        rw [vQ_set, ← hcs] at this
        exact this
      have r10 := h10.set_other w.heap.size (k + t) (.int .u64 (v : Int)) (by omega)
      have rb := Below.setCell (p := ⟨w.heap.size, k + t, none⟩) hb (by simp) (.int .u64 (v : Int))
      have i9 : (Tryz.prog.info? 153).map (·.size) = some cs.length := by rw [info_d9, hl]
      have i9' : (Tryz.prog.info? 153).map (·.size) = some cs.toArray.size := by rw [info_d9]; simp [hl]
      have hone := all_oneCell_toArray (show ∀ v ∈ cs, v.oneCell' = true by rw [hcs]; exact vQ_one _)
      have T := r10.there 0 cs.toArray.size (by simp [hl, vQ_length])
      have fin := r10.over (vs := cs) (by rw [hl]; rfl)
      have hbf := below_setCells rb (b := w.heap.size + 1 + 1) (o := 0) (by omega) cs
      have HE : Hid (vQ (l.set (k + t) v) = cs) := hcs.symm
      have HL : Hid (cs.length = 9) := hl
      clear hcs hl hb rb h10
      have h64 := H64.out
      go_wp2_with (first
        | (refine wpList_load_mid rfl 153 (.tmp 5) rfl w.heap.size 0 rfl cs _ r5.all Tryz.underlying153 rfl i9 ?_; simp only [Act.put, List.setIfInBounds_toArray, List.set_cons_zero, List.set_cons_succ])
        | (refine wpList_store_mid rfl 153 (.tmp 10) (.tmp 60) rfl (w.heap.size + 1 + 1) 0 cs.toArray rfl rfl T i9' hone ?_; simp only [Act.put]))
      have eb : ((b2 : Int) == 0) = decide (b2 = 0) := by rw [Bool.eq_iff_iff]; simp
      exact bodyPost_ret (results_row_tmp Tryz.results111 _ _ (w.heap.size + 1 + 1) 153 cs (.bool ((b2 : Int) == 0)) rfl rfl fin Tryz.underlying153 info_d9 HL.out) rfl ⟨l.set (k + t) v, by rw [HE.out, HF.out, eb], by rw [List.length_set]; exact HLL.out, HD.out, hbf⟩

end Go.Proofs.YtclbiophgnkggaaGreatDoor
