/-
  wide.shiftUp.
-/
import Derived.Test.YtdlmighfmkhpkaaWEq
import Derived.Test.YtdlmighfmkhpkaaWDivU
import Derived.Test.YtdlmighfmkhpkaaWDvM
namespace Go.Proofs.Ytdlmighfmkhpkaa
open Go Go.RowKit
open Wd

theorem run_index_vQ {P : Program} (t e : TypeId) (n : Nat) (ht : P.underlying t = some (.array n e)) (he : P.underlying e = some (.int .u64)) (hsz : ∀ w, (sizeOf e).run P w = .ok 1 w) (xs : List Nat) (hx : xs.length = n) (i : Nat) (hi : i < n) (w : World) :
    (Instr.index t (.agg (vQ xs).toArray) (.int .i64 (i : Int))).run P w = .ok (.int .u64 ((xs.getD i 0 : Nat) : Int)) w := by
  have h1 : (0 : Int) ≤ (i : Int) ∧ (i : Int) < (n : Int) := by omega
  have hp : (part e (vQ xs).toArray i).run P w = .ok (.int .u64 ((xs.getD i 0 : Nat) : Int)) w := by
    simp [part, isAgg, run_underlying he, vQ, List.getElem?_eq_getElem (show i < xs.length by omega)]
  simp [Instr.index, run_underlying ht, asIntOf, hsz, hp, hi]

theorem info_d9 : (Try.prog.info? 125).map (·.size) = some 9 := by kernel_rfl
theorem info_d8' : (Try.prog.info? 111).map (·.size) = some 8 := by kernel_rfl

set_option maxRecDepth 100000 in
set_option maxHeartbeats 2000000 in
theorem shiftUp_any (D s : Nat) (hD : D < 18446744073709551616 ^ 8) (hs : s ≤ 63) (w : World) :
    Calls Try.prog 86 #[.agg (vQ (dgs D 8)).toArray, .int .i64 (s : Int)] w fun e w' => e = .returned (.agg (vQ (dgs (D * 2 ^ s) 9)).toArray) ∧ Below w.heap.size w w' := by
  have HEND : Hid (upl D s 8 = dgs (D * 2 ^ s) 9) := upl_end D s hD
  have HIX : Hid (∀ (i : Nat) (w : World), i < 8 → (Instr.index 111 (.agg (vQ (dgs D 8)).toArray) (.int .i64 (i : Int))).run Try.prog w = .ok (.int .u64 ((lim D i : Nat) : Int)) w) := fun i w hi => by
    rw [run_index_vQ 111 27 8 Try.underlying111 Try.underlying27 size_u64 (dgs D 8) (dgs_length _ _) i hi w, dgs_getD _ _ _ hi]
  obtain ⟨ca, hca⟩ : ∃ ca, ca = vQ (dgs D 8) := ⟨_, rfl⟩
  rw [← hca] at HIX ⊢
  have la : ca.length = 8 := by rw [hca, vQ_length, dgs_length]
  have ia : (Try.prog.info? 111).map (·.size) = some ca.length := by rw [info_d8', la]
  clear hca la hD
  have rA : Row (w.alloc (Obj.cells ca.toArray 111)) w.heap.size ca 111 := Row.new w ca _
  go_enter Try.func86, Try.ntmps86
  go_wp2_with (refine wpList_load_mid rfl 111 (.tmp 2) rfl w.heap.size 0 rfl ca _ (Row.alloc (Row.alloc rA _) _).all Try.underlying111 rfl ia ?_; simp only [Act.put, List.setIfInBounds_toArray, List.set_cons_zero, List.set_cons_succ])
  go_loopw [6, 7, 9] (fun _ _ i wr => ∃ t : Nat, t ≤ 8 ∧ i = .int .i64 (t : Int) ∧ Below w.heap.size w wr ∧ Row wr (w.heap.size + 1) (vQ (List.replicate 9 0)) 125 ∧ Row wr (w.heap.size + 1 + 1) (vQ (upl D s t)) 125)
    (fun _ _ i _ => 8 - (intOf i).toNat)
  case atStart =>
    refine ⟨0, by omega, rfl, (((Below.refl _ _).alloc (Nat.le_refl _) _).alloc (by simp) _).alloc (by simp; omega) _, ?_, ?_⟩
    · exact (Row.new' (by simp) rfl).alloc _
    · rw [upl_zero]; exact Row.new' (by simp) rfl
  case round =>
    obtain ⟨t, ht, rfl, hb, h4, h5⟩ := hrel
    by_cases hlt : t < 8
    · have g5 := h5.cell t _ (vQ_get _ t (by rw [upl_length D s t ht]; omega))
      have gf := h5.thaw t
      have g6 := h5.cell (t + 1) _ (vQ_get _ (t + 1) (by rw [upl_length D s t ht]; omega))
      have gg := h5.thaw (t + 1)
      have HST : Hid _ := upl_step D s t hs hlt
      have hor := upl_or ((upl D s t).getD t 0) (lim D t) s (by rw [upl_at' D s t hs]; exact top_lt D s t) hs
      have hpl : (upl D s t).getD t 0 < 18446744073709551616 := by rw [upl_at]; exact Nat.mod_lt _ (by decide)
      have hxl := lim_lt D t
      have hix := HIX.out t wr hlt
      generalize (upl D s t).getD t 0 = p at g5 HST hor hpl
      generalize (upl D s t).getD (t + 1) 0 = z at g6
      generalize lim D t = x at HST hor hix hxl
      have eB : IntKind.u64.wrap ((x : Int) * 2 ^ s) = ((x * 2 ^ s % 18446744073709551616 : Nat) : Int) := wrap_shl x s
      have hml : x * 2 ^ s % 18446744073709551616 < 18446744073709551616 := Nat.mod_lt _ (by decide)
      obtain ⟨m, hm⟩ : ∃ m, m = x * 2 ^ s % 18446744073709551616 := ⟨_, rfl⟩
      rw [← hm] at eB hor HST hml
      have eO : bits .or .u64 (p : Int) (m : Int) = ((p + m : Nat) : Int) := by rw [bits_or_u64_nat _ _ hpl hml, hor]
      have eK : (x : Int) / 2 ^ (64 - s) = ((x / 2 ^ (64 - s) : Nat) : Int) := by simp
      obtain ⟨v, hv⟩ : ∃ v, v = p + m := ⟨_, rfl⟩
      rw [← hv] at eO HST
      obtain ⟨y, hy⟩ : ∃ y, y = x / 2 ^ (64 - s) := ⟨_, rfl⟩
      rw [← hy] at eK HST
      clear hv hm hor hpl hml hy hxl ht
      go_wp2
      go_region
      go_wp2
      refine ⟨⟨t + 1, hlt, by go_num, Below.drew (Below.setCell (Below.setCell hb (by simp; omega) _) (by simp; omega) _), Row.drew ((h4.set_other _ _ _ (by omega)).set_other _ _ _ (by omega)), ?_⟩, by simp [intOf]; omega⟩
      have := (h5.set t (.int .u64 (v : Int))).set (t + 1) (.int .u64 (y : Int))
      rw [vQ_set, vQ_set, HST.out] at this
      exact Row.drew this
    · have e8 : (t : Int) = 8 := by omega
      have et : t = 8 := by omega
      rw [et, HEND.out] at h5
      rw [e8]
      clear et e8 ht hlt HEND HIX ia rA
      obtain ⟨cs, hcs⟩ : ∃ cs, cs = vQ (dgs (D * 2 ^ s) 9) := ⟨_, rfl⟩
      have hl : cs.length = 9 := by rw [hcs, vQ_length, dgs_length]
      rw [← hcs] at h5
      have i9 : (Try.prog.info? 125).map (·.size) = some cs.length := by rw [info_d9, hl]
      have i9' : (Try.prog.info? 125).map (·.size) = some cs.toArray.size := by rw [info_d9]; simp [hl]
      have hone := all_oneCell_toArray (show ∀ v ∈ cs, v.oneCell' = true by rw [hcs]; exact vQ_one _)
      have T := h4.there 0 cs.toArray.size (by simp [hl, vQ_length])
      have fin := h4.over (vs := cs) (by rw [hl]; rfl)
      have hbf := below_setCells hb (b := w.heap.size + 1) (o := 0) (by omega) cs
      have HE : Hid (vQ (dgs (D * 2 ^ s) 9) = cs) := hcs.symm
      have HL : Hid (cs.length = 9) := hl
      clear hcs hl hb
      go_wp2_with (first
        | (refine wpList_load_mid rfl 125 (.tmp 5) rfl (w.heap.size + 1 + 1) 0 rfl cs _ h5.all Try.underlying125 rfl i9 ?_; simp only [Act.put, List.setIfInBounds_toArray, List.set_cons_zero, List.set_cons_succ])
        | (refine wpList_store_mid rfl 125 (.tmp 4) (.tmp 29) rfl (w.heap.size + 1) 0 cs.toArray rfl rfl T i9' hone ?_; simp only [Act.put]))
      exact bodyPost_ret (results_row Try.results86 _ _ (w.heap.size + 1) 125 cs rfl fin Try.underlying125 info_d9 HL.out) rfl ⟨by rw [HE.out], hbf⟩

/-! ### shiftDown -/
theorem dnpart (R s t : Nat) (hs : s ≤ 63) (ht : t < 4) : (dgs (R / 2 ^ s) t ++ List.replicate (4 - t) 0).set t (lim R t / 2 ^ s ||| (lim R (t + 1) * 2 ^ (64 - s) % 18446744073709551616)) = dgs (R / 2 ^ s) (t + 1) ++ List.replicate (4 - (t + 1)) 0 := by
  rw [down_part R s t hs, fill _ t 4 _ (dgs_length _ _) ht, ← dgs_succ]

set_option maxRecDepth 100000 in
set_option maxHeartbeats 2000000 in
theorem shiftDown_any (R s : Nat) (hs : s ≤ 63) (w : World) :
    Calls Try.prog 89 #[.agg (vQ (dgs R 9)).toArray, .int .i64 (s : Int)] w fun e w' => e = .returned (.agg (vQ (dgs (R / 2 ^ s) 4)).toArray) ∧ Below w.heap.size w w' := by
  go_enter Try.func89, Try.ntmps89
  go_wp2
  go_loopw [6, 7] (fun _ i wr => ∃ t : Nat, t ≤ 4 ∧ i = .int .i64 (t : Int) ∧ Below w.heap.size w wr ∧ Row wr w.heap.size (vQ (dgs R 9)) 125 ∧ Row wr (w.heap.size + 1) (vQ (List.replicate 4 0)) 29 ∧ Row wr (w.heap.size + 1 + 1) (vQ (dgs (R / 2 ^ s) t ++ List.replicate (4 - t) 0)) 29)
    (fun _ i _ => 4 - (intOf i).toNat)
  case atStart =>
    refine ⟨0, by omega, rfl, (((Below.refl _ _).alloc (Nat.le_refl _) _).alloc (by simp) _).alloc (by simp; omega) _, ?_, ?_, ?_⟩
    · exact ((Row.new' rfl rfl).alloc _).alloc _
    · exact (Row.new' (by simp) rfl).alloc _
    · exact Row.new' (by simp) rfl
  case round =>
    obtain ⟨t, ht, rfl, hb, h2, h4, h5⟩ := hrel
    by_cases hlt : t < 4
    · have g2 := h2.cell t _ (vQ_get _ t (by rw [dgs_length]; omega))
      have g3 := h2.cell (t + 1) _ (vQ_get _ (t + 1) (by rw [dgs_length]; omega))
      rw [dgs_getD _ _ _ (by omega)] at g2 g3
      have g5 := h5.cell t _ (vQ_get _ t (by rw [List.length_append, dgs_length, List.length_replicate]; omega))
      have gf := h5.thaw t
      have HST : Hid _ := dnpart R s t hs hlt
      have hx := lim_lt R t
      have hy := lim_lt R (t + 1)
      generalize lim R t = x at *
      generalize lim R (t + 1) = y at *
      generalize (dgs (R / 2 ^ s) t ++ List.replicate (4 - t) 0).getD t 0 = z at g5
      have eK : (x : Int) / 2 ^ s = ((x / 2 ^ s : Nat) : Int) := by simp
      have eB : IntKind.u64.wrap ((y : Int) * 2 ^ (64 - s)) = ((y * 2 ^ (64 - s) % 18446744073709551616 : Nat) : Int) := wrap_shl y (64 - s)
      have hml : y * 2 ^ (64 - s) % 18446744073709551616 < 18446744073709551616 := Nat.mod_lt _ (by decide)
      have hkl : x / 2 ^ s < 18446744073709551616 := Nat.lt_of_le_of_lt (Nat.div_le_self _ _) hx
      obtain ⟨m, hm⟩ : ∃ m, m = y * 2 ^ (64 - s) % 18446744073709551616 := ⟨_, rfl⟩
      obtain ⟨q, hq⟩ : ∃ q, q = x / 2 ^ s := ⟨_, rfl⟩
      rw [← hm] at eB HST hml
      rw [← hq] at eK HST hkl
      have eO : bits .or .u64 (q : Int) (m : Int) = ((q ||| m : Nat) : Int) := bits_or_u64_nat _ _ hkl hml
      obtain ⟨v, hv⟩ : ∃ v, v = q ||| m := ⟨_, rfl⟩
      rw [← hv] at eO HST
      clear hv hm hq hkl hml hx hy ht
      go_wp2
      go_region
      go_wp2
      refine ⟨⟨t + 1, hlt, by go_num, Below.drew (Below.setCell hb (by simp; omega) _), Row.drew (h2.set_other _ _ _ (by omega)), Row.drew (h4.set_other _ _ _ (by omega)), ?_⟩, by simp [intOf]; omega⟩
      have := h5.set t (.int .u64 (v : Int))
      rw [vQ_set, HST.out] at this
      exact Row.drew this
    · have e4 : (t : Int) = 4 := by omega
      have et : t = 4 := by omega
      rw [et] at h5
      rw [e4]
      clear et e4 ht hlt
      have h5' : Row wr (w.heap.size + 1 + 1) (vQ (dgs (R / 2 ^ s) 4)) 29 := by simpa using h5
      clear h5
      obtain ⟨cs, hcs⟩ : ∃ cs, cs = vQ (dgs (R / 2 ^ s) 4) := ⟨_, rfl⟩
      have hl : cs.length = 4 := by rw [hcs, vQ_length, dgs_length]
      rw [← hcs] at h5'
      have i9 : (Try.prog.info? 29).map (·.size) = some cs.length := by rw [info_w4, hl]
      have i9' : (Try.prog.info? 29).map (·.size) = some cs.toArray.size := by rw [info_w4]; simp [hl]
      have hone := all_oneCell_toArray (show ∀ v ∈ cs, v.oneCell' = true by rw [hcs]; exact vQ_one _)
      have T := h4.there 0 cs.toArray.size (by simp [hl, vQ_length])
      have fin := h4.over (vs := cs) (by rw [hl]; rfl)
      have hbf := below_setCells hb (b := w.heap.size + 1) (o := 0) (by omega) cs
      have HE : Hid (vQ (dgs (R / 2 ^ s) 4) = cs) := hcs.symm
      have HL : Hid (cs.length = 4) := hl
      clear hcs hl hb
      go_wp2_with (first
        | (refine wpList_load_mid rfl 29 (.tmp 5) rfl (w.heap.size + 1 + 1) 0 rfl cs _ h5'.all Try.underlying29 rfl i9 ?_; simp only [Act.put, List.setIfInBounds_toArray, List.set_cons_zero, List.set_cons_succ])
        | (refine wpList_store_mid rfl 29 (.tmp 4) (.tmp 26) rfl (w.heap.size + 1) 0 cs.toArray rfl rfl T i9' hone ?_; simp only [Act.put]))
      exact bodyPost_ret (results_row Try.results89 _ _ (w.heap.size + 1) 29 cs rfl fin Try.underlying29 info_w4 HL.out) rfl ⟨by rw [HE.out], hbf⟩

end Go.Proofs.Ytdlmighfmkhpkaa
