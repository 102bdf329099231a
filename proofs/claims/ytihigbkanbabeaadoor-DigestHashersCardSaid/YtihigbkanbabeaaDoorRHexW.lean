/-
  ReadHex, the program's.
-/
import Derived.Test.YtihigbkanbabeaaDoorRHex
namespace Go.Proofs.YtihigbkanbabeaaDoor
open Go Go.RowKit
open Sha

theorem ok2_all {l : List (BitVec 8)} (h : ∀ i < 32, ok2 l i = true) : (List.range 32).all (ok2 l) = true := by
  rw [List.all_eq_true]; intro i hi; exact h i (List.mem_range.1 hi)
theorem rdx_bad {l : List (BitVec 8)} (i : Nat) (hi : i < 32) (h : ok2 l i = false) : rdx l = (List.replicate 32 0#8, 10) := by
  unfold rdx
  rw [if_neg]
  intro hh
  have := List.all_eq_true.1 hh.2 i (List.mem_range.2 hi)
  rw [h] at this; cases this
theorem rdx_short {l : List (BitVec 8)} (h : l.length ≠ 64) : rdx l = (List.replicate 32 0#8, 10) := by
  unfold rdx; rw [if_neg]; exact fun hh => h hh.1
theorem rdx_good {l : List (BitVec 8)} (h : l.length = 64) (h2 : ∀ i < 32, ok2 l i = true) : rdx l = (rdb l 32, 0) := by
  unfold rdx; rw [if_pos ⟨h, ok2_all h2⟩]

theorem byte_mul (h l : BitVec 8) (h1 : h.toNat < 16) (h2 : l.toNat < 16) : c (h * 16#8 + l) = 16 * c h + c l := by
  unfold c
  rw [BitVec.toNat_add, BitVec.toNat_mul, show (16#8).toNat = 16 from rfl]
  omega
theorem byte_or (h l : BitVec 8) (h1 : h.toNat < 16) (h2 : l.toNat < 16) : bits BinOp.or IntKind.u8 (c h * 16 % 256) (c l) = c (h * 16#8 + l) := by
  have e : c h * 16 % 256 = ((16 * h.toNat : Nat) : Int) := by unfold c; omega
  rw [byte_mul h l h1 h2, e]
  unfold c
  rw [u8_or_nat _ _ (by omega) (by omega), ← Nat.two_pow_add_eq_or_of_lt (i := 4) (by omega) h.toNat]
  omega

set_option maxRecDepth 100000 in
set_option maxHeartbeats 1000000 in
theorem rhex_any (s : ByteArray) (l : List (BitVec 8)) (hs : Str s l) (w : World) :
    Calls Tryd.prog 25 #[.string s] w fun e w' => e = .returned (.tuple #[.agg (vB (rdx l).1).toArray, .int .i64 (rdx l).2]) ∧ Below w.heap.size w w' := by
  by_cases h64 : s.size = 64
  · go_enter Tryd.func25, Tryd.ntmps25
    go_wp2
    go_loopw [14] (fun i wr => ∃ k : Nat, k ≤ 32 ∧ i = .int .i64 k ∧ (∀ i < k, ok2 l i = true) ∧ Below w.heap.size w wr ∧ Row wr w.heap.size (vB (List.replicate 32 0#8)) 26 ∧ Row wr (w.heap.size + 1) (vB (rdb l k ++ List.replicate (32 - k) 0#8)) 26)
      (fun i _ => 32 - (intOf i).toNat)
    case atStart => exact ⟨0, by omega, rfl, fun i hi => by omega, ((Below.refl _ _).alloc (Nat.le_refl _) _).alloc (by simp) _, Row.alloc (Row.new' rfl rfl) _, Row.new' (by simp) rfl⟩
    case round =>
      obtain ⟨k, hk, rfl, hok, hb, h0, h1⟩ := hrel
      have HOK : Hid _ := hok
      clear hok
      by_cases hlt : k < 32
      · have i1 : 2 * k < s.size := by omega
        have i2 : 2 * k + 1 < s.size := by omega
        obtain ⟨xa, hxa⟩ : ∃ xa, xa = l.getD (2 * k) 0 := ⟨_, rfl⟩
        obtain ⟨xb, hxb⟩ : ∃ xb, xb = l.getD (2 * k + 1) 0 := ⟨_, rfl⟩
        have HA : Hid _ := hxa
        have HB : Hid _ := hxb
        clear hxa hxb
        go_wp2_with (refine wpList_index_str rfl 9 (.tmp 18) (.tmp 20) rfl s l hs (2 * k) _ (by omega) rfl rfl i1 Tryd.underlying9 ?_; rw [← HA.out]; simp only [Act.put, List.setIfInBounds_toArray, List.set_cons_zero, List.set_cons_succ])
        cases hda : dval xa with
        | none =>
          cases hdb : dval xb with
          | none =>
            have RX : Hid (rdx l = (List.replicate 32 0#8, 10)) := rdx_bad k hlt (by unfold ok2; rw [← HA.out, ← HB.out, hda, hdb]; rfl)
            refine (dv_none xa hda wr).mono ?_
            rintro e wr ⟨rfl, rfl⟩
            go_wp2_with (refine wpList_index_str rfl 9 (.tmp 26) (.tmp 29) rfl s l hs (2 * k + 1) _ (by omega) rfl rfl i2 Tryd.underlying9 ?_; rw [← HB.out]; simp only [Act.put, List.setIfInBounds_toArray, List.set_cons_zero, List.set_cons_succ])
            refine (dv_none xb hdb wr).mono ?_
            rintro e wr ⟨rfl, rfl⟩
            go_wp2_with (refine wpList_store_mid rfl 26 (.tmp 2) (.tmp 40) rfl w.heap.size 0 (vB (List.replicate 32 0#8)).toArray rfl rfl (h0.there 0 _ (by simp [vB_length])) info_dig (all_oneCell_toArray (vB_one _)) ?_; simp only [Act.put])
            exact bodyPost_ret (results_row_tmp Tryd.results25 _ _ w.heap.size 26 (vB (List.replicate 32 0#8)) (.int .i64 10) rfl rfl (Row.over h0 rfl) Tryd.underlying26 info_dig rfl) rfl ⟨by rw [RX.out], below_setCells hb (Nat.le_refl _) _⟩
          | some hb2 =>
            have RX : Hid (rdx l = (List.replicate 32 0#8, 10)) := rdx_bad k hlt (by unfold ok2; rw [← HA.out, ← HB.out, hda, hdb]; rfl)
            refine (dv_none xa hda wr).mono ?_
            rintro e wr ⟨rfl, rfl⟩
            go_wp2_with (refine wpList_index_str rfl 9 (.tmp 26) (.tmp 29) rfl s l hs (2 * k + 1) _ (by omega) rfl rfl i2 Tryd.underlying9 ?_; rw [← HB.out]; simp only [Act.put, List.setIfInBounds_toArray, List.set_cons_zero, List.set_cons_succ])
            refine (dv_some xb hb2 hdb wr).mono ?_
            rintro e wr ⟨rfl, rfl⟩
            go_wp2_with (refine wpList_store_mid rfl 26 (.tmp 2) (.tmp 40) rfl w.heap.size 0 (vB (List.replicate 32 0#8)).toArray rfl rfl (h0.there 0 _ (by simp [vB_length])) info_dig (all_oneCell_toArray (vB_one _)) ?_; simp only [Act.put])
            exact bodyPost_ret (results_row_tmp Tryd.results25 _ _ w.heap.size 26 (vB (List.replicate 32 0#8)) (.int .i64 10) rfl rfl (Row.over h0 rfl) Tryd.underlying26 info_dig rfl) rfl ⟨by rw [RX.out], below_setCells hb (Nat.le_refl _) _⟩
        | some ha =>
          cases hdb : dval xb with
          | none =>
            have RX : Hid (rdx l = (List.replicate 32 0#8, 10)) := rdx_bad k hlt (by unfold ok2; rw [← HA.out, ← HB.out, hda, hdb]; rfl)
            refine (dv_some xa ha hda wr).mono ?_
            rintro e wr ⟨rfl, rfl⟩
            go_wp2_with (refine wpList_index_str rfl 9 (.tmp 26) (.tmp 29) rfl s l hs (2 * k + 1) _ (by omega) rfl rfl i2 Tryd.underlying9 ?_; rw [← HB.out]; simp only [Act.put, List.setIfInBounds_toArray, List.set_cons_zero, List.set_cons_succ])
            refine (dv_none xb hdb wr).mono ?_
            rintro e wr ⟨rfl, rfl⟩
            go_wp2_with (refine wpList_store_mid rfl 26 (.tmp 2) (.tmp 40) rfl w.heap.size 0 (vB (List.replicate 32 0#8)).toArray rfl rfl (h0.there 0 _ (by simp [vB_length])) info_dig (all_oneCell_toArray (vB_one _)) ?_; simp only [Act.put])
            exact bodyPost_ret (results_row_tmp Tryd.results25 _ _ w.heap.size 26 (vB (List.replicate 32 0#8)) (.int .i64 10) rfl rfl (Row.over h0 rfl) Tryd.underlying26 info_dig rfl) rfl ⟨by rw [RX.out], below_setCells hb (Nat.le_refl _) _⟩
          | some hb2 =>
            have B1 := dval_lt hda
            have B2 := dval_lt hdb
            have OK1 : Hid (ok2 l k = true) := by show _ = _; unfold ok2; rw [← HA.out, ← HB.out, hda, hdb]; rfl
            have BY : Hid (byt l k = ha * 16#8 + hb2) := by show _ = _; unfold byt; rw [← HA.out, ← HB.out, hda, hdb]; rfl
            refine (dv_some xa ha hda wr).mono ?_
            rintro e wr ⟨rfl, rfl⟩
            go_wp2_with (refine wpList_index_str rfl 9 (.tmp 26) (.tmp 29) rfl s l hs (2 * k + 1) _ (by omega) rfl rfl i2 Tryd.underlying9 ?_; rw [← HB.out]; simp only [Act.put, List.setIfInBounds_toArray, List.set_cons_zero, List.set_cons_succ])
            refine (dv_some xb hb2 hdb wr).mono ?_
            rintro e wr ⟨rfl, rfl⟩
            have hl : (rdb l k ++ List.replicate (32 - k) 0#8).length = 32 := by rw [List.length_append, rdb_length, List.length_replicate]; omega
            have g0 := h1.cell k _ (vB_get _ k (by rw [hl]; omega))
            have f0 := h1.thaw k
            generalize (rdb l k ++ List.replicate (32 - k) 0#8).getD k 0 = y0 at g0
            clear hl
            go_wp2
            refine ⟨⟨k + 1, by omega, by go_num, ?_, hb.setCell (p := ⟨w.heap.size + 1, k, none⟩) (by simp) _, h0.set_other _ _ _ (by omega), ?_⟩, by simp [intOf]; omega⟩
            · intro i hi
              by_cases h : i < k
              · exact HOK.out i h
              · obtain rfl : i = k := by omega
                exact OK1.out
            · have := h1.set k (.int .u8 (c (ha * 16#8 + hb2)))
              rw [vB_set, ← BY.out, rdb_step l k hlt] at this
              rw [byte_or ha hb2 B1 B2, ← BY.out]
              exact this
      · obtain rfl : k = 32 := by omega
        obtain ⟨dd, hdd⟩ : ∃ dd, dd = rdb l 32 := ⟨_, rfl⟩
        have h2 : Row wr (w.heap.size + 1) (vB dd) 26 := by rw [hdd]; simpa using h1
        have RX : Hid (rdx l = (dd, 0)) := by show _ = _; rw [hdd]; exact rdx_good (by rw [← hs.size]; exact h64) HOK.out
        have HL : Hid (dd.length = 32) := by show _ = _; rw [hdd]; exact rdb_length l 32
        have J : (Tryd.prog.info? 26).map (·.size) = some (vB dd).length := by rw [info_dig, vB_length, HL.out]
        have I : (Tryd.prog.info? 26).map (·.size) = some (vB dd).toArray.size := by rw [info_dig]; simp [vB_length, HL.out]
        have T := h0.there 0 (vB dd).toArray.size (by simp [vB_length, HL.out])
        clear hdd h1 hs
        go_wp2_with (first
          | (refine wpList_load_mid rfl 26 (.tmp 4) rfl (w.heap.size + 1) 0 rfl (vB dd) _ h2.all Tryd.underlying26 rfl J ?_; simp only [Act.put, List.setIfInBounds_toArray, List.set_cons_zero, List.set_cons_succ])
          | (refine wpList_store_mid rfl 26 (.tmp 2) (.tmp 48) rfl w.heap.size 0 (vB dd).toArray rfl rfl T I (all_oneCell_toArray (vB_one _)) ?_; simp only [Act.put]))
        exact bodyPost_ret (results_row_tmp Tryd.results25 _ _ w.heap.size 26 (vB dd) (.int .i64 0) rfl rfl (Row.over h0 (by rw [vB_length, HL.out]; rfl)) Tryd.underlying26 info_dig (by rw [vB_length, HL.out])) rfl ⟨by rw [RX.out], below_setCells hb (Nat.le_refl _) _⟩
  · have e : rdx l = (List.replicate 32 0#8, 10) := rdx_short (by rw [← hs.size]; exact h64)
    rw [e]
    clear e hs
    go_enter Tryd.func25, Tryd.ntmps25
    go_wp2_with (refine wpList_store_mid rfl 26 (.tmp 2) (.tmp 13) rfl w.heap.size 0 (vB (List.replicate 32 0#8)).toArray rfl rfl (digest_there w (List.replicate 32 0#8) rfl) info_dig (all_oneCell_toArray (vB_one _)) ?_; simp only [Act.put])
    obtain ⟨hB, hR⟩ := digest_laid (W := w) (List.replicate 32 0#8) rfl (Below.refl _ w)
    exact bodyPost_ret (results_row_tmp Tryd.results25 _ _ w.heap.size 26 (vB (List.replicate 32 0#8)) (.int .i64 10) rfl rfl hR Tryd.underlying26 info_dig rfl) rfl ⟨rfl, hB⟩

end Go.Proofs.YtihigbkanbabeaaDoor
