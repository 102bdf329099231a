/-
  ReadHex and Hex, the document's.
-/
import Derived.Test.YtihigbkanbabeaaDoorRHexW
import Derived.Test.YtihigbkanbabeaaDoorTwin
namespace Go.Proofs.YtihigbkanbabeaaDoor
open Go Go.RowKit
open Sha

set_option maxRecDepth 100000 in
set_option maxHeartbeats 1000000 in
theorem rrhex_any (s : ByteArray) (l : List (BitVec 8)) (hs : Str s l) (w : World) :
    Calls Tryd.prog 26 #[.string s] w fun e w' => e = .returned (.tuple #[.agg (vB (rdx l).1).toArray, .int .i64 (rdx l).2]) ∧ Below w.heap.size w w' := by
  by_cases h64 : s.size = 64
  · go_enter Tryd.func26, Tryd.ntmps26
    go_wp2
    go_loopw [5] (fun i wr => ∃ k : Nat, k ≤ 32 ∧ i = .int .i64 k ∧ (∀ i < k, ok2 l i = true) ∧ Below w.heap.size w wr ∧ Row wr w.heap.size (vB (List.replicate 32 0#8)) 26 ∧ Row wr (w.heap.size + 1) (vB (rdb l k ++ List.replicate (32 - k) 0#8)) 26)
      (fun i _ => 32 - (intOf i).toNat)
    case atStart => exact ⟨0, by omega, rfl, fun i hi => by omega, ((Below.refl _ _).alloc (Nat.le_refl _) _).alloc (by simp) _, Row.alloc (Row.new' rfl rfl) _, Row.new' (by simp) rfl⟩
    case round =>
      obtain ⟨k, hk, rfl, hok, hb, h0, h1⟩ := hrel
      have HOK : Hid _ := hok
      clear hok
      by_cases hlt : k < 32
      · have i1 : 2 * k < s.size := by omega
        have i2 : 2 * k + 1 < s.size := by omega
        obtain ⟨xa, hxa⟩ : ∃ xa, xa = l.getD (2 * k) 0 := ⟨_, rfl⟩
        obtain ⟨xb, hxb⟩ : ∃ xb, xb = l.getD (2 * k + 1) 0 := ⟨_, rfl⟩
        have HA : Hid _ := hxa
        have HB : Hid _ := hxb
        clear hxa hxb
        go_wp2_with (refine wpList_index_str rfl 9 (.tmp 16) (.tmp 18) rfl s l hs (2 * k) _ (by omega) rfl rfl i1 Tryd.underlying9 ?_; rw [← HA.out]; simp only [Act.put, List.setIfInBounds_toArray, List.set_cons_zero, List.set_cons_succ])
        cases hda : dval xa with
        | none =>
          cases hdb : dval xb with
          | none =>
            have RX : Hid (rdx l = (List.replicate 32 0#8, 10)) := rdx_bad k hlt (by unfold ok2; rw [← HA.out, ← HB.out, hda, hdb]; rfl)
            refine (read_none xa hda wr).mono ?_
            rintro e wr ⟨rfl, rfl⟩
            go_wp2_with (refine wpList_index_str rfl 9 (.tmp 21) (.tmp 24) rfl s l hs (2 * k + 1) _ (by omega) rfl rfl i2 Tryd.underlying9 ?_; rw [← HB.out]; simp only [Act.put, List.setIfInBounds_toArray, List.set_cons_zero, List.set_cons_succ])
            refine (read_none xb hdb wr).mono ?_
            rintro e wr ⟨rfl, rfl⟩
            go_wp2_with (refine wpList_store_mid rfl 26 (.tmp 2) (.tmp 33) rfl w.heap.size 0 (vB (List.replicate 32 0#8)).toArray rfl rfl (h0.there 0 _ (by simp [vB_length])) info_dig (all_oneCell_toArray (vB_one _)) ?_; simp only [Act.put])
            exact bodyPost_ret (results_row_tmp Tryd.results26 _ _ w.heap.size 26 (vB (List.replicate 32 0#8)) (.int .i64 10) rfl rfl (Row.over h0 rfl) Tryd.underlying26 info_dig rfl) rfl ⟨by rw [RX.out], below_setCells hb (Nat.le_refl _) _⟩
          | some hb2 =>
            have RX : Hid (rdx l = (List.replicate 32 0#8, 10)) := rdx_bad k hlt (by unfold ok2; rw [← HA.out, ← HB.out, hda, hdb]; rfl)
            refine (read_none xa hda wr).mono ?_
            rintro e wr ⟨rfl, rfl⟩
            go_wp2_with (refine wpList_index_str rfl 9 (.tmp 21) (.tmp 24) rfl s l hs (2 * k + 1) _ (by omega) rfl rfl i2 Tryd.underlying9 ?_; rw [← HB.out]; simp only [Act.put, List.setIfInBounds_toArray, List.set_cons_zero, List.set_cons_succ])
            have C2 : 0 ≤ c hb2 ∧ c hb2 < 16 := by have := dval_lt hdb; unfold c; omega
            refine (read_some xb hb2 hdb wr).mono ?_
            rintro e wr ⟨rfl, rfl⟩
            go_wp2_with (refine wpList_store_mid rfl 26 (.tmp 2) (.tmp 33) rfl w.heap.size 0 (vB (List.replicate 32 0#8)).toArray rfl rfl (h0.there 0 _ (by simp [vB_length])) info_dig (all_oneCell_toArray (vB_one _)) ?_; simp only [Act.put])
            exact bodyPost_ret (results_row_tmp Tryd.results26 _ _ w.heap.size 26 (vB (List.replicate 32 0#8)) (.int .i64 10) rfl rfl (Row.over h0 rfl) Tryd.underlying26 info_dig rfl) rfl ⟨by rw [RX.out], below_setCells hb (Nat.le_refl _) _⟩
        | some ha =>
          cases hdb : dval xb with
          | none =>
            have RX : Hid (rdx l = (List.replicate 32 0#8, 10)) := rdx_bad k hlt (by unfold ok2; rw [← HA.out, ← HB.out, hda, hdb]; rfl)
            have C1 : 0 ≤ c ha ∧ c ha < 16 := by have := dval_lt hda; unfold c; omega
            refine (read_some xa ha hda wr).mono ?_
            rintro e wr ⟨rfl, rfl⟩
            go_wp2_with (refine wpList_index_str rfl 9 (.tmp 21) (.tmp 24) rfl s l hs (2 * k + 1) _ (by omega) rfl rfl i2 Tryd.underlying9 ?_; rw [← HB.out]; simp only [Act.put, List.setIfInBounds_toArray, List.set_cons_zero, List.set_cons_succ])
            refine (read_none xb hdb wr).mono ?_
            rintro e wr ⟨rfl, rfl⟩
            go_wp2_with (refine wpList_store_mid rfl 26 (.tmp 2) (.tmp 33) rfl w.heap.size 0 (vB (List.replicate 32 0#8)).toArray rfl rfl (h0.there 0 _ (by simp [vB_length])) info_dig (all_oneCell_toArray (vB_one _)) ?_; simp only [Act.put])
            exact bodyPost_ret (results_row_tmp Tryd.results26 _ _ w.heap.size 26 (vB (List.replicate 32 0#8)) (.int .i64 10) rfl rfl (Row.over h0 rfl) Tryd.underlying26 info_dig rfl) rfl ⟨by rw [RX.out], below_setCells hb (Nat.le_refl _) _⟩
          | some hb2 =>
            have B1 := dval_lt hda
            have B2 := dval_lt hdb
            have OK1 : Hid (ok2 l k = true) := by show _ = _; unfold ok2; rw [← HA.out, ← HB.out, hda, hdb]; rfl
            have BY : Hid (byt l k = ha * 16#8 + hb2) := by show _ = _; unfold byt; rw [← HA.out, ← HB.out, hda, hdb]; rfl
            have C1 : 0 ≤ c ha ∧ c ha < 16 := by have := dval_lt hda; unfold c; omega
            refine (read_some xa ha hda wr).mono ?_
            rintro e wr ⟨rfl, rfl⟩
            go_wp2_with (refine wpList_index_str rfl 9 (.tmp 21) (.tmp 24) rfl s l hs (2 * k + 1) _ (by omega) rfl rfl i2 Tryd.underlying9 ?_; rw [← HB.out]; simp only [Act.put, List.setIfInBounds_toArray, List.set_cons_zero, List.set_cons_succ])
            have C2 : 0 ≤ c hb2 ∧ c hb2 < 16 := by have := dval_lt hdb; unfold c; omega
            refine (read_some xb hb2 hdb wr).mono ?_
            rintro e wr ⟨rfl, rfl⟩
            have hl : (rdb l k ++ List.replicate (32 - k) 0#8).length = 32 := by rw [List.length_append, rdb_length, List.length_replicate]; omega
            have g0 := h1.cell k _ (vB_get _ k (by rw [hl]; omega))
            have f0 := h1.thaw k
            generalize (rdb l k ++ List.replicate (32 - k) 0#8).getD k 0 = y0 at g0
            clear hl
            go_wp2
            refine ⟨⟨k + 1, by omega, by go_num, ?_, hb.setCell (p := ⟨w.heap.size + 1, k, none⟩) (by simp) _, h0.set_other _ _ _ (by omega), ?_⟩, by simp [intOf]; omega⟩
            · intro i hi
              by_cases h : i < k
              · exact HOK.out i h
              · obtain rfl : i = k := by omega
                exact OK1.out
            · have := h1.set k (.int .u8 (c (ha * 16#8 + hb2)))
              rw [vB_set, ← BY.out, rdb_step l k hlt] at this
              rw [← byte_mul ha hb2 B1 B2, ← BY.out]
              exact this
      · obtain rfl : k = 32 := by omega
        obtain ⟨dd, hdd⟩ : ∃ dd, dd = rdb l 32 := ⟨_, rfl⟩
        have h2 : Row wr (w.heap.size + 1) (vB dd) 26 := by rw [hdd]; simpa using h1
        have RX : Hid (rdx l = (dd, 0)) := by show _ = _; rw [hdd]; exact rdx_good (by rw [← hs.size]; exact h64) HOK.out
        have HL : Hid (dd.length = 32) := by show _ = _; rw [hdd]; exact rdb_length l 32
        have J : (Tryd.prog.info? 26).map (·.size) = some (vB dd).length := by rw [info_dig, vB_length, HL.out]
        have I : (Tryd.prog.info? 26).map (·.size) = some (vB dd).toArray.size := by rw [info_dig]; simp [vB_length, HL.out]
        have T := h0.there 0 (vB dd).toArray.size (by simp [vB_length, HL.out])
        clear hdd h1 hs
        go_wp2_with (first
          | (refine wpList_load_mid rfl 26 (.tmp 4) rfl (w.heap.size + 1) 0 rfl (vB dd) _ h2.all Tryd.underlying26 rfl J ?_; simp only [Act.put, List.setIfInBounds_toArray, List.set_cons_zero, List.set_cons_succ])
          | (refine wpList_store_mid rfl 26 (.tmp 2) (.tmp 40) rfl w.heap.size 0 (vB dd).toArray rfl rfl T I (all_oneCell_toArray (vB_one _)) ?_; simp only [Act.put]))
        exact bodyPost_ret (results_row_tmp Tryd.results26 _ _ w.heap.size 26 (vB dd) (.int .i64 0) rfl rfl (Row.over h0 (by rw [vB_length, HL.out]; rfl)) Tryd.underlying26 info_dig (by rw [vB_length, HL.out])) rfl ⟨by rw [RX.out], below_setCells hb (Nat.le_refl _) _⟩
  · have e : rdx l = (List.replicate 32 0#8, 10) := rdx_short (by rw [← hs.size]; exact h64)
    rw [e]
    clear e hs
    go_enter Tryd.func26, Tryd.ntmps26
    go_wp2_with (refine wpList_store_mid rfl 26 (.tmp 2) (.tmp 11) rfl w.heap.size 0 (vB (List.replicate 32 0#8)).toArray rfl rfl (digest_there w (List.replicate 32 0#8) rfl) info_dig (all_oneCell_toArray (vB_one _)) ?_; simp only [Act.put])
    obtain ⟨hB, hR⟩ := digest_laid (W := w) (List.replicate 32 0#8) rfl (Below.refl _ w)
    exact bodyPost_ret (results_row_tmp Tryd.results26 _ _ w.heap.size 26 (vB (List.replicate 32 0#8)) (.int .i64 10) rfl rfl hR Tryd.underlying26 info_dig rfl) rfl ⟨rfl, hB⟩

theorem ownsRow_below {B N e size n : Nat} {w w' : World} {v : Value} {xs : List Value} (h : w.ownsRow N e size v n xs) (k : Below B w w') (hB : w.heap.size ≤ B) : w'.ownsRow N e size v n xs := by
  obtain ⟨h1, h2⟩ := h
  refine ⟨h1, ?_⟩
  rcases h2 with h2 | ⟨g, cap, cur, hv, hg, hh, r⟩
  · exact .inl h2
  · exact .inr ⟨g, cap, cur, hv, hg, (k.block g (Nat.lt_of_lt_of_le (Array.getElem?_eq_some_iff.1 hh).1 hB)).trans hh, r⟩

section
variable {ops : Array Oper} {rest : List Oper} {op : Oper} {a : Act} {Q : Exit → Act → World → Prop}
/-- append of bytes onto a list of the call's own. -/
theorem wpList_append_vB (hgd : op.guard = none) (s x : Operand) (ho : op.op = .call { callee := .builtin .append, args := #[s, x], argTypes := #[22, 22] }) (W0 Wa : World) (M N : Nat) (v : Value) (n m : Nat) (l news : List (BitVec 8))
    (hown : W0.ownsRow N 5 1 v n (vB l)) (hs : a.eval s = v) (hm : news.length = m) (hx : a.eval x = .slice (some ⟨W0.heap.size, 0, none⟩) m m) (hk : n + m ≤ 140737488355328) (hN : N ≤ W0.heap.size) (hMN : M ≤ N) (hb : Below M Wa W0)
    (h : ∀ v' w', w'.ownsRow N 5 1 v' (n + m) (vB (l ++ news)) → Below M Wa w' → (∀ b cs t, b < N → Row W0 b cs t → Row w' b cs t) → wpList Tryd.prog ops Q rest (a.put op.dst v') w') :
    wpList Tryd.prog ops Q (op :: rest) a (W0.alloc (.cells (vB news).toArray 5)) := by
  obtain ⟨i, hi0, hz, hsz, hby⟩ := info_parts info_all_u8
  have hk0 : Below W0.heap.size W0 (W0.alloc (.cells (vB news).toArray 5)) := (Below.refl _ _).alloc (Nat.le_refl _) _
  have hown1 := ownsRow_below hown hk0 (Nat.le_refl _)
  have hb1 : Below M Wa (W0.alloc (.cells (vB news).toArray 5)) := hb.alloc (Nat.le_trans hMN hN) _
  have hr : Row (W0.alloc (.cells (vB news).toArray 5)) W0.heap.size (vB news) 5 := Row.new _ _ _
  have hN1 : N ≤ (W0.alloc (.cells (vB news).toArray 5)).heap.size := Nat.le_trans hN hk0.size
  have hcell := hr.all
  have hblk : ∀ k, v.ownBlock = some k → N ≤ k := by
    intro k hk
    rcases hown.2 with ⟨h2, _⟩ | ⟨g', cap, cur, hv, hg, _⟩
    · rw [h2] at hk; simp [Value.ownBlock] at hk
    · rw [hv] at hk; simp [Value.ownBlock] at hk; omega
  generalize hW1 : W0.alloc (.cells (vB news).toArray 5) = W1 at *
  refine wpList_append_own _ hgd s x 22 ho N 5 i (.int .u8 0) 1 1 Tryd.underlying22 hi0 hz hsz hby rfl (by decide) v n (vB l) hs hown1 ⟨W0.heap.size, 0, none⟩ m m (vB news) hx (by rw [vB_length, hm, Nat.mul_one]) ?_ (vB_one news) (by unfold maxLen; omega) (by omega) hN1 ?_
  · intro j u hj; rw [Addr.add_mid]; exact hcell j u hj
  · intro v' w' h2 h3 _
    have e : vB l ++ vB news = vB (l ++ news) := by simp [vB]
    rw [e] at h2
    refine h v' w' h2 (hb1.grown h3 (Nat.le_trans hMN hN1) (fun k hk => Nat.le_trans hMN (hblk k hk))) (fun b cs t hbN hR => ?_)
    have hne : some b ≠ v.ownBlock := fun he => by have := hblk b he.symm; omega
    exact (h3.block b (Nat.lt_of_lt_of_le hbN hN1) hne).trans (Row.below hR hk0 (Nat.lt_of_lt_of_le hbN hN))
end

theorem ownsRow_vB {w : World} {N : Nat} {v : Value} {n : Nat} {l : List (BitVec 8)} (h : w.ownsRow N 5 1 v n (vB l)) : n = l.length := by have := h.1; rw [vB_length] at this; omega

set_option maxRecDepth 100000 in
set_option maxHeartbeats 1000000 in
theorem rhexs_any (d : List (BitVec 8)) (hd : d.length = 32) (w : World) :
    Calls Tryd.prog 27 #[.agg (vB d).toArray] w fun e w' => e = .returned (.string (str (hexs d))) ∧ Below w.heap.size w w' := by
  go_enter Tryd.func27, Tryd.ntmps27
  go_wp2
  go_loopw [3, 4] (fun v i wr => ∃ k : Nat, k ≤ 32 ∧ i = .int .i64 k ∧ wr.ownsRow (w.heap.size + 1) 5 1 v (2 * k) (vB (hexs (d.take k))) ∧ Below w.heap.size w wr ∧ Row wr w.heap.size (vB d) 26)
    (fun _ i _ => 32 - (intOf i).toNat)
  case atStart => exact ⟨0, by omega, rfl, World.ownsRow_nil _ _ _ _, (Below.refl _ _).alloc (Nat.le_refl _) _, Row.new' rfl rfl⟩
  case round =>
    obtain ⟨k, hk, rfl, hown, hb, h0⟩ := hrel
    by_cases hlt : k < 32
    · have g0 := h0.cell k _ (vB_get d k (by omega))
      have hstep := hexs_take d k (by omega)
      generalize d.getD k 0 = x at g0 hstep
      have HS : Hid _ := hstep
      clear hstep
      have bx : 0 ≤ c x ∧ c x < 256 := by unfold c; have := x.isLt; omega
      have q1 : c x / 16 = ((x.toNat / 16 : Nat) : Int) := by unfold c; omega
      have q2 : c x % 16 = ((x.toNat % 16 : Nat) : Int) := by unfold c; omega
      have Q1 : Hid _ := q1
      have Q2 : Hid _ := q2
      have hlow : x.toNat % 16 < 16 := by omega
      have hhigh : x.toNat / 16 < 16 := by have := x.isLt; omega
      have HL : Hid _ := hlow
      have HH : Hid _ := hhigh
      have hsz : w.heap.size + 1 ≤ wr.heap.size := h0.lt
      clear q1 q2 hlow hhigh
      go_wp2_with fail
      rw [Q1.out]
      refine (digit_any _ HH.out wr).mono ?_
      rintro e wr ⟨rfl, rfl⟩
      go_wp2_with fail
      rw [Q2.out]
      refine (digit_any _ HL.out wr).mono ?_
      rintro e wr ⟨rfl, rfl⟩
      generalize hyp1 : hexd (x.toNat / 16) = y1 at *
      generalize hyp2 : hexd (x.toNat % 16) = y2 at *
      have HS2 : Hid (hexs (d.take (k + 1)) = hexs (d.take k) ++ [y1, y2]) := by show _ = _; rw [HS.out, ← hyp1, ← hyp2]; rfl
      clear hyp1 hyp2 g0
      go_wp2_with (refine wpList_append_vB rfl (.tmp 21) (.tmp 24) rfl wr w w.heap.size (w.heap.size + 1) _ (2 * k) 2 (hexs (d.take k)) [y1, y2] hown rfl rfl rfl (by omega) hsz (Nat.le_succ _) hb ?_; intro vp w7 hown7 hW7 hk7; have h07 := hk7 _ _ _ (Nat.lt_succ_self _) h0; clear hk7; simp only [Act.put, List.setIfInBounds_toArray, List.set_cons_zero, List.set_cons_succ])
      rw [← HS2.out] at hown7
      exact ⟨⟨k + 1, by omega, by go_num, hown7, hW7, h07⟩, by simp [intOf]; omega⟩
    · obtain rfl : k = 32 := by omega
      rw [show d.take 32 = d from List.take_of_length_le (by omega)] at hown
      rcases hown.2 with ⟨_, h2⟩ | ⟨g, cap, cur, rfl, hg, hh, hc, hm, hs, ht⟩
      · cases h2
      have hr : Row wr g cur.toList 5 := by unfold Row; rw [hh]
      have hra : wr.rangeAt g 0 (vB (hexs d)) := fun j u hj => by
        refine hr.all j u ?_
        rw [← ht] at hj
        have hjl : j < 2 * 32 * 1 := by have := (List.getElem?_eq_some_iff.1 hj).1; rw [List.length_take] at this; omega
        rwa [List.getElem?_take_of_lt hjl] at hj
      have hcv := run_convert_str wr 22 5 9 Tryd.underlying22 Tryd.underlying5 Tryd.underlying9 g 0 cap (2 * 32) (hexs d) (by rw [hexs_length, hd]) hra
      clear hown hr hra ht
      go_wp2
      go_ret
      exact ⟨rfl, hb⟩

end Go.Proofs.YtihigbkanbabeaaDoor
