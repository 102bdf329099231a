/-
  Write: a Hasher takes bytes.
-/
import Derived.Test.YtfdgdmehgbmnkaaDoorNew
import Derived.Test.YtfdgdmehgbmnkaaDoorSlice
namespace Go.Proofs.YtfdgdmehgbmnkaaDoor
open Go Go.RowKit
open Sha

/-- v is a slice of the bytes d, which lie outside block b. -/
def Sl (w : World) (v : Value) (d : List (BitVec 8)) (b : Nat) : Prop :=
  (d = [] ∧ v = .slice none 0 0) ∨ ∃ ab ao cap, v = .slice (some ⟨ab, ao, none⟩) d.length cap ∧ d.length ≤ cap ∧ ab ≠ b ∧ w.rangeAt ab ao (vB d)

set_option maxRecDepth 100000 in
set_option maxHeartbeats 1000000 in
theorem write_nil (b : Nat) (w : World) (cap : Nat) (a : Option Addr) :
    Calls Tryd.prog 85 #[.pointer (some ⟨b, 0, none⟩), .slice a 0 cap] w fun e w' => e = .returned (.tuple #[]) ∧ w' = w := by
  go_enter Tryd.func85, Tryd.ntmps85
  go_wp2
  go_loopw [1] (fun v wr => v = .slice a 0 cap ∧ wr = w) (fun _ _ => 0)
  case atStart => exact ⟨rfl, rfl⟩
  case round =>
    obtain ⟨rfl, rfl⟩ := hrel
    go_wp2
    go_end0
    exact ⟨rfl, rfl⟩

/-- A slice's length. -/
def sliceLen : Value → Nat
  | .slice _ n _ => n
  | _ => 0

set_option maxRecDepth 100000 in
set_option maxHeartbeats 1000000 in
theorem write_some (bs d : List (BitVec 8)) (hlen : bs.length + d.length < 1152921504606846976) (b ab ao cap : Nat) (hcap : d.length ≤ cap) (hab : ab ≠ b) (w : World) (hK : Tab w 3) (hg : 3 ≠ b)
    (hH : HAt w b bs) (hd : w.rangeAt ab ao (vB d)) :
    Calls Tryd.prog 85 #[.pointer (some ⟨b, 0, none⟩), .slice (some ⟨ab, ao, none⟩) d.length cap] w fun e w' => e = .returned (.tuple #[]) ∧ HAt w' b (bs ++ d) ∧ But b w w' := by
  go_enter Tryd.func85, Tryd.ntmps85
  go_wp2
  go_loopw [1] (fun v wr => ∃ (i : Nat) (A : Addr), i ≤ d.length ∧ v = .slice (some A) (d.length - i) (cap - i) ∧ (i < d.length → A = ⟨ab, ao + i, none⟩) ∧ HAt wr b (bs ++ d.take i) ∧ But b w wr)
    (fun v _ => sliceLen v)
  case atStart => exact ⟨0, _, by omega, rfl, fun _ => rfl, by simpa using hH, But.refl _ _⟩
  case round =>
    obtain ⟨i, A, hi, rfl, hA', hA, hB⟩ := hrel
    by_cases hlt : i < d.length
    · obtain rfl := hA' hlt
      have hx : (bs ++ d.take i).length = bs.length + i := by rw [List.length_append, List.length_take]; omega
      obtain ⟨x, hxe⟩ : ∃ x, x = bs ++ d.take i := ⟨_, rfl⟩
      obtain ⟨n, hn⟩ : ∃ n, n = bs.length + i := ⟨_, rfl⟩
      rw [← hxe, ← hn] at hx
      rw [← hxe] at hA
      unfold HAt at hA
      rw [hx] at hA
      have hwl := hwait_length x
      have g72 := hA.cell 72 _ (hcells_taken _ _ _ hwl)
      have f72 := hA.thaw 72
      obtain ⟨m, hm⟩ : ∃ m, m = Nat.min (d.length - i) (64 - n % 64) := ⟨_, rfl⟩
      have hm1 : m ≤ d.length - i := by rw [hm]; exact Nat.min_le_left _ _
      have hm2 : m ≤ 64 - n % 64 := by rw [hm]; exact Nat.min_le_right _ _
      have hm0 : 0 < m := by rw [hm]; exact Nat.lt_min.2 ⟨by omega, by omega⟩
      obtain ⟨e, he⟩ : ∃ e, e = (d.drop i).take m := ⟨_, rfl⟩
      have hel : e.length = m := by rw [he, List.length_take, List.length_drop]; omega
      have hn63 : n < 1152921504606846976 := by omega
      have hn63' : n + m < 1152921504606846976 := by omega
      have HM : Hid (m = Nat.min (d.length - i) (64 - n % 64)) := hm
      have HX : Hid (x = bs ++ d.take i) := hxe
      have HN : Hid (n = bs.length + i) := hn
      have HE : Hid (e = (d.drop i).take m) := he
      have HXL : Hid (x.length = n) := hx
      have HEL : Hid (e.length = m) := hel
      have hvl : (vB e).length = Nat.min (d.length - i) (64 - n % 64) := by rw [vB_length, hel]; exact hm
      have HVL : Hid _ := hvl
      have HWL : Hid _ := hwl
      have hsrc : wr.rangeAt ab (ao + i) (vB e) := by
        intro j v hv
        have hj : j < m := by have := (List.getElem?_eq_some_iff.1 hv).1; rwa [vB_length, hel] at this
        have h2 : (vB d)[i + j]? = some v := by
          rw [← hv, he]; simp only [vB, List.map_take, List.map_drop]
          rw [List.getElem?_take_of_lt hj, List.getElem?_drop]
        have := range_but hd hB hab (i + j) v h2
        rwa [show ao + (i + j) = ao + i + j by omega] at this
      have hthere := hA.there (8 + n % 64) (vB e).length (by rw [hcells_length _ _ _ hwl, vB_length, hel]; omega)
      clear hm hxe hn he hx hel hvl hwl
      have r1 : Row (wr.setCells b (8 + n % 64) (vB e)) b (hcells (hst x) ((hwait x).take (n % 64) ++ e ++ (hwait x).drop (n % 64 + e.length)) n) 153 := by
        have := Row.setCells (8 + n % 64) (vB e) hA (by rw [hcells_length _ _ _ HWL.out, vB_length, HEL.out]; omega)
        rwa [hcells_splice _ _ _ _ _ HWL.out (by rw [HEL.out]; omega)] at this
      have hB1 := hB.trans (But.setCells b (8 + n % 64) wr (vB e))
      obtain ⟨t, ht⟩ : ∃ t, t = (hwait x).take (n % 64) ++ e ++ (hwait x).drop (n % 64 + e.length) := ⟨_, rfl⟩
      have htl : t.length = 64 := by rw [ht]; simp only [List.length_append, List.length_take, List.length_drop, HWL.out, HEL.out]; omega
      rw [← ht] at r1
      have HT : Hid _ := ht
      have HTL : Hid _ := htl
      clear ht htl
      have g72' := r1.cell 72 _ (hcells_taken _ _ _ HTL.out)
      have f72' := r1.thaw 72
      by_cases hfull : n % 64 + m = 64
      · go_wp2_with (first
          | (refine wpList_slice_arr rfl 151 (.tmp 16) (.tmp 17) rfl 5 64 b 8 (n % 64) ((n : Int) % 64) rfl rfl (by omega) (by omega) Tryd.underlying151 info_u8 ?_; simp only [Act.put, List.setIfInBounds_toArray, List.set_cons_zero, List.set_cons_succ])
          | (refine wpList_copy' rfl (.tmp 18) (.tmp 19) 46 46 rfl 5 b (8 + n % 64) (64 - n % 64) (64 - n % 64) ⟨ab, ao + i, none⟩ (d.length - i) (cap - i) (vB e) rfl rfl Tryd.underlying46 info_u8 HVL.out ?_ hthere (vB_one e) ?_; (intro j v hv; rw [Addr.add_mid]; exact hsrc j v hv); rw [show goInt (vB e).length = .int .i64 (m : Int) from (by rw [vB_length, HEL.out]; rfl)]; simp only [Act.put, List.setIfInBounds_toArray, List.set_cons_zero, List.set_cons_succ]; (generalize World.setCells wr b (8 + n % 64) (vB e) = w2 at *))
          | (refine wpList_slice_from rfl 46 (.tmp 21) (.tmp 22) rfl 5 ab (ao + i) (d.length - i) (cap - i) m (m : Int) rfl rfl rfl hm1 (by omega) Tryd.underlying46 info_u8 ?_; intro A hA2; simp only [Act.put, List.setIfInBounds_toArray, List.set_cons_zero, List.set_cons_succ]))
        have r3 : Row (w2.setCell ⟨b, 72, none⟩ (.int .i64 ((n : Int) + m))) b (hcells (hst x) t ((n : Int) + m)) 153 := by
          have := r1.set 72 (.int .i64 ((n : Int) + m)); rwa [hcells_set _ _ _ _ HTL.out] at this
        have hB3 := hB1.trans (But.setCell b 72 w2 (.int .i64 ((n : Int) + m)))
        generalize w2.setCell ⟨b, 72, none⟩ (.int .i64 ((n : Int) + m)) = w3 at *
        clear g72 f72 g72' f72' hthere hsrc r1 hB1 hA hd hH
        have hT3 : Tab w3 3 := hK.but hB3 hg
        have hbl := r3.lt
        obtain ⟨wa, hwa⟩ : ∃ wa, words t 16 = wa := ⟨_, rfl⟩
        have HWA : Hid (words t 16 = wa) := hwa
        have HWAL : Hid (wa.length = 16) := by rw [← hwa]; exact words_length _ _
        obtain ⟨s1, hs1⟩ : ∃ s1, s1 = hst x := ⟨_, rfl⟩
        obtain ⟨ra, hra⟩ : ∃ ra, comp s1 wa = ra := ⟨_, rfl⟩
        have HRA : Hid (comp s1 wa = ra) := hra
        have HS1 : Hid (s1 = hst x) := hs1
        rw [← hs1] at r3
        clear hwa hra hs1
        have hi64 : (Tryd.prog.info? 151).map (·.size) = some (vB t).length := by rw [info_b64, vB_length, HTL.out]
        refine wp_region_quiet_tail (C := fun w' => Below w3.heap.size w3 w') 13 (by kernel_rfl) (by kernel_rfl) ((Below.refl _ _).drew) ?_
        simp only [List.take_succ_cons, List.take_zero, List.drop_succ_cons, List.drop_zero]
        refine quiet_copy rfl (.tmp 0) (.inl rfl) ?_
        simp only [Act.put, List.setIfInBounds_toArray, List.set_cons_zero, List.set_cons_succ]
        refine quiet_copy rfl (.tmp 0) (.inl rfl) ?_
        simp only [Act.put, List.setIfInBounds_toArray, List.set_cons_zero, List.set_cons_succ]
        refine quiet_val rfl (.pointer (some ⟨b, 0, none⟩)) (fun w' _ => by go_simp) ?_
        simp only [Act.put, List.setIfInBounds_toArray, List.set_cons_zero, List.set_cons_succ]
        refine quiet_val rfl (.pointer (some ⟨b, 0, none⟩)) (fun w' _ => by go_simp) ?_
        simp only [Act.put, List.setIfInBounds_toArray, List.set_cons_zero, List.set_cons_succ]
        refine quiet_load rfl 142 (.tmp 39) rfl b 0 rfl (vW s1.list) _ (fun w' hw' => (r3.below hw' hbl).range 0 _ (hcells_state _ _ _)) Tryd.underlying142 rfl info_arr8 ?_
        simp only [Act.put, List.setIfInBounds_toArray, List.set_cons_zero, List.set_cons_succ]
        refine quiet_copy rfl (.tmp 0) (.inl rfl) ?_
        simp only [Act.put, List.setIfInBounds_toArray, List.set_cons_zero, List.set_cons_succ]
        refine quiet_val rfl (.pointer (some ⟨b, 0, none⟩)) (fun w' _ => by go_simp) ?_
        simp only [Act.put, List.setIfInBounds_toArray, List.set_cons_zero, List.set_cons_succ]
        refine quiet_val rfl (.pointer (some ⟨b, 8, none⟩)) (fun w' _ => by go_simp) ?_
        simp only [Act.put, List.setIfInBounds_toArray, List.set_cons_zero, List.set_cons_succ]
        refine quiet_load rfl 151 (.tmp 43) rfl b 8 rfl (vB t) _ (fun w' hw' => (r3.below hw' hbl).range 8 _ (hcells_wait _ _ _)) Tryd.underlying151 rfl hi64 ?_
        simp only [Act.put, List.setIfInBounds_toArray, List.set_cons_zero, List.set_cons_succ]
        refine quiet_call rfl 96 #[.agg (vB t).toArray] (.agg (vW wa).toArray) (fun w' _ => by go_simp) (fun w' hw' => (words_w _ wa HTL.out HWA.out w').mono (fun e w'' h => ⟨h.1, hw'.trans (h.2.mono hw'.size)⟩)) ?_
        simp only [Act.put, List.setIfInBounds_toArray, List.set_cons_zero, List.set_cons_succ]
        refine quiet_call rfl 95 #[.agg (vW s1.list).toArray, .agg (vW wa).toArray] (.agg (vW ra.list).toArray) (fun w' _ => by go_simp) (fun w' hw' => (takeIn_r s1 wa ra HWAL.out HRA.out w' (hT3.below hw' hT3.lt)).mono (fun e w'' h => ⟨h.1, hw'.trans (h.2.mono hw'.size)⟩)) ?_
        simp only [Act.put, List.setIfInBounds_toArray, List.set_cons_zero, List.set_cons_succ]
        refine quiet_val rfl (.pointer (some ⟨b, 0, none⟩)) (fun w' _ => by go_simp) ?_
        simp only [Act.put, List.setIfInBounds_toArray, List.set_cons_zero, List.set_cons_succ]
        refine quiet_val rfl (.pointer (some ⟨b, 0, none⟩)) (fun w' _ => by go_simp) ?_
        simp only [Act.put, List.setIfInBounds_toArray, List.set_cons_zero, List.set_cons_succ]
        refine wpQuiet_nil ?_
        intro w' hw'
        have r4 := r3.below hw' hbl
        have hB4 := hB3.trans (But.of_below (b := b) hw')
        clear hw' r3 hB3 hT3 hbl
        refine wpList_store_mid rfl 142 (.tmp 48) (.tmp 46) rfl b 0 (vW ra.list).toArray rfl rfl (r4.there 0 8 (by rw [hcells_length _ _ _ HTL.out]; omega)) info_arr8 (all_oneCell_toArray (vW_one ra.list)) ?_
        simp only [Act.put]
        have r5 : Row (World.setCells w' b 0 (vW ra.list)) b (hcells ra t ((n : Int) + m)) 153 := by
          have := Row.setCells 0 (vW ra.list) r4 (by rw [hcells_length _ _ _ HTL.out, vW_list_length]; decide); rwa [hcells_over] at this
        have hB5 := hB4.trans (But.setCells b 0 w' (vW ra.list))
        change wpList _ _ _ _ _ (World.setCells w' b 0 (vW ra.list))
        generalize World.setCells w' b 0 (vW ra.list) = w5 at *
        clear r4 hB4
        have r6 : Row (World.setCells w5 b 8 (vB noughts)) b (hcells ra noughts ((n : Int) + m)) 153 := by
          have := Row.setCells 8 (vB noughts) r5 (by rw [hcells_length _ _ _ HTL.out, vB_noughts_length]; decide)
          rwa [hcells_noughts _ _ _ HTL.out] at this
        have hB6 := hB5.trans (But.setCells b 8 w5 (vB noughts))
        have hi9 : (Tryd.prog.info? 151).map (·.size) = some (vB noughts).toArray.size := info_b64
        have ho9 := all_oneCell_toArray (vB_one noughts)
        go_wp2_with (refine wpList_store_mid rfl 151 (.tmp 52) (.tmp 50) rfl b 8 (vB noughts).toArray rfl rfl (r5.there 8 64 (by rw [hcells_length _ _ _ HTL.out]; decide)) hi9 ho9 ?_; simp only [Act.put]; (change wpList _ _ _ _ _ (World.setCells w5 b 8 (vB noughts))); (generalize World.setCells w5 b 8 (vB noughts) = w6 at *))
        have hd1 : bs ++ d.take (i + m) = x ++ e := by rw [HX.out, HE.out, List.append_assoc, List.take_add]
        have hf : x.length % 64 + e.length = 64 := by rw [HXL.out, HEL.out]; exact hfull
        have hH6 : HAt w6 b (x ++ e) := by
          unfold HAt
          rw [hst_full x e hf, hwait_full x e hf, List.length_append, HXL.out, HEL.out]
          rw [show comp (hst x) (words ((hwait x).take (n % 64) ++ e ++ (hwait x).drop (n % 64 + m)) 16) = ra from by rw [← HRA.out, ← HWA.out, HS1.out, HT.out, HEL.out]]
          exact_mod_cast r6
        refine ⟨⟨i + m, A, by omega, by rw [Nat.sub_sub, Nat.sub_sub], fun h => by rw [hA2 (by omega), Nat.add_assoc], by rw [hd1]; exact hH6, hB6⟩, ?_⟩
        show d.length - i - m < d.length - i
        omega
      · go_wp2_with (first
          | (refine wpList_slice_arr rfl 151 (.tmp 16) (.tmp 17) rfl 5 64 b 8 (n % 64) ((n : Int) % 64) rfl rfl (by omega) (by omega) Tryd.underlying151 info_u8 ?_; simp only [Act.put, List.setIfInBounds_toArray, List.set_cons_zero, List.set_cons_succ])
          | (refine wpList_copy' rfl (.tmp 18) (.tmp 19) 46 46 rfl 5 b (8 + n % 64) (64 - n % 64) (64 - n % 64) ⟨ab, ao + i, none⟩ (d.length - i) (cap - i) (vB e) rfl rfl Tryd.underlying46 info_u8 HVL.out ?_ hthere (vB_one e) ?_; (intro j v hv; rw [Addr.add_mid]; exact hsrc j v hv); rw [show goInt (vB e).length = .int .i64 (m : Int) from (by rw [vB_length, HEL.out]; rfl)]; simp only [Act.put, List.setIfInBounds_toArray, List.set_cons_zero, List.set_cons_succ]; (generalize World.setCells wr b (8 + n % 64) (vB e) = w2 at *))
          | (refine wpList_slice_from rfl 46 (.tmp 21) (.tmp 22) rfl 5 ab (ao + i) (d.length - i) (cap - i) m (m : Int) rfl rfl rfl hm1 (by omega) Tryd.underlying46 info_u8 ?_; intro A hA2; simp only [Act.put, List.setIfInBounds_toArray, List.set_cons_zero, List.set_cons_succ]))
        have r3 : Row (w2.setCell ⟨b, 72, none⟩ (.int .i64 ((n : Int) + m))) b (hcells (hst x) t ((n : Int) + m)) 153 := by
          have := r1.set 72 (.int .i64 ((n : Int) + m)); rwa [hcells_set _ _ _ _ HTL.out] at this
        have hB3 := hB1.trans (But.setCell b 72 w2 (.int .i64 ((n : Int) + m)))
        have hd1 : bs ++ d.take (i + m) = x ++ e := by rw [HX.out, HE.out, List.append_assoc, List.take_add]
        have hf : x.length % 64 + e.length < 64 := by rw [HXL.out, HEL.out]; omega
        have hH6 : HAt (w2.setCell ⟨b, 72, none⟩ (.int .i64 ((n : Int) + m))) b (x ++ e) := by
          unfold HAt
          rw [hst_part x e hf, hwait_part x e hf, List.length_append, HXL.out]
          rw [show (hwait x).take (n % 64) ++ e ++ (hwait x).drop (n % 64 + e.length) = t from HT.out.symm, HEL.out]
          exact_mod_cast r3
        refine ⟨⟨i + m, A, by omega, by rw [Nat.sub_sub, Nat.sub_sub], fun h => by rw [hA2 (by omega), Nat.add_assoc], by rw [hd1]; exact hH6, hB3⟩, ?_⟩
        show d.length - i - m < d.length - i
        omega
    · obtain rfl : i = d.length := by omega
      have hH' : HAt wr b (bs ++ d) := by rw [List.take_length] at hA; exact hA
      clear hA hA'
      go_wp2
      go_end0
      exact ⟨rfl, hH', hB⟩

/-- Write, whatever the slice. -/
theorem write_any (bs d : List (BitVec 8)) (hlen : bs.length + d.length < 1152921504606846976) (b : Nat) (v : Value) (w : World) (hK : Tab w 3) (hg : 3 ≠ b)
    (hH : HAt w b bs) (hv : Sl w v d b) :
    Calls Tryd.prog 85 #[.pointer (some ⟨b, 0, none⟩), v] w fun e w' => e = .returned (.tuple #[]) ∧ HAt w' b (bs ++ d) ∧ But b w w' := by
  rcases hv with ⟨rfl, rfl⟩ | ⟨ab, ao, cap, rfl, hcap, hab, hr⟩
  · exact (write_nil b w 0 none).mono (fun e w' h => ⟨h.1, by rw [h.2, List.append_nil]; exact hH, by rw [h.2]; exact But.refl _ _⟩)
  · exact write_some bs d hlen b ab ao cap hcap hab w hK hg hH hr

end Go.Proofs.YtfdgdmehgbmnkaaDoor
