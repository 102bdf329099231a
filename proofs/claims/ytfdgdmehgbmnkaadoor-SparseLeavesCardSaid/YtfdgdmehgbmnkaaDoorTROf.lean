/-
  The document's of: the digest of the first n bits.
-/
import Derived.Test.YtfdgdmehgbmnkaaDoorTRMath
namespace Go.Proofs.YtfdgdmehgbmnkaaDoor
open Go Go.RowKit
open Sha

/-- The bytes of a list of the call's own. -/
theorem owns_range {w : World} {N n : Nat} {v : Value} {l : List (BitVec 8)} (h : w.ownsRow N 5 1 v n (vB l)) (hn : 0 < n) : ∃ g cap, v = .slice (some ⟨g, 0, none⟩) n cap ∧ N ≤ g ∧ l.length = n ∧ w.rangeAt g 0 (vB l) := by
  have h1 := h.1
  rw [vB_length] at h1
  rcases h.2 with ⟨_, h2⟩ | ⟨g, cap, cur, hv, hg, hh, hc, hm, hs, ht⟩
  · omega
  · have hr : Row w g cur.toList 5 := by unfold Row; rw [hh]
    refine ⟨g, cap, hv, hg, by omega, fun j u hj => ?_⟩
    refine hr.all j u ?_
    rw [← ht] at hj
    have hjl : j < n * 1 := by have := (List.getElem?_eq_some_iff.1 hj).1; rw [List.length_take] at this; omega
    rwa [List.getElem?_take_of_lt hjl] at hj

theorem laidT_64 (d : List (BitVec 8)) (n : Nat) (h : n / 8 ≤ d.length) : (laidT d n).length % 64 = 0 := by
  rw [laidT_length d n h]; unfold zs; omega

theorem taken_c (L : List (BitVec 8)) (t : Nat) (cs cs2 : List Value) (hcs : cs = vW (stK L t).list) (hcs2 : cs2 = vW (stK L (t + 1)).list) (g n cap : Nat) (hn : L.length = n) (hk : 64 * t + 64 ≤ n) (hlen : n < 1152921504606846976) (w : World) (hr : w.rangeAt g 0 (vB L)) (hK : Tab w 1) :
    Calls Tryd.prog 88 #[.agg cs.toArray, .slice (some ⟨g, 0, none⟩) n cap, .int .i64 (64 * (t : Int))] w fun e w' => e = .returned (.agg cs2.toArray) ∧ Below w.heap.size w w' := by
  subst hcs; subst hcs2
  have h := taken_any (stK L t) L g n cap (64 * t) hn hk hlen w hr hK
  rw [show ((64 * t : Nat) : Int) = 64 * (t : Int) by omega] at h
  exact h

/-- A byte of the state's bytes. -/
theorem bytes_at (s : St) (t : Nat) (h : t < 32) : c (s.bytes.getD t 0) = u (s.list.getD (t / 4) 0) / 2 ^ (24 - 8 * (t % 4)) % 256 := by
  have e : ∀ (x : BitVec 32) (k : Nat), c ((x >>> k).setWidth 8) = u x / 2 ^ k % 256 := fun x k => by
    unfold c u; rw [BitVec.toNat_setWidth, BitVec.toNat_ushiftRight, Nat.shiftRight_eq_div_pow]; simp
  have e0 : ∀ (x : BitVec 32), c (x.setWidth 8) = u x / 2 ^ 0 % 256 := fun x => by
    unfold c u; rw [BitVec.toNat_setWidth]; simp
  obtain ⟨a1, a2, a3, a4, a5, a6, a7, a8⟩ := s
  match t, h with
  | 0, _ => exact e a1 24
  | 1, _ => exact e a1 16
  | 2, _ => exact e a1 8
  | 3, _ => exact e0 a1
  | 4, _ => exact e a2 24
  | 5, _ => exact e a2 16
  | 6, _ => exact e a2 8
  | 7, _ => exact e0 a2
  | 8, _ => exact e a3 24
  | 9, _ => exact e a3 16
  | 10, _ => exact e a3 8
  | 11, _ => exact e0 a3
  | 12, _ => exact e a4 24
  | 13, _ => exact e a4 16
  | 14, _ => exact e a4 8
  | 15, _ => exact e0 a4
  | 16, _ => exact e a5 24
  | 17, _ => exact e a5 16
  | 18, _ => exact e a5 8
  | 19, _ => exact e0 a5
  | 20, _ => exact e a6 24
  | 21, _ => exact e a6 16
  | 22, _ => exact e a6 8
  | 23, _ => exact e0 a6
  | 24, _ => exact e a7 24
  | 25, _ => exact e a7 16
  | 26, _ => exact e a7 8
  | 27, _ => exact e0 a7
  | 28, _ => exact e a8 24
  | 29, _ => exact e a8 16
  | 30, _ => exact e a8 8
  | 31, _ => exact e0 a8
  | n + 32, h => omega

theorem range_low {B : Nat} {w w' : World} {c o : Nat} {cs : List Value} (h : w.rangeAt c o cs) (k : Below B w w') (hB : c < B) : w'.rangeAt c o cs := fun j v hv => by
  rw [← h j v hv]; exact k.cell (p := ⟨c, o + j, none⟩) hB

theorem bytes_fill (l : List (BitVec 8)) (h : l.length = 32) (t : Nat) (ht : t < 32) : (l.take t ++ List.replicate (32 - t) 0#8).set t (l.getD t 0) = l.take (t + 1) ++ List.replicate (32 - (t + 1)) 0#8 := by
  have hl : (l.take t).length = t := by rw [List.length_take]; omega
  have e : l.take (t + 1) = l.take t ++ [l.getD t 0] := by
    rw [List.take_succ_eq_append_getElem (by omega)]; simp [show t < l.length by omega]
  rw [e, show 32 - t = (32 - (t + 1)) + 1 by omega, List.replicate_succ, set_app _ _ _ _ t hl, List.append_assoc]
  rfl

set_option maxRecDepth 100000 in
set_option maxHeartbeats 2000000 in
theorem of_any (d : List (BitVec 8)) (hd : d.length ≤ 140737488355000) (A : Option Addr) (cap n : Nat) (hn : n ≤ 8 * d.length) (w : World) (hv : SlAt w (.slice A d.length cap) d) (hK : Tab w 1) (hS : w.rangeAt 0 0 (vW st0.list)) :
    Calls Tryd.prog 71 #[.slice A d.length cap, .int .i64 (n : Int)] w fun e w' => e = .returned (.agg (vB (stK (laidT d n) ((laidT d n).length / 64)).bytes).toArray) ∧ Below w.heap.size w w' := by
  obtain ⟨L, hL⟩ : ∃ L, L = laidT d n := ⟨_, rfl⟩
  have HL0 : Hid (0 < L.length ∧ L.length % 64 = 0 ∧ L.length < 1152921504606846976) := by
    show _ ∧ _ ∧ _
    rw [hL]
    have h1 := laidT_64 d n (by omega)
    have h2 := laidT_length d n (by omega)
    have h3 : zs n < 64 := by unfold zs; omega
    omega
  have hc := laid_any d hd A cap n hn
  rw [← hL] at hc ⊢
  obtain ⟨bs, hbs⟩ : ∃ bs, bs = (stK L (L.length / 64)).bytes := ⟨_, rfl⟩
  have HBS0 : Hid (∀ t, t < 32 → c (bs.getD t 0) = u ((stK L (L.length / 64)).list.getD (t / 4) 0) / 2 ^ (24 - 8 * (t % 4)) % 256) := by rw [hbs]; exact fun t ht => bytes_at _ t ht
  have HBL : Hid (bs.length = 32) := by show _ = _; rw [hbs]; rfl
  rw [← hbs]
  clear hbs
  have HC : Hid _ := hc
  have HV : Hid _ := hv
  have HS : Hid _ := hS
  clear hL hc hv hS
  obtain ⟨ss, hss⟩ : ∃ ss, ss = vW st0.list := ⟨_, rfl⟩
  go_enter Tryd.func71, Tryd.ntmps71
  go_wp2_with fail
  refine (HC.out _ (SlAt.below HV.out ((Below.refl _ _).alloc (Nat.le_refl _) _) (Nat.le_refl _))).mono ?_
  rintro e w2 ⟨v, rfl, hown, hB2⟩
  obtain ⟨g, cp, rfl, hg, hll, hra⟩ := owns_range hown HL0.out.1
  have hb2 : Below w.heap.size w w2 := ((Below.refl _ _).alloc (Nat.le_refl _) _).trans (hB2.mono (by simp))
  have r4 : Row w2 w.heap.size (vB (List.replicate 32 0#8)) 29 := Row.below (Row.new' rfl rfl) hB2 (by simp)
  have hgl : g < w2.heap.size := World.block_lt_of_cell? w2 _ (hra 0 _ (vB_get L 0 HL0.out.1))
  have hs2 := range_below HS.out hb2 (Nat.le_refl _)
  clear hown hB2 hg
  have i8 : (Tryd.prog.info? 142).map (·.size) = some (vW st0.list).length := info_arr8
  have i8' : (Tryd.prog.info? 142).map (·.size) = some (vW st0.list).toArray.size := info_arr8
  have T := Row.there (Row.new' (w := w2) (cs := vW (List.replicate 8 0#32)) (t := 142) rfl rfl) 0 (vW st0.list).toArray.size (by exact Nat.le_refl 8)
  have F6 : Row (World.setCells (w2.alloc (Obj.cells (vW (List.replicate 8 0#32)).toArray 142)) w2.heap.size 0 (vW st0.list)) w2.heap.size (vW st0.list) 142 := Row.over (Row.new _ _ _) rfl
  have hone := all_oneCell_toArray (vW_one st0.list)
  rw [← hss] at i8 i8' T hone hs2 F6
  have HSS : Hid _ := hss
  clear hss
  go_wp2_with (first
    | (refine wpList_load_mid rfl 142 (.global 0) rfl 0 0 rfl ss _ hs2 Tryd.underlying142 rfl i8 ?_; simp only [Act.put, List.setIfInBounds_toArray, List.set_cons_zero, List.set_cons_succ])
    | (refine wpList_store_mid rfl 142 (.tmp 6) (.tmp 13) rfl w2.heap.size 0 ss.toArray rfl rfl T i8' hone ?_; simp only [Act.put]; (change wpList _ _ _ _ _ (World.setCells (w2.alloc (Obj.cells (vW (List.replicate 8 0#32)).toArray 142)) w2.heap.size 0 ss))))
  obtain ⟨W6, hW6⟩ : ∃ W6, W6 = World.setCells (w2.alloc (Obj.cells (vW (List.replicate 8 0#32)).toArray 142)) w2.heap.size 0 ss := ⟨_, rfl⟩
  have hB6 : Below w2.heap.size w2 W6 := by rw [hW6]; exact below_setCells ((Below.refl _ _).alloc (Nat.le_refl _) _) (Nat.le_refl _) _
  have hb6 : Below w.heap.size w W6 := hb2.trans (hB6.mono hb2.size)
  have k4 : Row W6 w.heap.size (vB (List.replicate 32 0#8)) 29 := Row.below r4 hB6 (Row.lt r4)
  have kra : W6.rangeAt g 0 (vB L) := range_below hra hB6 (Nat.le_refl _)
  have k6 : Row W6 w2.heap.size (vW (stK L 0).list) 142 := by rw [hW6, show vW (stK L 0).list = ss from HSS.out.symm]; exact F6
  have hlt6 : w.heap.size < w2.heap.size := Row.lt r4
  have eW : World.setCells (w2.alloc (Obj.cells (vW (List.replicate 8 0#32)).toArray 142)) w2.heap.size 0 ss = W6 := hW6.symm
  rw [eW]
  have KRA : Hid _ := kra
  clear eW hW6 hB6 hb2 r4 hra F6 T hs2 i8 i8' hone HSS kra
  generalize w2.heap.size = b6 at *
  clear w2
  go_loopw [7] (fun i wr => ∃ t : Nat, t ≤ L.length / 64 ∧ i = .int .i64 (64 * (t : Int)) ∧ Below w.heap.size w wr ∧ Row wr w.heap.size (vB (List.replicate 32 0#8)) 29 ∧ Hid (wr.rangeAt g 0 (vB L)) ∧ Row wr b6 (vW (stK L t).list) 142)
    (fun i _ => L.length - (intOf i).toNat)
  case atStart => exact ⟨0, by omega, rfl, hb6, k4, KRA, k6⟩
  case round =>
    clear hb6 k4 KRA k6
    obtain ⟨t, ht, rfl, hb, h4, hra, h6⟩ := hrel
    have hl0 := HL0.out
    by_cases hlt : t < L.length / 64
    · obtain ⟨cs, hcs⟩ : ∃ cs, cs = vW (stK L t).list := ⟨_, rfl⟩
      obtain ⟨cs2, hcs2⟩ : ∃ cs2, cs2 = vW (stK L (t + 1)).list := ⟨_, rfl⟩
      have HC2 : Hid (∀ w', w'.rangeAt g 0 (vB L) → Tab w' 1 → Calls Tryd.prog 88 #[.agg cs.toArray, .slice (some ⟨g, 0, none⟩) L.length cp, .int .i64 (64 * (t : Int))] w' fun e w'' => e = .returned (.agg cs2.toArray) ∧ Below w'.heap.size w' w'') :=
        fun w' h1 h2 => taken_c L t cs cs2 hcs hcs2 g L.length cp rfl (by omega) (by omega) w' h1 h2
      have hl : cs.length = 8 := by rw [hcs]; rfl
      have hl2 : cs2.length = 8 := by rw [hcs2]; rfl
      have i8 : (Tryd.prog.info? 142).map (·.size) = some cs.length := by rw [info_arr8, hl]
      have i8' : (Tryd.prog.info? 142).map (·.size) = some cs2.toArray.size := by rw [info_arr8]; simp [hl2]
      have hone := all_oneCell_toArray (show ∀ v ∈ cs2, v.oneCell' = true by rw [hcs2]; exact vW_one _)
      have h6' : Row wr b6 cs 142 := by rw [hcs]; exact h6
      have HE : Hid (vW (stK L (t + 1)).list = cs2) := hcs2.symm
      have HL2 : Hid (cs2.length = cs.length) := by show _ = _; rw [hl, hl2]
      have hKr := hK.below hb hK.lt
      clear hcs hcs2 h6 hl hl2 ht
      go_wp2_with (first
        | (refine wpList_load_mid rfl 142 (.tmp 6) rfl b6 0 rfl cs _ h6'.all Tryd.underlying142 rfl i8 ?_; simp only [Act.put, List.setIfInBounds_toArray, List.set_cons_zero, List.set_cons_succ])
        | (go_at_call 88; refine (HC2.out _ hra.out hKr).mono ?_; rintro e w7 ⟨rfl, hB7⟩)
        | (refine wpList_store_mid rfl 142 (.tmp 6) (.tmp 23) rfl b6 0 cs2.toArray rfl rfl (Row.there (Row.below h6' hB7 (Row.lt h6')) 0 _ (by simp [HL2.out])) i8' hone ?_; simp only [Act.put]))
      have hb7 : Below w.heap.size w w7 := hb.trans (hB7.mono hb.size)
      have hb8 := below_setCells (Below.refl b6 w7) (Nat.le_refl b6) (o := 0) cs2
      refine ⟨⟨t + 1, hlt, by go_num, below_setCells hb7 (by omega) _, Row.setCells_other (Row.below h4 hB7 (Row.lt h4)) _ _ _ (by omega), range_low (range_below hra.out hB7 (Nat.le_refl _)) hb8 hgl, ?_⟩, by simp [intOf]; omega⟩
      rw [HE.out]
      exact Row.over (Row.below h6' hB7 (Row.lt h6')) HL2.out
    · have ht64 : t = L.length / 64 := by omega
      have e64 : (64 : Int) * (t : Int) = (L.length : Int) := by omega
      rw [ht64] at h6
      obtain ⟨s, hs⟩ : ∃ s, s = stK L (L.length / 64) := ⟨_, rfl⟩
      rw [← hs] at h6
      have HBS : Hid (∀ t, t < 32 → c (bs.getD t 0) = u (s.list.getD (t / 4) 0) / 2 ^ (24 - 8 * (t % 4)) % 256) := by rw [hs]; exact HBS0.out
      rw [e64]
      clear ht64 e64 hs hlt ht HL0 hl0 hra hK hn hd HC HV HS HBS0
      go_wp2
      have hz0 : b6 < wr.heap.size := Row.lt h6
      obtain ⟨wq, rfl⟩ : ∃ wq, wq = wr := ⟨_, rfl⟩
      go_loopw [9] (fun i w' => ∃ t : Nat, t ≤ 32 ∧ i = .int .i64 t ∧ Below w.heap.size w w' ∧ Row w' w.heap.size (vB (List.replicate 32 0#8)) 29 ∧ Row w' b6 (vW s.list) 142 ∧ Row w' wq.heap.size (vB (bs.take t ++ List.replicate (32 - t) 0#8)) 29)
        (fun i _ => 32 - (intOf i).toNat)
      case atStart => exact ⟨0, by omega, rfl, hb.alloc hb.size _, Row.alloc h4 _, Row.alloc h6 _, Row.new' rfl rfl⟩
      case round =>
        clear hb h4 h6
        obtain ⟨t, ht, rfl, hb, h4, h6, h8⟩ := hrel
        by_cases hlt : t < 32
        · have g6 := h6.cell (t / 4) _ (vW_get s.list (t / 4) (by show t / 4 < 8; omega))
          have g8 := h8.cell t _ (vB_get _ t (by rw [List.length_append, List.length_take, HBL.out, List.length_replicate]; omega))
          have gf := h8.thaw t
          have hx := HBS.out t hlt
          have HF : Hid _ := bytes_fill bs HBL.out t hlt
          have HX : Hid _ := hx
          generalize s.list.getD (t / 4) 0 = x at g6 HX
          generalize (bs.take t ++ List.replicate (32 - t) 0#8).getD t 0 = y at g8
          clear hx
          go_wp2
          refine ⟨⟨t + 1, by omega, by go_num, hb.setCell (by simp; omega) _, h4.set_other _ _ _ (by omega), h6.set_other _ _ _ (by omega), ?_⟩, by simp [intOf]; omega⟩
          have := h8.set t (.int .u8 (c (bs.getD t 0)))
          rw [vB_set, HF.out, HX.out] at this
          exact this
        · have e32 : t = 32 := by omega
          rw [e32] at h8
          obtain ⟨cs, hcs⟩ : ∃ cs, cs = vB bs := ⟨_, rfl⟩
          have hl : cs.length = 32 := by rw [hcs, vB_length, HBL.out]
          have h8' : Row wr wq.heap.size cs 29 := by
            rw [hcs]; rw [show bs.take 32 = bs from List.take_of_length_le (by rw [HBL.out]; omega)] at h8; simpa using h8
          have i32 : (Tryd.prog.info? 29).map (·.size) = some cs.length := by rw [hl]; kernel_rfl
          have i32' : (Tryd.prog.info? 29).map (·.size) = some cs.toArray.size := by simp only [List.size_toArray]; exact i32
          have hone := all_oneCell_toArray (show ∀ v ∈ cs, v.oneCell' = true by rw [hcs]; exact vB_one _)
          have T := h4.there 0 cs.toArray.size (by simp [hl, vB_length])
          have fin := h4.over (vs := cs) (by rw [hl]; rfl)
          have hbf := below_setCells hb (b := w.heap.size) (o := 0) (by omega) cs
          have HE : Hid (vB bs = cs) := hcs.symm
          have HL : Hid (cs.length = 32) := hl
          clear h8 e32 hcs hl ht hb
          go_wp2_with (first
            | (refine wpList_load_mid rfl 29 (.tmp 8) rfl wq.heap.size 0 rfl cs _ h8'.all Tryd.underlying29 rfl i32 ?_; simp only [Act.put, List.setIfInBounds_toArray, List.set_cons_zero, List.set_cons_succ])
            | (refine wpList_store_mid rfl 29 (.tmp 4) (.tmp 41) rfl w.heap.size 0 cs.toArray rfl rfl T i32' hone ?_; simp only [Act.put]))
          exact bodyPost_ret (results_row Tryd.results71 _ _ w.heap.size 29 cs rfl fin Tryd.underlying29 (by kernel_rfl) HL.out) rfl ⟨by rw [HE.out], hbf⟩

end Go.Proofs.YtfdgdmehgbmnkaaDoor
