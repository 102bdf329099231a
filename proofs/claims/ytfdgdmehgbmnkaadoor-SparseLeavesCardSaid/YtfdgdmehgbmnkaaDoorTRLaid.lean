/-
  The document's laid: the text with all that is behind it.
-/
import Derived.Test.YtfdgdmehgbmnkaaDoorRTaken
import Derived.Test.YtfdgdmehgbmnkaaDoorTRb
namespace Go.Proofs.YtfdgdmehgbmnkaaDoor
open Go Go.RowKit
open Sha

namespace Sha
/-- The byte with the last bits and the one behind them. -/
def markB (d : List (BitVec 8)) (n : Nat) : BitVec 8 := if n % 8 = 0 then 128#8 else (d.getD (n / 8) 0 &&& ~~~(255#8 >>> (n % 8))) ||| (128#8 >>> (n % 8))
/-- The text with its mark and z noughts. -/
def text (d : List (BitVec 8)) (n z : Nat) : List (BitVec 8) := d.take (n / 8) ++ [markB d n] ++ List.replicate z 0#8
/-- The number's bytes, the first k of eight. -/
def lenB (n k : Nat) : List (BitVec 8) := (List.range k).map (fun i => BitVec.ofNat 8 (n / 2 ^ (8 * (7 - i))))
/-- How many noughts. -/
def zs (n : Nat) : Nat := (119 - n / 8 % 64) % 64
def laidT (d : List (BitVec 8)) (n : Nat) : List (BitVec 8) := text d n (zs n) ++ lenB n 8
end Sha

theorem text_length (d : List (BitVec 8)) (n z : Nat) (h : n / 8 ≤ d.length) : (text d n z).length = n / 8 + 1 + z := by
  unfold text; simp [Nat.min_eq_left h]; omega
theorem text_succ (d : List (BitVec 8)) (n z : Nat) : text d n (z + 1) = text d n z ++ [0#8] := by
  unfold text; rw [List.replicate_succ', ← List.append_assoc]
theorem lenB_succ (n k : Nat) : lenB n (k + 1) = lenB n k ++ [BitVec.ofNat 8 (n / 2 ^ (8 * (7 - k)))] := by
  unfold lenB; rw [List.range_succ, List.map_append]; rfl
theorem laidT_length (d : List (BitVec 8)) (n : Nat) (h : n / 8 ≤ d.length) : (laidT d n).length = n / 8 + 1 + zs n + 8 := by
  unfold laidT; rw [List.length_append, text_length d n _ h]; rfl
/-- A list of the call's own that is not empty. -/
theorem owns_some {w : World} {N n : Nat} {v : Value} {xs : List Value} (h : w.ownsRow N 5 1 v n xs) (hn : 0 < n) : ∃ g cap, v = .slice (some ⟨g, 0, none⟩) n cap := by
  rcases h.2 with ⟨_, h2⟩ | ⟨g, cap, cur, hv, _⟩
  · omega
  · exact ⟨g, cap, hv⟩

theorem mark_eq (x : BitVec 8) (r : Nat) (h1 : 1 ≤ r) (h2 : r ≤ 7) : bits BinOp.or IntKind.u8 (bits BinOp.andNot IntKind.u8 (c x) ((2 * ((2 : Int) ^ (7 - r) % 256) - 1) % 256)) ((2 : Int) ^ (7 - r) % 256) = c ((x &&& ~~~(255#8 >>> r)) ||| (128#8 >>> r)) := by
  have key : ∀ m k : BitVec 8, bits BinOp.or IntKind.u8 (bits BinOp.andNot IntKind.u8 (c x) (c m)) (c k) = c ((x &&& ~~~m) ||| k) := fun m k => by
    unfold c
    rw [u8_andNot_nat _ _ x.isLt m.isLt, show 255 - m.toNat = (~~~m).toNat by rw [BitVec.toNat_not], ← BitVec.toNat_and, u8_or_nat _ _ (BitVec.isLt _) k.isLt, BitVec.toNat_or]
  have : r = 1 ∨ r = 2 ∨ r = 3 ∨ r = 4 ∨ r = 5 ∨ r = 6 ∨ r = 7 := by omega
  rcases this with rfl | rfl | rfl | rfl | rfl | rfl | rfl
  · exact key 127#8 64#8
  · exact key 63#8 32#8
  · exact key 31#8 16#8
  · exact key 15#8 8#8
  · exact key 7#8 4#8
  · exact key 3#8 2#8
  · exact key 1#8 1#8

set_option maxRecDepth 100000 in
set_option maxHeartbeats 2000000 in
theorem laid_any (d : List (BitVec 8)) (hd : d.length ≤ 140737488355000) (A : Option Addr) (cap n : Nat) (hn : n ≤ 8 * d.length) (w : World) (hv : SlAt w (.slice A d.length cap) d) :
    Calls Tryd.prog 87 #[.slice A d.length cap, .int .i64 (n : Int)] w fun e w' => ∃ v, e = .returned v ∧ w'.ownsRow w.heap.size 5 1 v (laidT d n).length (vB (laidT d n)) ∧ Below w.heap.size w w' := by
  go_enter Tryd.func87, Tryd.ntmps87
  go_wp2
  go_loopw [5, 6] (fun v i wr => ∃ t : Nat, t ≤ n / 8 ∧ i = .int .i64 t ∧ wr.ownsRow w.heap.size 5 1 v t (vB (d.take t)) ∧ Below w.heap.size w wr)
    (fun _ i _ => n / 8 - (intOf i).toNat)
  case atStart => exact ⟨0, by omega, rfl, World.ownsRow_nil _ _ _ _, Below.refl _ _⟩
  case round =>
    obtain ⟨t, ht, rfl, hown, hb⟩ := hrel
    by_cases hlt : t < n / 8
    · rcases hv with ⟨h0, _⟩ | ⟨ab, ao, c', hiv, hcap, hir⟩
      · exfalso; rw [h0] at hn; simp at hn; omega
      simp only [Value.slice.injEq] at hiv
      obtain ⟨rfl, _, rfl⟩ := hiv
      have gz : wr.cell? ⟨ab, ao + t, none⟩ = some (.int .u8 (c (d.getD t 0))) := range_below hir hb (Nat.le_refl _) t _ (vB_get d t (by omega))
      have HT : Hid (d.take (t + 1) = d.take t ++ [d.getD t 0]) := by show _ = _; rw [List.take_succ_eq_append_getElem (by omega)]; simp [show t < d.length by omega]
      generalize d.getD t 0 = x at gz HT
      clear hir
      go_wp2_with (refine wpList_append_vB rfl (.tmp 16) (.tmp 21) rfl wr w w.heap.size w.heap.size _ t 1 (d.take t) [x] hown rfl rfl rfl (by omega) hb.size (Nat.le_refl _) hb ?_; intro vp w7 hown7 hW7 hk7; clear hk7; simp only [Act.put, List.setIfInBounds_toArray, List.set_cons_zero, List.set_cons_succ])
      rw [← HT.out] at hown7
      exact ⟨⟨t + 1, by omega, by go_num, hown7, hW7⟩, by simp [intOf]; omega⟩
    · have e8 : (t : Int) = (n : Int) / 8 := by omega
      have et : t = n / 8 := by omega
      rw [et] at hown
      rw [e8]
      clear e8 et ht hlt
      by_cases h8 : n % 8 = 0
      · have e0 : (n : Int) % 8 = 0 := by omega
        have HM : Hid (markB d n = 128#8) := by show _ = _; unfold markB; rw [if_pos h8]
        have HN : Hid (n % 8 = 0) := h8
        clear h8 hv
        go_wp2_with (refine wpList_append_vB rfl (.tmp 26) (.tmp 27) rfl wr w w.heap.size w.heap.size _ (n / 8) 1 (d.take (n / 8)) [128#8] hown rfl rfl rfl (by omega) hb.size (Nat.le_refl _) hb ?_; intro vp w7 hown7 hW7 hk7; clear hk7; simp only [Act.put, List.setIfInBounds_toArray, List.set_cons_zero, List.set_cons_succ])
        rw [← HM.out] at hown7
        have hown8 : w7.ownsRow w.heap.size 5 1 vp (n / 8 + 1 + 0) (vB (text d n 0)) := by unfold text; simpa using hown7
        clear hown7 hown hb
        go_loopw [5] (fun v wr => ∃ z : Nat, z ≤ zs n ∧ wr.ownsRow w.heap.size 5 1 v (n / 8 + 1 + z) (vB (text d n z)) ∧ Below w.heap.size w wr)
          (fun v _ => 1000000000000000 - (match v with | .slice _ l _ => l | _ => 0))
        case atStart => exact ⟨0, by omega, hown8, hW7⟩
        case round =>
          clear hown8 hW7
          obtain ⟨z, hz, hown, hb⟩ := hrel
          obtain ⟨g, cp, rfl⟩ := owns_some hown (by omega)
          have hz64 : zs n < 64 := by unfold zs; omega
          by_cases hlt : z < zs n
          · have hm : ((n / 8 + 1 + z : Nat) : Int) % 64 ≠ 56 := by unfold zs at hlt; omega
            have HT := text_succ d n z
            have HT' : Hid _ := HT
            clear HT
            go_wp2_with (refine wpList_append_vB rfl (.tmp 53) (.tmp 54) rfl wr w w.heap.size w.heap.size _ (n / 8 + 1 + z) 1 (text d n z) [0#8] hown rfl rfl rfl (by omega) hb.size (Nat.le_refl _) hb ?_; intro vq w8 hown8 hW8 hk8; clear hk8; simp only [Act.put, List.setIfInBounds_toArray, List.set_cons_zero, List.set_cons_succ])
            rw [← HT'.out] at hown8
            obtain ⟨g8, c8, rfl⟩ := owns_some hown8 (by omega)
            exact ⟨⟨z + 1, hlt, hown8, hW8⟩, by show 1000000000000000 - (n / 8 + 1 + z + 1) < 1000000000000000 - (n / 8 + 1 + z); omega⟩
          · obtain rfl : z = zs n := by omega
            have hm : ((n / 8 + 1 + zs n : Nat) : Int) % 64 = 56 := by unfold zs; omega
            go_wp2
            go_loopw [5, 9] (fun v i wr => ∃ k : Nat, k ≤ 8 ∧ i = .int .i64 (7 - (k : Int)) ∧ wr.ownsRow w.heap.size 5 1 v (n / 8 + 1 + zs n + k) (vB (text d n (zs n) ++ lenB n k)) ∧ Below w.heap.size w wr)
              (fun _ i _ => (intOf i + 1).toNat)
            case atStart => exact ⟨0, by omega, rfl, by simpa [lenB] using hown, hb⟩
            case round =>
              clear hown hb
              obtain ⟨k, hk, rfl, hown, hb⟩ := hrel
              by_cases hlt8 : k < 8
              · go_wp2_with (refine wpList_append_vB rfl (.tmp 60) (.tmp 68) rfl wr w w.heap.size w.heap.size _ (n / 8 + 1 + zs n + k) 1 (text d n (zs n) ++ lenB n k) [BitVec.ofNat 8 (n / 2 ^ (8 * (7 - k)))] hown rfl rfl rfl (by omega) hb.size (Nat.le_refl _) hb ?_; intro vq w8 hown8 hW8 hk8; clear hk8; simp only [Act.put, List.setIfInBounds_toArray, List.set_cons_zero, List.set_cons_succ])
                refine ⟨⟨k + 1, by omega, by rw [show (7 : Int) - ((k + 1 : Nat) : Int) = 7 - k - 1 by omega], ?_, hW8⟩, by simp [intOf]; omega⟩
                rw [lenB_succ, ← List.append_assoc]; exact hown8
              · obtain rfl : k = 8 := by omega
                have hl := laidT_length d n (by omega)
                have HL : Hid _ := hl
                clear hl
                go_wp2
                go_ret
                exact ⟨_, rfl, by rw [HL.out]; exact hown, hb⟩
      · have e0 : 1 ≤ (n : Int) % 8 ∧ (n : Int) % 8 ≤ 7 := by omega
        rcases hv with ⟨h0, _⟩ | ⟨ab, ao, c', hiv, hcap, hir⟩
        · exfalso; rw [h0] at hn; simp at hn; omega
        simp only [Value.slice.injEq] at hiv
        obtain ⟨rfl, _, rfl⟩ := hiv
        have gz : wr.cell? ⟨ab, ao + n / 8, none⟩ = some (.int .u8 (c (d.getD (n / 8) 0))) := range_below hir hb (Nat.le_refl _) (n / 8) _ (vB_get d (n / 8) (by omega))
        have HM : Hid (markB d n = (d.getD (n / 8) 0 &&& ~~~(255#8 >>> (n % 8))) ||| (128#8 >>> (n % 8))) := by show _ = _; unfold markB; rw [if_neg h8]
        generalize d.getD (n / 8) 0 = x at gz HM
        have me := mark_eq x (n % 8) (by omega) (by omega)
        rw [← HM.out] at me
        obtain ⟨y, hy⟩ : ∃ y, y = markB d n := ⟨_, rfl⟩
        have HYM : Hid (y = markB d n) := hy
        rw [← hy] at me
        clear hy
        have ME : Hid _ := me
        clear hir me
        go_wp2_with (rw [ME.out]; refine wpList_append_vB rfl (.tmp 43) (.tmp 47) rfl wr w w.heap.size w.heap.size _ (n / 8) 1 (d.take (n / 8)) [y] hown rfl rfl rfl (by omega) hb.size (Nat.le_refl _) hb ?_; intro vp w7 hown7 hW7 hk7; clear hk7; simp only [Act.put, List.setIfInBounds_toArray, List.set_cons_zero, List.set_cons_succ])
        rw [HYM.out] at hown7
        have hown8 : w7.ownsRow w.heap.size 5 1 vp (n / 8 + 1 + 0) (vB (text d n 0)) := by unfold text; simpa using hown7
        clear hown7 hown hb
        go_loopw [5] (fun v wr => ∃ z : Nat, z ≤ zs n ∧ wr.ownsRow w.heap.size 5 1 v (n / 8 + 1 + z) (vB (text d n z)) ∧ Below w.heap.size w wr)
          (fun v _ => 1000000000000000 - (match v with | .slice _ l _ => l | _ => 0))
        case atStart => exact ⟨0, by omega, hown8, hW7⟩
        case round =>
          clear hown8 hW7
          obtain ⟨z, hz, hown, hb⟩ := hrel
          obtain ⟨g, cp, rfl⟩ := owns_some hown (by omega)
          have hz64 : zs n < 64 := by unfold zs; omega
          by_cases hlt : z < zs n
          · have hm : ((n / 8 + 1 + z : Nat) : Int) % 64 ≠ 56 := by unfold zs at hlt; omega
            have HT := text_succ d n z
            have HT' : Hid _ := HT
            clear HT
            go_wp2_with (refine wpList_append_vB rfl (.tmp 53) (.tmp 54) rfl wr w w.heap.size w.heap.size _ (n / 8 + 1 + z) 1 (text d n z) [0#8] hown rfl rfl rfl (by omega) hb.size (Nat.le_refl _) hb ?_; intro vq w8 hown8 hW8 hk8; clear hk8; simp only [Act.put, List.setIfInBounds_toArray, List.set_cons_zero, List.set_cons_succ])
            rw [← HT'.out] at hown8
            obtain ⟨g8, c8, rfl⟩ := owns_some hown8 (by omega)
            exact ⟨⟨z + 1, hlt, hown8, hW8⟩, by show 1000000000000000 - (n / 8 + 1 + z + 1) < 1000000000000000 - (n / 8 + 1 + z); omega⟩
          · obtain rfl : z = zs n := by omega
            have hm : ((n / 8 + 1 + zs n : Nat) : Int) % 64 = 56 := by unfold zs; omega
            go_wp2
            go_loopw [5, 9] (fun v i wr => ∃ k : Nat, k ≤ 8 ∧ i = .int .i64 (7 - (k : Int)) ∧ wr.ownsRow w.heap.size 5 1 v (n / 8 + 1 + zs n + k) (vB (text d n (zs n) ++ lenB n k)) ∧ Below w.heap.size w wr)
              (fun _ i _ => (intOf i + 1).toNat)
            case atStart => exact ⟨0, by omega, rfl, by simpa [lenB] using hown, hb⟩
            case round =>
              clear hown hb
              obtain ⟨k, hk, rfl, hown, hb⟩ := hrel
              by_cases hlt8 : k < 8
              · go_wp2_with (refine wpList_append_vB rfl (.tmp 60) (.tmp 68) rfl wr w w.heap.size w.heap.size _ (n / 8 + 1 + zs n + k) 1 (text d n (zs n) ++ lenB n k) [BitVec.ofNat 8 (n / 2 ^ (8 * (7 - k)))] hown rfl rfl rfl (by omega) hb.size (Nat.le_refl _) hb ?_; intro vq w8 hown8 hW8 hk8; clear hk8; simp only [Act.put, List.setIfInBounds_toArray, List.set_cons_zero, List.set_cons_succ])
                refine ⟨⟨k + 1, by omega, by rw [show (7 : Int) - ((k + 1 : Nat) : Int) = 7 - k - 1 by omega], ?_, hW8⟩, by simp [intOf]; omega⟩
                rw [lenB_succ, ← List.append_assoc]; exact hown8
              · obtain rfl : k = 8 := by omega
                have hl := laidT_length d n (by omega)
                have HL : Hid _ := hl
                clear hl
                go_wp2
                go_ret
                exact ⟨_, rfl, by rw [HL.out]; exact hown, hb⟩

end Go.Proofs.YtfdgdmehgbmnkaaDoor
