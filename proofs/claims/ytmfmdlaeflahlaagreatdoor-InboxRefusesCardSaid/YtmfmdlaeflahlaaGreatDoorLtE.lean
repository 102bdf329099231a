/-
  a writer that was made behind a world; the closures that lay; table.write.
-/
import Derived.Test.YtmfmdlaeflahlaaGreatDoorLtD
import Derived.Test.YtmfmdlaeflahlaaGreatDoorXRe
import Derived.Test.YtmfmdlaeflahlaaGreatDoorXStp
namespace Go.Proofs.YtmfmdlaeflahlaaGreatDoor
open Go Go.RowKit
open Sha

/-- A writer without a fault, made behind w0. -/
def Wm (w0 w : World) (P : Nat) (bs : List (BitVec 8)) : Prop := ∃ A cap, Wr w P A cap bs 0 ∧ Fresh w0.heap.size (.slice A bs.length cap) ∧ w0.heap.size ≤ P ∧ Below w0.heap.size w0 w
theorem Wm.below {w0 w : World} {P : Nat} {bs : List (BitVec 8)} (h : Wm w0 w P bs) : Below w0.heap.size w0 w := by
  obtain ⟨_, _, _, _, _, h⟩ := h
  exact h
theorem Wm.on {w0 w w' : World} {P : Nat} {A A' : Option Addr} {cap cap' : Nat} {bs cs : List (BitVec 8)} (h : Fresh w0.heap.size (.slice A bs.length cap)) (hP : w0.heap.size ≤ P) (hB : Below w0.heap.size w0 w)
    (hw : Wr w' P A' cap' cs 0) (hf : Frm (.slice A bs.length cap) w.heap.size (.slice A' cs.length cap')) (hG : Gro (fun g => g = P ∨ (Value.slice A bs.length cap).ownBlock = some g) w w') : Wm w0 w' P cs :=
  ⟨A', cap', hw, fun g e => by
    rcases hf g e with q | q
    · exact h g q
    · exact Nat.le_trans hB.size q, hP, hB.trans (hG.to_below hB.size (fun k q => by
    rcases q with q | q
    · rw [q]; exact hP
    · exact h k q))⟩
theorem Wm.lays {w0 w w' : World} {P : Nat} {A : Option Addr} {cap : Nat} {bs d cs : List (BitVec 8)} (h : Fresh w0.heap.size (.slice A bs.length cap)) (hP : w0.heap.size ≤ P) (hB : Below w0.heap.size w0 w)
    (hb : Beh w w' P A cap bs 0 d) (e1 : wrB bs 0 d = cs) (e2 : wrF bs 0 d = 0) : Wm w0 w' P cs := by
  obtain ⟨⟨A', cap', hw, hf⟩, hG⟩ := hb
  rw [e1, e2] at hw
  rw [e1] at hf
  exact Wm.on h hP hB hw hf hG

set_option maxRecDepth 100000 in
theorem lay_t (h : Nat) (w0 : World) (P b : Nat) (w : World) (hm : Wm w0 w P [2#8, 0#8, 0#8, 0#8, 0#8, 0#8, 0#8, 0#8, 0#8, 0#8, 0#8, 0#8, 0#8, 0#8, 0#8, 0#8, 0#8, 0#8, 0#8, 0#8, 0#8]) (hb : Row w b (en 2 258 (.slice (some ⟨h, 0, none⟩) 1 1)) tEnt) : Calls Tryz.prog 77 #[.pointer (some ⟨P, 0, none⟩), .pointer (some ⟨b, 0, none⟩)] w fun e w' => e = .returned (.tuple #[]) ∧ Wm w0 w' P [2#8, 0#8, 0#8, 0#8, 0#8, 0#8, 0#8, 0#8, 0#8, 0#8, 0#8, 0#8, 0#8, 0#8, 0#8, 0#8, 0#8, 0#8, 0#8, 0#8, 0#8, 2#8, 1#8, 2#8] := by
  have g := hb.cell 21 _ rfl
  obtain ⟨A, cap, hw, hf, hP, hB⟩ := hm
  have HN : Hid _ := number_any P A cap [2#8, 0#8, 0#8, 0#8, 0#8, 0#8, 0#8, 0#8, 0#8, 0#8, 0#8, 0#8, 0#8, 0#8, 0#8, 0#8, 0#8, 0#8, 0#8, 0#8, 0#8] 0 258 (by decide) (by decide) w _ rfl hw
  have HF : Hid (Fresh w0.heap.size (.slice A ([2#8, 0#8, 0#8, 0#8, 0#8, 0#8, 0#8, 0#8, 0#8, 0#8, 0#8, 0#8, 0#8, 0#8, 0#8, 0#8, 0#8, 0#8, 0#8, 0#8, 0#8]).length cap)) := hf
  have HB : Hid (Below w0.heap.size w0 w) := hB
  clear hb hw hf hB
  go_enter Tryz.func77, Tryz.ntmps77
  go_wp2_with (go_at_call 78; refine Calls.mono HN.out ?_; rintro e W ⟨rfl, ⟨A', cap', hw, hff⟩, hG⟩)
  go_end0
  have e1 : nuB [2#8, 0#8, 0#8, 0#8, 0#8, 0#8, 0#8, 0#8, 0#8, 0#8, 0#8, 0#8, 0#8, 0#8, 0#8, 0#8, 0#8, 0#8, 0#8, 0#8, 0#8] 0 258 = [2#8, 0#8, 0#8, 0#8, 0#8, 0#8, 0#8, 0#8, 0#8, 0#8, 0#8, 0#8, 0#8, 0#8, 0#8, 0#8, 0#8, 0#8, 0#8, 0#8, 0#8, 2#8, 1#8, 2#8] := by decide +kernel
  have e2 : nuF [2#8, 0#8, 0#8, 0#8, 0#8, 0#8, 0#8, 0#8, 0#8, 0#8, 0#8, 0#8, 0#8, 0#8, 0#8, 0#8, 0#8, 0#8, 0#8, 0#8, 0#8] 0 258 = 0 := by decide +kernel
  rw [e1, e2] at hw
  rw [e1] at hff
  exact ⟨rfl, Wm.on HF.out hP HB.out hw hff hG⟩

set_option maxRecDepth 100000 in
theorem lay_a (h : Nat) (w0 : World) (P b : Nat) (w : World) (hm : Wm w0 w P [2#8]) (hb : Row w b (en 2 258 (.slice (some ⟨h, 0, none⟩) 1 1)) tEnt) : Calls Tryz.prog 70 #[.pointer (some ⟨P, 0, none⟩), .pointer (some ⟨b, 0, none⟩)] w fun e w' => e = .returned (.tuple #[]) ∧ Wm w0 w' P [2#8, 0#8, 0#8, 0#8, 0#8, 0#8, 0#8, 0#8, 0#8, 0#8, 0#8, 0#8, 0#8, 0#8, 0#8, 0#8, 0#8, 0#8, 0#8, 0#8, 0#8] := by
  have R : Hid (w.rangeAt b 1 (vB (List.replicate 20 0#8))) := range_sub hb 1 20 rfl
  obtain ⟨A, cap, hw, hf, hP, hB⟩ := hm
  have HN : Hid _ := address_lays P A cap [2#8] 0 (by decide) (List.replicate 20 0#8) rfl w hw
  have HF : Hid (Fresh w0.heap.size (.slice A ([2#8] : List (BitVec 8)).length cap)) := hf
  have HB : Hid (Below w0.heap.size w0 w) := hB
  clear hb hw hf hB
  go_enter Tryz.func70, Tryz.ntmps70
  go_wp2_with (first
    | (refine wpList_load_w rfl 40 (.tmp 7) rfl b 1 rfl (vB (List.replicate 20 0#8)) _ R.out Tryz.underlying40 rfl info_20 ?_; simp only [Act.put, List.setIfInBounds_toArray, List.set_cons_zero, List.set_cons_succ])
    | (go_at_call 71; refine Calls.mono HN.out ?_; rintro e W ⟨rfl, hq⟩))
  go_end0
  exact ⟨rfl, Wm.lays HF.out hP HB.out hq (by decide +kernel) (by decide +kernel)⟩
set_option maxRecDepth 100000 in
theorem lay_b (h : Nat) (w0 : World) (P b : Nat) (w : World) (hm : Wm w0 w P [2#8, 0#8, 0#8, 0#8, 0#8, 0#8, 0#8, 0#8, 0#8, 0#8, 0#8, 0#8, 0#8, 0#8, 0#8, 0#8, 0#8, 0#8, 0#8, 0#8, 0#8, 2#8, 1#8, 2#8]) (hb : Row w b (en 2 258 (.slice (some ⟨h, 0, none⟩) 1 1)) tEnt) (h9 : Row w h (vB [9#8]) 5) (hh : h < w0.heap.size) : Calls Tryz.prog 101 #[.pointer (some ⟨P, 0, none⟩), .pointer (some ⟨b, 0, none⟩)] w fun e w' => e = .returned (.tuple #[]) ∧ Wm w0 w' P [2#8, 0#8, 0#8, 0#8, 0#8, 0#8, 0#8, 0#8, 0#8, 0#8, 0#8, 0#8, 0#8, 0#8, 0#8, 0#8, 0#8, 0#8, 0#8, 0#8, 0#8, 2#8, 1#8, 2#8, 1#8, 1#8, 9#8] := by
  have g := hb.cell 48 _ rfl
  obtain ⟨A, cap, hw, hf, hP, hB⟩ := hm
  have HN : Hid _ := bytes_lays P A cap [2#8, 0#8, 0#8, 0#8, 0#8, 0#8, 0#8, 0#8, 0#8, 0#8, 0#8, 0#8, 0#8, 0#8, 0#8, 0#8, 0#8, 0#8, 0#8, 0#8, 0#8, 2#8, 1#8, 2#8] 0 (by decide) [9#8] 1 rfl (by decide) (some ⟨h, 0, none⟩) 1 (fun hn => nomatch hn) 1 (by decide +kernel) w hw (fun W hG => by
    have hn : ¬ Rw P A cap [2#8, 0#8, 0#8, 0#8, 0#8, 0#8, 0#8, 0#8, 0#8, 0#8, 0#8, 0#8, 0#8, 0#8, 0#8, 0#8, 0#8, 0#8, 0#8, 0#8, 0#8, 2#8, 1#8, 2#8] h := by
      rintro (q | q)
      · omega
      · exact absurd (hf h q) (by omega)
    exact sl_row (hG.row h9 hn)) (by decide)
  have HF : Hid (Fresh w0.heap.size (.slice A ([2#8, 0#8, 0#8, 0#8, 0#8, 0#8, 0#8, 0#8, 0#8, 0#8, 0#8, 0#8, 0#8, 0#8, 0#8, 0#8, 0#8, 0#8, 0#8, 0#8, 0#8, 2#8, 1#8, 2#8] : List (BitVec 8)).length cap)) := hf
  have HB : Hid (Below w0.heap.size w0 w) := hB
  clear hb hw hf hB h9
  go_enter Tryz.func101, Tryz.ntmps101
  go_wp2_with (go_at_call 102; refine Calls.mono HN.out ?_; rintro e W ⟨rfl, hq⟩)
  go_end0
  exact ⟨rfl, Wm.lays HF.out hP HB.out hq (by decide +kernel) (by decide +kernel)⟩

set_option maxRecDepth 100000 in
set_option maxHeartbeats 1000000 in
theorem write_E (h : Nat) (T U b : Nat) (w : World) (hT : Row w T etab 134) (hU : Row w U [.int .i64 0, .int .i64 1, .int .i64 6] 3) (hb : Row w b (en 2 258 (.slice (some ⟨h, 0, none⟩) 1 1)) tEnt) (h9 : Row w h (vB [9#8]) 5) :
    Calls Tryz.prog 58 #[.slice (some ⟨T, 0, none⟩) 7 7, .int .i64 2, .pointer (some ⟨b, 0, none⟩), .slice (some ⟨U, 0, none⟩) 3 3] w fun e w' => ∃ A' c', e = .returned (.slice A' 27 c') ∧ Bw w' (.slice A' 27 c') [2#8, 0#8, 0#8, 0#8, 0#8, 0#8, 0#8, 0#8, 0#8, 0#8, 0#8, 0#8, 0#8, 0#8, 0#8, 0#8, 0#8, 0#8, 0#8, 0#8, 0#8, 2#8, 1#8, 2#8, 1#8, 1#8, 9#8] ∧ Fresh w.heap.size (.slice A' 27 c') ∧ Below w.heap.size w w' := by
  have HT : Hid (Row w T etab 134) := hT
  have HU : Hid (Row w U [.int .i64 0, .int .i64 1, .int .i64 6] 3) := hU
  have HL : Hid (Row w b (en 2 258 (.slice (some ⟨h, 0, none⟩) 1 1)) tEnt) := hb
  clear hT hU hb
  go_enter Tryz.func58, Tryz.ntmps58
  go_wp2_with fail
  refine Calls.mono (newWriter_any _) ?_
  rintro e W1 ⟨rfl, hw1, hB1⟩
  have HW1 : Hid (Wr W1 w.heap.size none 0 [] 0) := hw1
  have HB1 : Hid (Below w.heap.size w W1) := hB1
  clear hw1 hB1
  go_wp2_with fail
  refine Calls.mono (byte_any w.heap.size none 0 [] 0 (by decide) 2#8 2 (by decide +kernel) W1 HW1.out) ?_
  rintro e W2 ⟨rfl, hq⟩
  have M0 : Hid (Wm w W2 w.heap.size [2#8]) := Wm.lays (fun g e => by first | cases e | simp [Value.ownBlock] at e) (Nat.le_refl _) HB1.out hq (by decide +kernel) (by decide +kernel)
  clear hq
  go_wp2_with fail
  refine wp_loop_rounds 4 ?_
  rw [rounds_succ]
  have gu := (Row.below HU.out M0.out.below HU.out.lt).cell 0 _ rfl
  have gt := (Row.below HT.out M0.out.below HT.out.lt).cell 2 _ rfl
  go_wp2_with fail
  refine Calls.mono (lay_a h w w.heap.size b W2 M0.out (Row.below HL.out M0.out.below HL.out.lt)) ?_
  rintro e W3 ⟨rfl, hq⟩
  have M1 : Hid (Wm w W3 w.heap.size [2#8, 0#8, 0#8, 0#8, 0#8, 0#8, 0#8, 0#8, 0#8, 0#8, 0#8, 0#8, 0#8, 0#8, 0#8, 0#8, 0#8, 0#8, 0#8, 0#8, 0#8]) := hq
  clear hq gu gt
  go_wp2_with fail
  rw [rounds_succ]
  have gu := (Row.below HU.out M1.out.below HU.out.lt).cell 1 _ rfl
  have gt := (Row.below HT.out M1.out.below HT.out.lt).cell 6 _ rfl
  go_wp2_with fail
  refine Calls.mono (lay_t h w w.heap.size b W3 M1.out (Row.below HL.out M1.out.below HL.out.lt)) ?_
  rintro e W4 ⟨rfl, hq⟩
  have M2 : Hid (Wm w W4 w.heap.size [2#8, 0#8, 0#8, 0#8, 0#8, 0#8, 0#8, 0#8, 0#8, 0#8, 0#8, 0#8, 0#8, 0#8, 0#8, 0#8, 0#8, 0#8, 0#8, 0#8, 0#8, 2#8, 1#8, 2#8]) := hq
  clear hq gu gt
  go_wp2_with fail
  rw [rounds_succ]
  have gu := (Row.below HU.out M2.out.below HU.out.lt).cell 2 _ rfl
  have gt := (Row.below HT.out M2.out.below HT.out.lt).cell 26 _ rfl
  go_wp2_with fail
  refine Calls.mono (lay_b h w w.heap.size b W4 M2.out (Row.below HL.out M2.out.below HL.out.lt) (Row.below h9 M2.out.below h9.lt) h9.lt) ?_
  rintro e W5 ⟨rfl, hq⟩
  have M3 : Hid (Wm w W5 w.heap.size [2#8, 0#8, 0#8, 0#8, 0#8, 0#8, 0#8, 0#8, 0#8, 0#8, 0#8, 0#8, 0#8, 0#8, 0#8, 0#8, 0#8, 0#8, 0#8, 0#8, 0#8, 2#8, 1#8, 2#8, 1#8, 1#8, 9#8]) := hq
  clear hq gu gt
  go_wp2_with fail
  rw [rounds_succ]
  go_wp2_with fail
  obtain ⟨A, cap, hw, hf, hP, hB⟩ := M3.out
  refine Calls.mono (done_ok w.heap.size A cap [2#8, 0#8, 0#8, 0#8, 0#8, 0#8, 0#8, 0#8, 0#8, 0#8, 0#8, 0#8, 0#8, 0#8, 0#8, 0#8, 0#8, 0#8, 0#8, 0#8, 0#8, 2#8, 1#8, 2#8, 1#8, 1#8, 9#8] (by decide) W5 hw) ?_
  rintro e W9 ⟨A', c', rfl, hbw, hfr, hbe⟩
  have HQ : Hid (Bw W9 (.slice A' 27 c') [2#8, 0#8, 0#8, 0#8, 0#8, 0#8, 0#8, 0#8, 0#8, 0#8, 0#8, 0#8, 0#8, 0#8, 0#8, 0#8, 0#8, 0#8, 0#8, 0#8, 0#8, 2#8, 1#8, 2#8, 1#8, 1#8, 9#8] ∧ Fresh w.heap.size (.slice A' 27 c') ∧ Below w.heap.size w W9) := ⟨hbw, fun g e => Nat.le_trans hB.size (hfr g e), hB.trans (hbe.mono hB.size)⟩
  clear hbw hfr hbe hw hf hB
  go_wp2_with fail
  go_ret
  exact ⟨A', c', rfl, HQ.out⟩

end Go.Proofs.YtmfmdlaeflahlaaGreatDoor
