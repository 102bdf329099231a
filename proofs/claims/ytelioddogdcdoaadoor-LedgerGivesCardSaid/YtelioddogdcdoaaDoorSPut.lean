/-
  Tables: Apply of one change, Put of a first value, Find.
-/
import Derived.Test.YtelioddogdcdoaaDoorSTab
import Derived.LoopN
namespace Go.Proofs.YtelioddogdcdoaaDoor
open Go Go.RowKit Go.Maps
open Sha

set_option maxRecDepth 100000 in
set_option maxHeartbeats 2000000 in
theorem apply_new (T B : Nat) (s : ByteArray) (hs : isK s.size = true) (A : Option Addr) (n cap : Nat) (d : List (BitVec 8)) (hd : d.length = n) (h0 : 0 < n) (hn : n ≤ 4096) (w : World) (h : Row w T [.map none, .pointer none] tT) (hb : Row w B [.string s, .slice none 0 0, .slice A n cap] 89) (hv : SlAt w (.slice A n cap) d) (hnil : A = none → n = 0 ∧ cap = 0) :
    Calls Tryd.prog 38 #[.pointer (some ⟨T, 0, none⟩), .slice (some ⟨B, 0, none⟩) 1 1] w fun e w' => e = .returned (.int .i64 0) ∧ ∃ b A' c', Tb w' T b 1 ((DataW.map []).put (kl s) (.held (.slice A' n c'))) ∧ Bw w' (.slice A' n c') d ∧ Gt T w w' ∧ w.heap.size ≤ b := by
  have c0 := hb.cell 0 _ rfl
  have c1 := hb.cell 1 _ rfl
  have c2 := hb.cell 2 _ rfl
  have hb1 := hb.alloc (Obj.cells #[.string s, .slice none 0 0, .slice A n cap] 89)
  have c0a := hb1.cell 0 _ rfl
  have c1a := hb1.cell 1 _ rfl
  have c2a := hb1.cell 2 _ rfl
  have hm := may_ok (n := n) hs (by omega)
  have HC : Hid (∀ w, Calls Tryd.prog 50 #[.string s, .slice A n cap] w fun e w' => e = .returned (.int .i64 0) ∧ w' = w) := fun w => by have := check_any s A n cap w; rw [hm] at this; exact this
  obtain ⟨W2, hW2⟩ : ∃ W2, W2 = (w.alloc (Obj.cells #[.string s, .slice none 0 0, .slice A n cap] 89)).alloc (Obj.cells #[.string s, .slice none 0 0, .slice A n cap] 89) := ⟨_, rfl⟩
  have hB2 : Below w.heap.size w W2 := by
    rw [hW2]
    have b1 := (Below.refl w.heap.size w).alloc (Nat.le_refl _) (Obj.cells #[.string s, .slice none 0 0, .slice A n cap] 89)
    exact b1.alloc b1.size _
  have HL : Hid _ := lay_new T s (isK_le hs).2 A n cap d hd h0 hn W2 (Row.below h hB2 h.lt) (hv.be hB2) hnil
  have HB2 : Hid (Below w.heap.size w W2) := hB2
  clear h hb hb1 hv hnil hs hd h0 hn hm hB2
  go_enter Tryd.func38, Tryd.ntmps38
  go_wp2_with fail
  refine wp_loop_rounds 2 ?_
  rw [rounds_succ]
  go_wp2_with (go_at_call 50; refine Calls.mono (HC.out _) ?_; rintro e W ⟨rfl, rfl⟩)
  rw [rounds_succ]
  go_wp2_with fail
  refine wp_loop_rounds 2 ?_
  rw [rounds_succ]
  go_wp2_with fail
  rw [← hW2]
  refine Calls.mono HL.out ?_
  rintro e W ⟨rfl, b, A', c', hT, hB, hG, hb⟩
  have HT : Hid (Tb _ _ _ _ _) := hT
  have HB : Hid (Bw _ _ _) := hB
  have HG : Hid (Gt T W2 W) := hG
  have HLE : Hid (W2.heap.size ≤ b) := hb
  clear hT hB hG hb HL hW2 HC
  go_wp2_with fail
  rw [rounds_succ]
  go_wp2_with fail
  go_ret
  exact ⟨rfl, b, A', c', HT.out, HB.out, (Gro.of_below HB2.out).then HG.out (fun g e => .inl e), Nat.le_trans HB2.out.size HLE.out⟩

set_option maxRecDepth 100000 in
theorem tput_new (T : Nat) (s : ByteArray) (hs : isK s.size = true) (A : Option Addr) (n cap : Nat) (d : List (BitVec 8)) (hd : d.length = n) (h0 : 0 < n) (hn : n ≤ 4096) (w : World) (h : Row w T [.map none, .pointer none] tT) (hv : SlAt w (.slice A n cap) d) (hnil : A = none → n = 0 ∧ cap = 0) :
    Calls Tryd.prog 18 #[.pointer (some ⟨T, 0, none⟩), .string s, .slice A n cap] w fun e w' => e = .returned (.int .i64 0) ∧ ∃ b A' c', Tb w' T b 1 ((DataW.map []).put (kl s) (.held (.slice A' n c'))) ∧ Bw w' (.slice A' n c') d ∧ Gt T w w' ∧ w.heap.size ≤ b := by
  have hB2 : Below w.heap.size w (w.alloc (Obj.cells #[.string s, .slice none 0 0, .slice A n cap] 89)) := (Below.refl w.heap.size w).alloc (Nat.le_refl _) _
  have HL : Hid _ := apply_new T w.heap.size s hs A n cap d hd h0 hn _ (Row.below h hB2 h.lt) (Row.new' rfl rfl) (hv.be hB2) hnil
  have HB2 : Hid (Below w.heap.size w _) := hB2
  clear h hv hnil hs hd h0 hn hB2
  go_enter Tryd.func18, Tryd.ntmps18
  go_wp2_with fail
  refine Calls.mono HL.out ?_
  rintro e W ⟨rfl, b, A', c', hT, hB, hG, hb⟩
  have HT : Hid (Tb _ _ _ _ _) := hT
  have HB : Hid (Bw _ _ _) := hB
  have HG : Hid (Gt T _ W) := hG
  have HLE : Hid (_ ≤ b) := hb
  clear hT hB hG hb HL
  go_wp2_with fail
  go_ret
  exact ⟨rfl, b, A', c', HT.out, HB.out, (Gro.of_below HB2.out).then HG.out (fun g e => .inl e), Nat.le_trans HB2.out.size HLE.out⟩

set_option maxRecDepth 100000 in
theorem bclone_nil (w : World) : Calls Tryd.prog 54 #[.slice none 0 0] w fun e w' => e = .returned (.slice none 0 0) ∧ w' = w := by
  have hq := slnil_eq
  go_enter Tryd.func54, Tryd.ntmps54
  go_wp2
  go_ret
  exact ⟨rfl, rfl⟩

set_option maxRecDepth 100000 in
theorem find_none (T : Nat) (s : ByteArray) (hs : isK s.size = true) (w : World) (h : Row w T [.map none, .pointer none] tT) :
    Calls Tryd.prog 103 #[.pointer (some ⟨T, 0, none⟩), .string s] w fun e w' => e = .returned (.tuple #[.slice none 0 0, .int .i64 0]) ∧ w' = w := by
  have g0 := h.cell 0 _ rfl
  have hk := isKey_any s w
  rw [hs] at hk
  have HK : Hid _ := hk
  have hl := look_none (w := w) 83 52 Tryd.underlying83 (.slice none 0 0) (Tryd.zeroValue52 w) s (isK_le hs).2
  have HB : Hid _ := bclone_nil w
  clear h hk hs
  go_enter Tryd.func103, Tryd.ntmps103
  go_wp2_with (first
    | (go_at_call 52; refine Calls.mono HK.out ?_; rintro e W ⟨rfl, rfl⟩)
    | (go_at_call 54; refine Calls.mono HB.out ?_; rintro e W ⟨rfl, rfl⟩))
  go_ret2
  exact ⟨rfl, rfl⟩

set_option maxRecDepth 100000 in
set_option maxHeartbeats 1000000 in
theorem find_some (T b k : Nat) (D : DataW Value) (s : ByteArray) (hs : isK s.size = true) (A : Option Addr) (n cap : Nat) (d : List (BitVec 8)) (hd : d.length = n) (hn : n ≤ 140737488355328) (w : World) (h : Tb w T b k D) (hD : D.atKey (kl s) (.held (.slice none 0 0)) = .held (.slice A n cap)) (hv : SlAt w (.slice A n cap) d) (hnil : A = none → n = 0 ∧ cap = 0) :
    Calls Tryd.prog 103 #[.pointer (some ⟨T, 0, none⟩), .string s] w fun e w' => ∃ A' c', e = .returned (.tuple #[.slice A' n c', .int .i64 0]) ∧ Bw w' (.slice A' n c') d ∧ Fresh w.heap.size (.slice A' n c') ∧ Below w.heap.size w w' := by
  have g0 := h.row.cell 0 _ rfl
  have hk := isKey_any s w
  rw [hs] at hk
  have HK : Hid _ := hk
  have hl := Mp.look h.map 83 52 Tryd.underlying83 (.slice none 0 0) (Tryd.zeroValue52 w) s (isK_le hs).2 _ hD
  have HB : Hid _ := bclone_any A n cap d hd hn w hv hnil
  clear h hk hs hD hv hnil hd hn
  go_enter Tryd.func103, Tryd.ntmps103
  go_wp2_with (first
    | (go_at_call 52; refine Calls.mono HK.out ?_; rintro e W ⟨rfl, rfl⟩)
    | (go_at_call 54; refine Calls.mono HB.out ?_; rintro e W ⟨A', c', rfl, hb, _, hf, hB⟩; have HB1 : Hid (Bw _ _ _) := hb; have HF : Hid (Fresh _ _) := hf; have HBl : Hid (Below _ _ _) := hB; clear hb hf hB HB HK hl g0))
  go_ret2
  exact ⟨A', c', rfl, HB1.out, HF.out, HBl.out⟩

end Go.Proofs.YtelioddogdcdoaaDoor
