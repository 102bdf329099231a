/-
  the law LetterNames: its walk.
-/
import Derived.Test.YtaaehdlenigomaaGreatXMem
import Derived.Laws.BytesArg
import Derived.Test.YtaaehdlenigomaaGreatLtI

namespace Go.Proofs.YtaaehdlenigomaaGreat
open Go Go.RowKit
open Sha

/-- Bytes as a string. -/
def str (l : List (BitVec 8)) : ByteArray := strOfNums (l.map c)
theorem run_convert_str {P : Program} (w : World) (src e dst : TypeId) (hs : P.underlying src = some (.slice e)) (he : P.underlying e = some (.int .u8)) (hd : P.underlying dst = some .string) (b off cap n : Nat) (l : List (BitVec 8)) (hl : l.length = n)
    (hr : w.rangeAt b off (vB l)) : (convert src dst (.slice (some ⟨b, off, none⟩) n cap)).run P w = .ok (.string (str l)) w :=
  run_convert_bytes_arg w src e hs he b off n cap (l.map c) (by simpa using hl) (fun i hi => hr i _ (by rw [vB_get l i (by omega)]; simp [show i < l.length by omega])) dst hd
theorem run_convert_sl {P : Program} (w : World) (src e dst : TypeId) (hs : P.underlying src = some (.slice e)) (he : P.underlying e = some (.int .u8)) (hd : P.underlying dst = some .string) (v : Value) (d : List (BitVec 8)) (hv : SlAt w v d) :
    (convert src dst v).run P w = .ok (.string (str d)) w := by
  rcases hv with ⟨rfl, A, cap, rfl⟩ | ⟨ab, ao, cap, rfl, _, hr⟩
  · cases A with
    | none =>
      rw [run_convert_bytes_string w src dst e none 0 cap hs he hd]
      simp [Conv.bytesToString]
      rfl
    | some p =>
      have hl : (loadCells p 0).run P w = .ok (([] : List Int).map (Value.int .u8)).toArray w := run_loadCells_list (P := P) w p [] (fun j v hj => by simp at hj)
      rw [run_convert_bytes_string w src dst e _ 0 cap hs he hd, run_bytesToString w _ 0 cap [] hl]
      rfl
  · exact run_convert_str w src e dst hs he hd ab ao cap d.length d rfl hr

end Go.Proofs.YtaaehdlenigomaaGreat

namespace Go.Proofs.YtaaehdlenigomaaGreat
open Go Go.RowKit
open Sha

theorem same6 (d : List (BitVec 8)) (v1 v2 : Value) (w : World) (h1 : SlAt w v1 d) (h2 : SlAt w v2 d) :
    Calls Tryz.prog 9 #[v1, v2] w fun e w' => e = .returned (.bool true) ∧ w' = w := by
  have c1 := run_convert_sl (P := Tryz.prog) w 28 5 9 Tryz.underlying28 Tryz.underlying5 Tryz.underlying9 v1 d h1
  have c2 := run_convert_sl (P := Tryz.prog) w 28 5 9 Tryz.underlying28 Tryz.underlying5 Tryz.underlying9 v2 d h2
  generalize str d = s at c1 c2
  clear h1 h2
  go_enter Tryz.func9, Tryz.ntmps9
  go_wp2
  go_ret
  exact ⟨by simp, rfl⟩
theorem laidK (W : World) : ∃ X, X = (W.alloc (Obj.cells (lt 0 0 0).toArray tLet)).setCells W.heap.size 0 (lt 8 3 0) ∧ Row X W.heap.size (lt 8 3 0) tLet ∧ Below W.heap.size W X :=
  ⟨_, rfl, Row.over (Row.new' (cs := lt 0 0 0) rfl rfl) (vs := lt 8 3 0) rfl, below_setCells ((Below.refl W.heap.size W).alloc (Nat.le_refl _) _) (Nat.le_refl _) _⟩
theorem bw_at {w : World} {A : Option Addr} {n cap : Nat} {d : List (BitVec 8)} (h : Bw w (.slice A n cap) d) (hd : d ≠ []) : ∃ g o, A = some ⟨g, o, none⟩ ∧ n = d.length ∧ d.length ≤ cap ∧ w.rangeAt g o (vB d) := by
  rcases Bw.sl h with ⟨h0, _⟩ | ⟨ab, ao, c', hv, hc, hr⟩
  · exact absurd h0 hd
  · cases hv
    exact ⟨ab, ao, rfl, rfl, hc, hr⟩
set_option maxRecDepth 100000 in
set_option maxHeartbeats 4000000 in
theorem known6 (w : World) : Calls Tryz.prog 4 #[] w fun e w' => e = .returned (.bool true) ∧ Below w.heap.size w w' := by
  go_enter Tryz.func4, Tryz.ntmps4
  go_wp2_with fail
  refine Calls.mono (bytes_5 (lt 5 0 1) rfl w) ?_
  rintro e W1 ⟨A1, c1, rfl, hb1, hB1⟩
  have HB : Hid (Below w.heap.size w W1) := hB1
  have H1 : Hid (Bw W1 (.slice A1 3 c1) [5#8, 1#8, 1#8]) := hb1
  clear hb1 hB1
  obtain ⟨Y1, hY1, rY1, bY1⟩ : ∃ Y, Y = W1.alloc (Obj.cells #[.int .u8 8, .int .u8 1, .int .u8 3] 5) ∧ Row Y W1.heap.size (vB [8#8, 1#8, 3#8]) 5 ∧ Below W1.heap.size W1 Y := ⟨_, rfl, Row.new' (cs := vB [8#8, 1#8, 3#8]) rfl rfl, (Below.refl _ _).alloc (Nat.le_refl _) _⟩
  have HY1 : Hid (Y1 = _) := hY1
  clear hY1
  replace HB : Hid (Below w.heap.size w Y1) := HB.out.trans (bY1.mono HB.out.size)
  replace H1 : Hid (Bw Y1 (.slice A1 3 c1) [5#8, 1#8, 1#8]) := Bw.be H1.out bY1
  have HR : Hid _ := read_8 W1.heap.size Y1 rY1
  clear rY1 bY1
  go_wp2_with fail
  rw [← HY1.out]
  refine Calls.mono HR.out ?_
  rintro e W2 ⟨rfl, hB⟩
  replace HB : Hid (Below w.heap.size w W2) := HB.out.trans (hB.mono HB.out.size)
  replace H1 : Hid (Bw W2 (.slice A1 3 c1) [5#8, 1#8, 1#8]) := Bw.be H1.out hB
  clear hB HR HY1
  obtain ⟨X, hX, rX, bX⟩ := laidK W2
  obtain ⟨ll, hll⟩ : ∃ ll, ll = W2.heap.size := ⟨_, rfl⟩
  have HLL : Hid (ll = W2.heap.size) := hll
  rw [← hll] at rX
  have HX : Hid (X = _) := hX
  have HL : Hid (Row X ll (lt 8 3 0) tLet) := rX
  replace HB : Hid (Below w.heap.size w X) := HB.out.trans (bX.mono HB.out.size)
  replace H1 : Hid (Bw X (.slice A1 3 c1) [5#8, 1#8, 1#8]) := Bw.be H1.out bX
  clear hX rX bX hll
  obtain ⟨Y2, hY2, rY2, bY2⟩ : ∃ Y, Y = X.alloc (Obj.cells #[.int .u8 9] 5) ∧ Row Y X.heap.size (vB [9#8]) 5 ∧ Below X.heap.size X Y := ⟨_, rfl, Row.new' (cs := vB [9#8]) rfl rfl, (Below.refl _ _).alloc (Nat.le_refl _) _⟩
  have HY2 : Hid (Y2 = _) := hY2
  clear hY2
  have HE : Hid _ := ebytes X.heap.size (en 2 258 (.slice (some ⟨X.heap.size, 0, none⟩) 1 1)) rfl Y2 rY2
  replace HB : Hid (Below w.heap.size w Y2) := HB.out.trans (bY2.mono HB.out.size)
  replace H1 : Hid (Bw Y2 (.slice A1 3 c1) [5#8, 1#8, 1#8]) := Bw.be H1.out bY2
  replace HL : Hid (Row Y2 ll (lt 8 3 0) tLet) := Row.below HL.out bY2 HL.out.lt
  clear rY2 bY2
  go_wp2_with (refine wpList_store_mid rfl 50 (.tmp 3) (.tmp 16) rfl W2.heap.size 0 (lt 8 3 0).toArray rfl rfl (Row.there (Row.new' (cs := lt 0 0 0) rfl rfl) 0 _ (by decide)) info_let (by kernel_rfl) ?_; simp only [Act.put]; change wpList _ _ _ _ _ (World.setCells (World.alloc W2 (Obj.cells (lt 0 0 0).toArray tLet)) W2.heap.size 0 (lt 8 3 0)); rw [← HX.out, ← HLL.out])
  rw [← HY2.out]
  refine Calls.mono HE.out ?_
  rintro e W4 ⟨A4, c4, rfl, hb4, hB⟩
  replace HB : Hid (Below w.heap.size w W4) := HB.out.trans (hB.mono HB.out.size)
  replace H1 : Hid (Bw W4 (.slice A1 3 c1) [5#8, 1#8, 1#8]) := Bw.be H1.out hB
  replace HL : Hid (Row W4 ll (lt 8 3 0) tLet) := Row.below HL.out hB HL.out.lt
  clear hB HE HY2 HX HLL
  obtain ⟨Y4, hY4, rY4, bY4⟩ : ∃ Y, Y = W4.alloc (Obj.cells #[.int .u8 5, .int .u8 1, .int .u8 1] 5) ∧ Row Y W4.heap.size (vB [5#8, 1#8, 1#8]) 5 ∧ Below W4.heap.size W4 Y := ⟨_, rfl, Row.new' (cs := vB [5#8, 1#8, 1#8]) rfl rfl, (Below.refl _ _).alloc (Nat.le_refl _) _⟩
  have HY4 : Hid (Y4 = _) := hY4
  clear hY4
  obtain ⟨g, o, rfl, hn, hcap, hr⟩ := bw_at (Bw.be hb4 bY4) (by decide)
  clear hn
  have hcap' : 27 ≤ c4 := hcap
  have HS1 : Hid _ := same6 [5#8, 1#8, 1#8] (.slice A1 3 c1) (.slice (some ⟨W4.heap.size, 0, none⟩) 3 3) Y4 (Bw.sl (Bw.be H1.out bY4)) (sl_row rY4)
  have hl := Row.below HL.out bY4 HL.out.lt
  have l0 := hl.cell 0 _ rfl
  have l1 := hl.cell 1 _ rfl
  have q0 : Y4.cell? ⟨g, o, none⟩ = some (.int .u8 2) := hr 0 _ rfl
  obtain ⟨Y5, hY5, rY5, bY5⟩ : ∃ Y, Y = Y4.alloc (Obj.cells #[.int .u8 2, .int .u8 1, .int .u8 2, .int .u8 1, .int .u8 1, .int .u8 9] 5) ∧ Row Y Y4.heap.size (vB [2#8, 1#8, 2#8, 1#8, 1#8, 9#8]) 5 ∧ Below Y4.heap.size Y4 Y := ⟨_, rfl, Row.new' (cs := vB [2#8, 1#8, 2#8, 1#8, 1#8, 9#8]) rfl rfl, (Below.refl _ _).alloc (Nat.le_refl _) _⟩
  have HY5 : Hid (Y5 = _) := hY5
  clear hY5
  have hrr : Y5.rangeAt g (o + 21) (vB [2#8, 1#8, 2#8, 1#8, 1#8, 9#8]) := range_be (fun j v hj => by have := hr (21 + j) v (by rw [← hj, ← List.getElem?_drop]; rfl); rwa [show o + (21 + j) = o + 21 + j by omega] at this) bY5
  have HS2 : Hid _ := same6 [2#8, 1#8, 2#8, 1#8, 1#8, 9#8] (.slice (some ⟨g, o + 21, none⟩) 6 (c4 - 21)) (.slice (some ⟨Y4.heap.size, 0, none⟩) 6 6) Y5 (.inr ⟨g, o + 21, c4 - 21, rfl, (by show 6 ≤ _; omega), hrr⟩) (sl_row rY5)
  replace HB : Hid (Below w.heap.size w Y4) := HB.out.trans (bY4.mono HB.out.size)
  replace HB : Hid (Below w.heap.size w Y5) := HB.out.trans (bY5.mono HB.out.size)
  have HCAP : Hid (27 ≤ c4) := hcap'
  clear hb4 hr hrr hcap H1 HL hl rY4 bY4 rY5 bY5
  go_wp2_with fail
  rw [← HY4.out]
  refine Calls.mono HS1.out ?_
  rintro e V ⟨rfl, hqq⟩
  obtain rfl := hqq.symm
  clear HS1 HY4
  go_wp2_with fail
  rw [← HY5.out]
  refine Calls.mono HS2.out ?_
  rintro e V ⟨rfl, hqq⟩
  obtain rfl := hqq.symm
  clear HS2 HY5
  go_wp2_with fail
  refine Calls.mono (check_0 (lt 0 0 0) rfl Y5) ?_
  rintro e V ⟨rfl, hB⟩
  replace HB : Hid (Below w.heap.size w V) := HB.out.trans (hB.mono HB.out.size)
  clear hB
  go_wp2_with fail
  go_ret
  exact ⟨rfl, HB.out⟩
end Go.Proofs.YtaaehdlenigomaaGreat
