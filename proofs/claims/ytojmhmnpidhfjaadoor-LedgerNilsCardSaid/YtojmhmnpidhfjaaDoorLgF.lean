/-
  readToken, ask.
-/
import Derived.Test.YtojmhmnpidhfjaaDoorLgE
namespace Go.Proofs.YtojmhmnpidhfjaaDoor
open Go Go.RowKit Go.Maps
open Sha
open Wd

theorem results_rowSS_tmp {P : Program} {fn : Func} {p p2 q : Tmp} {ty ty2 : TypeId} {fs fs2 : Array Field} (h : fn.results = #[.cell p ty, .cell p2 ty2, .tmp q]) (tmps : Array Value) (w : World) (g g2 : Nat) (t t2 : TypeId) (cs cs2 : List Value) (v : Value)
    (hp : tmps.getD p undef = .pointer (some ⟨g, 0, none⟩)) (hp2 : tmps.getD p2 undef = .pointer (some ⟨g2, 0, none⟩)) (hv : tmps.getD q undef = v) (hg : Row w g cs t) (hg2 : Row w g2 cs2 t2) (hu : P.underlying ty = some (.struct fs)) (hu2 : P.underlying ty2 = some (.struct fs2)) (hi : (P.info? ty).map (·.size) = some cs.length) (hi2 : (P.info? ty2).map (·.size) = some cs2.length) :
    (results fn tmps).run P w = .ok (.tuple #[.agg cs.toArray, .agg cs2.toArray, v]) w := by
  have hp' : tmps[p]?.getD undef = .pointer (some ⟨g, 0, none⟩) := by simpa using hp
  have hq' : tmps[p2]?.getD undef = .pointer (some ⟨g2, 0, none⟩) := by simpa using hp2
  have hv' : tmps[q]?.getD undef = v := by simpa using hv
  have hr := run_loadVar_row (P := P) w g t ty cs.toArray (0, 0) (.struct fs) hg hu rfl (by simp [hi])
  have hr2 := run_loadVar_row (P := P) w g2 t2 ty2 cs2.toArray (0, 0) (.struct fs2) hg2 hu2 rfl (by simp [hi2])
  simp [results, h, hp', hq', hv', asAddr, hr, hr2]
theorem tok_one {L : List Value} {th pa : Bool} {n : Int} (h : L = [.bool th, .bool pa, .int .u64 n, .int .u64 0, .int .u64 0, .int .u64 0]) : L.toArray.all (·.oneCell') = true := by
  subst h
  rw [← Array.all_toList]
  rfl
set_option maxRecDepth 100000 in
theorem rtok_none (A : Option Addr) (cap : Nat) (w : World) : Calls Tryd.prog 46 #[.slice A 0 cap] w fun e w' => e = .returned (.tuple #[.agg #[.bool false, .bool false, .int .u64 0, .int .u64 0, .int .u64 0, .int .u64 0], .int .i64 0]) ∧ Below w.heap.size w w' := by
  go_enter Tryd.func46, Tryd.ntmps46
  go_wp2
  exact bodyPost_ret (results_rowS_tmp Tryd.results46 _ _ w.heap.size 33 [.bool false, .bool false, .int .u64 0, .int .u64 0, .int .u64 0, .int .u64 0] (.int .i64 0) rfl rfl (Row.new' rfl rfl) Tryd.underlying33 info_tok) rfl ⟨rfl, (Below.refl _ _).alloc (Nat.le_refl _) _⟩
set_option maxRecDepth 100000 in
set_option maxHeartbeats 1000000 in
theorem rtok_run (n : Nat) (hn : n < 1000000) (g o cap : Nat) (hc : 33 ≤ cap) (w : World) (hr : w.rangeAt g o (vB (1#8 :: wB n))) : Calls Tryd.prog 46 #[.slice (some ⟨g, o, none⟩) 33 cap] w fun e w' => e = .returned (.tuple #[.agg #[.bool true, .bool false, .int .u64 (n : Int), .int .u64 0, .int .u64 0, .int .u64 0], .int .i64 0]) ∧ Below w.heap.size w w' := by
  obtain ⟨W1, hW1, r2, b1⟩ : ∃ W, W = w.alloc (Obj.cells #[.bool false, .bool false, .int .u64 0, .int .u64 0, .int .u64 0, .int .u64 0] 33) ∧ Row W w.heap.size [.bool false, .bool false, .int .u64 0, .int .u64 0, .int .u64 0, .int .u64 0] 33 ∧ Below w.heap.size w W := ⟨_, rfl, Row.new' rfl rfl, (Below.refl _ _).alloc (Nat.le_refl _) _⟩
  have hr1 := range_be hr b1
  have HS : Hid (SlAt W1 (.slice (some ⟨g, o + 1, none⟩) 32 (cap - 1)) (wB n)) := .inr ⟨g, o + 1, cap - 1, by rw [wB_len], by rw [wB_len]; omega, fun j u hj => by
    have := hr1 (j + 1) u hj
    rwa [show o + (j + 1) = o + 1 + j by omega] at this⟩
  have HRD : Hid _ := readS n hn (some ⟨g, o + 1, none⟩) (cap - 1) W1 HS.out
  have HR1 : Hid (W1.rangeAt g o (vB (1#8 :: wB n))) := hr1
  have HR2 : Hid (Row W1 w.heap.size [.bool false, .bool false, .int .u64 0, .int .u64 0, .int .u64 0, .int .u64 0] 33) := r2
  have HB : Hid (Below w.heap.size w W1) := b1
  have HW : Hid (W1 = _) := hW1
  clear hW1 r2 b1 hr hr1 HS
  go_enter Tryd.func46, Tryd.ntmps46
  go_upto_region 1 with fail
  rw [← HW.out]
  clear HW
  go_wp2_with fail
  refine Calls.mono HRD.out ?_
  rintro e V ⟨rfl, hB⟩
  have c0 : V.cell? ⟨g, o, none⟩ = some (.int .u8 1) := range_be HR1.out hB 0 _ rfl
  have r2 := Row.below HR2.out hB HR2.out.lt
  have HR3 : Hid (Row V w.heap.size [.bool false, .bool false, .int .u64 0, .int .u64 0, .int .u64 0, .int .u64 0] 33) := r2
  replace HB : Hid (Below w.heap.size w V) := HB.out.trans (hB.mono HB.out.size)
  clear hB HRD HR1 HR2
  clear r2
  obtain ⟨X, hX, r6, bX⟩ : ∃ X, X = (V.alloc (Obj.cells (sm (n : Int)) 26)).alloc (Obj.cells #[.bool false, .bool false, .int .u64 (n : Int), .int .u64 0, .int .u64 0, .int .u64 0] 33) ∧ Row X (V.heap.size + 1) [.bool false, .bool false, .int .u64 (n : Int), .int .u64 0, .int .u64 0, .int .u64 0] 33 ∧ Below V.heap.size V X := ⟨_, rfl, Row.new' (by simp) rfl, ((Below.refl _ _).alloc (Nat.le_refl _) _).alloc (by simp) _⟩
  have HX : Hid (X = _) := hX
  have d0 := cell_be c0 bX
  replace HR3 : Hid (Row X w.heap.size [.bool false, .bool false, .int .u64 0, .int .u64 0, .int .u64 0, .int .u64 0] 33) := Row.below HR3.out bX HR3.out.lt
  replace HB : Hid (Below w.heap.size w X) := HB.out.trans (bX.mono HB.out.size)
  clear hX bX c0
  go_upto_region 7 with fail
  rw [← HX.out]
  clear HX
  have x0 := r6.cell 0 _ rfl
  have xz0 := r6.thaw 0
  have x1 := r6.cell 1 _ rfl
  have xz1 := r6.thaw 1
  have x2 := r6.cell 2 _ rfl
  have xz2 := r6.thaw 2
  have x3 := r6.cell 3 _ rfl
  have xz3 := r6.thaw 3
  have x4 := r6.cell 4 _ rfl
  have xz4 := r6.thaw 4
  have x5 := r6.cell 5 _ rfl
  have xz5 := r6.thaw 5
  clear r6
  go_wp2_with fail
  refine Calls.mono (running_any false false (n : Int) X) ?_
  rintro e V2 ⟨rfl, hB⟩
  have r2 := Row.below HR3.out hB HR3.out.lt
  have HR4 : Hid (Row V2 w.heap.size [.bool false, .bool false, .int .u64 0, .int .u64 0, .int .u64 0, .int .u64 0] 33) := r2
  replace HB : Hid (Below w.heap.size w V2) := HB.out.trans (hB.mono HB.out.size)
  clear hB r2 HR3 d0 x0 xz0 x1 xz1 x2 xz2 x3 xz3 x4 xz4 x5 xz5
  obtain ⟨L, hL⟩ : ∃ L : List Value, L = [.bool true, .bool false, .int .u64 (n : Int), .int .u64 0, .int .u64 0, .int .u64 0] := ⟨_, rfl⟩
  have HLE : Hid (L = [.bool true, .bool false, .int .u64 (n : Int), .int .u64 0, .int .u64 0, .int .u64 0]) := hL
  have HLN : Hid (L.length = 6) := by rw [hL]; rfl
  have HLO : Hid (L.toArray.all (·.oneCell') = true) := tok_one hL
  have HLI : Hid ((Tryd.prog.info? 33).map (·.size) = some L.length) := by rw [HLN.out]; exact info_tok
  have HLJ : Hid ((Tryd.prog.info? 33).map (·.size) = some L.toArray.size) := by show _ = _; rw [List.size_toArray, HLN.out]; exact info_tok
  have HTH : Hid (V2.there w.heap.size 0 L.toArray.size) := Row.there HR4.out 0 _ (by rw [List.size_toArray, HLN.out]; decide)
  have HRF : Hid (Row (V2.setCells w.heap.size 0 L) w.heap.size L 33) := Row.over HR4.out (by rw [HLN.out]; rfl)
  replace HB : Hid (Below w.heap.size w (V2.setCells w.heap.size 0 L)) := below_setCells HB.out (Nat.le_refl _) _
  rw [show (.agg #[.bool true, .bool false, .int .u64 (n : Int), .int .u64 0, .int .u64 0, .int .u64 0] : Value) = .agg L.toArray by rw [hL]]
  clear hL HR4
  go_wp2_with (refine wpList_store_mid rfl 33 (.tmp 2) (.tmp 28) rfl w.heap.size 0 L.toArray rfl rfl HTH.out HLJ.out HLO.out ?_; simp only [Act.put]; change wpList _ _ _ _ _ (World.setCells V2 w.heap.size 0 L))
  exact bodyPost_ret (results_rowS_tmp Tryd.results46 _ _ w.heap.size 33 L (.int .i64 0) rfl rfl HRF.out Tryd.underlying33 HLI.out) rfl ⟨by rw [HLE.out], HB.out⟩

end Go.Proofs.YtojmhmnpidhfjaaDoor
