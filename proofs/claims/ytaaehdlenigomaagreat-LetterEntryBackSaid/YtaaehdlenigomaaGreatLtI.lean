/-
  Read of three bytes.
-/
import Derived.Test.YtaaehdlenigomaaGreatLtH
namespace Go.Proofs.YtaaehdlenigomaaGreat
open Go Go.RowKit
open Sha

theorem laidL (W : World) : ∃ X, X = (W.alloc (Obj.cells (lt 0 0 0).toArray tLet)).setCells W.heap.size 0 (lt 8 0 0) ∧ Row X W.heap.size (lt 8 0 0) tLet ∧ Below W.heap.size W X :=
  ⟨_, rfl, Row.over (Row.new' (cs := lt 0 0 0) rfl rfl) (vs := lt 8 0 0) rfl, below_setCells ((Below.refl W.heap.size W).alloc (Nat.le_refl _) _) (Nat.le_refl _) _⟩
set_option maxRecDepth 100000 in
set_option maxHeartbeats 4000000 in
theorem read_8 (b : Nat) (w : World) (hb : Row w b (vB [8#8, 1#8, 3#8]) 5) : Calls Tryz.prog 13 #[.slice (some ⟨b, 0, none⟩) 3 3] w fun e w' => e = .returned (.tuple #[.agg (lt 8 3 0).toArray, .int .i64 0]) ∧ Below w.heap.size w w' := by
  obtain ⟨W1, hW1, r0, b0⟩ := boxed (lt 0 0 0) tLet w
  have H0 : Hid (Row W1 w.heap.size (lt 0 0 0) tLet) := r0
  have HB : Hid (Below w.heap.size w W1) := b0
  have HS : Hid (SlAt W1 (.slice (some ⟨b, 0, none⟩) ([8#8, 1#8, 3#8] : List (BitVec 8)).length 3) [8#8, 1#8, 3#8]) := sl_row (Row.below hb b0 hb.lt)
  have HW : Hid (W1 = _) := hW1
  clear hb r0 b0 hW1
  go_enter Tryz.func13, Tryz.ntmps13
  go_upto_region 1 with fail
  rw [← HW.out]
  clear HW
  go_wp2_with fail
  refine Calls.mono (newReader_ok b 3 [8#8, 1#8, 3#8] (by decide) (by decide) W1 HS.out) ?_
  rintro e W2 ⟨P, g, c3, rfl, hRd, hP, hg, hB⟩
  have HG : Hid (Rg W2 P (some ⟨g, 0, none⟩) c3 [8#8, 1#8, 3#8] 0) := ⟨hRd.1, hRd.2, Nat.zero_le _, by decide⟩
  have HPN : Hid (w.heap.size < P) := Nat.lt_of_lt_of_le H0.out.lt hP
  replace H0 : Hid (Row W2 w.heap.size (lt 0 0 0) tLet) := Row.below H0.out hB H0.out.lt
  replace HB : Hid (Below w.heap.size w W2) := HB.out.trans (hB.mono HB.out.size)
  clear hRd hP hg hB HS
  go_wp2_with fail
  refine Calls.mono (face_byte P (some ⟨g, 0, none⟩) c3 [8#8, 1#8, 3#8] 0 W2 HG.out) ?_
  rintro e W3 ⟨hok, hno, hG⟩
  clear hno
  obtain ⟨rfl, hr⟩ := hok (by decide +kernel)
  have e8 : ((at8 [8#8, 1#8, 3#8] 0 : Nat) : Int) = 8 := by decide +kernel
  rw [e8]
  obtain ⟨X, hX, rX, bX⟩ := laidL W3
  have HX : Hid (X = _) := hX
  have hsz : w.heap.size < W3.heap.size := Nat.lt_of_lt_of_le H0.out.lt hG.size
  obtain ⟨bb, hbb⟩ : ∃ bb, bb = W3.heap.size := ⟨_, rfl⟩
  have HBB : Hid (bb = W3.heap.size) := hbb
  have HBL : Hid (w.heap.size < bb) := by show _ < _; rw [hbb]; exact hsz
  have hq0 : Row W3 w.heap.size (lt 0 0 0) tLet := hG.row H0.out (fun e => by have := HPN.out; omega)
  have hqB : Below w.heap.size w W3 := HB.out.trans (hG.to_below HB.out.size (fun k e => by have := HPN.out; omega))
  replace HG : Hid (Rg (World.drew X) P (some ⟨g, 0, none⟩) c3 [8#8, 1#8, 3#8] 1) := (Rg.be hr bX).drewN 1
  replace H0 : Hid (Row (World.drew X) w.heap.size (lt 0 0 0) tLet) := Row.below hq0 bX.drew hq0.lt
  replace HB : Hid (Below w.heap.size w (World.drew X)) := (hqB.trans (bX.mono hqB.size)).drew
  have HL : Hid (Row (World.drew X) bb (lt 8 0 0) tLet) := by rw [hbb]; exact rX
  have g0 := HL.out.cell 0 _ rfl
  have g0x : X.cell? ⟨bb, 0, none⟩ = some (.int .i64 8) := g0
  clear hok hG hr hX rX bX hsz hbb hq0 hqB e8
  go_upto_region 5 with (refine wpList_store_mid rfl 50 (.tmp 5) (.tmp 15) rfl W3.heap.size 0 (lt 8 0 0).toArray rfl rfl (Row.there (Row.new' (cs := lt 0 0 0) rfl rfl) 0 _ (by decide)) info_let (by kernel_rfl) ?_; simp only [Act.put]; change wpList _ _ _ _ _ (World.setCells (World.alloc W3 (Obj.cells (lt 0 0 0).toArray tLet)) W3.heap.size 0 (lt 8 0 0)); rw [← HX.out, ← HBB.out])
  clear HX
  go_region_law (first
    | (refine stp_fn rfl 23 rfl #[] (by go_simp) (Calls.mono (fields_any _) ?_); rintro e V ⟨T, rfl, hT, hTN, hB⟩; refine ⟨_, rfl, ?_⟩; have HT : Hid (Row V T ltab 103) := hT; (first | (replace HU : Hid (Row V U [.int .i64 0] 3) := Row.below HU.out hB HU.out.lt) | skip); replace HL : Hid (Row V bb (lt 8 0 0) tLet) := Row.below HL.out hB HL.out.lt; replace HG : Hid (Rg V P (some ⟨g, 0, none⟩) c3 [8#8, 1#8, 3#8] 1) := HG.out.be hB; replace H0 : Hid (Row V w.heap.size (lt 0 0 0) tLet) := Row.below H0.out hB H0.out.lt; replace HB : Hid (Below w.heap.size w V) := HB.out.trans (hB.mono HB.out.size); have g0 := HL.out.cell 0 _ rfl; clear hB; clear hT hTN)
    | (refine stp_fn rfl 25 rfl #[.int .i64 8] (by go_simp) (Calls.mono (used_8 _) ?_); rintro e V ⟨U, rfl, hU, hB⟩; refine ⟨_, rfl, ?_⟩; have HU : Hid (Row V U [.int .i64 0] 3) := hU; (first | (replace HT : Hid (Row V T ltab 103) := Row.below HT.out hB HT.out.lt) | skip); replace HL : Hid (Row V bb (lt 8 0 0) tLet) := Row.below HL.out hB HL.out.lt; replace HG : Hid (Rg V P (some ⟨g, 0, none⟩) c3 [8#8, 1#8, 3#8] 1) := HG.out.be hB; replace H0 : Hid (Row V w.heap.size (lt 0 0 0) tLet) := Row.below H0.out hB H0.out.lt; replace HB : Hid (Below w.heap.size w V) := HB.out.trans (hB.mono HB.out.size); have g0 := HL.out.cell 0 _ rfl; clear hB; clear hU)
    | (refine stp_fn rfl 24 rfl #[.slice (some ⟨T, 0, none⟩) 9 9, .pointer (some ⟨P, 0, none⟩), .pointer (some ⟨bb, 0, none⟩), .slice (some ⟨U, 0, none⟩) 1 1] (by go_simp) (Calls.mono (tread_8 P (some ⟨g, 0, none⟩) c3 T U bb _ HG.out HT.out HU.out HL.out) ?_); rintro e V ⟨rfl, hl, hG⟩; refine ⟨_, rfl, ?_⟩; replace HL : Hid (Row V bb (lt 8 3 0) tLet) := hl; replace H0 : Hid (Row V w.heap.size (lt 0 0 0) tLet) := hG.row H0.out (fun e => by have := HPN.out; have := HBL.out; omega); replace HB : Hid (Below w.heap.size w V) := HB.out.trans (hG.to_below HB.out.size (fun k e => by have := HPN.out; have := HBL.out; omega)); clear hl hG HT HU HG g0; try go_simp; rename_i Kx hKx; refine hKx _ _ ?_; clear hKx Kx; refine wpAny_take (i := 6) (v := .bool false) rfl (by kernel_rfl) (by kernel_rfl) (by kernel_rfl) (fun _ _ _ h => h) (Or.inl ⟨by rfl, fun w => by go_simp⟩) ?_; try go_simp; refine wpAny_take (i := 7) (v := .bool false) rfl (by kernel_rfl) (by kernel_rfl) (by kernel_rfl) (fun _ _ _ h => h) (Or.inl ⟨by rfl, fun w => by go_simp⟩) ?_; try go_simp; refine wpAny_ready (rs := [8]) (by kernel_rfl) (by simp) ?_; refine AllReady.cons (o := { dst := some 24, op := Op.load 50 (Operand.tmp 5), type := 50, pos := "letter.go:43", after := #[{ on := 7, ground := Ground.guard }], guard := some (7, false) }) rfl (fun Ky hKy => ?_) AllReady.nil; refine stp_load rfl 50 (.tmp 5) rfl bb 0 rfl (lt 8 3 0) _ (range_sub HL.out 0 51 rfl) Tryz.underlying50 rfl info_let ?_; refine hKy _ _ ?_; clear hKy Ky)
    | (refine stp_gn rfl 14 rfl #[.agg (lt 8 3 0).toArray] (by go_simp) (Calls.mono (check_8 (lt 8 3 0) rfl _) ?_); rintro e V ⟨rfl, hB⟩; refine ⟨_, rfl, ?_⟩; replace HL : Hid (Row V bb (lt 8 3 0) tLet) := Row.below HL.out hB HL.out.lt; replace H0 : Hid (Row V w.heap.size (lt 0 0 0) tLet) := Row.below H0.out hB H0.out.lt; replace HB : Hid (Below w.heap.size w V) := HB.out.trans (hB.mono HB.out.size); clear hB))
  all_goals
    obtain ⟨X2, hX2, rX2, bX2⟩ : ∃ X2, X2 = V.setCells w.heap.size 0 (lt 8 3 0) ∧ Row X2 w.heap.size (lt 8 3 0) tLet ∧ Below w.heap.size w X2 := ⟨_, rfl, H0.out.over (vs := lt 8 3 0) rfl, below_setCells HB.out (Nat.le_refl _) _⟩
    have HX2 : Hid (X2 = _) := hX2
    have HR2 : Hid (Row X2 w.heap.size (lt 8 3 0) tLet) := rX2
    have HB2 : Hid (Below w.heap.size w X2) := bX2
    clear hX2 rX2 bX2
    simp only [Act.put, List.getElem_toArray, List.getElem_cons_succ, List.getElem_cons_zero, List.setIfInBounds_toArray, List.set_cons_succ, List.set_cons_zero]
    go_wp2_with (first
      | (refine wpList_load_w rfl 50 (.tmp 5) rfl bb 0 rfl (lt 8 3 0) _ (range_sub HL.out 0 51 rfl) Tryz.underlying50 rfl info_let ?_; simp only [Act.put, List.setIfInBounds_toArray, List.set_cons_zero, List.set_cons_succ])
      | (refine wpList_store_mid rfl 50 (.tmp 2) (.tmp 29) rfl w.heap.size 0 (lt 8 3 0).toArray rfl rfl (Row.there H0.out 0 _ (by decide)) info_let (by kernel_rfl) ?_; simp only [Act.put]; change wpList _ _ _ _ _ (World.setCells V w.heap.size 0 (lt 8 3 0)); rw [← HX2.out]))
    exact bodyPost_ret (results_rowS_tmp Tryz.results13 _ _ w.heap.size tLet (lt 8 3 0) (.int .i64 0) rfl rfl HR2.out Tryz.underlying50 info_let) rfl ⟨rfl, HB2.out⟩

end Go.Proofs.YtaaehdlenigomaaGreat
