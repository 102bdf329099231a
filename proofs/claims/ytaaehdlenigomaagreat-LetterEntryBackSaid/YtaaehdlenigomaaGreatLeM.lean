/-
  ReadEntry.
-/
import Derived.Test.YtaaehdlenigomaaGreatLeL
import Derived.Test.YtaaehdlenigomaaGreatLeF
import Derived.Test.YtaaehdlenigomaaGreatLtI
import Derived.Test.YtaaehdlenigomaaGreatXOwn
namespace Go.Proofs.YtaaehdlenigomaaGreat
open Go Go.RowKit
open Sha

abbrev ez (k : Int) : List Value := en k 0 (.slice none 0 0)
theorem laidE (k : Int) (W : World) : ∃ X, X = (W.alloc (Obj.cells (ez 0).toArray tEnt)).setCells W.heap.size 0 (ez k) ∧ En X W.heap.size k (List.replicate 20 0#8) 0 0 (List.replicate 20 0#8) (List.replicate 4 0) 0 (.slice none 0 0) ∧ Below W.heap.size W X :=
  ⟨_, rfl, ⟨Row.over (Row.new' (cs := ez 0) rfl rfl) (vs := ez k) rfl, rfl, rfl, rfl⟩, below_setCells ((Below.refl W.heap.size W).alloc (Nat.le_refl _) _) (Nat.le_refl _) _⟩
theorem ent_one (k tm tk gs : Int) (sd rc : List (BitVec 8)) (am : List Nat) (A : Option Addr) (n c : Nat) : (ent k sd tm tk rc am gs (.slice A n c)).toArray.all (·.oneCell') = true := by
  rw [← Array.all_toList]
  refine List.all_eq_true.2 (fun v hv => ?_)
  simp only [ent, List.mem_cons, List.mem_append, List.not_mem_nil, or_false] at hv
  rcases hv with rfl | hv | rfl | rfl | hv | hv | rfl | rfl
  · rfl
  · exact vB_one sd v hv
  · rfl
  · rfl
  · exact vB_one rc v hv
  · obtain ⟨x, _, rfl⟩ := List.mem_map.1 hv
    rfl
  · rfl
  · rfl

set_option maxRecDepth 100000 in
set_option maxHeartbeats 4000000 in
theorem rentry1_ok (tm tk gs : Int) (sd rc : List (BitVec 8)) (am : List Nat) (n : Nat) (d : List (BitVec 8)) (c4 : (decide (0 ≤ tm) && decide (tm ≤ 4611686018427387904)) = true) (c8 : (decide (0 ≤ tk) && decide (tk ≤ 63)) = true) (c15 : (!decide (am = (List.replicate 4 0))) = true) (c19 : (decide (0 ≤ gs) && decide (gs ≤ 1099511627776)) = true) (c24 : ((n : Int) == 0) = true) (h1 : sd.length = 20) (h2 : rc.length = 20) (h3 : am.length = 4) (bs : List (BitVec 8)) (h8 : ((at8 bs 0 : Nat) : Int) = 1) (hz : byE bs 0 = 0) (hTR : ∀ (P : Nat) (A0 : Option Addr) (cap0 T U b : Nat) (w : World), Rg w P A0 cap0 bs 1 → Row w T etab 80 → Row w U [.int .i64 0, .int .i64 1, .int .i64 2, .int .i64 3, .int .i64 4, .int .i64 5] 3 → En w b 1 (List.replicate 20 0#8) 0 0 (List.replicate 20 0#8) (List.replicate 4 0) 0 (.slice none 0 0) → Calls Tryz.prog 20 #[.slice (some ⟨T, 0, none⟩) 7 7, .pointer (some ⟨P, 0, none⟩), .pointer (some ⟨b, 0, none⟩), .slice (some ⟨U, 0, none⟩) 6 6] w fun e w' => ∃ A' c', e = .returned (.bool true) ∧ En w' b 1 sd tm tk rc am gs (.slice A' n c') ∧ Bw w' (.slice A' n c') d ∧ Fresh w.heap.size (.slice A' n c') ∧ (A' = none → c' = 0) ∧ Gq P b w w') (B : Option Addr) (nb cb : Nat) (hb : bs.length = nb) (hl : nb ≤ 4194304) (hnil : B = none → cb = 0) (w : World) (hv : ∀ W, Below w.heap.size w W → SlAt W (.slice B nb cb) bs) :
    Calls Tryz.prog 7 #[.slice B nb cb] w fun e w' => ∃ A' c', e = .returned (.tuple #[.agg (ent 1 sd tm tk rc am gs (.slice A' n c')).toArray, .int .i64 0]) ∧ Bw w' (.slice A' n c') d ∧ Fresh w.heap.size (.slice A' n c') ∧ (A' = none → c' = 0) ∧ Below w.heap.size w w' := by
  obtain ⟨W1, hW1, r0, b0⟩ := boxed (ez 0) tEnt w
  have H0 : Hid (Row W1 w.heap.size (ez 0) tEnt) := r0
  have HB : Hid (Below w.heap.size w W1) := b0
  have HN : Hid _ := newReader_g B nb cb bs hb hl hnil W1 (hv W1 b0)
  have HW : Hid (W1 = _) := hW1
  have H8 : Hid (((at8 bs 0 : Nat) : Int) = 1) := h8
  have HZ : Hid (byE bs 0 = 0) := hz
  have HTR : Hid (∀ (P : Nat) (A0 : Option Addr) (cap0 T U b : Nat) (w : World), Rg w P A0 cap0 bs 1 → Row w T etab 80 → Row w U [.int .i64 0, .int .i64 1, .int .i64 2, .int .i64 3, .int .i64 4, .int .i64 5] 3 → En w b 1 (List.replicate 20 0#8) 0 0 (List.replicate 20 0#8) (List.replicate 4 0) 0 (.slice none 0 0) → Calls Tryz.prog 20 #[.slice (some ⟨T, 0, none⟩) 7 7, .pointer (some ⟨P, 0, none⟩), .pointer (some ⟨b, 0, none⟩), .slice (some ⟨U, 0, none⟩) 6 6] w fun e w' => ∃ A' c', e = .returned (.bool true) ∧ En w' b 1 sd tm tk rc am gs (.slice A' n c') ∧ Bw w' (.slice A' n c') d ∧ Fresh w.heap.size (.slice A' n c') ∧ (A' = none → c' = 0) ∧ Gq P b w w') := hTR
  have C4 : Hid ((decide (0 ≤ tm) && decide (tm ≤ 4611686018427387904)) = true) := c4
  have C8 : Hid ((decide (0 ≤ tk) && decide (tk ≤ 63)) = true) := c8
  have C15 : Hid ((!decide (am = (List.replicate 4 0))) = true) := c15
  have C19 : Hid ((decide (0 ≤ gs) && decide (gs ≤ 1099511627776)) = true) := c19
  have C24 : Hid (((n : Int) == 0) = true) := c24
  have L1 : Hid (sd.length = 20) := h1
  have L2 : Hid (rc.length = 20) := h2
  have L3 : Hid (am.length = 4) := h3
  clear r0 b0 hW1 h8 hz hTR hb hl hnil hv h1 h2 h3 c4 c8 c15 c19 c24
  go_enter Tryz.func7, Tryz.ntmps7
  go_upto_region 1 with fail
  rw [← HW.out]
  clear HW
  go_wp2_with fail
  refine Calls.mono HN.out ?_
  rintro e W2 ⟨P, A9, c9, rfl, hRg, hP, hfr, hB⟩
  have HG : Hid (Rg W2 P A9 c9 bs 0) := hRg
  have HPN : Hid (w.heap.size < P) := Nat.lt_of_lt_of_le H0.out.lt hP
  replace H0 : Hid (Row W2 w.heap.size (ez 0) tEnt) := Row.below H0.out hB H0.out.lt
  replace HB : Hid (Below w.heap.size w W2) := HB.out.trans (hB.mono HB.out.size)
  clear hRg hP hB hfr HN
  go_wp2_with fail
  refine Calls.mono (face_byte P A9 c9 bs 0 W2 HG.out) ?_
  rintro e W3 ⟨hok, hno, hG⟩
  clear hno
  obtain ⟨rfl, hr⟩ := hok HZ.out
  rw [H8.out]
  obtain ⟨X, hX, rX, bX⟩ := laidE 1 W3
  have HX : Hid (X = _) := hX
  have hsz : w.heap.size < W3.heap.size := Nat.lt_of_lt_of_le H0.out.lt hG.size
  obtain ⟨bb, hbb⟩ : ∃ bb, bb = W3.heap.size := ⟨_, rfl⟩
  have HBB : Hid (bb = W3.heap.size) := hbb
  have HBL : Hid (w.heap.size < bb) := by show _ < _; rw [hbb]; exact hsz
  have hq0 : Row W3 w.heap.size (ez 0) tEnt := hG.row H0.out (fun e => by have := HPN.out; omega)
  have hqB : Below w.heap.size w W3 := HB.out.trans (hG.to_below HB.out.size (fun k e => by have := HPN.out; omega))
  replace HG : Hid (Rg (World.drew X) P A9 c9 bs 1) := (Rg.be hr bX).drewN 1
  replace H0 : Hid (Row (World.drew X) w.heap.size (ez 0) tEnt) := Row.below hq0 bX.drew hq0.lt
  replace HB : Hid (Below w.heap.size w (World.drew X)) := (hqB.trans (bX.mono hqB.size)).drew
  have HL : Hid (En (World.drew X) bb 1 (List.replicate 20 0#8) 0 0 (List.replicate 20 0#8) (List.replicate 4 0) 0 (.slice none 0 0)) := by show En _ _ _ _ _ _ _ _ _ _; rw [hbb]; exact ⟨rX.row, rX.ls, rX.lt, rX.la⟩
  have g0 := HL.out.c_kind
  have g0x : X.cell? ⟨bb, 0, none⟩ = some (.int .i64 1) := g0
  clear hok hG hr hX rX bX hsz hbb hq0 hqB
  go_upto_region 3 with (refine wpList_store_mid rfl 36 (.tmp 5) (.tmp 11) rfl W3.heap.size 0 (ez 1).toArray rfl rfl (Row.there (Row.new' (cs := ez 0) rfl rfl) 0 _ (by decide)) info_ent (by kernel_rfl) ?_; simp only [Act.put]; change wpList _ _ _ _ _ (World.setCells (World.alloc W3 (Obj.cells (ez 0).toArray tEnt)) W3.heap.size 0 (ez 1)); rw [← HX.out, ← HBB.out])
  clear HX
  go_region_law (first
    | (refine stp_fn rfl 15 rfl #[] (by go_simp) (Calls.mono (efields_any _) ?_); rintro e V ⟨T, rfl, hT, hTN, hB⟩; refine ⟨_, rfl, ?_⟩; have HT : Hid (Row V T etab 80) := hT; (first | (replace HU : Hid (Row V U [.int .i64 0, .int .i64 1, .int .i64 2, .int .i64 3, .int .i64 4, .int .i64 5] 3) := Row.below HU.out hB HU.out.lt) | skip); replace HL : Hid (En V bb 1 (List.replicate 20 0#8) 0 0 (List.replicate 20 0#8) (List.replicate 4 0) 0 (.slice none 0 0)) := HL.out.be hB; replace HG : Hid (Rg V P A9 c9 bs 1) := HG.out.be hB; replace H0 : Hid (Row V w.heap.size (ez 0) tEnt) := Row.below H0.out hB H0.out.lt; replace HB : Hid (Below w.heap.size w V) := HB.out.trans (hB.mono HB.out.size); have g0 := HL.out.c_kind; clear hB; clear hT hTN)
    | (refine stp_fn rfl 17 rfl #[.int .i64 1] (by go_simp) (Calls.mono (usedE_1 _) ?_); rintro e V ⟨U, rfl, hU, hB⟩; refine ⟨_, rfl, ?_⟩; have HU : Hid (Row V U [.int .i64 0, .int .i64 1, .int .i64 2, .int .i64 3, .int .i64 4, .int .i64 5] 3) := hU; (first | (replace HT : Hid (Row V T etab 80) := Row.below HT.out hB HT.out.lt) | skip); replace HL : Hid (En V bb 1 (List.replicate 20 0#8) 0 0 (List.replicate 20 0#8) (List.replicate 4 0) 0 (.slice none 0 0)) := HL.out.be hB; replace HG : Hid (Rg V P A9 c9 bs 1) := HG.out.be hB; replace H0 : Hid (Row V w.heap.size (ez 0) tEnt) := Row.below H0.out hB H0.out.lt; replace HB : Hid (Below w.heap.size w V) := HB.out.trans (hB.mono HB.out.size); have g0 := HL.out.c_kind; clear hB; clear hU)
    | (refine stp_fn rfl 20 rfl #[.slice (some ⟨T, 0, none⟩) 7 7, .pointer (some ⟨P, 0, none⟩), .pointer (some ⟨bb, 0, none⟩), .slice (some ⟨U, 0, none⟩) 6 6] (by go_simp) (Calls.mono (HTR.out P A9 c9 T U bb _ HG.out HT.out HU.out HL.out) ?_); rintro e V ⟨A', c', rfl, hl, hbw, hfr, hni, hG⟩; refine ⟨_, rfl, ?_⟩; replace H0 : Hid (Row V w.heap.size (ez 0) tEnt) := hG.row H0.out (fun e => by have := HPN.out; have := HBL.out; omega); have HQ : Hid (Bw V (.slice A' n c') d ∧ Fresh w.heap.size (.slice A' n c') ∧ (A' = none → c' = 0)) := ⟨hbw, fun g e => Nat.le_trans HB.out.size (hfr g e), hni⟩; replace HB : Hid (Below w.heap.size w V) := HB.out.trans (hG.to_below HB.out.size (fun k e => by have := HPN.out; have := HBL.out; omega)); replace HL : Hid (En V bb 1 sd tm tk rc am gs (.slice A' n c')) := hl; obtain ⟨Lx, hLx⟩ : ∃ Lx, Lx = ent 1 sd tm tk rc am gs (.slice A' n c') := ⟨_, rfl⟩; have HLE : Hid (Lx = ent 1 sd tm tk rc am gs (.slice A' n c')) := hLx; have HLN : Hid (Lx.length = 49) := (by rw [hLx]; exact ent_len L1.out L2.out L3.out); have HLX : Hid (V.rangeAt bb 0 Lx) := (by have q := hl.row; rw [← hLx] at q; exact range_sub q 0 Lx.length (by simp)); have HLI : Hid ((Tryz.prog.info? 36).map (·.size) = some Lx.length) := (by rw [HLN.out]; exact info_ent); have HLO : Hid (Lx.toArray.all (·.oneCell') = true) := (by show _ = true; rw [hLx]; exact ent_one _ _ _ _ _ _ _ _ _ _); clear hl hbw hfr hni hG hLx HT HU HG g0; try go_simp; rename_i Kx hKx; refine hKx _ _ ?_; clear hKx Kx; refine wpAny_take (i := 6) (v := .bool false) rfl (by kernel_rfl) (by kernel_rfl) (by kernel_rfl) (fun _ _ _ h => h) (Or.inl ⟨by rfl, fun w => by go_simp⟩) ?_; try go_simp; refine wpAny_take (i := 7) (v := .bool false) rfl (by kernel_rfl) (by kernel_rfl) (by kernel_rfl) (fun _ _ _ h => h) (Or.inl ⟨by rfl, fun w => by go_simp⟩) ?_; try go_simp; refine wpAny_ready (rs := [8]) (by kernel_rfl) (by simp) ?_; refine AllReady.cons (o := { dst := some 20, op := Op.load 36 (Operand.tmp 5), type := 36, pos := "entry.go:40", after := #[{ on := 7, ground := Ground.guard }], guard := some (7, false) }) rfl (fun Ky hKy => ?_) AllReady.nil; refine stp_load rfl 36 (.tmp 5) rfl bb 0 rfl Lx _ HLX.out Tryz.underlying36 rfl HLI.out ?_; refine hKy _ _ ?_; clear hKy Ky)
    | (refine stp_gn rfl 11 rfl #[.agg Lx.toArray] (by go_simp) (Calls.mono (checkE_1 tm tk gs sd rc am A' n c' C4.out C8.out C15.out C19.out C24.out L1.out L2.out L3.out Lx HLE.out _) ?_); rintro e V ⟨rfl, hB⟩; refine ⟨_, rfl, ?_⟩; replace HLX : Hid (V.rangeAt bb 0 Lx) := range_be HLX.out hB; replace HQ : Hid (Bw V (.slice A' n c') d ∧ Fresh w.heap.size (.slice A' n c') ∧ (A' = none → c' = 0)) := ⟨Bw.be HQ.out.1 hB, HQ.out.2⟩; replace HL : Hid (En V bb 1 sd tm tk rc am gs (.slice A' n c')) := HL.out.be hB; replace H0 : Hid (Row V w.heap.size (ez 0) tEnt) := Row.below H0.out hB H0.out.lt; replace HB : Hid (Below w.heap.size w V) := HB.out.trans (hB.mono HB.out.size); clear hB))
  all_goals
    obtain ⟨X2, hX2, rX2, bX2, q2⟩ : ∃ X2, X2 = V.setCells w.heap.size 0 Lx ∧ Row X2 w.heap.size Lx tEnt ∧ Below w.heap.size w X2 ∧ Bw X2 (.slice A' n c') d := ⟨_, rfl, H0.out.over (vs := Lx) (by rw [HLN.out]; rfl), below_setCells HB.out (Nat.le_refl _) _, Bw.block HQ.out.1 (fun g e => heap_sets _ _ _ _ _ (Bw.ne HQ.out.1 H0.out (by decide) g e))⟩
    have HX2 : Hid (X2 = _) := hX2
    have HR2 : Hid (Row X2 w.heap.size Lx tEnt) := rX2
    have HB2 : Hid (Below w.heap.size w X2) := bX2
    have HQ2 : Hid (Bw X2 (.slice A' n c') d) := q2
    have HTH : Hid (V.there w.heap.size 0 Lx.toArray.size) := Row.there H0.out 0 _ (by rw [List.size_toArray, HLN.out]; decide)
    have HI2 : Hid ((Tryz.prog.info? 36).map (·.size) = some Lx.toArray.size) := by show _ = _; rw [List.size_toArray, HLN.out]; exact info_ent
    clear hX2 rX2 bX2 q2
    simp only [Act.put, List.getElem_toArray, List.getElem_cons_succ, List.getElem_cons_zero, List.setIfInBounds_toArray, List.set_cons_succ, List.set_cons_zero]
    go_wp2_with (first
      | (refine wpList_load_w rfl 36 (.tmp 5) rfl bb 0 rfl Lx _ HLX.out Tryz.underlying36 rfl HLI.out ?_; simp only [Act.put, List.setIfInBounds_toArray, List.set_cons_zero, List.set_cons_succ])
      | (refine wpList_store_mid rfl 36 (.tmp 2) (.tmp 25) rfl w.heap.size 0 Lx.toArray rfl rfl HTH.out HI2.out HLO.out ?_; simp only [Act.put]; change wpList _ _ _ _ _ (World.setCells V w.heap.size 0 Lx); rw [← HX2.out]))
    exact bodyPost_ret (results_rowS_tmp Tryz.results7 _ _ w.heap.size tEnt Lx (.int .i64 0) rfl rfl HR2.out Tryz.underlying36 HLI.out) rfl ⟨A', c', by rw [HLE.out], HQ2.out, HQ.out.2.1, HQ.out.2.2, HB2.out⟩

set_option maxRecDepth 100000 in
set_option maxHeartbeats 4000000 in
theorem rentry1_no (bs : List (BitVec 8)) (h8 : ((at8 bs 0 : Nat) : Int) = 1) (hz : byE bs 0 = 0) (hTR : ∀ (P : Nat) (A0 : Option Addr) (cap0 T U b : Nat) (w : World), Rg w P A0 cap0 bs 1 → Row w T etab 80 → Row w U [.int .i64 0, .int .i64 1, .int .i64 2, .int .i64 3, .int .i64 4, .int .i64 5] 3 → En w b 1 (List.replicate 20 0#8) 0 0 (List.replicate 20 0#8) (List.replicate 4 0) 0 (.slice none 0 0) → Calls Tryz.prog 20 #[.slice (some ⟨T, 0, none⟩) 7 7, .pointer (some ⟨P, 0, none⟩), .pointer (some ⟨b, 0, none⟩), .slice (some ⟨U, 0, none⟩) 6 6] w fun e w' => e = .returned (.bool false) ∧ Gq P b w w') (B : Option Addr) (nb cb : Nat) (hb : bs.length = nb) (hl : nb ≤ 4194304) (hnil : B = none → cb = 0) (w : World) (hv : ∀ W, Below w.heap.size w W → SlAt W (.slice B nb cb) bs) :
    Calls Tryz.prog 7 #[.slice B nb cb] w fun e w' => e = .returned (.tuple #[.agg (ez 0).toArray, .int .i64 63]) ∧ Below w.heap.size w w' := by
  obtain ⟨W1, hW1, r0, b0⟩ := boxed (ez 0) tEnt w
  have H0 : Hid (Row W1 w.heap.size (ez 0) tEnt) := r0
  have HB : Hid (Below w.heap.size w W1) := b0
  have HN : Hid _ := newReader_g B nb cb bs hb hl hnil W1 (hv W1 b0)
  have HW : Hid (W1 = _) := hW1
  have H8 : Hid (((at8 bs 0 : Nat) : Int) = 1) := h8
  have HZ : Hid (byE bs 0 = 0) := hz
  have HTR : Hid (∀ (P : Nat) (A0 : Option Addr) (cap0 T U b : Nat) (w : World), Rg w P A0 cap0 bs 1 → Row w T etab 80 → Row w U [.int .i64 0, .int .i64 1, .int .i64 2, .int .i64 3, .int .i64 4, .int .i64 5] 3 → En w b 1 (List.replicate 20 0#8) 0 0 (List.replicate 20 0#8) (List.replicate 4 0) 0 (.slice none 0 0) → Calls Tryz.prog 20 #[.slice (some ⟨T, 0, none⟩) 7 7, .pointer (some ⟨P, 0, none⟩), .pointer (some ⟨b, 0, none⟩), .slice (some ⟨U, 0, none⟩) 6 6] w fun e w' => e = .returned (.bool false) ∧ Gq P b w w') := hTR
  clear r0 b0 hW1 h8 hz hTR hb hl hnil hv
  go_enter Tryz.func7, Tryz.ntmps7
  go_upto_region 1 with fail
  rw [← HW.out]
  clear HW
  go_wp2_with fail
  refine Calls.mono HN.out ?_
  rintro e W2 ⟨P, A9, c9, rfl, hRg, hP, hfr, hB⟩
  have HG : Hid (Rg W2 P A9 c9 bs 0) := hRg
  have HPN : Hid (w.heap.size < P) := Nat.lt_of_lt_of_le H0.out.lt hP
  replace H0 : Hid (Row W2 w.heap.size (ez 0) tEnt) := Row.below H0.out hB H0.out.lt
  replace HB : Hid (Below w.heap.size w W2) := HB.out.trans (hB.mono HB.out.size)
  clear hRg hP hB hfr HN
  go_wp2_with fail
  refine Calls.mono (face_byte P A9 c9 bs 0 W2 HG.out) ?_
  rintro e W3 ⟨hok, hno, hG⟩
  clear hno
  obtain ⟨rfl, hr⟩ := hok HZ.out
  rw [H8.out]
  obtain ⟨X, hX, rX, bX⟩ := laidE 1 W3
  have HX : Hid (X = _) := hX
  have hsz : w.heap.size < W3.heap.size := Nat.lt_of_lt_of_le H0.out.lt hG.size
  obtain ⟨bb, hbb⟩ : ∃ bb, bb = W3.heap.size := ⟨_, rfl⟩
  have HBB : Hid (bb = W3.heap.size) := hbb
  have HBL : Hid (w.heap.size < bb) := by show _ < _; rw [hbb]; exact hsz
  have hq0 : Row W3 w.heap.size (ez 0) tEnt := hG.row H0.out (fun e => by have := HPN.out; omega)
  have hqB : Below w.heap.size w W3 := HB.out.trans (hG.to_below HB.out.size (fun k e => by have := HPN.out; omega))
  replace HG : Hid (Rg (World.drew X) P A9 c9 bs 1) := (Rg.be hr bX).drewN 1
  replace H0 : Hid (Row (World.drew X) w.heap.size (ez 0) tEnt) := Row.below hq0 bX.drew hq0.lt
  replace HB : Hid (Below w.heap.size w (World.drew X)) := (hqB.trans (bX.mono hqB.size)).drew
  have HL : Hid (En (World.drew X) bb 1 (List.replicate 20 0#8) 0 0 (List.replicate 20 0#8) (List.replicate 4 0) 0 (.slice none 0 0)) := by show En _ _ _ _ _ _ _ _ _ _; rw [hbb]; exact ⟨rX.row, rX.ls, rX.lt, rX.la⟩
  have g0 := HL.out.c_kind
  have g0x : X.cell? ⟨bb, 0, none⟩ = some (.int .i64 1) := g0
  clear hok hG hr hX rX bX hsz hbb hq0 hqB
  go_upto_region 3 with (refine wpList_store_mid rfl 36 (.tmp 5) (.tmp 11) rfl W3.heap.size 0 (ez 1).toArray rfl rfl (Row.there (Row.new' (cs := ez 0) rfl rfl) 0 _ (by decide)) info_ent (by kernel_rfl) ?_; simp only [Act.put]; change wpList _ _ _ _ _ (World.setCells (World.alloc W3 (Obj.cells (ez 0).toArray tEnt)) W3.heap.size 0 (ez 1)); rw [← HX.out, ← HBB.out])
  clear HX
  go_region_law (first
    | (refine stp_fn rfl 15 rfl #[] (by go_simp) (Calls.mono (efields_any _) ?_); rintro e V ⟨T, rfl, hT, hTN, hB⟩; refine ⟨_, rfl, ?_⟩; have HT : Hid (Row V T etab 80) := hT; (first | (replace HU : Hid (Row V U [.int .i64 0, .int .i64 1, .int .i64 2, .int .i64 3, .int .i64 4, .int .i64 5] 3) := Row.below HU.out hB HU.out.lt) | skip); replace HL : Hid (En V bb 1 (List.replicate 20 0#8) 0 0 (List.replicate 20 0#8) (List.replicate 4 0) 0 (.slice none 0 0)) := HL.out.be hB; replace HG : Hid (Rg V P A9 c9 bs 1) := HG.out.be hB; replace H0 : Hid (Row V w.heap.size (ez 0) tEnt) := Row.below H0.out hB H0.out.lt; replace HB : Hid (Below w.heap.size w V) := HB.out.trans (hB.mono HB.out.size); have g0 := HL.out.c_kind; clear hB; clear hT hTN)
    | (refine stp_fn rfl 17 rfl #[.int .i64 1] (by go_simp) (Calls.mono (usedE_1 _) ?_); rintro e V ⟨U, rfl, hU, hB⟩; refine ⟨_, rfl, ?_⟩; have HU : Hid (Row V U [.int .i64 0, .int .i64 1, .int .i64 2, .int .i64 3, .int .i64 4, .int .i64 5] 3) := hU; (first | (replace HT : Hid (Row V T etab 80) := Row.below HT.out hB HT.out.lt) | skip); replace HL : Hid (En V bb 1 (List.replicate 20 0#8) 0 0 (List.replicate 20 0#8) (List.replicate 4 0) 0 (.slice none 0 0)) := HL.out.be hB; replace HG : Hid (Rg V P A9 c9 bs 1) := HG.out.be hB; replace H0 : Hid (Row V w.heap.size (ez 0) tEnt) := Row.below H0.out hB H0.out.lt; replace HB : Hid (Below w.heap.size w V) := HB.out.trans (hB.mono HB.out.size); have g0 := HL.out.c_kind; clear hB; clear hU)
    | (refine stp_fn rfl 20 rfl #[.slice (some ⟨T, 0, none⟩) 7 7, .pointer (some ⟨P, 0, none⟩), .pointer (some ⟨bb, 0, none⟩), .slice (some ⟨U, 0, none⟩) 6 6] (by go_simp) (Calls.mono (HTR.out P A9 c9 T U bb _ HG.out HT.out HU.out HL.out) ?_); rintro e V ⟨rfl, hG⟩; refine ⟨_, rfl, ?_⟩; replace H0 : Hid (Row V w.heap.size (ez 0) tEnt) := hG.row H0.out (fun e => by have := HPN.out; have := HBL.out; omega); replace HB : Hid (Below w.heap.size w V) := HB.out.trans (hG.to_below HB.out.size (fun k e => by have := HPN.out; have := HBL.out; omega)); clear hG HT HU HG HL g0))
  all_goals
    obtain ⟨X2, hX2, rX2, bX2⟩ : ∃ X2, X2 = V.setCells w.heap.size 0 (ez 0) ∧ Row X2 w.heap.size (ez 0) tEnt ∧ Below w.heap.size w X2 := ⟨_, rfl, H0.out.over (vs := ez 0) rfl, below_setCells HB.out (Nat.le_refl _) _⟩
    have HX2 : Hid (X2 = _) := hX2
    have HR2 : Hid (Row X2 w.heap.size (ez 0) tEnt) := rX2
    have HB2 : Hid (Below w.heap.size w X2) := bX2
    clear hX2 rX2 bX2
    go_wp2_with (refine wpList_store_mid rfl 36 (.tmp 2) (.tmp 24) rfl w.heap.size 0 (ez 0).toArray rfl rfl (Row.there H0.out 0 _ (by decide)) info_ent (by kernel_rfl) ?_; simp only [Act.put]; change wpList _ _ _ _ _ (World.setCells V w.heap.size 0 (ez 0)); rw [← HX2.out])
    exact bodyPost_ret (results_rowS_tmp Tryz.results7 _ _ w.heap.size tEnt (ez 0) (.int .i64 63) rfl rfl HR2.out Tryz.underlying36 info_ent) rfl ⟨rfl, HB2.out⟩

set_option maxRecDepth 100000 in
set_option maxHeartbeats 4000000 in
theorem rentry2_ok (tm tk gs : Int) (sd rc : List (BitVec 8)) (am : List Nat) (n : Nat) (d : List (BitVec 8)) (c4 : (decide (0 ≤ tm) && decide (tm ≤ 4611686018427387904)) = true) (c9 : (tk == 0) = true) (c12 : (decide (rc = (List.replicate 20 0#8))) = true) (c16 : (decide (am = (List.replicate 4 0))) = true) (c20 : (gs == 0) = true) (c23 : (decide ((n : Int) ≤ 4096)) = true) (h1 : sd.length = 20) (h2 : rc.length = 20) (h3 : am.length = 4) (bs : List (BitVec 8)) (h8 : ((at8 bs 0 : Nat) : Int) = 2) (hz : byE bs 0 = 0) (hTR : ∀ (P : Nat) (A0 : Option Addr) (cap0 T U b : Nat) (w : World), Rg w P A0 cap0 bs 1 → Row w T etab 80 → Row w U [.int .i64 0, .int .i64 1, .int .i64 6] 3 → En w b 2 (List.replicate 20 0#8) 0 0 (List.replicate 20 0#8) (List.replicate 4 0) 0 (.slice none 0 0) → Calls Tryz.prog 20 #[.slice (some ⟨T, 0, none⟩) 7 7, .pointer (some ⟨P, 0, none⟩), .pointer (some ⟨b, 0, none⟩), .slice (some ⟨U, 0, none⟩) 3 3] w fun e w' => ∃ A' c', e = .returned (.bool true) ∧ En w' b 2 sd tm tk rc am gs (.slice A' n c') ∧ Bw w' (.slice A' n c') d ∧ Fresh w.heap.size (.slice A' n c') ∧ (A' = none → c' = 0) ∧ Gq P b w w') (B : Option Addr) (nb cb : Nat) (hb : bs.length = nb) (hl : nb ≤ 4194304) (hnil : B = none → cb = 0) (w : World) (hv : ∀ W, Below w.heap.size w W → SlAt W (.slice B nb cb) bs) :
    Calls Tryz.prog 7 #[.slice B nb cb] w fun e w' => ∃ A' c', e = .returned (.tuple #[.agg (ent 2 sd tm tk rc am gs (.slice A' n c')).toArray, .int .i64 0]) ∧ Bw w' (.slice A' n c') d ∧ Fresh w.heap.size (.slice A' n c') ∧ (A' = none → c' = 0) ∧ Below w.heap.size w w' := by
  obtain ⟨W1, hW1, r0, b0⟩ := boxed (ez 0) tEnt w
  have H0 : Hid (Row W1 w.heap.size (ez 0) tEnt) := r0
  have HB : Hid (Below w.heap.size w W1) := b0
  have HN : Hid _ := newReader_g B nb cb bs hb hl hnil W1 (hv W1 b0)
  have HW : Hid (W1 = _) := hW1
  have H8 : Hid (((at8 bs 0 : Nat) : Int) = 2) := h8
  have HZ : Hid (byE bs 0 = 0) := hz
  have HTR : Hid (∀ (P : Nat) (A0 : Option Addr) (cap0 T U b : Nat) (w : World), Rg w P A0 cap0 bs 1 → Row w T etab 80 → Row w U [.int .i64 0, .int .i64 1, .int .i64 6] 3 → En w b 2 (List.replicate 20 0#8) 0 0 (List.replicate 20 0#8) (List.replicate 4 0) 0 (.slice none 0 0) → Calls Tryz.prog 20 #[.slice (some ⟨T, 0, none⟩) 7 7, .pointer (some ⟨P, 0, none⟩), .pointer (some ⟨b, 0, none⟩), .slice (some ⟨U, 0, none⟩) 3 3] w fun e w' => ∃ A' c', e = .returned (.bool true) ∧ En w' b 2 sd tm tk rc am gs (.slice A' n c') ∧ Bw w' (.slice A' n c') d ∧ Fresh w.heap.size (.slice A' n c') ∧ (A' = none → c' = 0) ∧ Gq P b w w') := hTR
  have C4 : Hid ((decide (0 ≤ tm) && decide (tm ≤ 4611686018427387904)) = true) := c4
  have C9 : Hid ((tk == 0) = true) := c9
  have C12 : Hid ((decide (rc = (List.replicate 20 0#8))) = true) := c12
  have C16 : Hid ((decide (am = (List.replicate 4 0))) = true) := c16
  have C20 : Hid ((gs == 0) = true) := c20
  have C23 : Hid ((decide ((n : Int) ≤ 4096)) = true) := c23
  have L1 : Hid (sd.length = 20) := h1
  have L2 : Hid (rc.length = 20) := h2
  have L3 : Hid (am.length = 4) := h3
  clear r0 b0 hW1 h8 hz hTR hb hl hnil hv h1 h2 h3 c4 c9 c12 c16 c20 c23
  go_enter Tryz.func7, Tryz.ntmps7
  go_upto_region 1 with fail
  rw [← HW.out]
  clear HW
  go_wp2_with fail
  refine Calls.mono HN.out ?_
  rintro e W2 ⟨P, A9, c9, rfl, hRg, hP, hfr, hB⟩
  have HG : Hid (Rg W2 P A9 c9 bs 0) := hRg
  have HPN : Hid (w.heap.size < P) := Nat.lt_of_lt_of_le H0.out.lt hP
  replace H0 : Hid (Row W2 w.heap.size (ez 0) tEnt) := Row.below H0.out hB H0.out.lt
  replace HB : Hid (Below w.heap.size w W2) := HB.out.trans (hB.mono HB.out.size)
  clear hRg hP hB hfr HN
  go_wp2_with fail
  refine Calls.mono (face_byte P A9 c9 bs 0 W2 HG.out) ?_
  rintro e W3 ⟨hok, hno, hG⟩
  clear hno
  obtain ⟨rfl, hr⟩ := hok HZ.out
  rw [H8.out]
  obtain ⟨X, hX, rX, bX⟩ := laidE 2 W3
  have HX : Hid (X = _) := hX
  have hsz : w.heap.size < W3.heap.size := Nat.lt_of_lt_of_le H0.out.lt hG.size
  obtain ⟨bb, hbb⟩ : ∃ bb, bb = W3.heap.size := ⟨_, rfl⟩
  have HBB : Hid (bb = W3.heap.size) := hbb
  have HBL : Hid (w.heap.size < bb) := by show _ < _; rw [hbb]; exact hsz
  have hq0 : Row W3 w.heap.size (ez 0) tEnt := hG.row H0.out (fun e => by have := HPN.out; omega)
  have hqB : Below w.heap.size w W3 := HB.out.trans (hG.to_below HB.out.size (fun k e => by have := HPN.out; omega))
  replace HG : Hid (Rg (World.drew X) P A9 c9 bs 1) := (Rg.be hr bX).drewN 1
  replace H0 : Hid (Row (World.drew X) w.heap.size (ez 0) tEnt) := Row.below hq0 bX.drew hq0.lt
  replace HB : Hid (Below w.heap.size w (World.drew X)) := (hqB.trans (bX.mono hqB.size)).drew
  have HL : Hid (En (World.drew X) bb 2 (List.replicate 20 0#8) 0 0 (List.replicate 20 0#8) (List.replicate 4 0) 0 (.slice none 0 0)) := by show En _ _ _ _ _ _ _ _ _ _; rw [hbb]; exact ⟨rX.row, rX.ls, rX.lt, rX.la⟩
  have g0 := HL.out.c_kind
  have g0x : X.cell? ⟨bb, 0, none⟩ = some (.int .i64 2) := g0
  clear hok hG hr hX rX bX hsz hbb hq0 hqB
  go_upto_region 3 with (refine wpList_store_mid rfl 36 (.tmp 5) (.tmp 11) rfl W3.heap.size 0 (ez 2).toArray rfl rfl (Row.there (Row.new' (cs := ez 0) rfl rfl) 0 _ (by decide)) info_ent (by kernel_rfl) ?_; simp only [Act.put]; change wpList _ _ _ _ _ (World.setCells (World.alloc W3 (Obj.cells (ez 0).toArray tEnt)) W3.heap.size 0 (ez 2)); rw [← HX.out, ← HBB.out])
  clear HX
  go_region_law (first
    | (refine stp_fn rfl 15 rfl #[] (by go_simp) (Calls.mono (efields_any _) ?_); rintro e V ⟨T, rfl, hT, hTN, hB⟩; refine ⟨_, rfl, ?_⟩; have HT : Hid (Row V T etab 80) := hT; (first | (replace HU : Hid (Row V U [.int .i64 0, .int .i64 1, .int .i64 6] 3) := Row.below HU.out hB HU.out.lt) | skip); replace HL : Hid (En V bb 2 (List.replicate 20 0#8) 0 0 (List.replicate 20 0#8) (List.replicate 4 0) 0 (.slice none 0 0)) := HL.out.be hB; replace HG : Hid (Rg V P A9 c9 bs 1) := HG.out.be hB; replace H0 : Hid (Row V w.heap.size (ez 0) tEnt) := Row.below H0.out hB H0.out.lt; replace HB : Hid (Below w.heap.size w V) := HB.out.trans (hB.mono HB.out.size); have g0 := HL.out.c_kind; clear hB; clear hT hTN)
    | (refine stp_fn rfl 17 rfl #[.int .i64 2] (by go_simp) (Calls.mono (used_E2 _) ?_); rintro e V ⟨U, rfl, hU, hB⟩; refine ⟨_, rfl, ?_⟩; have HU : Hid (Row V U [.int .i64 0, .int .i64 1, .int .i64 6] 3) := hU; (first | (replace HT : Hid (Row V T etab 80) := Row.below HT.out hB HT.out.lt) | skip); replace HL : Hid (En V bb 2 (List.replicate 20 0#8) 0 0 (List.replicate 20 0#8) (List.replicate 4 0) 0 (.slice none 0 0)) := HL.out.be hB; replace HG : Hid (Rg V P A9 c9 bs 1) := HG.out.be hB; replace H0 : Hid (Row V w.heap.size (ez 0) tEnt) := Row.below H0.out hB H0.out.lt; replace HB : Hid (Below w.heap.size w V) := HB.out.trans (hB.mono HB.out.size); have g0 := HL.out.c_kind; clear hB; clear hU)
    | (refine stp_fn rfl 20 rfl #[.slice (some ⟨T, 0, none⟩) 7 7, .pointer (some ⟨P, 0, none⟩), .pointer (some ⟨bb, 0, none⟩), .slice (some ⟨U, 0, none⟩) 3 3] (by go_simp) (Calls.mono (HTR.out P A9 c9 T U bb _ HG.out HT.out HU.out HL.out) ?_); rintro e V ⟨A', c', rfl, hl, hbw, hfr, hni, hG⟩; refine ⟨_, rfl, ?_⟩; replace H0 : Hid (Row V w.heap.size (ez 0) tEnt) := hG.row H0.out (fun e => by have := HPN.out; have := HBL.out; omega); have HQ : Hid (Bw V (.slice A' n c') d ∧ Fresh w.heap.size (.slice A' n c') ∧ (A' = none → c' = 0)) := ⟨hbw, fun g e => Nat.le_trans HB.out.size (hfr g e), hni⟩; replace HB : Hid (Below w.heap.size w V) := HB.out.trans (hG.to_below HB.out.size (fun k e => by have := HPN.out; have := HBL.out; omega)); replace HL : Hid (En V bb 2 sd tm tk rc am gs (.slice A' n c')) := hl; obtain ⟨Lx, hLx⟩ : ∃ Lx, Lx = ent 2 sd tm tk rc am gs (.slice A' n c') := ⟨_, rfl⟩; have HLE : Hid (Lx = ent 2 sd tm tk rc am gs (.slice A' n c')) := hLx; have HLN : Hid (Lx.length = 49) := (by rw [hLx]; exact ent_len L1.out L2.out L3.out); have HLX : Hid (V.rangeAt bb 0 Lx) := (by have q := hl.row; rw [← hLx] at q; exact range_sub q 0 Lx.length (by simp)); have HLI : Hid ((Tryz.prog.info? 36).map (·.size) = some Lx.length) := (by rw [HLN.out]; exact info_ent); have HLO : Hid (Lx.toArray.all (·.oneCell') = true) := (by show _ = true; rw [hLx]; exact ent_one _ _ _ _ _ _ _ _ _ _); clear hl hbw hfr hni hG hLx HT HU HG g0; try go_simp; rename_i Kx hKx; refine hKx _ _ ?_; clear hKx Kx; refine wpAny_take (i := 6) (v := .bool false) rfl (by kernel_rfl) (by kernel_rfl) (by kernel_rfl) (fun _ _ _ h => h) (Or.inl ⟨by rfl, fun w => by go_simp⟩) ?_; try go_simp; refine wpAny_take (i := 7) (v := .bool false) rfl (by kernel_rfl) (by kernel_rfl) (by kernel_rfl) (fun _ _ _ h => h) (Or.inl ⟨by rfl, fun w => by go_simp⟩) ?_; try go_simp; refine wpAny_ready (rs := [8]) (by kernel_rfl) (by simp) ?_; refine AllReady.cons (o := { dst := some 20, op := Op.load 36 (Operand.tmp 5), type := 36, pos := "entry.go:40", after := #[{ on := 7, ground := Ground.guard }], guard := some (7, false) }) rfl (fun Ky hKy => ?_) AllReady.nil; refine stp_load rfl 36 (.tmp 5) rfl bb 0 rfl Lx _ HLX.out Tryz.underlying36 rfl HLI.out ?_; refine hKy _ _ ?_; clear hKy Ky)
    | (refine stp_gn rfl 11 rfl #[.agg Lx.toArray] (by go_simp) (Calls.mono (checkE_2 tm tk gs sd rc am A' n c' C4.out C9.out C12.out C16.out C20.out C23.out L1.out L2.out L3.out Lx HLE.out _) ?_); rintro e V ⟨rfl, hB⟩; refine ⟨_, rfl, ?_⟩; replace HLX : Hid (V.rangeAt bb 0 Lx) := range_be HLX.out hB; replace HQ : Hid (Bw V (.slice A' n c') d ∧ Fresh w.heap.size (.slice A' n c') ∧ (A' = none → c' = 0)) := ⟨Bw.be HQ.out.1 hB, HQ.out.2⟩; replace HL : Hid (En V bb 2 sd tm tk rc am gs (.slice A' n c')) := HL.out.be hB; replace H0 : Hid (Row V w.heap.size (ez 0) tEnt) := Row.below H0.out hB H0.out.lt; replace HB : Hid (Below w.heap.size w V) := HB.out.trans (hB.mono HB.out.size); clear hB))
  all_goals
    obtain ⟨X2, hX2, rX2, bX2, q2⟩ : ∃ X2, X2 = V.setCells w.heap.size 0 Lx ∧ Row X2 w.heap.size Lx tEnt ∧ Below w.heap.size w X2 ∧ Bw X2 (.slice A' n c') d := ⟨_, rfl, H0.out.over (vs := Lx) (by rw [HLN.out]; rfl), below_setCells HB.out (Nat.le_refl _) _, Bw.block HQ.out.1 (fun g e => heap_sets _ _ _ _ _ (Bw.ne HQ.out.1 H0.out (by decide) g e))⟩
    have HX2 : Hid (X2 = _) := hX2
    have HR2 : Hid (Row X2 w.heap.size Lx tEnt) := rX2
    have HB2 : Hid (Below w.heap.size w X2) := bX2
    have HQ2 : Hid (Bw X2 (.slice A' n c') d) := q2
    have HTH : Hid (V.there w.heap.size 0 Lx.toArray.size) := Row.there H0.out 0 _ (by rw [List.size_toArray, HLN.out]; decide)
    have HI2 : Hid ((Tryz.prog.info? 36).map (·.size) = some Lx.toArray.size) := by show _ = _; rw [List.size_toArray, HLN.out]; exact info_ent
    clear hX2 rX2 bX2 q2
    simp only [Act.put, List.getElem_toArray, List.getElem_cons_succ, List.getElem_cons_zero, List.setIfInBounds_toArray, List.set_cons_succ, List.set_cons_zero]
    go_wp2_with (first
      | (refine wpList_load_w rfl 36 (.tmp 5) rfl bb 0 rfl Lx _ HLX.out Tryz.underlying36 rfl HLI.out ?_; simp only [Act.put, List.setIfInBounds_toArray, List.set_cons_zero, List.set_cons_succ])
      | (refine wpList_store_mid rfl 36 (.tmp 2) (.tmp 25) rfl w.heap.size 0 Lx.toArray rfl rfl HTH.out HI2.out HLO.out ?_; simp only [Act.put]; change wpList _ _ _ _ _ (World.setCells V w.heap.size 0 Lx); rw [← HX2.out]))
    exact bodyPost_ret (results_rowS_tmp Tryz.results7 _ _ w.heap.size tEnt Lx (.int .i64 0) rfl rfl HR2.out Tryz.underlying36 HLI.out) rfl ⟨A', c', by rw [HLE.out], HQ2.out, HQ.out.2.1, HQ.out.2.2, HB2.out⟩

set_option maxRecDepth 100000 in
set_option maxHeartbeats 4000000 in
theorem rentry2_no (bs : List (BitVec 8)) (h8 : ((at8 bs 0 : Nat) : Int) = 2) (hz : byE bs 0 = 0) (hTR : ∀ (P : Nat) (A0 : Option Addr) (cap0 T U b : Nat) (w : World), Rg w P A0 cap0 bs 1 → Row w T etab 80 → Row w U [.int .i64 0, .int .i64 1, .int .i64 6] 3 → En w b 2 (List.replicate 20 0#8) 0 0 (List.replicate 20 0#8) (List.replicate 4 0) 0 (.slice none 0 0) → Calls Tryz.prog 20 #[.slice (some ⟨T, 0, none⟩) 7 7, .pointer (some ⟨P, 0, none⟩), .pointer (some ⟨b, 0, none⟩), .slice (some ⟨U, 0, none⟩) 3 3] w fun e w' => e = .returned (.bool false) ∧ Gq P b w w') (B : Option Addr) (nb cb : Nat) (hb : bs.length = nb) (hl : nb ≤ 4194304) (hnil : B = none → cb = 0) (w : World) (hv : ∀ W, Below w.heap.size w W → SlAt W (.slice B nb cb) bs) :
    Calls Tryz.prog 7 #[.slice B nb cb] w fun e w' => e = .returned (.tuple #[.agg (ez 0).toArray, .int .i64 63]) ∧ Below w.heap.size w w' := by
  obtain ⟨W1, hW1, r0, b0⟩ := boxed (ez 0) tEnt w
  have H0 : Hid (Row W1 w.heap.size (ez 0) tEnt) := r0
  have HB : Hid (Below w.heap.size w W1) := b0
  have HN : Hid _ := newReader_g B nb cb bs hb hl hnil W1 (hv W1 b0)
  have HW : Hid (W1 = _) := hW1
  have H8 : Hid (((at8 bs 0 : Nat) : Int) = 2) := h8
  have HZ : Hid (byE bs 0 = 0) := hz
  have HTR : Hid (∀ (P : Nat) (A0 : Option Addr) (cap0 T U b : Nat) (w : World), Rg w P A0 cap0 bs 1 → Row w T etab 80 → Row w U [.int .i64 0, .int .i64 1, .int .i64 6] 3 → En w b 2 (List.replicate 20 0#8) 0 0 (List.replicate 20 0#8) (List.replicate 4 0) 0 (.slice none 0 0) → Calls Tryz.prog 20 #[.slice (some ⟨T, 0, none⟩) 7 7, .pointer (some ⟨P, 0, none⟩), .pointer (some ⟨b, 0, none⟩), .slice (some ⟨U, 0, none⟩) 3 3] w fun e w' => e = .returned (.bool false) ∧ Gq P b w w') := hTR
  clear r0 b0 hW1 h8 hz hTR hb hl hnil hv
  go_enter Tryz.func7, Tryz.ntmps7
  go_upto_region 1 with fail
  rw [← HW.out]
  clear HW
  go_wp2_with fail
  refine Calls.mono HN.out ?_
  rintro e W2 ⟨P, A9, c9, rfl, hRg, hP, hfr, hB⟩
  have HG : Hid (Rg W2 P A9 c9 bs 0) := hRg
  have HPN : Hid (w.heap.size < P) := Nat.lt_of_lt_of_le H0.out.lt hP
  replace H0 : Hid (Row W2 w.heap.size (ez 0) tEnt) := Row.below H0.out hB H0.out.lt
  replace HB : Hid (Below w.heap.size w W2) := HB.out.trans (hB.mono HB.out.size)
  clear hRg hP hB hfr HN
  go_wp2_with fail
  refine Calls.mono (face_byte P A9 c9 bs 0 W2 HG.out) ?_
  rintro e W3 ⟨hok, hno, hG⟩
  clear hno
  obtain ⟨rfl, hr⟩ := hok HZ.out
  rw [H8.out]
  obtain ⟨X, hX, rX, bX⟩ := laidE 2 W3
  have HX : Hid (X = _) := hX
  have hsz : w.heap.size < W3.heap.size := Nat.lt_of_lt_of_le H0.out.lt hG.size
  obtain ⟨bb, hbb⟩ : ∃ bb, bb = W3.heap.size := ⟨_, rfl⟩
  have HBB : Hid (bb = W3.heap.size) := hbb
  have HBL : Hid (w.heap.size < bb) := by show _ < _; rw [hbb]; exact hsz
  have hq0 : Row W3 w.heap.size (ez 0) tEnt := hG.row H0.out (fun e => by have := HPN.out; omega)
  have hqB : Below w.heap.size w W3 := HB.out.trans (hG.to_below HB.out.size (fun k e => by have := HPN.out; omega))
  replace HG : Hid (Rg (World.drew X) P A9 c9 bs 1) := (Rg.be hr bX).drewN 1
  replace H0 : Hid (Row (World.drew X) w.heap.size (ez 0) tEnt) := Row.below hq0 bX.drew hq0.lt
  replace HB : Hid (Below w.heap.size w (World.drew X)) := (hqB.trans (bX.mono hqB.size)).drew
  have HL : Hid (En (World.drew X) bb 2 (List.replicate 20 0#8) 0 0 (List.replicate 20 0#8) (List.replicate 4 0) 0 (.slice none 0 0)) := by show En _ _ _ _ _ _ _ _ _ _; rw [hbb]; exact ⟨rX.row, rX.ls, rX.lt, rX.la⟩
  have g0 := HL.out.c_kind
  have g0x : X.cell? ⟨bb, 0, none⟩ = some (.int .i64 2) := g0
  clear hok hG hr hX rX bX hsz hbb hq0 hqB
  go_upto_region 3 with (refine wpList_store_mid rfl 36 (.tmp 5) (.tmp 11) rfl W3.heap.size 0 (ez 2).toArray rfl rfl (Row.there (Row.new' (cs := ez 0) rfl rfl) 0 _ (by decide)) info_ent (by kernel_rfl) ?_; simp only [Act.put]; change wpList _ _ _ _ _ (World.setCells (World.alloc W3 (Obj.cells (ez 0).toArray tEnt)) W3.heap.size 0 (ez 2)); rw [← HX.out, ← HBB.out])
  clear HX
  go_region_law (first
    | (refine stp_fn rfl 15 rfl #[] (by go_simp) (Calls.mono (efields_any _) ?_); rintro e V ⟨T, rfl, hT, hTN, hB⟩; refine ⟨_, rfl, ?_⟩; have HT : Hid (Row V T etab 80) := hT; (first | (replace HU : Hid (Row V U [.int .i64 0, .int .i64 1, .int .i64 6] 3) := Row.below HU.out hB HU.out.lt) | skip); replace HL : Hid (En V bb 2 (List.replicate 20 0#8) 0 0 (List.replicate 20 0#8) (List.replicate 4 0) 0 (.slice none 0 0)) := HL.out.be hB; replace HG : Hid (Rg V P A9 c9 bs 1) := HG.out.be hB; replace H0 : Hid (Row V w.heap.size (ez 0) tEnt) := Row.below H0.out hB H0.out.lt; replace HB : Hid (Below w.heap.size w V) := HB.out.trans (hB.mono HB.out.size); have g0 := HL.out.c_kind; clear hB; clear hT hTN)
    | (refine stp_fn rfl 17 rfl #[.int .i64 2] (by go_simp) (Calls.mono (used_E2 _) ?_); rintro e V ⟨U, rfl, hU, hB⟩; refine ⟨_, rfl, ?_⟩; have HU : Hid (Row V U [.int .i64 0, .int .i64 1, .int .i64 6] 3) := hU; (first | (replace HT : Hid (Row V T etab 80) := Row.below HT.out hB HT.out.lt) | skip); replace HL : Hid (En V bb 2 (List.replicate 20 0#8) 0 0 (List.replicate 20 0#8) (List.replicate 4 0) 0 (.slice none 0 0)) := HL.out.be hB; replace HG : Hid (Rg V P A9 c9 bs 1) := HG.out.be hB; replace H0 : Hid (Row V w.heap.size (ez 0) tEnt) := Row.below H0.out hB H0.out.lt; replace HB : Hid (Below w.heap.size w V) := HB.out.trans (hB.mono HB.out.size); have g0 := HL.out.c_kind; clear hB; clear hU)
    | (refine stp_fn rfl 20 rfl #[.slice (some ⟨T, 0, none⟩) 7 7, .pointer (some ⟨P, 0, none⟩), .pointer (some ⟨bb, 0, none⟩), .slice (some ⟨U, 0, none⟩) 3 3] (by go_simp) (Calls.mono (HTR.out P A9 c9 T U bb _ HG.out HT.out HU.out HL.out) ?_); rintro e V ⟨rfl, hG⟩; refine ⟨_, rfl, ?_⟩; replace H0 : Hid (Row V w.heap.size (ez 0) tEnt) := hG.row H0.out (fun e => by have := HPN.out; have := HBL.out; omega); replace HB : Hid (Below w.heap.size w V) := HB.out.trans (hG.to_below HB.out.size (fun k e => by have := HPN.out; have := HBL.out; omega)); clear hG HT HU HG HL g0))
  all_goals
    obtain ⟨X2, hX2, rX2, bX2⟩ : ∃ X2, X2 = V.setCells w.heap.size 0 (ez 0) ∧ Row X2 w.heap.size (ez 0) tEnt ∧ Below w.heap.size w X2 := ⟨_, rfl, H0.out.over (vs := ez 0) rfl, below_setCells HB.out (Nat.le_refl _) _⟩
    have HX2 : Hid (X2 = _) := hX2
    have HR2 : Hid (Row X2 w.heap.size (ez 0) tEnt) := rX2
    have HB2 : Hid (Below w.heap.size w X2) := bX2
    clear hX2 rX2 bX2
    go_wp2_with (refine wpList_store_mid rfl 36 (.tmp 2) (.tmp 24) rfl w.heap.size 0 (ez 0).toArray rfl rfl (Row.there H0.out 0 _ (by decide)) info_ent (by kernel_rfl) ?_; simp only [Act.put]; change wpList _ _ _ _ _ (World.setCells V w.heap.size 0 (ez 0)); rw [← HX2.out])
    exact bodyPost_ret (results_rowS_tmp Tryz.results7 _ _ w.heap.size tEnt (ez 0) (.int .i64 63) rfl rfl HR2.out Tryz.underlying36 info_ent) rfl ⟨rfl, HB2.out⟩

end Go.Proofs.YtaaehdlenigomaaGreat
