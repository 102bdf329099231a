/-
  ask.
-/
import Derived.Test.YtojmhmnpidhfjaaDoorLgF
import Derived.Test.YtojmhmnpidhfjaaDoorTFp
namespace Go.Proofs.YtojmhmnpidhfjaaDoor
open Go Go.RowKit Go.Maps
open Sha
open Wd

theorem heap_sets (w : World) (g o : Nat) (vs : List Value) (k : Nat) (h : k ≠ g) : (w.setCells g o vs).heap[k]? = w.heap[k]? := by
  induction vs generalizing w o with
  | nil => rfl
  | cons v r ih => exact (ih (w.setCell ⟨g, o, none⟩ v) (o + 1)).trans (Below.heap_setCell _ _ _ _ h)
theorem row_ne2 {w : World} {b c : Nat} {cs ds : List Value} {t u : TypeId} (h : Row w b cs t) (k : Row w c ds u) (ht : t ≠ u) : b ≠ c := fun e => by
  subst e
  have := h.symm.trans k
  simp only [Option.some.injEq, Obj.cells.injEq] at this
  exact ht this.2.1
/-- A row that is none of the state's is written over. -/
theorem Lg.kept {w0 w w' : World} {S q : Nat} {f : ByteArray → List (BitVec 8)} (h : Lg w0 w S q f) {b : Nat} {cs : List Value} {t : TypeId} (r : Row w b cs t) (h1 : t ≠ tC) (h2 : t ≠ tS) (h3 : t ≠ tT) (h4 : t ≠ 5) (hk : ∀ k, k ≠ b → w'.heap[k]? = w.heap[k]?) (hB : Below w0.heap.size w0 w') : Lg w0 w' S q f := by
  obtain ⟨T, m, k, E, hkq, h⟩ := h
  have hr : ∀ {g cs u}, Row w g cs u → u ≠ t → Row w' g cs u := fun {g cs u} r' hu => (hk g (row_ne2 r' r hu)).trans r'
  refine ⟨T, m, k, E, hkq, hr h.tab (fun e => h3 e.symm), ⟨hr h.sv.row (fun e => h2 e.symm), Mp.block h.sv.map (hk m (Mp.ne h.sv.map r))⟩, h.isM, h.lo, hB, fun s hs => ?_, h.inj, h.len⟩
  rcases h.at_ s hs with e | ⟨C, v, A, c, e, r', b', l⟩
  · exact .inl e
  · exact .inr ⟨C, v, A, c, e, hr r' (fun e => h1 e.symm), Bw.block b' (fun g hg => hk g (Bw.ne b' r h4 g hg)), l⟩
theorem Kp.kept {w w' : World} (b : Nat) (hb : b ≥ w.heap.size) {w1 : World} (h : Kp w w1) (hk : ∀ k, k ≠ b → w'.heap[k]? = w1.heap[k]?) (hs : w1.heap.size ≤ w'.heap.size) : Kp w w' := ⟨fun g cs t ht r => (hk g (by have := r.lt; omega)).trans (h.row g cs t ht r), Nat.le_trans h.size hs⟩
theorem tk_key : isK tK.size = true := by decide +kernel
theorem pg_one {L : List Value} {S : Nat} (h : L = [.pointer (some ⟨S, 0, none⟩), .int .u8 5]) : L.toArray.all (·.oneCell') = true := by
  subst h
  rw [← Array.all_toList]
  rfl
set_option maxRecDepth 100000 in
set_option maxHeartbeats 2000000 in
theorem askT (w0 : World) (S q : Nat) (f : ByteArray → List (BitVec 8)) (hq : q < 1000000) (m : Nat) (d : List (BitVec 8)) (hd : f tK = d) (hm : d.length = m) (th pa : Bool) (n : Int) (L : List Value) (hLE : L = [.bool th, .bool pa, .int .u64 n, .int .u64 0, .int .u64 0, .int .u64 0])
    (hRT : ∀ A cap W, Bw W (.slice A m cap) d → (A = none → m = 0 ∧ cap = 0) → Calls Tryd.prog 46 #[.slice A m cap] W fun e w' => e = .returned (.tuple #[.agg L.toArray, .int .i64 0]) ∧ Below W.heap.size W w') (w : World) (h : Lg w0 w S q f) :
    Calls Tryd.prog 24 #[.pointer (some ⟨S, 0, none⟩), .int .i64 5] w fun e w' => e = .returned (.tuple #[.agg #[.pointer (some ⟨S, 0, none⟩), .int .u8 5], .agg L.toArray, .int .i64 0]) ∧ Lg w0 w' S (q + 1) f ∧ Kp w w' := by
  obtain ⟨LZ, hLZ⟩ : ∃ L : List Value, L = [.bool false, .bool false, .int .u64 0, .int .u64 0, .int .u64 0, .int .u64 0] := ⟨_, rfl⟩
  obtain ⟨LP, hLP⟩ : ∃ L : List Value, L = [.pointer (some ⟨S, 0, none⟩), .int .u8 5] := ⟨_, rfl⟩
  obtain ⟨W1, hW1, r4, r5, b1⟩ : ∃ W, W = (w.alloc (Obj.cells #[.pointer none, .int .u8 0] 61)).alloc (Obj.cells #[.bool false, .bool false, .int .u64 0, .int .u64 0, .int .u64 0, .int .u64 0] 33) ∧ Row W w.heap.size [.pointer none, .int .u8 0] 61 ∧ Row W (w.heap.size + 1) LZ 33 ∧ Below w.heap.size w W := ⟨_, rfl, (Row.new' rfl rfl).alloc _, Row.new' (by simp) (by rw [hLZ]), ((Below.refl _ _).alloc (Nat.le_refl _) _).alloc (by simp) _⟩
  have HW : Hid (W1 = _) := hW1
  have R4 : Hid (Row W1 w.heap.size [.pointer none, .int .u8 0] 61) := r4
  have R5 : Hid (Row W1 (w.heap.size + 1) LZ 33) := r5
  have HW0 : Hid (w0.heap.size ≤ w.heap.size) := h.bel.size
  have HG : Hid (Lg w0 W1 S q f) := h.be b1
  have HK : Hid (Kp w W1) := Kp.of_below b1
  have HQ : Hid (q < 1000000) := hq
  have HD : Hid (f tK = d) := hd
  have HM : Hid (d.length = m) := hm
  have HRT : Hid _ := hRT
  have hLN : L.length = 6 := by rw [hLE]; rfl
  have HLE : Hid (L = [.bool th, .bool pa, .int .u64 n, .int .u64 0, .int .u64 0, .int .u64 0]) := hLE
  have HLN : Hid (L.length = 6) := hLN
  have HLO : Hid (L.toArray.all (·.oneCell') = true) := tok_one hLE
  have HLJ : Hid ((Tryd.prog.info? 33).map (·.size) = some L.toArray.size) := by show _ = _; rw [List.size_toArray, hLN]; exact info_tok
  have HPE : Hid (LP = [.pointer (some ⟨S, 0, none⟩), .int .u8 5]) := hLP
  have HPN : Hid (LP.length = 2) := by rw [hLP]; rfl
  have HPO : Hid (LP.toArray.all (·.oneCell') = true) := pg_one hLP
  have HPI : Hid ((Tryd.prog.info? 61).map (·.size) = some LP.length) := by rw [HPN.out]; exact info_pg
  have HPJ : Hid ((Tryd.prog.info? 61).map (·.size) = some LP.toArray.size) := by show _ = _; rw [List.size_toArray, HPN.out]; exact info_pg
  have HZN : Hid (LZ.length = 6) := by rw [hLZ]; rfl
  clear hW1 r4 r5 b1 h hq hd hm hRT hLN hLE hLZ hLP
  go_enter Tryd.func24, Tryd.ntmps24
  go_upto_region 1 with fail
  rw [← HW.out]
  clear HW
  go_wp2_with fail
  refine Calls.mono (open_5 S W1) ?_
  rintro e V1 ⟨rfl, hB⟩
  obtain ⟨p7, hp7⟩ : ∃ p, p = V1.heap.size := ⟨_, rfl⟩
  obtain ⟨X, hX, r7, bX⟩ : ∃ X, X = V1.alloc (Obj.cells #[.pointer (some ⟨S, 0, none⟩), .int .u8 5] 61) ∧ Row X p7 LP 61 ∧ Below V1.heap.size V1 X := ⟨_, rfl, Row.new' hp7 (by rw [HPE.out]), (Below.refl _ _).alloc (Nat.le_refl _) _⟩
  have hBX := hB.trans (bX.mono hB.size)
  have hK : Kp W1 X := Kp.of_below hBX
  have HX : Hid (X = _) := hX
  have HP7 : Hid (p7 = V1.heap.size) := hp7
  have R7 : Hid (Row X p7 LP 61) := r7
  have HP7L : Hid (w.heap.size + 1 < p7) := by show _ < _; rw [hp7]; exact Nat.lt_of_lt_of_le R5.out.lt hB.size
  replace R4 : Hid (Row X w.heap.size [.pointer none, .int .u8 0] 61) := hK.row _ _ _ (by decide) R4.out
  replace R5 : Hid (Row X (w.heap.size + 1) LZ 33) := hK.row _ _ _ (by decide) R5.out
  replace HG : Hid (Lg w0 X S q f) := HG.out.be hBX
  replace HK : Hid (Kp w X) := HK.out.trans hK
  clear hB hX r7 bX hBX hK hp7
  go_upto_region 4 with fail
  rw [← HX.out, ← HP7.out]
  clear HX HP7
  have x0 := R7.out.cell 0 _ (by rw [HPE.out]; rfl)
  have x1 := R7.out.cell 1 _ (by rw [HPE.out]; rfl)
  go_wp2_with fail
  refine Calls.mono (kT S X) ?_
  rintro e V2 ⟨rfl, hB⟩
  have hK : Kp X V2 := Kp.of_below hB
  replace R4 : Hid (Row V2 w.heap.size [.pointer none, .int .u8 0] 61) := hK.row _ _ _ (by decide) R4.out
  replace R5 : Hid (Row V2 (w.heap.size + 1) LZ 33) := hK.row _ _ _ (by decide) R5.out
  replace R7 : Hid (Row V2 p7 LP 61) := hK.row _ _ _ (by decide) R7.out
  replace HG : Hid (Lg w0 V2 S q f) := HG.out.be hB
  replace HK : Hid (Kp w V2) := HK.out.trans hK
  clear hB hK x0 x1
  go_wp2_with fail
  refine Calls.mono (get_lg w0 S q f HQ.out tK tk_key m d HD.out HM.out V2 HG.out) ?_
  rintro e V3 ⟨A, cap, rfl, hb, hni, hG, hK⟩
  replace R4 : Hid (Row V3 w.heap.size [.pointer none, .int .u8 0] 61) := hK.row _ _ _ (by decide) R4.out
  replace R5 : Hid (Row V3 (w.heap.size + 1) LZ 33) := hK.row _ _ _ (by decide) R5.out
  replace R7 : Hid (Row V3 p7 LP 61) := hK.row _ _ _ (by decide) R7.out
  replace HG : Hid (Lg w0 V3 S (q + 1) f) := hG
  replace HK : Hid (Kp w V3) := HK.out.trans hK
  have HC : Hid _ := HRT.out A cap V3 hb hni
  clear hb hni hG hK HRT
  go_wp2_with fail
  refine Calls.mono HC.out ?_
  rintro e V4 ⟨rfl, hB⟩
  obtain ⟨p10, hp10⟩ : ∃ p, p = V4.heap.size := ⟨_, rfl⟩
  obtain ⟨Y, hY, r10, bY⟩ : ∃ X, X = (V4.alloc (Obj.cells #[.bool false, .bool false, .int .u64 0, .int .u64 0, .int .u64 0, .int .u64 0] 33)).setCells V4.heap.size 0 L ∧ Row X p10 L 33 ∧ Below V4.heap.size V4 X := ⟨_, rfl, by rw [hp10]; exact Row.over (Row.new' (cs := [.bool false, .bool false, .int .u64 0, .int .u64 0, .int .u64 0, .int .u64 0]) rfl rfl) (by rw [HLN.out]; rfl), below_setCells ((Below.refl V4.heap.size V4).alloc (Nat.le_refl _) _) (Nat.le_refl _) _⟩
  have hBX := hB.trans (bY.mono hB.size)
  have hK : Kp V3 Y := Kp.of_below hBX
  have HY : Hid (Y = _) := hY
  have HP10 : Hid (p10 = V4.heap.size) := hp10
  have R10 : Hid (Row Y p10 L 33) := r10
  have HP10L : Hid (p7 < p10) := by show _ < _; rw [hp10]; exact Nat.lt_of_lt_of_le R7.out.lt hB.size
  have HTH : Hid ((V4.alloc (Obj.cells #[.bool false, .bool false, .int .u64 0, .int .u64 0, .int .u64 0, .int .u64 0] 33)).there V4.heap.size 0 L.toArray.size) := Row.there (Row.new' (cs := [.bool false, .bool false, .int .u64 0, .int .u64 0, .int .u64 0, .int .u64 0]) rfl rfl) 0 _ (by rw [List.size_toArray, HLN.out]; decide)
  replace R4 : Hid (Row Y w.heap.size [.pointer none, .int .u8 0] 61) := hK.row _ _ _ (by decide) R4.out
  replace R5 : Hid (Row Y (w.heap.size + 1) LZ 33) := hK.row _ _ _ (by decide) R5.out
  replace R7 : Hid (Row Y p7 LP 61) := hK.row _ _ _ (by decide) R7.out
  replace HG : Hid (Lg w0 Y S (q + 1) f) := HG.out.be hBX
  replace HK : Hid (Kp w Y) := HK.out.trans hK
  clear hB hY r10 bY hBX hK hp10 HC
  go_upto_region 8 with (refine wpList_store_mid rfl 33 (.tmp 10) (.tmp 37) rfl V4.heap.size 0 L.toArray rfl rfl HTH.out HLJ.out HLO.out ?_; simp only [Act.put]; change wpList _ _ _ _ _ (World.setCells (World.alloc V4 (Obj.cells #[.bool false, .bool false, .int .u64 0, .int .u64 0, .int .u64 0, .int .u64 0] 33)) V4.heap.size 0 L); rw [← HY.out, ← HP10.out])
  clear HY HP10 HTH
  obtain ⟨b4, hb4⟩ : ∃ b, b = w.heap.size := ⟨_, rfl⟩
  obtain ⟨b5, hb5⟩ : ∃ b, b = w.heap.size + 1 := ⟨_, rfl⟩
  have n45 : b4 ≠ b5 := by omega
  have n54 : b5 ≠ b4 := by omega
  have n47 : b4 ≠ p7 := by have := HP7L.out; omega
  have n410 : b4 ≠ p10 := by have := HP7L.out; have := HP10L.out; omega
  have n57 : b5 ≠ p7 := by have := HP7L.out; omega
  have n510 : b5 ≠ p10 := by have := HP7L.out; have := HP10L.out; omega
  have HB4 : Hid (b4 = w.heap.size) := hb4
  have HB5 : Hid (b5 = w.heap.size + 1) := hb5
  rw [← hb4] at R4
  rw [← hb5] at R5
  rw [← hb5, ← hb4]
  clear hb4 hb5
  obtain ⟨Y2, hY2, f4, f5, fG, fK⟩ : ∃ Y2, Y2 = World.drew ((Y.setCells b4 0 LP).setCells b5 0 L) ∧ Row Y2 b4 LP 61 ∧ Row Y2 b5 L 33 ∧ Lg w0 Y2 S (q + 1) f ∧ Kp w Y2 := by
    have u4 := Row.over R4.out (vs := LP) (by rw [HPN.out]; rfl)
    have u5 := Row.setCells_other R5.out b4 0 LP n54
    have w04 : w0.heap.size ≤ b4 := by rw [HB4.out]; exact HW0.out
    have w05 : w0.heap.size ≤ b5 := by rw [HB5.out]; exact Nat.le_succ_of_le HW0.out
    have g1 : Lg w0 (Y.setCells b4 0 LP) S (q + 1) f := HG.out.kept R4.out (by decide) (by decide) (by decide) (by decide) (fun k hk => heap_sets _ _ _ _ _ hk) (below_setCells HG.out.bel w04 _)
    have g2 : Lg w0 ((Y.setCells b4 0 LP).setCells b5 0 L) S (q + 1) f := g1.kept u5 (by decide) (by decide) (by decide) (by decide) (fun k hk => heap_sets _ _ _ _ _ hk) (below_setCells g1.bel w05 _)
    have k1 : Kp w (Y.setCells b4 0 LP) := Kp.kept b4 (by rw [HB4.out]; exact Nat.le_refl _) HK.out (fun k hk => heap_sets _ _ _ _ _ hk) (below_setCells (Below.refl 0 Y) (Nat.zero_le b4) _).size
    have k2 : Kp w ((Y.setCells b4 0 LP).setCells b5 0 L) := Kp.kept b5 (by rw [HB5.out]; exact Nat.le_succ _) k1 (fun k hk => heap_sets _ _ _ _ _ hk) (below_setCells (Below.refl 0 _) (Nat.zero_le b5) _).size
    exact ⟨_, rfl, Row.setCells_other u4 b5 0 _ n45, Row.over u5 (vs := L) (by rw [HLN.out, HZN.out]), g2.be (Below.refl _ _).drew, k2.trans (Kp.of_below (Below.refl _ _).drew)⟩
  have HY2 : Hid (Y2 = _) := hY2
  have F4 : Hid (Row Y2 b4 LP 61) := f4
  have F5 : Hid (Row Y2 b5 L 33) := f5
  have FG : Hid (Lg w0 Y2 S (q + 1) f) := fG
  have FK : Hid (Kp w Y2) := fK
  clear hY2 f4 f5 fG fK
  obtain rfl : L = [.bool th, .bool pa, .int .u64 n, .int .u64 0, .int .u64 0, .int .u64 0] := HLE.out
  obtain rfl : LP = [.pointer (some ⟨S, 0, none⟩), .int .u8 5] := HPE.out
  obtain ⟨z0, z1, z2, z3, z4, z5, rfl⟩ : ∃ l0 l1 l2 l3 l4 l5, LZ = [l0, l1, l2, l3, l4, l5] := by
    have hl := HZN.out
    match LZ, hl with
    | [l0, l1, l2, l3, l4, l5], _ => exact ⟨l0, l1, l2, l3, l4, l5, rfl⟩
  have r4 := R4.out
  have r5 := R5.out
  have r7 := R7.out
  have r10 := R10.out
  have a0 := r4.cell 0 _ rfl
  have a1 := r4.cell 1 _ rfl
  have az0 := r4.thaw 0
  have az1 := r4.thaw 1
  have b0 := r5.cell 0 _ rfl
  have b1 := r5.cell 1 _ rfl
  have b2 := r5.cell 2 _ rfl
  have b3 := r5.cell 3 _ rfl
  have bb4 := r5.cell 4 _ rfl
  have bb5 := r5.cell 5 _ rfl
  have bz0 := r5.thaw 0
  have bz1 := r5.thaw 1
  have bz2 := r5.thaw 2
  have bz3 := r5.thaw 3
  have bz4 := r5.thaw 4
  have bz5 := r5.thaw 5
  have x0 := r7.cell 0 _ rfl
  have x1 := r7.cell 1 _ rfl
  have y0 := r10.cell 0 _ rfl
  have y1 := r10.cell 1 _ rfl
  have y2 := r10.cell 2 _ rfl
  have y3 := r10.cell 3 _ rfl
  have y4 := r10.cell 4 _ rfl
  have y5 := r10.cell 5 _ rfl
  clear r4 r5 r7 r10
  go_region
  all_goals
    go_wp2_with fail
    change bodyPost _ _ _ _ _ (World.drew ((Y.setCells b4 0 [.pointer (some ⟨S, 0, none⟩), .int .u8 5]).setCells b5 0 [.bool th, .bool pa, .int .u64 n, .int .u64 0, .int .u64 0, .int .u64 0]))
    rw [← HY2.out]
    exact bodyPost_ret (results_rowSS_tmp Tryd.results24 _ _ b4 b5 61 33 [.pointer (some ⟨S, 0, none⟩), .int .u8 5] [.bool th, .bool pa, .int .u64 n, .int .u64 0, .int .u64 0, .int .u64 0] (.int .i64 0) rfl rfl rfl F4.out F5.out Tryd.underlying61 Tryd.underlying33 info_pg info_tok) rfl ⟨rfl, FG.out, FK.out⟩

end Go.Proofs.YtojmhmnpidhfjaaDoor
