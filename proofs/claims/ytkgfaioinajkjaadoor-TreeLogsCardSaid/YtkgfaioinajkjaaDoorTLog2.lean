/-
  The root of a log.
-/
import Derived.Test.YtkgfaioinajkjaaDoorTLog1
namespace Go.Proofs.YtkgfaioinajkjaaDoor
open Go Go.RowKit
open Sha

section
variable {P : Program} {ops : Array Oper} {rest : List Oper} {op : Oper} {a : Act} {w : World} {Q : Exit → Act → World → Prop}
theorem wpList_index_s (hw : Region.wanted op (yielded ops a.tmps) = true) (T e : TypeId) (x y : Operand) (ho : op.op = .indexAddr T x y) (b f n c t s : Nat) (hx : a.eval x = .slice (some ⟨b, f, none⟩) n c) (hy : a.eval y = .int .i64 (t : Int)) (ht : t < n)
    (hu : P.underlying T = some (.slice e)) (hs : (P.info? e).map (·.size) = some s) (h : wpList P ops Q rest (a.put op.dst (.pointer (some ⟨b, f + t * s, none⟩))) w) : wpList P ops Q (op :: rest) a w :=
  BigFrame.wpList_want hw fun _ hK => wp_index_s T e ho b f n c t s hx hy ht hu hs (hK _ _ h)
end
theorem dl_info {d : List (BitVec 8)} (h : d.length = 32) : (Tryd.prog.info? 42).map (·.size) = some (vB d).length := by rw [info_dig]; simp [vB_length, h]
theorem dl_info' {d : List (BitVec 8)} (h : d.length = 32) : (Tryd.prog.info? 42).map (·.size) = some (vB d).toArray.size := by rw [info_dig]; simp [vB_length, h]
theorem nd_len (l r : List (BitVec 8)) : (nd l r).length = 32 := dig_length _
theorem fold_len (G : List (List (BitVec 8))) (z : List (BitVec 8)) (hz : z.length = 32) : (G.foldr nd z).length = 32 := by
  cases G with
  | nil => exact hz
  | cons d r => exact nd_len _ _
theorem drop_more (G : List (List (BitVec 8))) (k : Nat) (hk : k < G.length) : G.drop k = G.getD k [] :: G.drop (k + 1) := by
  rw [List.drop_eq_getElem_cons hk, List.getD_eq_getElem?_getD, List.getElem?_eq_getElem hk]; rfl
theorem getD_pre (G : List (List (BitVec 8))) (z : List (BitVec 8)) (k : Nat) (hk : k < G.length) : (G ++ [z]).getD k [] = G.getD k [] := by
  simp [List.getElem?_append_left hk]
theorem getD_last (G : List (List (BitVec 8))) (z : List (BitVec 8)) : (G ++ [z]).getD G.length [] = z := by
  simp

set_option maxRecDepth 100000 in
set_option maxHeartbeats 4000000 in
theorem lroot_some (P m : Nat) (v : Value) (G : List (List (BitVec 8))) (z : List (BitVec 8)) (L : Nat) (hL0 : G.length = L) (hLs : L ≤ 100) (dr : List (BitVec 8)) (hdr : dr = G.foldr nd z) (w : World) (hK : Tab w 4) (h : Lg w P m v (G ++ [z])) :
    Calls Tryd.prog 12 #[.pointer (some ⟨P, 0, none⟩)] w fun e w' => e = .returned (.agg (vB dr).toArray) ∧ Below w.heap.size w w' := by
  have hz : z.length = 32 := h.dl z (by simp)
  have hGd : ∀ d ∈ G, d.length = 32 := fun d hd => h.dl d (List.mem_append_left _ hd)
  have hlen : (G ++ [z]).length = L + 1 := by simp [hL0]
  have ho := h.own
  rw [hlen] at ho
  obtain ⟨g, cap, hv⟩ := ho.open (by omega)
  subst hv
  have HR0 : Hid (∀ W, Below w.heap.size w W → ∀ k, k < L + 1 → W.rangeAt g (0 + k * 32) (vB ((G ++ [z]).getD k []))) := fun W hB k hk => by rw [Nat.zero_add]; exact (ho.be hB).at hlen h.dl k hk
  have HKT : Hid (∀ W, Below w.heap.size w W → Tab W 4) := fun W hB => hK.below hB hK.lt
  have hLr := h.row
  have HGL : Hid (G.length = L) := hL0
  have HGD : Hid (∀ d ∈ G, d.length = 32) := hGd
  have HZ : Hid (z.length = 32) := hz
  have HDR : Hid (dr = G.foldr nd z) := hdr
  have HDRL : Hid (dr.length = 32) := by show _ = _; rw [hdr]; exact fold_len G z hz
  have HR1 : Hid ((w.alloc (Obj.cells (vB (List.replicate 32 0#8)).toArray 42)).rangeAt g (0 + L * 32) (vB z)) := by
    have q := HR0.out _ ((Below.refl w.heap.size w).alloc (Nat.le_refl _) (Obj.cells (vB (List.replicate 32 0#8)).toArray 42)) L (by omega)
    rw [← hL0, getD_last] at q
    rw [← hL0]; exact q
  have HLP : Hid (Row w P [.int .i64 (m : Int), .slice (some ⟨g, 0, none⟩) (L + 1) cap] tL) := hLr
  have hPw : P < w.heap.size := hLr.lt
  have g1 := (hLr.alloc (Obj.cells #[.int .u8 0, .int .u8 0, .int .u8 0, .int .u8 0, .int .u8 0, .int .u8 0, .int .u8 0, .int .u8 0, .int .u8 0, .int .u8 0, .int .u8 0, .int .u8 0, .int .u8 0, .int .u8 0, .int .u8 0, .int .u8 0, .int .u8 0, .int .u8 0, .int .u8 0, .int .u8 0, .int .u8 0, .int .u8 0, .int .u8 0, .int .u8 0, .int .u8 0, .int .u8 0, .int .u8 0, .int .u8 0, .int .u8 0, .int .u8 0, .int .u8 0, .int .u8 0] 42)).cell 1 _ rfl
  have c1 : ¬ ((L : Int) < 0) := by omega
  have e1 : ((L + 1 : Nat) : Int) - 1 = (L : Int) := by omega
  clear h ho hlen hz hGd hL0 hK hLr hdr
  go_enter Tryd.func12, Tryd.ntmps12
  go_wp2_with (first
    | (refine wpList_index_s rfl 26 42 (.tmp 21) (.tmp 22) rfl g 0 (L + 1) cap L 32 rfl rfl (Nat.lt_succ_self L) Tryd.underlying26 info_dig ?_; simp only [Act.put, List.setIfInBounds_toArray, List.set_cons_zero, List.set_cons_succ])
    | (refine wpList_load_w rfl 42 (.tmp 23) rfl g (0 + L * 32) rfl (vB z) _ HR1.out Tryd.underlying42 rfl (dl_info HZ.out) ?_; simp only [Act.put, List.setIfInBounds_toArray, List.set_cons_zero, List.set_cons_succ])
    | (refine wpList_store_mid rfl 42 (.tmp 4) (.tmp 24) rfl (w.heap.size + 1) 0 (vB z).toArray rfl rfl (Row.there (Row.new' (cs := (vB (List.replicate 32 0#8))) (by simp) rfl) 0 _ (by simp [vB_length, HZ.out])) (dl_info' HZ.out) (all_oneCell_toArray (vB_one z)) ?_; simp only [Act.put]))
  generalize hW : World.setCells _ (w.heap.size + 1) 0 _ = W1
  have b1 : Below w.heap.size w ((w.alloc (Obj.cells #[.int .u8 0, .int .u8 0, .int .u8 0, .int .u8 0, .int .u8 0, .int .u8 0, .int .u8 0, .int .u8 0, .int .u8 0, .int .u8 0, .int .u8 0, .int .u8 0, .int .u8 0, .int .u8 0, .int .u8 0, .int .u8 0, .int .u8 0, .int .u8 0, .int .u8 0, .int .u8 0, .int .u8 0, .int .u8 0, .int .u8 0, .int .u8 0, .int .u8 0, .int .u8 0, .int .u8 0, .int .u8 0, .int .u8 0, .int .u8 0, .int .u8 0, .int .u8 0] 42)).alloc (Obj.cells #[.int .u8 0, .int .u8 0, .int .u8 0, .int .u8 0, .int .u8 0, .int .u8 0, .int .u8 0, .int .u8 0, .int .u8 0, .int .u8 0, .int .u8 0, .int .u8 0, .int .u8 0, .int .u8 0, .int .u8 0, .int .u8 0, .int .u8 0, .int .u8 0, .int .u8 0, .int .u8 0, .int .u8 0, .int .u8 0, .int .u8 0, .int .u8 0, .int .u8 0, .int .u8 0, .int .u8 0, .int .u8 0, .int .u8 0, .int .u8 0, .int .u8 0, .int .u8 0] 42)) := by
    have q := (Below.refl w.heap.size w).alloc (Nat.le_refl _) (Obj.cells #[.int .u8 0, .int .u8 0, .int .u8 0, .int .u8 0, .int .u8 0, .int .u8 0, .int .u8 0, .int .u8 0, .int .u8 0, .int .u8 0, .int .u8 0, .int .u8 0, .int .u8 0, .int .u8 0, .int .u8 0, .int .u8 0, .int .u8 0, .int .u8 0, .int .u8 0, .int .u8 0, .int .u8 0, .int .u8 0, .int .u8 0, .int .u8 0, .int .u8 0, .int .u8 0, .int .u8 0, .int .u8 0, .int .u8 0, .int .u8 0, .int .u8 0, .int .u8 0] 42)
    exact q.alloc q.size _
  have r4 : Row W1 (w.heap.size + 1) (vB z) 42 := by
    rw [← hW]
    exact Row.over (Row.new' (cs := (vB (List.replicate 32 0#8))) (by simp) rfl) (vs := vB z) (by rw [vB_length, HZ.out]; rfl)
  have r2 : Row W1 w.heap.size (vB (List.replicate 32 0#8)) 42 := by
    rw [← hW]
    exact Row.setCells_other ((Row.new' rfl rfl).alloc _) _ _ _ (by omega)
  have hb1 : Below w.heap.size w W1 := by rw [← hW]; exact below_setCells b1 (by omega) _
  have hL := Row.below HLP.out hb1 HLP.out.lt
  clear hW b1 g1 HR1 HLP
  go_loopw [26] (fun i wr => ∃ t : Nat, t ≤ L ∧ i = .int .i64 (t : Int) ∧ Row wr (w.heap.size + 1) (vB ((G.drop (L - t)).foldr nd z)) 42 ∧ Row wr w.heap.size (vB (List.replicate 32 0#8)) 42 ∧ Row wr P [.int .i64 (m : Int), .slice (some ⟨g, 0, none⟩) (L + 1) cap] tL ∧ Below w.heap.size w wr) (fun i _ => L - (intOf i).toNat)
  case atStart =>
    refine ⟨0, Nat.zero_le _, rfl, ?_, r2, hL, hb1⟩
    rw [Nat.sub_zero, List.drop_of_length_le (by rw [HGL.out]; exact Nat.le_refl _)]
    exact r4
  case round =>
    clear r4 r2 hL hb1
    obtain ⟨t, ht, rfl, r4, r2, hL, hb1⟩ := hrel
    by_cases hlt : t < L
    · obtain ⟨cur, hcur⟩ : ∃ cur, cur = (G.drop (L - t)).foldr nd z := ⟨_, rfl⟩
      obtain ⟨x, hx⟩ : ∃ x, x = G.getD (L - 1 - t) [] := ⟨_, rfl⟩
      obtain ⟨dd, hdd⟩ : ∃ dd, dd = nd x cur := ⟨_, rfl⟩
      have hnext : (G.drop (L - (t + 1))).foldr nd z = dd := by
        have hG := HGL.out
        rw [show L - (t + 1) = L - 1 - t by omega, drop_more G (L - 1 - t) (by omega), show L - 1 - t + 1 = L - t by omega, hdd, hx, hcur]
        rfl
      have HNX : Hid _ := hnext
      have HC0 : Hid (cur.length = 32) := by show _ = _; rw [hcur]; exact fold_len _ _ HZ.out
      have HX0 : Hid (x.length = 32) := by
        show _ = _
        have hG := HGL.out
        rw [hx, List.getD_eq_getElem?_getD, List.getElem?_eq_getElem (by omega)]
        exact HGD.out _ (List.getElem_mem _)
      have HDL : Hid (dd.length = 32) := by show _ = _; rw [hdd]; exact nd_len _ _
      have HD : Hid (dd = dig ([1#8] ++ (x ++ cur))) := hdd
      have HIC : Hid ((Tryd.prog.info? 42).map (·.size) = some (vB cur).length) := dl_info HC0.out
      have HIX : Hid ((Tryd.prog.info? 42).map (·.size) = some (vB x).length) := dl_info HX0.out
      have HID : Hid ((Tryd.prog.info? 42).map (·.size) = some (vB dd).toArray.size) := dl_info' HDL.out
      have HL1 : Hid (1 ≤ L) := by show _ ≤ _; omega
      have HLL : Hid (L < 4611686018427387904) := by show _ < _; omega
      have HLL1 : Hid (L - 1 < 4611686018427387904) := by show _ < _; omega
      have HTL : Hid (t ≤ L - 1) := by show _ ≤ _; omega
      have HKL : Hid (L - 1 - t < L + 1) := by show _ < _; omega
      have HR : Hid (∀ W, Below w.heap.size w W → W.rangeAt g (0 + (L - 1 - t) * 32) (vB x)) := fun W hB => by
        have q := HR0.out W hB (L - 1 - t) HKL.out
        have hG := HGL.out
        rw [getD_pre G z _ (by omega), ← hx] at q; exact q
      rw [← hcur] at r4
      clear hnext hx hdd hcur
      go_wp2_with fail
      refine wp_named fun a0 ha0 => ?_
      have hsz : a0.tmps.size = 43 := by rw [ha0]; rfl
      have zs0 : a0.eval (.tmp 0) = .pointer (some ⟨P, 0, none⟩) := by rw [ha0]; rfl
      have zs3 : a0.eval (.tmp 3) = .int .i64 (L : Int) := by rw [ha0]; rfl
      have zs4 : a0.eval (.tmp 4) = .pointer (some ⟨w.heap.size + 1, 0, none⟩) := by rw [ha0]; rfl
      have zs5 : a0.eval (.tmp 5) = .int .i64 (t : Int) := by rw [ha0]; rfl
      obtain ⟨D, hD⟩ : ∃ D : List (Tmp × SP), D = [(29, SP.is (.pointer (some ⟨P, 0, none⟩))), (30, SP.is (.pointer (some ⟨P, 0, none⟩))), (31, SP.is (.pointer (some ⟨P, 1, none⟩))), (32, SP.is (.slice (some ⟨g, 0, none⟩) (L + 1) cap)), (33, SP.is (.int .i64 (L : Int))), (34, SP.is (.int .i64 ((L - 1 : Nat) : Int))), (35, SP.is (.int .i64 (t : Int))), (36, SP.is (.int .i64 ((L - 1 - t : Nat) : Int))), (37, SP.is (.pointer (some ⟨g, 0 + (L - 1 - t) * 32, none⟩))), (38, SP.is (.agg (vB x).toArray)), (39, SP.is (.agg (vB cur).toArray)), (40, SP.is (.agg (vB dd).toArray)), (1000, SP.any)] := ⟨_, rfl⟩
      refine wp_region_down (by kernel_rfl) (fun listed ac W => listed.size = 13 ∧ Fp D a0 listed ac W ∧ Below w.heap.size w W ∧ Row W ((w.heap.size + 1)) (if listed.getD 12 false = true then (vB dd) else (vB cur)) 42 ∧ Row W P ([.int .i64 (m : Int), .slice (some ⟨g, 0, none⟩) (L + 1) cap]) tL ∧ Row W w.heap.size ((vB (List.replicate 32 0#8))) 42) ?_ ?_ ?_
      · exact ⟨by simp, Fp.start D a0 _ _, Below.drew hb1, (by rw [if_neg (fun h => start_no h)]; exact Row.drew r4), Row.drew hL, Row.drew r2⟩
      · clear ha0 hb1 r4 hL r2 
        intro listed ac W k hI hdn hk
        obtain ⟨hl, hF, hb1, r4, hL, r2⟩ := hI
        have hk1 : k < 13 := List.mem_range.1 (List.mem_filter.1 hk).1
        have hl2 : ∀ j, (listed.setIfInBounds j true).size = 13 := fun j => by rw [Array.size_setIfInBounds]; exact hl
        rcases (show k = 0 ∨ k = 1 ∨ k = 2 ∨ k = 3 ∨ k = 4 ∨ k = 5 ∨ k = 6 ∨ k = 7 ∨ k = 8 ∨ k = 9 ∨ k = 10 ∨ k = 11 ∨ k = 12 by omega) with rfl | rfl | rfl | rfl | rfl | rfl | rfl | rfl | rfl | rfl | rfl | rfl | rfl
        · have hk3 := hk
          exact wpOp_plain rfl rfl (wp_move_v (ac.eval (.tmp 0)) rfl rfl ⟨hl2 0, (hF.put 0 29 (SP.is (.pointer (some ⟨P, 0, none⟩))) (ac.eval (.tmp 0)) (by rw [hD]; rfl) (((hF.keep 0 (by rw [hD]; rfl)).trans zs0)) (by rw [hD]; rfl) (by rw [hsz]; decide) (by rw [hl]; decide)), hb1, (by rw [getD_set _ _ _ (by decide)]; exact r4), hL, r2⟩)
        · have hk3 := hk
          have ea := (hF.done 0 (29, SP.is (.pointer (some ⟨P, 0, none⟩))) (by rw [hD]; rfl) (ready_dep hk 0 (by kernel_rfl)))
          exact wpOp_plain rfl rfl (wp_nilck P 0 rfl ea ⟨hl2 1, (hF.put 1 30 (SP.is (.pointer (some ⟨P, 0, none⟩))) (.pointer (some ⟨P, 0, none⟩)) (by rw [hD]; rfl) rfl (by rw [hD]; rfl) (by rw [hsz]; decide) (by rw [hl]; decide)), hb1, (by rw [getD_set _ _ _ (by decide)]; exact r4), hL, r2⟩)
        · have hk3 := hk
          have ea := (hF.done 1 (30, SP.is (.pointer (some ⟨P, 0, none⟩))) (by rw [hD]; rfl) (ready_dep hk 1 (by kernel_rfl)))
          exact wpOp_plain rfl rfl (wp_lf1 P rfl ea ⟨hl2 2, (hF.put 2 31 (SP.is (.pointer (some ⟨P, 1, none⟩))) (.pointer (some ⟨P, 1, none⟩)) (by rw [hD]; rfl) rfl (by rw [hD]; rfl) (by rw [hsz]; decide) (by rw [hl]; decide)), hb1, (by rw [getD_set _ _ _ (by decide)]; exact r4), hL, r2⟩)
        · have hk3 := hk
          have ea := (hF.done 2 (31, SP.is (.pointer (some ⟨P, 1, none⟩))) (by rw [hD]; rfl) (ready_dep hk 2 (by kernel_rfl)))
          exact wpOp_plain rfl rfl (wp_load_1 P 1 (.slice (some ⟨g, 0, none⟩) (L + 1) cap) rfl ea (run_load_ds W P 1 _ (hL.cell 1 _ rfl)) ⟨hl2 3, (hF.put 3 32 (SP.is (.slice (some ⟨g, 0, none⟩) (L + 1) cap)) (.slice (some ⟨g, 0, none⟩) (L + 1) cap) (by rw [hD]; rfl) rfl (by rw [hD]; rfl) (by rw [hsz]; decide) (by rw [hl]; decide)), hb1, (by rw [getD_set _ _ _ (by decide)]; exact r4), hL, r2⟩)
        · have hk3 := hk
          exact wpOp_plain rfl rfl (wp_move_v (ac.eval (.tmp 3)) rfl rfl ⟨hl2 4, (hF.put 4 33 (SP.is (.int .i64 (L : Int))) (ac.eval (.tmp 3)) (by rw [hD]; rfl) (((hF.keep 3 (by rw [hD]; rfl)).trans zs3)) (by rw [hD]; rfl) (by rw [hsz]; decide) (by rw [hl]; decide)), hb1, (by rw [getD_set _ _ _ (by decide)]; exact r4), hL, r2⟩)
        · have hk3 := hk
          have ea := (hF.done 4 (33, SP.is (.int .i64 (L : Int))) (by rw [hD]; rfl) (ready_dep hk 4 (by kernel_rfl)))
          exact wpOp_plain rfl rfl (wp_subc_v _ _ rfl ea HL1.out HLL.out ⟨hl2 5, (hF.put 5 34 (SP.is (.int .i64 ((L - 1 : Nat) : Int))) (.int .i64 ((L - 1 : Nat) : Int)) (by rw [hD]; rfl) rfl (by rw [hD]; rfl) (by rw [hsz]; decide) (by rw [hl]; decide)), hb1, (by rw [getD_set _ _ _ (by decide)]; exact r4), hL, r2⟩)
        · have hk3 := hk
          exact wpOp_plain rfl rfl (wp_move_v (ac.eval (.tmp 5)) rfl rfl ⟨hl2 6, (hF.put 6 35 (SP.is (.int .i64 (t : Int))) (ac.eval (.tmp 5)) (by rw [hD]; rfl) (((hF.keep 5 (by rw [hD]; rfl)).trans zs5)) (by rw [hD]; rfl) (by rw [hsz]; decide) (by rw [hl]; decide)), hb1, (by rw [getD_set _ _ _ (by decide)]; exact r4), hL, r2⟩)
        · have hk3 := hk
          have ea := (hF.done 5 (34, SP.is (.int .i64 ((L - 1 : Nat) : Int))) (by rw [hD]; rfl) (ready_dep hk 5 (by kernel_rfl)))
          have eb := (hF.done 6 (35, SP.is (.int .i64 (t : Int))) (by rw [hD]; rfl) (ready_dep hk 6 (by kernel_rfl)))
          exact wpOp_plain rfl rfl (wp_sub_v _ _ rfl ea eb HTL.out HLL1.out ⟨hl2 7, (hF.put 7 36 (SP.is (.int .i64 ((L - 1 - t : Nat) : Int))) (.int .i64 ((L - 1 - t : Nat) : Int)) (by rw [hD]; rfl) rfl (by rw [hD]; rfl) (by rw [hsz]; decide) (by rw [hl]; decide)), hb1, (by rw [getD_set _ _ _ (by decide)]; exact r4), hL, r2⟩)
        · have hk3 := hk
          have ea := (hF.done 3 (32, SP.is (.slice (some ⟨g, 0, none⟩) (L + 1) cap)) (by rw [hD]; rfl) (ready_dep hk 3 (by kernel_rfl)))
          have eb := (hF.done 7 (36, SP.is (.int .i64 ((L - 1 - t : Nat) : Int))) (by rw [hD]; rfl) (ready_dep hk 7 (by kernel_rfl)))
          exact wpOp_plain rfl rfl (wp_index_s 26 42 rfl g 0 (L + 1) cap (L - 1 - t) 32 ea eb HKL.out Tryd.underlying26 info_dig ⟨hl2 8, (hF.put 8 37 (SP.is (.pointer (some ⟨g, 0 + (L - 1 - t) * 32, none⟩))) (.pointer (some ⟨g, 0 + (L - 1 - t) * 32, none⟩)) (by rw [hD]; rfl) rfl (by rw [hD]; rfl) (by rw [hsz]; decide) (by rw [hl]; decide)), hb1, (by rw [getD_set _ _ _ (by decide)]; exact r4), hL, r2⟩)
        · have hk3 := hk
          have ea := (hF.done 8 (37, SP.is (.pointer (some ⟨g, 0 + (L - 1 - t) * 32, none⟩))) (by rw [hD]; rfl) (ready_dep hk 8 (by kernel_rfl)))
          exact wpOp_plain rfl rfl (wp_load_mid 42 (.tmp 37) rfl g (0 + (L - 1 - t) * 32) ea (vB x) _ (HR.out W hb1) Tryd.underlying42 rfl HIX.out ⟨hl2 9, (hF.put 9 38 (SP.is (.agg (vB x).toArray)) (.agg (vB x).toArray) (by rw [hD]; rfl) rfl (by rw [hD]; rfl) (by rw [hsz]; decide) (by rw [hl]; decide)), hb1, (by rw [getD_set _ _ _ (by decide)]; exact r4), hL, r2⟩)
        · have hk3 := hk
          have ea := ((hF.keep 4 (by rw [hD]; rfl)).trans zs4)
          exact wpOp_plain rfl rfl (wp_load_mid 42 (.tmp 4) rfl (w.heap.size + 1) 0 ea (vB cur) _ (Row.all (by have h9 := r4; rw [if_neg (fun h => not_yet hk (hdn 12 h 10 (by kernel_rfl)))] at h9; exact h9)) Tryd.underlying42 rfl HIC.out ⟨hl2 10, (hF.put 10 39 (SP.is (.agg (vB cur).toArray)) (.agg (vB cur).toArray) (by rw [hD]; rfl) rfl (by rw [hD]; rfl) (by rw [hsz]; decide) (by rw [hl]; decide)), hb1, (by rw [getD_set _ _ _ (by decide)]; exact r4), hL, r2⟩)
        · have hk3 := hk
          have ea := (hF.done 9 (38, SP.is (.agg (vB x).toArray)) (by rw [hD]; rfl) (ready_dep hk 9 (by kernel_rfl)))
          have eb := (hF.done 10 (39, SP.is (.agg (vB cur).toArray)) (by rw [hD]; rfl) (ready_dep hk 10 (by kernel_rfl)))
          refine wpOp_plain rfl rfl (wp_fcall_v 27 #[.agg (vB x).toArray, .agg (vB cur).toArray] rfl rfl (by show [ac.eval (.tmp 38), ac.eval (.tmp 39)] = _; rw [show ac.eval (.tmp 38) = _ from ea, show ac.eval (.tmp 39) = _ from eb]) (by go_simp) ((node_any x cur dd HX0.out HC0.out HD.out W (HKT.out W hb1)).mono ?_))
          rintro e W2 ⟨rfl, hB⟩
          exact ⟨_, rfl, hl2 11, ((hF.world hB).put 11 40 (SP.is (.agg (vB dd).toArray)) (.agg (vB dd).toArray) (by rw [hD]; rfl) rfl (by rw [hD]; rfl) (by rw [hsz]; decide) (by rw [hl]; decide)), hb1.trans (hB.mono hb1.size), (by rw [getD_set _ _ _ (by decide)]; exact Row.below r4 hB (Row.lt r4)), Row.below hL hB (Row.lt hL), Row.below r2 hB (Row.lt r2)⟩
        · have hk3 := hk
          have hno : ¬ listed.getD 12 false = true := not_yet hk
          rw [if_neg hno] at r4
          have T := r4.there 0 (vB dd).toArray.size (by simp [vB_length, HC0.out, HDL.out])
          have fin := r4.over (vs := (vB dd)) (by rw [vB_length, vB_length, HC0.out, HDL.out])
          have hT : Fp D a0 listed ac (W.setCells ((w.heap.size + 1)) 0 (vB dd)) := hF.turn (by rw [hD]; simp only [List.forall_mem_cons, List.not_mem_nil, false_implies, implies_true, and_true]; exact ⟨fun _ h => h, fun _ h => h, fun _ h => h, fun _ h => h, fun _ h => h, fun _ h => h, fun _ h => h, fun _ h => h, fun _ h => h, fun _ h => h, fun _ h => h, fun _ h => h, fun _ h => h⟩)
          exact wpOp_plain rfl rfl (wp_store_mid 42 (.tmp 4) (.tmp 40) rfl ((w.heap.size + 1)) 0 (vB dd).toArray ((hF.keep 4 (by rw [hD]; rfl)).trans zs4) (hF.done 11 (40, SP.is (.agg (vB dd).toArray)) (by rw [hD]; rfl) (ready_dep hk 11 (by kernel_rfl))) T HID.out (all_oneCell_toArray (vB_one dd)) ⟨hl2 12, (hT.skip 12 1000 (by rw [hD]; rfl) (by rw [hl]; decide)), below_setCells hb1 (by omega) _, (by rw [if_pos (getD_same (by rw [hl]; decide))]; exact fin), Row.setCells_other hL _ _ _ (by omega), Row.setCells_other r2 _ _ _ (by omega)⟩)
      · clear hb1 r4 hL r2 
        intro listed ac W hI hr
        obtain ⟨hl, hF, hb1, r4, hL, r2⟩ := hI
        have hall := all_listed (by kernel_rfl) hl hr
        rw [if_pos (hall 12 (by decide))] at r4
        have h29 : ac.eval (.tmp 29) = .pointer (some ⟨P, 0, none⟩) := hF.done 0 (29, SP.is (.pointer (some ⟨P, 0, none⟩))) (by rw [hD]; rfl) (hall 0 (by decide))
        have h30 : ac.eval (.tmp 30) = .pointer (some ⟨P, 0, none⟩) := hF.done 1 (30, SP.is (.pointer (some ⟨P, 0, none⟩))) (by rw [hD]; rfl) (hall 1 (by decide))
        have h31 : ac.eval (.tmp 31) = .pointer (some ⟨P, 1, none⟩) := hF.done 2 (31, SP.is (.pointer (some ⟨P, 1, none⟩))) (by rw [hD]; rfl) (hall 2 (by decide))
        have h32 : ac.eval (.tmp 32) = .slice (some ⟨g, 0, none⟩) (L + 1) cap := hF.done 3 (32, SP.is (.slice (some ⟨g, 0, none⟩) (L + 1) cap)) (by rw [hD]; rfl) (hall 3 (by decide))
        have h33 : ac.eval (.tmp 33) = .int .i64 (L : Int) := hF.done 4 (33, SP.is (.int .i64 (L : Int))) (by rw [hD]; rfl) (hall 4 (by decide))
        have h34 : ac.eval (.tmp 34) = .int .i64 ((L - 1 : Nat) : Int) := hF.done 5 (34, SP.is (.int .i64 ((L - 1 : Nat) : Int))) (by rw [hD]; rfl) (hall 5 (by decide))
        have h35 : ac.eval (.tmp 35) = .int .i64 (t : Int) := hF.done 6 (35, SP.is (.int .i64 (t : Int))) (by rw [hD]; rfl) (hall 6 (by decide))
        have h36 : ac.eval (.tmp 36) = .int .i64 ((L - 1 - t : Nat) : Int) := hF.done 7 (36, SP.is (.int .i64 ((L - 1 - t : Nat) : Int))) (by rw [hD]; rfl) (hall 7 (by decide))
        have h37 : ac.eval (.tmp 37) = .pointer (some ⟨g, 0 + (L - 1 - t) * 32, none⟩) := hF.done 8 (37, SP.is (.pointer (some ⟨g, 0 + (L - 1 - t) * 32, none⟩))) (by rw [hD]; rfl) (hall 8 (by decide))
        have h38 : ac.eval (.tmp 38) = .agg (vB x).toArray := hF.done 9 (38, SP.is (.agg (vB x).toArray)) (by rw [hD]; rfl) (hall 9 (by decide))
        have h39 : ac.eval (.tmp 39) = .agg (vB cur).toArray := hF.done 10 (39, SP.is (.agg (vB cur).toArray)) (by rw [hD]; rfl) (hall 10 (by decide))
        have h40 : ac.eval (.tmp 40) = .agg (vB dd).toArray := hF.done 11 (40, SP.is (.agg (vB dd).toArray)) (by rw [hD]; rfl) (hall 11 (by decide))
        have ea := hF.lay [(29, .pointer (some ⟨P, 0, none⟩)), (30, .pointer (some ⟨P, 0, none⟩)), (31, .pointer (some ⟨P, 1, none⟩)), (32, .slice (some ⟨g, 0, none⟩) (L + 1) cap), (33, .int .i64 (L : Int)), (34, .int .i64 ((L - 1 : Nat) : Int)), (35, .int .i64 (t : Int)), (36, .int .i64 ((L - 1 - t : Nat) : Int)), (37, .pointer (some ⟨g, 0 + (L - 1 - t) * 32, none⟩)), (38, .agg (vB x).toArray), (39, .agg (vB cur).toArray), (40, .agg (vB dd).toArray)] (by rw [hD, hsz]; rfl) (by simp only [List.forall_mem_cons, List.not_mem_nil, false_implies, implies_true, and_true]; exact ⟨h29, h30, h31, h32, h33, h34, h35, h36, h37, h38, h39, h40⟩)
        rw [ha0] at ea
        simp only [List.foldl_cons, List.foldl_nil, List.setIfInBounds_toArray, List.set_cons_zero, List.set_cons_succ] at ea
        clear hF hall hr hl hD  zs0 zs3 zs4 zs5 ha0 hsz h29 h30 h31 h32 h33 h34 h35 h36 h37 h38 h39 h40
        subst ea
        go_wp2_with fail
        exact ⟨⟨t + 1, hlt, by go_num, by rw [HNX.out]; exact r4, r2, hL, hb1⟩, by simp [intOf]; omega⟩
    · obtain rfl : t = L := by omega
      have HE : Hid (dr = (G.drop (t - t)).foldr nd z) := by show _ = _; rw [HDR.out, Nat.sub_self, List.drop_zero]
      rw [← HE.out] at r4
      go_wp2_with (first
        | (refine wpList_load_w rfl 42 (.tmp 4) rfl (w.heap.size + 1) 0 rfl (vB dr) _ r4.all Tryd.underlying42 rfl (dl_info HDRL.out) ?_; simp only [Act.put, List.setIfInBounds_toArray, List.set_cons_zero, List.set_cons_succ])
        | (refine wpList_store_mid rfl 42 (.tmp 2) (.tmp 42) rfl w.heap.size 0 (vB dr).toArray rfl rfl (Row.there r2 0 _ (by simp [vB_length, HDRL.out])) (dl_info' HDRL.out) (all_oneCell_toArray (vB_one dr)) ?_; simp only [Act.put]))
      have nf := r2.over (vs := vB dr) (by rw [vB_length, HDRL.out]; rfl)
      have nB := below_setCells hb1 (b := w.heap.size) (o := 0) (Nat.le_refl _) (vB dr)
      exact bodyPost_ret (results_row Tryd.results12 _ _ w.heap.size 42 (vB dr) rfl nf Tryd.underlying42 info_dig (by rw [vB_length, HDRL.out])) rfl ⟨rfl, nB⟩

end Go.Proofs.YtkgfaioinajkjaaDoor
