/-
  OutboxBooks: the law's book of paths: its state; keepsPath.
-/
import Derived.Test.YtdicgenhfmhklaaGreatDoorBkG
import Derived.BigQuiet

namespace Go.Proofs.YtdicgenhfmhklaaGreatDoor
open Go Go.RowKit
open Sha

/-- What the owner of path i writes. -/
def mk4 (i : Nat) : List (BitVec 8) := 7#8 :: BitVec.ofNat 8 (i / 65536) :: BitVec.ofNat 8 (i / 256 % 256) :: BitVec.ofNat 8 (i % 256) :: List.replicate 28 0#8
theorem mk4_len (i : Nat) : (mk4 i).length = 32 := rfl
theorem c_of (x : Nat) (h : x < 256) : c (BitVec.ofNat 8 x) = (x : Int) := by
  unfold c
  rw [BitVec.toNat_ofNat, Nat.mod_eq_of_lt (by omega)]
theorem built_m4 (x y z : Int) (cs : List Value) (h : cs = .int .u8 7 :: .int .u8 x :: .int .u8 y :: .int .u8 z :: List.replicate 28 (.int .u8 0)) : Tryz.prog.built 44 [(0, .int .u8 7), (1, .int .u8 x), (2, .int .u8 y), (3, .int .u8 z)] = some cs.toArray := by
  subst h
  kernel_rfl
theorem vB_mk4 (i : Nat) (hi : i ≤ 4000000) : vB (mk4 i) = .int .u8 7 :: .int .u8 ((i / 65536 : Nat) : Int) :: .int .u8 ((i / 256 % 256 : Nat) : Int) :: .int .u8 ((i % 256 : Nat) : Int) :: List.replicate 28 (.int .u8 0) := by
  unfold mk4 vB
  simp only [List.map_cons, List.map_replicate]
  rw [c_of (i / 65536) (by omega), c_of (i / 256 % 256) (by omega), c_of (i % 256) (by omega)]
  rfl
theorem wp_m4 {Q : Exit → Act → World → Prop} {o : Oper} {a : Act} {w : World} {K : Act → World → Prop} (p q r : Operand) (ho : o.op = .build 44 #[(0, .const (.int .u8 7)), (1, p), (2, q), (3, r)]) (x y z : Int) (L : List Value) (hL : L = .int .u8 7 :: .int .u8 x :: .int .u8 y :: .int .u8 z :: List.replicate 28 (.int .u8 0)) (hp : a.eval p = .int .u8 x) (hq : a.eval q = .int .u8 y) (hr : a.eval r = .int .u8 z) (h : K (a.put o.dst (.agg L.toArray)) w) : Oper.wp Tryz.prog o a w K Q := by
  have e : ((#[(0, .const (.int .u8 7)), (1, p), (2, q), (3, r)] : Array (Nat × Operand)).map fun (i, x) => (i, a.eval x)).toList = [(0, .int .u8 7), (1, .int .u8 x), (2, .int .u8 y), (3, .int .u8 z)] := by
    simp only [List.map_toArray, List.map_cons, List.map_nil, hp, hq, hr]
    rfl
  have hb := built_m4 x y z L hL
  refine wp_build _ _ ho (by rw [e, hb]; rfl) ?_
  rw [e, hb]; exact h
section
variable {Q : Exit → Act → World → Prop} {o : Oper} {a : Act} {w : World} {K : Act → World → Prop}
theorem wp_ixQ (T e : TypeId) {x y : Operand} (ho : o.op = .indexAddr T x y) (b f n c t s q : Nat) (hq : f + t * s = q) (hx : a.eval x = .slice (some ⟨b, f, none⟩) n c) (hy : a.eval y = .int .i64 (t : Int)) (ht : t < n)
    (hu : Tryz.prog.underlying T = some (.slice e)) (hs : (Tryz.prog.info? e).map (·.size) = some s) (h : K (a.put o.dst (.pointer (some ⟨b, q, none⟩))) w) : Oper.wp Tryz.prog o a w K Q := by
  rw [← hq] at h
  exact wp_index_s T e ho b f n c t s hx hy ht hu hs h
theorem wp_neq_same (x y : Operand) (yt : TypeId) (ho : o.op = .binOp .neq 44 x y yt) (l : List (BitVec 8)) (hl : l.length = 32) (hx : a.eval x = .agg (vB l).toArray) (hy : a.eval y = .agg (vB l).toArray) (h : K (a.put o.dst (.bool false)) w) : Oper.wp Tryz.prog o a w K Q :=
  wp_neq_d 44 x y yt ho 5 32 l l hx hy Tryz.underlying44 Tryz.underlying5 info_u8 hl hl guard_dig false (by simp) h
end
set_option maxRecDepth 100000 in
set_option maxHeartbeats 4000000 in
theorem mark_any (i : Nat) (hi : i ≤ 4000000) (w : World) :
    Calls Tryz.prog 50 #[.int .i64 (i : Int)] w fun e w' => e = .returned (.agg (vB (mk4 i)).toArray) ∧ Below w.heap.size w w' := by
  obtain ⟨x, hx⟩ : ∃ x, x = i / 65536 := ⟨_, rfl⟩
  obtain ⟨b, hb⟩ : ∃ b, b = i / 256 := ⟨_, rfl⟩
  obtain ⟨y, hy⟩ : ∃ y, y = b % 256 := ⟨_, rfl⟩
  obtain ⟨z, hz⟩ : ∃ z, z = i % 256 := ⟨_, rfl⟩
  have e1 : (i : Int).tdiv 65536 = (x : Int) := by rw [Int.tdiv_eq_ediv_of_nonneg (by omega)]; omega
  have e2 : (i : Int).tdiv 256 = (b : Int) := by rw [Int.tdiv_eq_ediv_of_nonneg (by omega)]; omega
  have e3 : (b : Int).tmod 256 = (y : Int) := by rw [Int.tmod_eq_emod_of_nonneg (by omega)]; omega
  have e4 : (i : Int).tmod 256 = (z : Int) := by rw [Int.tmod_eq_emod_of_nonneg (by omega)]; omega
  have hxb : x < 256 := by omega
  have hyb : y < 256 := by omega
  have hzb : z < 256 := by omega
  have hbb : b ≤ 4000000 := by omega
  obtain ⟨L, hL⟩ : ∃ L, L = vB (mk4 i) := ⟨_, rfl⟩
  have HL : Hid (L = .int .u8 7 :: .int .u8 (x : Int) :: .int .u8 (y : Int) :: .int .u8 (z : Int) :: List.replicate 28 (.int .u8 0)) := by show _ = _; rw [hL, vB_mk4 i hi, hx, hy, hz, hb]
  have HI : Hid ((Tryz.prog.info? 44).map (·.size) = some L.length) := by rw [hL]; exact info_dg11 _ (mk4_len i)
  have HLL : Hid (L.length = (vB (List.replicate 32 0#8)).length) := by show _ = _; rw [hL, vB_length, vB_length]; rfl
  have HL32 : Hid (L.length = 32) := by show _ = _; rw [hL, vB_length]; rfl
  have HLO : Hid (L.toArray.all (·.oneCell') = true) := by rw [hL]; exact vB_all11 _
  rw [← hL]
  clear hL hx hb hy hz
  go_enter Tryz.func50, Tryz.ntmps50
  go_wp2_with (first
    | (refine wpList_allocDg rfl rfl ?_; intro X0 q1 q2; have R0 : Hid (Row X0 w.heap.size (vB (List.replicate 32 0#8)) 44) := q1; have B0 : Hid (Below w.heap.size w X0) := q2; clear q1 q2; simp only [Act.put, List.setIfInBounds_toArray, List.set_cons_zero, List.set_cons_succ])
    | (refine BigFrame.wpList_want rfl (fun _ hK => wp_m4 (.tmp 5) (.tmp 9) (.tmp 12) rfl (x : Int) (y : Int) (z : Int) L HL.out rfl rfl rfl (hK _ _ ?_)); simp only [Act.put, List.setIfInBounds_toArray, List.set_cons_zero, List.set_cons_succ])
    | (refine wpList_storeL rfl 44 (.tmp 2) (.tmp 13) rfl w.heap.size L (vB (List.replicate 32 0#8)) 44 rfl rfl R0.out HLL.out HI.out HLO.out ?_; intro X9 q1 q2; have B9 : Hid (Below w.heap.size w X9) := (by rw [q1]; exact below_setCells B0.out (Nat.le_refl _) _); have R9 : Hid (Row X9 w.heap.size L 44) := q2; clear q1 q2; simp only [Act.put]))
  exact bodyPost_ret (results_row Tryz.results50 _ _ w.heap.size 44 L rfl R9.out Tryz.underlying44 info_dig HL32.out) rfl ⟨rfl, B9.out⟩
set_option maxRecDepth 100000 in
set_option maxHeartbeats 4000000 in
theorem allPath_ok (n : Nat) (hn : n ≤ 4000000) (m : List (BitVec 8)) (hm : m.length = 32) (A : Option Addr) (ca : Nat) (w : World) (hp : PAt w (.slice A n ca) (List.replicate n m)) :
    Calls Tryz.prog 51 #[.slice A n ca, .agg (vB m).toArray] w fun e w' => e = .returned (.bool true) ∧ Below w.heap.size w w' := by
  have HP : Hid (PAt w (.slice A n ca) (List.replicate n m)) := hp
  have HM : Hid (m.length = 32) := hm
  have HI : Hid ((Tryz.prog.info? 44).map (·.size) = some (vB m).length) := info_dg11 m hm
  clear hp hm
  go_enter Tryz.func51, Tryz.ntmps51
  go_upto_region 2 with (refine wpList_boxG 44 rfl (.tmp 1) rfl (vB m) rfl ?_; intro X0 q1 q2 q3; have R0 : Hid (Row X0 w.heap.size (vB m) 44) := q1; have B0 : Hid (Below w.heap.size w X0) := q2; clear q1 q2 q3; simp only [Act.put, List.setIfInBounds_toArray, List.set_cons_zero, List.set_cons_succ])
  obtain ⟨bm, hbm⟩ : ∃ b, b = w.heap.size := ⟨_, rfl⟩
  have HBM : Hid (bm = w.heap.size) := hbm
  rw [← hbm] at R0 ⊢
  clear hbm
  go_loopw [5] (fun k wr => ∃ t : Nat, t ≤ n ∧ k = .int .i64 (t : Int) ∧ Hid (Below X0.heap.size X0 wr)) (fun k _ => n - (intOf k).toNat)
  case atStart => exact ⟨0, Nat.zero_le _, rfl, Below.refl _ _⟩
  case round =>
    obtain ⟨t, ht, rfl, HB⟩ := hrel
    have HBW : Hid (Below w.heap.size w wr) := B0.out.trans (HB.out.mono B0.out.size)
    by_cases hlt : t < n
    · obtain ⟨b1, o1, eA, h1⟩ := pat_range (A := A) (cap := ca) (by rw [List.length_replicate]; exact HP.out) t (by rw [List.length_replicate]; exact hlt)
      have e1 : (List.replicate n m).getD t [] = m := by rw [List.getD_eq_getElem?_getD, List.getElem?_replicate, if_pos hlt]; rfl
      rw [e1] at h1
      subst eA
      obtain ⟨q, hq⟩ : ∃ q, q = o1 + t * 32 := ⟨_, rfl⟩
      rw [← hq] at h1
      have HQ : Hid (o1 + t * 32 = q) := hq.symm
      have H1 : Hid (∀ W, Below X0.heap.size X0 W → W.rangeAt b1 q (vB m)) := fun W hB => range_below h1 (B0.out.trans (hB.mono B0.out.size)) (Nat.le_refl _)
      have H2 : Hid (∀ W, Below X0.heap.size X0 W → W.rangeAt bm 0 (vB m)) := fun W hB => (Row.below R0.out hB R0.out.lt).all
      have hb1 := HB.out
      clear h1 hq e1 HB HBW
      go_wp2_with fail
      refine wp_named fun a0 ha0 => ?_
      have hsz : a0.tmps.size = 18 := by rw [ha0]; rfl
      have zs0 : a0.eval (.tmp 0) = .slice (some ⟨b1, o1, none⟩) n ca := by rw [ha0]; rfl
      have zs3 : a0.eval (.tmp 3) = .pointer (some ⟨bm, 0, none⟩) := by rw [ha0]; rfl
      have zs5 : a0.eval (.tmp 5) = .int .i64 (t : Int) := by rw [ha0]; rfl
      obtain ⟨D, hD⟩ : ∃ D : List (Tmp × SP), D = [(12, SP.is (.slice (some ⟨b1, o1, none⟩) n ca)), (13, SP.is (.int .i64 (t : Int))), (14, SP.is (.pointer (some ⟨b1, q, none⟩))), (15, SP.is (.agg (vB m).toArray)), (16, SP.is (.agg (vB m).toArray)), (17, SP.is (.bool false))] := ⟨_, rfl⟩
      refine wp_region_down (by kernel_rfl) (fun listed ac W => listed.size = 6 ∧ Fp D a0 listed ac W ∧ Below X0.heap.size X0 W) ?_ ?_ ?_
      · exact ⟨by simp, Fp.start D a0 _ _, Below.drew hb1⟩
      · clear ha0 hb1  
        intro listed ac W k hI hdn hk
        obtain ⟨hl, hF, hb1⟩ := hI
        have hk1 : k < 6 := List.mem_range.1 (List.mem_filter.1 hk).1
        have hl2 : ∀ j, (listed.setIfInBounds j true).size = 6 := fun j => by rw [Array.size_setIfInBounds]; exact hl
        rcases (show k = 0 ∨ k = 1 ∨ k = 2 ∨ k = 3 ∨ k = 4 ∨ k = 5 by omega) with rfl | rfl | rfl | rfl | rfl | rfl
        · have hk3 := hk
          exact wpOp_plain rfl rfl (wp_move_v (ac.eval (.tmp 0)) rfl rfl ⟨hl2 0, (hF.put 0 12 (SP.is (.slice (some ⟨b1, o1, none⟩) n ca)) (ac.eval (.tmp 0)) (by rw [hD]; rfl) (((hF.keep 0 (by rw [hD]; rfl)).trans zs0)) (by rw [hD]; rfl) (by rw [hsz]; decide) (by rw [hl]; decide)), hb1⟩)
        · have hk3 := hk
          exact wpOp_plain rfl rfl (wp_move_v (ac.eval (.tmp 5)) rfl rfl ⟨hl2 1, (hF.put 1 13 (SP.is (.int .i64 (t : Int))) (ac.eval (.tmp 5)) (by rw [hD]; rfl) (((hF.keep 5 (by rw [hD]; rfl)).trans zs5)) (by rw [hD]; rfl) (by rw [hsz]; decide) (by rw [hl]; decide)), hb1⟩)
        · have hk3 := hk
          have ea := (hF.done 0 (12, SP.is (.slice (some ⟨b1, o1, none⟩) n ca)) (by rw [hD]; rfl) (ready_dep hk 0 (by kernel_rfl)))
          have eb := (hF.done 1 (13, SP.is (.int .i64 (t : Int))) (by rw [hD]; rfl) (ready_dep hk 1 (by kernel_rfl)))
          exact wpOp_plain rfl rfl (wp_ixQ 64 44 rfl b1 o1 n ca t 32 q HQ.out ea eb hlt Tryz.underlying64 info_dig ⟨hl2 2, (hF.put 2 14 (SP.is (.pointer (some ⟨b1, q, none⟩))) (.pointer (some ⟨b1, q, none⟩)) (by rw [hD]; rfl) rfl (by rw [hD]; rfl) (by rw [hsz]; decide) (by rw [hl]; decide)), hb1⟩)
        · have hk3 := hk
          have e := (hF.done 2 (14, SP.is (.pointer (some ⟨b1, q, none⟩))) (by rw [hD]; rfl) (ready_dep hk 2 (by kernel_rfl)))
          exact wpOp_plain rfl rfl (wp_load_mid 44 (.tmp 14) rfl b1 q e (vB m) _ (H1.out W hb1) Tryz.underlying44 rfl HI.out ⟨hl2 3, (hF.put 3 15 (SP.is (.agg (vB m).toArray)) (.agg (vB m).toArray) (by rw [hD]; rfl) rfl (by rw [hD]; rfl) (by rw [hsz]; decide) (by rw [hl]; decide)), hb1⟩)
        · have hk3 := hk
          have e := ((hF.keep 3 (by rw [hD]; rfl)).trans zs3)
          exact wpOp_plain rfl rfl (wp_load_mid 44 (.tmp 3) rfl bm 0 e (vB m) _ (H2.out W hb1) Tryz.underlying44 rfl HI.out ⟨hl2 4, (hF.put 4 16 (SP.is (.agg (vB m).toArray)) (.agg (vB m).toArray) (by rw [hD]; rfl) rfl (by rw [hD]; rfl) (by rw [hsz]; decide) (by rw [hl]; decide)), hb1⟩)
        · have hk3 := hk
          have ea := (hF.done 3 (15, SP.is (.agg (vB m).toArray)) (by rw [hD]; rfl) (ready_dep hk 3 (by kernel_rfl)))
          have eb := (hF.done 4 (16, SP.is (.agg (vB m).toArray)) (by rw [hD]; rfl) (ready_dep hk 4 (by kernel_rfl)))
          exact wpOp_plain rfl rfl (wp_neq_same (.tmp 15) (.tmp 16) _ rfl m HM.out ea eb ⟨hl2 5, (hF.put 5 17 (SP.is (.bool false)) (.bool false) (by rw [hD]; rfl) rfl (by rw [hD]; rfl) (by rw [hsz]; decide) (by rw [hl]; decide)), hb1⟩)
      · clear hb1  
        intro listed ac W hI hr
        obtain ⟨hl, hF, hb1⟩ := hI
        have hall := all_listed (by kernel_rfl) hl hr
        have h12 : ac.eval (.tmp 12) = .slice (some ⟨b1, o1, none⟩) n ca := hF.done 0 (12, SP.is (.slice (some ⟨b1, o1, none⟩) n ca)) (by rw [hD]; rfl) (hall 0 (by decide))
        have h13 : ac.eval (.tmp 13) = .int .i64 (t : Int) := hF.done 1 (13, SP.is (.int .i64 (t : Int))) (by rw [hD]; rfl) (hall 1 (by decide))
        have h14 : ac.eval (.tmp 14) = .pointer (some ⟨b1, q, none⟩) := hF.done 2 (14, SP.is (.pointer (some ⟨b1, q, none⟩))) (by rw [hD]; rfl) (hall 2 (by decide))
        have h15 : ac.eval (.tmp 15) = .agg (vB m).toArray := hF.done 3 (15, SP.is (.agg (vB m).toArray)) (by rw [hD]; rfl) (hall 3 (by decide))
        have h16 : ac.eval (.tmp 16) = .agg (vB m).toArray := hF.done 4 (16, SP.is (.agg (vB m).toArray)) (by rw [hD]; rfl) (hall 4 (by decide))
        have h17 : ac.eval (.tmp 17) = .bool false := hF.done 5 (17, SP.is (.bool false)) (by rw [hD]; rfl) (hall 5 (by decide))
        have ea := hF.lay [(12, .slice (some ⟨b1, o1, none⟩) n ca), (13, .int .i64 (t : Int)), (14, .pointer (some ⟨b1, q, none⟩)), (15, .agg (vB m).toArray), (16, .agg (vB m).toArray), (17, .bool false)] (by rw [hD, hsz]; rfl) (by simp only [List.forall_mem_cons, List.not_mem_nil, false_implies, implies_true, and_true]; exact ⟨h12, h13, h14, h15, h16, h17⟩)
        rw [ha0] at ea
        simp only [List.foldl_cons, List.foldl_nil, List.setIfInBounds_toArray, List.set_cons_zero, List.set_cons_succ] at ea
        clear hF hall hr hl hD  zs0 zs3 zs5 ha0 hsz h12 h13 h14 h15 h16 h17
        subst ea
        have BX : Hid (Below X0.heap.size X0 W) := hb1
        clear hb1
        go_wp2_with fail
        refine ⟨⟨t + 1, hlt, by go_num, BX⟩, by simp [intOf]; omega⟩
    · obtain rfl : t = n := by omega
      go_wp2_with fail
      go_ret
      exact ⟨rfl, HBW.out⟩

end Go.Proofs.YtdicgenhfmhklaaGreatDoor

namespace Go.Proofs.YtdicgenhfmhklaaGreatDoor
open Go Go.RowKit
open Sha

/-- A path in a row of its own. -/
abbrev Pw (w : World) (v : Value) (p : List (List (BitVec 8))) : Prop := Lw w 44 32 v p.length (p.flatMap vB)
section
variable {w w' : World} {v : Value} {d : List (List (BitVec 8))}
theorem Pw.lt (h : Pw w v d) : ∀ g, v.ownBlock = some g → g < w.heap.size := Lw.lt h
theorem Pw.block (h : Pw w v d) (k : ∀ g, v.ownBlock = some g → w'.heap[g]? = w.heap[g]?) : Pw w' v d := Lw.block h k
theorem Pw.be (h : Pw w v d) (k : Below w.heap.size w w') : Pw w' v d := Lw.be h k
theorem Pw.gro {R : Nat → Prop} (h : Pw w v d) (k : Gro R w w') (hR : ∀ g, v.ownBlock = some g → ¬ R g) : Pw w' v d := Lw.gro h k hR
theorem Pw.ne {b : Nat} {cs : List Value} {t : TypeId} (h : Pw w v d) (r : Row w b cs t) (ht : t ≠ 44) : ∀ g, v.ownBlock = some g → g ≠ b := Lw.ne h r ht
theorem Pw.form (h : Pw w v d) : ∃ A cap, v = .slice A d.length cap ∧ d.length ≤ cap ∧ (A = none → cap = 0) := Lw.form h
theorem Pw.nil (w : World) : Pw w (.slice none 0 0) [] := Lw.nil _ _ _
theorem Pw.pat (h : Pw w v d) (h32 : ∀ x ∈ d, x.length = 32) : PAt w v d := PAt.of_own h h32
end
theorem pl_ne {w : World} {u v : Value} {d : List (List (BitVec 8))} {e : TypeId} {s n : Nat} {xs : List Value} (h : Pw w u d) (k : Lw w e s v n xs) (he : e ≠ 44) : ∀ g, u.ownBlock = some g → some g ≠ v.ownBlock := fun g e1 e2 => by
  rcases h.2 with ⟨h1, _⟩ | ⟨g', cap, cur, hv, _, hh, _⟩
  · rw [h1] at e1; cases e1
  · rw [hv] at e1
    obtain rfl : g' = g := by simpa [Value.ownBlock] using e1
    rcases k.2 with ⟨k1, _⟩ | ⟨g2, cap2, cur2, kv, _, kh, _⟩
    · rw [k1] at e2; cases e2
    · rw [kv] at e2
      obtain rfl : g' = g2 := by simpa [Value.ownBlock] using e2
      have := hh.symm.trans kh
      simp only [Option.some.injEq, Obj.cells.injEq] at this
      exact he this.2.1.symm
/-- The cells of a book: its two lists of paths. -/
def bkp (rl rw : Value) : List Value := [.slice none 0 0, .slice none 0 0, rl, rw]
/-- A book of paths, made behind w0. -/
structure Pbk (w0 w : World) (B : Nat) (rl rw vl vw : Value) (us ws : List Value) (ds es : List (List (List (BitVec 8)))) : Prop where
  row : Row w B (bkp rl rw) 30
  ll : Lw w 64 1 vl ds.length us
  lw : Lw w 64 1 vw es.length ws
  lne : ∀ g, vl.ownBlock = some g → vw.ownBlock ≠ some g
  eu : ∀ (i : Nat) (d : List (List (BitVec 8))), ds[i]? = some d → ∃ u, us[i]? = some u ∧ Pw w u d
  ew : ∀ (i : Nat) (d : List (List (BitVec 8))), es[i]? = some d → ∃ u, ws[i]? = some u ∧ Pw w u d
  au : ∀ (i j : Nat) (u v : Value), i < j → us[i]? = some u → us[j]? = some v → ∀ g, u.ownBlock = some g → v.ownBlock ≠ some g
  b0 : w0.heap.size ≤ B
  l0 : ∀ g, vl.ownBlock = some g → w0.heap.size ≤ g
  z0 : ∀ g, vw.ownBlock = some g → w0.heap.size ≤ g
  u0 : ∀ u ∈ us, ∀ g, u.ownBlock = some g → w0.heap.size ≤ g
  be : Below w0.heap.size w0 w
section
variable {w0 w w' : World} {B : Nat} {rl rw vl vw : Value} {us ws : List Value} {ds es : List (List (List (BitVec 8)))}
theorem Pbk.below (h : Pbk w0 w B rl rw vl vw us ws ds es) (k : Below w.heap.size w w') : Pbk w0 w' B rl rw vl vw us ws ds es :=
  ⟨Row.below h.row k h.row.lt, Lw.be h.ll k, Lw.be h.lw k, h.lne, fun i d hd => by obtain ⟨u, q1, q2⟩ := h.eu i d hd; exact ⟨u, q1, Pw.be q2 k⟩, fun i d hd => by obtain ⟨u, q1, q2⟩ := h.ew i d hd; exact ⟨u, q1, Pw.be q2 k⟩, h.au, h.b0, h.l0, h.z0, h.u0, h.be.trans (k.mono h.be.size)⟩
theorem bkp_one (rl rw : Value) : (bkp rl rw).length = 4 := rfl
/-- The row written over. -/
theorem Pbk.lay (h : Pbk w0 w B rl rw vl vw us ws ds es) (i : Nat) (v rl' rw' : Value) (hc : (bkp rl rw).set i v = bkp rl' rw') {X : World} (hr : Row X B ((bkp rl rw).set i v) 30) (G : Gro (· = B) w X) : Pbk w0 X B rl' rw' vl vw us ws ds es := by
  rw [hc] at hr
  refine ⟨hr, Lw.gro h.ll G (Lw.ne h.ll h.row (by decide)), Lw.gro h.lw G (Lw.ne h.lw h.row (by decide)), h.lne, fun i d hd => ?_, fun i d hd => ?_, h.au, h.b0, h.l0, h.z0, h.u0, h.be.trans (G.to_below h.be.size (fun g q => by rw [q]; exact h.b0))⟩
  · obtain ⟨u, q1, q2⟩ := h.eu i d hd
    exact ⟨u, q1, Pw.gro q2 G (Pw.ne q2 h.row (by decide))⟩
  · obtain ⟨u, q1, q2⟩ := h.ew i d hd
    exact ⟨u, q1, Pw.gro q2 G (Pw.ne q2 h.row (by decide))⟩
theorem pl_ne2 {w : World} {u v : Value} {d : List (List (BitVec 8))} {n : Nat} {xs : List Value} (h : Pw w u d) (k : Lw w 64 1 v n xs) : ∀ g, u.ownBlock = some g → some g ≠ v.ownBlock := pl_ne h k (by decide)
theorem snoc_getP {α : Type} (l : List α) (x y : α) (i : Nat) (h : (l ++ [x])[i]? = some y) : l[i]? = some y ∨ (i = l.length ∧ y = x) := by
  by_cases hi : i < l.length
  · rw [List.getElem?_append_left hi] at h; exact .inl h
  · have hl := (List.getElem?_eq_some_iff.1 h).1
    rw [List.length_append, List.length_singleton] at hl
    have e : i = l.length := by omega
    subst e
    rw [List.getElem?_append_right (Nat.le_refl _), Nat.sub_self] at h
    exact .inr ⟨rfl, by simpa using h.symm⟩
/-- One more among the answers. -/
theorem Pbk.addU (h : Pbk w0 w B rl rw vl vw us ws ds es) (u : Value) (d : List (List (BitVec 8))) (hu : Pw w u d) (hf : ∀ v ∈ us, ∀ g, v.ownBlock = some g → u.ownBlock ≠ some g) (hu0 : ∀ g, u.ownBlock = some g → w0.heap.size ≤ g) (v' : Value) (L : Lw w' 64 1 v' (ds.length + 1) (us ++ [u])) (G : w.grownBy w' vl.ownBlock) (O : v'.ownBlock = vl.ownBlock ∨ v'.ownBlock = some w.heap.size) : Pbk w0 w' B rl rw v' vw (us ++ [u]) ws (ds ++ [d]) es := by
  have put : ∀ u d, Pw w u d → Pw w' u d := fun u d q => Pw.block q (fun g e => G.block g (Pw.lt q g e) (pl_ne2 q h.ll g e))
  have hul : us.length = ds.length := by have := Lw.len h.ll; omega
  refine ⟨row_gb h.row G (some_ne (Lw.ne h.ll h.row (by decide))), by rw [List.length_append, List.length_singleton]; exact L, Lw.gb h.lw G (fun g e q => h.lne g q.symm e), fun g e => ?_, fun i d' hd => ?_, fun i d' hd => ?_, fun i j a b hij ha hb g e => ?_, h.b0, fun g e => ?_, h.z0, fun x hx g e => ?_, ?_⟩
  · rcases O with O | O
    · exact h.lne g (by rw [← O]; exact e)
    · rw [O] at e; cases e
      intro q
      exact absurd (Lw.lt h.lw _ q) (Nat.lt_irrefl _)
  · rcases snoc_getP ds d d' i hd with q | ⟨q, rfl⟩
    · obtain ⟨x, q1, q2⟩ := h.eu i d' q
      exact ⟨x, by rw [List.getElem?_append_left ((List.getElem?_eq_some_iff.1 q1).1)]; exact q1, put x d' q2⟩
    · subst q
      exact ⟨u, by rw [List.getElem?_append_right (by omega), hul, Nat.sub_self]; rfl, put u d' hu⟩
  · obtain ⟨x, q1, q2⟩ := h.ew i d' hd
    exact ⟨x, q1, put x d' q2⟩
  · rcases snoc_getP us u a i ha with qa | ⟨qa, _⟩
    · rcases snoc_getP us u b j hb with qb | ⟨_, rfl⟩
      · exact h.au i j a b hij qa qb g e
      · exact hf a (List.mem_of_getElem? qa) g e
    · have := (List.getElem?_eq_some_iff.1 hb).1
      rw [List.length_append, List.length_singleton] at this
      omega
  · rcases O with O | O
    · exact h.l0 g (by rw [← O]; exact e)
    · rw [O] at e; cases e; exact h.be.size
  · rcases List.mem_append.1 hx with q | q
    · exact h.u0 x q g e
    · obtain rfl := List.mem_singleton.1 q
      exact hu0 g e
  · exact below_gb h.be G h.l0
/-- One more among what they must be. -/
theorem Pbk.addW (h : Pbk w0 w B rl rw vl vw us ws ds es) (u : Value) (d : List (List (BitVec 8))) (hu : Pw w u d) (v' : Value) (L : Lw w' 64 1 v' (es.length + 1) (ws ++ [u])) (G : w.grownBy w' vw.ownBlock) (O : v'.ownBlock = vw.ownBlock ∨ v'.ownBlock = some w.heap.size) : Pbk w0 w' B rl rw vl v' us (ws ++ [u]) ds (es ++ [d]) := by
  have put : ∀ u d, Pw w u d → Pw w' u d := fun u d q => Pw.block q (fun g e => G.block g (Pw.lt q g e) (pl_ne2 q h.lw g e))
  have hul : ws.length = es.length := by have := Lw.len h.lw; omega
  refine ⟨row_gb h.row G (some_ne (Lw.ne h.lw h.row (by decide))), Lw.gb h.ll G (fun g e q => h.lne g e q.symm), by rw [List.length_append, List.length_singleton]; exact L, fun g e q => ?_, fun i d' hd => ?_, fun i d' hd => ?_, h.au, h.b0, h.l0, fun g e => ?_, h.u0, ?_⟩
  · rcases O with O | O
    · exact h.lne g e (by rw [← O]; exact q)
    · rw [O] at q; cases q
      exact absurd (Lw.lt h.ll _ e) (Nat.lt_irrefl _)
  · obtain ⟨x, q1, q2⟩ := h.eu i d' hd
    exact ⟨x, q1, put x d' q2⟩
  · rcases snoc_getP es d d' i hd with q | ⟨q, rfl⟩
    · obtain ⟨x, q1, q2⟩ := h.ew i d' q
      exact ⟨x, by rw [List.getElem?_append_left ((List.getElem?_eq_some_iff.1 q1).1)]; exact q1, put x d' q2⟩
    · subst q
      exact ⟨u, by rw [List.getElem?_append_right (by omega), hul, Nat.sub_self]; rfl, put u d' hu⟩
  · rcases O with O | O
    · exact h.z0 g (by rw [← O]; exact e)
    · rw [O] at e; cases e; exact h.be.size
  · exact below_gb h.be G h.z0
end
theorem info_dls : (Tryz.prog.info? 28).map (·.size) = some 1 := by kernel_rfl
theorem info_sd : ∃ ie z, Tryz.prog.info? 64 = some ie ∧ ie.zero = some z ∧ ie.size = 1 ∧ ie.bytes = 24 ∧ z.cells.size = 1 := by
  have i1 : (Tryz.prog.info? 64).map (fun i => (i.zero, i.size, i.bytes)) = some (some (.slice none 0 0), 1, 24) := by kernel_rfl
  cases hi : Tryz.prog.info? 64 with
  | none => rw [hi] at i1; cases i1
  | some ie =>
    rw [hi] at i1
    simp only [Option.map_some, Option.some.injEq, Prod.mk.injEq] at i1
    exact ⟨ie, _, rfl, i1.1, i1.2.1, i1.2.2, rfl⟩
theorem info_sd4 : ∃ ie z, Tryz.prog.info? 64 = some ie ∧ ie.zero = some z ∧ ie.size = 1 ∧ z.cells.size = 1 := by
  obtain ⟨ie, z, h1, h2, h3, _, h4⟩ := info_sd
  exact ⟨ie, z, h1, h2, h3, h4⟩
theorem pw_row {W : World} {N : Nat} {d : List (List (BitVec 8))} (h : Row W N (d.flatMap vB) 44) (h32 : ∀ x ∈ d, x.length = 32) (n : Nat) (hn : n = d.length) (hm : n ≤ maxLen) : Pw W (.slice (some ⟨N, 0, none⟩) n n) d := by
  subst hn
  have hl : (d.flatMap vB).length = d.length * 32 := by rw [fl_flatten, vB_length, flatten_len d h32]
  exact ⟨hl, .inr ⟨N, d.length, (d.flatMap vB).toArray, rfl, Nat.zero_le _, h, Nat.le_refl _, hm, by simpa using hl, List.take_of_length_le (by rw [hl]; exact Nat.le_refl _)⟩⟩
set_option maxRecDepth 100000 in
set_option maxHeartbeats 4000000 in
theorem keepsPath_ok (w0 : World) (B : Nat) (vl vw : Value) (us ws : List Value) (ds : List (List (List (BitVec 8)))) (hm2 : ds.length ≤ 1000000) (d : List (List (BitVec 8))) (h32 : ∀ x ∈ d, x.length = 32) (A1 A2 : Option Addr) (n c1 c2 : Nat) (hn : n = d.length) (hn2 : n ≤ 1000000) (w : World) (h1 : Pw w (.slice A1 n c1) d) (hf : ∀ v ∈ us, ∀ g, v.ownBlock = some g → (Value.slice A1 n c1).ownBlock ≠ some g) (hu0 : ∀ g, (Value.slice A1 n c1).ownBlock = some g → w0.heap.size ≤ g) (h2 : Pw w (.slice A2 n c2) d) (hb : Pbk w0 w B vl vw vl vw us ws ds ds) :
    Calls Tryz.prog 19 #[.pointer (some ⟨B, 0, none⟩), .slice A1 n c1, .slice A2 n c2] w fun e w' => e = .returned (.tuple #[]) ∧ ∃ vl' vw' x, Pbk w0 w' B vl' vw' vl' vw' (us ++ [.slice A1 n c1]) (ws ++ [x]) (ds ++ [d]) (ds ++ [d]) ∧ Gro (fun g => g = B ∨ vl.ownBlock = some g ∨ vw.ownBlock = some g) w w' ∧ (∀ g, vl'.ownBlock = some g → vl.ownBlock = some g ∨ w.heap.size ≤ g) ∧ (∀ g, vw'.ownBlock = some g → vw.ownBlock = some g ∨ w.heap.size ≤ g) := by
  obtain ⟨m, hm⟩ : ∃ m, m = ds.length := ⟨_, rfl⟩
  obtain ⟨Al, cl, el, _, _⟩ := Lw.form hb.ll
  obtain ⟨Aw, cw, ew, _, _⟩ := Lw.form hb.lw
  rw [← hm] at el ew
  subst el ew
  have HM : Hid (m ≤ 1000000) := by rw [hm]; exact hm2
  have HME : Hid (m = ds.length) := hm
  have HN : Hid (n = d.length) := hn
  have H32 : Hid (∀ x ∈ d, x.length = 32) := h32
  have HMX : Hid (n ≤ maxLen) := by show _ ≤ _; unfold maxLen; omega
  have HB : Hid (Pbk w0 w B (.slice Al m cl) (.slice Aw m cw) (.slice Al m cl) (.slice Aw m cw) us ws ds ds) := hb
  have H1 : Hid (Pw w (.slice A1 n c1) d) := h1
  have H2 : Hid (Pw w (.slice A2 n c2) d) := h2
  have HF : Hid (∀ v ∈ us, ∀ g, v.ownBlock = some g → (Value.slice A1 n c1).ownBlock ≠ some g) := hf
  have HU0 : Hid (∀ g, (Value.slice A1 n c1).ownBlock = some g → w0.heap.size ≤ g) := hu0
  have c0 : w.cell? ⟨B, 2, none⟩ = some (.slice Al m cl) := hb.row.cell 2 _ rfl
  clear hm hm2 hn h1 h2 hf hu0 hb h32
  go_enter Tryz.func19, Tryz.ntmps19
  go_upto_region 1 with (first
    | (refine wpList_buildOne 28 64 Tryz.underlying28 info_sd4 rfl (.tmp 12) rfl (.slice A1 n c1) rfl rfl ?_; intro X1 q1 q2 q3; have R1 : Hid (Row X1 w.heap.size [.slice A1 n c1] 64) := q1; have D1 : Hid (Below w.heap.size w X1) := q2; clear q1 q2 q3; simp only [Act.put, List.setIfInBounds_toArray, List.set_cons_zero, List.set_cons_succ])
    | (refine wpList_appL 28 64 1 24 Tryz.underlying28 info_sd (by decide) (by decide) rfl (.tmp 11) (.tmp 13) rfl (.slice Al m cl) m us [.slice A1 n c1] rfl (by have := (HB.out.below D1.out).ll; rwa [← HME.out] at this) w.heap.size rfl rfl R1.out.all (fun u hu => by obtain rfl := List.mem_singleton.1 hu; rfl) HM.out ?_; intro v5 X5 q1 q2 q3; have B5 : Hid (Pbk w0 X5 B (.slice Al m cl) (.slice Aw m cw) v5 (.slice Aw m cw) (us ++ [.slice A1 n c1]) ws (ds ++ [d]) ds) := (HB.out.below D1.out).addU _ d (Pw.be H1.out D1.out) HF.out HU0.out v5 (by rw [← HME.out]; exact q1) q2 q3; have S5 : Hid (Pw X5 (.slice A2 n c2) d) := (fun q => Pw.block q (fun g e => q2.block g (Pw.lt q g e) (pl_ne2 q (HB.out.below D1.out).ll g e))) (Pw.be H2.out D1.out); have G5 : Hid (Gro (fun g => g = B ∨ (Value.slice Al m cl).ownBlock = some g ∨ (Value.slice Aw m cw).ownBlock = some g) w X5) := Gro.grown (Gro.of_below D1.out) q2 (fun g e => .inl (.inr (.inl e))); obtain ⟨A5, c5, e5, _, _⟩ := Lw.form q1; subst e5; have O5 : Hid (∀ g, (Value.slice A5 (m + 1) c5).ownBlock = some g → (Value.slice Al m cl).ownBlock = some g ∨ w.heap.size ≤ g) := (fun g e => by rcases q3 with q3 | q3; (exact .inl (by rw [← q3]; exact e)); (rw [q3] at e; cases e; exact .inr D1.out.size)); clear q1 q2 q3; simp only [Act.put, List.setIfInBounds_toArray, List.set_cons_zero, List.set_cons_succ])
    | (refine wpList_set1 rfl 28 (.tmp 16) (.tmp 14) rfl B 2 (.slice A5 (m + 1) c5) (bkp (.slice Al m cl) (.slice Aw m cw)) 30 rfl rfl rfl B5.out.row (by rw [bkp_one]; decide) info_dls rfl ?_; intro X6 q1 q2 q3; have B6 : Hid (Pbk w0 X6 B (.slice A5 (m + 1) c5) (.slice Aw m cw) (.slice A5 (m + 1) c5) (.slice Aw m cw) (us ++ [.slice A1 n c1]) ws (ds ++ [d]) ds) := B5.out.lay 2 _ _ _ rfl q1 q2; have S6 : Hid (Pw X6 (.slice A2 n c2) d) := Pw.gro S5.out q2 (Pw.ne S5.out B5.out.row (by decide)); have G6 : Hid (Gro (fun g => g = B ∨ (Value.slice Al m cl).ownBlock = some g ∨ (Value.slice Aw m cw).ownBlock = some g) w X6) := Gro.trans G5.out (Gro.mono q2 (fun g q => .inl q)); clear q1 q2 q3; simp only [Act.put]))
  clear c0 B5 S5 R1 D1 HB H1 H2 HF HU0 G5
  go_upto_region 3 with (first
    | (refine wpList_make_d rfl (.tmp 18) (.tmp 18) rfl n _ rfl rfl rfl (by omega) ?_; obtain ⟨X7, hX7⟩ : ∃ X, X = X6.alloc (.cells (vB (List.replicate (n * 32) 0#8)).toArray 44) := ⟨_, rfl⟩; rw [← hX7]; have D7 : Hid (Below X6.heap.size X6 X7) := (by rw [hX7]; exact (Below.refl _ _).alloc (Nat.le_refl _) _); have R7 : Hid (Row X7 X6.heap.size (vB (List.replicate (n * 32) 0#8)) 44) := (by rw [hX7]; exact Row.new' rfl rfl); clear hX7; simp only [Act.put, List.setIfInBounds_toArray, List.set_cons_zero, List.set_cons_succ])
    | (refine wpList_copy_d rfl (.tmp 20) (.tmp 21) rfl X6.heap.size n n A2 c2 d rfl (by rw [← HN.out]; exact rfl) (by rw [← HN.out]; exact Pw.pat (Pw.be S6.out D7.out) H32.out) (by rw [← HN.out]; exact Nat.le_refl _) (R7.out.there 0 _ (by rw [vB_length, List.length_replicate, ← HN.out]; omega)) ?_; obtain ⟨X8, hX8⟩ : ∃ X, X = X7.setCells X6.heap.size 0 (vB d.flatten) := ⟨_, rfl⟩; rw [← hX8]; have D8 : Hid (Below X6.heap.size X6 X8) := (by rw [hX8]; exact below_setCells D7.out (Nat.le_refl _) _); have R8 : Hid (Row X8 X6.heap.size (d.flatMap vB) 44) := (by rw [hX8, fl_flatten]; exact R7.out.over (by rw [vB_length, vB_length, flatten_len d H32.out, List.length_replicate, HN.out])); clear hX8; simp only [Act.put, List.setIfInBounds_toArray, List.set_cons_zero, List.set_cons_succ]))
  have K8 : Hid (Pbk w0 X8 B (.slice A5 (m + 1) c5) (.slice Aw m cw) (.slice A5 (m + 1) c5) (.slice Aw m cw) (us ++ [.slice A1 n c1]) ws (ds ++ [d]) ds) := B6.out.below D8.out
  have W8 : Hid (Pw X8 (.slice (some ⟨X6.heap.size, 0, none⟩) n n) d) := pw_row R8.out H32.out n HN.out HMX.out
  have G8 : Hid (Gro (fun g => g = B ∨ (Value.slice Al m cl).ownBlock = some g ∨ (Value.slice Aw m cw).ownBlock = some g) w X8) := G6.out.below D8.out
  have c0 : X8.cell? ⟨B, 3, none⟩ = some (.slice Aw m cw) := K8.out.row.cell 3 _ rfl
  obtain ⟨gw, hgw⟩ : ∃ g, g = X6.heap.size := ⟨_, rfl⟩
  rw [← hgw] at W8 ⊢
  clear hgw R7 R8 D7 D8 S6 B6 G6
  go_wp2_with (first
    | (refine wpList_buildOne 28 64 Tryz.underlying28 info_sd4 rfl (.tmp 28) rfl (.slice (some ⟨gw, 0, none⟩) n n) rfl rfl ?_; intro Y1 q1 q2 q3; have R1 : Hid (Row Y1 X8.heap.size [.slice (some ⟨gw, 0, none⟩) n n] 64) := q1; have D1 : Hid (Below X8.heap.size X8 Y1) := q2; clear q1 q2 q3; simp only [Act.put, List.setIfInBounds_toArray, List.set_cons_zero, List.set_cons_succ])
    | (refine wpList_appL 28 64 1 24 Tryz.underlying28 info_sd (by decide) (by decide) rfl (.tmp 27) (.tmp 29) rfl (.slice Aw m cw) m ws [.slice (some ⟨gw, 0, none⟩) n n] rfl (by have := (K8.out.below D1.out).lw; rwa [← HME.out] at this) X8.heap.size rfl rfl R1.out.all (fun u hu => by obtain rfl := List.mem_singleton.1 hu; rfl) HM.out ?_; intro v5 Y5 q1 q2 q3; have B5 : Hid (Pbk w0 Y5 B (.slice A5 (m + 1) c5) (.slice Aw m cw) (.slice A5 (m + 1) c5) v5 (us ++ [.slice A1 n c1]) (ws ++ [.slice (some ⟨gw, 0, none⟩) n n]) (ds ++ [d]) (ds ++ [d])) := (K8.out.below D1.out).addW _ d (Pw.be W8.out D1.out) v5 (by rw [← HME.out]; exact q1) q2 q3; have G5 : Hid (Gro (fun g => g = B ∨ (Value.slice Al m cl).ownBlock = some g ∨ (Value.slice Aw m cw).ownBlock = some g) w Y5) := (G8.out.below D1.out).grown q2 (fun g e => .inl (.inr (.inr e))); obtain ⟨A7, c7, e7, _, _⟩ := Lw.form q1; subst e7; have O7 : Hid (∀ g, (Value.slice A7 (m + 1) c7).ownBlock = some g → (Value.slice Aw m cw).ownBlock = some g ∨ w.heap.size ≤ g) := (fun g e => by rcases q3 with q3 | q3; (exact .inl (by rw [← q3]; exact e)); (rw [q3] at e; cases e; exact .inr (Nat.le_trans G8.out.size D1.out.size))); clear q1 q2 q3; simp only [Act.put, List.setIfInBounds_toArray, List.set_cons_zero, List.set_cons_succ])
    | (refine wpList_set1 rfl 28 (.tmp 32) (.tmp 30) rfl B 3 (.slice A7 (m + 1) c7) (bkp (.slice A5 (m + 1) c5) (.slice Aw m cw)) 30 rfl rfl rfl B5.out.row (by rw [bkp_one]; decide) info_dls rfl ?_; intro Y6 q1 q2 q3; have B6 : Hid (Pbk w0 Y6 B (.slice A5 (m + 1) c5) (.slice A7 (m + 1) c7) (.slice A5 (m + 1) c5) (.slice A7 (m + 1) c7) (us ++ [.slice A1 n c1]) (ws ++ [.slice (some ⟨gw, 0, none⟩) n n]) (ds ++ [d]) (ds ++ [d])) := B5.out.lay 3 _ _ _ rfl q1 q2; have G6 : Hid (Gro (fun g => g = B ∨ (Value.slice Al m cl).ownBlock = some g ∨ (Value.slice Aw m cw).ownBlock = some g) w Y6) := Gro.trans G5.out (Gro.mono q2 (fun g q => .inl q)); clear q1 q2 q3; simp only [Act.put]))
  refine bodyPost_end (results_none rfl _ _ _) rfl ?_
  exact ⟨rfl, _, _, _, B6.out, G6.out, O5.out, O7.out⟩

end Go.Proofs.YtdicgenhfmhklaaGreatDoor
