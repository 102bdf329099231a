/-
  The law's same, keptPath.
-/
import Derived.Test.YtkgfaioinajkjaaDoorTLp
namespace Go.Proofs.YtkgfaioinajkjaaDoor
open Go Go.RowKit
open Sha

section
variable {P : Program} {Q : Exit → Act → World → Prop} {o : Oper} {a : Act} {w : World} {K : Act → World → Prop}
theorem wp_slice_upto (t e : TypeId) (x z : Operand) (b f n cap k s : Nat) (ho : o.op = .slice t x none (some z) none) (hx : a.eval x = .slice (some ⟨b, f, none⟩) n cap) (hz : a.eval z = .int .i64 (k : Int)) (hk : k ≤ cap)
    (hu : P.underlying t = some (.slice e)) (hs : (P.info? e).map (·.size) = some s) (h : K (a.put o.dst (.slice (some ⟨b, f, none⟩) k cap)) w) : Oper.wp P o a w K Q := by
  cases hq : P.info? e with
  | none => simp [hq] at hs
  | some i =>
    have hr : (Instr.sliceAt t (.slice (some ⟨b, f, none⟩) n cap) none (some (.int .i64 (k : Int))) none).run P w = .ok (.slice (some ⟨b, f, none⟩) k cap) w := by
      simp [Instr.sliceAt, Instr.slice, run_underlying hu, Instr.sliceBounds, Instr.sliceBound, asIntOf, sizeOf, typeInfo, hq, hk, Addr.add_mid]
    unfold Oper.wp execOp
    simp only [ho, hx, hz, Option.map_some, Option.map_none, Sem.run_bind, hr, Result.andThen_ok, Sem.run_pure, Oper.upon_value]
    exact h
end
section
variable {ops : Array Oper} {rest : List Oper} {op : Oper} {a : Act} {w : World} {Q : Exit → Act → World → Prop}
theorem wpList_slice_upto (hw : Region.wanted op (yielded ops a.tmps) = true) (t e : TypeId) (x z : Operand) (b f n cap k s : Nat) (ho : op.op = .slice t x none (some z) none) (hx : a.eval x = .slice (some ⟨b, f, none⟩) n cap) (hz : a.eval z = .int .i64 (k : Int)) (hk : k ≤ cap)
    (hu : Tryd.prog.underlying t = some (.slice e)) (hs : (Tryd.prog.info? e).map (·.size) = some s) (h : wpList Tryd.prog ops Q rest (a.put op.dst (.slice (some ⟨b, f, none⟩) k cap)) w) : wpList Tryd.prog ops Q (op :: rest) a w :=
  BigFrame.wpList_want hw fun _ hK => wp_slice_upto t e x z b f n cap k s ho hx hz hk hu hs (hK _ _ h)
end

set_option maxRecDepth 100000 in
set_option maxHeartbeats 4000000 in
theorem same_any (ds : List (List (BitVec 8))) (n : Nat) (hn : ds.length = n) (hs : n ≤ 4398046511104) (A B : Option Addr) (ca cb : Nat) (w : World) (hp : PAt w (.slice A n ca) ds) (hq : PAt w (.slice B n cb) ds) :
    Calls Tryd.prog 15 #[.slice A n ca, .slice B n cb] w fun e w' => e = .returned (.bool true) ∧ Below w.heap.size w w' := by
  have HN : Hid (ds.length = n) := hn
  have HP : Hid (PAt w (.slice A n ca) ds) := hp
  have HQ : Hid (PAt w (.slice B n cb) ds) := hq
  clear hp hq hn
  go_enter Tryd.func15, Tryd.ntmps15
  go_wp2
  go_loopw [5] (fun k wr => ∃ t : Nat, t ≤ n ∧ k = .int .i64 (t : Int) ∧ Below w.heap.size w wr) (fun k _ => n - (intOf k).toNat)
  case atStart => exact ⟨0, Nat.zero_le _, rfl, Below.refl _ _⟩
  case round =>
    obtain ⟨t, ht, rfl, hb⟩ := hrel
    by_cases hlt : t < n
    · have Hd : Dl (ds.getD t []) := pat_each HP.out t (by rw [HN.out]; exact hlt)
      obtain ⟨b1, o1, eA, h1⟩ := pat_range (A := A) (cap := ca) (by rw [HN.out]; exact HP.out) t (by rw [HN.out]; exact hlt)
      obtain ⟨b2, o2, eB, h2⟩ := pat_range (A := B) (cap := cb) (by rw [HN.out]; exact HQ.out) t (by rw [HN.out]; exact hlt)
      subst eA; subst eB
      have H1 : Hid (∀ W, Below w.heap.size w W → W.rangeAt b1 (o1 + t * 32) (vB (ds.getD t []))) := fun W hB => range_below h1 hB (Nat.le_refl _)
      have H2 : Hid (∀ W, Below w.heap.size w W → W.rangeAt b2 (o2 + t * 32) (vB (ds.getD t []))) := fun W hB => range_below h2 hB (Nat.le_refl _)
      have htb : t ≤ 4398046511104 := Nat.le_trans ht hs
      generalize ds.getD t [] = x at *
      clear h1 h2
      go_wp2_with fail
      refine wp_named fun a0 ha0 => ?_
      have hsz : a0.tmps.size = 26 := by rw [ha0]; rfl
      have s0 : a0.eval (.tmp 0) = .slice (some ⟨b1, o1, none⟩) n ca := by rw [ha0]; rfl
      have s1 : a0.eval (.tmp 1) = .slice (some ⟨b2, o2, none⟩) n cb := by rw [ha0]; rfl
      have s5 : a0.eval (.tmp 5) = .int .i64 (t : Int) := by rw [ha0]; rfl
      obtain ⟨D, hD⟩ : ∃ D : List (Tmp × SP), D = [(17, SP.is (.slice (some ⟨b1, o1, none⟩) n ca)), (18, SP.is (.int .i64 (t : Int))), (19, SP.is (.pointer (some ⟨b1, o1 + t * 32, none⟩))), (20, SP.is (.agg (vB x).toArray)), (21, SP.is (.slice (some ⟨b2, o2, none⟩) n cb)), (22, SP.is (.int .i64 (t : Int))), (23, SP.is (.pointer (some ⟨b2, o2 + t * 32, none⟩))), (24, SP.is (.agg (vB x).toArray)), (25, SP.is (.bool false))] := ⟨_, rfl⟩
      refine wp_region_down (by kernel_rfl) (fun listed ac W => listed.size = 9 ∧ Fp D a0 listed ac W ∧ Below w.heap.size w W) ?_ ?_ ?_
      · exact ⟨by simp, Fp.start D a0 _ _, Below.drew hb⟩
      · clear ha0 hb  
        intro listed ac W k hI hdn hk
        obtain ⟨hl, hF, hb⟩ := hI
        have hk1 : k < 9 := List.mem_range.1 (List.mem_filter.1 hk).1
        have hl2 : ∀ j, (listed.setIfInBounds j true).size = 9 := fun j => by rw [Array.size_setIfInBounds]; exact hl
        rcases (show k = 0 ∨ k = 1 ∨ k = 2 ∨ k = 3 ∨ k = 4 ∨ k = 5 ∨ k = 6 ∨ k = 7 ∨ k = 8 by omega) with rfl | rfl | rfl | rfl | rfl | rfl | rfl | rfl | rfl
        · have hk3 := hk
          exact wpOp_plain rfl rfl (wp_move_v (ac.eval (.tmp 0)) rfl rfl ⟨hl2 0, (hF.put 0 17 (SP.is (.slice (some ⟨b1, o1, none⟩) n ca)) (ac.eval (.tmp 0)) (by rw [hD]; rfl) (((hF.keep 0 (by rw [hD]; rfl)).trans s0)) (by rw [hD]; rfl) (by rw [hsz]; decide) (by rw [hl]; decide)), hb⟩)
        · have hk3 := hk
          exact wpOp_plain rfl rfl (wp_move_v (ac.eval (.tmp 5)) rfl rfl ⟨hl2 1, (hF.put 1 18 (SP.is (.int .i64 (t : Int))) (ac.eval (.tmp 5)) (by rw [hD]; rfl) (((hF.keep 5 (by rw [hD]; rfl)).trans s5)) (by rw [hD]; rfl) (by rw [hsz]; decide) (by rw [hl]; decide)), hb⟩)
        · have hk3 := hk
          have ea := (hF.done 0 (17, SP.is (.slice (some ⟨b1, o1, none⟩) n ca)) (by rw [hD]; rfl) (ready_dep hk 0 (by kernel_rfl)))
          have eb := (hF.done 1 (18, SP.is (.int .i64 (t : Int))) (by rw [hD]; rfl) (ready_dep hk 1 (by kernel_rfl)))
          exact wpOp_plain rfl rfl (wp_index_s 26 42 rfl b1 o1 n ca t 32 ea eb hlt Tryd.underlying26 info_dig ⟨hl2 2, (hF.put 2 19 (SP.is (.pointer (some ⟨b1, o1 + t * 32, none⟩))) (.pointer (some ⟨b1, o1 + t * 32, none⟩)) (by rw [hD]; rfl) rfl (by rw [hD]; rfl) (by rw [hsz]; decide) (by rw [hl]; decide)), hb⟩)
        · have hk3 := hk
          have ea := (hF.done 2 (19, SP.is (.pointer (some ⟨b1, o1 + t * 32, none⟩))) (by rw [hD]; rfl) (ready_dep hk 2 (by kernel_rfl)))
          exact wpOp_plain rfl rfl (wp_load_mid 42 (.tmp 19) rfl b1 (o1 + t * 32) ea (vB x) _ (H1.out W hb) Tryd.underlying42 rfl Hd.info ⟨hl2 3, (hF.put 3 20 (SP.is (.agg (vB x).toArray)) (.agg (vB x).toArray) (by rw [hD]; rfl) rfl (by rw [hD]; rfl) (by rw [hsz]; decide) (by rw [hl]; decide)), hb⟩)
        · have hk3 := hk
          exact wpOp_plain rfl rfl (wp_move_v (ac.eval (.tmp 1)) rfl rfl ⟨hl2 4, (hF.put 4 21 (SP.is (.slice (some ⟨b2, o2, none⟩) n cb)) (ac.eval (.tmp 1)) (by rw [hD]; rfl) (((hF.keep 1 (by rw [hD]; rfl)).trans s1)) (by rw [hD]; rfl) (by rw [hsz]; decide) (by rw [hl]; decide)), hb⟩)
        · have hk3 := hk
          exact wpOp_plain rfl rfl (wp_move_v (ac.eval (.tmp 5)) rfl rfl ⟨hl2 5, (hF.put 5 22 (SP.is (.int .i64 (t : Int))) (ac.eval (.tmp 5)) (by rw [hD]; rfl) (((hF.keep 5 (by rw [hD]; rfl)).trans s5)) (by rw [hD]; rfl) (by rw [hsz]; decide) (by rw [hl]; decide)), hb⟩)
        · have hk3 := hk
          have ea := (hF.done 4 (21, SP.is (.slice (some ⟨b2, o2, none⟩) n cb)) (by rw [hD]; rfl) (ready_dep hk 4 (by kernel_rfl)))
          have eb := (hF.done 5 (22, SP.is (.int .i64 (t : Int))) (by rw [hD]; rfl) (ready_dep hk 5 (by kernel_rfl)))
          exact wpOp_plain rfl rfl (wp_index_s 26 42 rfl b2 o2 n cb t 32 ea eb hlt Tryd.underlying26 info_dig ⟨hl2 6, (hF.put 6 23 (SP.is (.pointer (some ⟨b2, o2 + t * 32, none⟩))) (.pointer (some ⟨b2, o2 + t * 32, none⟩)) (by rw [hD]; rfl) rfl (by rw [hD]; rfl) (by rw [hsz]; decide) (by rw [hl]; decide)), hb⟩)
        · have hk3 := hk
          have ea := (hF.done 6 (23, SP.is (.pointer (some ⟨b2, o2 + t * 32, none⟩))) (by rw [hD]; rfl) (ready_dep hk 6 (by kernel_rfl)))
          exact wpOp_plain rfl rfl (wp_load_mid 42 (.tmp 23) rfl b2 (o2 + t * 32) ea (vB x) _ (H2.out W hb) Tryd.underlying42 rfl Hd.info ⟨hl2 7, (hF.put 7 24 (SP.is (.agg (vB x).toArray)) (.agg (vB x).toArray) (by rw [hD]; rfl) rfl (by rw [hD]; rfl) (by rw [hsz]; decide) (by rw [hl]; decide)), hb⟩)
        · have hk3 := hk
          have ea := (hF.done 3 (20, SP.is (.agg (vB x).toArray)) (by rw [hD]; rfl) (ready_dep hk 3 (by kernel_rfl)))
          have eb := (hF.done 7 (24, SP.is (.agg (vB x).toArray)) (by rw [hD]; rfl) (ready_dep hk 7 (by kernel_rfl)))
          exact wpOp_plain rfl rfl (wp_neq_d 42 (.tmp 20) (.tmp 24) _ rfl 5 32 x x ea eb Tryd.underlying42 Tryd.underlying5 info_u8 Hd Hd guard_dig false (by simp) ⟨hl2 8, (hF.put 8 25 (SP.is (.bool false)) (.bool false) (by rw [hD]; rfl) rfl (by rw [hD]; rfl) (by rw [hsz]; decide) (by rw [hl]; decide)), hb⟩)
      · clear hb  
        intro listed ac W hI hr
        obtain ⟨hl, hF, hb⟩ := hI
        have hall := all_listed (by kernel_rfl) hl hr
        have h17 : ac.eval (.tmp 17) = .slice (some ⟨b1, o1, none⟩) n ca := hF.done 0 (17, SP.is (.slice (some ⟨b1, o1, none⟩) n ca)) (by rw [hD]; rfl) (hall 0 (by decide))
        have h18 : ac.eval (.tmp 18) = .int .i64 (t : Int) := hF.done 1 (18, SP.is (.int .i64 (t : Int))) (by rw [hD]; rfl) (hall 1 (by decide))
        have h19 : ac.eval (.tmp 19) = .pointer (some ⟨b1, o1 + t * 32, none⟩) := hF.done 2 (19, SP.is (.pointer (some ⟨b1, o1 + t * 32, none⟩))) (by rw [hD]; rfl) (hall 2 (by decide))
        have h20 : ac.eval (.tmp 20) = .agg (vB x).toArray := hF.done 3 (20, SP.is (.agg (vB x).toArray)) (by rw [hD]; rfl) (hall 3 (by decide))
        have h21 : ac.eval (.tmp 21) = .slice (some ⟨b2, o2, none⟩) n cb := hF.done 4 (21, SP.is (.slice (some ⟨b2, o2, none⟩) n cb)) (by rw [hD]; rfl) (hall 4 (by decide))
        have h22 : ac.eval (.tmp 22) = .int .i64 (t : Int) := hF.done 5 (22, SP.is (.int .i64 (t : Int))) (by rw [hD]; rfl) (hall 5 (by decide))
        have h23 : ac.eval (.tmp 23) = .pointer (some ⟨b2, o2 + t * 32, none⟩) := hF.done 6 (23, SP.is (.pointer (some ⟨b2, o2 + t * 32, none⟩))) (by rw [hD]; rfl) (hall 6 (by decide))
        have h24 : ac.eval (.tmp 24) = .agg (vB x).toArray := hF.done 7 (24, SP.is (.agg (vB x).toArray)) (by rw [hD]; rfl) (hall 7 (by decide))
        have h25 : ac.eval (.tmp 25) = .bool false := hF.done 8 (25, SP.is (.bool false)) (by rw [hD]; rfl) (hall 8 (by decide))
        have ea := hF.lay [(17, .slice (some ⟨b1, o1, none⟩) n ca), (18, .int .i64 (t : Int)), (19, .pointer (some ⟨b1, o1 + t * 32, none⟩)), (20, .agg (vB x).toArray), (21, .slice (some ⟨b2, o2, none⟩) n cb), (22, .int .i64 (t : Int)), (23, .pointer (some ⟨b2, o2 + t * 32, none⟩)), (24, .agg (vB x).toArray), (25, .bool false)] (by rw [hD, hsz]; rfl) (by simp only [List.forall_mem_cons, List.not_mem_nil, false_implies, implies_true, and_true]; exact ⟨h17, h18, h19, h20, h21, h22, h23, h24, h25⟩)
        rw [ha0] at ea
        simp only [List.foldl_cons, List.foldl_nil, List.setIfInBounds_toArray, List.set_cons_zero, List.set_cons_succ] at ea
        clear hF hall hr hl hD  s0 s1 s5 ha0 hsz h17 h18 h19 h20 h21 h22 h23 h24 h25
        subst ea
        go_wp2_with fail
        exact ⟨⟨t + 1, hlt, by go_num, hb⟩, by simp [intOf]; omega⟩
    · obtain rfl : t = n := by omega
      go_wp2
      go_ret
      exact ⟨rfl, hb⟩

theorem marks9_get (ds : List (List (BitVec 8))) (t : Nat) (h : t < 9) : (ds ++ List.replicate 9 m77).getD (ds.length + t) [] = m77 := by
  rw [List.getD_eq_getElem?_getD, List.getElem?_append_right (by omega), List.getElem?_replicate, if_pos (by omega)]; rfl
theorem marks9_each (ds : List (List (BitVec 8))) (h : ∀ d ∈ ds, d.length = 32) : ∀ d ∈ ds ++ List.replicate 9 m77, d.length = 32 := fun d hd => by
  rcases List.mem_append.1 hd with hd | hd
  · exact h d hd
  · rw [(List.mem_replicate.1 hd).2]; rfl

set_option maxRecDepth 100000 in
set_option maxHeartbeats 4000000 in
theorem keptPath_any (ds : List (List (BitVec 8))) (n : Nat) (hn : ds.length = n) (hs : n ≤ 4398046511104) (g : Nat) (A : Option Addr) (cap : Nat) (w : World) (hr : Row w g (vB (ds ++ List.replicate 9 m77).flatten) 42) (hp : PAt w (.slice A n cap) ds) :
    Calls Tryd.prog 19 #[.slice (some ⟨g, 0, none⟩) (n + 9) (n + 9), .slice A n cap] w fun e w' => e = .returned (.bool true) ∧ Below w.heap.size w w' := by
  have h32 := hp.1
  have HP : Hid (PAt w (.slice A n cap) ds) := hp
  have hq : PAt w (.slice (some ⟨g, 0, none⟩) (n + 9) (n + 9)) (ds ++ List.replicate 9 m77) := pat_row hr _ (n + 9) (n + 9) (by simp [hn]) (marks9_each ds h32) (by rw [List.take_of_length_le (by rw [flatten_len _ (marks9_each ds h32)]; simp [hn])]) (Nat.le_refl _)
  have HO : Hid (PAt w (.slice (some ⟨g, 0, none⟩) n (n + 9)) ds) := pat_row hr _ n (n + 9) hn h32 (by rw [List.flatten_append, List.take_append_of_le_length (by rw [flatten_len ds h32, hn]; exact Nat.le_refl _), List.take_of_length_le (by rw [flatten_len ds h32, hn]; exact Nat.le_refl _)]) (by omega)
  have HR : Hid (∀ t, t < 9 → w.rangeAt g (0 + (n + t) * 32) (vB m77)) := fun t ht => by
    obtain ⟨b, o, e, hh⟩ := pat_range (A := some ⟨g, 0, none⟩) (cap := n + 9) (by rw [show (ds ++ List.replicate 9 m77).length = n + 9 by simp [hn]]; exact hq) (n + t) (by simp [hn]; omega)
    simp only [Option.some.injEq, Addr.mk.injEq] at e
    rw [← e.1, ← e.2.1, show n + t = ds.length + t by rw [hn], marks9_get ds t ht] at hh
    rw [show n + t = ds.length + t by rw [hn]]; exact hh
  have HN : Hid (ds.length = n) := hn
  clear hr hp hq h32 hn
  have B7 : Hid (∀ (o : Oper) (a : Act) (w : World) (K : Act → World → Prop) (Q : Exit → Act → World → Prop), o.op = .build 42 #[(0, .const (.int .u8 77))] → K (a.put o.dst (.agg (vB m77).toArray)) w → Oper.wp Tryd.prog o a w K Q) := fun o a w K Q ho h => wp_build77 ho h
  have HI : Hid (Dl m77) := dl_m77
  generalize m77 = mm at *
  go_enter Tryd.func19, Tryd.ntmps19
  go_wp2
  go_loopw [5] (fun i wr => ∃ t : Nat, t ≤ 9 ∧ i = .int .i64 ((n : Int) + t) ∧ wr = w) (fun i _ => n + 9 - (intOf i).toNat)
  case atStart => exact ⟨0, by omega, by simp, rfl⟩
  case round =>
    obtain ⟨t, ht, rfl, rfl⟩ := hrel
    by_cases hlt : t < 9
    · obtain ⟨o, eo⟩ : ∃ o, o = 0 + (n + t) * 32 := ⟨_, rfl⟩
      have hR := HR.out t hlt
      rw [← eo] at hR
      have EO : Hid (0 + (n + t) * 32 = o) := eo.symm
      have HRR : Hid _ := hR
      clear hR eo
      go_wp2_with (first
        | (refine wpList_index_d rfl (.tmp 14) (.tmp 15) rfl g 0 (n + 9) (n + 9) (n + t) o EO.out _ (by omega) rfl rfl (by omega) ?_; simp only [Act.put, List.setIfInBounds_toArray, List.set_cons_zero, List.set_cons_succ])
        | (refine wpList_load_w rfl 42 (.tmp 16) rfl g o rfl (vB mm) _ HRR.out Tryd.underlying42 rfl HI.out.info ?_; simp only [Act.put, List.setIfInBounds_toArray, List.set_cons_zero, List.set_cons_succ])
        | (refine BigFrame.wpList_want rfl (fun _ hK => B7.out _ _ _ _ _ rfl (hK _ _ ?_)); simp only [Act.put, List.setIfInBounds_toArray, List.set_cons_zero, List.set_cons_succ])
        | (refine wpList_neq_dd rfl (.tmp 17) (.tmp 18) 42 rfl mm mm false (by simp) HI.out HI.out rfl rfl ?_; simp only [Act.put, List.setIfInBounds_toArray, List.set_cons_zero, List.set_cons_succ]))
      exact ⟨⟨t + 1, by omega, by go_num, trivial⟩, by simp [intOf]; omega⟩
    · obtain rfl : t = 9 := by omega
      go_wp2_with (first
        | (refine wpList_slice_upto rfl 26 42 (.tmp 20) (.tmp 22) g 0 (n + 9) (n + 9) n 32 rfl rfl rfl (by omega) Tryd.underlying26 info_dig ?_; simp only [Act.put, List.setIfInBounds_toArray, List.set_cons_zero, List.set_cons_succ])
        | (go_at_call 15; refine (same_any ds n HN.out hs _ _ _ _ wr HO.out HP.out).mono ?_; rintro e w2 ⟨rfl, hB2⟩))
      go_ret
      exact ⟨rfl, hB2⟩

end Go.Proofs.YtkgfaioinajkjaaDoor
