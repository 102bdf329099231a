/-
  the law OutboxCuts: laws of its walk; two books beside one another.
-/
import Derived.Test.YtehjadgmleoobaaDoorTLp
import Derived.Test.YtehjadgmleoobaaDoorOcC
import Derived.Test.YtehjadgmleoobaaDoorOcB
import Derived.Test.YtehjadgmleoobaaDoorTAwk

namespace Go.Proofs.YtehjadgmleoobaaDoor
open Go Go.RowKit
open Sha

set_option maxRecDepth 100000 in
set_option maxHeartbeats 4000000 in
theorem samePath_any (ds : List (List (BitVec 8))) (n : Nat) (hn : ds.length = n) (hs : n ≤ 4398046511104) (A B : Option Addr) (ca cb : Nat) (w : World) (hp : PAt w (.slice A n ca) ds) (hq : PAt w (.slice B n cb) ds) :
    Calls Tryd.prog 8 #[.slice A n ca, .slice B n cb] w fun e w' => e = .returned (.bool true) ∧ Below w.heap.size w w' := by
  have HN : Hid (ds.length = n) := hn
  have HP : Hid (PAt w (.slice A n ca) ds) := hp
  have HQ : Hid (PAt w (.slice B n cb) ds) := hq
  clear hp hq hn
  go_enter Tryd.func8, Tryd.ntmps8
  go_wp2
  go_loopw [5] (fun k wr => ∃ t : Nat, t ≤ n ∧ k = .int .i64 (t : Int) ∧ Below w.heap.size w wr) (fun k _ => n - (intOf k).toNat)
  case atStart => exact ⟨0, Nat.zero_le _, rfl, Below.refl _ _⟩
  case round =>
    obtain ⟨t, ht, rfl, hb⟩ := hrel
    by_cases hlt : t < n
    · have Hd : Dl (ds.getD t []) := pat_each HP.out t (by rw [HN.out]; exact hlt)
      obtain ⟨b1, o1, eA, h1⟩ := pat_range (A := A) (cap := ca) (by rw [HN.out]; exact HP.out) t (by rw [HN.out]; exact hlt)
      obtain ⟨b2, o2, eB, h2⟩ := pat_range (A := B) (cap := cb) (by rw [HN.out]; exact HQ.out) t (by rw [HN.out]; exact hlt)
      subst eA; subst eB
      have H1 : Hid (∀ W, Below w.heap.size w W → W.rangeAt b1 (o1 + t * 32) (vB (ds.getD t []))) := fun W hB => range_below h1 hB (Nat.le_refl _)
      have H2 : Hid (∀ W, Below w.heap.size w W → W.rangeAt b2 (o2 + t * 32) (vB (ds.getD t []))) := fun W hB => range_below h2 hB (Nat.le_refl _)
      have htb : t ≤ 4398046511104 := Nat.le_trans ht hs
      generalize ds.getD t [] = x at *
      clear h1 h2
      go_wp2_with fail
      refine wp_named fun a0 ha0 => ?_
      have hsz : a0.tmps.size = 26 := by rw [ha0]; rfl
      have s0 : a0.eval (.tmp 0) = .slice (some ⟨b1, o1, none⟩) n ca := by rw [ha0]; rfl
      have s1 : a0.eval (.tmp 1) = .slice (some ⟨b2, o2, none⟩) n cb := by rw [ha0]; rfl
      have s5 : a0.eval (.tmp 5) = .int .i64 (t : Int) := by rw [ha0]; rfl
      obtain ⟨D, hD⟩ : ∃ D : List (Tmp × SP), D = [(17, SP.is (.slice (some ⟨b1, o1, none⟩) n ca)), (18, SP.is (.int .i64 (t : Int))), (19, SP.is (.pointer (some ⟨b1, o1 + t * 32, none⟩))), (20, SP.is (.agg (vB x).toArray)), (21, SP.is (.slice (some ⟨b2, o2, none⟩) n cb)), (22, SP.is (.int .i64 (t : Int))), (23, SP.is (.pointer (some ⟨b2, o2 + t * 32, none⟩))), (24, SP.is (.agg (vB x).toArray)), (25, SP.is (.bool false))] := ⟨_, rfl⟩
      refine wp_region_down (by kernel_rfl) (fun listed ac W => listed.size = 9 ∧ Fp D a0 listed ac W ∧ Below w.heap.size w W) ?_ ?_ ?_
      · exact ⟨by simp, Fp.start D a0 _ _, Below.drew hb⟩
      · clear ha0 hb  
        intro listed ac W k hI hdn hk
        obtain ⟨hl, hF, hb⟩ := hI
        have hk1 : k < 9 := List.mem_range.1 (List.mem_filter.1 hk).1
        have hl2 : ∀ j, (listed.setIfInBounds j true).size = 9 := fun j => by rw [Array.size_setIfInBounds]; exact hl
        rcases (show k = 0 ∨ k = 1 ∨ k = 2 ∨ k = 3 ∨ k = 4 ∨ k = 5 ∨ k = 6 ∨ k = 7 ∨ k = 8 by omega) with rfl | rfl | rfl | rfl | rfl | rfl | rfl | rfl | rfl
        · have hk3 := hk
          exact wpOp_plain rfl rfl (wp_move_v (ac.eval (.tmp 0)) rfl rfl ⟨hl2 0, (hF.put 0 17 (SP.is (.slice (some ⟨b1, o1, none⟩) n ca)) (ac.eval (.tmp 0)) (by rw [hD]; rfl) (((hF.keep 0 (by rw [hD]; rfl)).trans s0)) (by rw [hD]; rfl) (by rw [hsz]; decide) (by rw [hl]; decide)), hb⟩)
        · have hk3 := hk
          exact wpOp_plain rfl rfl (wp_move_v (ac.eval (.tmp 5)) rfl rfl ⟨hl2 1, (hF.put 1 18 (SP.is (.int .i64 (t : Int))) (ac.eval (.tmp 5)) (by rw [hD]; rfl) (((hF.keep 5 (by rw [hD]; rfl)).trans s5)) (by rw [hD]; rfl) (by rw [hsz]; decide) (by rw [hl]; decide)), hb⟩)
        · have hk3 := hk
          have ea := (hF.done 0 (17, SP.is (.slice (some ⟨b1, o1, none⟩) n ca)) (by rw [hD]; rfl) (ready_dep hk 0 (by kernel_rfl)))
          have eb := (hF.done 1 (18, SP.is (.int .i64 (t : Int))) (by rw [hD]; rfl) (ready_dep hk 1 (by kernel_rfl)))
          exact wpOp_plain rfl rfl (wp_index_s 33 25 rfl b1 o1 n ca t 32 ea eb hlt Tryd.underlying33 info_dig ⟨hl2 2, (hF.put 2 19 (SP.is (.pointer (some ⟨b1, o1 + t * 32, none⟩))) (.pointer (some ⟨b1, o1 + t * 32, none⟩)) (by rw [hD]; rfl) rfl (by rw [hD]; rfl) (by rw [hsz]; decide) (by rw [hl]; decide)), hb⟩)
        · have hk3 := hk
          have ea := (hF.done 2 (19, SP.is (.pointer (some ⟨b1, o1 + t * 32, none⟩))) (by rw [hD]; rfl) (ready_dep hk 2 (by kernel_rfl)))
          exact wpOp_plain rfl rfl (wp_load_mid 25 (.tmp 19) rfl b1 (o1 + t * 32) ea (vB x) _ (H1.out W hb) Tryd.underlying25 rfl Hd.info ⟨hl2 3, (hF.put 3 20 (SP.is (.agg (vB x).toArray)) (.agg (vB x).toArray) (by rw [hD]; rfl) rfl (by rw [hD]; rfl) (by rw [hsz]; decide) (by rw [hl]; decide)), hb⟩)
        · have hk3 := hk
          exact wpOp_plain rfl rfl (wp_move_v (ac.eval (.tmp 1)) rfl rfl ⟨hl2 4, (hF.put 4 21 (SP.is (.slice (some ⟨b2, o2, none⟩) n cb)) (ac.eval (.tmp 1)) (by rw [hD]; rfl) (((hF.keep 1 (by rw [hD]; rfl)).trans s1)) (by rw [hD]; rfl) (by rw [hsz]; decide) (by rw [hl]; decide)), hb⟩)
        · have hk3 := hk
          exact wpOp_plain rfl rfl (wp_move_v (ac.eval (.tmp 5)) rfl rfl ⟨hl2 5, (hF.put 5 22 (SP.is (.int .i64 (t : Int))) (ac.eval (.tmp 5)) (by rw [hD]; rfl) (((hF.keep 5 (by rw [hD]; rfl)).trans s5)) (by rw [hD]; rfl) (by rw [hsz]; decide) (by rw [hl]; decide)), hb⟩)
        · have hk3 := hk
          have ea := (hF.done 4 (21, SP.is (.slice (some ⟨b2, o2, none⟩) n cb)) (by rw [hD]; rfl) (ready_dep hk 4 (by kernel_rfl)))
          have eb := (hF.done 5 (22, SP.is (.int .i64 (t : Int))) (by rw [hD]; rfl) (ready_dep hk 5 (by kernel_rfl)))
          exact wpOp_plain rfl rfl (wp_index_s 33 25 rfl b2 o2 n cb t 32 ea eb hlt Tryd.underlying33 info_dig ⟨hl2 6, (hF.put 6 23 (SP.is (.pointer (some ⟨b2, o2 + t * 32, none⟩))) (.pointer (some ⟨b2, o2 + t * 32, none⟩)) (by rw [hD]; rfl) rfl (by rw [hD]; rfl) (by rw [hsz]; decide) (by rw [hl]; decide)), hb⟩)
        · have hk3 := hk
          have ea := (hF.done 6 (23, SP.is (.pointer (some ⟨b2, o2 + t * 32, none⟩))) (by rw [hD]; rfl) (ready_dep hk 6 (by kernel_rfl)))
          exact wpOp_plain rfl rfl (wp_load_mid 25 (.tmp 23) rfl b2 (o2 + t * 32) ea (vB x) _ (H2.out W hb) Tryd.underlying25 rfl Hd.info ⟨hl2 7, (hF.put 7 24 (SP.is (.agg (vB x).toArray)) (.agg (vB x).toArray) (by rw [hD]; rfl) rfl (by rw [hD]; rfl) (by rw [hsz]; decide) (by rw [hl]; decide)), hb⟩)
        · have hk3 := hk
          have ea := (hF.done 3 (20, SP.is (.agg (vB x).toArray)) (by rw [hD]; rfl) (ready_dep hk 3 (by kernel_rfl)))
          have eb := (hF.done 7 (24, SP.is (.agg (vB x).toArray)) (by rw [hD]; rfl) (ready_dep hk 7 (by kernel_rfl)))
          exact wpOp_plain rfl rfl (wp_neq_d 25 (.tmp 20) (.tmp 24) _ rfl 5 32 x x ea eb Tryd.underlying25 Tryd.underlying5 info_u8T Hd Hd guard_dig false (by simp) ⟨hl2 8, (hF.put 8 25 (SP.is (.bool false)) (.bool false) (by rw [hD]; rfl) rfl (by rw [hD]; rfl) (by rw [hsz]; decide) (by rw [hl]; decide)), hb⟩)
      · clear hb  
        intro listed ac W hI hr
        obtain ⟨hl, hF, hb⟩ := hI
        have hall := all_listed (by kernel_rfl) hl hr
        have h17 : ac.eval (.tmp 17) = .slice (some ⟨b1, o1, none⟩) n ca := hF.done 0 (17, SP.is (.slice (some ⟨b1, o1, none⟩) n ca)) (by rw [hD]; rfl) (hall 0 (by decide))
        have h18 : ac.eval (.tmp 18) = .int .i64 (t : Int) := hF.done 1 (18, SP.is (.int .i64 (t : Int))) (by rw [hD]; rfl) (hall 1 (by decide))
        have h19 : ac.eval (.tmp 19) = .pointer (some ⟨b1, o1 + t * 32, none⟩) := hF.done 2 (19, SP.is (.pointer (some ⟨b1, o1 + t * 32, none⟩))) (by rw [hD]; rfl) (hall 2 (by decide))
        have h20 : ac.eval (.tmp 20) = .agg (vB x).toArray := hF.done 3 (20, SP.is (.agg (vB x).toArray)) (by rw [hD]; rfl) (hall 3 (by decide))
        have h21 : ac.eval (.tmp 21) = .slice (some ⟨b2, o2, none⟩) n cb := hF.done 4 (21, SP.is (.slice (some ⟨b2, o2, none⟩) n cb)) (by rw [hD]; rfl) (hall 4 (by decide))
        have h22 : ac.eval (.tmp 22) = .int .i64 (t : Int) := hF.done 5 (22, SP.is (.int .i64 (t : Int))) (by rw [hD]; rfl) (hall 5 (by decide))
        have h23 : ac.eval (.tmp 23) = .pointer (some ⟨b2, o2 + t * 32, none⟩) := hF.done 6 (23, SP.is (.pointer (some ⟨b2, o2 + t * 32, none⟩))) (by rw [hD]; rfl) (hall 6 (by decide))
        have h24 : ac.eval (.tmp 24) = .agg (vB x).toArray := hF.done 7 (24, SP.is (.agg (vB x).toArray)) (by rw [hD]; rfl) (hall 7 (by decide))
        have h25 : ac.eval (.tmp 25) = .bool false := hF.done 8 (25, SP.is (.bool false)) (by rw [hD]; rfl) (hall 8 (by decide))
        have ea := hF.lay [(17, .slice (some ⟨b1, o1, none⟩) n ca), (18, .int .i64 (t : Int)), (19, .pointer (some ⟨b1, o1 + t * 32, none⟩)), (20, .agg (vB x).toArray), (21, .slice (some ⟨b2, o2, none⟩) n cb), (22, .int .i64 (t : Int)), (23, .pointer (some ⟨b2, o2 + t * 32, none⟩)), (24, .agg (vB x).toArray), (25, .bool false)] (by rw [hD, hsz]; rfl) (by simp only [List.forall_mem_cons, List.not_mem_nil, false_implies, implies_true, and_true]; exact ⟨h17, h18, h19, h20, h21, h22, h23, h24, h25⟩)
        rw [ha0] at ea
        simp only [List.foldl_cons, List.foldl_nil, List.setIfInBounds_toArray, List.set_cons_zero, List.set_cons_succ] at ea
        clear hF hall hr hl hD  s0 s1 s5 ha0 hsz h17 h18 h19 h20 h21 h22 h23 h24 h25
        subst ea
        go_wp2_with fail
        exact ⟨⟨t + 1, hlt, by go_num, hb⟩, by simp [intOf]; omega⟩
    · obtain rfl : t = n := by omega
      go_wp2
      go_ret
      exact ⟨rfl, hb⟩


end Go.Proofs.YtehjadgmleoobaaDoor

namespace Go.Proofs.YtehjadgmleoobaaDoor
open Go Go.RowKit
open Sha

section
variable {ops : Array Oper} {rest : List Oper} {op : Oper} {a : Act} {w : World} {Q : Exit → Act → World → Prop}
theorem wpList_slice_kf (hgd : op.guard = none) (t e : TypeId) (x z : Operand) (b f n cap k s : Nat) (ho : op.op = .slice t x none (some z) none) (hx : a.eval x = .slice (some ⟨b, f, none⟩) n cap) (hz : a.eval z = .int .i64 (k : Int)) (hk : k ≤ cap)
    (hu : Tryd.prog.underlying t = some (.slice e)) (hs : (Tryd.prog.info? e).map (·.size) = some s) (h : wpList Tryd.prog ops Q rest (a.put op.dst (.slice (some ⟨b, f, none⟩) k cap)) w) : wpList Tryd.prog ops Q (op :: rest) a w :=
  wpList_plain hgd fun _ hK => by
    cases hq : Tryd.prog.info? e with
    | none => simp [hq] at hs
    | some i =>
      have hr : (Instr.sliceAt t (.slice (some ⟨b, f, none⟩) n cap) none (some (.int .i64 (k : Int))) none).run Tryd.prog w = .ok (.slice (some ⟨b, f, none⟩) k cap) w := by
        simp [Instr.sliceAt, Instr.slice, run_underlying hu, Instr.sliceBounds, Instr.sliceBound, asIntOf, sizeOf, typeInfo, hq, hk, Addr.add_mid]
      unfold Oper.wp execOp
      simp only [ho, hx, hz, Option.map_some, Option.map_none, Sem.run_bind, hr, Result.andThen_ok, Sem.run_pure, Oper.upon_value]
      exact hK _ _ h
end
theorem info_raw : (Tryd.prog.info? 46).map (·.size) = some 26 := by kernel_rfl
set_option maxRecDepth 100000 in
theorem few_any (rs : List Rwv) (A : Option Addr) (n cap : Nat) (hn : n = rs.length) (hc : n ≤ cap) (m : Nat) (hm : m = (rs.take 200).length) (w : World) (hra : Ra w A rs) : Calls Tryd.prog 9 #[.slice A n cap] w fun e w' => e = .returned (.slice A m cap) ∧ w' = w := by
  by_cases h : 200 < n
  · obtain ⟨b, o, rfl⟩ : ∃ b o, A = some ⟨b, o, none⟩ := by
      obtain ⟨_, b, o, q, _⟩ := hra 0 _ (List.getElem?_eq_getElem (by omega))
      exact ⟨b, o, q⟩
    have hg : (200 : Int) < (n : Int) := by omega
    have h2 : Hid (200 ≤ cap) := by show _ ≤ _; omega
    obtain rfl : m = 200 := by rw [hm, List.length_take]; omega
    clear hn hc hra hm
    go_enter Tryd.func9, Tryd.ntmps9
    go_wp2_with (refine wpList_slice_kf rfl 40 46 (.tmp 6) (.const (.int .i64 200)) b o n cap 200 26 rfl rfl rfl h2.out Tryd.underlying40 info_raw ?_; simp only [Act.put, List.setIfInBounds_toArray, List.set_cons_zero, List.set_cons_succ])
    go_ret
    exact ⟨rfl, rfl⟩
  · have hg : ¬ (200 : Int) < (n : Int) := by omega
    obtain rfl : m = n := by rw [hm, List.length_take]; omega
    clear hn hra hc hm
    go_enter Tryd.func9, Tryd.ntmps9
    go_wp2
    go_ret
    exact ⟨rfl, rfl⟩
/-- Put, by what the leaf is made of. -/
theorem put_rw (w0 : World) (B : Nat) (v : Value) (rs : List Rwv) (r : Rwv) (hr : r.Ok) (hl : rs.length ≤ 100000) (i : Nat) (hi : i = rs.length) (L : List Value) (hL : L = rwl r i) (w : World) (hb : Bk w0 w B v (bts rs)) :
    Calls Tryd.prog 14 #[.pointer (some ⟨B, 0, none⟩), .agg L.toArray] w fun e w' => e = .returned (.int .i64 0) ∧ ∃ v', Bk w0 w' B v' (bts (rs ++ [r])) ∧ Gro (fun g => g = B ∨ v.ownBlock = some g) w w' ∧ (v'.ownBlock = v.ownBlock ∨ ∃ g, v'.ownBlock = some g ∧ w.heap.size ≤ g) := by
  have e := bts_len rs
  have hm := rw_may r rs.length (by omega)
  rw [← e] at hm
  have q := put_in w0 B v (bts rs) (by omega) _ _ r.rc (am9 r.am) hr.rc (am9_len hr.am) (am9_q hr.q) hm L (by rw [hL, hi, ← e]; rfl) w hb
  rw [e] at q
  rw [bts_snoc]
  exact q
/-- Leaf, by what it is made of. -/
theorem leaf_rw (w0 : World) (B : Nat) (v : Value) (rs : List Rwv) (hl : rs.length ≤ 100000) (i : Nat) (r : Rwv) (hi : rs[i]? = some r) (hr : r.Ok) (L : List Value) (hL : L = rwl r i) (w : World) (hb : Bk w0 w B v (bts rs)) :
    Calls Tryd.prog 17 #[.pointer (some ⟨B, 0, none⟩), .int .i64 (i : Int)] w fun e w' => e = .returned (.tuple #[.agg L.toArray, .int .i64 0]) ∧ Below w.heap.size w w' := by
  have hlt := (List.getElem?_eq_some_iff.1 hi).1
  rw [hL]
  exact leaf_ok w0 B v (bts rs) (by rw [bts_len]; omega) i _ _ _ r.rc (am9 r.am) hr.rc (am9_len hr.am) (am9_q hr.q) (rw_may r i (by omega)) (by rw [bts_get, hi]; rfl) w hb
theorem take_snoc {α : Type} (l : List α) (t : Nat) (x : α) (h : l[t]? = some x) : l.take (t + 1) = l.take t ++ [x] := by
  rw [List.take_add_one, h]
  rfl
set_option maxRecDepth 100000 in
set_option maxHeartbeats 4000000 in
theorem booked_any (rs : List Rwv) (A : Option Addr) (n cap : Nat) (hn : n = rs.length) (h400 : n ≤ 400) (w : World) (hra : Ra w A rs) :
    Calls Tryd.prog 10 #[.slice A n cap] w fun e w' => ∃ B v, e = .returned (.pointer (some ⟨B, 0, none⟩)) ∧ Bk w w' B v (bts rs) := by
  have HN : Hid (n = rs.length) := hn
  have HRA : Hid (Ra w A rs) := hra
  clear hn hra
  go_enter Tryd.func10, Tryd.ntmps10
  go_upto_region 5 with (go_at_call 19; refine Calls.mono (new_any w) ?_; rintro e X1 ⟨rfl, q⟩; have K1 : Hid (Bk w X1 w.heap.size (.slice none 0 0) (bts (rs.take 0))) := q; clear q)
  obtain ⟨B, hB⟩ : ∃ B, B = w.heap.size := ⟨_, rfl⟩
  rw [← hB] at K1 ⊢
  clear hB
  go_loopw [4] (fun k wr => ∃ t : Nat, t ≤ n ∧ k = .int .i64 (t : Int) ∧ ∃ v, Bk w wr B v (bts (rs.take t))) (fun k _ => n - (intOf k).toNat)
  case atStart => exact ⟨0, Nat.zero_le _, rfl, _, K1.out⟩
  case round =>
    obtain ⟨t, ht, rfl, v, hK⟩ := hrel
    clear K1
    by_cases hlt : t < n
    · obtain ⟨r, hr⟩ : ∃ r, rs[t]? = some r := ⟨_, List.getElem?_eq_getElem (by rw [← HN.out]; exact hlt)⟩
      obtain ⟨hok, b, o, rfl, hrg⟩ := (HRA.out.be hK.be) t r hr
      obtain ⟨R, hR⟩ : ∃ R, R = rwc r := ⟨_, rfl⟩
      obtain ⟨L, hL⟩ : ∃ L, L = rwl r t := ⟨_, rfl⟩
      rw [← hR] at hrg
      have HG : Hid (wr.rangeAt b (o + t * 26) R) := hrg
      have HI : Hid ((Tryd.prog.info? 46).map (·.size) = some R.length) := by show _ = _; rw [hR, rwc_len hok]; exact info_raw
      have HLF : Hid (∀ X, Calls Tryd.prog 15 #[.agg R.toArray, .int .i64 (t : Int)] X fun e w' => e = .returned (.agg L.toArray) ∧ Below X.heap.size X w') := fun X => by rw [hL]; exact rleaf_any r hok t R hR X
      have HPU : Hid (∀ X, Bk w X B v (bts (rs.take t)) → Calls Tryd.prog 14 #[.pointer (some ⟨B, 0, none⟩), .agg L.toArray] X fun e w' => e = .returned (.int .i64 0) ∧ ∃ v', Bk w w' B v' (bts (rs.take (t + 1)))) := fun X hX => by
        rw [take_snoc rs t r hr]
        exact (put_rw w B v (rs.take t) r hok (by rw [List.length_take]; omega) t (by rw [List.length_take]; have := HN.out; omega) L hL X hX).mono fun _ _ ⟨q1, v', q2, _⟩ => ⟨q1, v', q2⟩
      have HK : Hid (Bk w wr B v (bts (rs.take t))) := hK
      clear hR hL hr hok hrg hK HRA
      go_wp2_with (first
        | (refine wpList_load_w rfl 46 (.tmp 17) rfl b (o + t * 26) rfl R _ HG.out Tryd.underlying46 rfl HI.out ?_; simp only [Act.put, List.setIfInBounds_toArray, List.set_cons_zero, List.set_cons_succ])
        | (go_at_call 15; refine Calls.mono (HLF.out wr) ?_; rintro e X2 ⟨rfl, q⟩; have K2 : Hid (Bk w X2 B v (bts (rs.take t))) := HK.out.keep q; clear q)
        | (go_at_call 14; refine Calls.mono (HPU.out X2 K2.out) ?_; rintro e X3 ⟨rfl, v3, q⟩; have K3 : Hid (Bk w X3 B v3 (bts (rs.take (t + 1)))) := q; clear q))
      refine ⟨⟨t + 1, hlt, by go_num, v3, K3.out⟩, by simp [intOf]; omega⟩
    · obtain rfl : t = n := by omega
      have HK : Hid (Bk w wr B v (bts rs)) := by have := hK; rwa [List.take_of_length_le (by rw [← HN.out]; exact Nat.le_refl _)] at this
      clear hK HRA
      go_wp2
      go_ret
      exact ⟨B, v, rfl, HK.out⟩

end Go.Proofs.YtehjadgmleoobaaDoor

namespace Go.Proofs.YtehjadgmleoobaaDoor
open Go Go.RowKit
open Sha

theorem slT {w : World} {v : Value} {d : List (BitVec 8)} (h : SlAt w v d) : SlAtT w v d := h
/-- A book's texts in memory. -/
theorem Bk.ls {w0 w : World} {B : Nat} {A : Option Addr} {n cap : Nat} {ts : List (List (BitVec 8))} (h : Bk w0 w B (.slice A n cap) ts) (hn : n = ts.length) : A = none ∧ ts = [] ∧ cap = 0 ∨ ∃ b, A = some ⟨b, 0, none⟩ ∧ ts.length ≤ cap ∧ LsAt w b 0 ts := by
  obtain ⟨cs, h1, h2⟩ := h.own
  rcases h1.2 with ⟨q, q2⟩ | ⟨g, c', cur, q, _, hh, hc, hm, hs, ht⟩
  · simp only [Value.slice.injEq] at q
    exact .inl ⟨q.1, List.eq_nil_of_length_eq_zero q2, q.2.2⟩
  · simp only [Value.slice.injEq] at q
    obtain ⟨rfl, rfl, rfl⟩ := q
    refine .inr ⟨g, rfl, hc, cs, by have := Lw.len h1; omega, Lw.range h1, fun i hi => ?_⟩
    obtain ⟨u, p1, p2⟩ := h2 i _ (List.getElem?_eq_getElem hi)
    rw [List.getD_eq_getElem?_getD, p1, List.getD_eq_getElem?_getD, List.getElem?_eq_getElem hi]
    exact slT (Bw.sl p2)
theorem results_rowA_tmp11 {P : Program} {fn : Func} {p q : Tmp} {ty : TypeId} {k : Nat} {e : TypeId} (h : fn.results = #[.cell p ty, .tmp q]) (tmps : Array Value) (w : World) (g : Nat) (t : TypeId) (cs : List Value) (v : Value)
    (hp : tmps.getD p undef = .pointer (some ⟨g, 0, none⟩)) (hv : tmps.getD q undef = v) (hg : Row w g cs t) (hu : P.underlying ty = some (.array k e)) (hi : (P.info? ty).map (·.size) = some cs.length) :
    (results fn tmps).run P w = .ok (.tuple #[.agg cs.toArray, v]) w := by
  have hp' : tmps[p]?.getD undef = .pointer (some ⟨g, 0, none⟩) := by simpa using hp
  have hv' : tmps[q]?.getD undef = v := by simpa using hv
  have hr := run_loadVar_row (P := P) w g t ty cs.toArray (0, 0) (.array k e) hg hu rfl (by simp [hi])
  simp [results, h, hp', hv', asAddr, hr]
section
variable {ops : Array Oper} {rest : List Oper} {op : Oper} {a : Act} {w : World} {Q : Exit → Act → World → Prop}
set_option maxRecDepth 100000 in
theorem wpList_allocDg (hgd : op.guard = none) (ho : op.op = .alloc 25) (h : ∀ X, Row X w.heap.size (vB (List.replicate 32 0#8)) 25 → Below w.heap.size w X → wpList Tryd.prog ops Q rest (a.put op.dst (.pointer (some ⟨w.heap.size, 0, none⟩))) X) : wpList Tryd.prog ops Q (op :: rest) a w :=
  wpList_plain hgd fun _ hK => by
    unfold Oper.wp execOp
    simp only [ho]
    go_simp
    exact hK _ _ (h _ (Row.new' (cs := vB (List.replicate 32 0#8)) rfl rfl) ((Below.refl _ _).alloc (Nat.le_refl _) _))
end
theorem info_dg11 (d : List (BitVec 8)) (h : d.length = 32) : (Tryd.prog.info? 25).map (·.size) = some (vB d).length := by rw [vB_length, h]; kernel_rfl
theorem vB_all11 (d : List (BitVec 8)) : (vB d).toArray.all (·.oneCell') = true := all_oneCell_toArray (vB_one d)
set_option maxRecDepth 100000 in
set_option maxHeartbeats 4000000 in
/-- Root, of a book. -/
theorem root_bk (w0 : World) (B : Nat) (v : Value) (ts : List (List (BitVec 8))) (hts : ts.length ≤ 1000000) (hm : ∀ i, (ts.getD i []).length ≤ 153) (k : Nat) (hk : k ≤ ts.length) (dd : List (BitVec 8)) (hd : dd = rt (ts.take k)) (w : World) (hT : Tab w 2) (hb : Bk w0 w B v ts) :
    Calls Tryd.prog 16 #[.pointer (some ⟨B, 0, none⟩), .int .i64 (k : Int)] w fun e w' => e = .returned (.tuple #[.agg (vB dd).toArray, .int .i64 0]) ∧ Below w.heap.size w w' := by
  obtain ⟨A, cap, e⟩ := hb.form
  subst e
  have h32 : dd.length = 32 := by rw [hd]; exact rt_length _
  have HF : Hid (∀ X, Below w.heap.size w X → Calls Tryd.prog 25 #[.pointer (some ⟨B, 0, none⟩), .int .i64 (k : Int)] X fun e w' => e = .returned (.tuple #[.slice A k cap, .int .i64 0]) ∧ w' = X) := fun X hX => by
    refine (first_bk w0 B _ ts hts k hk X (hb.keep hX)).mono ?_
    rintro e w' ⟨⟨A', c', q1, q2⟩, q3⟩
    simp only [Value.slice.injEq] at q1
    obtain ⟨rfl, _, rfl⟩ := q1
    exact ⟨q2, q3⟩
  have HR : Hid (∀ X, Below w.heap.size w X → Calls Tryd.prog 26 #[.slice A k cap] X fun e w' => e = .returned (.agg (vB dd).toArray) ∧ Below X.heap.size X w') := fun X hX => by
    have hTX := hT.below hX hT.lt
    rcases hb.ls rfl with ⟨rfl, rfl, rfl⟩ | ⟨b, rfl, hc, hl⟩
    · obtain rfl : k = 0 := by simpa using hk
      exact root_nil none 0 dd (by rw [hd]; exact rt_nil _ rfl) X hTX
    · refine root_any k (ts.take k) (by rw [List.length_take]; omega) (by omega) (fun i hi => ?_) dd hd b 0 cap (by omega) X hTX ((hl.below hX).take k)
      rw [List.length_take] at hi
      have e2 : (ts.take k).getD i [] = ts.getD i [] := by simp [List.getD_eq_getElem?_getD, show i < k by omega]
      rw [e2]
      have := hm i
      omega
  have HI : Hid ((Tryd.prog.info? 25).map (·.size) = some (vB dd).length) := info_dg11 dd h32
  have HLL : Hid ((vB dd).length = (vB (List.replicate 32 0#8)).length) := by show _ = _; rw [vB_length, vB_length, h32]; rfl
  clear hd hts hm hk hT hb h32
  go_enter Tryd.func16, Tryd.ntmps16
  go_wp2_with (first
    | (refine wpList_allocDg rfl rfl ?_; intro X0 q1 q2; have R0 : Hid (Row X0 w.heap.size (vB (List.replicate 32 0#8)) 25) := q1; have B0 : Hid (Below w.heap.size w X0) := q2; clear q1 q2; simp only [Act.put, List.setIfInBounds_toArray, List.set_cons_zero, List.set_cons_succ])
    | (go_at_call 25; refine Calls.mono (HF.out X0 B0.out) ?_; rintro e X ⟨rfl, hq⟩; obtain rfl := hq.symm)
    | (go_at_call 26; refine Calls.mono (HR.out X0 B0.out) ?_; rintro e X1 ⟨rfl, q⟩; have R1 : Hid (Row X1 w.heap.size (vB (List.replicate 32 0#8)) 25) := Row.below R0.out q R0.out.lt; have B1 : Hid (Below w.heap.size w X1) := B0.out.trans (q.mono B0.out.size); clear q)
    | (refine wpList_storeL rfl 25 (.tmp 4) (.tmp 19) rfl w.heap.size (vB dd) (vB (List.replicate 32 0#8)) 25 rfl rfl R1.out HLL.out HI.out (vB_all11 dd) ?_; intro X9 q1 q2; have E9 : Hid (X9 = _) := q1; have R9 : Hid (Row X9 w.heap.size (vB dd) 25) := q2; clear q1 q2; simp only [Act.put]))
  have hE : Below w.heap.size w X9 := by rw [E9.out]; exact below_setCells B1.out (Nat.le_refl _) _
  exact bodyPost_ret (results_rowA_tmp11 Tryd.results16 _ _ w.heap.size 25 (vB dd) (.int .i64 0) rfl rfl R9.out Tryd.underlying25 HI.out) rfl ⟨rfl, hE⟩
set_option maxRecDepth 100000 in
set_option maxHeartbeats 4000000 in
/-- Path, of a book. -/
theorem path_bk (w0 : World) (B : Nat) (v : Value) (ts : List (List (BitVec 8))) (hts : ts.length ≤ 1000000) (hm : ∀ i, (ts.getD i []).length ≤ 153) (i n : Nat) (hn : n = ts.length) (hi : i < n) (ds : List (List (BitVec 8))) (hd : ds = pt i ts) (w : World) (hT : Tab w 2) (hb : Bk w0 w B v ts) :
    Calls Tryd.prog 18 #[.pointer (some ⟨B, 0, none⟩), .int .i64 (i : Int), .int .i64 (n : Int)] w fun e w' => ∃ A cap, e = .returned (.tuple #[.slice A ds.length cap, .int .i64 0]) ∧ PAt w' (.slice A ds.length cap) ds ∧ Below w.heap.size w w' := by
  obtain ⟨A, cap, e⟩ := hb.form
  subst e
  have HF : Hid (Calls Tryd.prog 25 #[.pointer (some ⟨B, 0, none⟩), .int .i64 (n : Int)] w fun e w' => e = .returned (.tuple #[.slice A n cap, .int .i64 0]) ∧ w' = w) := by
    refine (first_bk w0 B _ ts hts n (by omega) w hb).mono ?_
    rintro e w' ⟨⟨A', c', q1, q2⟩, q3⟩
    simp only [Value.slice.injEq] at q1
    obtain ⟨rfl, _, rfl⟩ := q1
    exact ⟨q2, q3⟩
  have HP : Hid (Calls Tryd.prog 28 #[.slice A n cap, .int .i64 (i : Int)] w fun e w' => ∃ A2 c2, e = .returned (.tuple #[.slice A2 ds.length c2, .int .i64 0]) ∧ PAt w' (.slice A2 ds.length c2) ds ∧ Below w.heap.size w w') := by
    rcases hb.ls rfl with ⟨rfl, rfl, rfl⟩ | ⟨b, rfl, hc, hl⟩
    · simp at hn; omega
    · refine (path_in n i ts hn.symm hi (by omega) (fun j hj => by have := hm j; omega) b 0 cap (by omega) w hT hl).mono ?_
      rintro e w' ⟨v, rfl, q1, q2⟩
      rw [← hd] at q1
      have hp : PAt w' v ds := PAt.of_own q1 (by rw [hd]; exact pt_each n i ts hn.symm (by omega) (by omega))
      have hp2 := hp
      obtain ⟨_, A2, c2, e2, _⟩ := hp2
      subst e2
      exact ⟨A2, c2, rfl, hp, q2⟩
  have hi2 : ¬ ((n : Int) ≤ (i : Int)) := by omega
  have hnb : n ≤ 1000000 := by omega
  clear hd hts hm hT hb hn
  go_enter Tryd.func18, Tryd.ntmps18
  go_wp2_with (first
    | (go_at_call 25; refine Calls.mono HF.out ?_; rintro e X ⟨rfl, hq⟩; obtain rfl := hq.symm)
    | (go_at_call 28; refine Calls.mono HP.out ?_; rintro e X1 ⟨A2, c2, rfl, q1, q2⟩; have P1 : Hid (PAt X1 (.slice A2 ds.length c2) ds) := q1; have B1 : Hid (Below w.heap.size w X1) := q2; clear q1 q2))
  go_ret2
  exact ⟨A2, c2, rfl, P1.out, B1.out⟩

end Go.Proofs.YtehjadgmleoobaaDoor

namespace Go.Proofs.YtehjadgmleoobaaDoor
open Go Go.RowKit
open Sha

section
variable {ops : Array Oper} {rest : List Oper} {op : Oper} {a : Act} {w : World} {Q : Exit → Act → World → Prop}
theorem info_raw_open : ∃ ie z, Tryd.prog.info? 46 = some ie ∧ ie.zero = some z ∧ ie.size = 26 ∧ ie.bytes = 72 ∧ z.cells.size = 26 := by
  have i1 : (Tryd.prog.info? 46).map (fun i => (i.size, i.bytes)) = some (26, 72) := by kernel_rfl
  have i2 : ((Tryd.prog.info? 46).bind (·.zero)).map (·.cells.size) = some 26 := by kernel_rfl
  cases hi : Tryd.prog.info? 46 with
  | none => rw [hi] at i1; cases i1
  | some ie =>
    rw [hi] at i1 i2
    cases hz : ie.zero with
    | none => simp [hz] at i2
    | some z =>
      have i3 : ie.size = 26 ∧ ie.bytes = 72 := by simpa using i1
      exact ⟨ie, z, rfl, hz, i3.1, i3.2, by simpa [hz] using i2⟩
/-- A list of one thing. -/
theorem wpList_buildRaw (hgd : op.guard = none) (x : Operand) (ho : op.op = .buildSlice 40 1 #[(0, x)]) (L : List Value) (hL : L.length = 26) (hx : a.eval x = .agg L.toArray)
    (h : ∀ X, Row X w.heap.size L 46 → Below w.heap.size w X → wpList Tryd.prog ops Q rest (a.put op.dst (.slice (some ⟨w.heap.size, 0, none⟩) 1 1)) X) : wpList Tryd.prog ops Q (op :: rest) a w := by
  obtain ⟨ie, z, h1, h2, h3, _, h4⟩ := info_raw_open
  refine wpList_buildSlice hgd 40 46 1 _ ho L.toArray ie z Tryd.underlying40 h1 h2 (by rw [h3]; omega) (by rw [h3]; omega) ?_ (h _ (Row.new' rfl rfl) ((Below.refl _ _).alloc (Nat.le_refl _) _))
  rw [show (Array.map (fun (p : Nat × Operand) => match p with | (i, x) => (i, a.eval x)) #[(0, x)]).toList = [(0, a.eval x)] by simp, hx, h3]
  exact fill_one 26 (by decide) _ _ (by simp [hL]) (by simp)
end
theorem eqA11 (w : World) (l : List (BitVec 8)) (hl : l.length = 20) : (Op.equalIn 9999 27 (.agg (vB l).toArray) (.agg (vB l).toArray)).run Tryd.prog w = .ok true w := by
  have q := run_equalIn_bytes (P := Tryd.prog) w 9997 27 5 20 Tryd.underlying27 Tryd.underlying5 szU8 (toU l) (toU l) (by rw [toU_length, hl]) (by rw [toU_length, hl])
  rw [toU_beq, decide_eq_true rfl, ← vB_cell] at q
  exact q
theorem eqW11 (w : World) (l : List Nat) (hl : l.length = 4) : (Op.equalIn 9999 30 (.agg (vQ l).toArray) (.agg (vQ l).toArray)).run Tryd.prog w = .ok true w := by
  have q := run_equalIn_vQ (P := Tryd.prog) (w := w) 9997 30 28 4 Tryd.underlying30 Tryd.underlying28 szU64 l l hl hl
  rw [decide_eq_true rfl] at q
  exact q
set_option maxRecDepth 100000 in
set_option maxHeartbeats 4000000 in
theorem neL1 (ix en tk : Int) (s0 s1 s2 s3 s4 s5 s6 s7 s8 s9 s10 s11 s12 s13 s14 s15 s16 s17 s18 s19 : BitVec 8) (a0 a1 a2 a3 : Nat) (w : World) : (binOp .neq 32 (.agg #[.int .i64 ix, .int .i64 en, .int .i64 tk, .int .u8 (c s0), .int .u8 (c s1), .int .u8 (c s2), .int .u8 (c s3), .int .u8 (c s4), .int .u8 (c s5), .int .u8 (c s6), .int .u8 (c s7), .int .u8 (c s8), .int .u8 (c s9), .int .u8 (c s10), .int .u8 (c s11), .int .u8 (c s12), .int .u8 (c s13), .int .u8 (c s14), .int .u8 (c s15), .int .u8 (c s16), .int .u8 (c s17), .int .u8 (c s18), .int .u8 (c s19), .int .u64 (a0 : Int), .int .u64 (a1 : Int), .int .u64 (a2 : Int), .int .u64 (a3 : Int)]) (.agg #[.int .i64 ix, .int .i64 en, .int .i64 tk, .int .u8 (c s0), .int .u8 (c s1), .int .u8 (c s2), .int .u8 (c s3), .int .u8 (c s4), .int .u8 (c s5), .int .u8 (c s6), .int .u8 (c s7), .int .u8 (c s8), .int .u8 (c s9), .int .u8 (c s10), .int .u8 (c s11), .int .u8 (c s12), .int .u8 (c s13), .int .u8 (c s14), .int .u8 (c s15), .int .u8 (c s16), .int .u8 (c s17), .int .u8 (c s18), .int .u8 (c s19), .int .u64 (a0 : Int), .int .u64 (a1 : Int), .int .u64 (a2 : Int), .int .u64 (a3 : Int)])).run Tryd.prog w = .ok (.bool false) w := by
  have hA : ∀ w, (Op.equalIn 9999 27 (.agg #[.int .u8 (c s0), .int .u8 (c s1), .int .u8 (c s2), .int .u8 (c s3), .int .u8 (c s4), .int .u8 (c s5), .int .u8 (c s6), .int .u8 (c s7), .int .u8 (c s8), .int .u8 (c s9), .int .u8 (c s10), .int .u8 (c s11), .int .u8 (c s12), .int .u8 (c s13), .int .u8 (c s14), .int .u8 (c s15), .int .u8 (c s16), .int .u8 (c s17), .int .u8 (c s18), .int .u8 (c s19)]) (.agg #[.int .u8 (c s0), .int .u8 (c s1), .int .u8 (c s2), .int .u8 (c s3), .int .u8 (c s4), .int .u8 (c s5), .int .u8 (c s6), .int .u8 (c s7), .int .u8 (c s8), .int .u8 (c s9), .int .u8 (c s10), .int .u8 (c s11), .int .u8 (c s12), .int .u8 (c s13), .int .u8 (c s14), .int .u8 (c s15), .int .u8 (c s16), .int .u8 (c s17), .int .u8 (c s18), .int .u8 (c s19)])).run Tryd.prog w = .ok true w := fun w => eqA11 w [s0, s1, s2, s3, s4, s5, s6, s7, s8, s9, s10, s11, s12, s13, s14, s15, s16, s17, s18, s19] rfl
  have hW : ∀ w, (Op.equalIn 9999 30 (.agg #[.int .u64 (a0 : Int), .int .u64 (a1 : Int), .int .u64 (a2 : Int), .int .u64 (a3 : Int)]) (.agg #[.int .u64 (a0 : Int), .int .u64 (a1 : Int), .int .u64 (a2 : Int), .int .u64 (a3 : Int)])).run Tryd.prog w = .ok true w := fun w => eqW11 w [a0, a1, a2, a3] rfl
  go_simp
theorem neL (ix en tk : Int) (rc : List (BitVec 8)) (am : List Nat) (h : rc.length = 20) (h4 : am.length = 4) (w : World) : (binOp .neq 32 (.agg (lf ix en tk rc am).toArray) (.agg (lf ix en tk rc am).toArray)).run Tryd.prog w = .ok (.bool false) w := by
  match rc, h, am, h4 with
  | [s0, s1, s2, s3, s4, s5, s6, s7, s8, s9, s10, s11, s12, s13, s14, s15, s16, s17, s18, s19], _, [a0, a1, a2, a3], _ => exact neL1 ix en tk s0 s1 s2 s3 s4 s5 s6 s7 s8 s9 s10 s11 s12 s13 s14 s15 s16 s17 s18 s19 a0 a1 a2 a3 w
section
variable {ops : Array Oper} {rest : List Oper} {op : Oper} {a : Act} {w : World} {Q : Exit → Act → World → Prop}
theorem wpList_neqLf (hw : Region.wanted op (yielded ops a.tmps) = true) (x y : Operand) (yt : TypeId) (ho : op.op = .binOp .neq 32 x y yt) (L : List Value) (hx : a.eval x = .agg L.toArray) (hy : a.eval y = .agg L.toArray)
    (hr : ∀ w, (binOp .neq 32 (.agg L.toArray) (.agg L.toArray)).run Tryd.prog w = .ok (.bool false) w) (h : wpList Tryd.prog ops Q rest (a.put op.dst (.bool false)) w) : wpList Tryd.prog ops Q (op :: rest) a w :=
  BigFrame.wpList_want hw fun _ hK => by
    unfold Oper.wp execOp
    simp only [ho, hx, hy, Sem.run_bind, run_eqGuard_agg w .neq 32 x y _ _ guardL, Result.andThen_ok, hr, Sem.run_pure, Oper.upon_value]
    exact hK _ _ h
theorem wpList_neqDg (hw : Region.wanted op (yielded ops a.tmps) = true) (x y : Operand) (yt : TypeId) (ho : op.op = .binOp .neq 25 x y yt) (d : List (BitVec 8)) (hd : d.length = 32) (hx : a.eval x = .agg (vB d).toArray) (hy : a.eval y = .agg (vB d).toArray)
    (h : wpList Tryd.prog ops Q rest (a.put op.dst (.bool false)) w) : wpList Tryd.prog ops Q (op :: rest) a w :=
  BigFrame.wpList_want hw fun _ hK => wp_neq_d 25 x y yt ho 5 32 d d hx hy Tryd.underlying25 Tryd.underlying5 info_u8T hd hd guard_dig false (by simp) (hK _ _ h)
end
theorem rwc_one (r : Rwv) : ∀ u ∈ rwc r, u.oneCell' = true := by
  intro u hu
  unfold rwc at hu
  rcases List.mem_cons.1 hu with rfl | hu
  · rfl
  rcases List.mem_cons.1 hu with rfl | hu
  · rfl
  rcases List.mem_append.1 hu with hu | hu
  · exact vB_one _ u hu
  · unfold vQ at hu
    obtain ⟨x, _, rfl⟩ := List.mem_map.1 hu
    rfl
/-- The base may lie lower. -/
theorem Bk.down {w0 w1 w : World} {B : Nat} {v : Value} {ts : List (List (BitVec 8))} (h : Bk w1 w B v ts) (k : Below w0.heap.size w0 w1) : Bk w0 w B v ts :=
  ⟨h.row, h.own, Nat.le_trans k.size h.b0, fun g e => Nat.le_trans k.size (h.v0 g e), k.trans (h.be.mono k.size)⟩
/-- A book stays where none but blocks of other kinds turn. -/
theorem Bk.apart {R : Nat → Prop} {w0 w w' : World} {B : Nat} {v : Value} {ts : List (List (BitVec 8))} (h : Bk w0 w B v ts) (k : Gro R w w') (hT : ∀ g, R g → ∃ cs t, Row w g cs t ∧ t ≠ 5 ∧ t ≠ 63 ∧ t ≠ 52) (h0 : ∀ g, R g → w0.heap.size ≤ g) : Bk w0 w' B v ts := by
  obtain ⟨cs, h1, h2⟩ := h.own
  have two : ∀ {b : Nat} {c1 c2 : List Value} {t1 t2 : TypeId}, Row w b c1 t1 → Row w b c2 t2 → t1 = t2 := fun p q => by
    have := p.symm.trans q
    simp only [Option.some.injEq, Obj.cells.injEq] at this
    exact this.2.1
  refine ⟨k.row h.row (fun q => ?_), ⟨cs, Lw.gro h1 k (fun g e q => ?_), fun i d hd => ?_⟩, h.b0, h.v0, h.be.trans (k.to_below h.be.size h0)⟩
  · obtain ⟨c, t, q1, _, _, q4⟩ := hT B q
    exact q4 (two q1 h.row)
  · obtain ⟨c, t, q1, _, q3, _⟩ := hT g q
    exact Lw.ne h1 q1 q3 g e rfl
  · obtain ⟨u, p1, p2⟩ := h2 i d hd
    refine ⟨u, p1, Bw.gro p2 k (fun g e q => ?_)⟩
    obtain ⟨c, t, q1, q2, _, _⟩ := hT g q
    exact Bw.ne p2 q1 q2 g e rfl
/-- A book stays while another one turns. -/
theorem Bk.beside {w0 w w' : World} {B B2 : Nat} {v v2 : Value} {ts ts2 : List (List (BitVec 8))} (h : Bk w0 w B2 v2 ts2) (a : Bk w0 w B v ts) (k : Gro (fun g => g = B ∨ v.ownBlock = some g) w w') (hB : B2 ≠ B) (hv : ∀ g, v.ownBlock = some g → v2.ownBlock ≠ some g) : Bk w0 w' B2 v2 ts2 := by
  obtain ⟨cs, h1, h2⟩ := h.own
  obtain ⟨cs2, a1, a2⟩ := a.own
  refine ⟨k.row h.row (fun q => ?_), ⟨cs, Lw.gro h1 k (fun g e q => ?_), fun i d hd => ?_⟩, h.b0, h.v0, h.be.trans (k.to_below h.be.size (fun g q => ?_))⟩
  · rcases q with q | q
    · exact hB q
    · exact Lw.ne a1 h.row (by decide) B2 q rfl
  · rcases q with q | q
    · exact Lw.ne h1 a.row (by decide) g e q
    · exact hv g q e
  · obtain ⟨u, p1, p2⟩ := h2 i d hd
    refine ⟨u, p1, Bw.gro p2 k (fun g e q => ?_)⟩
    rcases q with q | q
    · exact Bw.ne p2 a.row (by decide) g e q
    · exact bl_ne p2 a1 (by decide) g e q.symm
  · rcases q with q | q
    · rw [q]; exact a.b0
    · exact a.v0 g q
theorem Bk.vlt {w0 w : World} {B : Nat} {v : Value} {ts : List (List (BitVec 8))} (h : Bk w0 w B v ts) : ∀ g, v.ownBlock = some g → g < w.heap.size := fun g e => by
  obtain ⟨cs, h1, _⟩ := h.own
  exact Lw.lt h1 g e
/-- append of one thing onto a list of them keeps a book. -/
theorem Bk.app {w0 w w' : World} {B : Nat} {v u : Value} {ts : List (List (BitVec 8))} {n : Nat} {xs : List Value} (h : Bk w0 w B v ts) (L : Lw w 46 26 u n xs) (k : w.grownBy w' u.ownBlock) (h0 : ∀ g, u.ownBlock = some g → w0.heap.size ≤ g) : Bk w0 w' B v ts := by
  refine h.apart (R := fun g => u.ownBlock = some g) ((Gro.refl _ w).grown k (fun g e => .inl e)) (fun g e => ?_) h0
  rcases L.2 with ⟨q, _⟩ | ⟨g', cap, cur, q, _, hh, _⟩
  · rw [q] at e; cases e
  · rw [q] at e
    obtain rfl : g' = g := by simpa [Value.ownBlock] using e
    exact ⟨cur.toList, 46, by unfold Row; rw [hh], by decide, by decide, by decide⟩

end Go.Proofs.YtehjadgmleoobaaDoor
