/-
  The law's walk: growths_walk.
-/
import Derived.Test.YtflllmhefehpgaaDoorTRGro
import Derived.Test.YtflllmhefehpgaaDoorTOwn3
import Derived.Test.YtflllmhefehpgaaDoorTSome
import Derived.Deep.CutRange

namespace Go.Proofs.YtflllmhefehpgaaDoor
open Go Go.RowKit
open Sha

/-- What Growth tells of a number, and its error. -/
def gq (i : Int) (ps : List (List (BitVec 8))) : List (List (BitVec 8)) := if 1 ≤ i ∧ i ≤ (ps.length : Int) then gr i.toNat ps true else []
def ge (i : Int) (n : Nat) : Int := if 0 ≤ i ∧ i ≤ (n : Int) then 0 else 40
theorem gq_fact (ps : List (List (BitVec 8))) (n : Nat) (hn : ps.length = n) (hs : n ≤ 1048576) (i : Int) : (∀ d ∈ gq i ps, d.length = 32) ∧ (gq i ps).length ≤ 1048576 := by
  unfold gq
  by_cases h : 1 ≤ i ∧ i ≤ (ps.length : Int)
  · rw [if_pos h]
    obtain ⟨q1, q2⟩ := gr_fact n i.toNat true ps hn (by omega) (by omega) (by omega)
    exact ⟨q1, by omega⟩
  · rw [if_neg h]
    exact ⟨(fun d hd => nomatch hd), Nat.zero_le _⟩
theorem growU (ps : List (List (BitVec 8))) (n : Nat) (hn : ps.length = n) (hs : n ≤ 1048576) (hl : ∀ i, i < n → (ps.getD i []).length ≤ 140737488351232) (i ec : Int) (he : ec = ge i n) (ds : List (List (BitVec 8))) (hd : ds = gq i ps) (b cap : Nat) (hc : n ≤ cap) (w : World) (fG : Given w) (hv : LsAt w b 0 ps) :
    Calls Tryd.prog 32 #[.slice (some ⟨b, 0, none⟩) n cap, .int .i64 i] w fun e w' => ∃ v, e = .returned (.tuple #[v, .int .i64 ec]) ∧ w'.ownsRow w.heap.size 24 32 v ds.length (vB ds.flatten) ∧ Below w.heap.size w w' := by
  subst he hd
  unfold gq ge
  by_cases h : 1 ≤ i ∧ i ≤ (n : Int)
  · rw [hn, if_pos h, if_pos (by omega), ← fl_flatten]
    obtain ⟨j, rfl⟩ : ∃ j : Nat, i = (j : Int) := ⟨i.toNat, by omega⟩
    exact grow_in n j ps hn (by omega) (by omega) (by omega) (fun k hk => by have := hl k (by omega); omega) b 0 cap hc w fG.cub hv
  · rw [hn, if_neg h]
    by_cases h0 : i = 0
    · subst h0
      rw [if_pos (by omega)]
      refine (grow_zero (some ⟨b, 0, none⟩) n cap w).mono ?_
      rintro e w' ⟨rfl, hB⟩
      exact ⟨_, rfl, World.ownsRow_nil _ _ _ _, hB⟩
    · rw [if_neg (by omega)]
      refine (grow_out (some ⟨b, 0, none⟩) n cap i (by omega) w).mono ?_
      rintro e w' ⟨rfl, hB⟩
      exact ⟨_, rfl, World.ownsRow_nil _ _ _ _, hB⟩
theorem rGrowU (ps : List (List (BitVec 8))) (n : Nat) (hn : ps.length = n) (hs : n ≤ 1048576) (hl : ∀ i, i < n → (ps.getD i []).length ≤ 140737488351232) (i ec : Int) (he : ec = ge i n) (ds : List (List (BitVec 8))) (hd : ds = gq i ps) (A : Option Addr) (cap : Nat) (hc : n ≤ cap) (w : World) (fG : Given w) (hv : Lv w A ps) :
    Calls Tryd.prog 33 #[.slice A n cap, .int .i64 i] w fun e w' => ∃ v, e = .returned (.tuple #[v, .int .i64 ec]) ∧ w'.ownsRow w.heap.size 24 32 v ds.length (vB ds.flatten) ∧ Below w.heap.size w w' := by
  subst he hd
  unfold gq ge
  by_cases h : 1 ≤ i ∧ i ≤ (n : Int)
  · rw [hn, if_pos h, if_pos (by omega), ← fl_flatten]
    obtain ⟨j, rfl⟩ : ∃ j : Nat, i = (j : Int) := ⟨i.toNat, by omega⟩
    rcases hv with h0 | ⟨b, o, rfl, hv⟩
    · subst h0; simp at hn; omega
    · exact rGrow_in n j ps hn (by omega) (by omega) (by omega) (fun k hk => by have := hl k (by omega); omega) b o cap hc w fG hv
  · rw [hn, if_neg h]
    by_cases h0 : i = 0
    · subst h0
      rw [if_pos (by omega)]
      refine (rGrow_zero A n cap w).mono ?_
      rintro e w' ⟨rfl, hB⟩
      exact ⟨_, rfl, World.ownsRow_nil _ _ _ _, hB⟩
    · rw [if_neg (by omega)]
      refine (rGrow_out A n cap i (by omega) w).mono ?_
      rintro e w' ⟨rfl, hB⟩
      exact ⟨_, rfl, World.ownsRow_nil _ _ _ _, hB⟩

end Go.Proofs.YtflllmhefehpgaaDoor

namespace Go.Proofs.YtflllmhefehpgaaDoor
open Go Go.RowKit
open Sha

set_option maxRecDepth 100000 in
set_option maxHeartbeats 8000000 in
theorem growths_walk (ps : List (List (BitVec 8))) (i : Int) (hps : ∀ i, i < ps.length → (ps.getD i []).length ≤ 140737488351232) (A3 : Option Addr) (c3 : Nat) (hc3 : ps.length ≤ c3) (w : World) (fG : Given w) (f3 : Lv w A3 ps) :
    Calls Tryd.prog 6 #[.slice A3 ps.length c3, .int .i64 i] w fun e w' => e = .returned (.bool true) ∧ Below w.heap.size w w' := by
  obtain ⟨qs, hqs⟩ : ∃ qs, qs = few ps := ⟨_, rfl⟩
  obtain ⟨n, hn⟩ : ∃ n, n = qs.length := ⟨_, rfl⟩
  have hnn : n ≤ 1048576 := by rw [hn, hqs]; exact few_len ps
  obtain ⟨ds, hds⟩ : ∃ ds, ds = gq i qs := ⟨_, rfl⟩
  obtain ⟨es, hes⟩ : ∃ es, es = gq i (oth qs) := ⟨_, rfl⟩
  obtain ⟨ec, hec⟩ : ∃ ec, ec = ge i n := ⟨_, rfl⟩
  obtain ⟨p, hp⟩ : ∃ p, p = ds.length := ⟨_, rfl⟩
  obtain ⟨q, hq⟩ : ∃ q, q = es.length := ⟨_, rfl⟩
  have hql : ∀ i, i < n → (qs.getD i []).length ≤ 140737488351232 := fun i hi => by
    rw [hn] at hi
    rw [hqs] at hi ⊢
    unfold few at hi ⊢
    rw [List.length_take] at hi
    rw [show (ps.take 1048576).getD i [] = ps.getD i [] by simp [List.getD_eq_getElem?_getD, show i < 1048576 by omega]]
    exact hps i (by omega)
  have HN : Hid (qs.length = n) := hn.symm
  have HON : Hid ((oth qs).length = n) := by show _ = _; rw [oth_len]; exact hn.symm
  have HNF : Hid ((few ps).length = n) := by show _ = _; rw [← hqs, hn]
  have HNN : Hid (n ≤ 1048576) := hnn
  have HQL : Hid (∀ i, i < n → (qs.getD i []).length ≤ 140737488351232) := hql
  have HOL : Hid (∀ i, i < n → ((oth qs).getD i []).length ≤ 140737488351232) := fun i hi => by rw [oth_get, List.length_map]; exact hql i hi
  have HC3 : Hid (ps.length ≤ c3) := hc3
  have HNC : Hid (n ≤ c3) := by show _ ≤ _; rw [hn, hqs]; unfold few; rw [List.length_take]; omega
  have EDS : Hid (ds = gq i qs) := hds
  have EES : Hid (es = gq i (oth qs)) := hes
  have EEC : Hid (ec = ge i n) := hec
  have EP : Hid (ds.length = p) := hp.symm
  have EQ : Hid (es.length = q) := hq.symm
  have D32 : Hid (∀ d ∈ ds, d.length = 32) := by rw [hds]; exact (gq_fact qs n hn.symm hnn i).1
  have E32 : Hid (∀ d ∈ es, d.length = 32) := by rw [hes]; exact (gq_fact (oth qs) n HON.out hnn i).1
  have PLE : Hid (p ≤ 1048576) := by show _ ≤ _; rw [hp, hds]; exact (gq_fact qs n hn.symm hnn i).2
  have QLE : Hid (q ≤ 1048576) := by show _ ≤ _; rw [hq, hes]; exact (gq_fact (oth qs) n HON.out hnn i).2
  have P20 : Hid ((p + 20) * 32 ≤ 140737488355328) := by have := PLE.out; show _ ≤ _; omega
  have Q20 : Hid ((q + 20) * 32 ≤ 140737488355328) := by have := QLE.out; show _ ≤ _; omega
  have P42 : Hid (p ≤ 4398046511104) := by have := PLE.out; show _ ≤ _; omega
  have Q42 : Hid (q ≤ 4398046511104) := by have := QLE.out; show _ ≤ _; omega
  have f4 : Lv w A3 qs := by rw [hqs]; exact f3.few
  have FG : Hid (Given w) := fG
  have F4 : Hid (Lv w A3 qs) := f4
  have hb : Below w.heap.size w w := Below.refl _ _
  clear hqs hn hds hes hec hp hq hps hc3 hql hnn
  go_enter Tryd.func6, Tryd.ntmps6
  go_wp2_with fail
  refine (awake_any w fG.cub).mono ?_
  rintro e V0 ⟨rfl, hB⟩
  replace hb := hb.trans (hB.mono hb.size)
  replace fG := fG.low hB
  replace f3 := f3.below hB
  replace f4 := f4.below hB
  clear hB
  go_wp2_with fail
  refine (some_any ps _ rfl A3 c3 HC3.out V0 f3).mono ?_
  rintro e w9 ⟨rfl, rfl⟩
  rw [HNF.out]
  clear f3
  go_wp2_with fail
  have HGW : Hid (w.heap.size ≤ w9.heap.size) := hb.size
  refine (lend_any qs n HN.out HNN.out HQL.out A3 c3 w9 f4).mono ?_
  rintro e V1 ⟨G, ov, L, B, rfl, lo1, hGN, hB⟩
  replace hb := hb.trans (hB.mono hb.size)
  replace fG := fG.low hB
  replace f4 := f4.below hB
  clear hB
  obtain ⟨Ao, co, eo⟩ := own_form lo1.own
  subst eo
  have HG : Hid (w.heap.size ≤ G) := Nat.le_trans HGW.out hGN
  clear hGN
  have n0 : Row (V1.alloc (Obj.cells #[.slice none 0 0, .slice none 0 0, .int .i64 0] 35)) V1.heap.size (lo (.slice none 0 0) (.slice none 0 0) 0) 35 := Row.new' rfl rfl
  have T0 := n0.there 0 (lo (.slice (some ⟨G, 0, none⟩) (n + 9) (n + 9)) (.slice Ao n co) n).toArray.size (by simp [lo])
  have r9 := n0.over (vs := (lo (.slice (some ⟨G, 0, none⟩) (n + 9) (n + 9)) (.slice Ao n co) n)) rfl
  have hB : Below V1.heap.size V1 (World.setCells (V1.alloc (Obj.cells #[.slice none 0 0, .slice none 0 0, .int .i64 0] 35)) V1.heap.size 0 (lo (.slice (some ⟨G, 0, none⟩) (n + 9) (n + 9)) (.slice Ao n co) n)) := below_setCells ((Below.refl _ _).alloc (Nat.le_refl _) _) (Nat.le_refl _) _
  replace hb := hb.trans (hB.mono hb.size)
  replace fG := fG.low hB
  replace f4 := f4.below hB
  replace lo1 := lo1.below hB
  have h90 := r9.cell 0 _ rfl
  have h92 := r9.cell 2 _ rfl
  clear hB n0
  go_wp2_with (first
    | (refine wpList_store_mid rfl 35 (.tmp 7) (.tmp 28) rfl V1.heap.size 0 (lo (.slice (some ⟨G, 0, none⟩) (n + 9) (n + 9)) (.slice Ao n co) n).toArray rfl rfl T0 info_lo (lo_one rfl rfl) ?_; simp only [Act.put]; clear T0; (change wpList _ _ _ _ _ (World.setCells (V1.alloc (Obj.cells #[.slice none 0 0, .slice none 0 0, .int .i64 0] 35)) V1.heap.size 0 (lo (.slice (some ⟨G, 0, none⟩) (n + 9) (n + 9)) (.slice Ao n co) n))); (generalize (World.setCells (V1.alloc (Obj.cells #[.slice none 0 0, .slice none 0 0, .int .i64 0] 35)) V1.heap.size 0 (lo (.slice (some ⟨G, 0, none⟩) (n + 9) (n + 9)) (.slice Ao n co) n)) = X9 at *); (generalize hN : V1.heap.size = N9 at *; clear hN))
    | (refine wpList_slice_to rfl 25 22 (.tmp 31) (.tmp 33) G 0 (n + 9) (n + 9) n rfl rfl rfl (by omega) Tryd.underlying25 info_slb ?_; simp only [Act.put, List.setIfInBounds_toArray, List.set_cons_zero, List.set_cons_succ]))
  have ZW : Hid (w.heap.size ≤ X9.heap.size) := hb.size
  refine (growU qs n HN.out HNN.out HQL.out i ec EEC.out ds EDS.out G (n + 9) (by omega) X9 fG (lo1.ls HN.out (fun _ _ => rfl))).mono ?_
  rintro e V2 ⟨va, rfl, o0, hB⟩
  replace hb := hb.trans (hB.mono hb.size)
  replace fG := fG.low hB
  replace f4 := f4.below hB
  replace lo1 := lo1.below hB
  replace r9 := Row.below r9 hB (Row.lt r9)
  replace h90 := cell_be h90 hB
  replace h92 := cell_be h92 hB
  clear hB
  have f_va : Hid (Fresh X9.heap.size _) := fresh_of o0
  have F_va : Hid (Fresh w.heap.size _) := Fresh.more f_va.out ZW.out
  have oa := ow_of o0
  rw [EP.out] at oa
  clear o0 ZW
  obtain ⟨Aa, ca, ev, _⟩ := oa.form
  subst ev
  go_wp2_with (refine wpList_load_w rfl 35 (.tmp 7) rfl N9 0 rfl (lo (.slice (some ⟨G, 0, none⟩) (n + 9) (n + 9)) (.slice Ao n co) n) _ r9.all Tryd.underlying35 rfl info_lo ?_; simp only [Act.put, List.setIfInBounds_toArray, List.set_cons_zero, List.set_cons_succ])
  refine (back_any qs n HN.out HNN.out HQL.out G _ L B A3 c3 V2 lo1 f4).mono ?_
  rintro e V3 ⟨rfl, hB⟩
  replace hb := hb.trans (hB.mono hb.size)
  replace fG := fG.low hB
  replace f4 := f4.below hB
  replace lo1 := lo1.below hB
  replace r9 := Row.below r9 hB (Row.lt r9)
  replace h90 := cell_be h90 hB
  replace h92 := cell_be h92 hB
  replace oa := oa.be hB
  clear hB
  go_wp2_with fail
  have ZW : Hid (w.heap.size ≤ V3.heap.size) := hb.size
  refine (rGrowU qs n HN.out HNN.out HQL.out i ec EEC.out ds EDS.out A3 c3 HNC.out V3 fG f4).mono ?_
  rintro e V4 ⟨vw, rfl, o0, hB⟩
  replace hb := hb.trans (hB.mono hb.size)
  replace fG := fG.low hB
  replace f4 := f4.below hB
  replace lo1 := lo1.below hB
  replace r9 := Row.below r9 hB (Row.lt r9)
  replace h90 := cell_be h90 hB
  replace h92 := cell_be h92 hB
  replace oa := oa.be hB
  clear hB
  have f_vw : Hid (Fresh V3.heap.size _) := fresh_of o0
  have F_vw : Hid (Fresh w.heap.size _) := Fresh.more f_vw.out ZW.out
  have ow := ow_of o0
  rw [EP.out] at ow
  clear o0 ZW
  obtain ⟨Aw, cw, ev, _⟩ := ow.form
  subst ev
  go_wp2_with fail
  refine (same_any ds p EP.out P42.out _ _ _ _ V4 (oa.patp EP.out D32.out) (ow.patp EP.out D32.out)).mono ?_
  rintro e V5 ⟨rfl, hB⟩
  replace hb := hb.trans (hB.mono hb.size)
  replace fG := fG.low hB
  replace f4 := f4.below hB
  replace lo1 := lo1.below hB
  replace r9 := Row.below r9 hB (Row.lt r9)
  replace h90 := cell_be h90 hB
  replace h92 := cell_be h92 hB
  replace oa := oa.be hB
  replace ow := ow.be hB
  clear hB
  go_wp2_with (refine wpList_slice_to rfl 25 22 (.tmp 68) (.tmp 70) G 0 (n + 9) (n + 9) n rfl rfl rfl (by omega) Tryd.underlying25 info_slb ?_; simp only [Act.put, List.setIfInBounds_toArray, List.set_cons_zero, List.set_cons_succ])
  have la : Hid (∀ g, (Value.slice Aa p ca).ownBlock = some g → g < V5.heap.size) := oa.lt
  have ZW : Hid (w.heap.size ≤ V5.heap.size) := hb.size
  refine (growU qs n HN.out HNN.out HQL.out i ec EEC.out ds EDS.out G (n + 9) (by omega) V5 fG (lo1.ls HN.out (fun _ _ => rfl))).mono ?_
  rintro e V6 ⟨vb, rfl, o0, hB⟩
  replace hb := hb.trans (hB.mono hb.size)
  replace fG := fG.low hB
  replace f4 := f4.below hB
  replace lo1 := lo1.below hB
  replace r9 := Row.below r9 hB (Row.lt r9)
  replace h90 := cell_be h90 hB
  replace h92 := cell_be h92 hB
  replace oa := oa.be hB
  replace ow := ow.be hB
  clear hB
  have f_vb : Hid (Fresh V5.heap.size _) := fresh_of o0
  have F_vb : Hid (Fresh w.heap.size _) := Fresh.more f_vb.out ZW.out
  have ob := ow_of o0
  rw [EP.out] at ob
  clear o0 ZW
  obtain ⟨Ab, cb, ev, _⟩ := ob.form
  subst ev
  have AB : Hid (Ap (.slice Aa p ca) (.slice Ab p cb)) := fun g e1 e2 => by have := la.out g e1; have := f_vb.out g e2; omega
  clear la
  go_wp2_with fail
  refine (same_any ds p EP.out P42.out _ _ _ _ V6 (ob.patp EP.out D32.out) (ow.patp EP.out D32.out)).mono ?_
  rintro e V7 ⟨rfl, hB⟩
  replace hb := hb.trans (hB.mono hb.size)
  replace fG := fG.low hB
  replace f4 := f4.below hB
  replace lo1 := lo1.below hB
  replace r9 := Row.below r9 hB (Row.lt r9)
  replace h90 := cell_be h90 hB
  replace h92 := cell_be h92 hB
  replace oa := oa.be hB
  replace ow := ow.be hB
  replace ob := ob.be hB
  clear hB
  go_wp2_with fail
  refine (same_any ds p EP.out P42.out _ _ _ _ V7 (oa.patp EP.out D32.out) (ow.patp EP.out D32.out)).mono ?_
  rintro e V8 ⟨rfl, hB⟩
  replace hb := hb.trans (hB.mono hb.size)
  replace fG := fG.low hB
  replace f4 := f4.below hB
  replace lo1 := lo1.below hB
  replace r9 := Row.below r9 hB (Row.lt r9)
  replace h90 := cell_be h90 hB
  replace h92 := cell_be h92 hB
  replace oa := oa.be hB
  replace ow := ow.be hB
  replace ob := ob.be hB
  clear hB
  go_wp2_with fail
  have h91 := r9.cell 1 _ rfl
  have HGB : Hid (∀ i j, i < n → j < n → B i ≠ V8.heap.size + 1 + j) := fun i j hi _ => by have := (lo1.each i hi).2.lt; omega
  go_cut [85] from 82 to 85 (fun c85 wz => Below w.heap.size w wz ∧ Loan wz G (.slice Ao n co) L B qs (oth qs) n n n 9 ∧ Row wz N9 (lo (.slice (some ⟨G, 0, none⟩) (n + 9) (n + 9)) (.slice Ao n co) n) 35 ∧ Ow wz (.slice Aa p ca) p (vB ds.flatten) ∧ Ow wz (.slice Ab p cb) p (vB ds.flatten) ∧ Ow wz (.slice Aw p cw) p (vB ds.flatten))
  case first =>
    go_region_law (first
      | (refine stp_fcall rfl 19 #[.slice A3 n c3] (by go_simp) ((other_any qs n HN.out HNN.out HQL.out A3 c3 (World.drew V8) f4).mono ?_); rintro e W6 ⟨rfl, tw, hB5⟩; (have hB6 : Below V8.heap.size V8 W6 := ⟨hB5.os, hB5.tape, hB5.output, hB5.size, hB5.block⟩); clear hB5; refine ⟨_, rfl, ?_⟩; (have r96 := Row.below r9 hB6 (Row.lt r9)); (have h906 := r96.cell 0 _ rfl); (have h916 := r96.cell 1 _ rfl); (have h926 := r96.cell 2 _ rfl); (have lo6 := lo1.below hB6); (have hb6 := hb.trans (hB6.mono hb.size)))
      | (refine stp_fcall rfl 18 #[.agg #[.slice (some ⟨G, 0, none⟩) (n + 9) (n + 9), .slice Ao n co, .int .i64 (n : Int)], .slice (some ⟨V8.heap.size, 0, none⟩) n n] (by go_simp) ((lwrite_any qs qs (oth qs) n HNN.out HQL.out (fun _ _ => rfl) (fun i _ => by rw [oth_get, List.length_map]) w.heap.size G V8.heap.size (.slice Ao n co) L B w W6 hb6 HG.out HGB.out lo6 tw).mono ?_); rintro e W7 ⟨rfl, lo7, hb7, _, ot7⟩; refine ⟨_, rfl, ?_⟩))
    all_goals
      go_wp2_with fail
      go_meet
      exact ⟨hb7, lo7, ot7 _ _ _ r96 (by decide), (oa.be hB6).rows ot7, (ob.be hB6).rows ot7, (ow.be hB6).rows ot7⟩
  case rest =>
    clear hb lo1 r9 h90 h91 h92 fG f4 HGB oa ob ow
    obtain ⟨hb, lo1, r9, oa, ob, ow⟩ := hcut
    have fG := FG.out.low hb
    have f4 := F4.out.below hb
    have h90 := r9.cell 0 _ rfl
    have h92 := r9.cell 2 _ rfl
    clear r9
    have ls := lo1.ls (qs := oth qs) HON.out (fun i _ => by rw [oth_get, List.length_map])
    clear lo1
    go_wp2_with (refine wpList_slice_to rfl 25 22 (.tmp 88) (.tmp 90) G 0 (n + 9) (n + 9) n rfl rfl rfl (by omega) Tryd.underlying25 info_slb ?_; simp only [Act.put, List.setIfInBounds_toArray, List.set_cons_zero, List.set_cons_succ])
    have la : Hid (∀ g, (Value.slice Aa p ca).ownBlock = some g → g < wc.heap.size) := oa.lt
    have lb : Hid (∀ g, (Value.slice Ab p cb).ownBlock = some g → g < wc.heap.size) := ob.lt
    have ZW : Hid (w.heap.size ≤ wc.heap.size) := hb.size
    refine (growU (oth qs) n HON.out HNN.out HOL.out i ec EEC.out es EES.out G (n + 9) (by omega) wc fG ls).mono ?_
    rintro e V9 ⟨vc, rfl, o0, hB⟩
    replace hb := hb.trans (hB.mono hb.size)
    replace fG := fG.low hB
    replace f4 := f4.below hB
    replace oa := oa.be hB
    replace ob := ob.be hB
    replace ow := ow.be hB
    clear hB
    have f_vc : Hid (Fresh wc.heap.size _) := fresh_of o0
    have F_vc : Hid (Fresh w.heap.size _) := Fresh.more f_vc.out ZW.out
    have oc := ow_of o0
    rw [EQ.out] at oc
    clear o0 ZW
    obtain ⟨Ac, cc, ev, _⟩ := oc.form
    subst ev
    have AC : Hid (Ap (.slice Aa p ca) (.slice Ac q cc)) := fun g e1 e2 => by have := la.out g e1; have := f_vc.out g e2; omega
    have BC : Hid (Ap (.slice Ab p cb) (.slice Ac q cc)) := fun g e1 e2 => by have := lb.out g e1; have := f_vc.out g e2; omega
    clear ls h90 h92 la lb
    go_wp2_with fail
    refine (other_any qs n HN.out HNN.out HQL.out A3 c3 V9 f4).mono ?_
    rintro e V10 ⟨rfl, tw, hB⟩
    replace hb := hb.trans (hB.mono hb.size)
    replace fG := fG.low hB
    replace f4 := f4.below hB
    replace oa := oa.be hB
    replace ob := ob.be hB
    replace ow := ow.be hB
    replace oc := oc.be hB
    clear hB
    go_wp2_with fail
    have ZW : Hid (w.heap.size ≤ V10.heap.size) := hb.size
    refine (rGrowU (oth qs) n HON.out HNN.out HOL.out i ec EEC.out es EES.out (some ⟨V9.heap.size, 0, none⟩) n (Nat.le_refl _) V10 fG (.inr ⟨_, _, rfl, tw.ln HON.out⟩)).mono ?_
    rintro e V11 ⟨vt, rfl, o0, hB⟩
    replace hb := hb.trans (hB.mono hb.size)
    replace fG := fG.low hB
    replace f4 := f4.below hB
    replace oa := oa.be hB
    replace ob := ob.be hB
    replace ow := ow.be hB
    replace oc := oc.be hB
    clear hB
    have f_vt : Hid (Fresh V10.heap.size _) := fresh_of o0
    have F_vt : Hid (Fresh w.heap.size _) := Fresh.more f_vt.out ZW.out
    have ot := ow_of o0
    rw [EQ.out] at ot
    clear o0 ZW
    obtain ⟨At, ct, ev, _⟩ := ot.form
    subst ev
    clear tw
    go_wp2_with fail
    refine (same_any es q EQ.out Q42.out _ _ _ _ V11 (oc.patp EQ.out E32.out) (ot.patp EQ.out E32.out)).mono ?_
    rintro e V12 ⟨rfl, hB⟩
    replace hb := hb.trans (hB.mono hb.size)
    replace fG := fG.low hB
    replace f4 := f4.below hB
    replace oa := oa.be hB
    replace ob := ob.be hB
    replace ow := ow.be hB
    replace oc := oc.be hB
    replace ot := ot.be hB
    clear hB
    go_wp2_with fail
    refine (same_any ds p EP.out P42.out _ _ _ _ V12 (ob.patp EP.out D32.out) (ow.patp EP.out D32.out)).mono ?_
    rintro e V13 ⟨rfl, hB⟩
    replace hb := hb.trans (hB.mono hb.size)
    replace fG := fG.low hB
    replace f4 := f4.below hB
    replace oa := oa.be hB
    replace ob := ob.be hB
    replace ow := ow.be hB
    replace oc := oc.be hB
    replace ot := ot.be hB
    clear hB
    go_wp2_with fail
    refine (same_any ds p EP.out P42.out _ _ _ _ V13 (oa.patp EP.out D32.out) (ow.patp EP.out D32.out)).mono ?_
    rintro e V14 ⟨rfl, hB⟩
    replace hb := hb.trans (hB.mono hb.size)
    replace fG := fG.low hB
    replace f4 := f4.below hB
    replace oa := oa.be hB
    replace ob := ob.be hB
    replace ow := ow.be hB
    replace oc := oc.be hB
    replace ot := ot.be hB
    clear hB
    go_wp2_with fail
    refine (own3_any q p p Q20.out P20.out P20.out Aa Ab Ac ca cb cc _ _ _ V14 oa ob oc AB.out AC.out BC.out).mono ?_
    rintro e V99 ⟨rfl, hG⟩
    have hB9 := hG.to_below hb.size (fun g h => by rcases h with h | h | h; exact F_va.out g h; exact F_vb.out g h; exact F_vc.out g h)
    clear hG oa ob oc ow ot
    go_wp2_with fail
    go_ret
    exact ⟨rfl, hb.trans hB9⟩

end Go.Proofs.YtflllmhefehpgaaDoor
