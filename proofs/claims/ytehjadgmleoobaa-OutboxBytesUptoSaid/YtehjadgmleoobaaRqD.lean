/-
  the document's reader, of any room: wide numbers.
-/
import Derived.Test.YtehjadgmleoobaaRqB
import Derived.Test.YtehjadgmleoobaaXRd3
import Derived.Test.YtehjadgmleoobaaDwH

namespace Go.Proofs.Ytehjadgmleoobaa
open Go Go.RowKit
open Sha

theorem rq_sets {W : World} {D g : Nat} {A : Option Addr} {cap : Nat} {ao : Nat} {bs : List (BitVec 8)} {a : Nat} {f : Int} (h : Rq W D g A cap ao bs a f) (b o : Nat) (vs : List Value) (h1 : D ≠ b) (h2 : 0 < bs.length → g ≠ b) : Rq (W.setCells b o vs) D g A cap ao bs a f :=
  ⟨Row.setCells_other h.row b o vs h1, h.lies, fun e => range_block (h.by' e) (heap_sets W b o vs g (h2 e)), h.nd, h.le, h.room, h.len⟩
theorem rq_set {W : World} {D g : Nat} {A : Option Addr} {cap : Nat} {ao : Nat} {bs : List (BitVec 8)} {a : Nat} {f : Int} (h : Rq W D g A cap ao bs a f) (b o : Nat) (v : Value) (h1 : D ≠ b) (h2 : 0 < bs.length → g ≠ b) : Rq (W.setCell ⟨b, o, none⟩ v) D g A cap ao bs a f :=
  ⟨h.row.set_other b o v h1, h.lies, fun e => range_block (h.by' e) (((Gro.refl (· = b) W).set b o v rfl).block g (h.lt e) (h2 e)), h.nd, h.le, h.room, h.len⟩

set_option maxRecDepth 100000 in
set_option maxHeartbeats 2000000 in
theorem qaddress_by (D g : Nat) (A : Option Addr) (cap : Nat) (ao : Nat) (bs : List (BitVec 8)) (a a' : Nat) (f f' : Int) (d : List (BitVec 8)) (n : Nat) (hd : d.length = n) (w : World) (h : Rq w D g A cap ao bs a f) (hF : ∀ W, Rq W D g A cap ao bs a f → Calls Try.prog 59 #[.pointer (some ⟨D, 0, none⟩), .int .i64 20] W fun e w' => ∃ A' c', e = .returned (.slice A' n c') ∧ SlAt w' (.slice A' n c') d ∧ Rq w' D g A cap ao bs a' f' ∧ Gp D W w') :
    Calls Try.prog 38 #[.pointer (some ⟨D, 0, none⟩)] w fun e w' => e = .returned (.agg (vB (dgN 20 d)).toArray) ∧ Rq w' D g A cap ao bs a' f' ∧ Gp D w w' := by
  have b1 : Below w.heap.size w (w.alloc (Obj.cells z20.toArray 34)) := (Below.refl _ _).alloc (Nat.le_refl _) _
  have b2 : Below w.heap.size w ((w.alloc (Obj.cells z20.toArray 34)).alloc (Obj.cells z20.toArray 34)) := b1.alloc b1.size (Obj.cells z20.toArray 34)
  have r0 : Row ((w.alloc (Obj.cells z20.toArray 34)).alloc (Obj.cells z20.toArray 34)) w.heap.size z20 34 := (Row.new' rfl rfl).alloc _
  have r1 : Row ((w.alloc (Obj.cells z20.toArray 34)).alloc (Obj.cells z20.toArray 34)) (w.heap.size + 1) z20 34 := Row.new' (by simp) rfl
  have hD : D < w.heap.size := h.row.lt
  have hgl : 0 < bs.length → g < w.heap.size := fun e => h.lt e
  have HF : Hid _ := hF (World.drew ((w.alloc (Obj.cells z20.toArray 34)).alloc (Obj.cells z20.toArray 34))) ((h.be b2).drewN 1)
  have GX : Hid (Gp D w (World.drew ((w.alloc (Obj.cells z20.toArray 34)).alloc (Obj.cells z20.toArray 34)))) := Gro.drewN (Gro.of_below b2) 1
  have R0 : Hid (Row (World.drew ((w.alloc (Obj.cells z20.toArray 34)).alloc (Obj.cells z20.toArray 34))) w.heap.size z20 34) := r0
  have R1 : Hid (Row (World.drew ((w.alloc (Obj.cells z20.toArray 34)).alloc (Obj.cells z20.toArray 34))) (w.heap.size + 1) z20 34) := r1
  have HDL : Hid (D < w.heap.size) := hD
  have HGL : Hid (0 < bs.length → g < w.heap.size) := hgl
  have HDN : Hid (d.length = n) := hd
  have HTL : Hid ((vB (d.take 20)).length ≤ 20) := by show _ ≤ _; rw [vB_length, List.length_take]; omega
  clear b1 b2 r0 r1 hD hgl h hd hF
  go_enter Try.func38, Try.ntmps38
  go_wp2_with fail
  go_region_law (first
    | (refine stp_fcall rfl 59 #[.pointer (some ⟨D, 0, none⟩), .int .i64 20] (by go_simp) (Calls.mono HF.out ?_); rintro e V ⟨Av, cv, rfl, hsl, hrv, hg⟩; refine ⟨_, rfl, ?_⟩; have HSL : Hid (SlAt V (.slice Av n cv) d) := hsl; have HRV : Hid (Rq V D g A cap ao bs a' f') := hrv; have HGV : Hid (Gp D w V) := GX.out.trans hg; have V0 : Hid (Row V w.heap.size z20 34) := hg.row R0.out (fun e => by have := HDL.out; omega); have V1 : Hid (Row V (w.heap.size + 1) z20 34) := hg.row R1.out (fun e => by have := HDL.out; omega); have HT : Hid (V.there (w.heap.size + 1) 0 (vB (d.take 20)).length) := V1.out.there 0 _ (by rw [Nat.zero_add]; exact HTL.out); clear hsl hrv hg HF)
    | (refine stp_copyb rfl (.tmp 4) (.tmp 6) rfl (w.heap.size + 1) 20 n cv Av d HDN.out rfl rfl HSL.out HT.out ?_))
  all_goals
    have q1 := Row.setCells 0 (vB (d.take 20)) V1.out (by rw [Nat.zero_add]; exact HTL.out)
    have q0 := Row.setCells_other V0.out (w.heap.size + 1) 0 (vB (d.take 20)) (by omega)
    rw [show z20 = vB (List.replicate 20 0#8) from rfl, dgN_row] at q1
    have qr := HRV.out
    generalize hcs : vB (dgN 20 d) = cs at *
    have hcl : cs.length = 20 := by rw [← hcs, vB_length, dgN_len]
    have HO : Hid (cs.toArray.all (·.oneCell') = true) := by rw [← hcs]; exact all_oneCell_toArray (vB_one _)
    have HI : Hid ((Try.prog.info? 34).map (·.size) = some cs.length) := by rw [info_a20, hcl]; rfl
    have HI' : Hid ((Try.prog.info? 34).map (·.size) = some cs.toArray.size) := by rw [info_a20, List.size_toArray, hcl]; rfl
    have nf := q0.over (vs := cs) (by rw [hcl]; rfl)
    have T0 := q0.there 0 cs.toArray.size (by rw [List.size_toArray, hcl]; decide)
    have HT0 : Hid _ := T0
    have Q1 : Hid (Row _ _ cs 34) := q1
    have NF : Hid (Row _ _ cs 34) := nf
    have HL : Hid (cs.length = 20) := hcl
    have HCS : Hid (vB (dgN 20 d) = cs) := hcs
    have hs1 := gro_sets HGV.out (w.heap.size + 1) 0 (vB (d.take 20)) (by omega)
    have hs2 := gro_sets hs1 w.heap.size 0 cs (Nat.le_refl _)
    have hx1 := rq_sets qr (w.heap.size + 1) 0 (vB (d.take 20)) (by have := HDL.out; omega) (fun e => by have := HGL.out e; omega)
    have hx2 := rq_sets hx1 w.heap.size 0 cs (by have := HDL.out; omega) (fun e => by have := HGL.out e; omega)
    have HG2 : Hid (Gp D w _) := hs2
    have HX2 : Hid (Rq _ D g A cap ao bs a' f') := hx2
    clear q1 q0 T0 hcs hcl nf hs1 hs2 hx1 hx2 qr V0 V1 HT HSL HRV HGV
    go_wp2_with (first
      | (refine wpList_load_w rfl 34 (.tmp 3) rfl (w.heap.size + 1) 0 rfl cs _ (Row.all Q1.out) Try.underlying34 rfl HI.out ?_; simp only [Act.put, List.setIfInBounds_toArray, List.set_cons_zero, List.set_cons_succ])
      | (refine wpList_store_mid rfl 34 (.tmp 2) (.tmp 8) rfl w.heap.size 0 cs.toArray rfl rfl HT0.out HI'.out HO.out ?_; simp only [Act.put]))
    exact bodyPost_ret (results_row Try.results38 _ _ w.heap.size 34 cs rfl NF.out Try.underlying34 info_a20 HL.out) rfl ⟨by rw [HCS.out], HX2.out, HG2.out⟩

theorem qaddress_ok (D g : Nat) (A : Option Addr) (cap : Nat) (ao : Nat) (bs : List (BitVec 8)) (a : Nat) (he : dgE 20 bs a = 0) (w : World) (h : Rq w D g A cap ao bs a 0) :
    Calls Try.prog 38 #[.pointer (some ⟨D, 0, none⟩)] w fun e w' => e = .returned (.agg (vB (sub bs a 20)).toArray) ∧ Rq w' D g A cap ao bs (a + 20) 0 ∧ Gp D w w' := by
  have hl : a + 20 ≤ bs.length := by
    unfold dgE at he
    by_cases q : bs.length < a + 20
    · rw [if_pos q] at he; cases he
    · omega
  have hs := sub_len bs a 20 hl
  have hk : dgN 20 (sub bs a 20) = sub bs a 20 := by unfold dgN; rw [List.take_of_length_le (by omega), hs]; simp
  have := qaddress_by D g A cap ao bs a (a + 20) 0 0 (sub bs a 20) 20 hs w h (fun W hW => (qfixed_ok D g A cap ao bs a 20 hl W hW).mono fun e w' ⟨A', c', he, h1, h2, h3, h4, h5⟩ => ⟨A', c', he, by
    obtain rfl := h3 (by decide)
    exact .inr ⟨g, ao + a, c', by rw [hs], by rw [hs]; exact h1, fun j v hj => by
      have hjl : j < 20 := by
        rcases Nat.lt_or_ge j 20 with q | q
        · exact q
        · rw [List.getElem?_eq_none (by rw [vB_length, hs]; exact q)] at hj; cases hj
      rw [Nat.add_assoc]
      refine h4.by' (by omega) (a + j) v ?_
      unfold vB at hj ⊢
      rw [List.getElem?_map] at hj ⊢
      rw [sub_get bs a 20 j hjl] at hj
      exact hj⟩, h4, h5⟩)
  rw [hk] at this
  exact this
theorem qaddress_bad (D g : Nat) (A : Option Addr) (cap : Nat) (ao : Nat) (bs : List (BitVec 8)) (a : Nat) (e : Int) (he : dgE 20 bs a = e) (h0 : ¬ e = 0) (w : World) (h : Rq w D g A cap ao bs a 0) :
    Calls Try.prog 38 #[.pointer (some ⟨D, 0, none⟩)] w fun r w' => r = .returned (.agg (vB (dgN 20 [])).toArray) ∧ Rq w' D g A cap ao bs a e ∧ Gp D w w' := by
  unfold dgE at he
  by_cases q : bs.length < a + 20
  · rw [if_pos q] at he
    subst he
    exact qaddress_by D g A cap ao bs a a 0 31 [] 0 rfl w h (fun W hW => (qfixed_short D g A cap ao bs a 20 q W hW).mono fun e w' ⟨he, h4, h5⟩ => ⟨none, 0, he, .inl ⟨rfl, none, 0, rfl⟩, h4, h5⟩)
  · rw [if_neg q] at he; exact absurd he.symm h0
theorem qaddress_no (D g : Nat) (A : Option Addr) (cap : Nat) (ao : Nat) (bs : List (BitVec 8)) (a : Nat) (f : Int) (hf : ¬ f = 0) (w : World) (h : Rq w D g A cap ao bs a f) :
    Calls Try.prog 38 #[.pointer (some ⟨D, 0, none⟩)] w fun r w' => r = .returned (.agg (vB (dgN 20 [])).toArray) ∧ Rq w' D g A cap ao bs a f ∧ Gp D w w' :=
  qaddress_by D g A cap ao bs a a f f [] 0 rfl w h (fun W hW => (qfixed_no D g A cap ao bs a f hf 20 W hW).mono fun e w' ⟨he, hw⟩ => ⟨none, 0, he, .inl ⟨rfl, none, 0, rfl⟩, by rw [hw]; exact hW, by rw [hw]; exact Gro.refl _ _⟩)

end Go.Proofs.Ytehjadgmleoobaa

namespace Go.Proofs.Ytehjadgmleoobaa
open Go Go.RowKit
open Sha

set_option maxRecDepth 100000 in
set_option maxHeartbeats 2000000 in
theorem qwide_by (D g : Nat) (A : Option Addr) (cap : Nat) (ao : Nat) (bs : List (BitVec 8)) (a : Nat) (f f' : Int) (hf : ¬ f' = 0) (w : World) (h : Rq w D g A cap ao bs a f) (hF : ∀ W, Rq W D g A cap ao bs a f → Calls Try.prog 60 #[.pointer (some ⟨D, 0, none⟩), .int .i64 32] W fun e w' => e = .returned (.slice none 0 0) ∧ Rq w' D g A cap ao bs a f' ∧ Gp D W w') :
    Calls Try.prog 39 #[.pointer (some ⟨D, 0, none⟩)] w fun e w' => e = .returned (.agg q4z.toArray) ∧ Rq w' D g A cap ao bs a f' ∧ Gp D w w' := by
  have b1 : Below w.heap.size w (w.alloc (Obj.cells q4z.toArray 37)) := (Below.refl _ _).alloc (Nat.le_refl _) _
  have b2 : Below w.heap.size w ((w.alloc (Obj.cells q4z.toArray 37)).alloc (Obj.cells q4z.toArray 37)) := b1.alloc b1.size (Obj.cells q4z.toArray 37)
  have r0 : Row ((w.alloc (Obj.cells q4z.toArray 37)).alloc (Obj.cells q4z.toArray 37)) w.heap.size q4z 37 := (Row.new' rfl rfl).alloc _
  have r1 : Row ((w.alloc (Obj.cells q4z.toArray 37)).alloc (Obj.cells q4z.toArray 37)) (w.heap.size + 1) q4z 37 := Row.new' (by simp) rfl
  have hD : D < w.heap.size := h.row.lt
  have hgl : 0 < bs.length → g < w.heap.size := fun e => h.lt e
  have HF : Hid _ := hF _ (h.be b2)
  have GX : Hid (Gp D w ((w.alloc (Obj.cells q4z.toArray 37)).alloc (Obj.cells q4z.toArray 37))) := Gro.of_below b2
  have R0 : Hid _ := r0
  have R1 : Hid _ := r1
  have HDL : Hid (D < w.heap.size) := hD
  have HGL : Hid (0 < bs.length → g < w.heap.size) := hgl
  have hb : (f' == 0) = false := by simp [hf]
  clear b1 b2 r0 r1 hD hgl h hF
  go_enter Try.func39, Try.ntmps39
  go_wp2_with fail
  refine Calls.mono HF.out ?_
  rintro r V ⟨rfl, hr, hg⟩
  have s2 := hr.row.cell 2 _ rfl
  have q0 : Row V w.heap.size q4z 37 := hg.row R0.out (fun e => by have := HDL.out; omega)
  have q1 : Row V (w.heap.size + 1) q4z 37 := hg.row R1.out (fun e => by have := HDL.out; omega)
  obtain ⟨cs, hq⟩ : ∃ cs, cs = q4z := ⟨_, rfl⟩
  rw [← hq] at q0 q1
  have hcl : cs.length = 4 := by rw [hq]; rfl
  have hone : cs.toArray.all (·.oneCell') = true := by rw [hq]; exact all_oneCell_toArray (q4_one 0 0 0 0)
  replace hg := GX.out.trans hg
  have HO : Hid _ := hone
  have HI : Hid ((Try.prog.info? 37).map (·.size) = some cs.length) := by show _ = _; rw [info_q, hcl]
  have HI' : Hid ((Try.prog.info? 37).map (·.size) = some cs.toArray.size) := by show _ = _; rw [info_q, List.size_toArray, hcl]
  have HT : Hid _ := q0.there 0 cs.toArray.size (by rw [List.size_toArray, hcl]; decide)
  have NF : Hid _ := q0.over (vs := cs) (by first | rfl | (rw [hcl]; rfl))
  have HL : Hid (cs.length = 4) := hcl
  have NR : Hid (Rq _ _ _ _ _ _ _ _ _) := rq_sets hr w.heap.size 0 cs (by have := HDL.out; omega) (fun e => by have := HGL.out e; omega)
  have NG : Hid (Gp D w _) := gro_sets hg w.heap.size 0 cs (Nat.le_refl _)
  have R7 : Hid _ := q1
  have HQ : Hid _ := hq
  clear q0 q1 hone hcl hr hg hq HF GX R0 R1
  go_wp2_with (first
    | (refine wpList_load_w rfl 37 (.tmp 3) rfl (w.heap.size + 1) 0 rfl cs _ (Row.all R7.out) Try.underlying37 rfl HI.out ?_; simp only [Act.put, List.setIfInBounds_toArray, List.set_cons_zero, List.set_cons_succ])
    | (refine wpList_store_mid rfl 37 (.tmp 2) (.tmp 14) rfl w.heap.size 0 cs.toArray rfl rfl HT.out HI'.out HO.out ?_; simp only [Act.put]; (change wpList _ _ _ _ _ (World.setCells V w.heap.size 0 cs))))
  exact bodyPost_ret (results_row Try.results39 _ _ w.heap.size 37 cs rfl NF.out Try.underlying37 info_q HL.out) rfl ⟨by rw [HQ.out], NR.out, NG.out⟩

set_option maxRecDepth 100000 in
set_option maxHeartbeats 4000000 in
theorem qwide_ok (D g : Nat) (A : Option Addr) (cap : Nat) (ao : Nat) (bs : List (BitVec 8)) (a : Nat) (he : hiF 32 bs a = 0) (k : Nat) (hk : at8 bs a = k) (w : World) (h : Rq w D g A cap ao bs a 0) :
    Calls Try.prog 39 #[.pointer (some ⟨D, 0, none⟩)] w fun e w' => e = .returned (.agg (qd bs (a + 1 + k) k).toArray) ∧ Rq w' D g A cap ao bs (a + 1 + k) 0 ∧ Gp D w w' := by
  have b1 : Below w.heap.size w (w.alloc (Obj.cells q4z.toArray 37)) := (Below.refl _ _).alloc (Nat.le_refl _) _
  have b2 : Below w.heap.size w ((w.alloc (Obj.cells q4z.toArray 37)).alloc (Obj.cells q4z.toArray 37)) := b1.alloc b1.size (Obj.cells q4z.toArray 37)
  have r0 : Row ((w.alloc (Obj.cells q4z.toArray 37)).alloc (Obj.cells q4z.toArray 37)) w.heap.size q4z 37 := (Row.new' rfl rfl).alloc _
  have r1 : Row ((w.alloc (Obj.cells q4z.toArray 37)).alloc (Obj.cells q4z.toArray 37)) (w.heap.size + 1) q4z 37 := Row.new' (by simp) rfl
  have hD : D < w.heap.size := h.row.lt
  have hgl : 0 < bs.length → g < w.heap.size := fun e => h.lt e
  have HF : Hid _ := qhigh_ok D g A cap ao bs a 32 he k hk _ (h.be b2)
  have GX : Hid (Gp D w ((w.alloc (Obj.cells q4z.toArray 37)).alloc (Obj.cells q4z.toArray 37))) := Gro.of_below b2
  have R0 : Hid _ := r0
  have R1 : Hid _ := r1
  have HDL : Hid (D < w.heap.size) := hD
  have HGL : Hid (0 < bs.length → g < w.heap.size) := hgl
  obtain ⟨_, k32, h3, _⟩ := hiF_ok he
  rw [hk] at k32 h3
  have H3 : Hid (a + 1 + k ≤ bs.length) := h3
  clear b1 b2 r0 r1 hD hgl h he hk h3
  go_enter Try.func39, Try.ntmps39
  go_wp2_with fail
  refine Calls.mono HF.out ?_
  rintro r V ⟨A', c', rfl, hc', _, hA', hr, hg⟩
  have s2 := hr.row.cell 2 _ rfl
  have V0 : Hid (Row V w.heap.size q4z 37) := hg.row R0.out (fun e => by have := HDL.out; omega)
  have V1 : Hid (Row V (w.heap.size + 1) q4z 37) := hg.row R1.out (fun e => by have := HDL.out; omega)
  have HA : Hid (0 < k → A' = some ⟨g, ao + (a + 1), none⟩) := hA'
  have HR : Hid (Rq _ _ _ _ _ _ _ _ _) := hr
  have HG : Hid (Gp D w V) := GX.out.trans hg
  clear hr hg hA' HF GX R0 R1
  go_wp2
  go_loopw [5] (fun i wr => ∃ t : Nat, t ≤ k ∧ i = .int .i64 (t : Int) ∧ Rq wr D g A cap ao bs (a + 1 + k) 0 ∧ Row wr w.heap.size q4z 37 ∧ Row wr (w.heap.size + 1) (qh bs (a + 1) k t) 37 ∧ Gp D w wr) (fun i _ => k - (intOf i).toNat)
  case atStart => exact ⟨0, Nat.zero_le _, rfl, HR.out, V0.out, V1.out, HG.out⟩
  case round =>
    clear HR V0 V1 HG s2
    obtain ⟨t, ht, rfl, hr, r0, r7, hg⟩ := hrel
    by_cases hlt : t < k
    · obtain rfl := HA.out (by omega)
      obtain ⟨u, hu⟩ : ∃ u : Nat, k - 1 - t = u := ⟨_, rfl⟩
      have hu' : (k : Int) - 1 - (t : Int) = (u : Int) := by omega
      have u8 : u / 8 < 4 := by omega
      have gb := hr.byteAt (a + 1) t (by have := H3.out; omega)
      have g7 := r7.cell (u / 8) _ (qh_get bs (a + 1) k t (u / 8) u8)
      have f7 := r7.thaw (u / 8)
      have q7 := r7.set (u / 8) (.int .u64 ((hb bs (a + 1) k (u / 8) (t + 1) : Nat) : Int))
      have q0 := r0.set_other (w.heap.size + 1) (u / 8) (.int .u64 ((hb bs (a + 1) k (u / 8) (t + 1) : Nat) : Int)) (by omega)
      have qr := rq_set hr (w.heap.size + 1) (u / 8) (.int .u64 ((hb bs (a + 1) k (u / 8) (t + 1) : Nat) : Int)) (by have := HDL.out; omega) (fun e => by have := HGL.out e; omega)
      have qg := hg.setNew (w.heap.size + 1) (u / 8) (.int .u64 ((hb bs (a + 1) k (u / 8) (t + 1) : Nat) : Int)) (by omega)
      rw [qh_step bs (a + 1) k t (u / 8) (by rw [hu]) u8] at q7
      have EX := or_hb bs (a + 1) k t hlt
      rw [hu, Nat.mul_comm (u % 8) 8] at EX
      have B8 := at8_lt bs (a + 1 + t)
      generalize at8 bs (a + 1 + t) = x at *
      generalize hb bs (a + 1) k (u / 8) (t + 1) = y at *
      generalize hb bs (a + 1) k (u / 8) t = z at *
      have EX' : Hid _ := EX
      have Q7 : Hid _ := q7
      have Q0 : Hid _ := q0
      have QR : Hid (Rq _ _ _ _ _ _ _ _ _) := qr
      have QG : Hid (Gp D w _) := qg
      have HUK : Hid (u + t + 1 = k) := by show _ = _; omega
      clear q7 q0 qr qg hr r0 r7 hg EX hu
      go_wp2
      go_region
      rw [EX'.out]
      go_wp2
      exact ⟨⟨t + 1, hlt, by go_num, Rq.drewN QR.out 1, Q0.out, Q7.out, Gro.drewN QG.out 1⟩, by simp [intOf]; omega⟩
    · obtain rfl : t = k := by omega
      rw [qh_all] at r7
      generalize hq : qd bs (a + 1 + t) t = cs at *
      have hcl : cs.length = 4 := by rw [← hq]; rfl
      have hone : cs.toArray.all (·.oneCell') = true := by rw [← hq]; exact all_oneCell_toArray (qd_one _ _ _)
      have HO : Hid _ := hone
      have HI : Hid ((Try.prog.info? 37).map (·.size) = some cs.length) := by show _ = _; rw [info_q, hcl]
      have HI' : Hid ((Try.prog.info? 37).map (·.size) = some cs.toArray.size) := by show _ = _; rw [info_q, List.size_toArray, hcl]
      have HT : Hid _ := r0.there 0 cs.toArray.size (by rw [List.size_toArray, hcl]; decide)
      have NF : Hid _ := r0.over (vs := cs) (by first | rfl | (rw [hcl]; rfl))
      have HL : Hid (cs.length = 4) := hcl
      have NR : Hid (Rq _ _ _ _ _ _ _ _ _) := rq_sets hr w.heap.size 0 cs (by have := HDL.out; omega) (fun e => by have := HGL.out e; omega)
      have NG : Hid (Gp D w _) := gro_sets hg w.heap.size 0 cs (Nat.le_refl _)
      have R7 : Hid _ := r7
      have HQ : Hid _ := hq
      clear hone hcl hr r0 r7 hg hq
      go_wp2_with (first
        | (refine wpList_load_w rfl 37 (.tmp 3) rfl (w.heap.size + 1) 0 rfl cs _ (Row.all R7.out) Try.underlying37 rfl HI.out ?_; simp only [Act.put, List.setIfInBounds_toArray, List.set_cons_zero, List.set_cons_succ])
        | (refine wpList_store_mid rfl 37 (.tmp 2) (.tmp 43) rfl w.heap.size 0 cs.toArray rfl rfl HT.out HI'.out HO.out ?_; simp only [Act.put]; (change wpList _ _ _ _ _ (World.setCells wr w.heap.size 0 cs))))
      exact bodyPost_ret (results_row Try.results39 _ _ w.heap.size 37 cs rfl NF.out Try.underlying37 info_q HL.out) rfl ⟨by rw [HQ.out], NR.out, NG.out⟩

theorem qwide_no (D g : Nat) (A : Option Addr) (cap : Nat) (ao : Nat) (bs : List (BitVec 8)) (a : Nat) (f : Int) (hf : ¬ f = 0) (w : World) (h : Rq w D g A cap ao bs a f) :
    Calls Try.prog 39 #[.pointer (some ⟨D, 0, none⟩)] w fun e w' => e = .returned (.agg q4z.toArray) ∧ Rq w' D g A cap ao bs a f ∧ Gp D w w' :=
  qwide_by D g A cap ao bs a f f hf w h fun W hW => qhigh_no D g A cap ao bs a f hf 32 W hW
theorem qwide_bad (D g : Nat) (A : Option Addr) (cap : Nat) (ao : Nat) (bs : List (BitVec 8)) (a : Nat) (e : Int) (he : hiF 32 bs a = e) (h0 : ¬ e = 0) (w : World) (h : Rq w D g A cap ao bs a 0) :
    Calls Try.prog 39 #[.pointer (some ⟨D, 0, none⟩)] w fun r w' => r = .returned (.agg q4z.toArray) ∧ Rq w' D g A cap ao bs a e ∧ Gp D w w' :=
  qwide_by D g A cap ao bs a 0 e h0 w h fun W hW => qhigh_bad D g A cap ao bs a 32 e he h0 W hW

end Go.Proofs.Ytehjadgmleoobaa
