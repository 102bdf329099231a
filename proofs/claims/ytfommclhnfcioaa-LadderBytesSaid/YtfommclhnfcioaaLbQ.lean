/-
  LadderBytes: the document's reader: digests.
-/
import Derived.Test.YtfommclhnfcioaaXRc
import Derived.Test.YtfommclhnfcioaaXSeeB
import Derived.Test.YtfommclhnfcioaaXLaw2
import Derived.Test.YtfommclhnfcioaaXStp
import Derived.Test.YtfommclhnfcioaaRqB
import Derived.Test.YtfommclhnfcioaaLbE

namespace Go.Proofs.Ytfommclhnfcioaa
open Go Go.RowKit
open Sha

end Go.Proofs.Ytfommclhnfcioaa

namespace Go.Proofs.Ytfommclhnfcioaa
open Go Go.RowKit
open Sha

theorem stp_copyb {ops : Array Oper} {op : Oper} {a : Act} {w : World} {K : Act → World → Prop} {Q : Exit → Act → World → Prop} {E : Prop} (hgd : op.guard = none) (x y : Operand) (ho : op.op = .call { callee := .builtin .copy, args := #[x, y], argTypes := #[26, 26] }) (g N n cap : Nat) (A : Option Addr) (d : List (BitVec 8)) (hd : d.length = n)
    (hx : a.eval x = .slice (some ⟨g, 0, none⟩) N N) (hy : a.eval y = .slice A n cap) (hv : SlAt w (.slice A n cap) d) (ht : w.there g 0 (vB (d.take N)).length)
    (h : K (a.put op.dst (goInt (vB (d.take N)).length)) (w.setCells g 0 (vB (d.take N)))) : if Region.wanted op (yielded ops a.tmps) = true then Oper.wp Try.prog op a w K Q else E := by
  have hw : Region.wanted op (yielded ops a.tmps) = true := by simp [Region.wanted, hgd]
  rw [if_pos hw]
  subst hd
  have hl : (vB (d.take N)).length = Nat.min d.length N := by rw [vB_length, List.length_take]; exact Nat.min_comm _ _
  obtain ⟨dst, op', ty, pos, after, guard⟩ := op
  simp only at hgd ho
  subst hgd; subst ho
  have hr : (Builtin.copy_ #[26, 26] ty #[.slice (some ⟨g, 0, none⟩) N N, .slice A d.length cap]).run Try.prog w = .ok (goInt (vB (d.take N)).length) (w.setCells g 0 (vB (d.take N))) := by
    rcases hv with ⟨h0, A', c', hv⟩ | ⟨ab, ao, c', hv, _, hr⟩
    · subst h0
      have := run_copy_none (P := Try.prog) w 26 26 ty 5 (some ⟨g, 0, none⟩) A N N 0 cap Try.underlying26 info_u8 (by simp)
      simpa [vB, World.setCells] using this
    · simp only [Value.slice.injEq] at hv
      obtain ⟨rfl, _, _⟩ := hv
      obtain ⟨ie, z, hq, _, hi, _, _⟩ := info_u8open
      have hsrc : ∀ j v, (vB (d.take N))[j]? = some v → w.cell? ((⟨ab, ao, none⟩ : Addr).add j) = some v := fun j v hj => by
        rw [Addr.add_mid]
        refine hr j v ?_
        unfold vB at hj ⊢
        rw [List.map_take, List.getElem?_take] at hj
        split at hj
        · exact hj
        · cases hj
      have hld := run_loadCells_list (P := Try.prog) w ⟨ab, ao, none⟩ (vB (d.take N)) hsrc
      have hst := run_storeCells_cells (P := Try.prog) g 0 (vB (d.take N)) 0 w (fun j hj => by simpa using (ht j (by simpa using hj)).1) (fun j hj => by simpa using (ht j (by simpa using hj)).2) (vB_one _)
      simp only [Nat.add_zero] at hst
      simp [Builtin.copy_, run_underlying Try.underlying26, Builtin.lenOf, Builtin.firstCells, sizeOf, typeInfo, hq, hi, ← hl, hld, hst]
  unfold Oper.wp
  rw [BigFrame.execOp_builtin, BigFrame.builtin_copy]
  simp only [List.map_toArray, List.map_cons, List.map_nil, hx, hy, Sem.run_bind, hr, Result.andThen_ok, Sem.run_pure, Oper.upon_value]
  exact h

theorem gro_sets {R : Nat → Prop} {w W : World} (h : Gro R w W) (b o : Nat) (vs : List Value) (hb : w.heap.size ≤ b) : Gro R w (W.setCells b o vs) := by
  have k := below_setCells (Below.refl b W) (b := b) (o := o) (Nat.le_refl _) vs
  exact ⟨k.os.trans h.os, k.tape.trans h.tape, k.output.trans h.output, Nat.le_trans h.size k.size, fun i hi hn => (k.block i (by omega)).trans (h.block i hi hn)⟩
theorem rr_sets {W : World} {D g : Nat} {bs : List (BitVec 8)} {a : Nat} {f : Int} (h : Rr W D g bs a f) (b o : Nat) (vs : List Value) (h1 : D ≠ b) (h2 : g ≠ b) : Rr (W.setCells b o vs) D g bs a f :=
  ⟨Row.setCells_other h.row b o vs h1, Row.setCells_other h.by' b o vs h2, h.le, h.len⟩

set_option maxRecDepth 100000 in
set_option maxHeartbeats 2000000 in
theorem rdigest_by (D g : Nat) (bs : List (BitVec 8)) (a a' : Nat) (f f' : Int) (d : List (BitVec 8)) (n : Nat) (hd : d.length = n) (w : World) (h : Rr w D g bs a f) (hF : ∀ W, Rr W D g bs a f → Calls Try.prog 86 #[.pointer (some ⟨D, 0, none⟩), .int .i64 32] W fun e w' => ∃ A' c', e = .returned (.slice A' n c') ∧ SlAt w' (.slice A' n c') d ∧ Rr w' D g bs a' f' ∧ Gp D W w') :
    Calls Try.prog 53 #[.pointer (some ⟨D, 0, none⟩)] w fun e w' => e = .returned (.agg (vB (dgN 32 d)).toArray) ∧ Rr w' D g bs a' f' ∧ Gp D w w' := by
  have b1 : Below w.heap.size w (w.alloc (Obj.cells z32.toArray 23)) := (Below.refl _ _).alloc (Nat.le_refl _) _
  have b2 : Below w.heap.size w ((w.alloc (Obj.cells z32.toArray 23)).alloc (Obj.cells z32.toArray 23)) := b1.alloc b1.size (Obj.cells z32.toArray 23)
  have r0 : Row ((w.alloc (Obj.cells z32.toArray 23)).alloc (Obj.cells z32.toArray 23)) w.heap.size z32 23 := (Row.new' rfl rfl).alloc _
  have r1 : Row ((w.alloc (Obj.cells z32.toArray 23)).alloc (Obj.cells z32.toArray 23)) (w.heap.size + 1) z32 23 := Row.new' (by simp) rfl
  have hD : D < w.heap.size := h.row.lt
  have hgl : g < w.heap.size := h.by'.lt
  have HF : Hid _ := hF (World.drew ((w.alloc (Obj.cells z32.toArray 23)).alloc (Obj.cells z32.toArray 23))) ((h.be b2).drewN 1)
  have GX : Hid (Gp D w (World.drew ((w.alloc (Obj.cells z32.toArray 23)).alloc (Obj.cells z32.toArray 23)))) := Gro.drewN (Gro.of_below b2) 1
  have R0 : Hid (Row (World.drew ((w.alloc (Obj.cells z32.toArray 23)).alloc (Obj.cells z32.toArray 23))) w.heap.size z32 23) := r0
  have R1 : Hid (Row (World.drew ((w.alloc (Obj.cells z32.toArray 23)).alloc (Obj.cells z32.toArray 23))) (w.heap.size + 1) z32 23) := r1
  have HDL : Hid (D < w.heap.size) := hD
  have HGL : Hid (g < w.heap.size) := hgl
  have HDN : Hid (d.length = n) := hd
  have HTL : Hid ((vB (d.take 32)).length ≤ 32) := by show _ ≤ _; rw [vB_length, List.length_take]; omega
  clear b1 b2 r0 r1 hD hgl h hd hF
  go_enter Try.func53, Try.ntmps53
  go_wp2_with fail
  go_region_law (first
    | (refine stp_fcall rfl 86 #[.pointer (some ⟨D, 0, none⟩), .int .i64 32] (by go_simp) (Calls.mono HF.out ?_); rintro e V ⟨Av, cv, rfl, hsl, hrv, hg⟩; refine ⟨_, rfl, ?_⟩; have HSL : Hid (SlAt V (.slice Av n cv) d) := hsl; have HRV : Hid (Rr V D g bs a' f') := hrv; have HGV : Hid (Gp D w V) := GX.out.trans hg; have V0 : Hid (Row V w.heap.size z32 23) := hg.row R0.out (fun e => by have := HDL.out; omega); have V1 : Hid (Row V (w.heap.size + 1) z32 23) := hg.row R1.out (fun e => by have := HDL.out; omega); have HT : Hid (V.there (w.heap.size + 1) 0 (vB (d.take 32)).length) := V1.out.there 0 _ (by rw [Nat.zero_add]; exact HTL.out); clear hsl hrv hg HF)
    | (refine stp_copyb rfl (.tmp 4) (.tmp 6) rfl (w.heap.size + 1) 32 n cv Av d HDN.out rfl rfl HSL.out HT.out ?_))
  all_goals
    have q1 := Row.setCells 0 (vB (d.take 32)) V1.out (by rw [Nat.zero_add]; exact HTL.out)
    have q0 := Row.setCells_other V0.out (w.heap.size + 1) 0 (vB (d.take 32)) (by omega)
    rw [show z32 = vB (List.replicate 32 0#8) from rfl, dgN_row] at q1
    have qr := HRV.out
    generalize hcs : vB (dgN 32 d) = cs at *
    have hcl : cs.length = 32 := by rw [← hcs, vB_length, dgN_len]
    have HO : Hid (cs.toArray.all (·.oneCell') = true) := by rw [← hcs]; exact all_oneCell_toArray (vB_one _)
    have HI : Hid ((Try.prog.info? 23).map (·.size) = some cs.length) := by rw [info_a32, hcl]; rfl
    have HI' : Hid ((Try.prog.info? 23).map (·.size) = some cs.toArray.size) := by rw [info_a32, List.size_toArray, hcl]; rfl
    have nf := q0.over (vs := cs) (by rw [hcl]; rfl)
    have T0 := q0.there 0 cs.toArray.size (by rw [List.size_toArray, hcl]; decide)
    have HT0 : Hid _ := T0
    have Q1 : Hid (Row _ _ cs 23) := q1
    have NF : Hid (Row _ _ cs 23) := nf
    have HL : Hid (cs.length = 32) := hcl
    have HCS : Hid (vB (dgN 32 d) = cs) := hcs
    have hs1 := gro_sets HGV.out (w.heap.size + 1) 0 (vB (d.take 32)) (by omega)
    have hs2 := gro_sets hs1 w.heap.size 0 cs (Nat.le_refl _)
    have hx1 := rr_sets qr (w.heap.size + 1) 0 (vB (d.take 32)) (by have := HDL.out; omega) (by have := HGL.out; omega)
    have hx2 := rr_sets hx1 w.heap.size 0 cs (by have := HDL.out; omega) (by have := HGL.out; omega)
    have HG2 : Hid (Gp D w _) := hs2
    have HX2 : Hid (Rr _ D g bs a' f') := hx2
    clear q1 q0 T0 hcs hcl nf hs1 hs2 hx1 hx2 qr V0 V1 HT HSL HRV HGV
    go_wp2_with (first
      | (refine wpList_load_w rfl 23 (.tmp 3) rfl (w.heap.size + 1) 0 rfl cs _ (Row.all Q1.out) Try.underlying23 rfl HI.out ?_; simp only [Act.put, List.setIfInBounds_toArray, List.set_cons_zero, List.set_cons_succ])
      | (refine wpList_store_mid rfl 23 (.tmp 2) (.tmp 8) rfl w.heap.size 0 cs.toArray rfl rfl HT0.out HI'.out HO.out ?_; simp only [Act.put]))
    exact bodyPost_ret (results_row Try.results53 _ _ w.heap.size 23 cs rfl NF.out Try.underlying23 info_a32 HL.out) rfl ⟨by rw [HCS.out], HX2.out, HG2.out⟩

theorem rdigest_ok (D g : Nat) (bs : List (BitVec 8)) (a : Nat) (he : dgE 32 bs a = 0) (w : World) (h : Rr w D g bs a 0) :
    Calls Try.prog 53 #[.pointer (some ⟨D, 0, none⟩)] w fun e w' => e = .returned (.agg (vB (sub bs a 32)).toArray) ∧ Rr w' D g bs (a + 32) 0 ∧ Gp D w w' := by
  have hl : a + 32 ≤ bs.length := by
    unfold dgE at he
    by_cases q : bs.length < a + 32
    · rw [if_pos q] at he; cases he
    · omega
  have hs := sub_len bs a 32 hl
  have hk : dgN 32 (sub bs a 32) = sub bs a 32 := by unfold dgN; rw [List.take_of_length_le (by omega), hs]; simp
  have := rdigest_by D g bs a (a + 32) 0 0 (sub bs a 32) 32 hs w h (fun W hW => (rfixed_ok D g bs a 32 hl W hW).mono fun e w' ⟨A', c', he, h1, h2, h3, h4, h5⟩ => ⟨A', c', he, by
    obtain rfl := h3 (by decide)
    exact .inr ⟨g, a, c', by rw [hs], by rw [hs]; exact h1, fun j v hj => h4.by'.range a (vB (sub bs a 32)) (fun j v hj => by
      unfold vB at hj ⊢
      rw [List.getElem?_map] at hj ⊢
      have hjl : j < 32 := by
        have h9 := List.getElem?_eq_none_iff (l := sub bs a 32) (i := j)
        rcases Nat.lt_or_ge j 32 with q | q
        · exact q
        · rw [h9.2 (by rw [hs]; exact q)] at hj; cases hj
      rw [sub_get bs a 32 j hjl] at hj
      exact hj) j v hj⟩, h4, h5⟩)
  rw [hk] at this
  exact this
theorem rdigest_bad (D g : Nat) (bs : List (BitVec 8)) (a : Nat) (e : Int) (he : dgE 32 bs a = e) (h0 : ¬ e = 0) (w : World) (h : Rr w D g bs a 0) :
    Calls Try.prog 53 #[.pointer (some ⟨D, 0, none⟩)] w fun r w' => r = .returned (.agg (vB (dgN 32 [])).toArray) ∧ Rr w' D g bs a e ∧ Gp D w w' := by
  unfold dgE at he
  by_cases q : bs.length < a + 32
  · rw [if_pos q] at he
    subst he
    exact rdigest_by D g bs a a 0 31 [] 0 rfl w h (fun W hW => (rfixed_short D g bs a 32 q W hW).mono fun e w' ⟨he, h4, h5⟩ => ⟨none, 0, he, .inl ⟨rfl, none, 0, rfl⟩, h4, h5⟩)
  · rw [if_neg q] at he; exact absurd he.symm h0
theorem rdigest_no (D g : Nat) (bs : List (BitVec 8)) (a : Nat) (f : Int) (hf : ¬ f = 0) (w : World) (h : Rr w D g bs a f) :
    Calls Try.prog 53 #[.pointer (some ⟨D, 0, none⟩)] w fun r w' => r = .returned (.agg (vB (dgN 32 [])).toArray) ∧ Rr w' D g bs a f ∧ Gp D w w' :=
  rdigest_by D g bs a a f f [] 0 rfl w h (fun W hW => (rfixed_no D g bs a f hf 32 W hW).mono fun e w' ⟨he, hw⟩ => ⟨none, 0, he, .inl ⟨rfl, none, 0, rfl⟩, by rw [hw]; exact hW, by rw [hw]; exact Gro.refl _ _⟩)

end Go.Proofs.Ytfommclhnfcioaa

namespace Go.Proofs.Ytfommclhnfcioaa
open Go Go.RowKit
open Sha

theorem rq_sets {W : World} {D g : Nat} {A : Option Addr} {cap : Nat} {ao : Nat} {bs : List (BitVec 8)} {a : Nat} {f : Int} (h : Rq W D g A cap ao bs a f) (b o : Nat) (vs : List Value) (h1 : D ≠ b) (h2 : 0 < bs.length → g ≠ b) : Rq (W.setCells b o vs) D g A cap ao bs a f :=
  ⟨Row.setCells_other h.row b o vs h1, h.lies, fun e => range_block (h.by' e) (heap_sets W b o vs g (h2 e)), h.nd, h.le, h.room, h.len⟩
theorem rq_set {W : World} {D g : Nat} {A : Option Addr} {cap : Nat} {ao : Nat} {bs : List (BitVec 8)} {a : Nat} {f : Int} (h : Rq W D g A cap ao bs a f) (b o : Nat) (v : Value) (h1 : D ≠ b) (h2 : 0 < bs.length → g ≠ b) : Rq (W.setCell ⟨b, o, none⟩ v) D g A cap ao bs a f :=
  ⟨h.row.set_other b o v h1, h.lies, fun e => range_block (h.by' e) (((Gro.refl (· = b) W).set b o v rfl).block g (h.lt e) (h2 e)), h.nd, h.le, h.room, h.len⟩

end Go.Proofs.Ytfommclhnfcioaa

namespace Go.Proofs.Ytfommclhnfcioaa
open Go Go.RowKit
open Sha

set_option maxRecDepth 100000 in
set_option maxHeartbeats 2000000 in
theorem qdigest_by (D g : Nat) (A : Option Addr) (cap : Nat) (ao : Nat) (bs : List (BitVec 8)) (a a' : Nat) (f f' : Int) (d : List (BitVec 8)) (n : Nat) (hd : d.length = n) (w : World) (h : Rq w D g A cap ao bs a f) (hF : ∀ W, Rq W D g A cap ao bs a f → Calls Try.prog 86 #[.pointer (some ⟨D, 0, none⟩), .int .i64 32] W fun e w' => ∃ A' c', e = .returned (.slice A' n c') ∧ SlAt w' (.slice A' n c') d ∧ Rq w' D g A cap ao bs a' f' ∧ Gp D W w') :
    Calls Try.prog 53 #[.pointer (some ⟨D, 0, none⟩)] w fun e w' => e = .returned (.agg (vB (dgN 32 d)).toArray) ∧ Rq w' D g A cap ao bs a' f' ∧ Gp D w w' := by
  have b1 : Below w.heap.size w (w.alloc (Obj.cells z32.toArray 23)) := (Below.refl _ _).alloc (Nat.le_refl _) _
  have b2 : Below w.heap.size w ((w.alloc (Obj.cells z32.toArray 23)).alloc (Obj.cells z32.toArray 23)) := b1.alloc b1.size (Obj.cells z32.toArray 23)
  have r0 : Row ((w.alloc (Obj.cells z32.toArray 23)).alloc (Obj.cells z32.toArray 23)) w.heap.size z32 23 := (Row.new' rfl rfl).alloc _
  have r1 : Row ((w.alloc (Obj.cells z32.toArray 23)).alloc (Obj.cells z32.toArray 23)) (w.heap.size + 1) z32 23 := Row.new' (by simp) rfl
  have hD : D < w.heap.size := h.row.lt
  have hgl : 0 < bs.length → g < w.heap.size := fun e => h.lt e
  have HF : Hid _ := hF (World.drew ((w.alloc (Obj.cells z32.toArray 23)).alloc (Obj.cells z32.toArray 23))) ((h.be b2).drewN 1)
  have GX : Hid (Gp D w (World.drew ((w.alloc (Obj.cells z32.toArray 23)).alloc (Obj.cells z32.toArray 23)))) := Gro.drewN (Gro.of_below b2) 1
  have R0 : Hid (Row (World.drew ((w.alloc (Obj.cells z32.toArray 23)).alloc (Obj.cells z32.toArray 23))) w.heap.size z32 23) := r0
  have R1 : Hid (Row (World.drew ((w.alloc (Obj.cells z32.toArray 23)).alloc (Obj.cells z32.toArray 23))) (w.heap.size + 1) z32 23) := r1
  have HDL : Hid (D < w.heap.size) := hD
  have HGL : Hid (0 < bs.length → g < w.heap.size) := hgl
  have HDN : Hid (d.length = n) := hd
  have HTL : Hid ((vB (d.take 32)).length ≤ 32) := by show _ ≤ _; rw [vB_length, List.length_take]; omega
  clear b1 b2 r0 r1 hD hgl h hd hF
  go_enter Try.func53, Try.ntmps53
  go_wp2_with fail
  go_region_law (first
    | (refine stp_fcall rfl 86 #[.pointer (some ⟨D, 0, none⟩), .int .i64 32] (by go_simp) (Calls.mono HF.out ?_); rintro e V ⟨Av, cv, rfl, hsl, hrv, hg⟩; refine ⟨_, rfl, ?_⟩; have HSL : Hid (SlAt V (.slice Av n cv) d) := hsl; have HRV : Hid (Rq V D g A cap ao bs a' f') := hrv; have HGV : Hid (Gp D w V) := GX.out.trans hg; have V0 : Hid (Row V w.heap.size z32 23) := hg.row R0.out (fun e => by have := HDL.out; omega); have V1 : Hid (Row V (w.heap.size + 1) z32 23) := hg.row R1.out (fun e => by have := HDL.out; omega); have HT : Hid (V.there (w.heap.size + 1) 0 (vB (d.take 32)).length) := V1.out.there 0 _ (by rw [Nat.zero_add]; exact HTL.out); clear hsl hrv hg HF)
    | (refine stp_copyb rfl (.tmp 4) (.tmp 6) rfl (w.heap.size + 1) 32 n cv Av d HDN.out rfl rfl HSL.out HT.out ?_))
  all_goals
    have q1 := Row.setCells 0 (vB (d.take 32)) V1.out (by rw [Nat.zero_add]; exact HTL.out)
    have q0 := Row.setCells_other V0.out (w.heap.size + 1) 0 (vB (d.take 32)) (by omega)
    rw [show z32 = vB (List.replicate 32 0#8) from rfl, dgN_row] at q1
    have qr := HRV.out
    generalize hcs : vB (dgN 32 d) = cs at *
    have hcl : cs.length = 32 := by rw [← hcs, vB_length, dgN_len]
    have HO : Hid (cs.toArray.all (·.oneCell') = true) := by rw [← hcs]; exact all_oneCell_toArray (vB_one _)
    have HI : Hid ((Try.prog.info? 23).map (·.size) = some cs.length) := by rw [info_a32, hcl]; rfl
    have HI' : Hid ((Try.prog.info? 23).map (·.size) = some cs.toArray.size) := by rw [info_a32, List.size_toArray, hcl]; rfl
    have nf := q0.over (vs := cs) (by rw [hcl]; rfl)
    have T0 := q0.there 0 cs.toArray.size (by rw [List.size_toArray, hcl]; decide)
    have HT0 : Hid _ := T0
    have Q1 : Hid (Row _ _ cs 23) := q1
    have NF : Hid (Row _ _ cs 23) := nf
    have HL : Hid (cs.length = 32) := hcl
    have HCS : Hid (vB (dgN 32 d) = cs) := hcs
    have hs1 := gro_sets HGV.out (w.heap.size + 1) 0 (vB (d.take 32)) (by omega)
    have hs2 := gro_sets hs1 w.heap.size 0 cs (Nat.le_refl _)
    have hx1 := rq_sets qr (w.heap.size + 1) 0 (vB (d.take 32)) (by have := HDL.out; omega) (fun e => by have := HGL.out e; omega)
    have hx2 := rq_sets hx1 w.heap.size 0 cs (by have := HDL.out; omega) (fun e => by have := HGL.out e; omega)
    have HG2 : Hid (Gp D w _) := hs2
    have HX2 : Hid (Rq _ D g A cap ao bs a' f') := hx2
    clear q1 q0 T0 hcs hcl nf hs1 hs2 hx1 hx2 qr V0 V1 HT HSL HRV HGV
    go_wp2_with (first
      | (refine wpList_load_w rfl 23 (.tmp 3) rfl (w.heap.size + 1) 0 rfl cs _ (Row.all Q1.out) Try.underlying23 rfl HI.out ?_; simp only [Act.put, List.setIfInBounds_toArray, List.set_cons_zero, List.set_cons_succ])
      | (refine wpList_store_mid rfl 23 (.tmp 2) (.tmp 8) rfl w.heap.size 0 cs.toArray rfl rfl HT0.out HI'.out HO.out ?_; simp only [Act.put]))
    exact bodyPost_ret (results_row Try.results53 _ _ w.heap.size 23 cs rfl NF.out Try.underlying23 info_a32 HL.out) rfl ⟨by rw [HCS.out], HX2.out, HG2.out⟩

theorem qdigest_ok (D g : Nat) (A : Option Addr) (cap : Nat) (ao : Nat) (bs : List (BitVec 8)) (a : Nat) (he : dgE 32 bs a = 0) (w : World) (h : Rq w D g A cap ao bs a 0) :
    Calls Try.prog 53 #[.pointer (some ⟨D, 0, none⟩)] w fun e w' => e = .returned (.agg (vB (sub bs a 32)).toArray) ∧ Rq w' D g A cap ao bs (a + 32) 0 ∧ Gp D w w' := by
  have hl : a + 32 ≤ bs.length := by
    unfold dgE at he
    by_cases q : bs.length < a + 32
    · rw [if_pos q] at he; cases he
    · omega
  have hs := sub_len bs a 32 hl
  have hk : dgN 32 (sub bs a 32) = sub bs a 32 := by unfold dgN; rw [List.take_of_length_le (by omega), hs]; simp
  have := qdigest_by D g A cap ao bs a (a + 32) 0 0 (sub bs a 32) 32 hs w h (fun W hW => (qfixed_ok D g A cap ao bs a 32 hl W hW).mono fun e w' ⟨A', c', he, h1, h2, h3, h4, h5⟩ => ⟨A', c', he, by
    obtain rfl := h3 (by decide)
    exact .inr ⟨g, ao + a, c', by rw [hs], by rw [hs]; exact h1, fun j v hj => by
      have hjl : j < 32 := by
        rcases Nat.lt_or_ge j 32 with q | q
        · exact q
        · rw [List.getElem?_eq_none (by rw [vB_length, hs]; exact q)] at hj; cases hj
      rw [Nat.add_assoc]
      refine h4.by' (by omega) (a + j) v ?_
      unfold vB at hj ⊢
      rw [List.getElem?_map] at hj ⊢
      rw [sub_get bs a 32 j hjl] at hj
      exact hj⟩, h4, h5⟩)
  rw [hk] at this
  exact this
theorem qdigest_bad (D g : Nat) (A : Option Addr) (cap : Nat) (ao : Nat) (bs : List (BitVec 8)) (a : Nat) (e : Int) (he : dgE 32 bs a = e) (h0 : ¬ e = 0) (w : World) (h : Rq w D g A cap ao bs a 0) :
    Calls Try.prog 53 #[.pointer (some ⟨D, 0, none⟩)] w fun r w' => r = .returned (.agg (vB (dgN 32 [])).toArray) ∧ Rq w' D g A cap ao bs a e ∧ Gp D w w' := by
  unfold dgE at he
  by_cases q : bs.length < a + 32
  · rw [if_pos q] at he
    subst he
    exact qdigest_by D g A cap ao bs a a 0 31 [] 0 rfl w h (fun W hW => (qfixed_short D g A cap ao bs a 32 q W hW).mono fun e w' ⟨he, h4, h5⟩ => ⟨none, 0, he, .inl ⟨rfl, none, 0, rfl⟩, h4, h5⟩)
  · rw [if_neg q] at he; exact absurd he.symm h0
theorem qdigest_no (D g : Nat) (A : Option Addr) (cap : Nat) (ao : Nat) (bs : List (BitVec 8)) (a : Nat) (f : Int) (hf : ¬ f = 0) (w : World) (h : Rq w D g A cap ao bs a f) :
    Calls Try.prog 53 #[.pointer (some ⟨D, 0, none⟩)] w fun r w' => r = .returned (.agg (vB (dgN 32 [])).toArray) ∧ Rq w' D g A cap ao bs a f ∧ Gp D w w' :=
  qdigest_by D g A cap ao bs a a f f [] 0 rfl w h (fun W hW => (qfixed_no D g A cap ao bs a f hf 32 W hW).mono fun e w' ⟨he, hw⟩ => ⟨none, 0, he, .inl ⟨rfl, none, 0, rfl⟩, by rw [hw]; exact hW, by rw [hw]; exact Gro.refl _ _⟩)

set_option maxRecDepth 100000 in
set_option maxHeartbeats 1000000 in
theorem qread_any (g : Nat) (A : Option Addr) (cap : Nat) (ao : Nat) (bs : List (BitVec 8)) (n : Nat) (hb : bs.length = n) (hl : n ≤ 140737488355328) (hc : n ≤ cap) (hlies : (bs = [] ∧ (A = none → cap = 0)) ∨ A = some ⟨g, ao, none⟩) (w : World) (hr : 0 < bs.length → w.rangeAt g ao (vB bs)) :
    Calls Try.prog 50 #[.slice A n cap] w fun e w' => e = .returned (.pointer (some ⟨w.heap.size, 0, none⟩)) ∧ Rq w' w.heap.size g A cap ao bs 0 (f0 bs) ∧ Below w.heap.size w w' := by
  have b1 : Below w.heap.size w (w.alloc (Obj.cells #[.slice A n cap, .int .i64 0, .int .i64 0] 137)) := (Below.refl _ _).alloc (Nat.le_refl _) _
  have hrr : Rq (w.alloc (Obj.cells #[.slice A n cap, .int .i64 0, .int .i64 0] 137)) w.heap.size g A cap ao bs 0 0 := ⟨by rw [hb]; exact Row.new' rfl rfl, hlies, fun e => range_be (hr e) b1, fun e => Nat.ne_of_lt (range_lt (hr e) e), Nat.zero_le _, by omega, by omega⟩
  have hb2 : Below w.heap.size w (w.alloc (Obj.cells #[.slice A n cap, .int .i64 0, .int .i64 30] 137)) := (Below.refl _ _).alloc (Nat.le_refl _) _
  have hre : Rq (w.alloc (Obj.cells #[.slice A n cap, .int .i64 0, .int .i64 30] 137)) w.heap.size g A cap ao bs 0 30 := ⟨by rw [hb]; exact Row.new' rfl rfl, hlies, fun e => range_be (hr e) hb2, fun e => Nat.ne_of_lt (range_lt (hr e) e), Nat.zero_le _, by omega, by omega⟩
  have HR : Hid (Rq _ _ _ _ _ _ _ _ _) := hrr
  have HE : Hid (Rq _ _ _ _ _ _ _ _ _) := hre
  have B1 : Hid _ := b1
  have B2 : Hid _ := hb2
  unfold f0
  by_cases hc : 4194304 < bs.length
  · rw [if_pos hc]
    have c1 : (4194304 : Int) < (n : Int) := by omega
    clear hr hrr hre b1 hb2 hb hc hlies
    go_enter Try.func50, Try.ntmps50
    go_wp2
    go_ret
    exact ⟨rfl, HE.out, B2.out⟩
  · rw [if_neg hc]
    have c1 : ¬ (4194304 : Int) < (n : Int) := by omega
    clear hr hrr hre b1 hb2 hb hc hlies
    go_enter Try.func50, Try.ntmps50
    go_wp2
    go_ret
    exact ⟨rfl, HR.out, B1.out⟩

section
variable {w : World} {D g a cap : Nat} {A : Option Addr} {ao : Nat} {bs : List (BitVec 8)} {f : Int}
theorem q_byte (h : Rq w D g A cap ao bs a f) : Calls Try.prog 51 #[.pointer (some ⟨D, 0, none⟩)] w fun e w' => e = .returned (.int .u8 ((bV bs a f : Nat) : Int)) ∧ Rq w' D g A cap ao bs (bA bs a f) (bF bs a f) ∧ Gp D w w' := by
  by_cases hf : f = 0
  · subst hf
    by_cases hz : bs.length ≤ a
    · have ez : byE bs a = 31 := by unfold byE; rw [if_pos hz]
      have e1 : bV bs a 0 = 0 := by unfold bV; rw [if_neg (fun q => by rw [ez] at q; cases q.2)]
      have e2 : bA bs a 0 = a := by unfold bA; rw [if_neg (fun q => by rw [ez] at q; cases q.2)]
      have e3 : bF bs a 0 = 31 := by unfold bF; rw [if_pos rfl, ez]
      rw [e1, e2, e3]
      exact qbyte_short D g A cap ao bs a hz w h
    · have ez : byE bs a = 0 := by unfold byE; rw [if_neg hz]
      have e1 : bV bs a 0 = at8 bs a := by unfold bV; rw [if_pos ⟨rfl, ez⟩]
      have e2 : bA bs a 0 = a + 1 := by unfold bA; rw [if_pos ⟨rfl, ez⟩]
      have e3 : bF bs a 0 = 0 := by unfold bF; rw [if_pos rfl, ez]
      rw [e1, e2, e3]
      exact qbyte_ok D g A cap ao bs a (by omega) w h
  · have e1 : bV bs a f = 0 := by unfold bV; rw [if_neg (fun q => hf q.1)]
    have e2 : bA bs a f = a := by unfold bA; rw [if_neg (fun q => hf q.1)]
    have e3 : bF bs a f = f := by unfold bF; rw [if_neg hf]
    rw [e1, e2, e3]
    exact (qbyte_no D g A cap ao bs a f hf w h).mono fun e w' ⟨he, hw⟩ => ⟨he, by rw [hw]; exact h, by rw [hw]; exact Gro.refl _ _⟩
theorem q_number (h : Rq w D g A cap ao bs a f) : Calls Try.prog 52 #[.pointer (some ⟨D, 0, none⟩)] w fun e w' => e = .returned (.int .i64 ((nV bs a f : Nat) : Int)) ∧ Rq w' D g A cap ao bs (nA bs a f) (nF bs a f) ∧ Gp D w w' := by
  by_cases hf : f = 0
  · subst hf
    by_cases hz : nuE bs a = 0
    · have e1 : nV bs a 0 = nuW bs a := by unfold nV; rw [if_pos rfl, if_pos hz]
      have e2 : nA bs a 0 = a + 1 + at8 bs a := by unfold nA; rw [if_pos rfl, if_pos hz]
      have e3 : nF bs a 0 = 0 := by unfold nF; rw [if_pos rfl, hz]
      rw [e1, e2, e3]
      exact qnum_ok D g A cap ao bs a hz w h
    · have e1 : nV bs a 0 = 0 := by unfold nV; rw [if_pos rfl, if_neg hz]
      have e2 : nA bs a 0 = a := by unfold nA; rw [if_pos rfl, if_neg hz]
      have e3 : nF bs a 0 = nuE bs a := by unfold nF; rw [if_pos rfl]
      rw [e1, e2, e3]
      exact qnum_bad D g A cap ao bs a _ rfl hz w h
  · have e1 : nV bs a f = 0 := by unfold nV; rw [if_neg hf]
    have e2 : nA bs a f = a := by unfold nA; rw [if_neg hf]
    have e3 : nF bs a f = f := by unfold nF; rw [if_neg hf]
    rw [e1, e2, e3]
    exact qnum_no D g A cap ao bs a f hf w h
theorem q_digest (h : Rq w D g A cap ao bs a f) : Calls Try.prog 53 #[.pointer (some ⟨D, 0, none⟩)] w fun e w' => e = .returned (.agg (vB (dV bs a f)).toArray) ∧ Rq w' D g A cap ao bs (dA bs a f) (dF bs a f) ∧ Gp D w w' := by
  by_cases hf : f = 0
  · subst hf
    by_cases hz : dgE 32 bs a = 0
    · have e1 : dV bs a 0 = sub bs a 32 := by unfold dV; rw [if_pos ⟨rfl, hz⟩]
      have e2 : dA bs a 0 = a + 32 := by unfold dA; rw [if_pos ⟨rfl, hz⟩]
      have e3 : dF bs a 0 = 0 := by unfold dF; rw [if_pos rfl, hz]
      rw [e1, e2, e3]
      exact qdigest_ok D g A cap ao bs a hz w h
    · have e1 : dV bs a 0 = dgN 32 [] := by unfold dV; rw [if_neg (fun q => hz q.2)]; rfl
      have e2 : dA bs a 0 = a := by unfold dA; rw [if_neg (fun q => hz q.2)]
      have e3 : dF bs a 0 = dgE 32 bs a := by unfold dF; rw [if_pos rfl]
      rw [e1, e2, e3]
      exact qdigest_bad D g A cap ao bs a _ rfl hz w h
  · have e1 : dV bs a f = dgN 32 [] := by unfold dV; rw [if_neg (fun q => hf q.1)]; rfl
    have e2 : dA bs a f = a := by unfold dA; rw [if_neg (fun q => hf q.1)]
    have e3 : dF bs a f = f := by unfold dF; rw [if_neg hf]
    rw [e1, e2, e3]
    exact qdigest_no D g A cap ao bs a f hf w h
end

end Go.Proofs.Ytfommclhnfcioaa
