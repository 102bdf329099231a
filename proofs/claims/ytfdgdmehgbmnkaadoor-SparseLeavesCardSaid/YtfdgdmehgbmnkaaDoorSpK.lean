/-
  sparse: New, Root, Len, Leaf; the law's keys.
-/
import Derived.Test.YtfdgdmehgbmnkaaDoorSpJ
namespace Go.Proofs.YtfdgdmehgbmnkaaDoor
open Go Go.RowKit
open Sha

theorem results_row_tmpS {P : Program} {fn : Func} {p q : Tmp} {ty : TypeId} {n : Nat} {e : TypeId} (h : fn.results = #[.cell p ty, .tmp q]) (tmps : Array Value) (w : World) (g : Nat) (t : TypeId) (cs : List Value) (v : Value)
    (hp : tmps.getD p undef = .pointer (some ⟨g, 0, none⟩)) (hv : tmps.getD q undef = v) (hg : Row w g cs t) (hu : P.underlying ty = some (.array n e)) (hi : (P.info? ty).map (·.size) = some n) (hl : cs.length = n) :
    (results fn tmps).run P w = .ok (.tuple #[.agg cs.toArray, v]) w := by
  have hp' : tmps[p]?.getD undef = .pointer (some ⟨g, 0, none⟩) := by simpa using hp
  have hv' : tmps[q]?.getD undef = v := by simpa using hv
  have hr := run_loadVar_row (P := P) w g t ty cs.toArray (0, 0) (.array n e) hg hu rfl (by simp [hi, hl])
  simp [results, h, hp', hv', asAddr, hr]
set_option maxRecDepth 100000 in
set_option maxHeartbeats 4000000 in
theorem new_s (w : World) : Calls Tryd.prog 9 #[] w fun e w' => e = .returned (pt w.heap.size) ∧ MapAt w' w.heap.size .nil ∧ Below w.heap.size w w' := by
  go_enter Tryd.func9, Tryd.ntmps9
  go_wp2
  go_ret
  exact ⟨rfl, ⟨pn, Row.new' (cs := [pn]) rfl rfl, rfl⟩, (Below.refl _ _).alloc (Nat.le_refl _) _⟩
set_option maxRecDepth 100000 in
set_option maxHeartbeats 4000000 in
theorem len_s (t : Tr) (b : Nat) (w : World) (h : MapAt w b t) : Calls Tryd.prog 16 #[pt b] w fun e w' => e = .returned (.int .i64 (t.size : Int)) ∧ w' = w := by
  obtain ⟨q, r, hn⟩ := h
  have c := r.cell 0 q rfl
  have HN : Hid (NodeAt w t q) := hn
  clear r hn
  go_enter Tryd.func16, Tryd.ntmps16
  go_wp2_with (go_at_call 43; refine Calls.mono (size_n _ _ _ HN.out) ?_; rintro e X ⟨rfl, hq⟩; obtain rfl := hq.symm; clear hq)
  go_ret
  exact ⟨rfl, rfl⟩
set_option maxRecDepth 100000 in
set_option maxHeartbeats 4000000 in
theorem root_s (t : Tr) (b : Nat) (w : World) (h : MapAt w b t) : Calls Tryd.prog 17 #[pt b] w fun e w' => e = .returned (.agg (vB t.dg).toArray) ∧ Below w.heap.size w w' := by
  obtain ⟨q, r, hn⟩ := h
  obtain ⟨d, hd⟩ : ∃ d, d = t.dg := ⟨_, rfl⟩
  have hdl : d.length = 32 := by rw [hd]; exact Tr.dg_len _
  have HDL : Hid (d.length = 32) := hdl
  have HI5 : Hid ((Tryd.prog.info? 29).map (·.size) = some (vB d).toArray.size) := by show _ = _; rw [info_dig]; simp [vB_length, hdl]
  have hb : Below w.heap.size w (w.alloc (Obj.cells (vB (List.replicate 32 0#8)).toArray 29)) := (Below.refl _ _).alloc (Nat.le_refl _) _
  have r2 : Row (w.alloc (Obj.cells (vB (List.replicate 32 0#8)).toArray 29)) w.heap.size (vB (List.replicate 32 0#8)) 29 := Row.new' rfl rfl
  have CQ : Hid _ := (Row.below r hb r.lt).cell 0 q rfl
  have HD : Hid (∀ W, Below w.heap.size w W → Calls Tryd.prog 44 #[q] W fun e w' => e = .returned (.agg (vB d).toArray) ∧ Below W.heap.size W w') := fun W hW => by rw [hd]; exact digest_n t q W (NodeAt.be hW _ _ hn)
  have HR2 : Hid (Row (w.alloc (Obj.cells (vB (List.replicate 32 0#8)).toArray 29)) w.heap.size (vB (List.replicate 32 0#8)) 29) := r2
  have HB : Hid (Below w.heap.size w (w.alloc (Obj.cells (vB (List.replicate 32 0#8)).toArray 29))) := hb
  rw [← hd]
  clear hd hdl r hn r2 hb
  go_enter Tryd.func17, Tryd.ntmps17
  go_wp2_with (first
    | (refine wpList_plain rfl fun _ hK => wp_ldp b 0 q rfl rfl CQ.out (hK _ _ ?_); simp only [Act.put, List.setIfInBounds_toArray, List.set_cons_zero, List.set_cons_succ])
    | (go_at_call 44; refine Calls.mono (HD.out _ HB.out) ?_; rintro e X ⟨rfl, qq⟩; have BX : Hid (Below w.heap.size w X) := HB.out.trans (qq.mono HB.out.size); have RX : Hid (Row X w.heap.size (vB (List.replicate 32 0#8)) 29) := Row.below HR2.out qq HR2.out.lt; clear qq)
    | (refine wpList_store_mid rfl 29 (.tmp 2) (.tmp 10) rfl w.heap.size 0 (vB d).toArray rfl rfl (RX.out.there 0 _ (by simp [vB_length, HDL.out])) HI5.out (all_oneCell_toArray (vB_one d)) ?_; simp only [Act.put]))
  exact bodyPost_ret (results_row Tryd.results17 _ _ w.heap.size 29 (vB d) rfl (RX.out.over (by rw [vB_length, HDL.out]; rfl)) Tryd.underlying29 info_dig (by rw [vB_length, HDL.out])) rfl ⟨rfl, below_setCells BX.out (Nat.le_refl _) _⟩
/-- The key with one byte at its end. -/
def lowD (x : BitVec 8) : List (BitVec 8) := List.replicate 31 0#8 ++ [x]
set_option maxRecDepth 100000 in
set_option maxHeartbeats 4000000 in
theorem low_any (x : BitVec 8) (w : World) : Calls Tryd.prog 29 #[.int .u8 (x.toNat : Int)] w fun e w' => e = .returned (.agg (vB (lowD x)).toArray) ∧ Below w.heap.size w w' := by
  obtain ⟨y, hy⟩ : ∃ y : Int, y = (x.toNat : Int) := ⟨_, rfl⟩
  have hs : (vB (List.replicate 32 0#8)).set 31 (.int .u8 y) = vB (lowD x) := by rw [hy]; rfl
  obtain ⟨d, hd⟩ : ∃ d, d = lowD x := ⟨_, rfl⟩
  have HDL : Hid (d.length = 32) := by show _ = _; rw [hd]; rfl
  rw [← hd] at hs ⊢
  rw [← hy]
  have hB : Below w.heap.size w ((w.alloc (Obj.cells (vB (List.replicate 32 0#8)).toArray 29)).alloc (Obj.cells (vB (List.replicate 32 0#8)).toArray 29)) := ((Below.refl _ _).alloc (Nat.le_refl _) _).alloc (by simp) _
  have r2 : Row ((w.alloc (Obj.cells (vB (List.replicate 32 0#8)).toArray 29)).alloc (Obj.cells (vB (List.replicate 32 0#8)).toArray 29)) w.heap.size (vB (List.replicate 32 0#8)) 29 := (Row.new w (vB (List.replicate 32 0#8)) _).alloc _
  have r3 : Row ((w.alloc (Obj.cells (vB (List.replicate 32 0#8)).toArray 29)).alloc (Obj.cells (vB (List.replicate 32 0#8)).toArray 29)) (w.heap.size + 1) (vB (List.replicate 32 0#8)) 29 := Row.new' (by simp) rfl
  have R3 : Hid (Row (((w.alloc (Obj.cells (vB (List.replicate 32 0#8)).toArray 29)).alloc (Obj.cells (vB (List.replicate 32 0#8)).toArray 29)).setCell ⟨w.heap.size + 1, 31, none⟩ (.int .u8 y)) (w.heap.size + 1) (vB d) 29) := by have := r3.set 31 (.int .u8 y); rwa [hs] at this
  have R2 : Hid (Row (((w.alloc (Obj.cells (vB (List.replicate 32 0#8)).toArray 29)).alloc (Obj.cells (vB (List.replicate 32 0#8)).toArray 29)).setCell ⟨w.heap.size + 1, 31, none⟩ (.int .u8 y)) w.heap.size (vB (List.replicate 32 0#8)) 29) := Row.set_other r2 _ _ _ (by omega)
  have BB : Hid (Below w.heap.size w (((w.alloc (Obj.cells (vB (List.replicate 32 0#8)).toArray 29)).alloc (Obj.cells (vB (List.replicate 32 0#8)).toArray 29)).setCell ⟨w.heap.size + 1, 31, none⟩ (.int .u8 y))) := below_setCells (o := 31) hB (Nat.le_succ _) [.int .u8 y]
  have HT : Hid (((w.alloc (Obj.cells (vB (List.replicate 32 0#8)).toArray 29)).alloc (Obj.cells (vB (List.replicate 32 0#8)).toArray 29)).there (w.heap.size + 1) 31 1) := r3.there 31 1 (by decide)
  have HI5 : Hid ((Tryd.prog.info? 29).map (·.size) = some (vB d).toArray.size) := by show _ = _; rw [info_dig]; simp [vB_length, HDL.out]
  have HIL : Hid ((Tryd.prog.info? 29).map (·.size) = some (vB d).length) := by show _ = _; rw [info_dig, vB_length, HDL.out]
  clear hB r2 r3 hs hd hy
  go_enter Tryd.func29, Tryd.ntmps29
  go_wp2_with (first
    | (refine wpList_store1 rfl 5 (.tmp 5) (.tmp 4) rfl (w.heap.size + 1) 31 (.int .u8 y) rfl rfl rfl HT.out (by kernel_rfl) rfl ?_; simp only [Act.put])
    | (refine wpList_load_w rfl 29 (.tmp 3) rfl (w.heap.size + 1) 0 rfl (vB d) _ R3.out.all Tryd.underlying29 rfl HIL.out ?_; simp only [Act.put, List.setIfInBounds_toArray, List.set_cons_zero, List.set_cons_succ])
    | (refine wpList_store_mid rfl 29 (.tmp 2) (.tmp 6) rfl w.heap.size 0 (vB d).toArray rfl rfl (R2.out.there 0 _ (by simp [vB_length, HDL.out])) HI5.out (all_oneCell_toArray (vB_one d)) ?_; simp only [Act.put]))
  exact bodyPost_ret (results_row Tryd.results29 _ _ w.heap.size 29 (vB d) rfl (R2.out.over (by rw [vB_length, HDL.out]; rfl)) Tryd.underlying29 info_dig (by rw [vB_length, HDL.out])) rfl ⟨rfl, below_setCells BB.out (Nat.le_refl _) _⟩

end Go.Proofs.YtfdgdmehgbmnkaaDoor
