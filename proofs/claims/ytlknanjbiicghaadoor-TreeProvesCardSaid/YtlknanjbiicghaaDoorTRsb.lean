/-
  rootsBy: what a growth comes to.
-/
import Derived.Test.YtlknanjbiicghaaDoorTGs
import Derived.Test.YtlknanjbiicghaaDoorTRb
namespace Go.Proofs.YtlknanjbiicghaaDoor
open Go Go.RowKit
open Sha

/-- What a growth comes to: the root of the first m leaves, and that of all n. -/
def rsb (m n : Nat) (k : Bool) (was : List (BitVec 8)) (ds : List (List (BitVec 8))) : List (BitVec 8) × List (BitVec 8) :=
  if _h : m ≠ n ∧ 2 ≤ n ∧ n < 4611686018427387904 then
    if m ≤ fpart n then ((rsb m (fpart n) k was ds.dropLast).1, dig ([1#8] ++ ((rsb m (fpart n) k was ds.dropLast).2 ++ ds.getLastD [])))
    else (dig ([1#8] ++ (ds.getLastD [] ++ (rsb (m - fpart n) (n - fpart n) false was ds.dropLast).1)), dig ([1#8] ++ (ds.getLastD [] ++ (rsb (m - fpart n) (n - fpart n) false was ds.dropLast).2)))
  else if k then (was, was) else (ds.getD 0 [], ds.getD 0 [])
termination_by n
decreasing_by
  all_goals first
    | exact (fpart_bounds n (by omega) (by omega)).1
    | (have := fpart_pos n; omega)
theorem rsb_same (n : Nat) (k : Bool) (was : List (BitVec 8)) (ds : List (List (BitVec 8))) : rsb n n k was ds = if k then (was, was) else (ds.getD 0 [], ds.getD 0 []) := by
  rw [rsb, dif_neg (by omega)]
theorem rsb_left (m n : Nat) (k : Bool) (was l : List (BitVec 8)) (rs : List (List (BitVec 8))) (hm : m < n) (h1 : 1 ≤ m) (hl : n < 4611686018427387904) (h : m ≤ fpart n) : rsb m n k was (rs ++ [l]) = ((rsb m (fpart n) k was rs).1, dig ([1#8] ++ ((rsb m (fpart n) k was rs).2 ++ l))) := by
  rw [rsb, dif_pos ⟨by omega, by omega, hl⟩, if_pos h, List.dropLast_concat, List.getLastD_concat]
theorem rsb_right (m n : Nat) (k : Bool) (was l : List (BitVec 8)) (rs : List (List (BitVec 8))) (hm : m < n) (h1 : 1 ≤ m) (hl : n < 4611686018427387904) (h : ¬ m ≤ fpart n) : rsb m n k was (rs ++ [l]) = (dig ([1#8] ++ (l ++ (rsb (m - fpart n) (n - fpart n) false was rs).1)), dig ([1#8] ++ (l ++ (rsb (m - fpart n) (n - fpart n) false was rs).2))) := by
  rw [rsb, dif_pos ⟨by omega, by omega, hl⟩, if_neg h, List.dropLast_concat, List.getLastD_concat]

theorem results_rows2 {P : Program} {fn : Func} {p q : Tmp} {ty : TypeId} {n : Nat} {e : TypeId} (h : fn.results = #[.cell p ty, .cell q ty]) (tmps : Array Value) (w : World) (g g' : Nat) (t : TypeId) (cs ds : List Value)
    (hp : tmps.getD p undef = .pointer (some ⟨g, 0, none⟩)) (hq : tmps.getD q undef = .pointer (some ⟨g', 0, none⟩)) (hg : Row w g cs t) (hg' : Row w g' ds t) (hu : P.underlying ty = some (.array n e)) (hi : (P.info? ty).map (·.size) = some n) (hl : cs.length = n) (hl' : ds.length = n) :
    (results fn tmps).run P w = .ok (.tuple #[.agg cs.toArray, .agg ds.toArray]) w := by
  have hp' : tmps[p]?.getD undef = .pointer (some ⟨g, 0, none⟩) := by simpa using hp
  have hq' : tmps[q]?.getD undef = .pointer (some ⟨g', 0, none⟩) := by simpa using hq
  have hr := run_loadVar_row (P := P) w g t ty cs.toArray (0, 0) (.array n e) hg hu rfl (by simp [hi, hl])
  have hr' := run_loadVar_row (P := P) w g' t ty ds.toArray (0, 0) (.array n e) hg' hu rfl (by simp [hi, hl'])
  simp [results, h, hp', hq', asAddr, hr, hr']

set_option maxRecDepth 100000 in
set_option maxHeartbeats 4000000 in
theorem rootsBy_known (n : Nat) (was : List (BitVec 8)) (Hw : Dl was) (pv : Value) (w : World) :
    Calls Tryd.prog 39 #[pv, .int .i64 (n : Int), .int .i64 (n : Int), .bool true, .agg (vB was).toArray] w fun e w' => e = .returned (.tuple #[.agg (vB was).toArray, .agg (vB was).toArray]) ∧ Below w.heap.size w w' := by
  have hb : Below w.heap.size w (((w.alloc (Obj.cells (vB was).toArray 28)).alloc (Obj.cells z32.toArray 28)).alloc (Obj.cells z32.toArray 28)) := (((Below.refl _ _).alloc (Nat.le_refl _) _).alloc (by simp) _).alloc (by simp; omega) _
  have r9 : Row (((w.alloc (Obj.cells (vB was).toArray 28)).alloc (Obj.cells z32.toArray 28)).alloc (Obj.cells z32.toArray 28)) w.heap.size (vB was) 28 := ((Row.new w (vB was) _).alloc _).alloc _
  have r10 : Row (((w.alloc (Obj.cells (vB was).toArray 28)).alloc (Obj.cells z32.toArray 28)).alloc (Obj.cells z32.toArray 28)) (w.heap.size + 1) z32 28 := (Row.new' (by simp) rfl).alloc _
  have r11 : Row (((w.alloc (Obj.cells (vB was).toArray 28)).alloc (Obj.cells z32.toArray 28)).alloc (Obj.cells z32.toArray 28)) (w.heap.size + 2) z32 28 := Row.new' (by simp) rfl
  go_enter Tryd.func39, Tryd.ntmps39
  go_wp2_with fail
  refine wp_named fun a0 ha0 => ?_
  have hsz : a0.tmps.size = 72 := by rw [ha0]; rfl
  have s9 : a0.eval (.tmp 9) = .pointer (some ⟨w.heap.size, 0, none⟩) := by rw [ha0]; rfl
  have s10 : a0.eval (.tmp 10) = .pointer (some ⟨w.heap.size + 1, 0, none⟩) := by rw [ha0]; rfl
  have s11 : a0.eval (.tmp 11) = .pointer (some ⟨w.heap.size + 2, 0, none⟩) := by rw [ha0]; rfl
  obtain ⟨D, hD⟩ : ∃ D : List (Tmp × SP), D = [(23, SP.is (.agg (vB was).toArray)), (24, SP.is (.agg (vB was).toArray)), (1000, SP.any), (1000, SP.any)] := ⟨_, rfl⟩
  refine wp_region_down (by kernel_rfl) (fun listed ac W => listed.size = 4 ∧ Fp D a0 listed ac W ∧ Below w.heap.size w W ∧ Row W w.heap.size ((vB was)) 28 ∧ Row W (w.heap.size + 1) (if listed.getD 2 false = true then (vB was) else z32) 28 ∧ Row W (w.heap.size + 2) (if listed.getD 3 false = true then (vB was) else z32) 28) ?_ ?_ ?_
  · exact ⟨by simp, Fp.start D a0 _ _, Below.drew hb, Row.drew r9, (by rw [if_neg (fun h => start_no h)]; exact Row.drew r10), (by rw [if_neg (fun h => start_no h)]; exact Row.drew r11)⟩
  · clear ha0 hb r9 r10 r11 
    intro listed ac W k hI hdn hk
    obtain ⟨hl, hF, hb, r9, r10, r11⟩ := hI
    have hk1 : k < 4 := List.mem_range.1 (List.mem_filter.1 hk).1
    have hl2 : ∀ j, (listed.setIfInBounds j true).size = 4 := fun j => by rw [Array.size_setIfInBounds]; exact hl
    rcases (show k = 0 ∨ k = 1 ∨ k = 2 ∨ k = 3 by omega) with rfl | rfl | rfl | rfl
    · have hk3 := hk
      exact wpOp_plain rfl rfl (wp_load_mid 28 (.tmp 9) rfl w.heap.size 0 ((hF.keep 9 (by rw [hD]; rfl)).trans s9) ((vB was)) _ r9.all Tryd.underlying28 rfl Hw.info ⟨hl2 0, (hF.put 0 23 (SP.is (.agg (vB was).toArray)) (.agg (vB was).toArray) (by rw [hD]; rfl) rfl (by rw [hD]; rfl) (by rw [hsz]; decide) (by rw [hl]; decide)), hb, r9, (by rw [getD_set _ _ _ (by decide)]; exact r10), (by rw [getD_set _ _ _ (by decide)]; exact r11)⟩)
    · have hk3 := hk
      exact wpOp_plain rfl rfl (wp_load_mid 28 (.tmp 9) rfl w.heap.size 0 ((hF.keep 9 (by rw [hD]; rfl)).trans s9) ((vB was)) _ r9.all Tryd.underlying28 rfl Hw.info ⟨hl2 1, (hF.put 1 24 (SP.is (.agg (vB was).toArray)) (.agg (vB was).toArray) (by rw [hD]; rfl) rfl (by rw [hD]; rfl) (by rw [hsz]; decide) (by rw [hl]; decide)), hb, r9, (by rw [getD_set _ _ _ (by decide)]; exact r10), (by rw [getD_set _ _ _ (by decide)]; exact r11)⟩)
    · have hk3 := hk
      have hno : ¬ listed.getD 2 false = true := not_yet hk
      rw [if_neg hno] at r10
      have T := r10.there 0 (vB was).toArray.size (by rw [List.size_toArray, Hw.len]; decide)
      have fin := r10.over (vs := (vB was)) (Hw.over rfl)
      have hT : Fp D a0 listed ac (W.setCells (w.heap.size + 1) 0 (vB was)) := hF.turn (by rw [hD]; simp only [List.forall_mem_cons, List.not_mem_nil, false_implies, implies_true, and_true]; exact ⟨fun _ h => h, fun _ h => h, fun _ h => h, fun _ h => h⟩)
      exact wpOp_plain rfl rfl (wp_store_mid 28 (.tmp 10) (.tmp 23) rfl (w.heap.size + 1) 0 (vB was).toArray ((hF.keep 10 (by rw [hD]; rfl)).trans s10) (hF.done 0 (23, SP.is (.agg (vB was).toArray)) (by rw [hD]; rfl) (ready_dep hk 0 (by kernel_rfl))) T Hw.info' Hw.one ⟨hl2 2, (hT.skip 2 1000 (by rw [hD]; rfl) (by rw [hl]; decide)), below_setCells hb (by omega) _, Row.setCells_other r9 _ _ _ (by omega), (by rw [if_pos (getD_same (by rw [hl]; decide))]; exact fin), (by rw [getD_set _ _ _ (by decide)]; exact Row.setCells_other r11 _ _ _ (by omega))⟩)
    · have hk3 := hk
      have hno : ¬ listed.getD 3 false = true := not_yet hk
      rw [if_neg hno] at r11
      have T := r11.there 0 (vB was).toArray.size (by rw [List.size_toArray, Hw.len]; decide)
      have fin := r11.over (vs := (vB was)) (Hw.over rfl)
      have hT : Fp D a0 listed ac (W.setCells (w.heap.size + 2) 0 (vB was)) := hF.turn (by rw [hD]; simp only [List.forall_mem_cons, List.not_mem_nil, false_implies, implies_true, and_true]; exact ⟨fun _ h => h, fun _ h => h, fun _ h => h, fun _ h => h⟩)
      exact wpOp_plain rfl rfl (wp_store_mid 28 (.tmp 11) (.tmp 24) rfl (w.heap.size + 2) 0 (vB was).toArray ((hF.keep 11 (by rw [hD]; rfl)).trans s11) (hF.done 1 (24, SP.is (.agg (vB was).toArray)) (by rw [hD]; rfl) (ready_dep hk 1 (by kernel_rfl))) T Hw.info' Hw.one ⟨hl2 3, (hT.skip 3 1000 (by rw [hD]; rfl) (by rw [hl]; decide)), below_setCells hb (by omega) _, Row.setCells_other r9 _ _ _ (by omega), (by rw [getD_set _ _ _ (by decide)]; exact Row.setCells_other r10 _ _ _ (by omega)), (by rw [if_pos (getD_same (by rw [hl]; decide))]; exact fin)⟩)
  · clear hb r9 r10 r11 
    intro listed ac W hI hr
    obtain ⟨hl, hF, hb, r9, r10, r11⟩ := hI
    have hall := all_listed (by kernel_rfl) hl hr
    rw [if_pos (hall 2 (by decide))] at r10
    rw [if_pos (hall 3 (by decide))] at r11
    have h23 : ac.eval (.tmp 23) = .agg (vB was).toArray := hF.done 0 (23, SP.is (.agg (vB was).toArray)) (by rw [hD]; rfl) (hall 0 (by decide))
    have h24 : ac.eval (.tmp 24) = .agg (vB was).toArray := hF.done 1 (24, SP.is (.agg (vB was).toArray)) (by rw [hD]; rfl) (hall 1 (by decide))
    have ea := hF.lay [(23, .agg (vB was).toArray), (24, .agg (vB was).toArray)] (by rw [hD, hsz]; rfl) (by simp only [List.forall_mem_cons, List.not_mem_nil, false_implies, implies_true, and_true]; exact ⟨h23, h24⟩)
    rw [ha0] at ea
    simp only [List.foldl_cons, List.foldl_nil, List.setIfInBounds_toArray, List.set_cons_zero, List.set_cons_succ] at ea
    clear hF hall hr hl hD  s9 s10 s11 ha0 hsz h23 h24
    subst ea
    go_wp2_with fail
    exact bodyPost_ret (results_rows2 Tryd.results39 _ _ (w.heap.size + 1) (w.heap.size + 2) 28 (vB was) (vB was) rfl rfl r10 r11 Tryd.underlying28 info_dig Hw.len Hw.len) rfl ⟨rfl, hb⟩

set_option maxRecDepth 100000 in
set_option maxHeartbeats 4000000 in
theorem rootsBy_told (n p cap b o : Nat) (was x : List (BitVec 8)) (Hx : Dl x) (hp : 0 < p) (w : World) (hr : w.rangeAt b o (vB x)) :
    Calls Tryd.prog 39 #[.slice (some ⟨b, o, none⟩) p cap, .int .i64 (n : Int), .int .i64 (n : Int), .bool false, .agg (vB was).toArray] w fun e w' => e = .returned (.tuple #[.agg (vB x).toArray, .agg (vB x).toArray]) ∧ Below w.heap.size w w' := by
  have HR : Hid (∀ W, Below w.heap.size w W → W.rangeAt b (o + 0 * 32) (vB x)) := fun W hB => by rw [Nat.zero_mul, Nat.add_zero]; exact range_below hr hB (Nat.le_refl _)
  clear hr
  have hb : Below w.heap.size w (((w.alloc (Obj.cells (vB was).toArray 28)).alloc (Obj.cells z32.toArray 28)).alloc (Obj.cells z32.toArray 28)) := (((Below.refl _ _).alloc (Nat.le_refl _) _).alloc (by simp) _).alloc (by simp; omega) _
  have r9 : Row (((w.alloc (Obj.cells (vB was).toArray 28)).alloc (Obj.cells z32.toArray 28)).alloc (Obj.cells z32.toArray 28)) w.heap.size (vB was) 28 := ((Row.new w (vB was) _).alloc _).alloc _
  have r10 : Row (((w.alloc (Obj.cells (vB was).toArray 28)).alloc (Obj.cells z32.toArray 28)).alloc (Obj.cells z32.toArray 28)) (w.heap.size + 1) z32 28 := (Row.new' (by simp) rfl).alloc _
  have r11 : Row (((w.alloc (Obj.cells (vB was).toArray 28)).alloc (Obj.cells z32.toArray 28)).alloc (Obj.cells z32.toArray 28)) (w.heap.size + 2) z32 28 := Row.new' (by simp) rfl
  go_enter Tryd.func39, Tryd.ntmps39
  go_wp2_with fail
  refine wp_named fun a0 ha0 => ?_
  have hsz : a0.tmps.size = 72 := by rw [ha0]; rfl
  have s9 : a0.eval (.tmp 9) = .pointer (some ⟨w.heap.size, 0, none⟩) := by rw [ha0]; rfl
  have s10 : a0.eval (.tmp 10) = .pointer (some ⟨w.heap.size + 1, 0, none⟩) := by rw [ha0]; rfl
  have s11 : a0.eval (.tmp 11) = .pointer (some ⟨w.heap.size + 2, 0, none⟩) := by rw [ha0]; rfl
  have s0 : a0.eval (.tmp 0) = .slice (some ⟨b, o, none⟩) p cap := by rw [ha0]; rfl
  obtain ⟨D, hD⟩ : ∃ D : List (Tmp × SP), D = [(25, SP.is (.slice (some ⟨b, o, none⟩) p cap)), (26, SP.is (.pointer (some ⟨b, o + 0 * 32, none⟩))), (27, SP.is (.agg (vB x).toArray)), (28, SP.is (.slice (some ⟨b, o, none⟩) p cap)), (29, SP.is (.pointer (some ⟨b, o + 0 * 32, none⟩))), (30, SP.is (.agg (vB x).toArray)), (1000, SP.any), (1000, SP.any)] := ⟨_, rfl⟩
  refine wp_region_down (by kernel_rfl) (fun listed ac W => listed.size = 8 ∧ Fp D a0 listed ac W ∧ Below w.heap.size w W ∧ Row W (w.heap.size + 1) (if listed.getD 6 false = true then (vB x) else z32) 28 ∧ Row W (w.heap.size + 2) (if listed.getD 7 false = true then (vB x) else z32) 28) ?_ ?_ ?_
  · exact ⟨by simp, Fp.start D a0 _ _, Below.drew hb, (by rw [if_neg (fun h => start_no h)]; exact Row.drew r10), (by rw [if_neg (fun h => start_no h)]; exact Row.drew r11)⟩
  · clear ha0 hb r10 r11 
    intro listed ac W k hI hdn hk
    obtain ⟨hl, hF, hb, r10, r11⟩ := hI
    have hk1 : k < 8 := List.mem_range.1 (List.mem_filter.1 hk).1
    have hl2 : ∀ j, (listed.setIfInBounds j true).size = 8 := fun j => by rw [Array.size_setIfInBounds]; exact hl
    rcases (show k = 0 ∨ k = 1 ∨ k = 2 ∨ k = 3 ∨ k = 4 ∨ k = 5 ∨ k = 6 ∨ k = 7 by omega) with rfl | rfl | rfl | rfl | rfl | rfl | rfl | rfl
    · have hk3 := hk
      exact wpOp_plain rfl rfl (wp_move_v (ac.eval (.tmp 0)) rfl rfl ⟨hl2 0, (hF.put 0 25 (SP.is (.slice (some ⟨b, o, none⟩) p cap)) (ac.eval (.tmp 0)) (by rw [hD]; rfl) (((hF.keep 0 (by rw [hD]; rfl)).trans s0)) (by rw [hD]; rfl) (by rw [hsz]; decide) (by rw [hl]; decide)), hb, (by rw [getD_set _ _ _ (by decide)]; exact r10), (by rw [getD_set _ _ _ (by decide)]; exact r11)⟩)
    · have hk3 := hk
      have ea := (hF.done 0 (25, SP.is (.slice (some ⟨b, o, none⟩) p cap)) (by rw [hD]; rfl) (ready_dep hk 0 (by kernel_rfl)))
      exact wpOp_plain rfl rfl (wp_index_s 30 28 rfl b o p cap 0 32 ea rfl hp Tryd.underlying30 info_dig ⟨hl2 1, (hF.put 1 26 (SP.is (.pointer (some ⟨b, o + 0 * 32, none⟩))) (.pointer (some ⟨b, o + 0 * 32, none⟩)) (by rw [hD]; rfl) rfl (by rw [hD]; rfl) (by rw [hsz]; decide) (by rw [hl]; decide)), hb, (by rw [getD_set _ _ _ (by decide)]; exact r10), (by rw [getD_set _ _ _ (by decide)]; exact r11)⟩)
    · have hk3 := hk
      have ea := (hF.done 1 (26, SP.is (.pointer (some ⟨b, o + 0 * 32, none⟩))) (by rw [hD]; rfl) (ready_dep hk 1 (by kernel_rfl)))
      exact wpOp_plain rfl rfl (wp_load_mid 28 (.tmp 26) rfl b (o + 0 * 32) ea (vB x) _ (HR.out W hb) Tryd.underlying28 rfl Hx.info ⟨hl2 2, (hF.put 2 27 (SP.is (.agg (vB x).toArray)) (.agg (vB x).toArray) (by rw [hD]; rfl) rfl (by rw [hD]; rfl) (by rw [hsz]; decide) (by rw [hl]; decide)), hb, (by rw [getD_set _ _ _ (by decide)]; exact r10), (by rw [getD_set _ _ _ (by decide)]; exact r11)⟩)
    · have hk3 := hk
      exact wpOp_plain rfl rfl (wp_move_v (ac.eval (.tmp 0)) rfl rfl ⟨hl2 3, (hF.put 3 28 (SP.is (.slice (some ⟨b, o, none⟩) p cap)) (ac.eval (.tmp 0)) (by rw [hD]; rfl) (((hF.keep 0 (by rw [hD]; rfl)).trans s0)) (by rw [hD]; rfl) (by rw [hsz]; decide) (by rw [hl]; decide)), hb, (by rw [getD_set _ _ _ (by decide)]; exact r10), (by rw [getD_set _ _ _ (by decide)]; exact r11)⟩)
    · have hk3 := hk
      have ea := (hF.done 3 (28, SP.is (.slice (some ⟨b, o, none⟩) p cap)) (by rw [hD]; rfl) (ready_dep hk 3 (by kernel_rfl)))
      exact wpOp_plain rfl rfl (wp_index_s 30 28 rfl b o p cap 0 32 ea rfl hp Tryd.underlying30 info_dig ⟨hl2 4, (hF.put 4 29 (SP.is (.pointer (some ⟨b, o + 0 * 32, none⟩))) (.pointer (some ⟨b, o + 0 * 32, none⟩)) (by rw [hD]; rfl) rfl (by rw [hD]; rfl) (by rw [hsz]; decide) (by rw [hl]; decide)), hb, (by rw [getD_set _ _ _ (by decide)]; exact r10), (by rw [getD_set _ _ _ (by decide)]; exact r11)⟩)
    · have hk3 := hk
      have ea := (hF.done 4 (29, SP.is (.pointer (some ⟨b, o + 0 * 32, none⟩))) (by rw [hD]; rfl) (ready_dep hk 4 (by kernel_rfl)))
      exact wpOp_plain rfl rfl (wp_load_mid 28 (.tmp 29) rfl b (o + 0 * 32) ea (vB x) _ (HR.out W hb) Tryd.underlying28 rfl Hx.info ⟨hl2 5, (hF.put 5 30 (SP.is (.agg (vB x).toArray)) (.agg (vB x).toArray) (by rw [hD]; rfl) rfl (by rw [hD]; rfl) (by rw [hsz]; decide) (by rw [hl]; decide)), hb, (by rw [getD_set _ _ _ (by decide)]; exact r10), (by rw [getD_set _ _ _ (by decide)]; exact r11)⟩)
    · have hk3 := hk
      have hno : ¬ listed.getD 6 false = true := not_yet hk
      rw [if_neg hno] at r10
      have T := r10.there 0 (vB x).toArray.size (by rw [List.size_toArray, Hx.len]; decide)
      have fin := r10.over (vs := (vB x)) (Hx.over rfl)
      have hT : Fp D a0 listed ac (W.setCells (w.heap.size + 1) 0 (vB x)) := hF.turn (by rw [hD]; simp only [List.forall_mem_cons, List.not_mem_nil, false_implies, implies_true, and_true]; exact ⟨fun _ h => h, fun _ h => h, fun _ h => h, fun _ h => h, fun _ h => h, fun _ h => h, fun _ h => h, fun _ h => h⟩)
      exact wpOp_plain rfl rfl (wp_store_mid 28 (.tmp 10) (.tmp 27) rfl (w.heap.size + 1) 0 (vB x).toArray ((hF.keep 10 (by rw [hD]; rfl)).trans s10) (hF.done 2 (27, SP.is (.agg (vB x).toArray)) (by rw [hD]; rfl) (ready_dep hk 2 (by kernel_rfl))) T Hx.info' Hx.one ⟨hl2 6, (hT.skip 6 1000 (by rw [hD]; rfl) (by rw [hl]; decide)), below_setCells hb (by omega) _, (by rw [if_pos (getD_same (by rw [hl]; decide))]; exact fin), (by rw [getD_set _ _ _ (by decide)]; exact Row.setCells_other r11 _ _ _ (by omega))⟩)
    · have hk3 := hk
      have hno : ¬ listed.getD 7 false = true := not_yet hk
      rw [if_neg hno] at r11
      have T := r11.there 0 (vB x).toArray.size (by rw [List.size_toArray, Hx.len]; decide)
      have fin := r11.over (vs := (vB x)) (Hx.over rfl)
      have hT : Fp D a0 listed ac (W.setCells (w.heap.size + 2) 0 (vB x)) := hF.turn (by rw [hD]; simp only [List.forall_mem_cons, List.not_mem_nil, false_implies, implies_true, and_true]; exact ⟨fun _ h => h, fun _ h => h, fun _ h => h, fun _ h => h, fun _ h => h, fun _ h => h, fun _ h => h, fun _ h => h⟩)
      exact wpOp_plain rfl rfl (wp_store_mid 28 (.tmp 11) (.tmp 30) rfl (w.heap.size + 2) 0 (vB x).toArray ((hF.keep 11 (by rw [hD]; rfl)).trans s11) (hF.done 5 (30, SP.is (.agg (vB x).toArray)) (by rw [hD]; rfl) (ready_dep hk 5 (by kernel_rfl))) T Hx.info' Hx.one ⟨hl2 7, (hT.skip 7 1000 (by rw [hD]; rfl) (by rw [hl]; decide)), below_setCells hb (by omega) _, (by rw [getD_set _ _ _ (by decide)]; exact Row.setCells_other r10 _ _ _ (by omega)), (by rw [if_pos (getD_same (by rw [hl]; decide))]; exact fin)⟩)
  · clear hb r10 r11 
    intro listed ac W hI hr
    obtain ⟨hl, hF, hb, r10, r11⟩ := hI
    have hall := all_listed (by kernel_rfl) hl hr
    rw [if_pos (hall 6 (by decide))] at r10
    rw [if_pos (hall 7 (by decide))] at r11
    have h25 : ac.eval (.tmp 25) = .slice (some ⟨b, o, none⟩) p cap := hF.done 0 (25, SP.is (.slice (some ⟨b, o, none⟩) p cap)) (by rw [hD]; rfl) (hall 0 (by decide))
    have h26 : ac.eval (.tmp 26) = .pointer (some ⟨b, o + 0 * 32, none⟩) := hF.done 1 (26, SP.is (.pointer (some ⟨b, o + 0 * 32, none⟩))) (by rw [hD]; rfl) (hall 1 (by decide))
    have h27 : ac.eval (.tmp 27) = .agg (vB x).toArray := hF.done 2 (27, SP.is (.agg (vB x).toArray)) (by rw [hD]; rfl) (hall 2 (by decide))
    have h28 : ac.eval (.tmp 28) = .slice (some ⟨b, o, none⟩) p cap := hF.done 3 (28, SP.is (.slice (some ⟨b, o, none⟩) p cap)) (by rw [hD]; rfl) (hall 3 (by decide))
    have h29 : ac.eval (.tmp 29) = .pointer (some ⟨b, o + 0 * 32, none⟩) := hF.done 4 (29, SP.is (.pointer (some ⟨b, o + 0 * 32, none⟩))) (by rw [hD]; rfl) (hall 4 (by decide))
    have h30 : ac.eval (.tmp 30) = .agg (vB x).toArray := hF.done 5 (30, SP.is (.agg (vB x).toArray)) (by rw [hD]; rfl) (hall 5 (by decide))
    have ea := hF.lay [(25, .slice (some ⟨b, o, none⟩) p cap), (26, .pointer (some ⟨b, o + 0 * 32, none⟩)), (27, .agg (vB x).toArray), (28, .slice (some ⟨b, o, none⟩) p cap), (29, .pointer (some ⟨b, o + 0 * 32, none⟩)), (30, .agg (vB x).toArray)] (by rw [hD, hsz]; rfl) (by simp only [List.forall_mem_cons, List.not_mem_nil, false_implies, implies_true, and_true]; exact ⟨h25, h26, h27, h28, h29, h30⟩)
    rw [ha0] at ea
    simp only [List.foldl_cons, List.foldl_nil, List.setIfInBounds_toArray, List.set_cons_zero, List.set_cons_succ] at ea
    clear hF hall hr hl hD  s9 s10 s11 s0 ha0 hsz h25 h26 h27 h28 h29 h30
    subst ea
    go_wp2_with fail
    exact bodyPost_ret (results_rows2 Tryd.results39 _ _ (w.heap.size + 1) (w.heap.size + 2) 28 (vB x) (vB x) rfl rfl r10 r11 Tryd.underlying28 info_dig Hx.len Hx.len) rfl ⟨rfl, hb⟩

set_option maxRecDepth 100000 in
set_option maxHeartbeats 8000000 in
theorem rootsBy_left (m n k q cap b o : Nat) (kn : Bool) (h1 : 1 ≤ m) (hmn : m < n) (hn : n < 4611686018427387904) (hk : fpart n = k) (hmk : m ≤ k) (was l s1 s2 dd : List (BitVec 8)) (Hw : Dl was) (Hl : Dl l) (H1 : Dl s1) (H2 : Dl s2) (hd : dd = dig ([1#8] ++ (s2 ++ l))) (hc : q + 1 ≤ cap) (hq : q < 4611686018427387904) (w : World) (hK : Tab w 2) (hr : w.rangeAt b (o + q * 32) (vB l))
    (hS : ∀ W, Below w.heap.size w W → Calls Tryd.prog 39 #[.slice (some ⟨b, o, none⟩) q q, .int .i64 (m : Int), .int .i64 (k : Int), .bool kn, .agg (vB was).toArray] W fun e w' => e = .returned (.tuple #[.agg (vB s1).toArray, .agg (vB s2).toArray]) ∧ Below W.heap.size W w') :
    Calls Tryd.prog 39 #[.slice (some ⟨b, o, none⟩) (q + 1) cap, .int .i64 (m : Int), .int .i64 (n : Int), .bool kn, .agg (vB was).toArray] w fun e w' => e = .returned (.tuple #[.agg (vB s1).toArray, .agg (vB dd).toArray]) ∧ Below w.heap.size w w' := by
  have HF : Hid (∀ w, _) := fun w => first_any n (by omega) hn w
  rw [hk] at HF
  have HKN : k < n := by rw [← hk]; exact (fpart_bounds n (by omega) hn).1
  have HS : Hid (∀ W, _ → _) := hS
  have HC : Hid (∀ W, Below w.heap.size w W → _) := fun W (hB : Below w.heap.size w W) => cut_any q cap b o l Hl hc hq W (range_below hr hB (Nat.le_refl _))
  have HK : Hid (∀ W, Below w.heap.size w W → Tab W 2) := fun W hB => hK.below hB hK.lt
  have HD : Hid (dd = _) := hd
  have Hd : Dl dd := by rw [hd]; exact dl_dig _
  clear hd
  have n1 : ¬ (m : Int) = (n : Int) := by omega
  have c1 : (m : Int) ≤ (k : Int) := by omega
  clear hS hk hr hK hc
  have hb : Below w.heap.size w (((w.alloc (Obj.cells (vB was).toArray 28)).alloc (Obj.cells z32.toArray 28)).alloc (Obj.cells z32.toArray 28)) := (((Below.refl _ _).alloc (Nat.le_refl _) _).alloc (by simp) _).alloc (by simp; omega) _
  have r9 : Row (((w.alloc (Obj.cells (vB was).toArray 28)).alloc (Obj.cells z32.toArray 28)).alloc (Obj.cells z32.toArray 28)) w.heap.size (vB was) 28 := ((Row.new w (vB was) _).alloc _).alloc _
  have r10 : Row (((w.alloc (Obj.cells (vB was).toArray 28)).alloc (Obj.cells z32.toArray 28)).alloc (Obj.cells z32.toArray 28)) (w.heap.size + 1) z32 28 := (Row.new' (by simp) rfl).alloc _
  have r11 : Row (((w.alloc (Obj.cells (vB was).toArray 28)).alloc (Obj.cells z32.toArray 28)).alloc (Obj.cells z32.toArray 28)) (w.heap.size + 2) z32 28 := Row.new' (by simp) rfl
  go_enter Tryd.func39, Tryd.ntmps39
  go_wp2_with fail
  refine (HC.out _ hb).mono ?_
  rintro e V0 ⟨rfl, hB⟩
  replace hb := hb.trans (hB.mono hb.size)
  replace r9 := Row.below r9 hB (Row.lt r9)
  replace r10 := Row.below r10 hB (Row.lt r10)
  replace r11 := Row.below r11 hB (Row.lt r11)
  clear hB
  have oz : w.heap.size + 2 < V0.heap.size := Row.lt r11
  have o_r13 : w.heap.size < V0.heap.size := Row.lt r9
  have n0 : Row (V0.alloc (Obj.cells z32.toArray 28)) V0.heap.size z32 28 := Row.new' rfl rfl
  have T0 := Hl.there n0 rfl
  replace n0 := n0.over (vs := vB l) (Hl.over rfl)
  have hB : Below V0.heap.size V0 ((V0.alloc (Obj.cells z32.toArray 28)).setCells V0.heap.size 0 (vB l)) := below_setCells ((Below.refl _ _).alloc (Nat.le_refl _) (Obj.cells z32.toArray 28)) (b := V0.heap.size) (o := 0) (Nat.le_refl _) (vB l)
  replace hb := hb.trans (hB.mono hb.size)
  replace r9 := Row.below r9 hB (Row.lt r9)
  replace r10 := Row.below r10 hB (Row.lt r10)
  replace r11 := Row.below r11 hB (Row.lt r11)
  clear hB
  have r13 := n0
  clear n0
  go_wp2_with (first
    | (refine wpList_store_mid rfl 28 (.tmp 13) (.tmp 35) rfl V0.heap.size 0 (vB l).toArray rfl rfl T0 Hl.info' Hl.one ?_; simp only [Act.put]; clear T0; (change wpList _ _ _ _ _ ((V0.alloc (Obj.cells z32.toArray 28)).setCells V0.heap.size 0 (vB l))); (generalize ((V0.alloc (Obj.cells z32.toArray 28)).setCells V0.heap.size 0 (vB l)) = X1 at *); (generalize hN : V0.heap.size = N13 at *; clear hN))
    | (go_at_call 25; refine (HF.out _).mono ?_; rintro e X1 ⟨rfl, rfl⟩)
    | (refine wpList_load_w rfl 28 (.tmp 9) rfl (w.heap.size) 0 rfl (vB was) _ r9.all Tryd.underlying28 rfl Hw.info ?_; simp only [Act.put, List.setIfInBounds_toArray, List.set_cons_zero, List.set_cons_succ]))
  refine (HS.out X1 hb).mono ?_
  rintro e V2 ⟨rfl, hB⟩
  replace hb := hb.trans (hB.mono hb.size)
  replace r9 := Row.below r9 hB (Row.lt r9)
  replace r13 := Row.below r13 hB (Row.lt r13)
  replace r10 := Row.below r10 hB (Row.lt r10)
  replace r11 := Row.below r11 hB (Row.lt r11)
  clear hB
  have o_r15 : N13 < V2.heap.size := Row.lt r13
  have o_r16 : V2.heap.size < (V2.heap.size + 1) := Nat.lt_succ_self _
  have n0 : Row ((V2.alloc (Obj.cells z32.toArray 28)).alloc (Obj.cells z32.toArray 28)) V2.heap.size z32 28 := (Row.new' rfl rfl).alloc _
  have n1 : Row ((V2.alloc (Obj.cells z32.toArray 28)).alloc (Obj.cells z32.toArray 28)) (V2.heap.size + 1) z32 28 := Row.new' (by simp) rfl
  have T0 := H1.there n0 rfl
  replace n0 := n0.over (vs := vB s1) (H1.over rfl)
  replace n1 := Row.setCells_other n1 V2.heap.size 0 (vB s1) (by omega)
  have T1 := H2.there n1 rfl
  replace n1 := n1.over (vs := vB s2) (H2.over rfl)
  replace n0 := Row.setCells_other n0 (V2.heap.size + 1) 0 (vB s2) (by omega)
  have hB : Below V2.heap.size V2 ((((V2.alloc (Obj.cells z32.toArray 28)).alloc (Obj.cells z32.toArray 28)).setCells V2.heap.size 0 (vB s1)).setCells (V2.heap.size + 1) 0 (vB s2)) := below_setCells (below_setCells (((Below.refl _ _).alloc (Nat.le_refl _) (Obj.cells z32.toArray 28)).alloc (by simp) (Obj.cells z32.toArray 28)) (b := V2.heap.size) (o := 0) (Nat.le_refl _) (vB s1)) (b := (V2.heap.size + 1)) (o := 0) (by omega) (vB s2)
  replace hb := hb.trans (hB.mono hb.size)
  replace r9 := Row.below r9 hB (Row.lt r9)
  replace r13 := Row.below r13 hB (Row.lt r13)
  replace r10 := Row.below r10 hB (Row.lt r10)
  replace r11 := Row.below r11 hB (Row.lt r11)
  clear hB
  have r15 := n0
  have r16 := n1
  clear n0 n1
  go_wp2_with (first
    | (refine wpList_store_mid rfl 28 (.tmp 15) (.tmp 48) rfl V2.heap.size 0 (vB s1).toArray rfl rfl T0 H1.info' H1.one ?_; simp only [Act.put])
    | (refine wpList_store_mid rfl 28 (.tmp 16) (.tmp 49) rfl (V2.heap.size + 1) 0 (vB s2).toArray rfl rfl T1 H2.info' H2.one ?_; simp only [Act.put]; clear T0 T1; (change wpList _ _ _ _ _ ((((V2.alloc (Obj.cells z32.toArray 28)).alloc (Obj.cells z32.toArray 28)).setCells V2.heap.size 0 (vB s1)).setCells (V2.heap.size + 1) 0 (vB s2))); (generalize ((((V2.alloc (Obj.cells z32.toArray 28)).alloc (Obj.cells z32.toArray 28)).setCells V2.heap.size 0 (vB s1)).setCells (V2.heap.size + 1) 0 (vB s2)) = X3 at *); (generalize hN : V2.heap.size + 1 = N16 at *; clear hN); (generalize hN : V2.heap.size = N15 at *; clear hN)))
  clear r9
  refine wp_named fun a0 ha0 => ?_
  have hsz : a0.tmps.size = 72 := by rw [ha0]; rfl
  have s10 : a0.eval (.tmp 10) = .pointer (some ⟨w.heap.size + 1, 0, none⟩) := by rw [ha0]; rfl
  have s11 : a0.eval (.tmp 11) = .pointer (some ⟨w.heap.size + 2, 0, none⟩) := by rw [ha0]; rfl
  have s13 : a0.eval (.tmp 13) = .pointer (some ⟨N13, 0, none⟩) := by rw [ha0]; rfl
  have s15 : a0.eval (.tmp 15) = .pointer (some ⟨N15, 0, none⟩) := by rw [ha0]; rfl
  have s16 : a0.eval (.tmp 16) = .pointer (some ⟨N16, 0, none⟩) := by rw [ha0]; rfl
  obtain ⟨D, hD⟩ : ∃ D : List (Tmp × SP), D = [(50, SP.is (.agg (vB s1).toArray)), (51, SP.is (.agg (vB s2).toArray)), (52, SP.is (.agg (vB l).toArray)), (53, SP.is (.agg (vB dd).toArray)), (1000, SP.any), (1000, SP.any)] := ⟨_, rfl⟩
  refine wp_region_down (by kernel_rfl) (fun listed ac W => listed.size = 6 ∧ Fp D a0 listed ac W ∧ Below w.heap.size w W ∧ Row W N13 ((vB l)) 28 ∧ Row W N15 ((vB s1)) 28 ∧ Row W N16 ((vB s2)) 28 ∧ Row W (w.heap.size + 1) (if listed.getD 4 false = true then (vB s1) else z32) 28 ∧ Row W (w.heap.size + 2) (if listed.getD 5 false = true then (vB dd) else z32) 28) ?_ ?_ ?_
  · exact ⟨by simp, Fp.start D a0 _ _, Below.drew hb, Row.drew r13, Row.drew r15, Row.drew r16, (by rw [if_neg (fun h => start_no h)]; exact Row.drew r10), (by rw [if_neg (fun h => start_no h)]; exact Row.drew r11)⟩
  · clear ha0 hb r13 r15 r16 r10 r11 
    intro listed ac W k hI hdn hk
    obtain ⟨hl, hF, hb, r13, r15, r16, r10, r11⟩ := hI
    have hk1 : k < 6 := List.mem_range.1 (List.mem_filter.1 hk).1
    have hl2 : ∀ j, (listed.setIfInBounds j true).size = 6 := fun j => by rw [Array.size_setIfInBounds]; exact hl
    rcases (show k = 0 ∨ k = 1 ∨ k = 2 ∨ k = 3 ∨ k = 4 ∨ k = 5 by omega) with rfl | rfl | rfl | rfl | rfl | rfl
    · have hk3 := hk
      exact wpOp_plain rfl rfl (wp_load_mid 28 (.tmp 15) rfl N15 0 ((hF.keep 15 (by rw [hD]; rfl)).trans s15) ((vB s1)) _ r15.all Tryd.underlying28 rfl H1.info ⟨hl2 0, (hF.put 0 50 (SP.is (.agg (vB s1).toArray)) (.agg (vB s1).toArray) (by rw [hD]; rfl) rfl (by rw [hD]; rfl) (by rw [hsz]; decide) (by rw [hl]; decide)), hb, r13, r15, r16, (by rw [getD_set _ _ _ (by decide)]; exact r10), (by rw [getD_set _ _ _ (by decide)]; exact r11)⟩)
    · have hk3 := hk
      exact wpOp_plain rfl rfl (wp_load_mid 28 (.tmp 16) rfl N16 0 ((hF.keep 16 (by rw [hD]; rfl)).trans s16) ((vB s2)) _ r16.all Tryd.underlying28 rfl H2.info ⟨hl2 1, (hF.put 1 51 (SP.is (.agg (vB s2).toArray)) (.agg (vB s2).toArray) (by rw [hD]; rfl) rfl (by rw [hD]; rfl) (by rw [hsz]; decide) (by rw [hl]; decide)), hb, r13, r15, r16, (by rw [getD_set _ _ _ (by decide)]; exact r10), (by rw [getD_set _ _ _ (by decide)]; exact r11)⟩)
    · have hk3 := hk
      exact wpOp_plain rfl rfl (wp_load_mid 28 (.tmp 13) rfl N13 0 ((hF.keep 13 (by rw [hD]; rfl)).trans s13) ((vB l)) _ r13.all Tryd.underlying28 rfl Hl.info ⟨hl2 2, (hF.put 2 52 (SP.is (.agg (vB l).toArray)) (.agg (vB l).toArray) (by rw [hD]; rfl) rfl (by rw [hD]; rfl) (by rw [hsz]; decide) (by rw [hl]; decide)), hb, r13, r15, r16, (by rw [getD_set _ _ _ (by decide)]; exact r10), (by rw [getD_set _ _ _ (by decide)]; exact r11)⟩)
    · have hk3 := hk
      have ea := (hF.done 1 (51, SP.is (.agg (vB s2).toArray)) (by rw [hD]; rfl) (ready_dep hk 1 (by kernel_rfl)))
      have eb := (hF.done 2 (52, SP.is (.agg (vB l).toArray)) (by rw [hD]; rfl) (ready_dep hk 2 (by kernel_rfl)))
      refine wpOp_plain rfl rfl (wp_fcall_v 19 #[.agg (vB s2).toArray, .agg (vB l).toArray] rfl rfl (by show [ac.eval (.tmp 51), ac.eval (.tmp 52)] = _; rw [show ac.eval (.tmp 51) = _ from ea, show ac.eval (.tmp 52) = _ from eb]) (by go_simp) ((node_any s2 l dd H2 Hl HD.out W (HK.out W hb)).mono ?_))
      rintro e W2 ⟨rfl, hB⟩
      exact ⟨_, rfl, hl2 3, ((hF.world hB).put 3 53 (SP.is (.agg (vB dd).toArray)) (.agg (vB dd).toArray) (by rw [hD]; rfl) rfl (by rw [hD]; rfl) (by rw [hsz]; decide) (by rw [hl]; decide)), hb.trans (hB.mono hb.size), Row.below r13 hB (Row.lt r13), Row.below r15 hB (Row.lt r15), Row.below r16 hB (Row.lt r16), (by rw [getD_set _ _ _ (by decide)]; exact Row.below r10 hB (Row.lt r10)), (by rw [getD_set _ _ _ (by decide)]; exact Row.below r11 hB (Row.lt r11))⟩
    · have hk3 := hk
      have hno : ¬ listed.getD 4 false = true := not_yet hk
      rw [if_neg hno] at r10
      have T := r10.there 0 (vB s1).toArray.size (by rw [List.size_toArray, H1.len]; decide)
      have fin := r10.over (vs := (vB s1)) (H1.over rfl)
      have hT : Fp D a0 listed ac (W.setCells (w.heap.size + 1) 0 (vB s1)) := hF.turn (by rw [hD]; simp only [List.forall_mem_cons, List.not_mem_nil, false_implies, implies_true, and_true]; exact ⟨fun _ h => h, fun _ h => h, fun _ h => h, fun _ h => h, fun _ h => h, fun _ h => h⟩)
      exact wpOp_plain rfl rfl (wp_store_mid 28 (.tmp 10) (.tmp 50) rfl (w.heap.size + 1) 0 (vB s1).toArray ((hF.keep 10 (by rw [hD]; rfl)).trans s10) (hF.done 0 (50, SP.is (.agg (vB s1).toArray)) (by rw [hD]; rfl) (ready_dep hk 0 (by kernel_rfl))) T H1.info' H1.one ⟨hl2 4, (hT.skip 4 1000 (by rw [hD]; rfl) (by rw [hl]; decide)), below_setCells hb (by omega) _, Row.setCells_other r13 _ _ _ (by omega), Row.setCells_other r15 _ _ _ (by omega), Row.setCells_other r16 _ _ _ (by omega), (by rw [if_pos (getD_same (by rw [hl]; decide))]; exact fin), (by rw [getD_set _ _ _ (by decide)]; exact Row.setCells_other r11 _ _ _ (by omega))⟩)
    · have hk3 := hk
      have hno : ¬ listed.getD 5 false = true := not_yet hk
      rw [if_neg hno] at r11
      have T := r11.there 0 (vB dd).toArray.size (by rw [List.size_toArray, Hd.len]; decide)
      have fin := r11.over (vs := (vB dd)) (Hd.over rfl)
      have hT : Fp D a0 listed ac (W.setCells (w.heap.size + 2) 0 (vB dd)) := hF.turn (by rw [hD]; simp only [List.forall_mem_cons, List.not_mem_nil, false_implies, implies_true, and_true]; exact ⟨fun _ h => h, fun _ h => h, fun _ h => h, fun _ h => h, fun _ h => h, fun _ h => h⟩)
      exact wpOp_plain rfl rfl (wp_store_mid 28 (.tmp 11) (.tmp 53) rfl (w.heap.size + 2) 0 (vB dd).toArray ((hF.keep 11 (by rw [hD]; rfl)).trans s11) (hF.done 3 (53, SP.is (.agg (vB dd).toArray)) (by rw [hD]; rfl) (ready_dep hk 3 (by kernel_rfl))) T Hd.info' Hd.one ⟨hl2 5, (hT.skip 5 1000 (by rw [hD]; rfl) (by rw [hl]; decide)), below_setCells hb (by omega) _, Row.setCells_other r13 _ _ _ (by omega), Row.setCells_other r15 _ _ _ (by omega), Row.setCells_other r16 _ _ _ (by omega), (by rw [getD_set _ _ _ (by decide)]; exact Row.setCells_other r10 _ _ _ (by omega)), (by rw [if_pos (getD_same (by rw [hl]; decide))]; exact fin)⟩)
  · clear hb r13 r15 r16 r10 r11 
    intro listed ac W hI hr
    obtain ⟨hl, hF, hb, r13, r15, r16, r10, r11⟩ := hI
    have hall := all_listed (by kernel_rfl) hl hr
    rw [if_pos (hall 4 (by decide))] at r10
    rw [if_pos (hall 5 (by decide))] at r11
    have h50 : ac.eval (.tmp 50) = .agg (vB s1).toArray := hF.done 0 (50, SP.is (.agg (vB s1).toArray)) (by rw [hD]; rfl) (hall 0 (by decide))
    have h51 : ac.eval (.tmp 51) = .agg (vB s2).toArray := hF.done 1 (51, SP.is (.agg (vB s2).toArray)) (by rw [hD]; rfl) (hall 1 (by decide))
    have h52 : ac.eval (.tmp 52) = .agg (vB l).toArray := hF.done 2 (52, SP.is (.agg (vB l).toArray)) (by rw [hD]; rfl) (hall 2 (by decide))
    have h53 : ac.eval (.tmp 53) = .agg (vB dd).toArray := hF.done 3 (53, SP.is (.agg (vB dd).toArray)) (by rw [hD]; rfl) (hall 3 (by decide))
    have ea := hF.lay [(50, .agg (vB s1).toArray), (51, .agg (vB s2).toArray), (52, .agg (vB l).toArray), (53, .agg (vB dd).toArray)] (by rw [hD, hsz]; rfl) (by simp only [List.forall_mem_cons, List.not_mem_nil, false_implies, implies_true, and_true]; exact ⟨h50, h51, h52, h53⟩)
    rw [ha0] at ea
    simp only [List.foldl_cons, List.foldl_nil, List.setIfInBounds_toArray, List.set_cons_zero, List.set_cons_succ] at ea
    clear hF hall hr hl hD  s10 s11 s13 s15 s16 ha0 hsz h50 h51 h52 h53
    subst ea
    go_wp2_with fail
    exact bodyPost_ret (results_rows2 Tryd.results39 _ _ (w.heap.size + 1) (w.heap.size + 2) 28 (vB s1) (vB dd) rfl rfl r10 r11 Tryd.underlying28 info_dig H1.len Hd.len) rfl ⟨rfl, hb⟩

set_option maxRecDepth 100000 in
set_option maxHeartbeats 8000000 in
theorem rootsBy_right (m n k q cap b o : Nat) (kn : Bool) (h1 : 1 ≤ m) (hmn : m < n) (hn : n < 4611686018427387904) (hk : fpart n = k) (hmk : ¬ m ≤ k) (was l s1 s2 dd de : List (BitVec 8)) (Hw : Dl was) (Hl : Dl l) (H1 : Dl s1) (H2 : Dl s2) (hd : dd = dig ([1#8] ++ (l ++ s1))) (he : de = dig ([1#8] ++ (l ++ s2))) (hc : q + 1 ≤ cap) (hq : q < 4611686018427387904) (w : World) (hK : Tab w 2) (hr : w.rangeAt b (o + q * 32) (vB l))
    (hS : ∀ W, Below w.heap.size w W → Calls Tryd.prog 39 #[.slice (some ⟨b, o, none⟩) q q, .int .i64 ((m : Int) - (k : Int)), .int .i64 ((n : Int) - (k : Int)), .bool false, .agg (vB was).toArray] W fun e w' => e = .returned (.tuple #[.agg (vB s1).toArray, .agg (vB s2).toArray]) ∧ Below W.heap.size W w') :
    Calls Tryd.prog 39 #[.slice (some ⟨b, o, none⟩) (q + 1) cap, .int .i64 (m : Int), .int .i64 (n : Int), .bool kn, .agg (vB was).toArray] w fun e w' => e = .returned (.tuple #[.agg (vB dd).toArray, .agg (vB de).toArray]) ∧ Below w.heap.size w w' := by
  have HF : Hid (∀ w, _) := fun w => first_any n (by omega) hn w
  rw [hk] at HF
  have HKN : k < n := by rw [← hk]; exact (fpart_bounds n (by omega) hn).1
  have HS : Hid (∀ W, _ → _) := hS
  have HC : Hid (∀ W, Below w.heap.size w W → _) := fun W (hB : Below w.heap.size w W) => cut_any q cap b o l Hl hc hq W (range_below hr hB (Nat.le_refl _))
  have HK : Hid (∀ W, Below w.heap.size w W → Tab W 2) := fun W hB => hK.below hB hK.lt
  have HD : Hid (dd = _) := hd
  have HE : Hid (de = _) := he
  have Hd : Dl dd := by rw [hd]; exact dl_dig _
  have He : Dl de := by rw [he]; exact dl_dig _
  have hkm : k ≤ m := by omega
  clear hd he
  have n1 : ¬ (m : Int) = (n : Int) := by omega
  have c1 : ¬ (m : Int) ≤ (k : Int) := by omega
  clear hS hk hr hK hc
  have hb : Below w.heap.size w (((w.alloc (Obj.cells (vB was).toArray 28)).alloc (Obj.cells z32.toArray 28)).alloc (Obj.cells z32.toArray 28)) := (((Below.refl _ _).alloc (Nat.le_refl _) _).alloc (by simp) _).alloc (by simp; omega) _
  have r9 : Row (((w.alloc (Obj.cells (vB was).toArray 28)).alloc (Obj.cells z32.toArray 28)).alloc (Obj.cells z32.toArray 28)) w.heap.size (vB was) 28 := ((Row.new w (vB was) _).alloc _).alloc _
  have r10 : Row (((w.alloc (Obj.cells (vB was).toArray 28)).alloc (Obj.cells z32.toArray 28)).alloc (Obj.cells z32.toArray 28)) (w.heap.size + 1) z32 28 := (Row.new' (by simp) rfl).alloc _
  have r11 : Row (((w.alloc (Obj.cells (vB was).toArray 28)).alloc (Obj.cells z32.toArray 28)).alloc (Obj.cells z32.toArray 28)) (w.heap.size + 2) z32 28 := Row.new' (by simp) rfl
  go_enter Tryd.func39, Tryd.ntmps39
  go_wp2_with fail
  refine (HC.out _ hb).mono ?_
  rintro e V0 ⟨rfl, hB⟩
  replace hb := hb.trans (hB.mono hb.size)
  replace r9 := Row.below r9 hB (Row.lt r9)
  replace r10 := Row.below r10 hB (Row.lt r10)
  replace r11 := Row.below r11 hB (Row.lt r11)
  clear hB
  have oz : w.heap.size + 2 < V0.heap.size := Row.lt r11
  have o_r13 : w.heap.size < V0.heap.size := Row.lt r9
  have n0 : Row (V0.alloc (Obj.cells z32.toArray 28)) V0.heap.size z32 28 := Row.new' rfl rfl
  have T0 := Hl.there n0 rfl
  replace n0 := n0.over (vs := vB l) (Hl.over rfl)
  have hB : Below V0.heap.size V0 ((V0.alloc (Obj.cells z32.toArray 28)).setCells V0.heap.size 0 (vB l)) := below_setCells ((Below.refl _ _).alloc (Nat.le_refl _) (Obj.cells z32.toArray 28)) (b := V0.heap.size) (o := 0) (Nat.le_refl _) (vB l)
  replace hb := hb.trans (hB.mono hb.size)
  replace r9 := Row.below r9 hB (Row.lt r9)
  replace r10 := Row.below r10 hB (Row.lt r10)
  replace r11 := Row.below r11 hB (Row.lt r11)
  clear hB
  have r13 := n0
  clear n0
  go_wp2_with (first
    | (refine wpList_store_mid rfl 28 (.tmp 13) (.tmp 35) rfl V0.heap.size 0 (vB l).toArray rfl rfl T0 Hl.info' Hl.one ?_; simp only [Act.put]; clear T0; (change wpList _ _ _ _ _ ((V0.alloc (Obj.cells z32.toArray 28)).setCells V0.heap.size 0 (vB l))); (generalize ((V0.alloc (Obj.cells z32.toArray 28)).setCells V0.heap.size 0 (vB l)) = X1 at *); (generalize hN : V0.heap.size = N13 at *; clear hN))
    | (go_at_call 25; refine (HF.out _).mono ?_; rintro e X1 ⟨rfl, rfl⟩)
    | (refine wpList_load_w rfl 28 (.tmp 9) rfl (w.heap.size) 0 rfl (vB was) _ r9.all Tryd.underlying28 rfl Hw.info ?_; simp only [Act.put, List.setIfInBounds_toArray, List.set_cons_zero, List.set_cons_succ]))
  refine (HS.out X1 hb).mono ?_
  rintro e V2 ⟨rfl, hB⟩
  replace hb := hb.trans (hB.mono hb.size)
  replace r9 := Row.below r9 hB (Row.lt r9)
  replace r13 := Row.below r13 hB (Row.lt r13)
  replace r10 := Row.below r10 hB (Row.lt r10)
  replace r11 := Row.below r11 hB (Row.lt r11)
  clear hB
  have o_r17 : N13 < V2.heap.size := Row.lt r13
  have o_r18 : V2.heap.size < (V2.heap.size + 1) := Nat.lt_succ_self _
  have n0 : Row ((V2.alloc (Obj.cells z32.toArray 28)).alloc (Obj.cells z32.toArray 28)) V2.heap.size z32 28 := (Row.new' rfl rfl).alloc _
  have n1 : Row ((V2.alloc (Obj.cells z32.toArray 28)).alloc (Obj.cells z32.toArray 28)) (V2.heap.size + 1) z32 28 := Row.new' (by simp) rfl
  have T0 := H1.there n0 rfl
  replace n0 := n0.over (vs := vB s1) (H1.over rfl)
  replace n1 := Row.setCells_other n1 V2.heap.size 0 (vB s1) (by omega)
  have T1 := H2.there n1 rfl
  replace n1 := n1.over (vs := vB s2) (H2.over rfl)
  replace n0 := Row.setCells_other n0 (V2.heap.size + 1) 0 (vB s2) (by omega)
  have hB : Below V2.heap.size V2 ((((V2.alloc (Obj.cells z32.toArray 28)).alloc (Obj.cells z32.toArray 28)).setCells V2.heap.size 0 (vB s1)).setCells (V2.heap.size + 1) 0 (vB s2)) := below_setCells (below_setCells (((Below.refl _ _).alloc (Nat.le_refl _) (Obj.cells z32.toArray 28)).alloc (by simp) (Obj.cells z32.toArray 28)) (b := V2.heap.size) (o := 0) (Nat.le_refl _) (vB s1)) (b := (V2.heap.size + 1)) (o := 0) (by omega) (vB s2)
  replace hb := hb.trans (hB.mono hb.size)
  replace r9 := Row.below r9 hB (Row.lt r9)
  replace r13 := Row.below r13 hB (Row.lt r13)
  replace r10 := Row.below r10 hB (Row.lt r10)
  replace r11 := Row.below r11 hB (Row.lt r11)
  clear hB
  have r17 := n0
  have r18 := n1
  clear n0 n1
  go_wp2_with (first
    | (refine wpList_store_mid rfl 28 (.tmp 17) (.tmp 64) rfl V2.heap.size 0 (vB s1).toArray rfl rfl T0 H1.info' H1.one ?_; simp only [Act.put])
    | (refine wpList_store_mid rfl 28 (.tmp 18) (.tmp 65) rfl (V2.heap.size + 1) 0 (vB s2).toArray rfl rfl T1 H2.info' H2.one ?_; simp only [Act.put]; clear T0 T1; (change wpList _ _ _ _ _ ((((V2.alloc (Obj.cells z32.toArray 28)).alloc (Obj.cells z32.toArray 28)).setCells V2.heap.size 0 (vB s1)).setCells (V2.heap.size + 1) 0 (vB s2))); (generalize ((((V2.alloc (Obj.cells z32.toArray 28)).alloc (Obj.cells z32.toArray 28)).setCells V2.heap.size 0 (vB s1)).setCells (V2.heap.size + 1) 0 (vB s2)) = X3 at *); (generalize hN : V2.heap.size + 1 = N18 at *; clear hN); (generalize hN : V2.heap.size = N17 at *; clear hN)))
  clear r9
  refine wp_named fun a0 ha0 => ?_
  have hsz : a0.tmps.size = 72 := by rw [ha0]; rfl
  have s10 : a0.eval (.tmp 10) = .pointer (some ⟨w.heap.size + 1, 0, none⟩) := by rw [ha0]; rfl
  have s11 : a0.eval (.tmp 11) = .pointer (some ⟨w.heap.size + 2, 0, none⟩) := by rw [ha0]; rfl
  have s13 : a0.eval (.tmp 13) = .pointer (some ⟨N13, 0, none⟩) := by rw [ha0]; rfl
  have s17 : a0.eval (.tmp 17) = .pointer (some ⟨N17, 0, none⟩) := by rw [ha0]; rfl
  have s18 : a0.eval (.tmp 18) = .pointer (some ⟨N18, 0, none⟩) := by rw [ha0]; rfl
  obtain ⟨D, hD⟩ : ∃ D : List (Tmp × SP), D = [(66, SP.is (.agg (vB l).toArray)), (67, SP.is (.agg (vB s1).toArray)), (68, SP.is (.agg (vB dd).toArray)), (69, SP.is (.agg (vB l).toArray)), (70, SP.is (.agg (vB s2).toArray)), (71, SP.is (.agg (vB de).toArray)), (1000, SP.any), (1000, SP.any)] := ⟨_, rfl⟩
  refine wp_region_down (by kernel_rfl) (fun listed ac W => listed.size = 8 ∧ Fp D a0 listed ac W ∧ Below w.heap.size w W ∧ Row W N13 ((vB l)) 28 ∧ Row W N17 ((vB s1)) 28 ∧ Row W N18 ((vB s2)) 28 ∧ Row W (w.heap.size + 1) (if listed.getD 6 false = true then (vB dd) else z32) 28 ∧ Row W (w.heap.size + 2) (if listed.getD 7 false = true then (vB de) else z32) 28) ?_ ?_ ?_
  · exact ⟨by simp, Fp.start D a0 _ _, Below.drew hb, Row.drew r13, Row.drew r17, Row.drew r18, (by rw [if_neg (fun h => start_no h)]; exact Row.drew r10), (by rw [if_neg (fun h => start_no h)]; exact Row.drew r11)⟩
  · clear ha0 hb r13 r17 r18 r10 r11 
    intro listed ac W k hI hdn hk
    obtain ⟨hl, hF, hb, r13, r17, r18, r10, r11⟩ := hI
    have hk1 : k < 8 := List.mem_range.1 (List.mem_filter.1 hk).1
    have hl2 : ∀ j, (listed.setIfInBounds j true).size = 8 := fun j => by rw [Array.size_setIfInBounds]; exact hl
    rcases (show k = 0 ∨ k = 1 ∨ k = 2 ∨ k = 3 ∨ k = 4 ∨ k = 5 ∨ k = 6 ∨ k = 7 by omega) with rfl | rfl | rfl | rfl | rfl | rfl | rfl | rfl
    · have hk3 := hk
      exact wpOp_plain rfl rfl (wp_load_mid 28 (.tmp 13) rfl N13 0 ((hF.keep 13 (by rw [hD]; rfl)).trans s13) ((vB l)) _ r13.all Tryd.underlying28 rfl Hl.info ⟨hl2 0, (hF.put 0 66 (SP.is (.agg (vB l).toArray)) (.agg (vB l).toArray) (by rw [hD]; rfl) rfl (by rw [hD]; rfl) (by rw [hsz]; decide) (by rw [hl]; decide)), hb, r13, r17, r18, (by rw [getD_set _ _ _ (by decide)]; exact r10), (by rw [getD_set _ _ _ (by decide)]; exact r11)⟩)
    · have hk3 := hk
      exact wpOp_plain rfl rfl (wp_load_mid 28 (.tmp 17) rfl N17 0 ((hF.keep 17 (by rw [hD]; rfl)).trans s17) ((vB s1)) _ r17.all Tryd.underlying28 rfl H1.info ⟨hl2 1, (hF.put 1 67 (SP.is (.agg (vB s1).toArray)) (.agg (vB s1).toArray) (by rw [hD]; rfl) rfl (by rw [hD]; rfl) (by rw [hsz]; decide) (by rw [hl]; decide)), hb, r13, r17, r18, (by rw [getD_set _ _ _ (by decide)]; exact r10), (by rw [getD_set _ _ _ (by decide)]; exact r11)⟩)
    · have hk3 := hk
      have ea := (hF.done 0 (66, SP.is (.agg (vB l).toArray)) (by rw [hD]; rfl) (ready_dep hk 0 (by kernel_rfl)))
      have eb := (hF.done 1 (67, SP.is (.agg (vB s1).toArray)) (by rw [hD]; rfl) (ready_dep hk 1 (by kernel_rfl)))
      refine wpOp_plain rfl rfl (wp_fcall_v 19 #[.agg (vB l).toArray, .agg (vB s1).toArray] rfl rfl (by show [ac.eval (.tmp 66), ac.eval (.tmp 67)] = _; rw [show ac.eval (.tmp 66) = _ from ea, show ac.eval (.tmp 67) = _ from eb]) (by go_simp) ((node_any l s1 dd Hl H1 HD.out W (HK.out W hb)).mono ?_))
      rintro e W2 ⟨rfl, hB⟩
      exact ⟨_, rfl, hl2 2, ((hF.world hB).put 2 68 (SP.is (.agg (vB dd).toArray)) (.agg (vB dd).toArray) (by rw [hD]; rfl) rfl (by rw [hD]; rfl) (by rw [hsz]; decide) (by rw [hl]; decide)), hb.trans (hB.mono hb.size), Row.below r13 hB (Row.lt r13), Row.below r17 hB (Row.lt r17), Row.below r18 hB (Row.lt r18), (by rw [getD_set _ _ _ (by decide)]; exact Row.below r10 hB (Row.lt r10)), (by rw [getD_set _ _ _ (by decide)]; exact Row.below r11 hB (Row.lt r11))⟩
    · have hk3 := hk
      exact wpOp_plain rfl rfl (wp_load_mid 28 (.tmp 13) rfl N13 0 ((hF.keep 13 (by rw [hD]; rfl)).trans s13) ((vB l)) _ r13.all Tryd.underlying28 rfl Hl.info ⟨hl2 3, (hF.put 3 69 (SP.is (.agg (vB l).toArray)) (.agg (vB l).toArray) (by rw [hD]; rfl) rfl (by rw [hD]; rfl) (by rw [hsz]; decide) (by rw [hl]; decide)), hb, r13, r17, r18, (by rw [getD_set _ _ _ (by decide)]; exact r10), (by rw [getD_set _ _ _ (by decide)]; exact r11)⟩)
    · have hk3 := hk
      exact wpOp_plain rfl rfl (wp_load_mid 28 (.tmp 18) rfl N18 0 ((hF.keep 18 (by rw [hD]; rfl)).trans s18) ((vB s2)) _ r18.all Tryd.underlying28 rfl H2.info ⟨hl2 4, (hF.put 4 70 (SP.is (.agg (vB s2).toArray)) (.agg (vB s2).toArray) (by rw [hD]; rfl) rfl (by rw [hD]; rfl) (by rw [hsz]; decide) (by rw [hl]; decide)), hb, r13, r17, r18, (by rw [getD_set _ _ _ (by decide)]; exact r10), (by rw [getD_set _ _ _ (by decide)]; exact r11)⟩)
    · have hk3 := hk
      have ea := (hF.done 3 (69, SP.is (.agg (vB l).toArray)) (by rw [hD]; rfl) (ready_dep hk 3 (by kernel_rfl)))
      have eb := (hF.done 4 (70, SP.is (.agg (vB s2).toArray)) (by rw [hD]; rfl) (ready_dep hk 4 (by kernel_rfl)))
      refine wpOp_plain rfl rfl (wp_fcall_v 19 #[.agg (vB l).toArray, .agg (vB s2).toArray] rfl rfl (by show [ac.eval (.tmp 69), ac.eval (.tmp 70)] = _; rw [show ac.eval (.tmp 69) = _ from ea, show ac.eval (.tmp 70) = _ from eb]) (by go_simp) ((node_any l s2 de Hl H2 HE.out W (HK.out W hb)).mono ?_))
      rintro e W2 ⟨rfl, hB⟩
      exact ⟨_, rfl, hl2 5, ((hF.world hB).put 5 71 (SP.is (.agg (vB de).toArray)) (.agg (vB de).toArray) (by rw [hD]; rfl) rfl (by rw [hD]; rfl) (by rw [hsz]; decide) (by rw [hl]; decide)), hb.trans (hB.mono hb.size), Row.below r13 hB (Row.lt r13), Row.below r17 hB (Row.lt r17), Row.below r18 hB (Row.lt r18), (by rw [getD_set _ _ _ (by decide)]; exact Row.below r10 hB (Row.lt r10)), (by rw [getD_set _ _ _ (by decide)]; exact Row.below r11 hB (Row.lt r11))⟩
    · have hk3 := hk
      have hno : ¬ listed.getD 6 false = true := not_yet hk
      rw [if_neg hno] at r10
      have T := r10.there 0 (vB dd).toArray.size (by rw [List.size_toArray, Hd.len]; decide)
      have fin := r10.over (vs := (vB dd)) (Hd.over rfl)
      have hT : Fp D a0 listed ac (W.setCells (w.heap.size + 1) 0 (vB dd)) := hF.turn (by rw [hD]; simp only [List.forall_mem_cons, List.not_mem_nil, false_implies, implies_true, and_true]; exact ⟨fun _ h => h, fun _ h => h, fun _ h => h, fun _ h => h, fun _ h => h, fun _ h => h, fun _ h => h, fun _ h => h⟩)
      exact wpOp_plain rfl rfl (wp_store_mid 28 (.tmp 10) (.tmp 68) rfl (w.heap.size + 1) 0 (vB dd).toArray ((hF.keep 10 (by rw [hD]; rfl)).trans s10) (hF.done 2 (68, SP.is (.agg (vB dd).toArray)) (by rw [hD]; rfl) (ready_dep hk 2 (by kernel_rfl))) T Hd.info' Hd.one ⟨hl2 6, (hT.skip 6 1000 (by rw [hD]; rfl) (by rw [hl]; decide)), below_setCells hb (by omega) _, Row.setCells_other r13 _ _ _ (by omega), Row.setCells_other r17 _ _ _ (by omega), Row.setCells_other r18 _ _ _ (by omega), (by rw [if_pos (getD_same (by rw [hl]; decide))]; exact fin), (by rw [getD_set _ _ _ (by decide)]; exact Row.setCells_other r11 _ _ _ (by omega))⟩)
    · have hk3 := hk
      have hno : ¬ listed.getD 7 false = true := not_yet hk
      rw [if_neg hno] at r11
      have T := r11.there 0 (vB de).toArray.size (by rw [List.size_toArray, He.len]; decide)
      have fin := r11.over (vs := (vB de)) (He.over rfl)
      have hT : Fp D a0 listed ac (W.setCells (w.heap.size + 2) 0 (vB de)) := hF.turn (by rw [hD]; simp only [List.forall_mem_cons, List.not_mem_nil, false_implies, implies_true, and_true]; exact ⟨fun _ h => h, fun _ h => h, fun _ h => h, fun _ h => h, fun _ h => h, fun _ h => h, fun _ h => h, fun _ h => h⟩)
      exact wpOp_plain rfl rfl (wp_store_mid 28 (.tmp 11) (.tmp 71) rfl (w.heap.size + 2) 0 (vB de).toArray ((hF.keep 11 (by rw [hD]; rfl)).trans s11) (hF.done 5 (71, SP.is (.agg (vB de).toArray)) (by rw [hD]; rfl) (ready_dep hk 5 (by kernel_rfl))) T He.info' He.one ⟨hl2 7, (hT.skip 7 1000 (by rw [hD]; rfl) (by rw [hl]; decide)), below_setCells hb (by omega) _, Row.setCells_other r13 _ _ _ (by omega), Row.setCells_other r17 _ _ _ (by omega), Row.setCells_other r18 _ _ _ (by omega), (by rw [getD_set _ _ _ (by decide)]; exact Row.setCells_other r10 _ _ _ (by omega)), (by rw [if_pos (getD_same (by rw [hl]; decide))]; exact fin)⟩)
  · clear hb r13 r17 r18 r10 r11 
    intro listed ac W hI hr
    obtain ⟨hl, hF, hb, r13, r17, r18, r10, r11⟩ := hI
    have hall := all_listed (by kernel_rfl) hl hr
    rw [if_pos (hall 6 (by decide))] at r10
    rw [if_pos (hall 7 (by decide))] at r11
    have h66 : ac.eval (.tmp 66) = .agg (vB l).toArray := hF.done 0 (66, SP.is (.agg (vB l).toArray)) (by rw [hD]; rfl) (hall 0 (by decide))
    have h67 : ac.eval (.tmp 67) = .agg (vB s1).toArray := hF.done 1 (67, SP.is (.agg (vB s1).toArray)) (by rw [hD]; rfl) (hall 1 (by decide))
    have h68 : ac.eval (.tmp 68) = .agg (vB dd).toArray := hF.done 2 (68, SP.is (.agg (vB dd).toArray)) (by rw [hD]; rfl) (hall 2 (by decide))
    have h69 : ac.eval (.tmp 69) = .agg (vB l).toArray := hF.done 3 (69, SP.is (.agg (vB l).toArray)) (by rw [hD]; rfl) (hall 3 (by decide))
    have h70 : ac.eval (.tmp 70) = .agg (vB s2).toArray := hF.done 4 (70, SP.is (.agg (vB s2).toArray)) (by rw [hD]; rfl) (hall 4 (by decide))
    have h71 : ac.eval (.tmp 71) = .agg (vB de).toArray := hF.done 5 (71, SP.is (.agg (vB de).toArray)) (by rw [hD]; rfl) (hall 5 (by decide))
    have ea := hF.lay [(66, .agg (vB l).toArray), (67, .agg (vB s1).toArray), (68, .agg (vB dd).toArray), (69, .agg (vB l).toArray), (70, .agg (vB s2).toArray), (71, .agg (vB de).toArray)] (by rw [hD, hsz]; rfl) (by simp only [List.forall_mem_cons, List.not_mem_nil, false_implies, implies_true, and_true]; exact ⟨h66, h67, h68, h69, h70, h71⟩)
    rw [ha0] at ea
    simp only [List.foldl_cons, List.foldl_nil, List.setIfInBounds_toArray, List.set_cons_zero, List.set_cons_succ] at ea
    clear hF hall hr hl hD  s10 s11 s13 s17 s18 ha0 hsz h66 h67 h68 h69 h70 h71
    subst ea
    go_wp2_with fail
    exact bodyPost_ret (results_rows2 Tryd.results39 _ _ (w.heap.size + 1) (w.heap.size + 2) 28 (vB dd) (vB de) rfl rfl r10 r11 Tryd.underlying28 info_dig Hd.len He.len) rfl ⟨rfl, hb⟩

theorem pat_range0 {w : World} {A : Option Addr} {cap : Nat} {ds : List (List (BitVec 8))} (h : PAt w (.slice A ds.length cap) ds) (ht : 0 < ds.length) : ∃ b o, A = some ⟨b, o, none⟩ ∧ w.rangeAt b o (vB (ds.getD 0 [])) := by
  obtain ⟨h1, A', cap', e, hc, h2⟩ := h
  simp only [Value.slice.injEq] at e
  obtain ⟨rfl, _, rfl⟩ := e
  rcases h2 with h2 | ⟨b, o, rfl, hr⟩
  · rw [h2] at ht; simp at ht
  · refine ⟨b, o, rfl, ?_⟩
    cases ds with
    | nil => simp at ht
    | cons d r => rw [List.flatMap_cons] at hr; exact ran_left hr
/-- rootsBy of a growth of the right length. -/
theorem rsb_len (n : Nat) : ∀ (m : Nat) (k : Bool) (was : List (BitVec 8)) (ds : List (List (BitVec 8))), Dl was → (∀ d ∈ ds, d.length = 32) → 1 ≤ m → m ≤ n → n < 4611686018427387904 → ds.length = gs m n k → Dl (rsb m n k was ds).1 ∧ Dl (rsb m n k was ds).2 := by
  induction n using Nat.strongRecOn with
  | ind n ih =>
    intro m k was ds Hw h32 h1 hm hn hlen
    by_cases e : m = n
    · subst e
      rw [rsb_same]
      rw [gs_same] at hlen
      cases k
      · have h0 : 0 < ds.length := by rw [hlen]; decide
        have : Dl (ds.getD 0 []) := by rw [List.getD_eq_getElem?_getD, List.getElem?_eq_getElem h0]; exact h32 _ (List.getElem_mem _)
        exact ⟨this, this⟩
      · exact ⟨Hw, Hw⟩
    · have hb := fpart_bounds n (by omega) hn
      have hp := fpart_pos n
      rcases List.eq_nil_or_concat ds with e0 | ⟨rs, l, e0⟩
      · exfalso
        rw [e0] at hlen
        by_cases hk : m ≤ fpart n
        · rw [gs_left m n k (by omega) h1 hn hk] at hlen; simp at hlen
        · rw [gs_right m n k (by omega) h1 hn hk] at hlen; simp at hlen
      · rw [List.concat_eq_append] at e0
        subst e0
        rw [List.length_append, List.length_singleton] at hlen
        by_cases hk : m ≤ fpart n
        · rw [gs_left m n k (by omega) h1 hn hk] at hlen
          rw [rsb_left m n k was l rs (by omega) h1 hn hk]
          exact ⟨(ih (fpart n) hb.1 m k was rs Hw (fun d hd => h32 d (by simp [hd])) h1 hk (by omega) (by omega)).1, dl_dig _⟩
        · rw [rsb_right m n k was l rs (by omega) h1 hn hk]
          exact ⟨dl_dig _, dl_dig _⟩
theorem rootsBy_any (n : Nat) : ∀ (m : Nat) (k : Bool) (was : List (BitVec 8)) (ds : List (List (BitVec 8))), Dl was → 1 ≤ m → m ≤ n → n < 4611686018427387904 → ds.length = gs m n k → ∀ (v : Value) (w : World), Tab w 2 → PAt w v ds →
    Calls Tryd.prog 39 #[v, .int .i64 (m : Int), .int .i64 (n : Int), .bool k, .agg (vB was).toArray] w fun e w' => e = .returned (.tuple #[.agg (vB (rsb m n k was ds).1).toArray, .agg (vB (rsb m n k was ds).2).toArray]) ∧ Below w.heap.size w w' := by
  induction n using Nat.strongRecOn with
  | ind n ih =>
    intro m k was ds Hw h1 hm hn hlen v w hK hp
    by_cases e : m = n
    · subst e
      rw [rsb_same]
      rw [gs_same] at hlen
      cases k
      · have h0 : 0 < ds.length := by rw [hlen]; decide
        obtain ⟨h32, A, cap, rfl, hcap, h4⟩ := hp
        obtain ⟨b, o, e, hr⟩ := pat_range0 (A := A) (cap := cap) ⟨h32, A, cap, rfl, hcap, h4⟩ h0
        subst e
        exact rootsBy_told m ds.length cap b o was _ (by rw [List.getD_eq_getElem?_getD, List.getElem?_eq_getElem h0]; exact h32 _ (List.getElem_mem _)) h0 w hr
      · exact rootsBy_known m was Hw v w
    · have hb := fpart_bounds n (by omega) hn
      have hp0 := fpart_pos n
      obtain ⟨h32, A, cap, rfl, hcap, h4⟩ := hp
      rcases List.eq_nil_or_concat ds with e0 | ⟨rs, l, e0⟩
      · exfalso
        rw [e0] at hlen
        by_cases hk : m ≤ fpart n
        · rw [gs_left m n k (by omega) h1 hn hk] at hlen; simp at hlen
        · rw [gs_right m n k (by omega) h1 hn hk] at hlen; simp at hlen
      · rw [List.concat_eq_append] at e0
        subst e0
        rcases h4 with h4 | ⟨b, o, rfl, h4⟩
        · simp at h4
        have hl32 : Dl l := h32 l (by simp)
        have hrs : ∀ d ∈ rs, d.length = 32 := fun d hd => h32 d (by simp [hd])
        rw [List.flatMap_append] at h4
        have hlast : w.rangeAt b (o + rs.length * 32) (vB l) := by
          have := ran_right h4 (flat_length rs hrs)
          simpa using this
        have hrest : w.rangeAt b o (rs.flatMap vB) := ran_left h4
        rw [List.length_append, List.length_singleton] at hcap hlen ⊢
        have hsub : ∀ W, Below w.heap.size w W → PAt W (.slice (some ⟨b, o, none⟩) rs.length rs.length) rs := fun W hB => ⟨hrs, _, _, rfl, Nat.le_refl _, .inr ⟨b, o, rfl, range_below hrest hB (Nat.le_refl _)⟩⟩
        have hg := gs_le n m k h1 hm hn
        by_cases hk : m ≤ fpart n
        · rw [gs_left m n k (by omega) h1 hn hk] at hlen
          have hd := rsb_len (fpart n) m k was rs Hw hrs h1 hk (by omega) (by omega)
          rw [rsb_left m n k was l rs (by omega) h1 hn hk]
          exact rootsBy_left m n (fpart n) rs.length cap b o k h1 (by omega) hn rfl hk was l _ _ _ Hw hl32 hd.1 hd.2 rfl hcap (by rw [gs_left m n k (by omega) h1 hn hk] at hg; omega) w hK hlast
            (fun W hB => ih (fpart n) hb.1 m k was rs Hw h1 hk (by omega) (by omega) _ W (hK.below hB hK.lt) (hsub W hB))
        · rw [gs_right m n k (by omega) h1 hn hk] at hlen
          have hd := rsb_len (n - fpart n) (m - fpart n) false was rs Hw hrs (by omega) (by omega) (by omega) (by omega)
          rw [rsb_right m n k was l rs (by omega) h1 hn hk]
          refine rootsBy_right m n (fpart n) rs.length cap b o k h1 (by omega) hn rfl hk was l _ _ _ _ Hw hl32 hd.1 hd.2 rfl rfl hcap (by rw [gs_right m n k (by omega) h1 hn hk] at hg; omega) w hK hlast ?_
          intro W hB
          have h := ih (n - fpart n) (by omega) (m - fpart n) false was rs Hw (by omega) (by omega) (by omega) (by omega) (.slice (some ⟨b, o, none⟩) rs.length rs.length) W (hK.below hB hK.lt) (hsub W hB)
          rw [show ((m - fpart n : Nat) : Int) = (m : Int) - (fpart n : Int) by omega, show ((n - fpart n : Nat) : Int) = (n : Int) - (fpart n : Int) by omega] at h
          exact h

end Go.Proofs.YtlknanjbiicghaaDoor
