/-
  A growth, as a list; the program's growthOf.
-/
import Derived.Test.YtlknanjbiicghaaDoorTPathU
namespace Go.Proofs.YtlknanjbiicghaaDoor
open Go Go.RowKit
open Sha

/-- The growth from the first m leaves, bottom first. -/
def gr (m : Nat) (ps : List (List (BitVec 8))) (k : Bool) : List (List (BitVec 8)) :=
  if _h : 1 ≤ m ∧ m < ps.length ∧ ps.length < 4611686018427387904 then
    if m ≤ fpart ps.length then gr m (ps.take (fpart ps.length)) k ++ [rt (ps.drop (fpart ps.length))]
    else gr (m - fpart ps.length) (ps.drop (fpart ps.length)) false ++ [rt (ps.take (fpart ps.length))]
  else if k then [] else [rt ps]
termination_by ps.length
decreasing_by
  · have := (fpart_bounds ps.length (by omega) (by omega)).1
    rw [List.length_take]; omega
  · have := fpart_pos ps.length
    rw [List.length_drop]; omega
theorem gr_same (m : Nat) (ps : List (List (BitVec 8))) (k : Bool) (h : ps.length = m) : gr m ps k = if k then [] else [rt ps] := by
  rw [gr, dif_neg (by omega)]
theorem gr_left (m n : Nat) (k : Bool) (ps : List (List (BitVec 8))) (hn : ps.length = n) (h1 : 1 ≤ m) (hm : m < n) (hl : n < 4611686018427387904) (h : m ≤ fpart n) : gr m ps k = gr m (ps.take (fpart n)) k ++ [rt (ps.drop (fpart n))] := by
  subst hn
  rw [gr, dif_pos ⟨h1, hm, hl⟩, if_pos h]
theorem gr_right (m n : Nat) (k : Bool) (ps : List (List (BitVec 8))) (hn : ps.length = n) (h1 : 1 ≤ m) (hm : m < n) (hl : n < 4611686018427387904) (h : ¬ m ≤ fpart n) : gr m ps k = gr (m - fpart n) (ps.drop (fpart n)) false ++ [rt (ps.take (fpart n))] := by
  subst hn
  rw [gr, dif_pos ⟨h1, hm, hl⟩, if_neg h]
theorem gr_fact (n : Nat) : ∀ (m : Nat) (k : Bool) (ps : List (List (BitVec 8))), ps.length = n → 1 ≤ m → m ≤ n → n < 4611686018427387904 → (∀ d ∈ gr m ps k, d.length = 32) ∧ (gr m ps k).length ≤ n := by
  induction n using Nat.strongRecOn with
  | ind n ih =>
    intro m k ps hn h1 hm hl
    by_cases e : m = n
    · rw [gr_same m ps k (by omega)]
      cases k
      · refine ⟨fun d hd => ?_, ?_⟩
        · obtain rfl := List.mem_singleton.1 hd
          exact rt_length _
        · show 1 ≤ n
          omega
      · exact ⟨fun d hd => (nomatch hd), Nat.zero_le _⟩
    · have hb := fpart_bounds n (by omega) hl
      have hp := fpart_pos n
      by_cases hk : m ≤ fpart n
      · obtain ⟨q1, q2⟩ := ih (fpart n) hb.1 m k (ps.take (fpart n)) (by rw [List.length_take]; omega) h1 hk (by omega)
        rw [gr_left m n k ps hn h1 (by omega) hl hk]
        refine ⟨fun d hd => ?_, ?_⟩
        · rcases List.mem_append.1 hd with hd | hd
          · exact q1 d hd
          · rw [List.mem_singleton.1 hd]; exact rt_length _
        · rw [List.length_append, List.length_singleton]; omega
      · obtain ⟨q1, q2⟩ := ih (n - fpart n) (by omega) (m - fpart n) false (ps.drop (fpart n)) (by rw [List.length_drop]; omega) (by omega) (by omega) (by omega)
        rw [gr_right m n k ps hn h1 (by omega) hl hk]
        refine ⟨fun d hd => ?_, ?_⟩
        · rcases List.mem_append.1 hd with hd | hd
          · exact q1 d hd
          · rw [List.mem_singleton.1 hd]; exact rt_length _
        · rw [List.length_append, List.length_singleton]; omega

set_option maxRecDepth 100000 in
set_option maxHeartbeats 1000000 in
theorem growthOf_known (A : Option Addr) (n cap : Nat) (w : World) :
    Calls Tryd.prog 26 #[.slice A n cap, .int .i64 (n : Int), .bool true] w fun e w' => ∃ v, e = .returned v ∧ w'.ownsRow w.heap.size 28 32 v 0 [] ∧ Below w.heap.size w w' := by
  go_enter Tryd.func26, Tryd.ntmps26
  go_wp2_with fail
  go_ret
  exact ⟨.slice none 0 0, rfl, ⟨rfl, .inl ⟨rfl, rfl⟩⟩, Below.refl _ _⟩
theorem one_owns {w : World} {r : List (BitVec 8)} (hr : Dl r) {N : Nat} (hN : N ≤ w.heap.size) : (w.alloc (Obj.cells (vB r).toArray 28)).ownsRow N 28 32 (.slice (some ⟨w.heap.size, 0, none⟩) 1 1) 1 (vB r) :=
  ⟨hr.len, .inr ⟨w.heap.size, 1, (vB r).toArray, rfl, hN, by have : Row (w.alloc (Obj.cells (vB r).toArray 28)) w.heap.size (vB r) 28 := Row.new' rfl rfl; exact this, Nat.le_refl _, by unfold maxLen; decide, by rw [List.size_toArray, hr.len], by rw [List.take_of_length_le (by rw [hr.len]; decide)]⟩⟩
set_option maxRecDepth 100000 in
set_option maxHeartbeats 1000000 in
theorem growthOf_new (A : Option Addr) (n cap : Nat) (r : List (BitVec 8)) (hr : Dl r) (w : World)
    (hR : Calls Tryd.prog 13 #[.slice A n cap] w fun e w' => e = .returned (.agg (vB r).toArray) ∧ Below w.heap.size w w') :
    Calls Tryd.prog 26 #[.slice A n cap, .int .i64 (n : Int), .bool false] w fun e w' => ∃ v, e = .returned v ∧ w'.ownsRow w.heap.size 28 32 v 1 (vB r) ∧ Below w.heap.size w w' := by
  have HR : Hid (Calls _ _ _ _ _) := hR
  clear hR
  go_enter Tryd.func26, Tryd.ntmps26
  go_wp2_with fail
  refine HR.out.mono ?_
  rintro e V ⟨rfl, hB⟩
  go_wp2_with (refine wpList_build_dd rfl (.tmp 14) rfl r hr rfl ?_; simp only [Act.put, List.setIfInBounds_toArray, List.set_cons_zero, List.set_cons_succ])
  go_ret
  exact ⟨_, rfl, one_owns hr hB.size, hB.alloc hB.size _⟩

set_option maxRecDepth 100000 in
set_option maxHeartbeats 4000000 in
theorem growthOf_left (n i k p cap b o : Nat) (kn : Bool) (h2 : 2 ≤ n) (hn : n < 4611686018427387904) (hin : i < n) (hk : fpart n = k) (hik : i ≤ k) (l : List Value) (r : List (BitVec 8)) (hr0 : r.length = 32) (hp : (p + 1) * 32 ≤ 140737488355328) (hc : n ≤ cap) (w : World)
    (hS : ∀ W, Below w.heap.size w W → Calls Tryd.prog 26 #[.slice (some ⟨b, o, none⟩) k cap, .int .i64 (i : Int), .bool kn] W fun e w' => ∃ v, e = .returned v ∧ w'.ownsRow W.heap.size 28 32 v p l ∧ Below W.heap.size W w')
    (hR : ∀ W, Below w.heap.size w W → Calls Tryd.prog 13 #[.slice (some ⟨b, o + k, none⟩) (n - k) (cap - k)] W fun e w' => e = .returned (.agg (vB r).toArray) ∧ Below W.heap.size W w') :
    Calls Tryd.prog 26 #[.slice (some ⟨b, o, none⟩) n cap, .int .i64 (i : Int), .bool kn] w fun e w' => ∃ v, e = .returned v ∧ w'.ownsRow w.heap.size 28 32 v (p + 1) (l ++ vB r) ∧ Below w.heap.size w w' := by
  have HR0 : Hid (r.length = 32) := hr0
  have HS : Hid (∀ W, _ → _) := hS
  have HR : Hid (∀ W, _ → _) := hR
  have HP : Hid ((p + 1) * 32 ≤ 140737488355328) := hp
  have HF : Hid (∀ w, _) := fun w => first_any n h2 hn w
  rw [hk] at HF
  have HKN : Hid (k < n) := by show _ < _; rw [← hk]; exact (fpart_bounds n h2 hn).1
  have n1 : ¬ (i : Int) = (n : Int) := by omega
  have c1 : (i : Int) ≤ (k : Int) := by omega
  have HN : Hid (n < 4611686018427387904) := hn
  have HIK : Hid (i ≤ k) := hik
  have HIN : Hid (i < n) := hin
  have HC : Hid (n ≤ cap) := hc
  clear hr0 hS hR hk h2 hn hc hik hin hp
  have hb1 : Below w.heap.size w w := Below.refl _ _
  go_enter Tryd.func26, Tryd.ntmps26
  go_wp2_with (go_at_call 25; refine (HF.out _).mono ?_; rintro e w ⟨rfl, rfl⟩)
  refine wp_named fun a0 ha0 => ?_
  have hsz : a0.tmps.size = 47 := by rw [ha0]; rfl
  have zs0 : a0.eval (.tmp 0) = .slice (some ⟨b, o, none⟩) n cap := by rw [ha0]; rfl
  have zs1 : a0.eval (.tmp 1) = .int .i64 (i : Int) := by rw [ha0]; rfl
  have zs2 : a0.eval (.tmp 2) = .bool kn := by rw [ha0]; rfl
  have zs7 : a0.eval (.tmp 7) = .int .i64 (k : Int) := by rw [ha0]; rfl
  obtain ⟨D, hD⟩ : ∃ D : List (Tmp × SP), D = [(22, SP.is (.slice (some ⟨b, o, none⟩) n cap)), (23, SP.is (.int .i64 (k : Int))), (24, SP.is (.slice (some ⟨b, o, none⟩) k cap)), (25, SP.is (.int .i64 (i : Int))), (26, SP.is (.bool kn)), (27, SP.any), (28, SP.is (.slice (some ⟨b, o, none⟩) n cap)), (29, SP.is (.int .i64 (k : Int))), (30, SP.is (.slice (some ⟨b, o + k, none⟩) (n - k) (cap - k))), (31, SP.is (.agg (vB r).toArray)), (32, SP.any), (33, SP.own w.heap.size (p + 1) (l ++ vB r)), (6, SP.own w.heap.size (p + 1) (l ++ vB r))] := ⟨_, rfl⟩
  refine wp_region_down (by kernel_rfl) (fun listed ac W => listed.size = 13 ∧ Fp D a0 listed ac W ∧ Below w.heap.size w W ∧ (listed.getD 5 false = true → ¬ listed.getD 11 false = true → (SP.own w.heap.size p l).P W (ac.eval (.tmp 27))) ∧ (listed.getD 10 false = true → ¬ listed.getD 11 false = true → (SP.new 1 1 (vB r) 28).P W (ac.eval (.tmp 32)))) ?_ ?_ ?_
  · exact ⟨by simp, Fp.start D a0 _ _, Below.drew hb1, (fun h _ => (start_no h).elim), (fun h _ => (start_no h).elim)⟩
  · clear ha0 hb1  
    intro listed ac W k hI hdn hk
    obtain ⟨hl, hF, hb1, ti5, ti10⟩ := hI
    have hk1 : k < 13 := List.mem_range.1 (List.mem_filter.1 hk).1
    have hl2 : ∀ j, (listed.setIfInBounds j true).size = 13 := fun j => by rw [Array.size_setIfInBounds]; exact hl
    rcases (show k = 0 ∨ k = 1 ∨ k = 2 ∨ k = 3 ∨ k = 4 ∨ k = 5 ∨ k = 6 ∨ k = 7 ∨ k = 8 ∨ k = 9 ∨ k = 10 ∨ k = 11 ∨ k = 12 by omega) with rfl | rfl | rfl | rfl | rfl | rfl | rfl | rfl | rfl | rfl | rfl | rfl | rfl
    · have hk3 := hk
      exact wpOp_plain rfl rfl (wp_move_v (ac.eval (.tmp 0)) rfl rfl ⟨hl2 0, (hF.put 0 22 (SP.is (.slice (some ⟨b, o, none⟩) n cap)) (ac.eval (.tmp 0)) (by rw [hD]; rfl) (((hF.keep 0 (by rw [hD]; rfl)).trans zs0)) (by rw [hD]; rfl) (by rw [hsz]; decide) (by rw [hl]; decide)), hb1, (fun h1 h2 => by change (SP.own w.heap.size p l).P _ ((ac.put (some 22) _).eval (.tmp 27)); rw [eval_put_other ac _ (by decide)]; exact ti5 (by rwa [getD_set _ _ _ (by decide)] at h1) (by rwa [getD_set _ _ _ (by decide)] at h2)), (fun h1 h2 => by change (SP.new 1 1 (vB r) 28).P _ ((ac.put (some 22) _).eval (.tmp 32)); rw [eval_put_other ac _ (by decide)]; exact ti10 (by rwa [getD_set _ _ _ (by decide)] at h1) (by rwa [getD_set _ _ _ (by decide)] at h2))⟩)
    · have hk3 := hk
      exact wpOp_plain rfl rfl (wp_move_v (ac.eval (.tmp 7)) rfl rfl ⟨hl2 1, (hF.put 1 23 (SP.is (.int .i64 (k : Int))) (ac.eval (.tmp 7)) (by rw [hD]; rfl) (((hF.keep 7 (by rw [hD]; rfl)).trans zs7)) (by rw [hD]; rfl) (by rw [hsz]; decide) (by rw [hl]; decide)), hb1, (fun h1 h2 => by change (SP.own w.heap.size p l).P _ ((ac.put (some 23) _).eval (.tmp 27)); rw [eval_put_other ac _ (by decide)]; exact ti5 (by rwa [getD_set _ _ _ (by decide)] at h1) (by rwa [getD_set _ _ _ (by decide)] at h2)), (fun h1 h2 => by change (SP.new 1 1 (vB r) 28).P _ ((ac.put (some 23) _).eval (.tmp 32)); rw [eval_put_other ac _ (by decide)]; exact ti10 (by rwa [getD_set _ _ _ (by decide)] at h1) (by rwa [getD_set _ _ _ (by decide)] at h2))⟩)
    · have hk3 := hk
      have ea := (hF.done 0 (22, SP.is (.slice (some ⟨b, o, none⟩) n cap)) (by rw [hD]; rfl) (ready_dep hk 0 (by kernel_rfl)))
      have eb := (hF.done 1 (23, SP.is (.int .i64 (k : Int))) (by rw [hD]; rfl) (ready_dep hk 1 (by kernel_rfl)))
      exact wpOp_plain rfl rfl (wp_slice_to 22 38 (.tmp 22) (.tmp 23) b o n cap k rfl ea eb (Nat.le_trans (Nat.le_of_lt HKN.out) HC.out) Tryd.underlying22 info_slb ⟨hl2 2, (hF.put 2 24 (SP.is (.slice (some ⟨b, o, none⟩) k cap)) (.slice (some ⟨b, o, none⟩) k cap) (by rw [hD]; rfl) rfl (by rw [hD]; rfl) (by rw [hsz]; decide) (by rw [hl]; decide)), hb1, (fun h1 h2 => by change (SP.own w.heap.size p l).P _ ((ac.put (some 24) _).eval (.tmp 27)); rw [eval_put_other ac _ (by decide)]; exact ti5 (by rwa [getD_set _ _ _ (by decide)] at h1) (by rwa [getD_set _ _ _ (by decide)] at h2)), (fun h1 h2 => by change (SP.new 1 1 (vB r) 28).P _ ((ac.put (some 24) _).eval (.tmp 32)); rw [eval_put_other ac _ (by decide)]; exact ti10 (by rwa [getD_set _ _ _ (by decide)] at h1) (by rwa [getD_set _ _ _ (by decide)] at h2))⟩)
    · have hk3 := hk
      exact wpOp_plain rfl rfl (wp_move_v (ac.eval (.tmp 1)) rfl rfl ⟨hl2 3, (hF.put 3 25 (SP.is (.int .i64 (i : Int))) (ac.eval (.tmp 1)) (by rw [hD]; rfl) (((hF.keep 1 (by rw [hD]; rfl)).trans zs1)) (by rw [hD]; rfl) (by rw [hsz]; decide) (by rw [hl]; decide)), hb1, (fun h1 h2 => by change (SP.own w.heap.size p l).P _ ((ac.put (some 25) _).eval (.tmp 27)); rw [eval_put_other ac _ (by decide)]; exact ti5 (by rwa [getD_set _ _ _ (by decide)] at h1) (by rwa [getD_set _ _ _ (by decide)] at h2)), (fun h1 h2 => by change (SP.new 1 1 (vB r) 28).P _ ((ac.put (some 25) _).eval (.tmp 32)); rw [eval_put_other ac _ (by decide)]; exact ti10 (by rwa [getD_set _ _ _ (by decide)] at h1) (by rwa [getD_set _ _ _ (by decide)] at h2))⟩)
    · have hk3 := hk
      exact wpOp_plain rfl rfl (wp_move_v (ac.eval (.tmp 2)) rfl rfl ⟨hl2 4, (hF.put 4 26 (SP.is (.bool kn)) (ac.eval (.tmp 2)) (by rw [hD]; rfl) (((hF.keep 2 (by rw [hD]; rfl)).trans zs2)) (by rw [hD]; rfl) (by rw [hsz]; decide) (by rw [hl]; decide)), hb1, (fun h1 h2 => by change (SP.own w.heap.size p l).P _ ((ac.put (some 26) _).eval (.tmp 27)); rw [eval_put_other ac _ (by decide)]; exact ti5 (by rwa [getD_set _ _ _ (by decide)] at h1) (by rwa [getD_set _ _ _ (by decide)] at h2)), (fun h1 h2 => by change (SP.new 1 1 (vB r) 28).P _ ((ac.put (some 26) _).eval (.tmp 32)); rw [eval_put_other ac _ (by decide)]; exact ti10 (by rwa [getD_set _ _ _ (by decide)] at h1) (by rwa [getD_set _ _ _ (by decide)] at h2))⟩)
    · have hk3 := hk
      have ea := (hF.done 2 (24, SP.is (.slice (some ⟨b, o, none⟩) k cap)) (by rw [hD]; rfl) (ready_dep hk 2 (by kernel_rfl)))
      have eb := (hF.done 3 (25, SP.is (.int .i64 (i : Int))) (by rw [hD]; rfl) (ready_dep hk 3 (by kernel_rfl)))
      have ec := (hF.done 4 (26, SP.is (.bool kn)) (by rw [hD]; rfl) (ready_dep hk 4 (by kernel_rfl)))
      refine wpOp_plain rfl rfl (wp_fcall_v 26 #[.slice (some ⟨b, o, none⟩) k cap, .int .i64 (i : Int), .bool kn] rfl rfl (by show [ac.eval (.tmp 24), ac.eval (.tmp 25), ac.eval (.tmp 26)] = _; rw [show ac.eval (.tmp 24) = _ from ea, show ac.eval (.tmp 25) = _ from eb, show ac.eval (.tmp 26) = _ from ec]) (by go_simp) ((HS.out W hb1).mono ?_))
      rintro e W2 ⟨v2, rfl, hO, hB⟩
      exact ⟨_, rfl, hl2 5, ((hF.world hB).put 5 27 (SP.any) v2 (by rw [hD]; rfl) trivial (by rw [hD]; rfl) (by rw [hsz]; decide) (by rw [hl]; decide)), hb1.trans (hB.mono hb1.size), (fun _ _ => by change (SP.own w.heap.size p l).P _ ((ac.put (some 27) _).eval (.tmp 27)); rw [eval_put_same ac _ (by rw [hF.size, hsz]; decide)]; exact own_less hO hb1.size), (fun h1 h2 => by change (SP.new 1 1 (vB r) 28).P _ ((ac.put (some 27) _).eval (.tmp 32)); rw [eval_put_other ac _ (by decide)]; exact (SP.new 1 1 (vB r) 28).st _ _ _ hB (ti10 (by rwa [getD_set _ _ _ (by decide)] at h1) (by rwa [getD_set _ _ _ (by decide)] at h2)))⟩
    · have hk3 := hk
      exact wpOp_plain rfl rfl (wp_move_v (ac.eval (.tmp 0)) rfl rfl ⟨hl2 6, (hF.put 6 28 (SP.is (.slice (some ⟨b, o, none⟩) n cap)) (ac.eval (.tmp 0)) (by rw [hD]; rfl) (((hF.keep 0 (by rw [hD]; rfl)).trans zs0)) (by rw [hD]; rfl) (by rw [hsz]; decide) (by rw [hl]; decide)), hb1, (fun h1 h2 => by change (SP.own w.heap.size p l).P _ ((ac.put (some 28) _).eval (.tmp 27)); rw [eval_put_other ac _ (by decide)]; exact ti5 (by rwa [getD_set _ _ _ (by decide)] at h1) (by rwa [getD_set _ _ _ (by decide)] at h2)), (fun h1 h2 => by change (SP.new 1 1 (vB r) 28).P _ ((ac.put (some 28) _).eval (.tmp 32)); rw [eval_put_other ac _ (by decide)]; exact ti10 (by rwa [getD_set _ _ _ (by decide)] at h1) (by rwa [getD_set _ _ _ (by decide)] at h2))⟩)
    · have hk3 := hk
      exact wpOp_plain rfl rfl (wp_move_v (ac.eval (.tmp 7)) rfl rfl ⟨hl2 7, (hF.put 7 29 (SP.is (.int .i64 (k : Int))) (ac.eval (.tmp 7)) (by rw [hD]; rfl) (((hF.keep 7 (by rw [hD]; rfl)).trans zs7)) (by rw [hD]; rfl) (by rw [hsz]; decide) (by rw [hl]; decide)), hb1, (fun h1 h2 => by change (SP.own w.heap.size p l).P _ ((ac.put (some 29) _).eval (.tmp 27)); rw [eval_put_other ac _ (by decide)]; exact ti5 (by rwa [getD_set _ _ _ (by decide)] at h1) (by rwa [getD_set _ _ _ (by decide)] at h2)), (fun h1 h2 => by change (SP.new 1 1 (vB r) 28).P _ ((ac.put (some 29) _).eval (.tmp 32)); rw [eval_put_other ac _ (by decide)]; exact ti10 (by rwa [getD_set _ _ _ (by decide)] at h1) (by rwa [getD_set _ _ _ (by decide)] at h2))⟩)
    · have hk3 := hk
      have ea := (hF.done 6 (28, SP.is (.slice (some ⟨b, o, none⟩) n cap)) (by rw [hD]; rfl) (ready_dep hk 6 (by kernel_rfl)))
      have eb := (hF.done 7 (29, SP.is (.int .i64 (k : Int))) (by rw [hD]; rfl) (ready_dep hk 7 (by kernel_rfl)))
      exact wpOp_plain rfl rfl (wp_slice_on 22 38 (.tmp 28) (.tmp 29) b o n cap k rfl ea eb (Nat.le_of_lt HKN.out) (Nat.lt_of_lt_of_le HKN.out HC.out) Tryd.underlying22 info_slb ⟨hl2 8, (hF.put 8 30 (SP.is (.slice (some ⟨b, o + k, none⟩) (n - k) (cap - k))) (.slice (some ⟨b, o + k, none⟩) (n - k) (cap - k)) (by rw [hD]; rfl) rfl (by rw [hD]; rfl) (by rw [hsz]; decide) (by rw [hl]; decide)), hb1, (fun h1 h2 => by change (SP.own w.heap.size p l).P _ ((ac.put (some 30) _).eval (.tmp 27)); rw [eval_put_other ac _ (by decide)]; exact ti5 (by rwa [getD_set _ _ _ (by decide)] at h1) (by rwa [getD_set _ _ _ (by decide)] at h2)), (fun h1 h2 => by change (SP.new 1 1 (vB r) 28).P _ ((ac.put (some 30) _).eval (.tmp 32)); rw [eval_put_other ac _ (by decide)]; exact ti10 (by rwa [getD_set _ _ _ (by decide)] at h1) (by rwa [getD_set _ _ _ (by decide)] at h2))⟩)
    · have hk3 := hk
      have ea := (hF.done 8 (30, SP.is (.slice (some ⟨b, o + k, none⟩) (n - k) (cap - k))) (by rw [hD]; rfl) (ready_dep hk 8 (by kernel_rfl)))
      refine wpOp_plain rfl rfl (wp_fcall_v 13 #[.slice (some ⟨b, o + k, none⟩) (n - k) (cap - k)] rfl rfl (by show [ac.eval (.tmp 30)] = _; rw [show ac.eval (.tmp 30) = _ from ea]) (by go_simp) ((HR.out W hb1).mono ?_))
      rintro e W2 ⟨rfl, hB⟩
      exact ⟨_, rfl, hl2 9, ((hF.world hB).put 9 31 (SP.is (.agg (vB r).toArray)) (.agg (vB r).toArray) (by rw [hD]; rfl) rfl (by rw [hD]; rfl) (by rw [hsz]; decide) (by rw [hl]; decide)), hb1.trans (hB.mono hb1.size), (fun h1 h2 => by change (SP.own w.heap.size p l).P _ ((ac.put (some 31) _).eval (.tmp 27)); rw [eval_put_other ac _ (by decide)]; exact (SP.own w.heap.size p l).st _ _ _ hB (ti5 (by rwa [getD_set _ _ _ (by decide)] at h1) (by rwa [getD_set _ _ _ (by decide)] at h2))), (fun h1 h2 => by change (SP.new 1 1 (vB r) 28).P _ ((ac.put (some 31) _).eval (.tmp 32)); rw [eval_put_other ac _ (by decide)]; exact (SP.new 1 1 (vB r) 28).st _ _ _ hB (ti10 (by rwa [getD_set _ _ _ (by decide)] at h1) (by rwa [getD_set _ _ _ (by decide)] at h2)))⟩
    · have hk3 := hk
      have ea := (hF.done 9 (31, SP.is (.agg (vB r).toArray)) (by rw [hD]; rfl) (ready_dep hk 9 (by kernel_rfl)))
      have hB : Below W.heap.size W (W.alloc (Obj.cells (vB r).toArray 28)) := (Below.refl _ _).alloc (Nat.le_refl _) _
      exact wpOp_plain rfl rfl (wp_build_d (.tmp 31) rfl r HR0.out ea ⟨hl2 10, ((hF.world hB).put 10 32 (SP.any) (.slice (some ⟨W.heap.size, 0, none⟩) 1 1) (by rw [hD]; rfl) trivial (by rw [hD]; rfl) (by rw [hsz]; decide) (by rw [hl]; decide)), hb1.alloc hb1.size _, (fun h1 h2 => by change (SP.own w.heap.size p l).P _ ((ac.put (some 32) _).eval (.tmp 27)); rw [eval_put_other ac _ (by decide)]; exact (SP.own w.heap.size p l).st _ _ _ hB (ti5 (by rwa [getD_set _ _ _ (by decide)] at h1) (by rwa [getD_set _ _ _ (by decide)] at h2))), (fun _ _ => by change (SP.new 1 1 (vB r) 28).P _ ((ac.put (some 32) _).eval (.tmp 32)); rw [eval_put_same ac _ (by rw [hF.size, hsz]; decide)]; exact ⟨W.heap.size, rfl, Row.new' rfl rfl⟩)⟩)
    · have hk3 := hk
      have hw := (ti5 (ready_dep hk 5 (by kernel_rfl)) (not_yet hk))
      obtain ⟨N, ex, rN⟩ := (ti10 (ready_dep hk 10 (by kernel_rfl)) (not_yet hk))
      refine wpOp_plain rfl rfl (wp_append_d (.tmp 27) (.tmp 32) rfl w.heap.size N p _ l r HR0.out hw rfl ex rN HP.out hb1.size ?_)
      intro v2 W2 hO hG
      have hno : ¬ listed.getD 11 false = true := not_yet hk
      have hno12 : ¬ listed.getD 12 false = true := fun h => hno (hdn 12 h 11 (by kernel_rfl))
      have hT : Fp D a0 listed ac W2 := hF.turned (by
        rw [hD]
        intro q p hq hl3 v hv
        have hq1 : q < 13 := (List.getElem?_eq_some_iff.1 hq).1
        rcases (show q = 0 ∨ q = 1 ∨ q = 2 ∨ q = 3 ∨ q = 4 ∨ q = 5 ∨ q = 6 ∨ q = 7 ∨ q = 8 ∨ q = 9 ∨ q = 10 ∨ q = 11 ∨ q = 12 by omega) with rfl | rfl | rfl | rfl | rfl | rfl | rfl | rfl | rfl | rfl | rfl | rfl | rfl
        · obtain rfl := Option.some.inj hq; exact hv
        · obtain rfl := Option.some.inj hq; exact hv
        · obtain rfl := Option.some.inj hq; exact hv
        · obtain rfl := Option.some.inj hq; exact hv
        · obtain rfl := Option.some.inj hq; exact hv
        · obtain rfl := Option.some.inj hq; exact hv
        · obtain rfl := Option.some.inj hq; exact hv
        · obtain rfl := Option.some.inj hq; exact hv
        · obtain rfl := Option.some.inj hq; exact hv
        · obtain rfl := Option.some.inj hq; exact hv
        · obtain rfl := Option.some.inj hq; exact hv
        · exact absurd hl3 hno
        · exact absurd hl3 hno12
        )
      exact ⟨hl2 11, (hT.put 11 33 (SP.own w.heap.size (p + 1) (l ++ vB r)) v2 (by rw [hD]; rfl) hO (by rw [hD]; rfl) (by rw [hsz]; decide) (by rw [hl]; decide)), hb1.grown hG hb1.size (own_block hw), (fun _ h => absurd (getD_same (by rw [hl]; decide)) h), (fun _ h => absurd (getD_same (by rw [hl]; decide)) h)⟩
    · have hk3 := hk
      exact wpOp_plain rfl rfl (wp_assign_v (ac.eval (.tmp 33)) rfl rfl ⟨hl2 12, (hF.put 12 6 (SP.own w.heap.size (p + 1) (l ++ vB r)) (ac.eval (.tmp 33)) (by rw [hD]; rfl) ((hF.done 11 (33, SP.own w.heap.size (p + 1) (l ++ vB r)) (by rw [hD]; rfl) (ready_dep hk 11 (by kernel_rfl)))) (by rw [hD]; rfl) (by rw [hsz]; decide) (by rw [hl]; decide)), hb1, (fun h1 h2 => by change (SP.own w.heap.size p l).P _ ((ac.put (some 6) _).eval (.tmp 27)); rw [eval_put_other ac _ (by decide)]; exact ti5 (by rwa [getD_set _ _ _ (by decide)] at h1) (by rwa [getD_set _ _ _ (by decide)] at h2)), (fun h1 h2 => by change (SP.new 1 1 (vB r) 28).P _ ((ac.put (some 6) _).eval (.tmp 32)); rw [eval_put_other ac _ (by decide)]; exact ti10 (by rwa [getD_set _ _ _ (by decide)] at h1) (by rwa [getD_set _ _ _ (by decide)] at h2))⟩)
  · clear hb1  
    intro listed ac W hI hr
    obtain ⟨hl, hF, hb1, ti5, ti10⟩ := hI
    have hall := all_listed (by kernel_rfl) hl hr
    have h22 : ac.eval (.tmp 22) = .slice (some ⟨b, o, none⟩) n cap := hF.done 0 (22, SP.is (.slice (some ⟨b, o, none⟩) n cap)) (by rw [hD]; rfl) (hall 0 (by decide))
    have h23 : ac.eval (.tmp 23) = .int .i64 (k : Int) := hF.done 1 (23, SP.is (.int .i64 (k : Int))) (by rw [hD]; rfl) (hall 1 (by decide))
    have h24 : ac.eval (.tmp 24) = .slice (some ⟨b, o, none⟩) k cap := hF.done 2 (24, SP.is (.slice (some ⟨b, o, none⟩) k cap)) (by rw [hD]; rfl) (hall 2 (by decide))
    have h25 : ac.eval (.tmp 25) = .int .i64 (i : Int) := hF.done 3 (25, SP.is (.int .i64 (i : Int))) (by rw [hD]; rfl) (hall 3 (by decide))
    have h26 : ac.eval (.tmp 26) = .bool kn := hF.done 4 (26, SP.is (.bool kn)) (by rw [hD]; rfl) (hall 4 (by decide))
    obtain ⟨x27, h27⟩ : ∃ x, ac.eval (.tmp 27) = x := ⟨_, rfl⟩
    have h28 : ac.eval (.tmp 28) = .slice (some ⟨b, o, none⟩) n cap := hF.done 6 (28, SP.is (.slice (some ⟨b, o, none⟩) n cap)) (by rw [hD]; rfl) (hall 6 (by decide))
    have h29 : ac.eval (.tmp 29) = .int .i64 (k : Int) := hF.done 7 (29, SP.is (.int .i64 (k : Int))) (by rw [hD]; rfl) (hall 7 (by decide))
    have h30 : ac.eval (.tmp 30) = .slice (some ⟨b, o + k, none⟩) (n - k) (cap - k) := hF.done 8 (30, SP.is (.slice (some ⟨b, o + k, none⟩) (n - k) (cap - k))) (by rw [hD]; rfl) (hall 8 (by decide))
    have h31 : ac.eval (.tmp 31) = .agg (vB r).toArray := hF.done 9 (31, SP.is (.agg (vB r).toArray)) (by rw [hD]; rfl) (hall 9 (by decide))
    obtain ⟨x32, h32⟩ : ∃ x, ac.eval (.tmp 32) = x := ⟨_, rfl⟩
    obtain ⟨x33, h33⟩ : ∃ x, ac.eval (.tmp 33) = x := ⟨_, rfl⟩
    have f6 := hF.done 12 (6, SP.own w.heap.size (p + 1) (l ++ vB r)) (by rw [hD]; rfl) (hall 12 (by decide))
    obtain ⟨x6, h6⟩ : ∃ x, ac.eval (.tmp 6) = x := ⟨_, rfl⟩
    replace f6 : (SP.own w.heap.size (p + 1) (l ++ vB r)).P W x6 := by rw [← h6]; exact f6
    have ea := hF.lay [(22, .slice (some ⟨b, o, none⟩) n cap), (23, .int .i64 (k : Int)), (24, .slice (some ⟨b, o, none⟩) k cap), (25, .int .i64 (i : Int)), (26, .bool kn), (27, x27), (28, .slice (some ⟨b, o, none⟩) n cap), (29, .int .i64 (k : Int)), (30, .slice (some ⟨b, o + k, none⟩) (n - k) (cap - k)), (31, .agg (vB r).toArray), (32, x32), (33, x33), (6, x6)] (by rw [hD, hsz]; rfl) (by simp only [List.forall_mem_cons, List.not_mem_nil, false_implies, implies_true, and_true]; exact ⟨h22, h23, h24, h25, h26, h27, h28, h29, h30, h31, h32, h33, h6⟩)
    rw [ha0] at ea
    simp only [List.foldl_cons, List.foldl_nil, List.setIfInBounds_toArray, List.set_cons_zero, List.set_cons_succ] at ea
    clear hF hall hr hl hD ti5 ti10 zs0 zs1 zs2 zs7 ha0 hsz h22 h23 h24 h25 h26 h27 h28 h29 h30 h31 h32 h33 h6
    subst ea
    go_wp2_with fail
    go_ret
    exact ⟨x6, rfl, f6, hb1⟩

set_option maxRecDepth 100000 in
set_option maxHeartbeats 4000000 in
theorem growthOf_right (n i k p cap b o : Nat) (kn : Bool) (h2 : 2 ≤ n) (hn : n < 4611686018427387904) (hin : i < n) (hk : fpart n = k) (hik : ¬ i ≤ k) (l : List Value) (r : List (BitVec 8)) (hr0 : r.length = 32) (hp : (p + 1) * 32 ≤ 140737488355328) (hc : n ≤ cap) (w : World)
    (hS : ∀ W, Below w.heap.size w W → Calls Tryd.prog 26 #[.slice (some ⟨b, o + k, none⟩) (n - k) (cap - k), .int .i64 ((i - k : Nat) : Int), .bool false] W fun e w' => ∃ v, e = .returned v ∧ w'.ownsRow W.heap.size 28 32 v p l ∧ Below W.heap.size W w')
    (hR : ∀ W, Below w.heap.size w W → Calls Tryd.prog 13 #[.slice (some ⟨b, o, none⟩) k cap] W fun e w' => e = .returned (.agg (vB r).toArray) ∧ Below W.heap.size W w') :
    Calls Tryd.prog 26 #[.slice (some ⟨b, o, none⟩) n cap, .int .i64 (i : Int), .bool kn] w fun e w' => ∃ v, e = .returned v ∧ w'.ownsRow w.heap.size 28 32 v (p + 1) (l ++ vB r) ∧ Below w.heap.size w w' := by
  have HR0 : Hid (r.length = 32) := hr0
  have HS : Hid (∀ W, _ → _) := hS
  have HR : Hid (∀ W, _ → _) := hR
  have HP : Hid ((p + 1) * 32 ≤ 140737488355328) := hp
  have HF : Hid (∀ w, _) := fun w => first_any n h2 hn w
  rw [hk] at HF
  have HKN : Hid (k < n) := by show _ < _; rw [← hk]; exact (fpart_bounds n h2 hn).1
  have n1 : ¬ (i : Int) = (n : Int) := by omega
  have c1 : ¬ (i : Int) ≤ (k : Int) := by omega
  have HN : Hid (n < 4611686018427387904) := hn
  have HIK : Hid (¬ i ≤ k) := hik
  have HIN : Hid (i < n) := hin
  have HC : Hid (n ≤ cap) := hc
  clear hr0 hS hR hk h2 hn hc hik hin hp
  have hb1 : Below w.heap.size w w := Below.refl _ _
  go_enter Tryd.func26, Tryd.ntmps26
  go_wp2_with (go_at_call 25; refine (HF.out _).mono ?_; rintro e w ⟨rfl, rfl⟩)
  refine wp_named fun a0 ha0 => ?_
  have hsz : a0.tmps.size = 47 := by rw [ha0]; rfl
  have zs0 : a0.eval (.tmp 0) = .slice (some ⟨b, o, none⟩) n cap := by rw [ha0]; rfl
  have zs1 : a0.eval (.tmp 1) = .int .i64 (i : Int) := by rw [ha0]; rfl
  have zs2 : a0.eval (.tmp 2) = .bool kn := by rw [ha0]; rfl
  have zs7 : a0.eval (.tmp 7) = .int .i64 (k : Int) := by rw [ha0]; rfl
  obtain ⟨D, hD⟩ : ∃ D : List (Tmp × SP), D = [(34, SP.is (.slice (some ⟨b, o, none⟩) n cap)), (35, SP.is (.int .i64 (k : Int))), (36, SP.is (.slice (some ⟨b, o + k, none⟩) (n - k) (cap - k))), (37, SP.is (.int .i64 (i : Int))), (38, SP.is (.int .i64 (k : Int))), (39, SP.is (.int .i64 ((i - k : Nat) : Int))), (40, SP.any), (41, SP.is (.slice (some ⟨b, o, none⟩) n cap)), (42, SP.is (.int .i64 (k : Int))), (43, SP.is (.slice (some ⟨b, o, none⟩) k cap)), (44, SP.is (.agg (vB r).toArray)), (45, SP.any), (46, SP.own w.heap.size (p + 1) (l ++ vB r)), (6, SP.own w.heap.size (p + 1) (l ++ vB r))] := ⟨_, rfl⟩
  refine wp_region_down (by kernel_rfl) (fun listed ac W => listed.size = 14 ∧ Fp D a0 listed ac W ∧ Below w.heap.size w W ∧ (listed.getD 6 false = true → ¬ listed.getD 12 false = true → (SP.own w.heap.size p l).P W (ac.eval (.tmp 40))) ∧ (listed.getD 11 false = true → ¬ listed.getD 12 false = true → (SP.new 1 1 (vB r) 28).P W (ac.eval (.tmp 45)))) ?_ ?_ ?_
  · exact ⟨by simp, Fp.start D a0 _ _, Below.drew hb1, (fun h _ => (start_no h).elim), (fun h _ => (start_no h).elim)⟩
  · clear ha0 hb1  
    intro listed ac W k hI hdn hk
    obtain ⟨hl, hF, hb1, ti6, ti11⟩ := hI
    have hk1 : k < 14 := List.mem_range.1 (List.mem_filter.1 hk).1
    have hl2 : ∀ j, (listed.setIfInBounds j true).size = 14 := fun j => by rw [Array.size_setIfInBounds]; exact hl
    rcases (show k = 0 ∨ k = 1 ∨ k = 2 ∨ k = 3 ∨ k = 4 ∨ k = 5 ∨ k = 6 ∨ k = 7 ∨ k = 8 ∨ k = 9 ∨ k = 10 ∨ k = 11 ∨ k = 12 ∨ k = 13 by omega) with rfl | rfl | rfl | rfl | rfl | rfl | rfl | rfl | rfl | rfl | rfl | rfl | rfl | rfl
    · have hk3 := hk
      exact wpOp_plain rfl rfl (wp_move_v (ac.eval (.tmp 0)) rfl rfl ⟨hl2 0, (hF.put 0 34 (SP.is (.slice (some ⟨b, o, none⟩) n cap)) (ac.eval (.tmp 0)) (by rw [hD]; rfl) (((hF.keep 0 (by rw [hD]; rfl)).trans zs0)) (by rw [hD]; rfl) (by rw [hsz]; decide) (by rw [hl]; decide)), hb1, (fun h1 h2 => by change (SP.own w.heap.size p l).P _ ((ac.put (some 34) _).eval (.tmp 40)); rw [eval_put_other ac _ (by decide)]; exact ti6 (by rwa [getD_set _ _ _ (by decide)] at h1) (by rwa [getD_set _ _ _ (by decide)] at h2)), (fun h1 h2 => by change (SP.new 1 1 (vB r) 28).P _ ((ac.put (some 34) _).eval (.tmp 45)); rw [eval_put_other ac _ (by decide)]; exact ti11 (by rwa [getD_set _ _ _ (by decide)] at h1) (by rwa [getD_set _ _ _ (by decide)] at h2))⟩)
    · have hk3 := hk
      exact wpOp_plain rfl rfl (wp_move_v (ac.eval (.tmp 7)) rfl rfl ⟨hl2 1, (hF.put 1 35 (SP.is (.int .i64 (k : Int))) (ac.eval (.tmp 7)) (by rw [hD]; rfl) (((hF.keep 7 (by rw [hD]; rfl)).trans zs7)) (by rw [hD]; rfl) (by rw [hsz]; decide) (by rw [hl]; decide)), hb1, (fun h1 h2 => by change (SP.own w.heap.size p l).P _ ((ac.put (some 35) _).eval (.tmp 40)); rw [eval_put_other ac _ (by decide)]; exact ti6 (by rwa [getD_set _ _ _ (by decide)] at h1) (by rwa [getD_set _ _ _ (by decide)] at h2)), (fun h1 h2 => by change (SP.new 1 1 (vB r) 28).P _ ((ac.put (some 35) _).eval (.tmp 45)); rw [eval_put_other ac _ (by decide)]; exact ti11 (by rwa [getD_set _ _ _ (by decide)] at h1) (by rwa [getD_set _ _ _ (by decide)] at h2))⟩)
    · have hk3 := hk
      have ea := (hF.done 0 (34, SP.is (.slice (some ⟨b, o, none⟩) n cap)) (by rw [hD]; rfl) (ready_dep hk 0 (by kernel_rfl)))
      have eb := (hF.done 1 (35, SP.is (.int .i64 (k : Int))) (by rw [hD]; rfl) (ready_dep hk 1 (by kernel_rfl)))
      exact wpOp_plain rfl rfl (wp_slice_on 22 38 (.tmp 34) (.tmp 35) b o n cap k rfl ea eb (Nat.le_of_lt HKN.out) (Nat.lt_of_lt_of_le HKN.out HC.out) Tryd.underlying22 info_slb ⟨hl2 2, (hF.put 2 36 (SP.is (.slice (some ⟨b, o + k, none⟩) (n - k) (cap - k))) (.slice (some ⟨b, o + k, none⟩) (n - k) (cap - k)) (by rw [hD]; rfl) rfl (by rw [hD]; rfl) (by rw [hsz]; decide) (by rw [hl]; decide)), hb1, (fun h1 h2 => by change (SP.own w.heap.size p l).P _ ((ac.put (some 36) _).eval (.tmp 40)); rw [eval_put_other ac _ (by decide)]; exact ti6 (by rwa [getD_set _ _ _ (by decide)] at h1) (by rwa [getD_set _ _ _ (by decide)] at h2)), (fun h1 h2 => by change (SP.new 1 1 (vB r) 28).P _ ((ac.put (some 36) _).eval (.tmp 45)); rw [eval_put_other ac _ (by decide)]; exact ti11 (by rwa [getD_set _ _ _ (by decide)] at h1) (by rwa [getD_set _ _ _ (by decide)] at h2))⟩)
    · have hk3 := hk
      exact wpOp_plain rfl rfl (wp_move_v (ac.eval (.tmp 1)) rfl rfl ⟨hl2 3, (hF.put 3 37 (SP.is (.int .i64 (i : Int))) (ac.eval (.tmp 1)) (by rw [hD]; rfl) (((hF.keep 1 (by rw [hD]; rfl)).trans zs1)) (by rw [hD]; rfl) (by rw [hsz]; decide) (by rw [hl]; decide)), hb1, (fun h1 h2 => by change (SP.own w.heap.size p l).P _ ((ac.put (some 37) _).eval (.tmp 40)); rw [eval_put_other ac _ (by decide)]; exact ti6 (by rwa [getD_set _ _ _ (by decide)] at h1) (by rwa [getD_set _ _ _ (by decide)] at h2)), (fun h1 h2 => by change (SP.new 1 1 (vB r) 28).P _ ((ac.put (some 37) _).eval (.tmp 45)); rw [eval_put_other ac _ (by decide)]; exact ti11 (by rwa [getD_set _ _ _ (by decide)] at h1) (by rwa [getD_set _ _ _ (by decide)] at h2))⟩)
    · have hk3 := hk
      exact wpOp_plain rfl rfl (wp_move_v (ac.eval (.tmp 7)) rfl rfl ⟨hl2 4, (hF.put 4 38 (SP.is (.int .i64 (k : Int))) (ac.eval (.tmp 7)) (by rw [hD]; rfl) (((hF.keep 7 (by rw [hD]; rfl)).trans zs7)) (by rw [hD]; rfl) (by rw [hsz]; decide) (by rw [hl]; decide)), hb1, (fun h1 h2 => by change (SP.own w.heap.size p l).P _ ((ac.put (some 38) _).eval (.tmp 40)); rw [eval_put_other ac _ (by decide)]; exact ti6 (by rwa [getD_set _ _ _ (by decide)] at h1) (by rwa [getD_set _ _ _ (by decide)] at h2)), (fun h1 h2 => by change (SP.new 1 1 (vB r) 28).P _ ((ac.put (some 38) _).eval (.tmp 45)); rw [eval_put_other ac _ (by decide)]; exact ti11 (by rwa [getD_set _ _ _ (by decide)] at h1) (by rwa [getD_set _ _ _ (by decide)] at h2))⟩)
    · have hk3 := hk
      have ea := (hF.done 3 (37, SP.is (.int .i64 (i : Int))) (by rw [hD]; rfl) (ready_dep hk 3 (by kernel_rfl)))
      have eb := (hF.done 4 (38, SP.is (.int .i64 (k : Int))) (by rw [hD]; rfl) (ready_dep hk 4 (by kernel_rfl)))
      exact wpOp_plain rfl rfl (wp_sub_v _ _ rfl ea eb (Nat.le_of_lt (Nat.lt_of_not_le HIK.out)) (Nat.lt_trans HIN.out HN.out) ⟨hl2 5, (hF.put 5 39 (SP.is (.int .i64 ((i - k : Nat) : Int))) (.int .i64 ((i - k : Nat) : Int)) (by rw [hD]; rfl) rfl (by rw [hD]; rfl) (by rw [hsz]; decide) (by rw [hl]; decide)), hb1, (fun h1 h2 => by change (SP.own w.heap.size p l).P _ ((ac.put (some 39) _).eval (.tmp 40)); rw [eval_put_other ac _ (by decide)]; exact ti6 (by rwa [getD_set _ _ _ (by decide)] at h1) (by rwa [getD_set _ _ _ (by decide)] at h2)), (fun h1 h2 => by change (SP.new 1 1 (vB r) 28).P _ ((ac.put (some 39) _).eval (.tmp 45)); rw [eval_put_other ac _ (by decide)]; exact ti11 (by rwa [getD_set _ _ _ (by decide)] at h1) (by rwa [getD_set _ _ _ (by decide)] at h2))⟩)
    · have hk3 := hk
      have ea := (hF.done 2 (36, SP.is (.slice (some ⟨b, o + k, none⟩) (n - k) (cap - k))) (by rw [hD]; rfl) (ready_dep hk 2 (by kernel_rfl)))
      have eb := (hF.done 5 (39, SP.is (.int .i64 ((i - k : Nat) : Int))) (by rw [hD]; rfl) (ready_dep hk 5 (by kernel_rfl)))
      refine wpOp_plain rfl rfl (wp_fcall_v 26 #[.slice (some ⟨b, o + k, none⟩) (n - k) (cap - k), .int .i64 ((i - k : Nat) : Int), .bool false] rfl rfl (by show [ac.eval (.tmp 36), ac.eval (.tmp 39), ac.eval (.const (.bool false))] = _; rw [show ac.eval (.tmp 36) = _ from ea, show ac.eval (.tmp 39) = _ from eb]; rfl) (by go_simp) ((HS.out W hb1).mono ?_))
      rintro e W2 ⟨v2, rfl, hO, hB⟩
      exact ⟨_, rfl, hl2 6, ((hF.world hB).put 6 40 (SP.any) v2 (by rw [hD]; rfl) trivial (by rw [hD]; rfl) (by rw [hsz]; decide) (by rw [hl]; decide)), hb1.trans (hB.mono hb1.size), (fun _ _ => by change (SP.own w.heap.size p l).P _ ((ac.put (some 40) _).eval (.tmp 40)); rw [eval_put_same ac _ (by rw [hF.size, hsz]; decide)]; exact own_less hO hb1.size), (fun h1 h2 => by change (SP.new 1 1 (vB r) 28).P _ ((ac.put (some 40) _).eval (.tmp 45)); rw [eval_put_other ac _ (by decide)]; exact (SP.new 1 1 (vB r) 28).st _ _ _ hB (ti11 (by rwa [getD_set _ _ _ (by decide)] at h1) (by rwa [getD_set _ _ _ (by decide)] at h2)))⟩
    · have hk3 := hk
      exact wpOp_plain rfl rfl (wp_move_v (ac.eval (.tmp 0)) rfl rfl ⟨hl2 7, (hF.put 7 41 (SP.is (.slice (some ⟨b, o, none⟩) n cap)) (ac.eval (.tmp 0)) (by rw [hD]; rfl) (((hF.keep 0 (by rw [hD]; rfl)).trans zs0)) (by rw [hD]; rfl) (by rw [hsz]; decide) (by rw [hl]; decide)), hb1, (fun h1 h2 => by change (SP.own w.heap.size p l).P _ ((ac.put (some 41) _).eval (.tmp 40)); rw [eval_put_other ac _ (by decide)]; exact ti6 (by rwa [getD_set _ _ _ (by decide)] at h1) (by rwa [getD_set _ _ _ (by decide)] at h2)), (fun h1 h2 => by change (SP.new 1 1 (vB r) 28).P _ ((ac.put (some 41) _).eval (.tmp 45)); rw [eval_put_other ac _ (by decide)]; exact ti11 (by rwa [getD_set _ _ _ (by decide)] at h1) (by rwa [getD_set _ _ _ (by decide)] at h2))⟩)
    · have hk3 := hk
      exact wpOp_plain rfl rfl (wp_move_v (ac.eval (.tmp 7)) rfl rfl ⟨hl2 8, (hF.put 8 42 (SP.is (.int .i64 (k : Int))) (ac.eval (.tmp 7)) (by rw [hD]; rfl) (((hF.keep 7 (by rw [hD]; rfl)).trans zs7)) (by rw [hD]; rfl) (by rw [hsz]; decide) (by rw [hl]; decide)), hb1, (fun h1 h2 => by change (SP.own w.heap.size p l).P _ ((ac.put (some 42) _).eval (.tmp 40)); rw [eval_put_other ac _ (by decide)]; exact ti6 (by rwa [getD_set _ _ _ (by decide)] at h1) (by rwa [getD_set _ _ _ (by decide)] at h2)), (fun h1 h2 => by change (SP.new 1 1 (vB r) 28).P _ ((ac.put (some 42) _).eval (.tmp 45)); rw [eval_put_other ac _ (by decide)]; exact ti11 (by rwa [getD_set _ _ _ (by decide)] at h1) (by rwa [getD_set _ _ _ (by decide)] at h2))⟩)
    · have hk3 := hk
      have ea := (hF.done 7 (41, SP.is (.slice (some ⟨b, o, none⟩) n cap)) (by rw [hD]; rfl) (ready_dep hk 7 (by kernel_rfl)))
      have eb := (hF.done 8 (42, SP.is (.int .i64 (k : Int))) (by rw [hD]; rfl) (ready_dep hk 8 (by kernel_rfl)))
      exact wpOp_plain rfl rfl (wp_slice_to 22 38 (.tmp 41) (.tmp 42) b o n cap k rfl ea eb (Nat.le_trans (Nat.le_of_lt HKN.out) HC.out) Tryd.underlying22 info_slb ⟨hl2 9, (hF.put 9 43 (SP.is (.slice (some ⟨b, o, none⟩) k cap)) (.slice (some ⟨b, o, none⟩) k cap) (by rw [hD]; rfl) rfl (by rw [hD]; rfl) (by rw [hsz]; decide) (by rw [hl]; decide)), hb1, (fun h1 h2 => by change (SP.own w.heap.size p l).P _ ((ac.put (some 43) _).eval (.tmp 40)); rw [eval_put_other ac _ (by decide)]; exact ti6 (by rwa [getD_set _ _ _ (by decide)] at h1) (by rwa [getD_set _ _ _ (by decide)] at h2)), (fun h1 h2 => by change (SP.new 1 1 (vB r) 28).P _ ((ac.put (some 43) _).eval (.tmp 45)); rw [eval_put_other ac _ (by decide)]; exact ti11 (by rwa [getD_set _ _ _ (by decide)] at h1) (by rwa [getD_set _ _ _ (by decide)] at h2))⟩)
    · have hk3 := hk
      have ea := (hF.done 9 (43, SP.is (.slice (some ⟨b, o, none⟩) k cap)) (by rw [hD]; rfl) (ready_dep hk 9 (by kernel_rfl)))
      refine wpOp_plain rfl rfl (wp_fcall_v 13 #[.slice (some ⟨b, o, none⟩) k cap] rfl rfl (by show [ac.eval (.tmp 43)] = _; rw [show ac.eval (.tmp 43) = _ from ea]) (by go_simp) ((HR.out W hb1).mono ?_))
      rintro e W2 ⟨rfl, hB⟩
      exact ⟨_, rfl, hl2 10, ((hF.world hB).put 10 44 (SP.is (.agg (vB r).toArray)) (.agg (vB r).toArray) (by rw [hD]; rfl) rfl (by rw [hD]; rfl) (by rw [hsz]; decide) (by rw [hl]; decide)), hb1.trans (hB.mono hb1.size), (fun h1 h2 => by change (SP.own w.heap.size p l).P _ ((ac.put (some 44) _).eval (.tmp 40)); rw [eval_put_other ac _ (by decide)]; exact (SP.own w.heap.size p l).st _ _ _ hB (ti6 (by rwa [getD_set _ _ _ (by decide)] at h1) (by rwa [getD_set _ _ _ (by decide)] at h2))), (fun h1 h2 => by change (SP.new 1 1 (vB r) 28).P _ ((ac.put (some 44) _).eval (.tmp 45)); rw [eval_put_other ac _ (by decide)]; exact (SP.new 1 1 (vB r) 28).st _ _ _ hB (ti11 (by rwa [getD_set _ _ _ (by decide)] at h1) (by rwa [getD_set _ _ _ (by decide)] at h2)))⟩
    · have hk3 := hk
      have ea := (hF.done 10 (44, SP.is (.agg (vB r).toArray)) (by rw [hD]; rfl) (ready_dep hk 10 (by kernel_rfl)))
      have hB : Below W.heap.size W (W.alloc (Obj.cells (vB r).toArray 28)) := (Below.refl _ _).alloc (Nat.le_refl _) _
      exact wpOp_plain rfl rfl (wp_build_d (.tmp 44) rfl r HR0.out ea ⟨hl2 11, ((hF.world hB).put 11 45 (SP.any) (.slice (some ⟨W.heap.size, 0, none⟩) 1 1) (by rw [hD]; rfl) trivial (by rw [hD]; rfl) (by rw [hsz]; decide) (by rw [hl]; decide)), hb1.alloc hb1.size _, (fun h1 h2 => by change (SP.own w.heap.size p l).P _ ((ac.put (some 45) _).eval (.tmp 40)); rw [eval_put_other ac _ (by decide)]; exact (SP.own w.heap.size p l).st _ _ _ hB (ti6 (by rwa [getD_set _ _ _ (by decide)] at h1) (by rwa [getD_set _ _ _ (by decide)] at h2))), (fun _ _ => by change (SP.new 1 1 (vB r) 28).P _ ((ac.put (some 45) _).eval (.tmp 45)); rw [eval_put_same ac _ (by rw [hF.size, hsz]; decide)]; exact ⟨W.heap.size, rfl, Row.new' rfl rfl⟩)⟩)
    · have hk3 := hk
      have hw := (ti6 (ready_dep hk 6 (by kernel_rfl)) (not_yet hk))
      obtain ⟨N, ex, rN⟩ := (ti11 (ready_dep hk 11 (by kernel_rfl)) (not_yet hk))
      refine wpOp_plain rfl rfl (wp_append_d (.tmp 40) (.tmp 45) rfl w.heap.size N p _ l r HR0.out hw rfl ex rN HP.out hb1.size ?_)
      intro v2 W2 hO hG
      have hno : ¬ listed.getD 12 false = true := not_yet hk
      have hno13 : ¬ listed.getD 13 false = true := fun h => hno (hdn 13 h 12 (by kernel_rfl))
      have hT : Fp D a0 listed ac W2 := hF.turned (by
        rw [hD]
        intro q p hq hl3 v hv
        have hq1 : q < 14 := (List.getElem?_eq_some_iff.1 hq).1
        rcases (show q = 0 ∨ q = 1 ∨ q = 2 ∨ q = 3 ∨ q = 4 ∨ q = 5 ∨ q = 6 ∨ q = 7 ∨ q = 8 ∨ q = 9 ∨ q = 10 ∨ q = 11 ∨ q = 12 ∨ q = 13 by omega) with rfl | rfl | rfl | rfl | rfl | rfl | rfl | rfl | rfl | rfl | rfl | rfl | rfl | rfl
        · obtain rfl := Option.some.inj hq; exact hv
        · obtain rfl := Option.some.inj hq; exact hv
        · obtain rfl := Option.some.inj hq; exact hv
        · obtain rfl := Option.some.inj hq; exact hv
        · obtain rfl := Option.some.inj hq; exact hv
        · obtain rfl := Option.some.inj hq; exact hv
        · obtain rfl := Option.some.inj hq; exact hv
        · obtain rfl := Option.some.inj hq; exact hv
        · obtain rfl := Option.some.inj hq; exact hv
        · obtain rfl := Option.some.inj hq; exact hv
        · obtain rfl := Option.some.inj hq; exact hv
        · obtain rfl := Option.some.inj hq; exact hv
        · exact absurd hl3 hno
        · exact absurd hl3 hno13
        )
      exact ⟨hl2 12, (hT.put 12 46 (SP.own w.heap.size (p + 1) (l ++ vB r)) v2 (by rw [hD]; rfl) hO (by rw [hD]; rfl) (by rw [hsz]; decide) (by rw [hl]; decide)), hb1.grown hG hb1.size (own_block hw), (fun _ h => absurd (getD_same (by rw [hl]; decide)) h), (fun _ h => absurd (getD_same (by rw [hl]; decide)) h)⟩
    · have hk3 := hk
      exact wpOp_plain rfl rfl (wp_assign_v (ac.eval (.tmp 46)) rfl rfl ⟨hl2 13, (hF.put 13 6 (SP.own w.heap.size (p + 1) (l ++ vB r)) (ac.eval (.tmp 46)) (by rw [hD]; rfl) ((hF.done 12 (46, SP.own w.heap.size (p + 1) (l ++ vB r)) (by rw [hD]; rfl) (ready_dep hk 12 (by kernel_rfl)))) (by rw [hD]; rfl) (by rw [hsz]; decide) (by rw [hl]; decide)), hb1, (fun h1 h2 => by change (SP.own w.heap.size p l).P _ ((ac.put (some 6) _).eval (.tmp 40)); rw [eval_put_other ac _ (by decide)]; exact ti6 (by rwa [getD_set _ _ _ (by decide)] at h1) (by rwa [getD_set _ _ _ (by decide)] at h2)), (fun h1 h2 => by change (SP.new 1 1 (vB r) 28).P _ ((ac.put (some 6) _).eval (.tmp 45)); rw [eval_put_other ac _ (by decide)]; exact ti11 (by rwa [getD_set _ _ _ (by decide)] at h1) (by rwa [getD_set _ _ _ (by decide)] at h2))⟩)
  · clear hb1  
    intro listed ac W hI hr
    obtain ⟨hl, hF, hb1, ti6, ti11⟩ := hI
    have hall := all_listed (by kernel_rfl) hl hr
    have h34 : ac.eval (.tmp 34) = .slice (some ⟨b, o, none⟩) n cap := hF.done 0 (34, SP.is (.slice (some ⟨b, o, none⟩) n cap)) (by rw [hD]; rfl) (hall 0 (by decide))
    have h35 : ac.eval (.tmp 35) = .int .i64 (k : Int) := hF.done 1 (35, SP.is (.int .i64 (k : Int))) (by rw [hD]; rfl) (hall 1 (by decide))
    have h36 : ac.eval (.tmp 36) = .slice (some ⟨b, o + k, none⟩) (n - k) (cap - k) := hF.done 2 (36, SP.is (.slice (some ⟨b, o + k, none⟩) (n - k) (cap - k))) (by rw [hD]; rfl) (hall 2 (by decide))
    have h37 : ac.eval (.tmp 37) = .int .i64 (i : Int) := hF.done 3 (37, SP.is (.int .i64 (i : Int))) (by rw [hD]; rfl) (hall 3 (by decide))
    have h38 : ac.eval (.tmp 38) = .int .i64 (k : Int) := hF.done 4 (38, SP.is (.int .i64 (k : Int))) (by rw [hD]; rfl) (hall 4 (by decide))
    have h39 : ac.eval (.tmp 39) = .int .i64 ((i - k : Nat) : Int) := hF.done 5 (39, SP.is (.int .i64 ((i - k : Nat) : Int))) (by rw [hD]; rfl) (hall 5 (by decide))
    obtain ⟨x40, h40⟩ : ∃ x, ac.eval (.tmp 40) = x := ⟨_, rfl⟩
    have h41 : ac.eval (.tmp 41) = .slice (some ⟨b, o, none⟩) n cap := hF.done 7 (41, SP.is (.slice (some ⟨b, o, none⟩) n cap)) (by rw [hD]; rfl) (hall 7 (by decide))
    have h42 : ac.eval (.tmp 42) = .int .i64 (k : Int) := hF.done 8 (42, SP.is (.int .i64 (k : Int))) (by rw [hD]; rfl) (hall 8 (by decide))
    have h43 : ac.eval (.tmp 43) = .slice (some ⟨b, o, none⟩) k cap := hF.done 9 (43, SP.is (.slice (some ⟨b, o, none⟩) k cap)) (by rw [hD]; rfl) (hall 9 (by decide))
    have h44 : ac.eval (.tmp 44) = .agg (vB r).toArray := hF.done 10 (44, SP.is (.agg (vB r).toArray)) (by rw [hD]; rfl) (hall 10 (by decide))
    obtain ⟨x45, h45⟩ : ∃ x, ac.eval (.tmp 45) = x := ⟨_, rfl⟩
    obtain ⟨x46, h46⟩ : ∃ x, ac.eval (.tmp 46) = x := ⟨_, rfl⟩
    have f6 := hF.done 13 (6, SP.own w.heap.size (p + 1) (l ++ vB r)) (by rw [hD]; rfl) (hall 13 (by decide))
    obtain ⟨x6, h6⟩ : ∃ x, ac.eval (.tmp 6) = x := ⟨_, rfl⟩
    replace f6 : (SP.own w.heap.size (p + 1) (l ++ vB r)).P W x6 := by rw [← h6]; exact f6
    have ea := hF.lay [(34, .slice (some ⟨b, o, none⟩) n cap), (35, .int .i64 (k : Int)), (36, .slice (some ⟨b, o + k, none⟩) (n - k) (cap - k)), (37, .int .i64 (i : Int)), (38, .int .i64 (k : Int)), (39, .int .i64 ((i - k : Nat) : Int)), (40, x40), (41, .slice (some ⟨b, o, none⟩) n cap), (42, .int .i64 (k : Int)), (43, .slice (some ⟨b, o, none⟩) k cap), (44, .agg (vB r).toArray), (45, x45), (46, x46), (6, x6)] (by rw [hD, hsz]; rfl) (by simp only [List.forall_mem_cons, List.not_mem_nil, false_implies, implies_true, and_true]; exact ⟨h34, h35, h36, h37, h38, h39, h40, h41, h42, h43, h44, h45, h46, h6⟩)
    rw [ha0] at ea
    simp only [List.foldl_cons, List.foldl_nil, List.setIfInBounds_toArray, List.set_cons_zero, List.set_cons_succ] at ea
    clear hF hall hr hl hD ti6 ti11 zs0 zs1 zs2 zs7 ha0 hsz h34 h35 h36 h37 h38 h39 h40 h41 h42 h43 h44 h45 h46 h6
    subst ea
    go_wp2_with fail
    go_ret
    exact ⟨x6, rfl, f6, hb1⟩

theorem growthOf_any (n : Nat) : ∀ (m : Nat) (kn : Bool) (ps : List (List (BitVec 8))), ps.length = n → 1 ≤ m → m ≤ n → n < 4398046511104 → (∀ j, j < ps.length → (ps.getD j []).length < 1152921504606846975) → ∀ (b o cap : Nat), n ≤ cap → ∀ w : World, Tab w 2 → LsAt w b o ps →
    Calls Tryd.prog 26 #[.slice (some ⟨b, o, none⟩) n cap, .int .i64 (m : Int), .bool kn] w fun e w' => ∃ v, e = .returned v ∧ w'.ownsRow w.heap.size 28 32 v (gr m ps kn).length ((gr m ps kn).flatMap vB) ∧ Below w.heap.size w w' := by
  induction n using Nat.strongRecOn with
  | ind n ih =>
    intro m kn ps hn h1 hmn hlt hm b o cap hc w hK hv
    by_cases e : m = n
    · subst e
      rw [gr_same m ps kn hn]
      cases kn
      · rw [if_neg (by decide), List.length_singleton, List.flatMap_singleton]
        exact growthOf_new _ m cap _ (rt_length _) w (root_any m ps hn (by omega) hm _ rfl b o cap hc w hK hv)
      · rw [if_pos rfl]
        exact growthOf_known _ m cap w
    · have h2 : 2 ≤ n := by omega
      have hl : n < 4611686018427387904 := by omega
      have hb := fpart_bounds n h2 hl
      have hp := fpart_pos n
      have t1 : (ps.take (fpart n)).length = fpart n := by rw [List.length_take]; omega
      have t2 : (ps.drop (fpart n)).length = n - fpart n := by rw [List.length_drop]; omega
      have m1 : ∀ j, j < (ps.take (fpart n)).length → ((ps.take (fpart n)).getD j []).length < 1152921504606846975 := fun j hj => by
        have hj2 : j < fpart n := by omega
        have e2 : (ps.take (fpart n)).getD j [] = ps.getD j [] := by simp [List.getD_eq_getElem?_getD, hj2]
        rw [e2]
        exact hm j (by omega)
      have m2 : ∀ j, j < (ps.drop (fpart n)).length → ((ps.drop (fpart n)).getD j []).length < 1152921504606846975 := fun j hj => by
        have e2 : (ps.drop (fpart n)).getD j [] = ps.getD (fpart n + j) [] := by simp [List.getD_eq_getElem?_getD, List.getElem?_drop]
        rw [e2]
        exact hm (fpart n + j) (by omega)
      by_cases hk : m ≤ fpart n
      · have q := (gr_fact (fpart n) m kn _ t1 h1 hk (by omega)).2
        rw [gr_left m n kn ps hn h1 (by omega) hl hk, List.length_append, List.flatMap_append, List.length_singleton, List.flatMap_singleton]
        exact growthOf_left n m (fpart n) _ cap b o kn h2 hl (by omega) rfl hk _ _ (rt_length _) (by omega) hc w
          (fun W hB => ih (fpart n) hb.1 m kn _ t1 h1 hk (by omega) m1 b o cap (by omega) W (hK.below hB hK.lt) ((hv.below hB).take _))
          (fun W hB => root_any (n - fpart n) _ t2 (by omega) m2 _ rfl b (o + fpart n) (cap - fpart n) (by omega) W (hK.below hB hK.lt) ((hv.below hB).drop _))
      · have q := (gr_fact (n - fpart n) (m - fpart n) false _ t2 (by omega) (by omega) (by omega)).2
        rw [gr_right m n kn ps hn h1 (by omega) hl hk, List.length_append, List.flatMap_append, List.length_singleton, List.flatMap_singleton]
        exact growthOf_right n m (fpart n) _ cap b o kn h2 hl (by omega) rfl hk _ _ (rt_length _) (by omega) hc w
          (fun W hB => ih (n - fpart n) (by omega) (m - fpart n) false _ t2 (by omega) (by omega) (by omega) m2 b (o + fpart n) (cap - fpart n) (by omega) W (hK.below hB hK.lt) ((hv.below hB).drop _))
          (fun W hB => root_any (fpart n) _ t1 (by omega) m1 _ rfl b o cap (by omega) W (hK.below hB hK.lt) ((hv.below hB).take _))

set_option maxRecDepth 100000 in
set_option maxHeartbeats 1000000 in
theorem grow_out (A : Option Addr) (n cap : Nat) (i : Int) (h : i < 0 ∨ (n : Int) < i) (w : World) :
    Calls Tryd.prog 14 #[.slice A n cap, .int .i64 i] w fun e w' => e = .returned (.tuple #[.slice none 0 0, .int .i64 40]) ∧ Below w.heap.size w w' := by
  have hb1 : Below w.heap.size w w := Below.refl _ _
  by_cases h0 : i < 0
  · clear h
    go_enter Tryd.func14, Tryd.ntmps14
    go_wp2_with fail
    go_ret2
    exact ⟨rfl, hb1⟩
  · have h1 : (n : Int) < i := by omega
    clear h
    go_enter Tryd.func14, Tryd.ntmps14
    go_wp2_with fail
    go_ret2
    exact ⟨rfl, hb1⟩
set_option maxRecDepth 100000 in
set_option maxHeartbeats 1000000 in
theorem grow_zero (A : Option Addr) (n cap : Nat) (w : World) :
    Calls Tryd.prog 14 #[.slice A n cap, .int .i64 0] w fun e w' => e = .returned (.tuple #[.slice none 0 0, .int .i64 0]) ∧ Below w.heap.size w w' := by
  have hb1 : Below w.heap.size w w := Below.refl _ _
  have c2 : ¬ (n : Int) < 0 := by omega
  go_enter Tryd.func14, Tryd.ntmps14
  go_wp2_with fail
  go_ret2
  exact ⟨rfl, hb1⟩
set_option maxRecDepth 100000 in
set_option maxHeartbeats 1000000 in
theorem grow_in (n i : Nat) (ps : List (List (BitVec 8))) (hn : ps.length = n) (h1 : 1 ≤ i) (hi : i ≤ n) (hl : n < 4398046511104) (hm : ∀ j, j < ps.length → (ps.getD j []).length < 1152921504606846975) (b o cap : Nat) (hc : n ≤ cap) (w : World) (hK : Tab w 2) (hv : LsAt w b o ps) :
    Calls Tryd.prog 14 #[.slice (some ⟨b, o, none⟩) n cap, .int .i64 (i : Int)] w fun e w' => ∃ v, e = .returned (.tuple #[v, .int .i64 0]) ∧ w'.ownsRow w.heap.size 28 32 v (gr i ps true).length ((gr i ps true).flatMap vB) ∧ Below w.heap.size w w' := by
  have HP : Hid (Calls _ _ _ _ _) := growthOf_any n i true ps hn h1 hi hl hm b o cap hc w hK hv
  have c1 : ¬ (i : Int) < 0 := by omega
  have c2 : ¬ (n : Int) < (i : Int) := by omega
  have c3 : ¬ (i : Int) = 0 := by omega
  clear hm hK hv hn
  go_enter Tryd.func14, Tryd.ntmps14
  go_wp2_with fail
  refine HP.out.mono ?_
  rintro e w2 ⟨v2, rfl, hO, hB⟩
  go_wp2_with fail
  go_ret2
  exact ⟨v2, rfl, hO, hB⟩

end Go.Proofs.YtlknanjbiicghaaDoor
