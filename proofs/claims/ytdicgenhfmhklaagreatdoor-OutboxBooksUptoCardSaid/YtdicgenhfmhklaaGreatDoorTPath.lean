/-
  pathOf.
-/
import Derived.Test.YtdicgenhfmhklaaGreatDoorTApp
namespace Go.Proofs.YtdicgenhfmhklaaGreatDoor
open Go Go.RowKit
open Sha

theorem own_below {B N e size n : Nat} {w w' : World} {v : Value} {xs : List Value} (h : w.ownsRow N e size v n xs) (k : Below B w w') (hB : w.heap.size ≤ B) : w'.ownsRow N e size v n xs := by
  obtain ⟨h1, h2⟩ := h
  refine ⟨h1, ?_⟩
  rcases h2 with h2 | ⟨g, cap, cur, hv, hg, hh, r⟩
  · exact .inl h2
  · exact .inr ⟨g, cap, cur, hv, hg, (k.block g (Nat.lt_of_lt_of_le (Array.getElem?_eq_some_iff.1 hh).1 hB)).trans hh, r⟩
theorem own_less {M N e size n : Nat} {w : World} {v : Value} {xs : List Value} (h : w.ownsRow N e size v n xs) (hM : M ≤ N) : w.ownsRow M e size v n xs := by
  obtain ⟨h1, h2⟩ := h
  refine ⟨h1, ?_⟩
  rcases h2 with h2 | ⟨g, cap, cur, hv, hg, hh, r⟩
  · exact .inl h2
  · exact .inr ⟨g, cap, cur, hv, Nat.le_trans hM hg, hh, r⟩
theorem own_block {N e size n : Nat} {w : World} {v : Value} {xs : List Value} (h : w.ownsRow N e size v n xs) : ∀ k, v.ownBlock = some k → N ≤ k := by
  intro k hk
  rcases h.2 with ⟨h2, _⟩ | ⟨g', cap, cur, hv, hg, _⟩
  · rw [h2] at hk; simp [Value.ownBlock] at hk
  · rw [hv] at hk; simp [Value.ownBlock] at hk; omega
/-- A list of digests that was made here. -/
def SP.own (M n : Nat) (l : List Value) : SP := ⟨fun W v => W.ownsRow M 44 32 v n l, fun _ _ _ hB h => own_below h hB (Nat.le_refl _)⟩

/-- A turn of the world, asked of what has been carried out alone. -/
theorem Fp.turned {D : List (Tmp × SP)} {a0 : Act} {listed : Array Bool} {a : Act} {W W2 : World} (h : Fp D a0 listed a W) (hW : ∀ i p, D[i]? = some p → listed.getD i false = true → ∀ v, p.2.P W v → p.2.P W2 v) : Fp D a0 listed a W2 :=
  ⟨h.size, h.defers, h.keep, fun i p hp hl => hW i p hp hl _ (h.done i p hp hl), h.fresh⟩

set_option maxRecDepth 100000 in
set_option maxHeartbeats 1000000 in
theorem pathOf_one (A : Option Addr) (cap : Nat) (i : Int) (w : World) :
    Calls Tryz.prog 61 #[.slice A 1 cap, .int .i64 i] w fun e w' => ∃ v, e = .returned v ∧ w'.ownsRow w.heap.size 44 32 v 0 [] ∧ Below w.heap.size w w' := by
  go_enter Tryz.func61, Tryz.ntmps61
  go_wp2_with fail
  go_ret
  exact ⟨.slice none 0 0, rfl, ⟨rfl, .inl ⟨rfl, rfl⟩⟩, Below.refl _ _⟩

set_option maxRecDepth 100000 in
set_option maxHeartbeats 4000000 in
theorem pathOf_left (n i k p cap b o : Nat) (h2 : 2 ≤ n) (hn : n < 4611686018427387904) (hin : i < n) (hk : fpart n = k) (hik : i < k) (l : List Value) (r : List (BitVec 8)) (hr0 : r.length = 32) (hp : (p + 1) * 32 ≤ 140737488355328) (hc : n ≤ cap) (w : World)
    (hS : ∀ W, Below w.heap.size w W → Calls Tryz.prog 61 #[.slice (some ⟨b, o, none⟩) k cap, .int .i64 (i : Int)] W fun e w' => ∃ v, e = .returned v ∧ w'.ownsRow W.heap.size 44 32 v p l ∧ Below W.heap.size W w')
    (hR : ∀ W, Below w.heap.size w W → Calls Tryz.prog 24 #[.slice (some ⟨b, o + k, none⟩) (n - k) (cap - k)] W fun e w' => e = .returned (.agg (vB r).toArray) ∧ Below W.heap.size W w') :
    Calls Tryz.prog 61 #[.slice (some ⟨b, o, none⟩) n cap, .int .i64 (i : Int)] w fun e w' => ∃ v, e = .returned v ∧ w'.ownsRow w.heap.size 44 32 v (p + 1) (l ++ vB r) ∧ Below w.heap.size w w' := by
  have HR0 : Hid (r.length = 32) := hr0
  have HS : Hid (∀ W, _ → _) := hS
  have HR : Hid (∀ W, _ → _) := hR
  have HP : Hid ((p + 1) * 32 ≤ 140737488355328) := hp
  have HF : Hid (∀ w, _) := fun w => first_any n h2 hn w
  rw [hk] at HF
  have HKN : Hid (k < n) := by show _ < _; rw [← hk]; exact (fpart_bounds n h2 hn).1
  have n1 : ¬ (n : Int) = 1 := by omega
  have c1 : (i : Int) < (k : Int) := by omega
  have HN : Hid (n < 4611686018427387904) := hn
  have HIK : Hid (i < k) := hik
  have HIN : Hid (i < n) := hin
  have HC : Hid (n ≤ cap) := hc
  clear hr0 hS hR hk h2 hn hc hik hin hp
  have hb1 : Below w.heap.size w w := Below.refl _ _
  go_enter Tryz.func61, Tryz.ntmps61
  go_wp2_with (go_at_call 43; refine (HF.out _).mono ?_; rintro e w ⟨rfl, rfl⟩)
  refine wp_named fun a0 ha0 => ?_
  have hsz : a0.tmps.size = 39 := by rw [ha0]; rfl
  have s0 : a0.eval (.tmp 0) = .slice (some ⟨b, o, none⟩) n cap := by rw [ha0]; rfl
  have s1 : a0.eval (.tmp 1) = .int .i64 (i : Int) := by rw [ha0]; rfl
  have s5 : a0.eval (.tmp 5) = .int .i64 (k : Int) := by rw [ha0]; rfl
  obtain ⟨D, hD⟩ : ∃ D : List (Tmp × SP), D = [(15, SP.is (.slice (some ⟨b, o, none⟩) n cap)), (16, SP.is (.int .i64 (k : Int))), (17, SP.is (.slice (some ⟨b, o, none⟩) k cap)), (18, SP.is (.int .i64 (i : Int))), (19, SP.any), (20, SP.is (.slice (some ⟨b, o, none⟩) n cap)), (21, SP.is (.int .i64 (k : Int))), (22, SP.is (.slice (some ⟨b, o + k, none⟩) (n - k) (cap - k))), (23, SP.is (.agg (vB r).toArray)), (24, SP.any), (25, SP.own w.heap.size (p + 1) (l ++ vB r)), (4, SP.own w.heap.size (p + 1) (l ++ vB r))] := ⟨_, rfl⟩
  refine wp_region_down (by kernel_rfl) (fun listed ac W => listed.size = 12 ∧ Fp D a0 listed ac W ∧ Below w.heap.size w W ∧ (listed.getD 4 false = true → ¬ listed.getD 10 false = true → (SP.own w.heap.size p l).P W (ac.eval (.tmp 19))) ∧ (listed.getD 9 false = true → ¬ listed.getD 10 false = true → (SP.new 1 1 (vB r) 44).P W (ac.eval (.tmp 24)))) ?_ ?_ ?_
  · exact ⟨by simp, Fp.start D a0 _ _, Below.drew hb1, (fun h _ => (start_no h).elim), (fun h _ => (start_no h).elim)⟩
  · clear ha0 hb1  
    intro listed ac W k hI hdn hk
    obtain ⟨hl, hF, hb1, ti4, ti9⟩ := hI
    have hk1 : k < 12 := List.mem_range.1 (List.mem_filter.1 hk).1
    have hl2 : ∀ j, (listed.setIfInBounds j true).size = 12 := fun j => by rw [Array.size_setIfInBounds]; exact hl
    rcases (show k = 0 ∨ k = 1 ∨ k = 2 ∨ k = 3 ∨ k = 4 ∨ k = 5 ∨ k = 6 ∨ k = 7 ∨ k = 8 ∨ k = 9 ∨ k = 10 ∨ k = 11 by omega) with rfl | rfl | rfl | rfl | rfl | rfl | rfl | rfl | rfl | rfl | rfl | rfl
    · have hk3 := hk
      exact wpOp_plain rfl rfl (wp_move_v (ac.eval (.tmp 0)) rfl rfl ⟨hl2 0, (hF.put 0 15 (SP.is (.slice (some ⟨b, o, none⟩) n cap)) (ac.eval (.tmp 0)) (by rw [hD]; rfl) (((hF.keep 0 (by rw [hD]; rfl)).trans s0)) (by rw [hD]; rfl) (by rw [hsz]; decide) (by rw [hl]; decide)), hb1, (fun h1 h2 => by change (SP.own w.heap.size p l).P _ ((ac.put (some 15) _).eval (.tmp 19)); rw [eval_put_other ac _ (by decide)]; exact ti4 (by rwa [getD_set _ _ _ (by decide)] at h1) (by rwa [getD_set _ _ _ (by decide)] at h2)), (fun h1 h2 => by change (SP.new 1 1 (vB r) 44).P _ ((ac.put (some 15) _).eval (.tmp 24)); rw [eval_put_other ac _ (by decide)]; exact ti9 (by rwa [getD_set _ _ _ (by decide)] at h1) (by rwa [getD_set _ _ _ (by decide)] at h2))⟩)
    · have hk3 := hk
      exact wpOp_plain rfl rfl (wp_move_v (ac.eval (.tmp 5)) rfl rfl ⟨hl2 1, (hF.put 1 16 (SP.is (.int .i64 (k : Int))) (ac.eval (.tmp 5)) (by rw [hD]; rfl) (((hF.keep 5 (by rw [hD]; rfl)).trans s5)) (by rw [hD]; rfl) (by rw [hsz]; decide) (by rw [hl]; decide)), hb1, (fun h1 h2 => by change (SP.own w.heap.size p l).P _ ((ac.put (some 16) _).eval (.tmp 19)); rw [eval_put_other ac _ (by decide)]; exact ti4 (by rwa [getD_set _ _ _ (by decide)] at h1) (by rwa [getD_set _ _ _ (by decide)] at h2)), (fun h1 h2 => by change (SP.new 1 1 (vB r) 44).P _ ((ac.put (some 16) _).eval (.tmp 24)); rw [eval_put_other ac _ (by decide)]; exact ti9 (by rwa [getD_set _ _ _ (by decide)] at h1) (by rwa [getD_set _ _ _ (by decide)] at h2))⟩)
    · have hk3 := hk
      have ea := (hF.done 0 (15, SP.is (.slice (some ⟨b, o, none⟩) n cap)) (by rw [hD]; rfl) (ready_dep hk 0 (by kernel_rfl)))
      have eb := (hF.done 1 (16, SP.is (.int .i64 (k : Int))) (by rw [hD]; rfl) (ready_dep hk 1 (by kernel_rfl)))
      exact wpOp_plain rfl rfl (wp_slice_to 27 54 (.tmp 15) (.tmp 16) b o n cap k rfl ea eb (Nat.le_trans (Nat.le_of_lt HKN.out) HC.out) Tryz.underlying27 info_slbT ⟨hl2 2, (hF.put 2 17 (SP.is (.slice (some ⟨b, o, none⟩) k cap)) (.slice (some ⟨b, o, none⟩) k cap) (by rw [hD]; rfl) rfl (by rw [hD]; rfl) (by rw [hsz]; decide) (by rw [hl]; decide)), hb1, (fun h1 h2 => by change (SP.own w.heap.size p l).P _ ((ac.put (some 17) _).eval (.tmp 19)); rw [eval_put_other ac _ (by decide)]; exact ti4 (by rwa [getD_set _ _ _ (by decide)] at h1) (by rwa [getD_set _ _ _ (by decide)] at h2)), (fun h1 h2 => by change (SP.new 1 1 (vB r) 44).P _ ((ac.put (some 17) _).eval (.tmp 24)); rw [eval_put_other ac _ (by decide)]; exact ti9 (by rwa [getD_set _ _ _ (by decide)] at h1) (by rwa [getD_set _ _ _ (by decide)] at h2))⟩)
    · have hk3 := hk
      exact wpOp_plain rfl rfl (wp_move_v (ac.eval (.tmp 1)) rfl rfl ⟨hl2 3, (hF.put 3 18 (SP.is (.int .i64 (i : Int))) (ac.eval (.tmp 1)) (by rw [hD]; rfl) (((hF.keep 1 (by rw [hD]; rfl)).trans s1)) (by rw [hD]; rfl) (by rw [hsz]; decide) (by rw [hl]; decide)), hb1, (fun h1 h2 => by change (SP.own w.heap.size p l).P _ ((ac.put (some 18) _).eval (.tmp 19)); rw [eval_put_other ac _ (by decide)]; exact ti4 (by rwa [getD_set _ _ _ (by decide)] at h1) (by rwa [getD_set _ _ _ (by decide)] at h2)), (fun h1 h2 => by change (SP.new 1 1 (vB r) 44).P _ ((ac.put (some 18) _).eval (.tmp 24)); rw [eval_put_other ac _ (by decide)]; exact ti9 (by rwa [getD_set _ _ _ (by decide)] at h1) (by rwa [getD_set _ _ _ (by decide)] at h2))⟩)
    · have hk3 := hk
      have ea := (hF.done 2 (17, SP.is (.slice (some ⟨b, o, none⟩) k cap)) (by rw [hD]; rfl) (ready_dep hk 2 (by kernel_rfl)))
      have eb := (hF.done 3 (18, SP.is (.int .i64 (i : Int))) (by rw [hD]; rfl) (ready_dep hk 3 (by kernel_rfl)))
      refine wpOp_plain rfl rfl (wp_fcall_v 61 #[.slice (some ⟨b, o, none⟩) k cap, .int .i64 (i : Int)] rfl rfl (by show [ac.eval (.tmp 17), ac.eval (.tmp 18)] = _; rw [show ac.eval (.tmp 17) = _ from ea, show ac.eval (.tmp 18) = _ from eb]) (by go_simp) ((HS.out W hb1).mono ?_))
      rintro e W2 ⟨v2, rfl, hO, hB⟩
      exact ⟨_, rfl, hl2 4, ((hF.world hB).put 4 19 (SP.any) v2 (by rw [hD]; rfl) trivial (by rw [hD]; rfl) (by rw [hsz]; decide) (by rw [hl]; decide)), hb1.trans (hB.mono hb1.size), (fun _ _ => by change (SP.own w.heap.size p l).P _ ((ac.put (some 19) _).eval (.tmp 19)); rw [eval_put_same ac _ (by rw [hF.size, hsz]; decide)]; exact own_less hO hb1.size), (fun h1 h2 => by change (SP.new 1 1 (vB r) 44).P _ ((ac.put (some 19) _).eval (.tmp 24)); rw [eval_put_other ac _ (by decide)]; exact (SP.new 1 1 (vB r) 44).st _ _ _ hB (ti9 (by rwa [getD_set _ _ _ (by decide)] at h1) (by rwa [getD_set _ _ _ (by decide)] at h2)))⟩
    · have hk3 := hk
      exact wpOp_plain rfl rfl (wp_move_v (ac.eval (.tmp 0)) rfl rfl ⟨hl2 5, (hF.put 5 20 (SP.is (.slice (some ⟨b, o, none⟩) n cap)) (ac.eval (.tmp 0)) (by rw [hD]; rfl) (((hF.keep 0 (by rw [hD]; rfl)).trans s0)) (by rw [hD]; rfl) (by rw [hsz]; decide) (by rw [hl]; decide)), hb1, (fun h1 h2 => by change (SP.own w.heap.size p l).P _ ((ac.put (some 20) _).eval (.tmp 19)); rw [eval_put_other ac _ (by decide)]; exact ti4 (by rwa [getD_set _ _ _ (by decide)] at h1) (by rwa [getD_set _ _ _ (by decide)] at h2)), (fun h1 h2 => by change (SP.new 1 1 (vB r) 44).P _ ((ac.put (some 20) _).eval (.tmp 24)); rw [eval_put_other ac _ (by decide)]; exact ti9 (by rwa [getD_set _ _ _ (by decide)] at h1) (by rwa [getD_set _ _ _ (by decide)] at h2))⟩)
    · have hk3 := hk
      exact wpOp_plain rfl rfl (wp_move_v (ac.eval (.tmp 5)) rfl rfl ⟨hl2 6, (hF.put 6 21 (SP.is (.int .i64 (k : Int))) (ac.eval (.tmp 5)) (by rw [hD]; rfl) (((hF.keep 5 (by rw [hD]; rfl)).trans s5)) (by rw [hD]; rfl) (by rw [hsz]; decide) (by rw [hl]; decide)), hb1, (fun h1 h2 => by change (SP.own w.heap.size p l).P _ ((ac.put (some 21) _).eval (.tmp 19)); rw [eval_put_other ac _ (by decide)]; exact ti4 (by rwa [getD_set _ _ _ (by decide)] at h1) (by rwa [getD_set _ _ _ (by decide)] at h2)), (fun h1 h2 => by change (SP.new 1 1 (vB r) 44).P _ ((ac.put (some 21) _).eval (.tmp 24)); rw [eval_put_other ac _ (by decide)]; exact ti9 (by rwa [getD_set _ _ _ (by decide)] at h1) (by rwa [getD_set _ _ _ (by decide)] at h2))⟩)
    · have hk3 := hk
      have ea := (hF.done 5 (20, SP.is (.slice (some ⟨b, o, none⟩) n cap)) (by rw [hD]; rfl) (ready_dep hk 5 (by kernel_rfl)))
      have eb := (hF.done 6 (21, SP.is (.int .i64 (k : Int))) (by rw [hD]; rfl) (ready_dep hk 6 (by kernel_rfl)))
      exact wpOp_plain rfl rfl (wp_slice_on 27 54 (.tmp 20) (.tmp 21) b o n cap k rfl ea eb (Nat.le_of_lt HKN.out) (Nat.lt_of_lt_of_le HKN.out HC.out) Tryz.underlying27 info_slbT ⟨hl2 7, (hF.put 7 22 (SP.is (.slice (some ⟨b, o + k, none⟩) (n - k) (cap - k))) (.slice (some ⟨b, o + k, none⟩) (n - k) (cap - k)) (by rw [hD]; rfl) rfl (by rw [hD]; rfl) (by rw [hsz]; decide) (by rw [hl]; decide)), hb1, (fun h1 h2 => by change (SP.own w.heap.size p l).P _ ((ac.put (some 22) _).eval (.tmp 19)); rw [eval_put_other ac _ (by decide)]; exact ti4 (by rwa [getD_set _ _ _ (by decide)] at h1) (by rwa [getD_set _ _ _ (by decide)] at h2)), (fun h1 h2 => by change (SP.new 1 1 (vB r) 44).P _ ((ac.put (some 22) _).eval (.tmp 24)); rw [eval_put_other ac _ (by decide)]; exact ti9 (by rwa [getD_set _ _ _ (by decide)] at h1) (by rwa [getD_set _ _ _ (by decide)] at h2))⟩)
    · have hk3 := hk
      have ea := (hF.done 7 (22, SP.is (.slice (some ⟨b, o + k, none⟩) (n - k) (cap - k))) (by rw [hD]; rfl) (ready_dep hk 7 (by kernel_rfl)))
      refine wpOp_plain rfl rfl (wp_fcall_v 24 #[.slice (some ⟨b, o + k, none⟩) (n - k) (cap - k)] rfl rfl (by show [ac.eval (.tmp 22)] = _; rw [show ac.eval (.tmp 22) = _ from ea]) (by go_simp) ((HR.out W hb1).mono ?_))
      rintro e W2 ⟨rfl, hB⟩
      exact ⟨_, rfl, hl2 8, ((hF.world hB).put 8 23 (SP.is (.agg (vB r).toArray)) (.agg (vB r).toArray) (by rw [hD]; rfl) rfl (by rw [hD]; rfl) (by rw [hsz]; decide) (by rw [hl]; decide)), hb1.trans (hB.mono hb1.size), (fun h1 h2 => by change (SP.own w.heap.size p l).P _ ((ac.put (some 23) _).eval (.tmp 19)); rw [eval_put_other ac _ (by decide)]; exact (SP.own w.heap.size p l).st _ _ _ hB (ti4 (by rwa [getD_set _ _ _ (by decide)] at h1) (by rwa [getD_set _ _ _ (by decide)] at h2))), (fun h1 h2 => by change (SP.new 1 1 (vB r) 44).P _ ((ac.put (some 23) _).eval (.tmp 24)); rw [eval_put_other ac _ (by decide)]; exact (SP.new 1 1 (vB r) 44).st _ _ _ hB (ti9 (by rwa [getD_set _ _ _ (by decide)] at h1) (by rwa [getD_set _ _ _ (by decide)] at h2)))⟩
    · have hk3 := hk
      have ea := (hF.done 8 (23, SP.is (.agg (vB r).toArray)) (by rw [hD]; rfl) (ready_dep hk 8 (by kernel_rfl)))
      have hB : Below W.heap.size W (W.alloc (Obj.cells (vB r).toArray 44)) := (Below.refl _ _).alloc (Nat.le_refl _) _
      exact wpOp_plain rfl rfl (wp_build_d (.tmp 23) rfl r HR0.out ea ⟨hl2 9, ((hF.world hB).put 9 24 (SP.any) (.slice (some ⟨W.heap.size, 0, none⟩) 1 1) (by rw [hD]; rfl) trivial (by rw [hD]; rfl) (by rw [hsz]; decide) (by rw [hl]; decide)), hb1.alloc hb1.size _, (fun h1 h2 => by change (SP.own w.heap.size p l).P _ ((ac.put (some 24) _).eval (.tmp 19)); rw [eval_put_other ac _ (by decide)]; exact (SP.own w.heap.size p l).st _ _ _ hB (ti4 (by rwa [getD_set _ _ _ (by decide)] at h1) (by rwa [getD_set _ _ _ (by decide)] at h2))), (fun _ _ => by change (SP.new 1 1 (vB r) 44).P _ ((ac.put (some 24) _).eval (.tmp 24)); rw [eval_put_same ac _ (by rw [hF.size, hsz]; decide)]; exact ⟨W.heap.size, rfl, Row.new' rfl rfl⟩)⟩)
    · have hk3 := hk
      have hw := (ti4 (ready_dep hk 4 (by kernel_rfl)) (not_yet hk))
      obtain ⟨N, ex, rN⟩ := (ti9 (ready_dep hk 9 (by kernel_rfl)) (not_yet hk))
      refine wpOp_plain rfl rfl (wp_append_d (.tmp 19) (.tmp 24) rfl w.heap.size N p _ l r HR0.out hw rfl ex rN HP.out hb1.size ?_)
      intro v2 W2 hO hG
      have hno : ¬ listed.getD 10 false = true := not_yet hk
      have hno11 : ¬ listed.getD 11 false = true := fun h => hno (hdn 11 h 10 (by kernel_rfl))
      have hT : Fp D a0 listed ac W2 := hF.turned (by
        rw [hD]
        intro q p hq hl3 v hv
        have hq1 : q < 12 := (List.getElem?_eq_some_iff.1 hq).1
        rcases (show q = 0 ∨ q = 1 ∨ q = 2 ∨ q = 3 ∨ q = 4 ∨ q = 5 ∨ q = 6 ∨ q = 7 ∨ q = 8 ∨ q = 9 ∨ q = 10 ∨ q = 11 by omega) with rfl | rfl | rfl | rfl | rfl | rfl | rfl | rfl | rfl | rfl | rfl | rfl
        · obtain rfl := Option.some.inj hq; exact hv
        · obtain rfl := Option.some.inj hq; exact hv
        · obtain rfl := Option.some.inj hq; exact hv
        · obtain rfl := Option.some.inj hq; exact hv
        · obtain rfl := Option.some.inj hq; exact hv
        · obtain rfl := Option.some.inj hq; exact hv
        · obtain rfl := Option.some.inj hq; exact hv
        · obtain rfl := Option.some.inj hq; exact hv
        · obtain rfl := Option.some.inj hq; exact hv
        · obtain rfl := Option.some.inj hq; exact hv
        · exact absurd hl3 hno
        · exact absurd hl3 hno11
        )
      exact ⟨hl2 10, (hT.put 10 25 (SP.own w.heap.size (p + 1) (l ++ vB r)) v2 (by rw [hD]; rfl) hO (by rw [hD]; rfl) (by rw [hsz]; decide) (by rw [hl]; decide)), hb1.grown hG hb1.size (own_block hw), (fun _ h => absurd (getD_same (by rw [hl]; decide)) h), (fun _ h => absurd (getD_same (by rw [hl]; decide)) h)⟩
    · have hk3 := hk
      exact wpOp_plain rfl rfl (wp_assign_v (ac.eval (.tmp 25)) rfl rfl ⟨hl2 11, (hF.put 11 4 (SP.own w.heap.size (p + 1) (l ++ vB r)) (ac.eval (.tmp 25)) (by rw [hD]; rfl) ((hF.done 10 (25, SP.own w.heap.size (p + 1) (l ++ vB r)) (by rw [hD]; rfl) (ready_dep hk 10 (by kernel_rfl)))) (by rw [hD]; rfl) (by rw [hsz]; decide) (by rw [hl]; decide)), hb1, (fun h1 h2 => by change (SP.own w.heap.size p l).P _ ((ac.put (some 4) _).eval (.tmp 19)); rw [eval_put_other ac _ (by decide)]; exact ti4 (by rwa [getD_set _ _ _ (by decide)] at h1) (by rwa [getD_set _ _ _ (by decide)] at h2)), (fun h1 h2 => by change (SP.new 1 1 (vB r) 44).P _ ((ac.put (some 4) _).eval (.tmp 24)); rw [eval_put_other ac _ (by decide)]; exact ti9 (by rwa [getD_set _ _ _ (by decide)] at h1) (by rwa [getD_set _ _ _ (by decide)] at h2))⟩)
  · clear hb1  
    intro listed ac W hI hr
    obtain ⟨hl, hF, hb1, ti4, ti9⟩ := hI
    have hall := all_listed (by kernel_rfl) hl hr
    have h15 : ac.eval (.tmp 15) = .slice (some ⟨b, o, none⟩) n cap := hF.done 0 (15, SP.is (.slice (some ⟨b, o, none⟩) n cap)) (by rw [hD]; rfl) (hall 0 (by decide))
    have h16 : ac.eval (.tmp 16) = .int .i64 (k : Int) := hF.done 1 (16, SP.is (.int .i64 (k : Int))) (by rw [hD]; rfl) (hall 1 (by decide))
    have h17 : ac.eval (.tmp 17) = .slice (some ⟨b, o, none⟩) k cap := hF.done 2 (17, SP.is (.slice (some ⟨b, o, none⟩) k cap)) (by rw [hD]; rfl) (hall 2 (by decide))
    have h18 : ac.eval (.tmp 18) = .int .i64 (i : Int) := hF.done 3 (18, SP.is (.int .i64 (i : Int))) (by rw [hD]; rfl) (hall 3 (by decide))
    obtain ⟨x19, h19⟩ : ∃ x, ac.eval (.tmp 19) = x := ⟨_, rfl⟩
    have h20 : ac.eval (.tmp 20) = .slice (some ⟨b, o, none⟩) n cap := hF.done 5 (20, SP.is (.slice (some ⟨b, o, none⟩) n cap)) (by rw [hD]; rfl) (hall 5 (by decide))
    have h21 : ac.eval (.tmp 21) = .int .i64 (k : Int) := hF.done 6 (21, SP.is (.int .i64 (k : Int))) (by rw [hD]; rfl) (hall 6 (by decide))
    have h22 : ac.eval (.tmp 22) = .slice (some ⟨b, o + k, none⟩) (n - k) (cap - k) := hF.done 7 (22, SP.is (.slice (some ⟨b, o + k, none⟩) (n - k) (cap - k))) (by rw [hD]; rfl) (hall 7 (by decide))
    have h23 : ac.eval (.tmp 23) = .agg (vB r).toArray := hF.done 8 (23, SP.is (.agg (vB r).toArray)) (by rw [hD]; rfl) (hall 8 (by decide))
    obtain ⟨x24, h24⟩ : ∃ x, ac.eval (.tmp 24) = x := ⟨_, rfl⟩
    obtain ⟨x25, h25⟩ : ∃ x, ac.eval (.tmp 25) = x := ⟨_, rfl⟩
    have f4 := hF.done 11 (4, SP.own w.heap.size (p + 1) (l ++ vB r)) (by rw [hD]; rfl) (hall 11 (by decide))
    obtain ⟨x4, h4⟩ : ∃ x, ac.eval (.tmp 4) = x := ⟨_, rfl⟩
    replace f4 : (SP.own w.heap.size (p + 1) (l ++ vB r)).P W x4 := by rw [← h4]; exact f4
    have ea := hF.lay [(15, .slice (some ⟨b, o, none⟩) n cap), (16, .int .i64 (k : Int)), (17, .slice (some ⟨b, o, none⟩) k cap), (18, .int .i64 (i : Int)), (19, x19), (20, .slice (some ⟨b, o, none⟩) n cap), (21, .int .i64 (k : Int)), (22, .slice (some ⟨b, o + k, none⟩) (n - k) (cap - k)), (23, .agg (vB r).toArray), (24, x24), (25, x25), (4, x4)] (by rw [hD, hsz]; rfl) (by simp only [List.forall_mem_cons, List.not_mem_nil, false_implies, implies_true, and_true]; exact ⟨h15, h16, h17, h18, h19, h20, h21, h22, h23, h24, h25, h4⟩)
    rw [ha0] at ea
    simp only [List.foldl_cons, List.foldl_nil, List.setIfInBounds_toArray, List.set_cons_zero, List.set_cons_succ] at ea
    clear hF hall hr hl hD ti4 ti9 s0 s1 s5 ha0 hsz h15 h16 h17 h18 h19 h20 h21 h22 h23 h24 h25 h4
    subst ea
    go_wp2_with fail
    go_ret
    exact ⟨x4, rfl, f4, hb1⟩

set_option maxRecDepth 100000 in
set_option maxHeartbeats 4000000 in
theorem pathOf_right (n i k p cap b o : Nat) (h2 : 2 ≤ n) (hn : n < 4611686018427387904) (hin : i < n) (hk : fpart n = k) (hik : ¬ i < k) (l : List Value) (r : List (BitVec 8)) (hr0 : r.length = 32) (hp : (p + 1) * 32 ≤ 140737488355328) (hc : n ≤ cap) (w : World)
    (hS : ∀ W, Below w.heap.size w W → Calls Tryz.prog 61 #[.slice (some ⟨b, o + k, none⟩) (n - k) (cap - k), .int .i64 ((i - k : Nat) : Int)] W fun e w' => ∃ v, e = .returned v ∧ w'.ownsRow W.heap.size 44 32 v p l ∧ Below W.heap.size W w')
    (hR : ∀ W, Below w.heap.size w W → Calls Tryz.prog 24 #[.slice (some ⟨b, o, none⟩) k cap] W fun e w' => e = .returned (.agg (vB r).toArray) ∧ Below W.heap.size W w') :
    Calls Tryz.prog 61 #[.slice (some ⟨b, o, none⟩) n cap, .int .i64 (i : Int)] w fun e w' => ∃ v, e = .returned v ∧ w'.ownsRow w.heap.size 44 32 v (p + 1) (l ++ vB r) ∧ Below w.heap.size w w' := by
  have HR0 : Hid (r.length = 32) := hr0
  have HS : Hid (∀ W, _ → _) := hS
  have HR : Hid (∀ W, _ → _) := hR
  have HP : Hid ((p + 1) * 32 ≤ 140737488355328) := hp
  have HF : Hid (∀ w, _) := fun w => first_any n h2 hn w
  rw [hk] at HF
  have HKN : Hid (k < n) := by show _ < _; rw [← hk]; exact (fpart_bounds n h2 hn).1
  have n1 : ¬ (n : Int) = 1 := by omega
  have c1 : ¬ (i : Int) < (k : Int) := by omega
  have HN : Hid (n < 4611686018427387904) := hn
  have HIK : Hid (¬ i < k) := hik
  have HIN : Hid (i < n) := hin
  have HC : Hid (n ≤ cap) := hc
  clear hr0 hS hR hk h2 hn hc hik hin hp
  have hb1 : Below w.heap.size w w := Below.refl _ _
  go_enter Tryz.func61, Tryz.ntmps61
  go_wp2_with (go_at_call 43; refine (HF.out _).mono ?_; rintro e w ⟨rfl, rfl⟩)
  refine wp_named fun a0 ha0 => ?_
  have hsz : a0.tmps.size = 39 := by rw [ha0]; rfl
  have s0 : a0.eval (.tmp 0) = .slice (some ⟨b, o, none⟩) n cap := by rw [ha0]; rfl
  have s1 : a0.eval (.tmp 1) = .int .i64 (i : Int) := by rw [ha0]; rfl
  have s5 : a0.eval (.tmp 5) = .int .i64 (k : Int) := by rw [ha0]; rfl
  obtain ⟨D, hD⟩ : ∃ D : List (Tmp × SP), D = [(26, SP.is (.slice (some ⟨b, o, none⟩) n cap)), (27, SP.is (.int .i64 (k : Int))), (28, SP.is (.slice (some ⟨b, o + k, none⟩) (n - k) (cap - k))), (29, SP.is (.int .i64 (i : Int))), (30, SP.is (.int .i64 (k : Int))), (31, SP.is (.int .i64 ((i - k : Nat) : Int))), (32, SP.any), (33, SP.is (.slice (some ⟨b, o, none⟩) n cap)), (34, SP.is (.int .i64 (k : Int))), (35, SP.is (.slice (some ⟨b, o, none⟩) k cap)), (36, SP.is (.agg (vB r).toArray)), (37, SP.any), (38, SP.own w.heap.size (p + 1) (l ++ vB r)), (4, SP.own w.heap.size (p + 1) (l ++ vB r))] := ⟨_, rfl⟩
  refine wp_region_down (by kernel_rfl) (fun listed ac W => listed.size = 14 ∧ Fp D a0 listed ac W ∧ Below w.heap.size w W ∧ (listed.getD 6 false = true → ¬ listed.getD 12 false = true → (SP.own w.heap.size p l).P W (ac.eval (.tmp 32))) ∧ (listed.getD 11 false = true → ¬ listed.getD 12 false = true → (SP.new 1 1 (vB r) 44).P W (ac.eval (.tmp 37)))) ?_ ?_ ?_
  · exact ⟨by simp, Fp.start D a0 _ _, Below.drew hb1, (fun h _ => (start_no h).elim), (fun h _ => (start_no h).elim)⟩
  · clear ha0 hb1  
    intro listed ac W k hI hdn hk
    obtain ⟨hl, hF, hb1, ti6, ti11⟩ := hI
    have hk1 : k < 14 := List.mem_range.1 (List.mem_filter.1 hk).1
    have hl2 : ∀ j, (listed.setIfInBounds j true).size = 14 := fun j => by rw [Array.size_setIfInBounds]; exact hl
    rcases (show k = 0 ∨ k = 1 ∨ k = 2 ∨ k = 3 ∨ k = 4 ∨ k = 5 ∨ k = 6 ∨ k = 7 ∨ k = 8 ∨ k = 9 ∨ k = 10 ∨ k = 11 ∨ k = 12 ∨ k = 13 by omega) with rfl | rfl | rfl | rfl | rfl | rfl | rfl | rfl | rfl | rfl | rfl | rfl | rfl | rfl
    · have hk3 := hk
      exact wpOp_plain rfl rfl (wp_move_v (ac.eval (.tmp 0)) rfl rfl ⟨hl2 0, (hF.put 0 26 (SP.is (.slice (some ⟨b, o, none⟩) n cap)) (ac.eval (.tmp 0)) (by rw [hD]; rfl) (((hF.keep 0 (by rw [hD]; rfl)).trans s0)) (by rw [hD]; rfl) (by rw [hsz]; decide) (by rw [hl]; decide)), hb1, (fun h1 h2 => by change (SP.own w.heap.size p l).P _ ((ac.put (some 26) _).eval (.tmp 32)); rw [eval_put_other ac _ (by decide)]; exact ti6 (by rwa [getD_set _ _ _ (by decide)] at h1) (by rwa [getD_set _ _ _ (by decide)] at h2)), (fun h1 h2 => by change (SP.new 1 1 (vB r) 44).P _ ((ac.put (some 26) _).eval (.tmp 37)); rw [eval_put_other ac _ (by decide)]; exact ti11 (by rwa [getD_set _ _ _ (by decide)] at h1) (by rwa [getD_set _ _ _ (by decide)] at h2))⟩)
    · have hk3 := hk
      exact wpOp_plain rfl rfl (wp_move_v (ac.eval (.tmp 5)) rfl rfl ⟨hl2 1, (hF.put 1 27 (SP.is (.int .i64 (k : Int))) (ac.eval (.tmp 5)) (by rw [hD]; rfl) (((hF.keep 5 (by rw [hD]; rfl)).trans s5)) (by rw [hD]; rfl) (by rw [hsz]; decide) (by rw [hl]; decide)), hb1, (fun h1 h2 => by change (SP.own w.heap.size p l).P _ ((ac.put (some 27) _).eval (.tmp 32)); rw [eval_put_other ac _ (by decide)]; exact ti6 (by rwa [getD_set _ _ _ (by decide)] at h1) (by rwa [getD_set _ _ _ (by decide)] at h2)), (fun h1 h2 => by change (SP.new 1 1 (vB r) 44).P _ ((ac.put (some 27) _).eval (.tmp 37)); rw [eval_put_other ac _ (by decide)]; exact ti11 (by rwa [getD_set _ _ _ (by decide)] at h1) (by rwa [getD_set _ _ _ (by decide)] at h2))⟩)
    · have hk3 := hk
      have ea := (hF.done 0 (26, SP.is (.slice (some ⟨b, o, none⟩) n cap)) (by rw [hD]; rfl) (ready_dep hk 0 (by kernel_rfl)))
      have eb := (hF.done 1 (27, SP.is (.int .i64 (k : Int))) (by rw [hD]; rfl) (ready_dep hk 1 (by kernel_rfl)))
      exact wpOp_plain rfl rfl (wp_slice_on 27 54 (.tmp 26) (.tmp 27) b o n cap k rfl ea eb (Nat.le_of_lt HKN.out) (Nat.lt_of_lt_of_le HKN.out HC.out) Tryz.underlying27 info_slbT ⟨hl2 2, (hF.put 2 28 (SP.is (.slice (some ⟨b, o + k, none⟩) (n - k) (cap - k))) (.slice (some ⟨b, o + k, none⟩) (n - k) (cap - k)) (by rw [hD]; rfl) rfl (by rw [hD]; rfl) (by rw [hsz]; decide) (by rw [hl]; decide)), hb1, (fun h1 h2 => by change (SP.own w.heap.size p l).P _ ((ac.put (some 28) _).eval (.tmp 32)); rw [eval_put_other ac _ (by decide)]; exact ti6 (by rwa [getD_set _ _ _ (by decide)] at h1) (by rwa [getD_set _ _ _ (by decide)] at h2)), (fun h1 h2 => by change (SP.new 1 1 (vB r) 44).P _ ((ac.put (some 28) _).eval (.tmp 37)); rw [eval_put_other ac _ (by decide)]; exact ti11 (by rwa [getD_set _ _ _ (by decide)] at h1) (by rwa [getD_set _ _ _ (by decide)] at h2))⟩)
    · have hk3 := hk
      exact wpOp_plain rfl rfl (wp_move_v (ac.eval (.tmp 1)) rfl rfl ⟨hl2 3, (hF.put 3 29 (SP.is (.int .i64 (i : Int))) (ac.eval (.tmp 1)) (by rw [hD]; rfl) (((hF.keep 1 (by rw [hD]; rfl)).trans s1)) (by rw [hD]; rfl) (by rw [hsz]; decide) (by rw [hl]; decide)), hb1, (fun h1 h2 => by change (SP.own w.heap.size p l).P _ ((ac.put (some 29) _).eval (.tmp 32)); rw [eval_put_other ac _ (by decide)]; exact ti6 (by rwa [getD_set _ _ _ (by decide)] at h1) (by rwa [getD_set _ _ _ (by decide)] at h2)), (fun h1 h2 => by change (SP.new 1 1 (vB r) 44).P _ ((ac.put (some 29) _).eval (.tmp 37)); rw [eval_put_other ac _ (by decide)]; exact ti11 (by rwa [getD_set _ _ _ (by decide)] at h1) (by rwa [getD_set _ _ _ (by decide)] at h2))⟩)
    · have hk3 := hk
      exact wpOp_plain rfl rfl (wp_move_v (ac.eval (.tmp 5)) rfl rfl ⟨hl2 4, (hF.put 4 30 (SP.is (.int .i64 (k : Int))) (ac.eval (.tmp 5)) (by rw [hD]; rfl) (((hF.keep 5 (by rw [hD]; rfl)).trans s5)) (by rw [hD]; rfl) (by rw [hsz]; decide) (by rw [hl]; decide)), hb1, (fun h1 h2 => by change (SP.own w.heap.size p l).P _ ((ac.put (some 30) _).eval (.tmp 32)); rw [eval_put_other ac _ (by decide)]; exact ti6 (by rwa [getD_set _ _ _ (by decide)] at h1) (by rwa [getD_set _ _ _ (by decide)] at h2)), (fun h1 h2 => by change (SP.new 1 1 (vB r) 44).P _ ((ac.put (some 30) _).eval (.tmp 37)); rw [eval_put_other ac _ (by decide)]; exact ti11 (by rwa [getD_set _ _ _ (by decide)] at h1) (by rwa [getD_set _ _ _ (by decide)] at h2))⟩)
    · have hk3 := hk
      have ea := (hF.done 3 (29, SP.is (.int .i64 (i : Int))) (by rw [hD]; rfl) (ready_dep hk 3 (by kernel_rfl)))
      have eb := (hF.done 4 (30, SP.is (.int .i64 (k : Int))) (by rw [hD]; rfl) (ready_dep hk 4 (by kernel_rfl)))
      exact wpOp_plain rfl rfl (wp_sub_v _ _ rfl ea eb (Nat.le_of_not_lt HIK.out) (Nat.lt_trans HIN.out HN.out) ⟨hl2 5, (hF.put 5 31 (SP.is (.int .i64 ((i - k : Nat) : Int))) (.int .i64 ((i - k : Nat) : Int)) (by rw [hD]; rfl) rfl (by rw [hD]; rfl) (by rw [hsz]; decide) (by rw [hl]; decide)), hb1, (fun h1 h2 => by change (SP.own w.heap.size p l).P _ ((ac.put (some 31) _).eval (.tmp 32)); rw [eval_put_other ac _ (by decide)]; exact ti6 (by rwa [getD_set _ _ _ (by decide)] at h1) (by rwa [getD_set _ _ _ (by decide)] at h2)), (fun h1 h2 => by change (SP.new 1 1 (vB r) 44).P _ ((ac.put (some 31) _).eval (.tmp 37)); rw [eval_put_other ac _ (by decide)]; exact ti11 (by rwa [getD_set _ _ _ (by decide)] at h1) (by rwa [getD_set _ _ _ (by decide)] at h2))⟩)
    · have hk3 := hk
      have ea := (hF.done 2 (28, SP.is (.slice (some ⟨b, o + k, none⟩) (n - k) (cap - k))) (by rw [hD]; rfl) (ready_dep hk 2 (by kernel_rfl)))
      have eb := (hF.done 5 (31, SP.is (.int .i64 ((i - k : Nat) : Int))) (by rw [hD]; rfl) (ready_dep hk 5 (by kernel_rfl)))
      refine wpOp_plain rfl rfl (wp_fcall_v 61 #[.slice (some ⟨b, o + k, none⟩) (n - k) (cap - k), .int .i64 ((i - k : Nat) : Int)] rfl rfl (by show [ac.eval (.tmp 28), ac.eval (.tmp 31)] = _; rw [show ac.eval (.tmp 28) = _ from ea, show ac.eval (.tmp 31) = _ from eb]) (by go_simp) ((HS.out W hb1).mono ?_))
      rintro e W2 ⟨v2, rfl, hO, hB⟩
      exact ⟨_, rfl, hl2 6, ((hF.world hB).put 6 32 (SP.any) v2 (by rw [hD]; rfl) trivial (by rw [hD]; rfl) (by rw [hsz]; decide) (by rw [hl]; decide)), hb1.trans (hB.mono hb1.size), (fun _ _ => by change (SP.own w.heap.size p l).P _ ((ac.put (some 32) _).eval (.tmp 32)); rw [eval_put_same ac _ (by rw [hF.size, hsz]; decide)]; exact own_less hO hb1.size), (fun h1 h2 => by change (SP.new 1 1 (vB r) 44).P _ ((ac.put (some 32) _).eval (.tmp 37)); rw [eval_put_other ac _ (by decide)]; exact (SP.new 1 1 (vB r) 44).st _ _ _ hB (ti11 (by rwa [getD_set _ _ _ (by decide)] at h1) (by rwa [getD_set _ _ _ (by decide)] at h2)))⟩
    · have hk3 := hk
      exact wpOp_plain rfl rfl (wp_move_v (ac.eval (.tmp 0)) rfl rfl ⟨hl2 7, (hF.put 7 33 (SP.is (.slice (some ⟨b, o, none⟩) n cap)) (ac.eval (.tmp 0)) (by rw [hD]; rfl) (((hF.keep 0 (by rw [hD]; rfl)).trans s0)) (by rw [hD]; rfl) (by rw [hsz]; decide) (by rw [hl]; decide)), hb1, (fun h1 h2 => by change (SP.own w.heap.size p l).P _ ((ac.put (some 33) _).eval (.tmp 32)); rw [eval_put_other ac _ (by decide)]; exact ti6 (by rwa [getD_set _ _ _ (by decide)] at h1) (by rwa [getD_set _ _ _ (by decide)] at h2)), (fun h1 h2 => by change (SP.new 1 1 (vB r) 44).P _ ((ac.put (some 33) _).eval (.tmp 37)); rw [eval_put_other ac _ (by decide)]; exact ti11 (by rwa [getD_set _ _ _ (by decide)] at h1) (by rwa [getD_set _ _ _ (by decide)] at h2))⟩)
    · have hk3 := hk
      exact wpOp_plain rfl rfl (wp_move_v (ac.eval (.tmp 5)) rfl rfl ⟨hl2 8, (hF.put 8 34 (SP.is (.int .i64 (k : Int))) (ac.eval (.tmp 5)) (by rw [hD]; rfl) (((hF.keep 5 (by rw [hD]; rfl)).trans s5)) (by rw [hD]; rfl) (by rw [hsz]; decide) (by rw [hl]; decide)), hb1, (fun h1 h2 => by change (SP.own w.heap.size p l).P _ ((ac.put (some 34) _).eval (.tmp 32)); rw [eval_put_other ac _ (by decide)]; exact ti6 (by rwa [getD_set _ _ _ (by decide)] at h1) (by rwa [getD_set _ _ _ (by decide)] at h2)), (fun h1 h2 => by change (SP.new 1 1 (vB r) 44).P _ ((ac.put (some 34) _).eval (.tmp 37)); rw [eval_put_other ac _ (by decide)]; exact ti11 (by rwa [getD_set _ _ _ (by decide)] at h1) (by rwa [getD_set _ _ _ (by decide)] at h2))⟩)
    · have hk3 := hk
      have ea := (hF.done 7 (33, SP.is (.slice (some ⟨b, o, none⟩) n cap)) (by rw [hD]; rfl) (ready_dep hk 7 (by kernel_rfl)))
      have eb := (hF.done 8 (34, SP.is (.int .i64 (k : Int))) (by rw [hD]; rfl) (ready_dep hk 8 (by kernel_rfl)))
      exact wpOp_plain rfl rfl (wp_slice_to 27 54 (.tmp 33) (.tmp 34) b o n cap k rfl ea eb (Nat.le_trans (Nat.le_of_lt HKN.out) HC.out) Tryz.underlying27 info_slbT ⟨hl2 9, (hF.put 9 35 (SP.is (.slice (some ⟨b, o, none⟩) k cap)) (.slice (some ⟨b, o, none⟩) k cap) (by rw [hD]; rfl) rfl (by rw [hD]; rfl) (by rw [hsz]; decide) (by rw [hl]; decide)), hb1, (fun h1 h2 => by change (SP.own w.heap.size p l).P _ ((ac.put (some 35) _).eval (.tmp 32)); rw [eval_put_other ac _ (by decide)]; exact ti6 (by rwa [getD_set _ _ _ (by decide)] at h1) (by rwa [getD_set _ _ _ (by decide)] at h2)), (fun h1 h2 => by change (SP.new 1 1 (vB r) 44).P _ ((ac.put (some 35) _).eval (.tmp 37)); rw [eval_put_other ac _ (by decide)]; exact ti11 (by rwa [getD_set _ _ _ (by decide)] at h1) (by rwa [getD_set _ _ _ (by decide)] at h2))⟩)
    · have hk3 := hk
      have ea := (hF.done 9 (35, SP.is (.slice (some ⟨b, o, none⟩) k cap)) (by rw [hD]; rfl) (ready_dep hk 9 (by kernel_rfl)))
      refine wpOp_plain rfl rfl (wp_fcall_v 24 #[.slice (some ⟨b, o, none⟩) k cap] rfl rfl (by show [ac.eval (.tmp 35)] = _; rw [show ac.eval (.tmp 35) = _ from ea]) (by go_simp) ((HR.out W hb1).mono ?_))
      rintro e W2 ⟨rfl, hB⟩
      exact ⟨_, rfl, hl2 10, ((hF.world hB).put 10 36 (SP.is (.agg (vB r).toArray)) (.agg (vB r).toArray) (by rw [hD]; rfl) rfl (by rw [hD]; rfl) (by rw [hsz]; decide) (by rw [hl]; decide)), hb1.trans (hB.mono hb1.size), (fun h1 h2 => by change (SP.own w.heap.size p l).P _ ((ac.put (some 36) _).eval (.tmp 32)); rw [eval_put_other ac _ (by decide)]; exact (SP.own w.heap.size p l).st _ _ _ hB (ti6 (by rwa [getD_set _ _ _ (by decide)] at h1) (by rwa [getD_set _ _ _ (by decide)] at h2))), (fun h1 h2 => by change (SP.new 1 1 (vB r) 44).P _ ((ac.put (some 36) _).eval (.tmp 37)); rw [eval_put_other ac _ (by decide)]; exact (SP.new 1 1 (vB r) 44).st _ _ _ hB (ti11 (by rwa [getD_set _ _ _ (by decide)] at h1) (by rwa [getD_set _ _ _ (by decide)] at h2)))⟩
    · have hk3 := hk
      have ea := (hF.done 10 (36, SP.is (.agg (vB r).toArray)) (by rw [hD]; rfl) (ready_dep hk 10 (by kernel_rfl)))
      have hB : Below W.heap.size W (W.alloc (Obj.cells (vB r).toArray 44)) := (Below.refl _ _).alloc (Nat.le_refl _) _
      exact wpOp_plain rfl rfl (wp_build_d (.tmp 36) rfl r HR0.out ea ⟨hl2 11, ((hF.world hB).put 11 37 (SP.any) (.slice (some ⟨W.heap.size, 0, none⟩) 1 1) (by rw [hD]; rfl) trivial (by rw [hD]; rfl) (by rw [hsz]; decide) (by rw [hl]; decide)), hb1.alloc hb1.size _, (fun h1 h2 => by change (SP.own w.heap.size p l).P _ ((ac.put (some 37) _).eval (.tmp 32)); rw [eval_put_other ac _ (by decide)]; exact (SP.own w.heap.size p l).st _ _ _ hB (ti6 (by rwa [getD_set _ _ _ (by decide)] at h1) (by rwa [getD_set _ _ _ (by decide)] at h2))), (fun _ _ => by change (SP.new 1 1 (vB r) 44).P _ ((ac.put (some 37) _).eval (.tmp 37)); rw [eval_put_same ac _ (by rw [hF.size, hsz]; decide)]; exact ⟨W.heap.size, rfl, Row.new' rfl rfl⟩)⟩)
    · have hk3 := hk
      have hw := (ti6 (ready_dep hk 6 (by kernel_rfl)) (not_yet hk))
      obtain ⟨N, ex, rN⟩ := (ti11 (ready_dep hk 11 (by kernel_rfl)) (not_yet hk))
      refine wpOp_plain rfl rfl (wp_append_d (.tmp 32) (.tmp 37) rfl w.heap.size N p _ l r HR0.out hw rfl ex rN HP.out hb1.size ?_)
      intro v2 W2 hO hG
      have hno : ¬ listed.getD 12 false = true := not_yet hk
      have hno13 : ¬ listed.getD 13 false = true := fun h => hno (hdn 13 h 12 (by kernel_rfl))
      have hT : Fp D a0 listed ac W2 := hF.turned (by
        rw [hD]
        intro q p hq hl3 v hv
        have hq1 : q < 14 := (List.getElem?_eq_some_iff.1 hq).1
        rcases (show q = 0 ∨ q = 1 ∨ q = 2 ∨ q = 3 ∨ q = 4 ∨ q = 5 ∨ q = 6 ∨ q = 7 ∨ q = 8 ∨ q = 9 ∨ q = 10 ∨ q = 11 ∨ q = 12 ∨ q = 13 by omega) with rfl | rfl | rfl | rfl | rfl | rfl | rfl | rfl | rfl | rfl | rfl | rfl | rfl | rfl
        · obtain rfl := Option.some.inj hq; exact hv
        · obtain rfl := Option.some.inj hq; exact hv
        · obtain rfl := Option.some.inj hq; exact hv
        · obtain rfl := Option.some.inj hq; exact hv
        · obtain rfl := Option.some.inj hq; exact hv
        · obtain rfl := Option.some.inj hq; exact hv
        · obtain rfl := Option.some.inj hq; exact hv
        · obtain rfl := Option.some.inj hq; exact hv
        · obtain rfl := Option.some.inj hq; exact hv
        · obtain rfl := Option.some.inj hq; exact hv
        · obtain rfl := Option.some.inj hq; exact hv
        · obtain rfl := Option.some.inj hq; exact hv
        · exact absurd hl3 hno
        · exact absurd hl3 hno13
        )
      exact ⟨hl2 12, (hT.put 12 38 (SP.own w.heap.size (p + 1) (l ++ vB r)) v2 (by rw [hD]; rfl) hO (by rw [hD]; rfl) (by rw [hsz]; decide) (by rw [hl]; decide)), hb1.grown hG hb1.size (own_block hw), (fun _ h => absurd (getD_same (by rw [hl]; decide)) h), (fun _ h => absurd (getD_same (by rw [hl]; decide)) h)⟩
    · have hk3 := hk
      exact wpOp_plain rfl rfl (wp_assign_v (ac.eval (.tmp 38)) rfl rfl ⟨hl2 13, (hF.put 13 4 (SP.own w.heap.size (p + 1) (l ++ vB r)) (ac.eval (.tmp 38)) (by rw [hD]; rfl) ((hF.done 12 (38, SP.own w.heap.size (p + 1) (l ++ vB r)) (by rw [hD]; rfl) (ready_dep hk 12 (by kernel_rfl)))) (by rw [hD]; rfl) (by rw [hsz]; decide) (by rw [hl]; decide)), hb1, (fun h1 h2 => by change (SP.own w.heap.size p l).P _ ((ac.put (some 4) _).eval (.tmp 32)); rw [eval_put_other ac _ (by decide)]; exact ti6 (by rwa [getD_set _ _ _ (by decide)] at h1) (by rwa [getD_set _ _ _ (by decide)] at h2)), (fun h1 h2 => by change (SP.new 1 1 (vB r) 44).P _ ((ac.put (some 4) _).eval (.tmp 37)); rw [eval_put_other ac _ (by decide)]; exact ti11 (by rwa [getD_set _ _ _ (by decide)] at h1) (by rwa [getD_set _ _ _ (by decide)] at h2))⟩)
  · clear hb1  
    intro listed ac W hI hr
    obtain ⟨hl, hF, hb1, ti6, ti11⟩ := hI
    have hall := all_listed (by kernel_rfl) hl hr
    have h26 : ac.eval (.tmp 26) = .slice (some ⟨b, o, none⟩) n cap := hF.done 0 (26, SP.is (.slice (some ⟨b, o, none⟩) n cap)) (by rw [hD]; rfl) (hall 0 (by decide))
    have h27 : ac.eval (.tmp 27) = .int .i64 (k : Int) := hF.done 1 (27, SP.is (.int .i64 (k : Int))) (by rw [hD]; rfl) (hall 1 (by decide))
    have h28 : ac.eval (.tmp 28) = .slice (some ⟨b, o + k, none⟩) (n - k) (cap - k) := hF.done 2 (28, SP.is (.slice (some ⟨b, o + k, none⟩) (n - k) (cap - k))) (by rw [hD]; rfl) (hall 2 (by decide))
    have h29 : ac.eval (.tmp 29) = .int .i64 (i : Int) := hF.done 3 (29, SP.is (.int .i64 (i : Int))) (by rw [hD]; rfl) (hall 3 (by decide))
    have h30 : ac.eval (.tmp 30) = .int .i64 (k : Int) := hF.done 4 (30, SP.is (.int .i64 (k : Int))) (by rw [hD]; rfl) (hall 4 (by decide))
    have h31 : ac.eval (.tmp 31) = .int .i64 ((i - k : Nat) : Int) := hF.done 5 (31, SP.is (.int .i64 ((i - k : Nat) : Int))) (by rw [hD]; rfl) (hall 5 (by decide))
    obtain ⟨x32, h32⟩ : ∃ x, ac.eval (.tmp 32) = x := ⟨_, rfl⟩
    have h33 : ac.eval (.tmp 33) = .slice (some ⟨b, o, none⟩) n cap := hF.done 7 (33, SP.is (.slice (some ⟨b, o, none⟩) n cap)) (by rw [hD]; rfl) (hall 7 (by decide))
    have h34 : ac.eval (.tmp 34) = .int .i64 (k : Int) := hF.done 8 (34, SP.is (.int .i64 (k : Int))) (by rw [hD]; rfl) (hall 8 (by decide))
    have h35 : ac.eval (.tmp 35) = .slice (some ⟨b, o, none⟩) k cap := hF.done 9 (35, SP.is (.slice (some ⟨b, o, none⟩) k cap)) (by rw [hD]; rfl) (hall 9 (by decide))
    have h36 : ac.eval (.tmp 36) = .agg (vB r).toArray := hF.done 10 (36, SP.is (.agg (vB r).toArray)) (by rw [hD]; rfl) (hall 10 (by decide))
    obtain ⟨x37, h37⟩ : ∃ x, ac.eval (.tmp 37) = x := ⟨_, rfl⟩
    obtain ⟨x38, h38⟩ : ∃ x, ac.eval (.tmp 38) = x := ⟨_, rfl⟩
    have f4 := hF.done 13 (4, SP.own w.heap.size (p + 1) (l ++ vB r)) (by rw [hD]; rfl) (hall 13 (by decide))
    obtain ⟨x4, h4⟩ : ∃ x, ac.eval (.tmp 4) = x := ⟨_, rfl⟩
    replace f4 : (SP.own w.heap.size (p + 1) (l ++ vB r)).P W x4 := by rw [← h4]; exact f4
    have ea := hF.lay [(26, .slice (some ⟨b, o, none⟩) n cap), (27, .int .i64 (k : Int)), (28, .slice (some ⟨b, o + k, none⟩) (n - k) (cap - k)), (29, .int .i64 (i : Int)), (30, .int .i64 (k : Int)), (31, .int .i64 ((i - k : Nat) : Int)), (32, x32), (33, .slice (some ⟨b, o, none⟩) n cap), (34, .int .i64 (k : Int)), (35, .slice (some ⟨b, o, none⟩) k cap), (36, .agg (vB r).toArray), (37, x37), (38, x38), (4, x4)] (by rw [hD, hsz]; rfl) (by simp only [List.forall_mem_cons, List.not_mem_nil, false_implies, implies_true, and_true]; exact ⟨h26, h27, h28, h29, h30, h31, h32, h33, h34, h35, h36, h37, h38, h4⟩)
    rw [ha0] at ea
    simp only [List.foldl_cons, List.foldl_nil, List.setIfInBounds_toArray, List.set_cons_zero, List.set_cons_succ] at ea
    clear hF hall hr hl hD ti6 ti11 s0 s1 s5 ha0 hsz h26 h27 h28 h29 h30 h31 h32 h33 h34 h35 h36 h37 h38 h4
    subst ea
    go_wp2_with fail
    go_ret
    exact ⟨x4, rfl, f4, hb1⟩

end Go.Proofs.YtdicgenhfmhklaaGreatDoor
