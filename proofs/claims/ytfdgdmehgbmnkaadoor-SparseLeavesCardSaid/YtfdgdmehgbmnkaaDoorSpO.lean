/-
  sparse: the map that holds given bounds.
-/
import Derived.Test.YtfdgdmehgbmnkaaDoorSpK
import Derived.Test.YtfdgdmehgbmnkaaDoorSpM
namespace Go.Proofs.YtfdgdmehgbmnkaaDoor
open Go Go.RowKit
open Sha

/-- Ahead of a step that writes: memory only grew; behind it: what it leaves. -/
def STt (n0 W : World) (post : World → Prop) (d : Bool) : Prop := if d = true then post W else Below n0.heap.size n0 W
section
variable {n0 W X : World} {post : World → Prop} {d : Bool}
theorem STt.no (h : STt n0 W post d) (hn : ¬ d = true) : Below n0.heap.size n0 W := by unfold STt at h; rwa [if_neg hn] at h
theorem STt.yes (h : STt n0 W post d) (hn : d = true) : post W := by unfold STt at h; rwa [if_pos hn] at h
theorem STt.start (hn : ¬ d = true) (h : Below n0.heap.size n0 W) : STt n0 W post d := by unfold STt; rwa [if_neg hn]
theorem STt.done (hd : d = true) (h : post W) : STt n0 W post d := by unfold STt; rwa [if_pos hd]
theorem STt.below (cl : ∀ W X, post W → Below W.heap.size W X → post X) (h : STt n0 W post d) (k : Below W.heap.size W X) : STt n0 X post d := by
  unfold STt at h ⊢
  split
  · rename_i hd
    rw [if_pos hd] at h
    exact cl _ _ h k
  · rename_i hd
    rw [if_neg hd] at h
    exact h.trans (k.mono h.size)
end
section
variable {o : Oper} {a : Act} {w : World} {K : Act → World → Prop} {Q : Exit → Act → World → Prop}
theorem wp_bdP {x : Operand} (ho : o.op = .fieldAddr 59 x 1) (B f : Nat) (hx : a.eval x = .pointer (some ⟨B, f, none⟩)) (h : K (a.put o.dst (.pointer (some ⟨B, f + 32, none⟩))) w) : Oper.wp Tryd.prog o a w K Q := by
  unfold Oper.wp execOp
  simp only [ho, hx]
  go_simp
  exact h
end
abbrev Kv := List (BitVec 8) × List (BitVec 8)
/-- The tree behind some bounds, laid one after another. -/
def putAll (l : List Kv) : Tr := l.foldl (fun t p => t.put p.1 p.2 256) .nil
theorem putAll_snoc (l : List Kv) (p : Kv) : putAll (l ++ [p]) = (putAll l).put p.1 p.2 256 := by simp [putAll, List.foldl_append]
def okKv (l : List Kv) : Prop := ∀ p ∈ l, p.1.length = 32 ∧ p.2.length = 32
theorem putAll_size (l : List Kv) : (putAll l).size ≤ l.length := by
  suffices H : ∀ (l : List Kv) (t : Tr), (l.foldl (fun t p => t.put p.1 p.2 256) t).size ≤ t.size + l.length by
    have := H l .nil
    simpa [putAll, Tr.size] using this
  intro l
  induction l with
  | nil => intro t; exact Nat.le_refl _
  | cons p r ih =>
    intro t
    have h1 := ih (t.put p.1 p.2 256)
    have h2 := Tr.put_size p.1 p.2 256 t
    simp only [List.foldl_cons, List.length_cons]
    omega
theorem putAll_fit (l : List Kv) (h : okKv l) (g : Nat → Bool) : (putAll l).fit 0 g := by
  suffices H : ∀ (l : List Kv) (t : Tr), okKv l → t.fit 0 g → (l.foldl (fun t p => t.put p.1 p.2 256) t).fit 0 g from H l .nil h trivial
  intro l
  induction l with
  | nil => intro t _ ht; exact ht
  | cons p r ih =>
    intro t ho ht
    obtain ⟨h1, h2⟩ := ho p List.mem_cons_self
    exact ih _ (fun x hx => ho x (List.mem_cons_of_mem _ hx)) (Tr.fit_0 (Tr.put_fit h1 h2 256 t (Nat.le_refl _) (Tr.fit_0 ht)))
/-- Bounds in memory. -/
def kvs (l : List Kv) : List Value := l.flatMap fun p => vB (p.1 ++ p.2)
theorem kvs_len {l : List Kv} (h : okKv l) : (kvs l).length = l.length * 64 := by
  induction l with
  | nil => rfl
  | cons p r ih =>
    obtain ⟨h1, h2⟩ := h p List.mem_cons_self
    have := ih (fun x hx => h x (List.mem_cons_of_mem _ hx))
    unfold kvs at this ⊢
    rw [List.flatMap_cons, List.length_append, this, vB_length, List.length_append, h1, h2, List.length_cons]
    omega
theorem kvs_at {W : World} {ab ao : Nat} {l : List Kv} (ho : okKv l) (h : W.rangeAt ab ao (kvs l)) (t : Nat) (p : Kv) (ht : l[t]? = some p) : W.rangeAt ab (ao + t * 64) (vB p.1) ∧ W.rangeAt ab (ao + t * 64 + 32) (vB p.2) := by
  have hlt : t < l.length := (List.getElem?_eq_some_iff.1 ht).1
  have hp : p = l[t] := ((List.getElem?_eq_some_iff.1 ht).2).symm
  have e : l = l.take t ++ (p :: l.drop (t + 1)) := by rw [hp, ← List.drop_eq_getElem_cons hlt, List.take_append_drop]
  obtain ⟨h1, _⟩ := ho p (by rw [hp]; exact List.getElem_mem _)
  rw [e] at h
  unfold kvs at h
  rw [List.flatMap_append, List.flatMap_cons] at h
  have h3 := range_left (range_right h (n := t * 64) (by
    have := kvs_len (l := l.take t) (fun x hx => ho x (List.mem_of_mem_take hx))
    unfold kvs at this
    rw [this, List.length_take, Nat.min_eq_left (by omega)]))
  rw [vB_append] at h3
  exact ⟨range_left h3, range_right h3 (by rw [vB_length, h1])⟩
set_option maxRecDepth 100000 in
set_option maxHeartbeats 4000000 in
theorem made_any (l : List Kv) (ho : okKv l) (n : Nat) (hn : n = l.length) (hsz : n ≤ 1099511627776) (ab ao cap : Nat) (w : World) (hR : ∀ W, Below w.heap.size w W → W.rangeAt ab ao (kvs l)) (hK : Tab w 3) :
    Calls Tryd.prog 27 #[.slice (some ⟨ab, ao, none⟩) n cap] w fun e w' => e = .returned (pt w.heap.size) ∧ MapAt w' w.heap.size (putAll l) ∧ Below w.heap.size w w' := by
  obtain ⟨b, hb⟩ : ∃ b, b = w.heap.size := ⟨_, rfl⟩
  have HR0 : Hid (∀ W, Below w.heap.size w W → W.rangeAt ab ao (kvs l)) := hR
  have HKL : Hid (∀ W, Below w.heap.size w W → Tab W 3) := fun W hB => hK.below hB hK.lt
  have HGB : Hid (3 < b) := by show _ < _; rw [hb]; exact hK.lt
  have HO : Hid (okKv l) := ho
  have HNL : Hid (n = l.length) := hn
  have HNW : Hid (Calls Tryd.prog 9 #[] w fun e w' => e = .returned (pt b) ∧ MapAt w' b .nil ∧ Below w.heap.size w w') := by show Calls _ _ _ _ _; rw [hb]; exact new_s w
  have HBE : Hid (b = w.heap.size) := hb
  rw [← hb]
  clear hR hK ho hb hn
  go_enter Tryd.func27, Tryd.ntmps27
  go_wp2_with (go_at_call 9; refine Calls.mono HNW.out ?_; rintro e X ⟨rfl, hm, hB⟩; have MX : Hid (MapAt X b .nil) := hm; have BX : Hid (Below w.heap.size w X) := hB; clear hm hB)
  go_loopw [4] (fun v wr => ∃ t : Nat, t ≤ n ∧ v = .int .i64 (t : Int) ∧ Hid (MapAt wr b (putAll (l.take t))) ∧ Hid (Below w.heap.size w wr)) (fun v _ => n - (intOf v).toNat)
  case atStart => exact ⟨0, Nat.zero_le _, rfl, MX, BX⟩
  case round =>
    clear MX BX
    obtain ⟨t, ht, rfl, hM, hBw⟩ := hrel
    by_cases hlt : t < n
    · obtain ⟨⟨u, v⟩, hp⟩ : ∃ p, l[t]? = some p := ⟨_, List.getElem?_eq_getElem (by rw [← HNL.out]; exact hlt)⟩
      have hlen := HO.out (u, v) (List.mem_of_getElem? hp)
      have HUL : Hid (u.length = 32) := hlen.1
      have HVL : Hid (v.length = 32) := hlen.2
      have HTN : Hid (t < n) := hlt
      have HIU : Hid ((Tryd.prog.info? 29).map (·.size) = some (vB u).length) := by show _ = _; rw [vB_length, HUL.out]; exact info_dig
      have HIV : Hid ((Tryd.prog.info? 29).map (·.size) = some (vB v).length) := by show _ = _; rw [vB_length, HVL.out]; exact info_dig
      have HNX : Hid (putAll (l.take (t + 1)) = (putAll (l.take t)).put u v 256) := by
        show _ = _
        rw [List.take_add_one, hp]
        exact putAll_snoc _ _
      have hsz2 : (putAll (l.take t)).size ≤ n := by
        have := putAll_size (l.take t)
        rw [List.length_take] at this
        omega
      have HPT : Hid (∀ W, Below wr.heap.size wr W → Calls Tryd.prog 11 #[pt b, .agg (vB u).toArray, .agg (vB v).toArray] W fun e w' => e = .returned (.tuple #[]) ∧ MapAt w' b (putAll (l.take (t + 1))) ∧ KpR b W w' ∧ Below b W w') := fun W k => by
        rw [HNX.out]
        exact mput_any b _ u v HUL.out HVL.out W (hM.out.be k) (fun _ => false) (putAll_fit _ (fun x hx => HO.out x (List.mem_of_mem_take hx)) _) (by omega) HGB.out (HKL.out W (hBw.out.trans (k.mono hBw.out.size)))
      have HRU : Hid (∀ W, Below wr.heap.size wr W → W.rangeAt ab (ao + t * 64) (vB u)) := fun W k => (kvs_at HO.out (HR0.out W (hBw.out.trans (k.mono hBw.out.size))) t _ hp).1
      have HRV : Hid (∀ W, Below wr.heap.size wr W → W.rangeAt ab (ao + t * 64 + 32) (vB v)) := fun W k => (kvs_at HO.out (HR0.out W (hBw.out.trans (k.mono hBw.out.size))) t _ hp).2
      clear hlen hsz2 hp
      go_upto_region 7 with fail
      obtain ⟨n0, hn0⟩ : ∃ n0, n0 = wr := ⟨_, rfl⟩
      obtain ⟨PO, hPO⟩ : ∃ PO : World → Prop, PO = fun W => MapAt W b (putAll (l.take (t + 1))) := ⟨_, rfl⟩
      have HPO : Hid (∀ W, MapAt W b (putAll (l.take (t + 1))) → PO W) := fun W h => by rw [hPO]; exact h
      have HPB : Hid (∀ W, PO W → MapAt W b (putAll (l.take (t + 1)))) := fun W h => by rw [hPO] at h; exact h
      have HCL : Hid (∀ W X, PO W → Below W.heap.size W X → PO X) := fun W X h k => by rw [hPO] at h ⊢; exact h.be k
      have HBN : Hid (b ≤ n0.heap.size) := by show _ ≤ _; rw [HBE.out, hn0]; exact hBw.out.size
      have HW0 : Hid (Below w.heap.size w n0) := by rw [hn0]; exact hBw
      rw [← hn0] at HPT HRU HRV ⊢
      have hb1 : Below b n0 n0 := Below.refl _ _
      have m0 : True := trivial
      clear hPO hM hBw hn0
      refine wp_named fun a0 ha0 => ?_
      have hsz : a0.tmps.size = 27 := by rw [ha0]; rfl
      have zs0 : a0.eval (.tmp 0) = .slice (some ⟨ab, ao, none⟩) n cap := by rw [ha0]; rfl
      have zs3 : a0.eval (.tmp 3) = pt b := by rw [ha0]; rfl
      have zs4 : a0.eval (.tmp 4) = .int .i64 (t : Int) := by rw [ha0]; rfl
      obtain ⟨D, hD⟩ : ∃ D : List (Tmp × SP), D = [(14, SP.is (pt b)), (15, SP.is (.slice (some ⟨ab, ao, none⟩) n cap)), (16, SP.is (.int .i64 (t : Int))), (17, SP.is (.pointer (some ⟨ab, ao + t * 64, none⟩))), (18, SP.is (.pointer (some ⟨ab, ao + t * 64, none⟩))), (19, SP.is (.agg (vB u).toArray)), (20, SP.is (.slice (some ⟨ab, ao, none⟩) n cap)), (21, SP.is (.int .i64 (t : Int))), (22, SP.is (.pointer (some ⟨ab, ao + t * 64, none⟩))), (23, SP.is (.pointer (some ⟨ab, ao + t * 64 + 32, none⟩))), (24, SP.is (.agg (vB v).toArray)), (25, SP.is (.tuple #[]))] := ⟨_, rfl⟩
      refine wp_region_down (by kernel_rfl) (fun listed ac W => listed.size = 12 ∧ Fp D a0 listed ac W ∧ Below b n0 W ∧ STt n0 W PO (listed.getD 11 false)) ?_ ?_ ?_
      · exact ⟨by simp, Fp.start D a0 _ _, Below.drew hb1, STt.start (fun h => start_no h) (Below.drew (Below.refl _ _))⟩
      · clear ha0 hb1 m0 
        intro listed ac W k hI hdn hk
        obtain ⟨hl, hF, hb1, m0⟩ := hI
        have hk1 : k < 12 := List.mem_range.1 (List.mem_filter.1 hk).1
        have hl2 : ∀ j, (listed.setIfInBounds j true).size = 12 := fun j => by rw [Array.size_setIfInBounds]; exact hl
        rcases (show k = 0 ∨ k = 1 ∨ k = 2 ∨ k = 3 ∨ k = 4 ∨ k = 5 ∨ k = 6 ∨ k = 7 ∨ k = 8 ∨ k = 9 ∨ k = 10 ∨ k = 11 by omega) with rfl | rfl | rfl | rfl | rfl | rfl | rfl | rfl | rfl | rfl | rfl | rfl
        · have hk3 := hk
          exact wpOp_plain rfl rfl (wp_move_v (ac.eval (.tmp 3)) rfl rfl ⟨hl2 0, (hF.put 0 14 (SP.is (pt b)) (ac.eval (.tmp 3)) (by rw [hD]; rfl) (((hF.keep 3 (by rw [hD]; rfl)).trans zs3)) (by rw [hD]; rfl) (by rw [hsz]; decide) (by rw [hl]; decide)), hb1, (by rw [getD_set _ _ _ (by decide)]; exact m0)⟩)
        · have hk3 := hk
          exact wpOp_plain rfl rfl (wp_move_v (ac.eval (.tmp 0)) rfl rfl ⟨hl2 1, (hF.put 1 15 (SP.is (.slice (some ⟨ab, ao, none⟩) n cap)) (ac.eval (.tmp 0)) (by rw [hD]; rfl) (((hF.keep 0 (by rw [hD]; rfl)).trans zs0)) (by rw [hD]; rfl) (by rw [hsz]; decide) (by rw [hl]; decide)), hb1, (by rw [getD_set _ _ _ (by decide)]; exact m0)⟩)
        · have hk3 := hk
          exact wpOp_plain rfl rfl (wp_move_v (ac.eval (.tmp 4)) rfl rfl ⟨hl2 2, (hF.put 2 16 (SP.is (.int .i64 (t : Int))) (ac.eval (.tmp 4)) (by rw [hD]; rfl) (((hF.keep 4 (by rw [hD]; rfl)).trans zs4)) (by rw [hD]; rfl) (by rw [hsz]; decide) (by rw [hl]; decide)), hb1, (by rw [getD_set _ _ _ (by decide)]; exact m0)⟩)
        · have hk3 := hk
          have e1 := (hF.done 1 (15, SP.is (.slice (some ⟨ab, ao, none⟩) n cap)) (by rw [hD]; rfl) (ready_dep hk 1 (by kernel_rfl)))
          have e2 := (hF.done 2 (16, SP.is (.int .i64 (t : Int))) (by rw [hD]; rfl) (ready_dep hk 2 (by kernel_rfl)))
          exact wpOp_plain rfl rfl (wp_index_s 35 59 rfl ab ao n cap t 64 e1 e2 HTN.out Tryd.underlying35 info_bd ⟨hl2 3, (hF.put 3 17 (SP.is (.pointer (some ⟨ab, ao + t * 64, none⟩))) (.pointer (some ⟨ab, ao + t * 64, none⟩)) (by rw [hD]; rfl) rfl (by rw [hD]; rfl) (by rw [hsz]; decide) (by rw [hl]; decide)), hb1, (by rw [getD_set _ _ _ (by decide)]; exact m0)⟩)
        · have hk3 := hk
          have e1 := (hF.done 3 (17, SP.is (.pointer (some ⟨ab, ao + t * 64, none⟩))) (by rw [hD]; rfl) (ready_dep hk 3 (by kernel_rfl)))
          exact wpOp_plain rfl rfl (wp_bdO rfl ab (ao + t * 64) e1 ⟨hl2 4, (hF.put 4 18 (SP.is (.pointer (some ⟨ab, ao + t * 64, none⟩))) (.pointer (some ⟨ab, ao + t * 64, none⟩)) (by rw [hD]; rfl) rfl (by rw [hD]; rfl) (by rw [hsz]; decide) (by rw [hl]; decide)), hb1, (by rw [getD_set _ _ _ (by decide)]; exact m0)⟩)
        · have hk3 := hk
          have hw := m0.no (fun h => not_yet hk (hdn 11 h 5 (by kernel_rfl)))
          have e1 := (hF.done 4 (18, SP.is (.pointer (some ⟨ab, ao + t * 64, none⟩))) (by rw [hD]; rfl) (ready_dep hk 4 (by kernel_rfl)))
          exact wpOp_plain rfl rfl (wp_load_mid 29 (.tmp 18) rfl ab (ao + t * 64) e1 (vB u) _ (HRU.out W hw) Tryd.underlying29 rfl HIU.out ⟨hl2 5, (hF.put 5 19 (SP.is (.agg (vB u).toArray)) (.agg (vB u).toArray) (by rw [hD]; rfl) rfl (by rw [hD]; rfl) (by rw [hsz]; decide) (by rw [hl]; decide)), hb1, (by rw [getD_set _ _ _ (by decide)]; exact m0)⟩)
        · have hk3 := hk
          exact wpOp_plain rfl rfl (wp_move_v (ac.eval (.tmp 0)) rfl rfl ⟨hl2 6, (hF.put 6 20 (SP.is (.slice (some ⟨ab, ao, none⟩) n cap)) (ac.eval (.tmp 0)) (by rw [hD]; rfl) (((hF.keep 0 (by rw [hD]; rfl)).trans zs0)) (by rw [hD]; rfl) (by rw [hsz]; decide) (by rw [hl]; decide)), hb1, (by rw [getD_set _ _ _ (by decide)]; exact m0)⟩)
        · have hk3 := hk
          exact wpOp_plain rfl rfl (wp_move_v (ac.eval (.tmp 4)) rfl rfl ⟨hl2 7, (hF.put 7 21 (SP.is (.int .i64 (t : Int))) (ac.eval (.tmp 4)) (by rw [hD]; rfl) (((hF.keep 4 (by rw [hD]; rfl)).trans zs4)) (by rw [hD]; rfl) (by rw [hsz]; decide) (by rw [hl]; decide)), hb1, (by rw [getD_set _ _ _ (by decide)]; exact m0)⟩)
        · have hk3 := hk
          have e1 := (hF.done 6 (20, SP.is (.slice (some ⟨ab, ao, none⟩) n cap)) (by rw [hD]; rfl) (ready_dep hk 6 (by kernel_rfl)))
          have e2 := (hF.done 7 (21, SP.is (.int .i64 (t : Int))) (by rw [hD]; rfl) (ready_dep hk 7 (by kernel_rfl)))
          exact wpOp_plain rfl rfl (wp_index_s 35 59 rfl ab ao n cap t 64 e1 e2 HTN.out Tryd.underlying35 info_bd ⟨hl2 8, (hF.put 8 22 (SP.is (.pointer (some ⟨ab, ao + t * 64, none⟩))) (.pointer (some ⟨ab, ao + t * 64, none⟩)) (by rw [hD]; rfl) rfl (by rw [hD]; rfl) (by rw [hsz]; decide) (by rw [hl]; decide)), hb1, (by rw [getD_set _ _ _ (by decide)]; exact m0)⟩)
        · have hk3 := hk
          have e1 := (hF.done 8 (22, SP.is (.pointer (some ⟨ab, ao + t * 64, none⟩))) (by rw [hD]; rfl) (ready_dep hk 8 (by kernel_rfl)))
          exact wpOp_plain rfl rfl (wp_bdP rfl ab (ao + t * 64) e1 ⟨hl2 9, (hF.put 9 23 (SP.is (.pointer (some ⟨ab, ao + t * 64 + 32, none⟩))) (.pointer (some ⟨ab, ao + t * 64 + 32, none⟩)) (by rw [hD]; rfl) rfl (by rw [hD]; rfl) (by rw [hsz]; decide) (by rw [hl]; decide)), hb1, (by rw [getD_set _ _ _ (by decide)]; exact m0)⟩)
        · have hk3 := hk
          have hw := m0.no (fun h => not_yet hk (hdn 11 h 10 (by kernel_rfl)))
          have e1 := (hF.done 9 (23, SP.is (.pointer (some ⟨ab, ao + t * 64 + 32, none⟩))) (by rw [hD]; rfl) (ready_dep hk 9 (by kernel_rfl)))
          exact wpOp_plain rfl rfl (wp_load_mid 29 (.tmp 23) rfl ab (ao + t * 64 + 32) e1 (vB v) _ (HRV.out W hw) Tryd.underlying29 rfl HIV.out ⟨hl2 10, (hF.put 10 24 (SP.is (.agg (vB v).toArray)) (.agg (vB v).toArray) (by rw [hD]; rfl) rfl (by rw [hD]; rfl) (by rw [hsz]; decide) (by rw [hl]; decide)), hb1, (by rw [getD_set _ _ _ (by decide)]; exact m0)⟩)
        · have hk3 := hk
          have hw := m0.no (not_yet hk)
          have e14 : ac.eval (.tmp 14) = pt b := (hF.done 0 (14, SP.is (pt b)) (by rw [hD]; rfl) (ready_dep hk 0 (by kernel_rfl)))
          have e19 : ac.eval (.tmp 19) = .agg (vB u).toArray := (hF.done 5 (19, SP.is (.agg (vB u).toArray)) (by rw [hD]; rfl) (ready_dep hk 5 (by kernel_rfl)))
          have e24 : ac.eval (.tmp 24) = .agg (vB v).toArray := (hF.done 10 (24, SP.is (.agg (vB v).toArray)) (by rw [hD]; rfl) (ready_dep hk 10 (by kernel_rfl)))
          refine wpOp_plain rfl rfl (wp_fcall_v 11 #[pt b, .agg (vB u).toArray, .agg (vB v).toArray] rfl rfl (by show [ac.eval (.tmp 14), ac.eval (.tmp 19), ac.eval (.tmp 24)] = _; rw [e14, e19, e24]) (by go_simp) ((HPT.out W hw).mono ?_))
          rintro e W2 ⟨rfl, hm2, hkp, hb2⟩
          have hT : Fp D a0 listed ac W2 := hF.turn (by rw [hD]; simp only [List.forall_mem_cons, List.not_mem_nil, false_implies, implies_true, and_true]; exact ⟨fun _ h => h, fun _ h => h, fun _ h => h, fun _ h => h, fun _ h => h, fun _ h => h, fun _ h => h, fun _ h => h, fun _ h => h, fun _ h => h, fun _ h => h, fun _ h => h⟩)
          exact ⟨_, rfl, hl2 11, (hT.put 11 25 (SP.is (.tuple #[])) (.tuple #[]) (by rw [hD]; rfl) rfl (by rw [hD]; rfl) (by rw [hsz]; decide) (by rw [hl]; decide)), hb1.trans hb2, STt.done (getD_same (by rw [hl]; decide)) (HPO.out W2 hm2)⟩
      · clear hb1 m0 
        intro listed ac W hI hr
        obtain ⟨hl, hF, hb1, m0⟩ := hI
        have hall := all_listed (by kernel_rfl) hl hr
        have h14 : ac.eval (.tmp 14) = pt b := hF.done 0 (14, SP.is (pt b)) (by rw [hD]; rfl) (hall 0 (by decide))
        have h15 : ac.eval (.tmp 15) = .slice (some ⟨ab, ao, none⟩) n cap := hF.done 1 (15, SP.is (.slice (some ⟨ab, ao, none⟩) n cap)) (by rw [hD]; rfl) (hall 1 (by decide))
        have h16 : ac.eval (.tmp 16) = .int .i64 (t : Int) := hF.done 2 (16, SP.is (.int .i64 (t : Int))) (by rw [hD]; rfl) (hall 2 (by decide))
        have h17 : ac.eval (.tmp 17) = .pointer (some ⟨ab, ao + t * 64, none⟩) := hF.done 3 (17, SP.is (.pointer (some ⟨ab, ao + t * 64, none⟩))) (by rw [hD]; rfl) (hall 3 (by decide))
        have h18 : ac.eval (.tmp 18) = .pointer (some ⟨ab, ao + t * 64, none⟩) := hF.done 4 (18, SP.is (.pointer (some ⟨ab, ao + t * 64, none⟩))) (by rw [hD]; rfl) (hall 4 (by decide))
        have h19 : ac.eval (.tmp 19) = .agg (vB u).toArray := hF.done 5 (19, SP.is (.agg (vB u).toArray)) (by rw [hD]; rfl) (hall 5 (by decide))
        have h20 : ac.eval (.tmp 20) = .slice (some ⟨ab, ao, none⟩) n cap := hF.done 6 (20, SP.is (.slice (some ⟨ab, ao, none⟩) n cap)) (by rw [hD]; rfl) (hall 6 (by decide))
        have h21 : ac.eval (.tmp 21) = .int .i64 (t : Int) := hF.done 7 (21, SP.is (.int .i64 (t : Int))) (by rw [hD]; rfl) (hall 7 (by decide))
        have h22 : ac.eval (.tmp 22) = .pointer (some ⟨ab, ao + t * 64, none⟩) := hF.done 8 (22, SP.is (.pointer (some ⟨ab, ao + t * 64, none⟩))) (by rw [hD]; rfl) (hall 8 (by decide))
        have h23 : ac.eval (.tmp 23) = .pointer (some ⟨ab, ao + t * 64 + 32, none⟩) := hF.done 9 (23, SP.is (.pointer (some ⟨ab, ao + t * 64 + 32, none⟩))) (by rw [hD]; rfl) (hall 9 (by decide))
        have h24 : ac.eval (.tmp 24) = .agg (vB v).toArray := hF.done 10 (24, SP.is (.agg (vB v).toArray)) (by rw [hD]; rfl) (hall 10 (by decide))
        have h25 : ac.eval (.tmp 25) = .tuple #[] := hF.done 11 (25, SP.is (.tuple #[])) (by rw [hD]; rfl) (hall 11 (by decide))
        have ea := hF.lay [(14, pt b), (15, .slice (some ⟨ab, ao, none⟩) n cap), (16, .int .i64 (t : Int)), (17, .pointer (some ⟨ab, ao + t * 64, none⟩)), (18, .pointer (some ⟨ab, ao + t * 64, none⟩)), (19, .agg (vB u).toArray), (20, .slice (some ⟨ab, ao, none⟩) n cap), (21, .int .i64 (t : Int)), (22, .pointer (some ⟨ab, ao + t * 64, none⟩)), (23, .pointer (some ⟨ab, ao + t * 64 + 32, none⟩)), (24, .agg (vB v).toArray), (25, .tuple #[])] (by rw [hD, hsz]; rfl) (by simp only [List.forall_mem_cons, List.not_mem_nil, false_implies, implies_true, and_true]; exact ⟨h14, h15, h16, h17, h18, h19, h20, h21, h22, h23, h24, h25⟩)
        rw [ha0] at ea
        simp only [List.foldl_cons, List.foldl_nil, List.setIfInBounds_toArray, List.set_cons_zero, List.set_cons_succ] at ea
        replace m0 := m0.yes (hall 11 (by decide))
        clear hF hall hr hl hD  zs0 zs3 zs4 ha0 hsz h14 h15 h16 h17 h18 h19 h20 h21 h22 h23 h24 h25
        subst ea

        go_wp2_with fail
        exact ⟨⟨t + 1, HTN.out, by go_num, HPB.out _ m0, (by have e := HBE.out; rw [e] at hb1; exact HW0.out.trans hb1)⟩, by simp [intOf]; omega⟩
    · obtain rfl : t = n := by omega
      have HTK : Hid (l.take t = l) := by show _ = _; rw [HNL.out, List.take_length]
      rw [HTK.out] at hM
      go_wp2
      go_ret
      exact ⟨rfl, hM.out, by rw [HBE.out]; exact hBw.out⟩

end Go.Proofs.YtfdgdmehgbmnkaaDoor
