/-
  causewayref02.less.
-/
import Derived.Test.YtkbdnebmekhcdaaWDg
namespace Go.Proofs.Ytkbdnebmekhcdaa
open Go Go.RowKit
open Wd

theorem fillBn (m t n : Nat) (h : t < n) : (bts m t ++ List.replicate (n - t) 0).set t (bt m t) = bts m (t + 1) ++ List.replicate (n - (t + 1)) 0 := by
  rw [bts_succ, fill _ t n _ (bts_length _ _) h]

set_option maxRecDepth 100000 in
set_option maxHeartbeats 4000000 in
theorem less_cl (a b N1 N2 n1 n2 c1 c2 : Nat) (hba : b ≤ a) (ha : a < 2 ^ n1) (hb : b < 2 ^ n2) (hn1 : n1 < 35184372088832) (w : World) (h1 : Cl w N1 n1 a) (h2 : Cl w N2 n2 b) :
    Calls Try.prog 46 #[.slice (some ⟨N1, 0, none⟩) n1 c1, .slice (some ⟨N2, 0, none⟩) n2 c2] w fun e w' => ∃ v, e = .returned v ∧ Dg w' v (blen (a - b)) (a - b) ∧ Below w.heap.size w w' := by
  obtain ⟨D, hD⟩ : ∃ D, D = a - b := ⟨_, rfl⟩
  have HST : Hid (∀ t, bt a t + 2 * brw a b (t + 1) = bt b t + brw a b t + bt D t) := by rw [hD]; exact fun t => less_step a b t hba
  have HDL : Hid (D < 2 ^ n1) := by show D < 2 ^ n1; omega
  rw [← hD]
  have HBB : Hid (b < 2 ^ n2) := hb
  have H1 : Hid (Cl w N1 n1 a) := h1
  have H2 : Hid (Cl w N2 n2 b) := h2
  clear hba ha hb hD h1 h2
  go_enter Try.func46, Try.ntmps46
  go_wp2_with (refine wpList_make_i rfl 48 (.tmp 10) (.tmp 10) rfl 3 n1 _ _ rfl rfl rfl rfl (by omega) Try.underlying48 info_all_int ?_; simp only [Act.put, List.setIfInBounds_toArray, List.set_cons_zero, List.set_cons_succ])
  go_loopw [6, 7, 8] (fun bv v _ wr => ∃ t : Nat, t ≤ n1 ∧ v = .int .i64 (t : Int) ∧ bv = .int .i64 ((brw a b t : Nat) : Int) ∧ Below w.heap.size w wr ∧ Row wr w.heap.size (vI (bts D t ++ List.replicate (n1 - t) 0)) 3 ∧ Hid (Cl wr N1 n1 a ∧ Cl wr N2 n2 b)) (fun _ v _ _ => n1 - (intOf v).toNat)
  case atStart =>
    have hB : Below w.heap.size w (w.alloc (Obj.cells (vI (List.replicate n1 0)).toArray 3)) := (Below.refl _ _).alloc (Nat.le_refl _) _
    refine ⟨0, by omega, rfl, by rw [brw_zero]; rfl, hB, ?_, H1.out.below hB, H2.out.below hB⟩
    rw [show bts D 0 = [] from rfl, List.nil_append, Nat.sub_zero]
    exact Row.new' rfl rfl
  case round =>
    obtain ⟨t, ht, rfl, rfl, hb, hr, hC⟩ := hrel
    by_cases hlt : t < n1
    · have g1 := hC.out.1.2 t hlt
      have hst := HST.out t
      have x1 := bt_lt a t
      have x2 := bt_lt b t
      have x3 := bt_lt D t
      have y1 := brw_le a b t
      have y2 := brw_le a b (t + 1)
      have g3 := hr.cell t _ (vI_get _ t (by rw [List.length_append, bts_length, List.length_replicate]; omega))
      have gf := hr.thaw t
      have HN1 : Hid (N1 ≠ w.heap.size ∧ N2 ≠ w.heap.size) := ⟨Nat.ne_of_lt H1.out.1, Nat.ne_of_lt H2.out.1⟩
      generalize (bts D t ++ List.replicate (n1 - t) 0).getD t 0 = z at g3
      have hF := hr.set t (.int .i64 ((bt D t : Nat) : Int))
      rw [vI_set, fillBn D t n1 hlt] at hF
      have HF : Hid _ := hF
      clear hF
      have hlt' : (t : Int) < (n1 : Int) := by omega
      by_cases hn : t < n2
      · have g2 := hC.out.2.2 t hn
        have hn' : (t : Int) < (n2 : Int) := by omega
        generalize bt a t = x at *
        generalize bt b t = y at *
        obtain ⟨B1, hB1⟩ : ∃ B1, B1 = brw a b (t + 1) := ⟨_, rfl⟩
        obtain ⟨B0, hB0⟩ : ∃ B0, B0 = brw a b t := ⟨_, rfl⟩
        obtain ⟨d, hd⟩ : ∃ d, d = bt D t := ⟨_, rfl⟩
        rw [← hB1, ← hB0, ← hd] at hst
        rw [← hd] at x3 HF
        rw [← hB0] at y1 ⊢
        rw [← hB1] at y2
        have HB1 : Hid (B1 = brw a b (t + 1)) := hB1
        clear hB1 hB0 hd ht hn
        rcases (show x = 0 ∨ x = 1 by omega) with rfl | rfl <;> rcases (show y = 0 ∨ y = 1 by omega) with rfl | rfl <;> rcases (show B0 = 0 ∨ B0 = 1 by omega) with rfl | rfl <;> rcases (show d = 0 ∨ d = 1 by omega) with rfl | rfl <;> rcases (show B1 = 0 ∨ B1 = 1 by omega) with rfl | rfl
        all_goals first
          | (exfalso; omega)
          | (clear hst x1 x2 x3 y1 y2
             go_wp2
             exact ⟨⟨t + 1, hlt, by go_num, by rw [← HB1.out]; rfl, Below.setCell hb (by simp) _, HF.out, hC.out.1.set_other _ _ _ HN1.out.1, hC.out.2.set_other _ _ _ HN1.out.2⟩, by simp [intOf]; omega⟩)
      · have hy0 : bt b t = 0 := bt_zero b t (Nat.le_trans (blen_le b n2 HBB.out) (by omega))
        have hn' : ¬ (t : Int) < (n2 : Int) := by omega
        rw [hy0] at hst
        generalize bt a t = x at *
        obtain ⟨B1, hB1⟩ : ∃ B1, B1 = brw a b (t + 1) := ⟨_, rfl⟩
        obtain ⟨B0, hB0⟩ : ∃ B0, B0 = brw a b t := ⟨_, rfl⟩
        obtain ⟨d, hd⟩ : ∃ d, d = bt D t := ⟨_, rfl⟩
        rw [← hB1, ← hB0, ← hd] at hst
        rw [← hd] at x3 HF
        rw [← hB0] at y1 ⊢
        rw [← hB1] at y2
        have HB1 : Hid (B1 = brw a b (t + 1)) := hB1
        clear hB1 hB0 hd ht hn hy0 x2
        rcases (show x = 0 ∨ x = 1 by omega) with rfl | rfl <;> rcases (show B0 = 0 ∨ B0 = 1 by omega) with rfl | rfl <;> rcases (show d = 0 ∨ d = 1 by omega) with rfl | rfl <;> rcases (show B1 = 0 ∨ B1 = 1 by omega) with rfl | rfl
        all_goals first
          | (exfalso; omega)
          | (clear hst x1 x3 y1 y2
             go_wp2
             exact ⟨⟨t + 1, hlt, by go_num, by rw [← HB1.out]; rfl, Below.setCell hb (by simp) _, HF.out, hC.out.1.set_other _ _ _ HN1.out.1, hC.out.2.set_other _ _ _ HN1.out.2⟩, by simp [intOf]; omega⟩)
    · have et : t = n1 := by omega
      subst et
      have hr' : Row wr w.heap.size (vI (bts D t)) 3 := by
        have := hr
        rw [Nat.sub_self, List.replicate_zero, List.append_nil] at this
        exact this
      have HC : Hid (Calls _ _ _ _ _) := cut_dg (.slice (some ⟨w.heap.size, 0, none⟩) t t) t D wr ⟨HDL.out, by omega, Or.inr ⟨_, _, rfl, Nat.le_refl _, Cl.row hr'⟩⟩
      clear ht hlt hr hr'
      go_wp2_with (go_at_call 61; refine HC.out.mono ?_; rintro e w2 ⟨v', rfl, hDg, rfl⟩)
      go_ret
      exact ⟨v', rfl, hDg, hb⟩

end Go.Proofs.Ytkbdnebmekhcdaa
