/-
  causewayref02.times.
-/
import Derived.Test.YtehccmlbnfhhmaaDoorWLess
import Derived.Test.YtehccmlbnfhhmaaDoorWTmM
namespace Go.Proofs.YtehccmlbnfhhmaaDoor
open Go Go.RowKit
open Wd

set_option maxRecDepth 100000 in
set_option maxHeartbeats 4000000 in
theorem times_cl (a b N1 N2 n1 n2 c1 c2 : Nat) (ha : a < 2 ^ n1) (hb : b < 2 ^ n2) (hn1 : n1 ≤ 1048576) (hn2 : n2 ≤ 1048576) (w : World) (h1 : Cl w N1 n1 a) (h2 : Cl w N2 n2 b) :
    Calls Tryd.prog 52 #[.slice (some ⟨N1, 0, none⟩) n1 c1, .slice (some ⟨N2, 0, none⟩) n2 c2] w fun e w' => ∃ v, e = .returned v ∧ Dg w' v (blen (a * b)) (a * b) ∧ Below w.heap.size w w' := by
  have H1 : Hid (Cl w N1 n1 a) := h1
  have H2 : Hid (Cl w N2 n2 b) := h2
  have HN : Hid (N1 ≠ w.heap.size ∧ N2 ≠ w.heap.size) := ⟨Nat.ne_of_lt h1.1, Nat.ne_of_lt h2.1⟩
  have HA : Hid (a % 2 ^ n1 = a) := Nat.mod_eq_of_lt ha
  have HB : Hid (b % 2 ^ n2 = b) := Nat.mod_eq_of_lt hb
  have HAB : Hid (a * b < 2 ^ (n1 + n2)) := by show a * b < _; rw [Nat.pow_add]; exact Nat.mul_lt_mul'' ha hb
  clear h1 h2 ha hb
  obtain ⟨L, hL⟩ : ∃ L, L = n1 + n2 + 1 := ⟨_, rfl⟩
  have eL : (n1 : Int) + (n2 : Int) + 1 = (L : Int) := by omega
  have hLl : L ≤ 2097153 := by omega
  have HL : Hid (L = n1 + n2 + 1) := hL
  clear hL
  go_enter Tryd.func52, Tryd.ntmps52
  go_wp2_with (refine wpList_make_i rfl 59 (.tmp 14) (.tmp 14) rfl 3 L _ _ rfl rfl rfl rfl (by omega) Tryd.underlying59 info_all_int ?_; simp only [Act.put, List.setIfInBounds_toArray, List.set_cons_zero, List.set_cons_succ])
  go_loopw [6, 7] (fun v _ wr => ∃ (t : Nat) (l : List Nat), t ≤ n1 ∧ v = .int .i64 (t : Int) ∧ Below w.heap.size w wr ∧ Row wr w.heap.size (vI l) 3 ∧ Hid (Cl wr N1 n1 a ∧ Cl wr N2 n2 b ∧ Tm L ((a % 2 ^ t) * b) (t * n2) l)) (fun v _ _ => n1 - (intOf v).toNat)
  case atStart =>
    have hB : Below w.heap.size w (w.alloc (Obj.cells (vI (List.replicate L 0)).toArray 3)) := (Below.refl _ _).alloc (Nat.le_refl _) _
    refine ⟨0, List.replicate L 0, by omega, rfl, hB, Row.new' rfl rfl, H1.out.below hB, H2.out.below hB, ?_⟩
    rw [Nat.pow_zero, Nat.mod_one, Nat.zero_mul, Nat.zero_mul]
    exact Tm.start L
  case round =>
    obtain ⟨t, l, ht, rfl, hb, hr, hI⟩ := hrel
    by_cases hlt : t < n1
    · have g1 := hI.out.1.2 t hlt
      have hlt' : (t : Int) < (n1 : Int) := by omega
      by_cases hz : bt a t = 0
      · rw [hz] at g1
        have HO : Hid ((a % 2 ^ (t + 1)) * b = (a % 2 ^ t) * b) := outer_zero a b t hz
        clear hz ht
        go_wp2
        refine ⟨⟨t + 1, l, hlt, by go_num, hb, hr, hI.out.1, hI.out.2.1, ?_⟩, by simp [intOf]; omega⟩
        rw [HO.out]
        exact hI.out.2.2.more _ (Nat.mul_le_mul_right _ (by omega))
      · have hz1 : bt a t = 1 := by have := bt_lt a t; omega
        rw [hz1] at g1
        have HO : Hid ((a % 2 ^ (t + 1)) * b = (a % 2 ^ t) * b + 2 ^ t * b) := outer_one a b t hz1
        clear hz hz1 ht
        go_wp2
        go_loopw [7] (fun v wx => ∃ (j : Nat) (l : List Nat), j ≤ n2 ∧ v = .int .i64 (j : Int) ∧ Below w.heap.size w wx ∧ Row wx w.heap.size (vI l) 3 ∧ Hid (Cl wx N1 n1 a ∧ Cl wx N2 n2 b ∧ Tm L ((a % 2 ^ t) * b + 2 ^ t * (b % 2 ^ j)) (t * n2 + j) l)) (fun v _ => n2 - (intOf v).toNat)
        case atStart =>
          refine ⟨0, l, by omega, rfl, hb, hr, hI.out.1, hI.out.2.1, ?_⟩
          rw [Nat.pow_zero, Nat.mod_one, Nat.mul_zero, Nat.add_zero, Nat.add_zero]
          exact hI.out.2.2
        case round =>
          clear hb hr hI g1
          obtain ⟨j, l, hj, rfl, hb, hr, hI⟩ := hrel
          by_cases hjl : j < n2
          · have g2 := hI.out.2.1.2 j hjl
            have hjl' : (j : Int) < (n2 : Int) := by omega
            have hk : t + j < L := by have := HL.out; omega
            have g5 := hr.cell (t + j) _ (vI_get _ (t + j) (by rw [hI.out.2.2.len]; exact hk))
            have gf := hr.thaw (t + j)
            have hbd := hI.out.2.2.bd (t + j)
            have hmx : t * n2 + j ≤ 1099513724928 := by
              have h1 : t * n2 ≤ 1048576 * 1048576 := Nat.mul_le_mul (by omega) (by omega)
              omega
            have hy := bt_lt b j
            have HT : Hid _ := hI.out.2.2.add (t + j) (bt b j) hk (by omega)
            have HS : Hid _ := inner_sum ((a % 2 ^ t) * b) b t j
            have hF := hr.set (t + j) (.int .i64 ((l.getD (t + j) 0 + bt b j : Nat) : Int))
            rw [vI_set] at hF
            have HF : Hid _ := hF
            clear hF
            generalize l.getD (t + j) 0 = p at *
            generalize bt b j = y at *
            have hp : (p : Int) ≤ 1099513724928 := by omega
            have hy2 : (y : Int) < 2 := by omega
            have eS : (p : Int) + (y : Int) = ((p + y : Nat) : Int) := by omega
            generalize p + y = s at *
            clear hbd hmx hy hj
            go_wp2
            go_region
            go_wp2
            refine ⟨⟨j + 1, _, hjl, by go_num, Below.drew (Below.setCell hb (by simp) _), Row.drew HF.out, Cl.drew (hI.out.1.set_other _ _ _ HN.out.1), Cl.drew (hI.out.2.1.set_other _ _ _ HN.out.2), ?_⟩, by simp [intOf]; omega⟩
            rw [← HS.out, ← Nat.add_assoc]
            exact HT.out
          · have ej : j = n2 := by omega
            subst ej
            clear hj hjl
            go_wp2
            refine ⟨⟨t + 1, l, hlt, by go_num, hb, hr, hI.out.1, hI.out.2.1, ?_⟩, by simp [intOf]; omega⟩
            rw [HO.out]
            have := hI.out.2.2
            rw [HB.out] at this
            rw [Nat.add_mul, Nat.one_mul]
            exact this
    · have et : t = n1 := by omega
      subst et
      have hI2 := hI.out.2.2
      rw [HA.out] at hI2
      have HC0 : Hid (Cy L (a * b) (t * n2) 0 l) := Cy.start hI2
      clear hI2 hI hlt ht
      go_wp2
      go_loopw [8] (fun v wx => ∃ (j : Nat) (l : List Nat), j + 1 ≤ L ∧ v = .int .i64 (j : Int) ∧ Below w.heap.size w wx ∧ Row wx w.heap.size (vI l) 3 ∧ Hid (Cy L (a * b) (t * n2) j l)) (fun v _ => L - (intOf v).toNat)
      case atStart => exact ⟨0, l, by have := HL.out; omega, rfl, hb, hr, HC0.out⟩
      case round =>
        clear hb hr HC0
        obtain ⟨j, l, hj, rfl, hb, hr, hI⟩ := hrel
        by_cases hjl : j + 1 < L
        · have g0 := hr.cell j _ (vI_get _ j (by rw [hI.out.len]; omega))
          have g1 := hr.cell (j + 1) _ (vI_get _ (j + 1) (by rw [hI.out.len]; exact hjl))
          have f0 := hr.thaw j
          have f1 := hr.thaw (j + 1)
          have b0 := hI.out.bd j
          have b1 := hI.out.bd (j + 1)
          have hmx : 2 * (t * n2) ≤ 2199023255552 := by
            have h1 : t * n2 ≤ 1048576 * 1048576 := Nat.mul_le_mul (by omega) (by omega)
            omega
          have HT : Hid _ := hI.out.step hjl
          have hF := (hr.set (j + 1) (.int .i64 ((l.getD (j + 1) 0 + l.getD j 0 / 2 : Nat) : Int))).set j (.int .i64 ((l.getD j 0 % 2 : Nat) : Int))
          rw [vI_set, vI_set] at hF
          have HF : Hid _ := hF
          clear hF
          have hjl' : (j : Int) + 1 < (L : Int) := by omega
          generalize l.getD j 0 = x at *
          generalize l.getD (j + 1) 0 = y at *
          have hx : (x : Int) ≤ 2199023255552 := by omega
          have hy : (y : Int) ≤ 2199023255552 := by omega
          have e2 : (x : Int) / 2 = ((x / 2 : Nat) : Int) := by omega
          have e3 : (x : Int) % 2 = ((x % 2 : Nat) : Int) := by omega
          have eS : (y : Int) + ((x / 2 : Nat) : Int) = ((y + x / 2 : Nat) : Int) := by omega
          have hs2 : ((x / 2 : Nat) : Int) ≤ 2199023255552 := by omega
          obtain ⟨h2, hh2⟩ : ∃ h2, h2 = x / 2 := ⟨_, rfl⟩
          obtain ⟨r2, hr2⟩ : ∃ r2, r2 = x % 2 := ⟨_, rfl⟩
          rw [← hh2] at e2 eS HT HF hs2
          rw [← hr2] at e3 HT HF
          generalize y + h2 = s at *
          clear hh2 hr2 b0 b1 hmx hj
          go_wp2
          go_region
          go_wp2
          exact ⟨⟨j + 1, _, by omega, by go_num, Below.drew (Below.setCell (Below.setCell hb (by simp) _) (by simp) _), Row.drew HF.out, HT.out⟩, by simp [intOf]; omega⟩
        · have ej : j + 1 = L := by omega
          have hdone := hI.out.done ej (by have := HL.out; have h2 := HAB.out; rw [show j = t + n2 by omega]; exact h2)
          rw [hdone] at hr
          have HC : Hid (Calls _ _ _ _ _) := cut_dg (.slice (some ⟨w.heap.size, 0, none⟩) L L) L (a * b) wr ⟨Nat.lt_of_lt_of_le HAB.out (Nat.pow_le_pow_right (by decide) (by have := HL.out; omega)), by omega, Or.inr ⟨_, _, rfl, Nat.le_refl _, Cl.row hr⟩⟩
          have hjb : j ≤ 2097153 := by omega
          clear hdone hI hj hjl eL HL hLl
          subst ej
          go_wp2_with (go_at_call 62; refine HC.out.mono ?_; rintro e w2 ⟨v', rfl, hDg, rfl⟩)
          go_ret
          exact ⟨v', rfl, hDg, hb⟩

end Go.Proofs.YtehccmlbnfhhmaaDoor
