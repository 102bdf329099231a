/-
  causewayref02.times, of no digits too.
-/
import Derived.Test.YtehccmlbnfhhmaaDoorWTms
namespace Go.Proofs.YtehccmlbnfhhmaaDoor
open Go Go.RowKit
open Wd

set_option maxRecDepth 100000 in
set_option maxHeartbeats 4000000 in
theorem times_nil (N2 n2 c2 : Nat) (hn2 : n2 ≤ 1048576) (w : World) :
    Calls Tryd.prog 52 #[.slice none 0 0, .slice (some ⟨N2, 0, none⟩) n2 c2] w fun e w' => ∃ v, e = .returned v ∧ Dg w' v (blen 0) 0 ∧ Below w.heap.size w w' := by
  obtain ⟨L, hL⟩ : ∃ L, L = n2 + 1 := ⟨_, rfl⟩
  have eL : (n2 : Int) + 1 = (L : Int) := by omega
  have hLl : L ≤ 2097153 := by omega
  have HL : Hid (L = n2 + 1) := hL
  have hn2' : (n2 : Int) ≤ 1048576 := by omega
  clear hL
  go_enter Tryd.func52, Tryd.ntmps52
  go_wp2_with (refine wpList_make_i rfl 59 (.tmp 14) (.tmp 14) rfl 3 L _ _ rfl rfl rfl rfl (by omega) Tryd.underlying59 info_all_int ?_; simp only [Act.put, List.setIfInBounds_toArray, List.set_cons_zero, List.set_cons_succ])
  go_loopw [6, 7] (fun v _ wr => v = .int .i64 0 ∧ Below w.heap.size w wr ∧ Row wr w.heap.size (vI (List.replicate L 0)) 3) (fun _ _ _ => 0)
  case atStart =>
    exact ⟨rfl, (Below.refl _ _).alloc (Nat.le_refl _) _, Row.new' rfl rfl⟩
  case round =>
    obtain ⟨rfl, hb, hr⟩ := hrel
    have HC0 : Hid (Cy L 0 0 0 (List.replicate L 0)) := Cy.start (Tm.start L)
    go_wp2
    go_loopw [8] (fun v wx => ∃ (j : Nat) (l : List Nat), j + 1 ≤ L ∧ v = .int .i64 (j : Int) ∧ Below w.heap.size w wx ∧ Row wx w.heap.size (vI l) 3 ∧ Hid (Cy L 0 0 j l)) (fun v _ => L - (intOf v).toNat)
    case atStart => exact ⟨0, List.replicate L 0, by have := HL.out; omega, rfl, hb, hr, HC0.out⟩
    case round =>
      clear hb hr HC0
      obtain ⟨j, l, hj, rfl, hb, hr, hI⟩ := hrel
      by_cases hjl : j + 1 < L
      · have g0 := hr.cell j _ (vI_get _ j (by rw [hI.out.len]; omega))
        have g1 := hr.cell (j + 1) _ (vI_get _ (j + 1) (by rw [hI.out.len]; exact hjl))
        have f0 := hr.thaw j
        have f1 := hr.thaw (j + 1)
        have b0 := hI.out.bd j
        have b1 := hI.out.bd (j + 1)
        have HT : Hid _ := hI.out.step hjl
        have hF := (hr.set (j + 1) (.int .i64 ((l.getD (j + 1) 0 + l.getD j 0 / 2 : Nat) : Int))).set j (.int .i64 ((l.getD j 0 % 2 : Nat) : Int))
        rw [vI_set, vI_set] at hF
        have HF : Hid _ := hF
        clear hF
        have hjl' : (j : Int) + 1 < (L : Int) := by omega
        generalize l.getD j 0 = x at *
        generalize l.getD (j + 1) 0 = y at *
        have hx : (x : Int) ≤ 2199023255552 := by omega
        have hy : (y : Int) ≤ 2199023255552 := by omega
        have e2 : (x : Int) / 2 = ((x / 2 : Nat) : Int) := by omega
        have e3 : (x : Int) % 2 = ((x % 2 : Nat) : Int) := by omega
        have eS : (y : Int) + ((x / 2 : Nat) : Int) = ((y + x / 2 : Nat) : Int) := by omega
        have hs2 : ((x / 2 : Nat) : Int) ≤ 2199023255552 := by omega
        obtain ⟨h2, hh2⟩ : ∃ h2, h2 = x / 2 := ⟨_, rfl⟩
        obtain ⟨r2, hr2⟩ : ∃ r2, r2 = x % 2 := ⟨_, rfl⟩
        rw [← hh2] at e2 eS HT HF hs2
        rw [← hr2] at e3 HT HF
        generalize y + h2 = s at *
        clear hh2 hr2 b0 b1 hj
        go_wp2
        go_region
        go_wp2
        exact ⟨⟨j + 1, _, by omega, by go_num, Below.drew (Below.setCell (Below.setCell hb (by simp) _) (by simp) _), Row.drew HF.out, HT.out⟩, by simp [intOf]; omega⟩
      · have ej : j + 1 = L := by omega
        have hdone := hI.out.done ej (Nat.pow_pos (by decide))
        rw [hdone] at hr
        have HC : Hid (Calls _ _ _ _ _) := cut_dg (.slice (some ⟨w.heap.size, 0, none⟩) L L) L 0 wr ⟨Nat.pow_pos (by decide), by omega, Or.inr ⟨_, _, rfl, Nat.le_refl _, Cl.row hr⟩⟩
        have hjb : j ≤ 2097153 := by omega
        clear hdone hI hj hjl eL HL hLl
        subst ej
        go_wp2_with (go_at_call 62; refine HC.out.mono ?_; rintro e w2 ⟨v', rfl, hDg, rfl⟩)
        go_ret
        exact ⟨v', rfl, hDg, hb⟩

theorem times_dg (a b N2 n1 n2 c2 : Nat) (v1 : Value) (hb : b < 2 ^ n2) (hn1 : n1 ≤ 1048576) (hn2 : n2 ≤ 1048576) (w : World) (h1 : Dg w v1 n1 a) (h2 : Cl w N2 n2 b) :
    Calls Tryd.prog 52 #[v1, .slice (some ⟨N2, 0, none⟩) n2 c2] w fun e w' => ∃ v, e = .returned v ∧ Dg w' v (blen (a * b)) (a * b) ∧ Below w.heap.size w w' := by
  rcases h1.2.2 with ⟨rfl, h0⟩ | ⟨N, c, rfl, hc, hl⟩
  · have ha : a = 0 := by have := h1.1; rw [h0] at this; simpa using this
    rw [ha, Nat.zero_mul]
    exact times_nil N2 n2 c2 hn2 w
  · exact times_cl a b N N2 n1 n2 c c2 h1.1 hb hn1 hn2 w hl h2

end Go.Proofs.YtehccmlbnfhhmaaDoor
