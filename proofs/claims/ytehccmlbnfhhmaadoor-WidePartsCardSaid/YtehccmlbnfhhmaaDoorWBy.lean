/-
  causewayref02.by.
-/
import Derived.Test.YtehccmlbnfhhmaaDoorWLess
import Derived.Test.YtehccmlbnfhhmaaDoorWDgM
import Derived.Test.YtehccmlbnfhhmaaDoorWCpD

namespace Go.Proofs.YtehccmlbnfhhmaaDoor
open Go Go.RowKit
open Wd

set_option maxRecDepth 100000 in
set_option maxHeartbeats 4000000 in
theorem less_at (a b N1 N2 n1 n2 c1 c2 : Nat) (hba : b ≤ a) (ha : a < 2 ^ n1) (hb : b < 2 ^ n2) (hn1 : n1 < 35184372088832) (w : World) (h1 : Cl w N1 n1 a) (h2 : Cl w N2 n2 b) :
    Calls Tryd.prog 49 #[.slice (some ⟨N1, 0, none⟩) n1 c1, .slice (some ⟨N2, 0, none⟩) n2 c2] w fun e w' => e = .returned (.slice (some ⟨w.heap.size, 0, none⟩) (blen (a - b)) n1) ∧ Cl w' w.heap.size (blen (a - b)) (a - b) ∧ blen (a - b) ≤ n1 ∧ Below w.heap.size w w' := by
  obtain ⟨D, hD⟩ : ∃ D, D = a - b := ⟨_, rfl⟩
  have HST : Hid (∀ t, bt a t + 2 * brw a b (t + 1) = bt b t + brw a b t + bt D t) := by rw [hD]; exact fun t => less_step a b t hba
  have HDL : Hid (D < 2 ^ n1) := by show D < 2 ^ n1; omega
  rw [← hD]
  have HBB : Hid (b < 2 ^ n2) := hb
  have H1 : Hid (Cl w N1 n1 a) := h1
  have H2 : Hid (Cl w N2 n2 b) := h2
  clear hba ha hb hD h1 h2
  go_enter Tryd.func49, Tryd.ntmps49
  go_wp2_with (refine wpList_make_i rfl 59 (.tmp 10) (.tmp 10) rfl 3 n1 _ _ rfl rfl rfl rfl (by omega) Tryd.underlying59 info_all_int ?_; simp only [Act.put, List.setIfInBounds_toArray, List.set_cons_zero, List.set_cons_succ])
  go_loopw [6, 7, 8] (fun bv v _ wr => ∃ t : Nat, t ≤ n1 ∧ v = .int .i64 (t : Int) ∧ bv = .int .i64 ((brw a b t : Nat) : Int) ∧ Below w.heap.size w wr ∧ Row wr w.heap.size (vI (bts D t ++ List.replicate (n1 - t) 0)) 3 ∧ Hid (Cl wr N1 n1 a ∧ Cl wr N2 n2 b)) (fun _ v _ _ => n1 - (intOf v).toNat)
  case atStart =>
    have hB : Below w.heap.size w (w.alloc (Obj.cells (vI (List.replicate n1 0)).toArray 3)) := (Below.refl _ _).alloc (Nat.le_refl _) _
    refine ⟨0, by omega, rfl, by rw [brw_zero]; rfl, hB, ?_, H1.out.below hB, H2.out.below hB⟩
    rw [show bts D 0 = [] from rfl, List.nil_append, Nat.sub_zero]
    exact Row.new' rfl rfl
  case round =>
    obtain ⟨t, ht, rfl, rfl, hb, hr, hC⟩ := hrel
    by_cases hlt : t < n1
    · have g1 := hC.out.1.2 t hlt
      have hst := HST.out t
      have x1 := bt_lt a t
      have x2 := bt_lt b t
      have x3 := bt_lt D t
      have y1 := brw_le a b t
      have y2 := brw_le a b (t + 1)
      have g3 := hr.cell t _ (vI_get _ t (by rw [List.length_append, bts_length, List.length_replicate]; omega))
      have gf := hr.thaw t
      have HN1 : Hid (N1 ≠ w.heap.size ∧ N2 ≠ w.heap.size) := ⟨Nat.ne_of_lt H1.out.1, Nat.ne_of_lt H2.out.1⟩
      generalize (bts D t ++ List.replicate (n1 - t) 0).getD t 0 = z at g3
      have hF := hr.set t (.int .i64 ((bt D t : Nat) : Int))
      rw [vI_set, fillBn D t n1 hlt] at hF
      have HF : Hid _ := hF
      clear hF
      have hlt' : (t : Int) < (n1 : Int) := by omega
      by_cases hn : t < n2
      · have g2 := hC.out.2.2 t hn
        have hn' : (t : Int) < (n2 : Int) := by omega
        generalize bt a t = x at *
        generalize bt b t = y at *
        obtain ⟨B1, hB1⟩ : ∃ B1, B1 = brw a b (t + 1) := ⟨_, rfl⟩
        obtain ⟨B0, hB0⟩ : ∃ B0, B0 = brw a b t := ⟨_, rfl⟩
        obtain ⟨d, hd⟩ : ∃ d, d = bt D t := ⟨_, rfl⟩
        rw [← hB1, ← hB0, ← hd] at hst
        rw [← hd] at x3 HF
        rw [← hB0] at y1 ⊢
        rw [← hB1] at y2
        have HB1 : Hid (B1 = brw a b (t + 1)) := hB1
        clear hB1 hB0 hd ht hn
        rcases (show x = 0 ∨ x = 1 by omega) with rfl | rfl <;> rcases (show y = 0 ∨ y = 1 by omega) with rfl | rfl <;> rcases (show B0 = 0 ∨ B0 = 1 by omega) with rfl | rfl <;> rcases (show d = 0 ∨ d = 1 by omega) with rfl | rfl <;> rcases (show B1 = 0 ∨ B1 = 1 by omega) with rfl | rfl
        all_goals first
          | (exfalso; omega)
          | (clear hst x1 x2 x3 y1 y2
             go_wp2
             exact ⟨⟨t + 1, hlt, by go_num, by rw [← HB1.out]; rfl, Below.setCell hb (by simp) _, HF.out, hC.out.1.set_other _ _ _ HN1.out.1, hC.out.2.set_other _ _ _ HN1.out.2⟩, by simp [intOf]; omega⟩)
      · have hy0 : bt b t = 0 := bt_zero b t (Nat.le_trans (blen_le b n2 HBB.out) (by omega))
        have hn' : ¬ (t : Int) < (n2 : Int) := by omega
        rw [hy0] at hst
        generalize bt a t = x at *
        obtain ⟨B1, hB1⟩ : ∃ B1, B1 = brw a b (t + 1) := ⟨_, rfl⟩
        obtain ⟨B0, hB0⟩ : ∃ B0, B0 = brw a b t := ⟨_, rfl⟩
        obtain ⟨d, hd⟩ : ∃ d, d = bt D t := ⟨_, rfl⟩
        rw [← hB1, ← hB0, ← hd] at hst
        rw [← hd] at x3 HF
        rw [← hB0] at y1 ⊢
        rw [← hB1] at y2
        have HB1 : Hid (B1 = brw a b (t + 1)) := hB1
        clear hB1 hB0 hd ht hn hy0 x2
        rcases (show x = 0 ∨ x = 1 by omega) with rfl | rfl <;> rcases (show B0 = 0 ∨ B0 = 1 by omega) with rfl | rfl <;> rcases (show d = 0 ∨ d = 1 by omega) with rfl | rfl <;> rcases (show B1 = 0 ∨ B1 = 1 by omega) with rfl | rfl
        all_goals first
          | (exfalso; omega)
          | (clear hst x1 x3 y1 y2
             go_wp2
             exact ⟨⟨t + 1, hlt, by go_num, by rw [← HB1.out]; rfl, Below.setCell hb (by simp) _, HF.out, hC.out.1.set_other _ _ _ HN1.out.1, hC.out.2.set_other _ _ _ HN1.out.2⟩, by simp [intOf]; omega⟩)
    · have et : t = n1 := by omega
      subst et
      have hr' : Row wr w.heap.size (vI (bts D t)) 3 := by
        have := hr
        rw [Nat.sub_self, List.replicate_zero, List.append_nil] at this
        exact this
      have HCL : Hid (Cl wr w.heap.size t D) := Cl.row hr'
      have HBL : Hid (blen D ≤ t) := blen_le D t HDL.out
      have HC : Hid (Calls _ _ _ _ _) := cut_cl D w.heap.size t t HBL.out (Nat.le_refl _) (by omega) wr (Cl.row hr')
      clear ht hlt hr hr'
      go_wp2_with (go_at_call 62; refine HC.out.mono ?_; rintro e w2 ⟨rfl, rfl⟩)
      go_ret
      exact ⟨rfl, HCL.out.less HBL.out, HBL.out, hb⟩

end Go.Proofs.YtehccmlbnfhhmaaDoor


namespace Go.Proofs.YtehccmlbnfhhmaaDoor
open Go
namespace Wd
/-- The quotient's digits from t on, noughts below. -/
def ql (n t Q : Nat) : List Nat := (List.range n).map (fun j => if j < t then 0 else bt Q j)
theorem ql_length (n t Q : Nat) : (ql n t Q).length = n := by simp [ql]
theorem ql_start (n Q : Nat) : ql n n Q = List.replicate n 0 := by
  apply List.ext_getElem
  · simp [ql]
  · intro i h1 h2
    have : i < n := by simpa [ql] using h1
    simp [ql, this]
theorem ql_end (n Q : Nat) : ql n 0 Q = bts Q n := by simp [ql, bts]
theorem ql_one (n i Q : Nat) (h : bt Q i = 1) : (ql n (i + 1) Q).set i 1 = ql n i Q := by
  apply List.ext_getElem
  · simp [ql]
  · intro j h1 h2
    rw [List.getElem_set]
    split
    · rename_i e; subst e; simp [ql, h]
    · rename_i e
      simp only [ql, List.getElem_map, List.getElem_range]
      by_cases hj : j < i
      · rw [if_pos (by omega), if_pos hj]
      · rw [if_neg (by omega), if_neg hj]
theorem ql_zero (n i Q : Nat) (h : bt Q i = 0) : ql n (i + 1) Q = ql n i Q := by
  unfold ql
  apply List.map_congr_left
  intro j _
  by_cases hj : j < i
  · rw [if_pos (by omega), if_pos hj]
  · rw [if_neg hj]
    by_cases e : j = i
    · subst e; rw [if_pos (by omega), h]
    · rw [if_neg (by omega)]
theorem div_two_pow (a i : Nat) : a / 2 ^ i = 2 * (a / 2 ^ (i + 1)) + bt a i := by
  unfold bt
  rw [Nat.pow_succ, ← Nat.div_div_eq_div_mul]
  omega
theorem div_swap (a b i : Nat) : a / b / 2 ^ i = a / 2 ^ i / b := by
  rw [Nat.div_div_eq_div_mul, Nat.div_div_eq_div_mul, Nat.mul_comm]
/-- One digit more is brought down. -/
theorem by_step (a b i : Nat) (hb : 0 < b) :
    let L := a / 2 ^ (i + 1) % b
    (b ≤ 2 * L + bt a i → bt (a / b) i = 1 ∧ a / 2 ^ i % b = 2 * L + bt a i - b) ∧ (2 * L + bt a i < b → bt (a / b) i = 0 ∧ a / 2 ^ i % b = 2 * L + bt a i) := by
  intro L
  have e := div_two_pow a i
  have hL : L < b := Nat.mod_lt _ hb
  have hx := bt_lt a i
  have hd := Nat.div_add_mod (a / 2 ^ (i + 1)) b
  have hq : bt (a / b) i = a / 2 ^ i / b % 2 := by unfold bt; rw [div_swap]
  rw [hq, e]
  have e2 : 2 * (a / 2 ^ (i + 1)) + bt a i = 2 * L + bt a i + b * (2 * (a / 2 ^ (i + 1) / b)) := by
    have : b * (2 * (a / 2 ^ (i + 1) / b)) = 2 * (b * (a / 2 ^ (i + 1) / b)) := by grind
    rw [this]
    have : L = a / 2 ^ (i + 1) % b := rfl
    omega
  rw [e2, Nat.add_mul_div_left _ _ hb, Nat.add_mul_mod_self_left (2 * L + bt a i) b]
  refine ⟨fun h => ?_, fun h => ?_⟩
  · have h1 : (2 * L + bt a i) / b = 1 := by
      rw [Nat.div_eq_iff hb]; omega
    rw [h1]
    refine ⟨by omega, ?_⟩
    rw [Nat.mod_eq_sub_mod h, Nat.mod_eq_of_lt (by omega)]
  · rw [Nat.div_eq_of_lt h, Nat.mod_eq_of_lt h]
    exact ⟨by omega, rfl⟩
theorem bt_zero_of (x L : Nat) (h : x < 2) : bt (2 * L + x) 0 = x := by unfold bt; simp; omega
theorem bt_succ_of (x L k : Nat) (h : x < 2) : bt (2 * L + x) (k + 1) = bt L k := by
  unfold bt
  rw [show k + 1 = 1 + k by omega, Nat.pow_add, ← Nat.div_div_eq_div_mul, show (2 * L + x) / 2 ^ 1 = L by omega]
theorem next_lt (x L n : Nat) (hx : x < 2) (h : L < 2 ^ n) : 2 * L + x < 2 ^ (n + 1) := by rw [Nat.pow_succ]; omega
end Wd
end Go.Proofs.YtehccmlbnfhhmaaDoor

namespace Go.Proofs.YtehccmlbnfhhmaaDoor
open Go Go.RowKit
open Wd

/-- A list of the digits of m that lies above block B. -/
def Dq (W : World) (B : Nat) (v : Value) (m : Nat) : Prop := (v = .slice none 0 0 ∧ blen m = 0) ∨ ∃ N c, v = .slice (some ⟨N, 0, none⟩) (blen m) c ∧ B < N ∧ blen m ≤ c ∧ Cl W N (blen m) m
theorem Dq.dg {W : World} {B m : Nat} {v : Value} (h : Dq W B v m) (hm : blen m < 4611686018427387904) : Dg W v (blen m) m :=
  ⟨blen_lt m, hm, h.imp id (fun ⟨N, c, e, _, hc, hl⟩ => ⟨N, c, e, hc, hl⟩)⟩
theorem blen_mono (a b : Nat) (h : a ≤ b) : blen a ≤ blen b := blen_le a (blen b) (Nat.lt_of_le_of_lt h (blen_lt b))
theorem next_row (X K k y : Nat) (hk : k + 1 < K) (hy : bt X (k + 1) = y) : (bts X (k + 1) ++ List.replicate (K - (k + 1)) 0).set (k + 1) y = bts X (k + 2) ++ List.replicate (K - (k + 2)) 0 := by
  rw [← hy]; exact fillBn X (k + 1) K hk
theorem first_row (X K x : Nat) (hK : 0 < K) (hx : bt X 0 = x) : (List.replicate K 0).set 0 x = bts X 1 ++ List.replicate (K - 1) 0 := by
  have := fillBn X 0 K hK
  rw [← hx]
  simpa [bts] using this

set_option maxRecDepth 100000 in
set_option maxHeartbeats 8000000 in
theorem by_dg (a b n1 N2 c2 : Nat) (v1 : Value) (hb0 : 0 < b) (hn1 : n1 ≤ 1048576) (hn2 : blen b ≤ 1048576) (w : World) (h1 : Dg w v1 n1 a) (h2 : Cl w N2 (blen b) b) (hc2 : blen b ≤ c2) :
    Calls Tryd.prog 55 #[v1, .slice (some ⟨N2, 0, none⟩) (blen b) c2] w fun e w' => ∃ vq vl, e = .returned (.tuple #[vq, vl]) ∧ Dg w' vq (blen (a / b)) (a / b) ∧ Dg w' vl (blen (a % b)) (a % b) ∧ Below w.heap.size w w' := by
  have HA : Hid (a < 2 ^ n1) := h1.1
  obtain ⟨A1, c1, rfl, d1⟩ := h1.dl
  have H1 : Hid (Dl w A1 n1 a) := d1
  have H2 : Hid (Cl w N2 (blen b) b) := h2
  have HST : Hid (∀ i, _) := fun i => by_step a b i hb0
  have HB0 : Hid (0 < b) := hb0
  have HB2 : Hid (blen b ≤ 1048576 ∧ blen b ≤ c2) := ⟨hn2, hc2⟩
  clear h1 d1 h2 hb0 hn2 hc2
  obtain ⟨n2, en2⟩ : ∃ n2, n2 = blen b := ⟨_, rfl⟩
  have HN2 : Hid (n2 = blen b) := en2
  rw [← en2]
  clear en2
  go_enter Tryd.func55, Tryd.ntmps55
  go_wp2_with (refine wpList_make_i rfl 59 (.tmp 12) (.tmp 12) rfl 3 n1 _ _ rfl rfl rfl rfl (by omega) Tryd.underlying59 info_all_int ?_; simp only [Act.put, List.setIfInBounds_toArray, List.set_cons_zero, List.set_cons_succ])
  go_loopw [7, 8, 9, 10] (fun lv iv _ _ wr => ∃ t : Nat, t ≤ n1 ∧ iv = .int .i64 ((t : Int) - 1) ∧ Below w.heap.size w wr ∧ Row wr w.heap.size (vI (ql n1 t (a / b))) 3 ∧ Hid (Dq wr w.heap.size lv (a / 2 ^ t % b))) (fun _ iv _ _ _ => (intOf iv + 1).toNat)
  case atStart =>
    have hB : Below w.heap.size w (w.alloc (Obj.cells (vI (List.replicate n1 0)).toArray 3)) := (Below.refl _ _).alloc (Nat.le_refl _) _
    refine ⟨n1, Nat.le_refl _, rfl, hB, by rw [ql_start]; exact Row.new' rfl rfl, Or.inl ⟨rfl, ?_⟩⟩
    rw [Nat.div_eq_of_lt HA.out, Nat.zero_mod]; rfl
  case round =>
    obtain ⟨t, ht, rfl, hb, hr, hL⟩ := hrel
    by_cases h0 : 0 < t
    · obtain ⟨i, rfl⟩ : ∃ i, t = i + 1 := ⟨t - 1, by omega⟩
      have ei : (((i + 1 : Nat) : Int) - 1) = (i : Int) := by omega
      rw [ei]
      have hst := HST.out i
      obtain ⟨L, eL⟩ : ∃ L, L = a / 2 ^ (i + 1) % b := ⟨_, rfl⟩
      rw [← eL] at hL hst
      have hLb : L < b := by rw [eL]; exact Nat.mod_lt _ HB0.out
      have hLn : blen L ≤ 1048576 := Nat.le_trans (blen_mono L b (by omega)) HB2.out.1
      have hx := bt_lt a i
      obtain ⟨N1, e1, g1, q1⟩ := (H1.out.below hb) i (by omega)
      subst e1
      obtain ⟨x, ex⟩ : ∃ x, x = bt a i := ⟨_, rfl⟩
      rw [← ex] at hst hx g1
      obtain ⟨A, c, e2, dL⟩ := (hL.out.dg (by omega)).dl
      obtain ⟨X, eX⟩ : ∃ X, X = 2 * L + x := ⟨_, rfl⟩
      rw [← eX] at hst
      have HX0 : Hid (bt X 0 = x ∧ ∀ k, bt X (k + 1) = bt L k) := by rw [eX]; exact ⟨bt_zero_of x L hx, fun k => bt_succ_of x L k hx⟩
      have HXl : Hid (X < 2 ^ (blen L + 1)) := by rw [eX]; exact next_lt x L _ hx (blen_lt L)
      have HX : Hid ((b ≤ X → bt (a / b) i = 1 ∧ a / 2 ^ i % b = X - b) ∧ (X < b → bt (a / b) i = 0 ∧ a / 2 ^ i % b = X)) := hst
      obtain ⟨n, en⟩ : ∃ n, n = blen L := ⟨_, rfl⟩
      rw [← en] at e2 dL HXl hLn
      have HEN : Hid (n = blen L) := en
      clear en
      subst e2
      obtain ⟨K, eK'⟩ : ∃ K, K = n + 1 := ⟨_, rfl⟩
      rw [← eK'] at HXl
      have eK : (n : Int) + 1 = (K : Int) := by omega
      have hKl : K ≤ 1048577 := by omega
      have hnK : n + 1 = K := eK'.symm
      have hB1 : Below wr.heap.size wr (wr.alloc (Obj.cells (vI (List.replicate K 0)).toArray 3)) := (Below.refl _ _).alloc (Nat.le_refl _) _
      have rM : Row (wr.alloc (Obj.cells (vI (List.replicate K 0)).toArray 3)) wr.heap.size (vI (List.replicate K 0)) 3 := Row.new' rfl rfl
      have hqM : w.heap.size < wr.heap.size := Row.lt hr
      have rQ := Row.alloc hr (Obj.cells (vI (List.replicate K 0)).toArray 3)
      have hb1 := hb.alloc hb.size (Obj.cells (vI (List.replicate K 0)).toArray 3)
      have g1' := (hB1.cell (p := ⟨N1, i, none⟩) q1).trans g1
      have hin : i < n1 := by omega
      have hin' : (i : Int) < (n1 : Int) := by omega
      have hK0 : 0 < K := by omega
      have z0 := rM.cell 0 _ (vI_get _ 0 (by rw [List.length_replicate]; exact hK0))
      have f0 := rM.thaw 0
      have HM1 : Hid (Row (wr.alloc (Obj.cells ((vI (List.replicate K 0)).set 0 (Value.int .i64 (x : Int))).toArray 3)) wr.heap.size (vI (bts X 1 ++ List.replicate (K - 1) 0)) 3) := Row.new' rfl (by rw [vI_set, first_row X K x hK0 HX0.out.1])
      have HQ1 : Hid _ := Row.alloc hr (Obj.cells ((vI (List.replicate K 0)).set 0 (Value.int .i64 (x : Int))).toArray 3)
      have HBb : Hid _ := hb.alloc hb.size (Obj.cells ((vI (List.replicate K 0)).set 0 (Value.int .i64 (x : Int))).toArray 3)
      have HD1 : Hid (∀ k, k < n → ∃ N, A = some ⟨N, 0, none⟩ ∧ (wr.alloc (Obj.cells ((vI (List.replicate K 0)).set 0 (Value.int .i64 (x : Int))).toArray 3)).cell? ⟨N, k, none⟩ = some (.int .i64 ((bt L k : Nat) : Int)) ∧ N < wr.heap.size) := fun k hk => by
        have hB1 : Below wr.heap.size wr (wr.alloc (Obj.cells ((vI (List.replicate K 0)).set 0 (Value.int .i64 (x : Int))).toArray 3)) := (Below.refl _ _).alloc (Nat.le_refl _) _
        obtain ⟨N, e, h1, h2⟩ := dL k hk
        exact ⟨N, e, (hB1.cell (p := ⟨N, k, none⟩) h2).trans h1, h2⟩
      clear rM rQ hb1 hb hr hL dL hst g1 q1 hB1 eX eL ex hLb hx h0 ht ei eK'
      generalize (List.replicate K 0).getD 0 0 = z at z0
      go_wp2_with (refine wpList_make_i rfl 59 (.tmp 23) (.tmp 23) rfl 3 K _ _ rfl rfl rfl rfl (by omega) Tryd.underlying59 info_all_int ?_; simp only [Act.put, List.setIfInBounds_toArray, List.set_cons_zero, List.set_cons_succ])
      generalize (wr.alloc (Obj.cells ((vI (List.replicate K 0)).set 0 (Value.int .i64 (x : Int))).toArray 3)) = W1 at *
      generalize wr.heap.size = M at *
      go_loopw [10] (fun kv wx => ∃ k : Nat, k ≤ n ∧ kv = .int .i64 (k : Int) ∧ Below w.heap.size w wx ∧ Row wx M (vI (bts X (k + 1) ++ List.replicate (K - (k + 1)) 0)) 3 ∧ Hid (Row wx w.heap.size (vI (ql n1 (i + 1) (a / b))) 3 ∧ ∀ k, k < n → ∃ N, A = some ⟨N, 0, none⟩ ∧ wx.cell? ⟨N, k, none⟩ = some (.int .i64 ((bt L k : Nat) : Int)) ∧ N < M)) (fun kv _ => n - (intOf kv).toNat)
      case atStart => exact ⟨0, by omega, rfl, HBb.out, HM1.out, HQ1.out, HD1.out⟩
      case round =>
        clear HBb HM1 HQ1 HD1
        obtain ⟨k, hk, rfl, hb, hr, hI⟩ := hrel
        by_cases hkn : k < n
        · have hkn' : (k : Int) < (n : Int) := by omega
          obtain ⟨N, e, g2, hNM⟩ := hI.out.2 k hkn
          subst e
          have hkK : k + 1 < K := by omega
          have g3 := hr.cell (k + 1) _ (vI_get _ (k + 1) (by rw [List.length_append, bts_length, List.length_replicate]; omega))
          generalize (bts X (k + 1) ++ List.replicate (K - (k + 1)) 0).getD (k + 1) 0 = z at g3
          have gf := hr.thaw (k + 1)
          have hF := hr.set (k + 1) (.int .i64 ((bt L k : Nat) : Int))
          rw [vI_set, next_row X K k _ hkK (HX0.out.2 k)] at hF
          have HF : Hid _ := hF
          clear hF
          have HQ2 : Hid _ := Row.set_other hI.out.1 M (k + 1) (.int .i64 ((bt L k : Nat) : Int)) (Nat.ne_of_lt hqM)
          have HD2 : Hid (∀ j, j < n → ∃ N', some ⟨N, 0, none⟩ = some (⟨N', 0, none⟩ : Addr) ∧ (wr.setCell ⟨M, k + 1, none⟩ (.int .i64 ((bt L k : Nat) : Int))).cell? ⟨N', j, none⟩ = some (.int .i64 ((bt L j : Nat) : Int)) ∧ N' < M) := fun j hj => by
            obtain ⟨N', e, h1, h2⟩ := hI.out.2 j hj
            exact ⟨N', e, by rw [World.cell?_setCell_other _ _ _ _ (by intro e; simp at e)]; exact h1, h2⟩
          generalize bt L k = y at *
          clear hk hI
          go_wp2
          exact ⟨⟨k + 1, hkn, by go_num, Below.setCell hb (by simp; omega) _, HF.out, HQ2.out, HD2.out⟩, by simp [intOf]; omega⟩
        · have ek : k + 1 = K := by omega
          have hkn' : ¬ (k : Int) < (n : Int) := by omega
          have hrow : Row wr M (vI (bts X K)) 3 := by
            have := hr
            rw [ek, Nat.sub_self, List.replicate_zero, List.append_nil] at this
            exact this
          have HXK : Hid (blen X ≤ K) := blen_le X K HXl.out
          have HCX : Hid (Cl wr M (blen X) X) := (Cl.row hrow).less HXK.out
          have HC1 : Hid (Calls _ _ _ _ _) := cut_cl X M K K HXK.out (Nat.le_refl _) (by omega) wr (Cl.row hrow)
          have HCB : Hid (Cl wr N2 (blen b) b) := H2.out.below hb
          have HC2 : Hid (Calls Tryd.prog 57 #[.slice (some ⟨M, 0, none⟩) (blen X) K, .slice (some ⟨N2, 0, none⟩) n2 c2] wr fun e w' => e = .returned (.int .i64 (cmpR X b)) ∧ ∃ k, w' = wr.drewN k) := by
            rw [HN2.out]
            exact compare_dg X b _ _ wr ⟨blen_lt X, by have := HXK.out; omega, Or.inr ⟨M, K, rfl, HXK.out, HCX.out⟩⟩ ⟨blen_lt b, by have := HB2.out.1; omega, Or.inr ⟨N2, c2, rfl, HB2.out.2, HCB.out⟩⟩
          have HQ : Hid (Row wr w.heap.size (vI (ql n1 (i + 1) (a / b))) 3) := hI.out.1
          have hwr : w.heap.size < wr.heap.size := Row.lt hI.out.1
          by_cases hge : b ≤ X
          · have HC3 : Hid (∀ kd, Calls Tryd.prog 49 #[.slice (some ⟨M, 0, none⟩) (blen X) K, .slice (some ⟨N2, 0, none⟩) n2 c2] (wr.drewN kd) fun e w' => e = .returned (.slice (some ⟨wr.heap.size, 0, none⟩) (blen (X - b)) (blen X)) ∧ (Cl w' wr.heap.size (blen (X - b)) (X - b) ∧ blen (X - b) ≤ blen X) ∧ Below wr.heap.size wr w') := fun kd => by
              rw [HN2.out]
              exact (less_at X b M N2 (blen X) (blen b) K c2 hge (blen_lt X) (blen_lt b) (by have := HXK.out; omega) (wr.drewN kd) (HCX.out.drewN kd) (HCB.out.drewN kd)).mono fun e w' h => ⟨h.1, ⟨h.2.1, h.2.2.1⟩, ⟨h.2.2.2.os, h.2.2.2.tape, h.2.2.2.output, h.2.2.2.size, h.2.2.2.block⟩⟩
            obtain ⟨C, hC, hC0⟩ : ∃ C : Int, C = cmpR X b ∧ 0 ≤ C := ⟨_, rfl, by unfold cmpR; split; decide; rw [if_neg (by omega)]; decide⟩
            rw [← hC] at HC2
            have HXge : Hid (bt (a / b) i = 1 ∧ a / 2 ^ i % b = X - b) := HX.out.1 hge
            obtain ⟨lD, hlD⟩ : ∃ l, l = blen (X - b) := ⟨_, rfl⟩
            have HlD : Hid (lD = blen (X - b)) := hlD
            rw [← hlD] at HC3
            obtain ⟨lX, hlX⟩ : ∃ l, l = blen X := ⟨_, rfl⟩
            have HlX : Hid (lX = blen X) := hlX
            rw [← hlX] at HC1 HC2 HC3
            clear hC hlD hlX hge hkn hk hr hrow hI HX HCX HCB
            go_wp2_with (first | (go_at_call 62; refine HC1.out.mono ?_; rintro e w2 ⟨rfl, rfl⟩) | (go_at_call 57; refine HC2.out.mono ?_; rintro e w3 ⟨rfl, kd, rfl⟩) | (go_at_call 49; refine (HC3.out kd).mono ?_; rintro e w4 ⟨rfl, hCl4, hB4⟩; (have HCl4 : Hid _ := hCl4); (have HB4 : Hid _ := hB4); (have rq := Row.below HQ.out hB4 (Row.lt HQ.out)); (have gq := rq.cell i _ (vI_get _ i (by rw [ql_length]; exact hin))); (have fq := rq.thaw i); (have HRQ : Hid _ := rq); clear hCl4 hB4 rq))
            refine ⟨⟨i, by omega, rfl, Below.setCell (hb.trans (HB4.out.mono hb.size)) (by simp) _, ?_, Or.inr ⟨w2.heap.size, lX, ?_, hwr, ?_, ?_⟩⟩, by simp [intOf]⟩
            · have := Row.set HRQ.out i (.int .i64 ((1 : Nat) : Int))
              rw [vI_set, ql_one _ _ _ HXge.out.1] at this
              exact this
            · rw [HXge.out.2, ← HlD.out]
            · rw [HXge.out.2, ← HlD.out]; exact HCl4.out.2
            · rw [HXge.out.2, ← HlD.out]; exact Cl.set_other HCl4.out.1 _ _ _ (by omega)
          · have hC : cmpR X b = -1 := by unfold cmpR; rw [if_neg (by omega), if_pos (by omega)]
            rw [hC] at HC2
            have HXlt : Hid (bt (a / b) i = 0 ∧ a / 2 ^ i % b = X) := HX.out.2 (by omega)
            obtain ⟨lX, hlX⟩ : ∃ l, l = blen X := ⟨_, rfl⟩
            have HlX : Hid (lX = blen X) := hlX
            rw [← hlX] at HC1 HC2
            clear hC hlX hge hkn hk hr hrow hI HX HCB
            go_wp2_with (first | (go_at_call 62; refine HC1.out.mono ?_; rintro e w2 ⟨rfl, rfl⟩) | (go_at_call 57; refine HC2.out.mono ?_; rintro e w3 ⟨rfl, kd, rfl⟩))
            refine ⟨⟨i, by omega, rfl, below_drewN hb _, ?_, Or.inr ⟨M, K, ?_, hqM, ?_, ?_⟩⟩, by simp [intOf]⟩
            · rw [← ql_zero _ _ _ HXlt.out.1]; exact Row.drewN HQ.out _
            · rw [HXlt.out.2, ← HlX.out]
            · rw [HXlt.out.2]; exact HXK.out
            · rw [HXlt.out.2]; exact HCX.out.drewN _
    · have et : t = 0 := by omega
      subst et
      have hr' : Row wr w.heap.size (vI (bts (a / b) n1)) 3 := by rw [← ql_end]; exact hr
      have HQL : Hid (a / b < 2 ^ n1) := Nat.lt_of_le_of_lt (Nat.div_le_self a b) HA.out
      have HL : Hid (Dg wr u7 (blen (a % b)) (a % b)) := by
        have := hL.out
        rw [Nat.pow_zero, Nat.div_one] at this
        exact this.dg (by have := blen_mono (a % b) b (Nat.le_of_lt (Nat.mod_lt _ HB0.out)); have := HB2.out.1; omega)
      have HC : Hid (Calls _ _ _ _ _) := cut_dg (.slice (some ⟨w.heap.size, 0, none⟩) n1 n1) n1 (a / b) wr ⟨HQL.out, by omega, Or.inr ⟨_, _, rfl, Nat.le_refl _, Cl.row hr'⟩⟩
      clear hr hr' hL h0 ht
      go_wp2_with (go_at_call 62; refine HC.out.mono ?_; rintro e w2 ⟨v', rfl, hDg, rfl⟩)
      go_ret2
      exact ⟨_, _, rfl, hDg, HL.out, hb⟩

end Go.Proofs.YtehccmlbnfhhmaaDoor
