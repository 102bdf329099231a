/-
  EscrowGives: what the walk asks for.
-/
import Derived.Test.YtefjonidpmpjbaaEsM
namespace Go.Proofs.Ytefjonidpmpjbaa
open Go Go.RowKit Go.Maps
open Wd

theorem upd_upd {α : Type} (f : Int → α) (x : Int) (a b : α) : upd (upd f x a) x b = upd f x b := by
  funext y
  unfold upd
  by_cases h : y = x <;> simp [h]
/-- One token listed. -/
def gs (tk : Int) (st : Bool) (m : Nat) (U : Int → BitVec 64) (L : Nat) : St := ⟨upd (fun _ => none) tk (some (st, m)), U, L⟩
theorem gs_fnd {tk : Int} (h0 : 0 ≤ tk) (h1 : tk < 64) (st : Bool) (m : Nat) (U : Int → BitVec 64) (L : Nat) : fnd (gs tk st m U L).T tk = (st, m, 0) := by
  unfold fnd gs
  rw [if_neg (by omega)]
  simp only [upd_at]
theorem gs_upd (tk : Int) (st st' : Bool) (m m' : Nat) (U U' : Int → BitVec 64) (L L' : Nat) : (⟨upd (gs tk st m U L).T tk (some (st', m')), U', L'⟩ : St) = gs tk st' m' U' L' := by
  unfold gs
  simp only [upd_upd]

theorem gives_walk (t i : Int) (ht : I64 t) (hi : I64 i) (a b : Nat) (ha : a < 2 ^ 256) (hb : b < 2 ^ 256) (w : World) :
    Calls Try.prog 7 #[.agg (gcs t i a b).toArray] w fun e w' => e = .returned (.bool true) ∧ Below w.heap.size w w' := by
  obtain ⟨tk, htk⟩ : ∃ x, pk t 64 = x := ⟨_, rfl⟩
  obtain ⟨ix, hix⟩ : ∃ x, pk i 1099511627776 = x := ⟨_, rfl⟩
  have rt := pk_range t 64 (by decide)
  have ri := pk_range i 1099511627776 (by decide)
  rw [htk] at rt
  rw [hix] at ri
  obtain ⟨jx, hjx⟩ : ∃ x, x = ix / 2 + 549755813888 * (1 - ix / 549755813888) := ⟨_, rfl⟩
  have hj : 0 ≤ jx ∧ jx < 1099511627776 ∧ jx ≠ ix := by omega
  have e2 : ix.tdiv 2 = ix / 2 := Int.tdiv_eq_ediv_of_nonneg ri.1
  have e3 : ix.tdiv 549755813888 = ix / 549755813888 := Int.tdiv_eq_ediv_of_nonneg ri.1
  have hI : I64 ix := (i64_iff ix).2 (by omega)
  have q1 : IntKind.i64.wrap (ix.tdiv 2) = ix / 2 := by rw [e2, IntKind.wrap_i64]; omega
  have q2 : IntKind.i64.wrap (ix.tdiv 549755813888) = ix / 549755813888 := by rw [e3, IntKind.wrap_i64]; omega
  have q3 : IntKind.i64.wrap (1 - ix / 549755813888) = 1 - ix / 549755813888 := by rw [IntKind.wrap_i64]; omega
  have q4 : IntKind.i64.wrap (549755813888 * (1 - ix / 549755813888)) = 549755813888 * (1 - ix / 549755813888) := by rw [IntKind.wrap_i64]; omega
  have q5 : IntKind.i64.wrap (ix / 2 + 549755813888 * (1 - ix / 549755813888)) = jx := by rw [hjx, IntKind.wrap_i64]; omega
  have f1 : sList k0 tk = (gs tk false 0 (fun _ => 0) 0, 0) := by
    have hf : fnd k0.T tk = (false, 0, 141) := by unfold fnd; rw [if_neg (by omega)]; rfl
    unfold sList
    rw [hf]
    rfl
  have hcase : a < b ∨ b ≤ a := by omega
  have hA0 : (decide (a = 0) = true ∧ a = 0) ∨ (decide (a = 0) = false ∧ a ≠ 0) := by
    by_cases h : a = 0
    · exact .inl ⟨decide_eq_true h, h⟩
    · exact .inr ⟨decide_eq_false h, h⟩
  have f2 : sDep (gs tk false 0 (fun _ => 0) 0) tk a = (gs tk false a (fun _ => 0) 0, if decide (a = 0) then 144 else 0) := by
    unfold sDep
    rw [gs_fnd rt.1 rt.2]
    rcases hA0 with ⟨h, h'⟩ | ⟨h, h'⟩
    · rw [h, h']; rfl
    · rw [h]
      have hE : addE 0 a = 0 := by unfold addE; rw [if_pos (by omega)]
      have hR : addR 0 a = a := by unfold addR; rw [if_pos (by omega)]; omega
      simp only [ne_eq, not_true_eq_false, if_false, Bool.false_eq_true, h', hE, hR]
      rw [gs_upd]
      rfl
  have zr : ∀ x, paid (fun _ => 0) x = false := fun x => by unfold paid; simp
  have f4 : ∀ m U, sStop (gs tk false m U 0) tk true = (gs tk true m U 0, 0) := fun m U => by
    unfold sStop
    rw [gs_fnd rt.1 rt.2]
    simp only [ne_eq, not_true_eq_false, if_false, Bool.false_eq_true]
    rw [gs_upd]
    rfl
  have f6 : ∀ m U, paid U jx = false → sPay (gs tk true m U 0) jx tk m = (gs tk true 0 (puts U jx) 0, 0) := fun m U hU => by
    unfold sPay
    rw [gs_fnd rt.1 rt.2, if_neg (by omega)]
    have hE : subE m m = 0 := by unfold subE; rw [if_neg (by omega)]
    have hR : subR m m = 0 := by unfold subR; rw [if_neg (by omega)]; omega
    have hU' : paid (gs tk true m U 0).U jx = false := hU
    simp only [ne_eq, not_true_eq_false, if_false, Bool.false_eq_true, hU', hE, hR]
    rw [gs_upd]
    rfl
  have f7 : ∀ U, sLock (gs tk true 0 U 0) a = (gs tk true 0 U a, 0) := fun U => by
    unfold sLock
    have hE : addE (gs tk true 0 U 0).L a = 0 := by show addE 0 a = 0; unfold addE; rw [if_pos (by omega)]
    have hR : addR (gs tk true 0 U 0).L a = a := by show addR 0 a = a; unfold addR; rw [if_pos (by omega)]; omega
    rw [hE, hR]
    rfl
  rcases hcase with h | h
  · have hcv : cmpR a b = -1 := by unfold cmpR; rw [if_neg (by omega), if_pos h]
    have f3 : sPay (gs tk false a (fun _ => 0) 0) ix tk b = (gs tk false a (fun _ => 0) 0, 146) := by
      unfold sPay
      rw [gs_fnd rt.1 rt.2, if_neg (by omega)]
      have hE : subE a b = 23 := by unfold subE; rw [if_pos h]
      have hU' : paid (gs tk false a (fun _ => 0) 0).U ix = false := zr ix
      simp only [ne_eq, not_true_eq_false, if_false, Bool.false_eq_true, hU', hE]
      rfl
    have f8 : sFree (gs tk true 0 (puts (fun _ => 0) jx) a) b = (gs tk true 0 (puts (fun _ => 0) jx) a, 149) := by
      unfold sFree
      have hE : subE (gs tk true 0 (puts (fun _ => 0) jx) a).L b = 23 := by show subE a b = 23; unfold subE; rw [if_pos h]
      rw [hE]
      rfl
    exact gives_core t i ht hi a b ha hb tk ix htk hix _ _ _ _ _ _ _ _ _ _ _ _ _ _ _ jx a ha _ true f1 f2 f3 (f4 a _) (gs_fnd rt.1 rt.2 _ _ _ _) (f6 a _ (zr jx)) (f7 _) f8 (gs_fnd rt.1 rt.2 _ _ _ _) (zr ix) hI rfl hcv (by decide) rfl rfl rfl q1 q2 q3 q4 q5 w
  · have hcv : ¬ cmpR a b < 0 := by unfold cmpR; split; decide; rw [if_neg (by omega)]; decide
    have hm : a - b < 2 ^ 256 := by omega
    have f3 : sPay (gs tk false a (fun _ => 0) 0) ix tk b = (gs tk false (a - b) (puts (fun _ => 0) ix) 0, 0) := by
      unfold sPay
      rw [gs_fnd rt.1 rt.2, if_neg (by omega)]
      have hE : subE a b = 0 := by unfold subE; rw [if_neg (by omega)]
      have hR : subR a b = a - b := by unfold subR; rw [if_neg (by omega)]
      have hU' : paid (gs tk false a (fun _ => 0) 0).U ix = false := zr ix
      simp only [ne_eq, not_true_eq_false, if_false, Bool.false_eq_true, hU', hE, hR]
      rw [gs_upd]
      rfl
    have hpj : paid (puts (fun _ => 0) ix) jx = false := by rw [paid_puts, zr, decide_eq_false hj.2.2]; rfl
    have hpi : paid (puts (fun _ => 0) ix) ix = true := by rw [paid_puts, decide_eq_true rfl]; rfl
    have f8 : ∀ U, sFree (gs tk true 0 U a) b = (gs tk true 0 U (a - b), 0) := fun U => by
      unfold sFree
      have hE : subE (gs tk true 0 U a).L b = 0 := by show subE a b = 0; unfold subE; rw [if_neg (by omega)]
      have hR : subR (gs tk true 0 U a).L b = a - b := by show subR a b = a - b; unfold subR; rw [if_neg (by omega)]
      rw [hE, hR]
      rfl
    exact gives_core t i ht hi a b ha hb tk ix htk hix _ _ _ _ _ _ _ _ _ _ _ _ _ _ _ jx (a - b) hm _ false f1 f2 f3 (f4 _ _) (gs_fnd rt.1 rt.2 _ _ _ _) (f6 _ _ hpj) (f7 _) (f8 _) (gs_fnd rt.1 rt.2 _ _ _ _) hpi hI rfl rfl (decide_eq_false hcv) rfl rfl rfl q1 q2 q3 q4 q5 w


end Go.Proofs.Ytefjonidpmpjbaa
