/-
  How many digests a growth has: the program's growthSteps and growthLen, the document's Long.
-/
import Derived.Test.YtlknanjbiicghaaDoorTSd
namespace Go.Proofs.YtlknanjbiicghaaDoor
open Go Go.RowKit
open Sha

/-- How many digests the growth from m of n leaves has. -/
def gs (m n : Nat) (k : Bool) : Nat :=
  if _h : m ≠ n ∧ 2 ≤ n ∧ n < 4611686018427387904 then
    if m ≤ fpart n then gs m (fpart n) k + 1 else gs (m - fpart n) (n - fpart n) false + 1
  else if k then 0 else 1
termination_by n
decreasing_by
  · exact (fpart_bounds n (by omega) (by omega)).1
  · have := fpart_pos n; omega
theorem gs_same (n : Nat) (k : Bool) : gs n n k = if k then 0 else 1 := by rw [gs, dif_neg (by omega)]
theorem gs_left (m n : Nat) (k : Bool) (hm : m < n) (h1 : 1 ≤ m) (hl : n < 4611686018427387904) (h : m ≤ fpart n) : gs m n k = gs m (fpart n) k + 1 := by
  rw [gs, dif_pos ⟨by omega, by omega, hl⟩, if_pos h]
theorem gs_right (m n : Nat) (k : Bool) (hm : m < n) (h1 : 1 ≤ m) (hl : n < 4611686018427387904) (h : ¬ m ≤ fpart n) : gs m n k = gs (m - fpart n) (n - fpart n) false + 1 := by
  rw [gs, dif_pos ⟨by omega, by omega, hl⟩, if_neg h]
theorem gs_le (n : Nat) : ∀ m k, 1 ≤ m → m ≤ n → n < 4611686018427387904 → gs m n k ≤ n := by
  induction n using Nat.strongRecOn with
  | ind n ih =>
    intro m k h1 hm hl
    by_cases e : m = n
    · subst e; rw [gs_same]; cases k <;> simp; omega
    · have hb := fpart_bounds n (by omega) hl
      have hp := fpart_pos n
      by_cases hk : m ≤ fpart n
      · rw [gs_left m n k (by omega) h1 hl hk]
        have := ih (fpart n) hb.1 m k h1 hk (by omega); omega
      · rw [gs_right m n k (by omega) h1 hl hk]
        have := ih (n - fpart n) (by omega) (m - fpart n) false (by omega) (by omega) (by omega); omega

set_option maxRecDepth 100000 in
set_option maxHeartbeats 1000000 in
theorem gst_same (n : Nat) (k : Bool) (w : World) :
    Calls Tryd.prog 38 #[.int .i64 (n : Int), .int .i64 (n : Int), .bool k] w fun e w' => e = .returned (.int .i64 ((if k then 0 else 1 : Nat) : Int)) ∧ w' = w := by
  cases k
  · go_enter Tryd.func38, Tryd.ntmps38
    go_wp2_with fail
    go_ret
    exact ⟨rfl, rfl⟩
  · go_enter Tryd.func38, Tryd.ntmps38
    go_wp2_with fail
    go_ret
    exact ⟨rfl, rfl⟩
set_option maxRecDepth 100000 in
set_option maxHeartbeats 1000000 in
theorem gst_left (m n k p : Nat) (b : Bool) (h2 : 2 ≤ n) (hn : n < 4611686018427387904) (hk : fpart n = k) (hmn : m < n) (hi : m ≤ k) (hp : p < 4611686018427387904) (w : World)
    (hR : Calls Tryd.prog 38 #[.int .i64 (m : Int), .int .i64 (k : Int), .bool b] w fun e w' => e = .returned (.int .i64 (p : Int)) ∧ w' = w) :
    Calls Tryd.prog 38 #[.int .i64 (m : Int), .int .i64 (n : Int), .bool b] w fun e w' => e = .returned (.int .i64 ((p + 1 : Nat) : Int)) ∧ w' = w := by
  have HF : Hid (∀ w, _) := fun w => first_any n h2 hn w
  rw [hk] at HF
  have HR : Hid (Calls _ _ _ _ _) := hR
  have n1 : ¬ (m : Int) = (n : Int) := by omega
  have c1 : (m : Int) ≤ (k : Int) := by omega
  clear hk hR h2 hmn
  go_enter Tryd.func38, Tryd.ntmps38
  go_wp2_with (first
    | (go_at_call 25; refine (HF.out w).mono ?_; rintro e w ⟨rfl, rfl⟩)
    | (go_at_call 38; refine HR.out.mono ?_; rintro e w ⟨rfl, rfl⟩))
  go_ret
  exact ⟨rfl, rfl⟩
set_option maxRecDepth 100000 in
set_option maxHeartbeats 1000000 in
theorem gst_right (m n k p : Nat) (b : Bool) (h2 : 2 ≤ n) (hn : n < 4611686018427387904) (hk : fpart n = k) (hmn : m < n) (hi : ¬ m ≤ k) (hp : p < 4611686018427387904) (w : World)
    (hR : Calls Tryd.prog 38 #[.int .i64 ((m - k : Nat) : Int), .int .i64 ((n - k : Nat) : Int), .bool false] w fun e w' => e = .returned (.int .i64 (p : Int)) ∧ w' = w) :
    Calls Tryd.prog 38 #[.int .i64 (m : Int), .int .i64 (n : Int), .bool b] w fun e w' => e = .returned (.int .i64 ((p + 1 : Nat) : Int)) ∧ w' = w := by
  have HF : Hid (∀ w, _) := fun w => first_any n h2 hn w
  rw [hk] at HF
  have HR : Hid (Calls _ _ _ _ _) := hR
  have hkn : k ≤ m := by omega
  have n1 : ¬ (m : Int) = (n : Int) := by omega
  have c1 : ¬ (m : Int) ≤ (k : Int) := by omega
  have e1 : (n : Int) - (k : Int) = ((n - k : Nat) : Int) := by omega
  have e2 : (m : Int) - (k : Int) = ((m - k : Nat) : Int) := by omega
  clear hk hR h2
  go_enter Tryd.func38, Tryd.ntmps38
  go_wp2_with (first
    | (go_at_call 25; refine (HF.out w).mono ?_; rintro e w ⟨rfl, rfl⟩)
    | (go_at_call 38; refine HR.out.mono ?_; rintro e w ⟨rfl, rfl⟩))
  go_ret
  exact ⟨rfl, rfl⟩
theorem gst_any (n : Nat) : ∀ (m : Nat) (b : Bool), 1 ≤ m → m ≤ n → n < 4611686018427387904 → ∀ w : World,
    Calls Tryd.prog 38 #[.int .i64 (m : Int), .int .i64 (n : Int), .bool b] w fun e w' => e = .returned (.int .i64 (gs m n b : Int)) ∧ w' = w := by
  induction n using Nat.strongRecOn with
  | ind n ih =>
    intro m b h1 hm hl w
    by_cases e : m = n
    · subst e
      rw [gs_same]; exact gst_same m b w
    · have hb := fpart_bounds n (by omega) hl
      have hp := fpart_pos n
      by_cases hk : m ≤ fpart n
      · rw [gs_left m n b (by omega) h1 hl hk]
        have := gs_le (fpart n) m b h1 hk (by omega)
        exact gst_left m n (fpart n) _ b (by omega) hl rfl (by omega) hk (by omega) w (ih (fpart n) hb.1 m b h1 hk (by omega) w)
      · rw [gs_right m n b (by omega) h1 hl hk]
        have := gs_le (n - fpart n) (m - fpart n) false (by omega) (by omega) (by omega)
        exact gst_right m n (fpart n) _ b (by omega) hl rfl (by omega) hk (by omega) w (ih (n - fpart n) (by omega) (m - fpart n) false (by omega) (by omega) (by omega) w)

/-- How many digests Growth tells. -/
def gl (m n : Nat) : Nat := if m = 0 then 0 else gs m n true
set_option maxRecDepth 100000 in
set_option maxHeartbeats 1000000 in
theorem glen_any (m n : Nat) (hm : m ≤ n) (hn : n < 4611686018427387904) (w : World) :
    Calls Tryd.prog 27 #[.int .i64 (m : Int), .int .i64 (n : Int)] w fun e w' => e = .returned (.int .i64 (gl m n : Int)) ∧ w' = w := by
  by_cases h0 : m = 0
  · subst h0
    rw [show gl 0 n = 0 from rfl]
    go_enter Tryd.func27, Tryd.ntmps27
    go_wp2_with fail
    go_ret
    exact ⟨rfl, rfl⟩
  · rw [show gl m n = gs m n true from if_neg h0]
    have HR : Hid (Calls _ _ _ _ _) := gst_any n m true (by omega) hm hn w
    have c1 : ¬ (m : Int) = 0 := by omega
    generalize gs m n true = p at *
    go_enter Tryd.func27, Tryd.ntmps27
    go_wp2_with (go_at_call 38; refine HR.out.mono ?_; rintro e w ⟨rfl, rfl⟩)
    go_ret
    exact ⟨rfl, rfl⟩

end Go.Proofs.YtlknanjbiicghaaDoor
