/-
  causewayref10: Size, places, among, target, Check.
-/
import Derived.Test.YtdlmighfmkhpkaaMkZa
import Derived.Test.YtdlmighfmkhpkaaMkU
namespace Go.Proofs.Ytdlmighfmkhpkaa
open Go Go.RowKit
open Sha
open Wd

/-- The size of what stands at a place; nought: nothing. -/
def sz (d : List (BitVec 8)) (p : Nat) : Nat := match ri (d.drop p) with | none => 0 | some (_, _, _, s) => s
theorem sz_val {d : List (BitVec 8)} {p : Nat} {x : BitVec 8} {r : List (BitVec 8)} (hx : d.drop p = x :: r) : sz d p = if 28 ≤ x.toNat then 0 else if r.length < ow (oper x.toNat) r then 0 else if (ro (oper x.toNat) (r.take (ow (oper x.toNat) r))).isNone then 0 else 1 + ow (oper x.toNat) r := by
  unfold sz
  rw [hx, ri]
  by_cases h1 : 28 ≤ x.toNat
  · rw [if_pos h1, if_pos h1]
  · rw [if_neg h1, if_neg h1]
    by_cases h2 : r.length < ow (oper x.toNat) r
    · rw [if_pos h2, if_pos h2]
    · rw [if_neg h2, if_neg h2]
      cases hro : ro (oper x.toNat) (r.take (ow (oper x.toNat) r)) with
      | none => rfl
      | some y => rfl
theorem oper_one (c : Nat) (hc : c < 28) (h2 : c ≠ 2) (h4 : c ≠ 4) (h5 : c ≠ 5) (h16 : c ≠ 16) (h14 : c ≠ 14) (h15 : c ≠ 15) : oper c = 0 := by
  have h : ∀ c < 28, (c = 2 ∨ c = 4 ∨ c = 5 ∨ c = 16 ∨ c = 14 ∨ c = 15) ∨ oper c = 0 := by decide
  rcases h c hc with h | h
  · omega
  · exact h
theorem sz_big {d : List (BitVec 8)} {p : Nat} {x : BitVec 8} {r : List (BitVec 8)} (hx : d.drop p = x :: r) (h : 28 ≤ x.toNat) : sz d p = 0 := by rw [sz_val hx, if_pos h]
theorem sz_end {d : List (BitVec 8)} {p : Nat} {x : BitVec 8} {r : List (BitVec 8)} (hx : d.drop p = x :: r) (h : r.length < ow (oper x.toNat) r) : sz d p = 0 := by
  rw [sz_val hx, if_pos h]
  exact ite_self 0
theorem sz_no {d : List (BitVec 8)} {p : Nat} {x : BitVec 8} {r : List (BitVec 8)} (hx : d.drop p = x :: r) (h : ro (oper x.toNat) (r.take (ow (oper x.toNat) r)) = none) : sz d p = 0 := by
  rw [sz_val hx, h]
  simp
theorem sz_yes {d : List (BitVec 8)} {p : Nat} {x : BitVec 8} {r : List (BitVec 8)} (hx : d.drop p = x :: r) (h0 : x.toNat < 28) (h1 : ow (oper x.toNat) r ≤ r.length) (y : Nat × Nat) (h : ro (oper x.toNat) (r.take (ow (oper x.toNat) r)) = some y) : sz d p = 1 + ow (oper x.toNat) r := by
  rw [sz_val hx, h, if_neg (by omega), if_neg (by omega)]
  rfl
theorem take_head (y : BitVec 8) (r : List (BitVec 8)) (k : Nat) (h : 1 ≤ k) : ((y :: r).take k).getD 0 0#8 = y := by
  obtain ⟨k, rfl⟩ : ∃ j, k = j + 1 := ⟨k - 1, by omega⟩
  rfl
theorem szr_no (k : Nat) (hk : k ≠ 0) (b : List (BitVec 8)) (h : (b.getD 0 0#8).toNat < lo k ∨ hi k < (b.getD 0 0#8).toNat) : ro k b = none := by
  unfold ro
  rw [if_neg hk, if_pos h]
theorem szr_yes (k : Nat) (b : List (BitVec 8)) (h : k ≠ 0 → lo k ≤ (b.getD 0 0#8).toNat ∧ (b.getD 0 0#8).toNat ≤ hi k) : ∃ y, ro k b = some y := by
  unfold ro
  split
  · exact ⟨_, rfl⟩
  · rename_i h0
    have := h h0
    rw [if_neg (by omega)]
    split
    · exact ⟨_, rfl⟩
    · split <;> exact ⟨_, rfl⟩
theorem drop_cell {w : World} {g o : Nat} {d : List (BitVec 8)} {p : Nat} {x : BitVec 8} {r : List (BitVec 8)} (hx : d.drop p = x :: r) (hr : w.rangeAt g o (vB d)) : w.cell? ⟨g, o + p, none⟩ = some (.int .u8 ((x.toNat : Nat) : Int)) := by
  have := range_drop hr p
  rw [hx] at this
  exact cons_cell this
theorem drop_next {d : List (BitVec 8)} {p : Nat} {x : BitVec 8} {r : List (BitVec 8)} (hx : d.drop p = x :: r) : d.drop (p + 1) = r := by
  rw [← List.drop_drop, hx]
  rfl
theorem size_any (g o n cap p : Nat) (d : List (BitVec 8)) (hd : d.length = n) (hp : p < n) (hn : n ≤ 1024) (w : World) (hr : w.rangeAt g o (vB d)) : Calls Try.prog 47 #[.slice (some ⟨g, o, none⟩) n cap, .int .i64 (p : Int)] w fun e w' => e = .returned (.int .i64 (sz d p : Int)) ∧ w' = w := by
  obtain ⟨x, r, hx⟩ : ∃ x r, d.drop p = x :: r := by
    cases h : d.drop p with
    | nil => have := congrArg List.length h; rw [List.length_drop] at this; simp at this; omega
    | cons x r => exact ⟨x, r, rfl⟩
  have hl : r.length + 1 = n - p := by
    have := congrArg List.length hx
    rw [List.length_drop, List.length_cons] at this
    omega
  have c0 := drop_cell hx hr
  have hxl := x.isLt
  by_cases h28 : 28 ≤ x.toNat
  · rw [sz_big hx h28]
    exact size_big g o n cap p _ hp hn w c0 h28 hxl
  have lt28 : x.toNat < 28 := by omega
  by_cases h2 : x.toNat = 2
  · have ho : oper x.toNat = 1 := by rw [h2]; rfl
    cases r with
    | nil =>
      rw [sz_end hx (by rw [ho]; decide)]
      exact size_push_end g o n cap p _ hp hn w c0 h2 (by simp at hl; omega)
    | cons y r =>
      have c1 := drop_cell (drop_next hx) hr
      have hw : ow (oper x.toNat) (y :: r) = 1 + y.toNat := by rw [ho]; rfl
      have hl' : r.length + 2 = n - p := by simpa using hl
      have hh : ((y :: r).take (ow (oper x.toNat) (y :: r))).getD 0 0#8 = y := take_head y r _ (by rw [hw]; omega)
      by_cases y1 : y.toNat < 1
      · rw [sz_no hx (szr_no _ (by rw [ho]; decide) _ (.inl (by rw [hh, ho]; exact y1)))]
        exact size_push_low g o n cap p _ hp hn w c0 h2 _ (by omega) c1 y1
      by_cases y2 : 32 < y.toNat
      · rw [sz_no hx (szr_no _ (by rw [ho]; decide) _ (.inr (by rw [hh, ho]; exact y2)))]
        exact size_push_high g o n cap p _ hp hn w c0 h2 _ (by omega) c1 y2
      by_cases y3 : n < p + (2 + y.toNat)
      · rw [sz_end hx (by rw [hw, List.length_cons]; omega)]
        exact size_push_cut g o n cap p _ hp hn w c0 h2 _ (by omega) c1 (by omega) (by omega) y3
      · obtain ⟨z, hz⟩ := szr_yes (oper x.toNat) ((y :: r).take (ow (oper x.toNat) (y :: r))) (fun _ => by rw [hh, ho]; exact ⟨by show 1 ≤ _; omega, by show _ ≤ 32; omega⟩)
        rw [sz_yes hx lt28 (by rw [hw, List.length_cons]; omega) z hz, hw, show 1 + (1 + y.toNat) = 2 + y.toNat by omega]
        exact size_push g o n cap p _ hp hn w c0 h2 _ (by omega) c1 (by omega) (by omega) (by omega)
  by_cases h4 : x.toNat = 4
  · have ho : oper x.toNat = 2 := by rw [h4]; rfl
    cases r with
    | nil =>
      rw [sz_end hx (by rw [ho]; decide)]
      exact size_dup_end g o n cap p _ hp hn w c0 h4 (by simp at hl; omega)
    | cons y r =>
      have c1 := drop_cell (drop_next hx) hr
      have hw : ow (oper x.toNat) (y :: r) = 1 := by rw [ho]; rfl
      have hl' : r.length + 2 = n - p := by simpa using hl
      have hyl := y.isLt
      have hh : ((y :: r).take (ow (oper x.toNat) (y :: r))).getD 0 0#8 = y := take_head y r _ (by rw [hw]; omega)
      by_cases y2 : 15 < y.toNat
      · rw [sz_no hx (szr_no _ (by rw [ho]; decide) _ (.inr (by rw [hh, ho]; exact y2)))]
        exact size_dup_no g o n cap p _ hp hn w c0 h4 _ (by omega) c1 y2
      obtain ⟨z, hz⟩ := szr_yes (oper x.toNat) ((y :: r).take (ow (oper x.toNat) (y :: r))) (fun _ => by rw [hh, ho]; exact ⟨by show 0 ≤ _; omega, by show _ ≤ 15; omega⟩)
      rw [sz_yes hx lt28 (by rw [hw, List.length_cons]; omega) z hz, hw]
      exact size_dup g o n cap p _ hp hn w c0 h4 _ (by omega) c1 (by omega)
  by_cases h5 : x.toNat = 5
  · have ho : oper x.toNat = 3 := by rw [h5]; rfl
    cases r with
    | nil =>
      rw [sz_end hx (by rw [ho]; decide)]
      exact size_swap_end g o n cap p _ hp hn w c0 h5 (by simp at hl; omega)
    | cons y r =>
      have c1 := drop_cell (drop_next hx) hr
      have hw : ow (oper x.toNat) (y :: r) = 1 := by rw [ho]; rfl
      have hl' : r.length + 2 = n - p := by simpa using hl
      have hyl := y.isLt
      have hh : ((y :: r).take (ow (oper x.toNat) (y :: r))).getD 0 0#8 = y := take_head y r _ (by rw [hw]; omega)
      by_cases y1 : y.toNat < 1
      · rw [sz_no hx (szr_no _ (by rw [ho]; decide) _ (.inl (by rw [hh, ho]; exact y1)))]
        exact size_swap_low g o n cap p _ hp hn w c0 h5 _ (by omega) c1 y1
      by_cases y2 : 15 < y.toNat
      · rw [sz_no hx (szr_no _ (by rw [ho]; decide) _ (.inr (by rw [hh, ho]; exact y2)))]
        exact size_swap_high g o n cap p _ hp hn w c0 h5 _ (by omega) c1 y2
      obtain ⟨z, hz⟩ := szr_yes (oper x.toNat) ((y :: r).take (ow (oper x.toNat) (y :: r))) (fun _ => by rw [hh, ho]; exact ⟨by show 1 ≤ _; omega, by show _ ≤ 15; omega⟩)
      rw [sz_yes hx lt28 (by rw [hw, List.length_cons]; omega) z hz, hw]
      exact size_swap g o n cap p _ hp hn w c0 h5 _ (by omega) c1 (by omega) (by omega)
  by_cases h16 : x.toNat = 16
  · have ho : oper x.toNat = 4 := by rw [h16]; rfl
    cases r with
    | nil =>
      rw [sz_end hx (by rw [ho]; decide)]
      exact size_arg_end g o n cap p _ hp hn w c0 h16 (by simp at hl; omega)
    | cons y r =>
      have c1 := drop_cell (drop_next hx) hr
      have hw : ow (oper x.toNat) (y :: r) = 1 := by rw [ho]; rfl
      have hl' : r.length + 2 = n - p := by simpa using hl
      have hyl := y.isLt
      have hh : ((y :: r).take (ow (oper x.toNat) (y :: r))).getD 0 0#8 = y := take_head y r _ (by rw [hw]; omega)
      obtain ⟨z, hz⟩ := szr_yes (oper x.toNat) ((y :: r).take (ow (oper x.toNat) (y :: r))) (fun _ => by rw [hh, ho]; exact ⟨by show 0 ≤ _; omega, by show _ ≤ 255; omega⟩)
      rw [sz_yes hx lt28 (by rw [hw, List.length_cons]; omega) z hz, hw]
      exact size_arg g o n cap p _ hp hn w c0 h16 (by omega)
  by_cases h14 : x.toNat = 14
  · have ho : oper x.toNat = 5 := by rw [h14]; rfl
    have hw : ow (oper x.toNat) r = 2 := by rw [ho]; rfl
    by_cases y1 : n < p + 3
    · rw [sz_end hx (by rw [hw]; omega)]
      exact size_j14_end g o n cap p _ hp hn w c0 h14 y1
    · obtain ⟨z, hz⟩ := szr_yes (oper x.toNat) (r.take (ow (oper x.toNat) r)) (fun _ => by rw [ho]; exact ⟨Nat.zero_le _, by show _ ≤ 255; have := ((r.take (ow 5 r)).getD 0 0#8).isLt; omega⟩)
      rw [sz_yes hx lt28 (by rw [hw]; omega) z hz, hw]
      exact size_j14 g o n cap p _ hp hn w c0 h14 (by omega)
  by_cases h15 : x.toNat = 15
  · have ho : oper x.toNat = 5 := by rw [h15]; rfl
    have hw : ow (oper x.toNat) r = 2 := by rw [ho]; rfl
    by_cases y1 : n < p + 3
    · rw [sz_end hx (by rw [hw]; omega)]
      exact size_j15_end g o n cap p _ hp hn w c0 h15 y1
    · obtain ⟨z, hz⟩ := szr_yes (oper x.toNat) (r.take (ow (oper x.toNat) r)) (fun _ => by rw [ho]; exact ⟨Nat.zero_le _, by show _ ≤ 255; have := ((r.take (ow 5 r)).getD 0 0#8).isLt; omega⟩)
      rw [sz_yes hx lt28 (by rw [hw]; omega) z hz, hw]
      exact size_j15 g o n cap p _ hp hn w c0 h15 (by omega)
  have ho : oper x.toNat = 0 := oper_one _ lt28 h2 h4 h5 h16 h14 h15
  obtain ⟨z, hz⟩ := szr_yes (oper x.toNat) (r.take (ow (oper x.toNat) r)) (fun h => absurd ho h)
  rw [sz_yes hx lt28 (by rw [ho]; exact Nat.zero_le _) z hz, ho]
  exact size_one g o n cap p _ hp hn w c0 lt28 h2 h4 h5 h16 h14 h15

end Go.Proofs.Ytdlmighfmkhpkaa
