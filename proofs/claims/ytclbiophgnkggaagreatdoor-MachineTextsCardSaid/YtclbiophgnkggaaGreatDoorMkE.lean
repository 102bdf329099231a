/-
  readOperand, whatever the bytes.
-/
import Derived.Test.YtclbiophgnkggaaGreatDoorMkB
import Derived.BigQuiet

namespace Go.Proofs.YtclbiophgnkggaaGreatDoor
open Go Go.RowKit
open Sha
open Wd

/-- An instruction's cells. -/
def ic (c p a n : Nat) : List Value := .int .i64 (c : Int) :: .int .i64 (p : Int) :: (wq a ++ [.int .i64 (n : Int)])
theorem ic_len (c p a n : Nat) : (ic c p a n).length = 7 := by unfold ic; rw [List.length_cons, List.length_cons, List.length_append, wq_len]; rfl
theorem ic_one (c p a n : Nat) : (ic c p a n).toArray.all (·.oneCell') = true := by
  rw [← Array.all_toList]
  unfold ic
  have := wq_one a
  rw [← Array.all_toList] at this
  rw [List.all_cons, List.all_cons, List.all_append, this]
  rfl
theorem info_I : (Tryz.prog.info? 53).map (·.size) = some 7 := by kernel_rfl
theorem info_Ic (c p a n : Nat) : (Tryz.prog.info? 53).map (·.size) = some (ic c p a n).length := by rw [ic_len]; exact info_I
theorem ic_0 (c p a n : Nat) : (ic c p a n)[0]? = some (.int .i64 (c : Int)) := rfl
theorem ic_1 (c p a n : Nat) : (ic c p a n)[1]? = some (.int .i64 (p : Int)) := rfl
theorem ic_6 (c p a n : Nat) : (ic c p a n)[6]? = some (.int .i64 (n : Int)) := by
  unfold ic
  rw [wq_cells]
  rfl
theorem ic_set1 (c p a n m : Nat) : (ic c p a n).set 1 (.int .i64 (m : Int)) = ic c m a n := rfl
theorem ic_set6 (c p a n m : Nat) : (ic c p a n).set 6 (.int .i64 (m : Int)) = ic c p a m := by
  unfold ic
  rw [wq_cells]
  rfl
theorem ic_num (c p a n m : Nat) : (ic c p a n).take 2 ++ wq m ++ (ic c p a n).drop (2 + (wq m).length) = ic c p m n := by
  rw [wq_len]
  unfold ic
  rw [wq_cells, wq_cells]
  rfl
theorem zI_ic : zI = ic 0 0 0 0 := by unfold ic; rw [wq_zero]; rfl
/-- The kind of a code's operand. -/
def oper (c : Nat) : Nat := [0, 0, 1, 0, 2, 3, 0, 0, 0, 0, 0, 0, 0, 0, 5, 5, 4, 0, 0, 0, 0, 0, 0, 0, 0, 0, 0, 0].getD c 0
theorem oper_le (c : Nat) (h : c < 28) : oper c ≤ 5 := by
  revert c
  decide
def lo (k : Nat) : Nat := if k = 1 ∨ k = 3 then 1 else 0
def hi (k : Nat) : Nat := if k = 1 then 32 else if k = 2 ∨ k = 3 then 15 else 255
theorem mtab_oper (c : Nat) (h : c < 28) : mtab[c * 6 + 1]? = some (.int .i64 (oper c : Int)) := by
  match c, h with
  | 0, _ => exact rfl
  | 1, _ => exact rfl
  | 2, _ => exact rfl
  | 3, _ => exact rfl
  | 4, _ => exact rfl
  | 5, _ => exact rfl
  | 6, _ => exact rfl
  | 7, _ => exact rfl
  | 8, _ => exact rfl
  | 9, _ => exact rfl
  | 10, _ => exact rfl
  | 11, _ => exact rfl
  | 12, _ => exact rfl
  | 13, _ => exact rfl
  | 14, _ => exact rfl
  | 15, _ => exact rfl
  | 16, _ => exact rfl
  | 17, _ => exact rfl
  | 18, _ => exact rfl
  | 19, _ => exact rfl
  | 20, _ => exact rfl
  | 21, _ => exact rfl
  | 22, _ => exact rfl
  | 23, _ => exact rfl
  | 24, _ => exact rfl
  | 25, _ => exact rfl
  | 26, _ => exact rfl
  | 27, _ => exact rfl
  | n + 28, h => exact absurd h (by omega)

/-- How many bytes an operand wants. -/
def ow (k : Nat) (r : List (BitVec 8)) : Nat := if k = 0 then 0 else if k = 5 then 2 else if k = 1 then (match r with | [] => 1 | x :: _ => 1 + x.toNat) else 1
theorem bounds_any (k : Nat) (hk : k ≤ 5) (w : World) : Calls Tryz.prog 101 #[.int .i64 (k : Int)] w fun e w' => e = .returned (.tuple #[.int .i64 (lo k : Int), .int .i64 (hi k : Int)]) ∧ w' = w := by
  match k, hk with
  | 0, _ =>
    go_enter Tryz.func101, Tryz.ntmps101
    go_wp2
    go_ret2
    exact ⟨rfl, rfl⟩
  | 1, _ =>
    go_enter Tryz.func101, Tryz.ntmps101
    go_wp2
    go_ret2
    exact ⟨rfl, rfl⟩
  | 2, _ =>
    go_enter Tryz.func101, Tryz.ntmps101
    go_wp2
    go_ret2
    exact ⟨rfl, rfl⟩
  | 3, _ =>
    go_enter Tryz.func101, Tryz.ntmps101
    go_wp2
    go_ret2
    exact ⟨rfl, rfl⟩
  | 4, _ =>
    go_enter Tryz.func101, Tryz.ntmps101
    go_wp2
    go_ret2
    exact ⟨rfl, rfl⟩
  | 5, _ =>
    go_enter Tryz.func101, Tryz.ntmps101
    go_wp2
    go_ret2
    exact ⟨rfl, rfl⟩

theorem ow_0 (A : Option Addr) (n cap : Nat) (w : World) : Calls Tryz.prog 82 #[.int .i64 0, .slice A n cap] w fun e w' => e = .returned (.int .i64 0) ∧ w' = w := by
  go_enter Tryz.func82, Tryz.ntmps82
  go_wp2
  go_ret
  exact ⟨rfl, rfl⟩
theorem ow_5 (A : Option Addr) (n cap : Nat) (w : World) : Calls Tryz.prog 82 #[.int .i64 5, .slice A n cap] w fun e w' => e = .returned (.int .i64 2) ∧ w' = w := by
  go_enter Tryz.func82, Tryz.ntmps82
  go_wp2
  go_ret
  exact ⟨rfl, rfl⟩
theorem ow_2 (A : Option Addr) (n cap : Nat) (w : World) : Calls Tryz.prog 82 #[.int .i64 2, .slice A n cap] w fun e w' => e = .returned (.int .i64 1) ∧ w' = w := by
  go_enter Tryz.func82, Tryz.ntmps82
  go_wp2
  go_ret
  exact ⟨rfl, rfl⟩
theorem ow_3 (A : Option Addr) (n cap : Nat) (w : World) : Calls Tryz.prog 82 #[.int .i64 3, .slice A n cap] w fun e w' => e = .returned (.int .i64 1) ∧ w' = w := by
  go_enter Tryz.func82, Tryz.ntmps82
  go_wp2
  go_ret
  exact ⟨rfl, rfl⟩
theorem ow_4 (A : Option Addr) (n cap : Nat) (w : World) : Calls Tryz.prog 82 #[.int .i64 4, .slice A n cap] w fun e w' => e = .returned (.int .i64 1) ∧ w' = w := by
  go_enter Tryz.func82, Tryz.ntmps82
  go_wp2
  go_ret
  exact ⟨rfl, rfl⟩
theorem ow_1e (A : Option Addr) (cap : Nat) (w : World) : Calls Tryz.prog 82 #[.int .i64 1, .slice A 0 cap] w fun e w' => e = .returned (.int .i64 1) ∧ w' = w := by
  go_enter Tryz.func82, Tryz.ntmps82
  go_wp2
  go_ret
  exact ⟨rfl, rfl⟩
theorem ow_1 (g o n cap : Nat) (h : 0 < n) (x : BitVec 8) (w : World) (c0 : w.cell? ⟨g, o, none⟩ = some (.int .u8 (c x))) : Calls Tryz.prog 82 #[.int .i64 1, .slice (some ⟨g, o, none⟩) n cap] w fun e w' => e = .returned (.int .i64 ((1 + x.toNat : Nat) : Int)) ∧ w' = w := by
  have hx : c x = (x.toNat : Int) := rfl
  have hlt := x.isLt
  go_enter Tryz.func82, Tryz.ntmps82
  go_wp2
  go_ret
  exact ⟨by rw [Int.natCast_add]; rfl, rfl⟩
theorem operandWidth_any (k : Nat) (hk : k ≤ 5) (A : Option Addr) (n cap : Nat) (r : List (BitVec 8)) (hr : r.length = n) (w : World) (hv : SlAt w (.slice A n cap) r) : Calls Tryz.prog 82 #[.int .i64 (k : Int), .slice A n cap] w fun e w' => e = .returned (.int .i64 (ow k r : Int)) ∧ w' = w := by
  match k, hk with
  | 0, _ => exact ow_0 A n cap w
  | 2, _ => exact ow_2 A n cap w
  | 3, _ => exact ow_3 A n cap w
  | 4, _ => exact ow_4 A n cap w
  | 5, _ => exact ow_5 A n cap w
  | 1, _ =>
    cases r with
    | nil =>
      subst hr
      exact ow_1e A cap w
    | cons x r =>
      rcases hv with ⟨h0, _⟩ | ⟨g, o, c', e, _, hr'⟩
      · cases h0
      · simp only [Value.slice.injEq] at e
        obtain ⟨rfl, _, _⟩ := e
        exact ow_1 g o n cap (by rw [← hr]; exact Nat.succ_pos _) x w (hr' 0 _ rfl)

end Go.Proofs.YtclbiophgnkggaaGreatDoor

namespace Go.Proofs.YtclbiophgnkggaaGreatDoor
open Go Go.RowKit
open Sha
open Wd

theorem heap_sets (w : World) (g o : Nat) (vs : List Value) (k : Nat) (h : k ≠ g) : (w.setCells g o vs).heap[k]? = w.heap[k]? := by
  induction vs generalizing w o with
  | nil => rfl
  | cons v r ih => exact (ih (w.setCell ⟨g, o, none⟩ v) (o + 1)).trans (Below.heap_setCell _ _ _ _ h)
theorem gro_over {R : Nat → Prop} {w W : World} (h : Gro R w W) (b o : Nat) (vs : List Value) (hb : R b) : Gro R w (W.setCells b o vs) := by
  induction vs generalizing W o with
  | nil => exact h
  | cons v r ih => exact ih (h.set b o v hb) (o + 1)
theorem byte_cell {w : World} {g o : Nat} {b : List (BitVec 8)} (h : w.rangeAt g o (vB b)) (i : Nat) (hi : i < b.length) : w.cell? ⟨g, o + i, none⟩ = some (.int .u8 (((b.getD i 0#8).toNat : Nat) : Int)) := by
  refine h i _ ?_
  unfold vB
  rw [List.getElem?_map, List.getD_eq_getElem?_getD, List.getElem?_eq_getElem hi]
  rfl
set_option maxRecDepth 100000 in
set_option maxHeartbeats 4000000 in
theorem ro_0 (p : Nat) (v : Value) (w : World) : Calls Tryz.prog 83 #[.pointer (some ⟨p, 0, none⟩), .int .i64 0, v] w fun e w' => e = .returned (.bool true) ∧ w' = w := by
  go_enter Tryz.func83, Tryz.ntmps83
  go_wp2
  go_ret
  exact ⟨rfl, rfl⟩
set_option maxRecDepth 100000 in
set_option maxHeartbeats 4000000 in
theorem ro_no (p k g o n cap m : Nat) (h1 : 1 ≤ k) (h5 : k ≤ 5) (hn : 0 < n) (hm : m < 256) (hno : m < lo k ∨ hi k < m) (w : World) (c0 : w.cell? ⟨g, o, none⟩ = some (.int .u8 (m : Int))) : Calls Tryz.prog 83 #[.pointer (some ⟨p, 0, none⟩), .int .i64 (k : Int), .slice (some ⟨g, o, none⟩) n cap] w fun e w' => e = .returned (.bool false) ∧ w' = w := by
  have HBD : Hid _ := bounds_any k h5 w
  obtain ⟨l, hl⟩ : ∃ l, l = lo k := ⟨_, rfl⟩
  obtain ⟨u, hu⟩ : ∃ u, u = hi k := ⟨_, rfl⟩
  have l1 : l ≤ 1 := by rw [hl]; unfold lo; split <;> omega
  have u1 : u ≤ 255 := by rw [hu]; unfold hi; split <;> (try split) <;> omega
  rw [← hl, ← hu] at HBD hno
  clear hl hu
  go_enter Tryz.func83, Tryz.ntmps83
  by_cases hlt : m < l
  · go_wp2_with (go_at_call 101; refine Calls.mono HBD.out ?_; rintro e X ⟨rfl, hqq⟩; obtain rfl := hqq.symm)
    go_ret
    exact ⟨rfl, rfl⟩
  · have hgt : u < m := hno.resolve_left hlt
    go_wp2_with (go_at_call 101; refine Calls.mono HBD.out ?_; rintro e X ⟨rfl, hqq⟩; obtain rfl := hqq.symm)
    go_ret
    exact ⟨rfl, rfl⟩
set_option maxRecDepth 100000 in
set_option maxHeartbeats 4000000 in
theorem ro_x (p k g o n cap m : Nat) (hk : k = 2 ∨ k = 3 ∨ k = 4) (hn : 0 < n) (hm : m < 256) (hlo : lo k ≤ m) (hhi : m ≤ hi k) (ci pi : Nat) (w : World) (c0 : w.cell? ⟨g, o, none⟩ = some (.int .u8 (m : Int))) (hp : Row w p (ic ci pi 0 0) 53) : Calls Tryz.prog 83 #[.pointer (some ⟨p, 0, none⟩), .int .i64 (k : Int), .slice (some ⟨g, o, none⟩) n cap] w fun e w' => e = .returned (.bool true) ∧ Row w' p (ic ci pi 0 m) 53 ∧ Gro (· = p) w w' := by
  have h5 : k ≤ 5 := by omega
  have HBD : Hid _ := bounds_any k h5 w
  obtain ⟨l, hl⟩ : ∃ l, l = lo k := ⟨_, rfl⟩
  obtain ⟨u, hu⟩ : ∃ u, u = hi k := ⟨_, rfl⟩
  have l1 : l ≤ 1 := by rw [hl]; unfold lo; split <;> omega
  have u1 : u ≤ 255 := by rw [hu]; unfold hi; split <;> (try split) <;> omega
  rw [← hl, ← hu] at HBD
  rw [← hl] at hlo
  rw [← hu] at hhi
  have HP : Hid (Row w p (ic ci pi 0 0) 53) := hp
  have k0 : k ≠ 0 := by omega
  have k1 : k ≠ 1 := by omega
  have k5 : k ≠ 5 := by omega
  have c6 := hp.cell 6 _ (ic_6 ci pi 0 0)
  have f6 := hp.thaw 6
  clear hl hu hk hp
  go_enter Tryz.func83, Tryz.ntmps83
  go_wp2_with (go_at_call 101; refine Calls.mono HBD.out ?_; rintro e X ⟨rfl, hqq⟩; obtain rfl := hqq.symm)
  go_ret
  refine ⟨rfl, ?_, ?_⟩
  · have q := HP.out.set 6 (.int .i64 (m : Int))
    rw [ic_set6] at q
    exact q
  · exact (Gro.refl _ _).set p 6 _ rfl
theorem or_i64 (m m1 : Nat) (hm : m < 256) (hm1 : m1 < 256) : bits BinOp.or IntKind.i64 ((m : Int) * 256) (m1 : Int) = ((m * 256 + m1 : Nat) : Int) := by
  have e : m * 256 + m1 = m * 256 ||| m1 := by
    have := Nat.shiftLeft_add_eq_or_of_lt (i := 8) (show m1 < 2 ^ 8 by omega) m
    rwa [Nat.shiftLeft_eq] at this
  have hlt : m * 256 ||| m1 < 65536 := by rw [← e]; omega
  rw [e]
  have e2 : ∀ n : Nat, n < 65536 → (BitVec.ofInt IntKind.i64.bits (n : Int)).toNat = n := fun n h => by
    show (BitVec.ofInt 64 (n : Int)).toNat = n
    rw [BitVec.toNat_ofInt]
    have e2 : ((2 ^ 64 : Nat) : Int) = 18446744073709551616 := by decide
    omega
  show IntKind.i64.wrap (((BitVec.ofInt IntKind.i64.bits ((m : Int) * 256)) ||| (BitVec.ofInt IntKind.i64.bits (m1 : Int))).toNat : Int) = _
  rw [show (m : Int) * 256 = ((m * 256 : Nat) : Int) by omega, BitVec.toNat_or, e2 _ (by omega), e2 _ (by omega)]
  rw [IntKind.wrap_i64]
  omega
theorem range_drop {w : World} {g o : Nat} {b : List (BitVec 8)} (h : w.rangeAt g o (vB b)) (k : Nat) : w.rangeAt g (o + k) (vB (b.drop k)) := fun j v hj => by
  have := h (k + j) v (by rw [← hj]; unfold vB; rw [List.map_drop, List.getElem?_drop])
  rwa [← Nat.add_assoc] at this
set_option maxRecDepth 100000 in
set_option maxHeartbeats 4000000 in
theorem ro_1 (p g o n cap m : Nat) (hn : n = 1 + m) (h1 : 1 ≤ m) (hm : m ≤ 32) (hc : n ≤ cap) (b : List (BitVec 8)) (hb : b.length = n) (ci pi : Nat) (w : World) (hr : w.rangeAt g o (vB b)) (c0 : w.cell? ⟨g, o, none⟩ = some (.int .u8 (m : Int))) (hp : Row w p (ic ci pi 0 0) 53) : Calls Tryz.prog 83 #[.pointer (some ⟨p, 0, none⟩), .int .i64 1, .slice (some ⟨g, o, none⟩) n cap] w fun e w' => e = .returned (.bool true) ∧ Row w' p (ic ci pi (nb (b.drop 1)) 0) 53 ∧ Gro (· = p) w w' := by
  have HBD : Hid (Calls Tryz.prog 101 #[.int .i64 1] w fun e w' => e = .returned (.tuple #[.int .i64 1, .int .i64 32]) ∧ w' = w) := bounds_any 1 (by decide) w
  have hn0 : 0 < n := by omega
  have hn1 : 1 < n := by omega
  have HP : Hid (Row w p (ic ci pi 0 0) 53) := hp
  obtain ⟨L, hL⟩ : ∃ L, L = wq (nb (b.drop 1)) := ⟨_, rfl⟩
  have HL : Hid (L = wq (nb (b.drop 1))) := hL
  have HNU : Hid _ := numberOf_any g (o + 1) m (cap - 1) (b.drop 1) (by rw [List.length_drop, hb, hn]; omega) h1 hm w (range_drop hr 1)
  rw [← hL] at HNU
  have HI : Hid ((Tryz.prog.info? 37).map (·.size) = some L.toArray.size) := by show _ = _; rw [List.size_toArray, hL]; exact info_Wq _
  have HO : Hid (L.toArray.all (·.oneCell') = true) := by show _ = _; rw [hL]; exact wq_one _
  have HN : Hid (n - 1 = m) := by show _ = _; omega
  have HC : Hid (n ≤ cap) := hc
  clear hL hr hb hn hp hc
  go_enter Tryz.func83, Tryz.ntmps83
  go_wp2_with (first
    | (go_at_call 101; refine Calls.mono HBD.out ?_; rintro e X ⟨rfl, hqq⟩; obtain rfl := hqq.symm)
    | (refine wpList_slice_from rfl 22 (.tmp 37) (.const (.int .i64 1)) rfl 5 g o n cap 1 1 rfl rfl rfl (Nat.le_of_lt hn1) HC.out Tryz.underlying22 info_u8 ?_; intro A qA; obtain rfl := qA hn1; rw [HN.out]; simp only [Act.put, List.setIfInBounds_toArray, List.set_cons_zero, List.set_cons_succ])
    | (go_at_call 78; refine Calls.mono HNU.out ?_; rintro e X ⟨rfl, q2⟩; have BX : Hid (Below w.heap.size w X) := q2; have RX : Hid (Row X p (ic ci pi 0 0) 53) := Row.below HP.out q2 HP.out.lt; clear q2)
    | (refine wpList_store_mid rfl 37 (.tmp 41) (.tmp 39) rfl p 2 L.toArray rfl rfl (RX.out.there 2 _ (by rw [List.size_toArray, HL.out, wq_len, ic_len]; decide)) HI.out HO.out ?_; obtain ⟨Y, hY⟩ : ∃ Y, Y = X.setCells p 2 L.toArray.toList := ⟨_, rfl⟩; rw [← hY]; have EY : Hid (Y = X.setCells p 2 L) := hY; clear hY; simp only [Act.put]))
  go_ret
  refine ⟨rfl, ?_, ?_⟩
  · have q := Row.setCells 2 L RX.out (by rw [HL.out, wq_len, ic_len]; decide)
    rw [HL.out, ic_num, ← HL.out, ← EY.out] at q
    exact q
  · rw [EY.out]
    exact gro_over (Gro.of_below BX.out) p 2 _ rfl
set_option maxRecDepth 100000 in
set_option maxHeartbeats 4000000 in
theorem ro_5 (p g o cap m m1 : Nat) (hm : m < 256) (hm1 : m1 < 256) (ci pi : Nat) (w : World) (c0 : w.cell? ⟨g, o, none⟩ = some (.int .u8 (m : Int))) (c1 : w.cell? ⟨g, o + 1, none⟩ = some (.int .u8 (m1 : Int))) (hp : Row w p (ic ci pi 0 0) 53) : Calls Tryz.prog 83 #[.pointer (some ⟨p, 0, none⟩), .int .i64 5, .slice (some ⟨g, o, none⟩) 2 cap] w fun e w' => e = .returned (.bool true) ∧ Row w' p (ic ci pi 0 (m * 256 + m1)) 53 ∧ Gro (· = p) w w' := by
  have HBD : Hid (Calls Tryz.prog 101 #[.int .i64 5] w fun e w' => e = .returned (.tuple #[.int .i64 0, .int .i64 255]) ∧ w' = w) := bounds_any 5 (by decide) w
  have HP : Hid (Row w p (ic ci pi 0 0) 53) := hp
  have c6 := hp.cell 6 _ (ic_6 ci pi 0 0)
  have f6 := hp.thaw 6
  clear hp
  go_enter Tryz.func83, Tryz.ntmps83
  go_wp2_with (first
    | (go_at_call 101; refine Calls.mono HBD.out ?_; rintro e X ⟨rfl, hqq⟩; obtain rfl := hqq.symm))
  go_ret
  rw [or_i64 m m1 hm hm1]
  refine ⟨rfl, ?_, ?_⟩
  · have q := HP.out.set 6 (.int .i64 ((m * 256 + m1 : Nat) : Int))
    rw [ic_set6] at q
    exact q
  · exact (Gro.refl _ _).set p 6 _ rfl

end Go.Proofs.YtclbiophgnkggaaGreatDoor

namespace Go.Proofs.YtclbiophgnkggaaGreatDoor
open Go Go.RowKit
open Sha
open Wd

/-- What an operand's bytes say: a number, a small number. -/
def ro (k : Nat) (b : List (BitVec 8)) : Option (Nat × Nat) :=
  if k = 0 then some (0, 0) else
  if (b.getD 0 0#8).toNat < lo k ∨ hi k < (b.getD 0 0#8).toNat then none else
  if k = 1 then some (nb (b.drop 1), 0) else
  if k = 5 then some (0, (b.getD 0 0#8).toNat * 256 + (b.getD 1 0#8).toNat) else some (0, (b.getD 0 0#8).toNat)
theorem ow_pos (k : Nat) (h : k ≠ 0) (b : List (BitVec 8)) : 1 ≤ ow k b := by
  unfold ow
  rw [if_neg h]
  split
  · decide
  · split
    · split <;> omega
    · exact Nat.le_refl _
theorem ow_one (x : BitVec 8) (r : List (BitVec 8)) : ow 1 (x :: r) = 1 + x.toNat := rfl
set_option maxRecDepth 100000 in
set_option maxHeartbeats 4000000 in
theorem readOperand_some (k p d cap ci pi a n : Nat) (hk : k ≤ 5) (A : Option Addr) (b : List (BitVec 8)) (hb : b.length = d) (hw : d = ow k b) (hro : ro k b = some (a, n)) (w : World) (hv : SlAt w (.slice A d cap) b) (hp : Row w p (ic ci pi 0 0) 53) : Calls Tryz.prog 83 #[.pointer (some ⟨p, 0, none⟩), .int .i64 (k : Int), .slice A d cap] w fun e w' => e = .returned (.bool true) ∧ Row w' p (ic ci pi a n) 53 ∧ Gro (· = p) w w' := by
  by_cases k0 : k = 0
  · subst k0
    unfold ro at hro
    rw [if_pos rfl] at hro
    obtain ⟨rfl, rfl⟩ : 0 = a ∧ 0 = n := by simpa using hro
    refine (ro_0 p _ w).mono ?_
    rintro e w' ⟨rfl, rfl⟩
    exact ⟨rfl, hp, Gro.refl _ _⟩
  · have hd : 1 ≤ d := by rw [hw]; exact ow_pos k k0 b
    rcases hv with ⟨h0, _⟩ | ⟨g, o, c', e, hc, hr⟩
    · subst h0; simp at hb; omega
    · simp only [Value.slice.injEq] at e
      obtain ⟨rfl, _, rfl⟩ := e
      rw [hb] at hc
      have c0 := byte_cell hr 0 (by omega)
      rw [Nat.add_zero] at c0
      have hm := (b.getD 0 0#8).isLt
      unfold ro at hro
      rw [if_neg k0] at hro
      split at hro
      · cases hro
      · rename_i hin
        have hlo : lo k ≤ (b.getD 0 0#8).toNat := Nat.le_of_not_lt (fun q => hin (.inl q))
        have hhi : (b.getD 0 0#8).toNat ≤ hi k := Nat.le_of_not_lt (fun q => hin (.inr q))
        split at hro
        · rename_i k1
          subst k1
          obtain ⟨rfl, rfl⟩ : nb (b.drop 1) = a ∧ 0 = n := by simpa using hro
          have hd2 : d = 1 + (b.getD 0 0#8).toNat := by
            rw [hw]
            cases b with
            | nil => simp at hb; omega
            | cons x r => exact ow_one x r
          exact ro_1 p g o d cap _ hd2 hlo hhi hc b hb ci pi w hr c0 hp
        · rename_i k1
          split at hro
          · rename_i k5
            subst k5
            obtain ⟨rfl, rfl⟩ : 0 = a ∧ _ = n := by simpa using hro
            obtain rfl : d = 2 := hw
            have c1 := byte_cell hr 1 (by omega)
            exact ro_5 p g o cap _ _ hm (b.getD 1 0#8).isLt ci pi w c0 c1 hp
          · rename_i k5
            obtain ⟨rfl, rfl⟩ : 0 = a ∧ _ = n := by simpa using hro
            exact ro_x p k g o d cap _ (by omega) (by omega) hm hlo hhi ci pi w c0 hp
theorem readOperand_none (k p d cap : Nat) (hk : k ≤ 5) (A : Option Addr) (b : List (BitVec 8)) (hb : b.length = d) (hw : d = ow k b) (hro : ro k b = none) (w : World) (hv : SlAt w (.slice A d cap) b) : Calls Tryz.prog 83 #[.pointer (some ⟨p, 0, none⟩), .int .i64 (k : Int), .slice A d cap] w fun e w' => e = .returned (.bool false) ∧ w' = w := by
  by_cases k0 : k = 0
  · subst k0
    unfold ro at hro
    rw [if_pos rfl] at hro
    cases hro
  · have hd : 1 ≤ d := by rw [hw]; exact ow_pos k k0 b
    rcases hv with ⟨h0, _⟩ | ⟨g, o, c', e, hc, hr⟩
    · subst h0; simp at hb; omega
    · simp only [Value.slice.injEq] at e
      obtain ⟨rfl, _, rfl⟩ := e
      have c0 := byte_cell hr 0 (by omega)
      rw [Nat.add_zero] at c0
      have hm := (b.getD 0 0#8).isLt
      unfold ro at hro
      rw [if_neg k0] at hro
      split at hro
      · rename_i hin
        exact ro_no p k g o d cap _ (by omega) hk (by omega) hm hin w c0
      · split at hro
        · cases hro
        · split at hro <;> cases hro

end Go.Proofs.YtclbiophgnkggaaGreatDoor
