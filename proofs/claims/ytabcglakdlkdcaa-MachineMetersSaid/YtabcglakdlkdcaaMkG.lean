/-
  lists that are owned; instructions.
-/
import Derived.Test.YtabcglakdlkdcaaMkB
import Derived.BigQuiet
import Derived.Test.YtabcglakdlkdcaaWEq
import Derived.Test.YtabcglakdlkdcaaWDivU
import Derived.Test.YtabcglakdlkdcaaWOM
import Derived.Laws.MakeOwn
import Derived.Laws.OwnMore

namespace Go.Proofs.Ytabcglakdlkdcaa
open Go Go.RowKit
open Sha
open Wd

/-- An instruction's cells. -/
def ic (c p a n : Nat) : List Value := .int .i64 (c : Int) :: .int .i64 (p : Int) :: (wq a ++ [.int .i64 (n : Int)])
theorem ic_len (c p a n : Nat) : (ic c p a n).length = 7 := by unfold ic; rw [List.length_cons, List.length_cons, List.length_append, wq_len]; rfl
theorem ic_one (c p a n : Nat) : (ic c p a n).toArray.all (·.oneCell') = true := by
  rw [← Array.all_toList]
  unfold ic
  have := wq_one a
  rw [← Array.all_toList] at this
  rw [List.all_cons, List.all_cons, List.all_append, this]
  rfl
theorem info_I : (Try.prog.info? 77).map (·.size) = some 7 := by kernel_rfl
theorem info_Ic (c p a n : Nat) : (Try.prog.info? 77).map (·.size) = some (ic c p a n).length := by rw [ic_len]; exact info_I
theorem ic_0 (c p a n : Nat) : (ic c p a n)[0]? = some (.int .i64 (c : Int)) := rfl
theorem ic_6 (c p a n : Nat) : (ic c p a n)[6]? = some (.int .i64 (n : Int)) := by
  unfold ic
  rw [wq_cells]
  rfl
theorem ic_set1 (c p a n m : Nat) : (ic c p a n).set 1 (.int .i64 (m : Int)) = ic c m a n := rfl
theorem ic_set6 (c p a n m : Nat) : (ic c p a n).set 6 (.int .i64 (m : Int)) = ic c p a m := by
  unfold ic
  rw [wq_cells]
  rfl
theorem ic_num (c p a n m : Nat) : (ic c p a n).take 2 ++ wq m ++ (ic c p a n).drop (2 + (wq m).length) = ic c p m n := by
  rw [wq_len]
  unfold ic
  rw [wq_cells, wq_cells]
  rfl
theorem zI_ic : zI = ic 0 0 0 0 := by unfold ic; rw [wq_zero]; rfl
/-- The kind of a code's operand. -/
def oper (c : Nat) : Nat := [0, 0, 1, 0, 2, 3, 0, 0, 0, 0, 0, 0, 0, 0, 5, 5, 4, 0, 0, 0, 0, 0, 0, 0, 0, 0, 0, 0].getD c 0
theorem oper_le (c : Nat) (h : c < 28) : oper c ≤ 5 := by
  revert c
  decide
def lo (k : Nat) : Nat := if k = 1 ∨ k = 3 then 1 else 0
def hi (k : Nat) : Nat := if k = 1 then 32 else if k = 2 ∨ k = 3 then 15 else 255
theorem mtab_oper (c : Nat) (h : c < 28) : mtab[c * 6 + 1]? = some (.int .i64 (oper c : Int)) := by
  match c, h with
  | 0, _ => exact rfl
  | 1, _ => exact rfl
  | 2, _ => exact rfl
  | 3, _ => exact rfl
  | 4, _ => exact rfl
  | 5, _ => exact rfl
  | 6, _ => exact rfl
  | 7, _ => exact rfl
  | 8, _ => exact rfl
  | 9, _ => exact rfl
  | 10, _ => exact rfl
  | 11, _ => exact rfl
  | 12, _ => exact rfl
  | 13, _ => exact rfl
  | 14, _ => exact rfl
  | 15, _ => exact rfl
  | 16, _ => exact rfl
  | 17, _ => exact rfl
  | 18, _ => exact rfl
  | 19, _ => exact rfl
  | 20, _ => exact rfl
  | 21, _ => exact rfl
  | 22, _ => exact rfl
  | 23, _ => exact rfl
  | 24, _ => exact rfl
  | 25, _ => exact rfl
  | 26, _ => exact rfl
  | 27, _ => exact rfl
  | n + 28, h => exact absurd h (by omega)

/-- How many bytes an operand wants. -/
def ow (k : Nat) (r : List (BitVec 8)) : Nat := if k = 0 then 0 else if k = 5 then 2 else if k = 1 then (match r with | [] => 1 | x :: _ => 1 + x.toNat) else 1
theorem bounds_any (k : Nat) (hk : k ≤ 5) (w : World) : Calls Try.prog 78 #[.int .i64 (k : Int)] w fun e w' => e = .returned (.tuple #[.int .i64 (lo k : Int), .int .i64 (hi k : Int)]) ∧ w' = w := by
  match k, hk with
  | 0, _ =>
    go_enter Try.func78, Try.ntmps78
    go_wp2
    go_ret2
    exact ⟨rfl, rfl⟩
  | 1, _ =>
    go_enter Try.func78, Try.ntmps78
    go_wp2
    go_ret2
    exact ⟨rfl, rfl⟩
  | 2, _ =>
    go_enter Try.func78, Try.ntmps78
    go_wp2
    go_ret2
    exact ⟨rfl, rfl⟩
  | 3, _ =>
    go_enter Try.func78, Try.ntmps78
    go_wp2
    go_ret2
    exact ⟨rfl, rfl⟩
  | 4, _ =>
    go_enter Try.func78, Try.ntmps78
    go_wp2
    go_ret2
    exact ⟨rfl, rfl⟩
  | 5, _ =>
    go_enter Try.func78, Try.ntmps78
    go_wp2
    go_ret2
    exact ⟨rfl, rfl⟩

theorem ow_0 (A : Option Addr) (n cap : Nat) (w : World) : Calls Try.prog 65 #[.int .i64 0, .slice A n cap] w fun e w' => e = .returned (.int .i64 0) ∧ w' = w := by
  go_enter Try.func65, Try.ntmps65
  go_wp2
  go_ret
  exact ⟨rfl, rfl⟩
theorem ow_5 (A : Option Addr) (n cap : Nat) (w : World) : Calls Try.prog 65 #[.int .i64 5, .slice A n cap] w fun e w' => e = .returned (.int .i64 2) ∧ w' = w := by
  go_enter Try.func65, Try.ntmps65
  go_wp2
  go_ret
  exact ⟨rfl, rfl⟩
theorem ow_2 (A : Option Addr) (n cap : Nat) (w : World) : Calls Try.prog 65 #[.int .i64 2, .slice A n cap] w fun e w' => e = .returned (.int .i64 1) ∧ w' = w := by
  go_enter Try.func65, Try.ntmps65
  go_wp2
  go_ret
  exact ⟨rfl, rfl⟩
theorem ow_3 (A : Option Addr) (n cap : Nat) (w : World) : Calls Try.prog 65 #[.int .i64 3, .slice A n cap] w fun e w' => e = .returned (.int .i64 1) ∧ w' = w := by
  go_enter Try.func65, Try.ntmps65
  go_wp2
  go_ret
  exact ⟨rfl, rfl⟩
theorem ow_4 (A : Option Addr) (n cap : Nat) (w : World) : Calls Try.prog 65 #[.int .i64 4, .slice A n cap] w fun e w' => e = .returned (.int .i64 1) ∧ w' = w := by
  go_enter Try.func65, Try.ntmps65
  go_wp2
  go_ret
  exact ⟨rfl, rfl⟩
theorem ow_1e (A : Option Addr) (cap : Nat) (w : World) : Calls Try.prog 65 #[.int .i64 1, .slice A 0 cap] w fun e w' => e = .returned (.int .i64 1) ∧ w' = w := by
  go_enter Try.func65, Try.ntmps65
  go_wp2
  go_ret
  exact ⟨rfl, rfl⟩
theorem ow_1 (g o n cap : Nat) (h : 0 < n) (x : BitVec 8) (w : World) (c0 : w.cell? ⟨g, o, none⟩ = some (.int .u8 (c x))) : Calls Try.prog 65 #[.int .i64 1, .slice (some ⟨g, o, none⟩) n cap] w fun e w' => e = .returned (.int .i64 ((1 + x.toNat : Nat) : Int)) ∧ w' = w := by
  have hx : c x = (x.toNat : Int) := rfl
  have hlt := x.isLt
  go_enter Try.func65, Try.ntmps65
  go_wp2
  go_ret
  exact ⟨by rw [Int.natCast_add]; rfl, rfl⟩
theorem operandWidth_any (k : Nat) (hk : k ≤ 5) (A : Option Addr) (n cap : Nat) (r : List (BitVec 8)) (hr : r.length = n) (w : World) (hv : SlAt w (.slice A n cap) r) : Calls Try.prog 65 #[.int .i64 (k : Int), .slice A n cap] w fun e w' => e = .returned (.int .i64 (ow k r : Int)) ∧ w' = w := by
  match k, hk with
  | 0, _ => exact ow_0 A n cap w
  | 2, _ => exact ow_2 A n cap w
  | 3, _ => exact ow_3 A n cap w
  | 4, _ => exact ow_4 A n cap w
  | 5, _ => exact ow_5 A n cap w
  | 1, _ =>
    cases r with
    | nil =>
      subst hr
      exact ow_1e A cap w
    | cons x r =>
      rcases hv with ⟨h0, _⟩ | ⟨g, o, c', e, _, hr'⟩
      · cases h0
      · simp only [Value.slice.injEq] at e
        obtain ⟨rfl, _, _⟩ := e
        exact ow_1 g o n cap (by rw [← hr]; exact Nat.succ_pos _) x w (hr' 0 _ rfl)

end Go.Proofs.Ytabcglakdlkdcaa

namespace Go.Proofs.Ytabcglakdlkdcaa
open Go Go.RowKit
open Sha
open Wd

theorem gro_over {R : Nat → Prop} {w W : World} (h : Gro R w W) (b o : Nat) (vs : List Value) (hb : R b) : Gro R w (W.setCells b o vs) := by
  induction vs generalizing W o with
  | nil => exact h
  | cons v r ih => exact ih (h.set b o v hb) (o + 1)
theorem byte_cell {w : World} {g o : Nat} {b : List (BitVec 8)} (h : w.rangeAt g o (vB b)) (i : Nat) (hi : i < b.length) : w.cell? ⟨g, o + i, none⟩ = some (.int .u8 (((b.getD i 0#8).toNat : Nat) : Int)) := by
  refine h i _ ?_
  unfold vB
  rw [List.getElem?_map, List.getD_eq_getElem?_getD, List.getElem?_eq_getElem hi]
  rfl
set_option maxRecDepth 100000 in
set_option maxHeartbeats 4000000 in
theorem ro_0 (p : Nat) (v : Value) (w : World) : Calls Try.prog 66 #[.pointer (some ⟨p, 0, none⟩), .int .i64 0, v] w fun e w' => e = .returned (.bool true) ∧ w' = w := by
  go_enter Try.func66, Try.ntmps66
  go_wp2
  go_ret
  exact ⟨rfl, rfl⟩
set_option maxRecDepth 100000 in
set_option maxHeartbeats 4000000 in
theorem ro_no (p k g o n cap m : Nat) (h1 : 1 ≤ k) (h5 : k ≤ 5) (hn : 0 < n) (hm : m < 256) (hno : m < lo k ∨ hi k < m) (w : World) (c0 : w.cell? ⟨g, o, none⟩ = some (.int .u8 (m : Int))) : Calls Try.prog 66 #[.pointer (some ⟨p, 0, none⟩), .int .i64 (k : Int), .slice (some ⟨g, o, none⟩) n cap] w fun e w' => e = .returned (.bool false) ∧ w' = w := by
  have HBD : Hid _ := bounds_any k h5 w
  obtain ⟨l, hl⟩ : ∃ l, l = lo k := ⟨_, rfl⟩
  obtain ⟨u, hu⟩ : ∃ u, u = hi k := ⟨_, rfl⟩
  have l1 : l ≤ 1 := by rw [hl]; unfold lo; split <;> omega
  have u1 : u ≤ 255 := by rw [hu]; unfold hi; split <;> (try split) <;> omega
  rw [← hl, ← hu] at HBD hno
  clear hl hu
  go_enter Try.func66, Try.ntmps66
  by_cases hlt : m < l
  · go_wp2_with (go_at_call 78; refine Calls.mono HBD.out ?_; rintro e X ⟨rfl, hqq⟩; obtain rfl := hqq.symm)
    go_ret
    exact ⟨rfl, rfl⟩
  · have hgt : u < m := hno.resolve_left hlt
    go_wp2_with (go_at_call 78; refine Calls.mono HBD.out ?_; rintro e X ⟨rfl, hqq⟩; obtain rfl := hqq.symm)
    go_ret
    exact ⟨rfl, rfl⟩
set_option maxRecDepth 100000 in
set_option maxHeartbeats 4000000 in
theorem ro_x (p k g o n cap m : Nat) (hk : k = 2 ∨ k = 3 ∨ k = 4) (hn : 0 < n) (hm : m < 256) (hlo : lo k ≤ m) (hhi : m ≤ hi k) (ci pi : Nat) (w : World) (c0 : w.cell? ⟨g, o, none⟩ = some (.int .u8 (m : Int))) (hp : Row w p (ic ci pi 0 0) 77) : Calls Try.prog 66 #[.pointer (some ⟨p, 0, none⟩), .int .i64 (k : Int), .slice (some ⟨g, o, none⟩) n cap] w fun e w' => e = .returned (.bool true) ∧ Row w' p (ic ci pi 0 m) 77 ∧ Gro (· = p) w w' := by
  have h5 : k ≤ 5 := by omega
  have HBD : Hid _ := bounds_any k h5 w
  obtain ⟨l, hl⟩ : ∃ l, l = lo k := ⟨_, rfl⟩
  obtain ⟨u, hu⟩ : ∃ u, u = hi k := ⟨_, rfl⟩
  have l1 : l ≤ 1 := by rw [hl]; unfold lo; split <;> omega
  have u1 : u ≤ 255 := by rw [hu]; unfold hi; split <;> (try split) <;> omega
  rw [← hl, ← hu] at HBD
  rw [← hl] at hlo
  rw [← hu] at hhi
  have HP : Hid (Row w p (ic ci pi 0 0) 77) := hp
  have k0 : k ≠ 0 := by omega
  have k1 : k ≠ 1 := by omega
  have k5 : k ≠ 5 := by omega
  have c6 := hp.cell 6 _ (ic_6 ci pi 0 0)
  have f6 := hp.thaw 6
  clear hl hu hk hp
  go_enter Try.func66, Try.ntmps66
  go_wp2_with (go_at_call 78; refine Calls.mono HBD.out ?_; rintro e X ⟨rfl, hqq⟩; obtain rfl := hqq.symm)
  go_ret
  refine ⟨rfl, ?_, ?_⟩
  · have q := HP.out.set 6 (.int .i64 (m : Int))
    rw [ic_set6] at q
    exact q
  · exact (Gro.refl _ _).set p 6 _ rfl
theorem or_i64 (m m1 : Nat) (hm : m < 256) (hm1 : m1 < 256) : bits BinOp.or IntKind.i64 ((m : Int) * 256) (m1 : Int) = ((m * 256 + m1 : Nat) : Int) := by
  have e : m * 256 + m1 = m * 256 ||| m1 := by
    have := Nat.shiftLeft_add_eq_or_of_lt (i := 8) (show m1 < 2 ^ 8 by omega) m
    rwa [Nat.shiftLeft_eq] at this
  have hlt : m * 256 ||| m1 < 65536 := by rw [← e]; omega
  rw [e]
  have e2 : ∀ n : Nat, n < 65536 → (BitVec.ofInt IntKind.i64.bits (n : Int)).toNat = n := fun n h => by
    show (BitVec.ofInt 64 (n : Int)).toNat = n
    rw [BitVec.toNat_ofInt]
    have e2 : ((2 ^ 64 : Nat) : Int) = 18446744073709551616 := by decide
    omega
  show IntKind.i64.wrap (((BitVec.ofInt IntKind.i64.bits ((m : Int) * 256)) ||| (BitVec.ofInt IntKind.i64.bits (m1 : Int))).toNat : Int) = _
  rw [show (m : Int) * 256 = ((m * 256 : Nat) : Int) by omega, BitVec.toNat_or, e2 _ (by omega), e2 _ (by omega)]
  rw [IntKind.wrap_i64]
  omega
theorem range_drop {w : World} {g o : Nat} {b : List (BitVec 8)} (h : w.rangeAt g o (vB b)) (k : Nat) : w.rangeAt g (o + k) (vB (b.drop k)) := fun j v hj => by
  have := h (k + j) v (by rw [← hj]; unfold vB; rw [List.map_drop, List.getElem?_drop])
  rwa [← Nat.add_assoc] at this
set_option maxRecDepth 100000 in
set_option maxHeartbeats 4000000 in
theorem ro_1 (p g o n cap m : Nat) (hn : n = 1 + m) (h1 : 1 ≤ m) (hm : m ≤ 32) (hc : n ≤ cap) (b : List (BitVec 8)) (hb : b.length = n) (ci pi : Nat) (w : World) (hr : w.rangeAt g o (vB b)) (c0 : w.cell? ⟨g, o, none⟩ = some (.int .u8 (m : Int))) (hp : Row w p (ic ci pi 0 0) 77) : Calls Try.prog 66 #[.pointer (some ⟨p, 0, none⟩), .int .i64 1, .slice (some ⟨g, o, none⟩) n cap] w fun e w' => e = .returned (.bool true) ∧ Row w' p (ic ci pi (nb (b.drop 1)) 0) 77 ∧ Gro (· = p) w w' := by
  have HBD : Hid (Calls Try.prog 78 #[.int .i64 1] w fun e w' => e = .returned (.tuple #[.int .i64 1, .int .i64 32]) ∧ w' = w) := bounds_any 1 (by decide) w
  have hn0 : 0 < n := by omega
  have hn1 : 1 < n := by omega
  have HP : Hid (Row w p (ic ci pi 0 0) 77) := hp
  obtain ⟨L, hL⟩ : ∃ L, L = wq (nb (b.drop 1)) := ⟨_, rfl⟩
  have HL : Hid (L = wq (nb (b.drop 1))) := hL
  have HNU : Hid _ := numberOf_any g (o + 1) m (cap - 1) (b.drop 1) (by rw [List.length_drop, hb, hn]; omega) h1 hm w (range_drop hr 1)
  rw [← hL] at HNU
  have HI : Hid ((Try.prog.info? 27).map (·.size) = some L.toArray.size) := by show _ = _; rw [List.size_toArray, hL]; exact info_Wq _
  have HO : Hid (L.toArray.all (·.oneCell') = true) := by show _ = _; rw [hL]; exact wq_one _
  have HN : Hid (n - 1 = m) := by show _ = _; omega
  have HC : Hid (n ≤ cap) := hc
  clear hL hr hb hn hp hc
  go_enter Try.func66, Try.ntmps66
  go_wp2_with (first
    | (go_at_call 78; refine Calls.mono HBD.out ?_; rintro e X ⟨rfl, hqq⟩; obtain rfl := hqq.symm)
    | (refine wpList_slice_from rfl 22 (.tmp 37) (.const (.int .i64 1)) rfl 5 g o n cap 1 1 rfl rfl rfl (Nat.le_of_lt hn1) HC.out Try.underlying22 info_u8 ?_; intro A qA; obtain rfl := qA hn1; rw [HN.out]; simp only [Act.put, List.setIfInBounds_toArray, List.set_cons_zero, List.set_cons_succ])
    | (go_at_call 61; refine Calls.mono HNU.out ?_; rintro e X ⟨rfl, q2⟩; have BX : Hid (Below w.heap.size w X) := q2; have RX : Hid (Row X p (ic ci pi 0 0) 77) := Row.below HP.out q2 HP.out.lt; clear q2)
    | (refine wpList_store_mid rfl 27 (.tmp 41) (.tmp 39) rfl p 2 L.toArray rfl rfl (RX.out.there 2 _ (by rw [List.size_toArray, HL.out, wq_len, ic_len]; decide)) HI.out HO.out ?_; obtain ⟨Y, hY⟩ : ∃ Y, Y = X.setCells p 2 L.toArray.toList := ⟨_, rfl⟩; rw [← hY]; have EY : Hid (Y = X.setCells p 2 L) := hY; clear hY; simp only [Act.put]))
  go_ret
  refine ⟨rfl, ?_, ?_⟩
  · have q := Row.setCells 2 L RX.out (by rw [HL.out, wq_len, ic_len]; decide)
    rw [HL.out, ic_num, ← HL.out, ← EY.out] at q
    exact q
  · rw [EY.out]
    exact gro_over (Gro.of_below BX.out) p 2 _ rfl
set_option maxRecDepth 100000 in
set_option maxHeartbeats 4000000 in
theorem ro_5 (p g o cap m m1 : Nat) (hm : m < 256) (hm1 : m1 < 256) (ci pi : Nat) (w : World) (c0 : w.cell? ⟨g, o, none⟩ = some (.int .u8 (m : Int))) (c1 : w.cell? ⟨g, o + 1, none⟩ = some (.int .u8 (m1 : Int))) (hp : Row w p (ic ci pi 0 0) 77) : Calls Try.prog 66 #[.pointer (some ⟨p, 0, none⟩), .int .i64 5, .slice (some ⟨g, o, none⟩) 2 cap] w fun e w' => e = .returned (.bool true) ∧ Row w' p (ic ci pi 0 (m * 256 + m1)) 77 ∧ Gro (· = p) w w' := by
  have HBD : Hid (Calls Try.prog 78 #[.int .i64 5] w fun e w' => e = .returned (.tuple #[.int .i64 0, .int .i64 255]) ∧ w' = w) := bounds_any 5 (by decide) w
  have HP : Hid (Row w p (ic ci pi 0 0) 77) := hp
  have c6 := hp.cell 6 _ (ic_6 ci pi 0 0)
  have f6 := hp.thaw 6
  clear hp
  go_enter Try.func66, Try.ntmps66
  go_wp2_with (first
    | (go_at_call 78; refine Calls.mono HBD.out ?_; rintro e X ⟨rfl, hqq⟩; obtain rfl := hqq.symm))
  go_ret
  rw [or_i64 m m1 hm hm1]
  refine ⟨rfl, ?_, ?_⟩
  · have q := HP.out.set 6 (.int .i64 ((m * 256 + m1 : Nat) : Int))
    rw [ic_set6] at q
    exact q
  · exact (Gro.refl _ _).set p 6 _ rfl

end Go.Proofs.Ytabcglakdlkdcaa

namespace Go.Proofs.Ytabcglakdlkdcaa
open Go Go.RowKit
open Sha
open Wd

/-- What an operand's bytes say: a number, a small number. -/
def ro (k : Nat) (b : List (BitVec 8)) : Option (Nat × Nat) :=
  if k = 0 then some (0, 0) else
  if (b.getD 0 0#8).toNat < lo k ∨ hi k < (b.getD 0 0#8).toNat then none else
  if k = 1 then some (nb (b.drop 1), 0) else
  if k = 5 then some (0, (b.getD 0 0#8).toNat * 256 + (b.getD 1 0#8).toNat) else some (0, (b.getD 0 0#8).toNat)
theorem ow_pos (k : Nat) (h : k ≠ 0) (b : List (BitVec 8)) : 1 ≤ ow k b := by
  unfold ow
  rw [if_neg h]
  split
  · decide
  · split
    · split <;> omega
    · exact Nat.le_refl _
theorem ow_one (x : BitVec 8) (r : List (BitVec 8)) : ow 1 (x :: r) = 1 + x.toNat := rfl
set_option maxRecDepth 100000 in
set_option maxHeartbeats 4000000 in
theorem readOperand_some (k p d cap ci pi a n : Nat) (hk : k ≤ 5) (A : Option Addr) (b : List (BitVec 8)) (hb : b.length = d) (hw : d = ow k b) (hro : ro k b = some (a, n)) (w : World) (hv : SlAt w (.slice A d cap) b) (hp : Row w p (ic ci pi 0 0) 77) : Calls Try.prog 66 #[.pointer (some ⟨p, 0, none⟩), .int .i64 (k : Int), .slice A d cap] w fun e w' => e = .returned (.bool true) ∧ Row w' p (ic ci pi a n) 77 ∧ Gro (· = p) w w' := by
  by_cases k0 : k = 0
  · subst k0
    unfold ro at hro
    rw [if_pos rfl] at hro
    obtain ⟨rfl, rfl⟩ : 0 = a ∧ 0 = n := by simpa using hro
    refine (ro_0 p _ w).mono ?_
    rintro e w' ⟨rfl, rfl⟩
    exact ⟨rfl, hp, Gro.refl _ _⟩
  · have hd : 1 ≤ d := by rw [hw]; exact ow_pos k k0 b
    rcases hv with ⟨h0, _⟩ | ⟨g, o, c', e, hc, hr⟩
    · subst h0; simp at hb; omega
    · simp only [Value.slice.injEq] at e
      obtain ⟨rfl, _, rfl⟩ := e
      rw [hb] at hc
      have c0 := byte_cell hr 0 (by omega)
      rw [Nat.add_zero] at c0
      have hm := (b.getD 0 0#8).isLt
      unfold ro at hro
      rw [if_neg k0] at hro
      split at hro
      · cases hro
      · rename_i hin
        have hlo : lo k ≤ (b.getD 0 0#8).toNat := Nat.le_of_not_lt (fun q => hin (.inl q))
        have hhi : (b.getD 0 0#8).toNat ≤ hi k := Nat.le_of_not_lt (fun q => hin (.inr q))
        split at hro
        · rename_i k1
          subst k1
          obtain ⟨rfl, rfl⟩ : nb (b.drop 1) = a ∧ 0 = n := by simpa using hro
          have hd2 : d = 1 + (b.getD 0 0#8).toNat := by
            rw [hw]
            cases b with
            | nil => simp at hb; omega
            | cons x r => exact ow_one x r
          exact ro_1 p g o d cap _ hd2 hlo hhi hc b hb ci pi w hr c0 hp
        · rename_i k1
          split at hro
          · rename_i k5
            subst k5
            obtain ⟨rfl, rfl⟩ : 0 = a ∧ _ = n := by simpa using hro
            obtain rfl : d = 2 := hw
            have c1 := byte_cell hr 1 (by omega)
            exact ro_5 p g o cap _ _ hm (b.getD 1 0#8).isLt ci pi w c0 c1 hp
          · rename_i k5
            obtain ⟨rfl, rfl⟩ : 0 = a ∧ _ = n := by simpa using hro
            exact ro_x p k g o d cap _ (by omega) (by omega) hm hlo hhi ci pi w c0 hp
theorem readOperand_none (k p d cap : Nat) (hk : k ≤ 5) (A : Option Addr) (b : List (BitVec 8)) (hb : b.length = d) (hw : d = ow k b) (hro : ro k b = none) (w : World) (hv : SlAt w (.slice A d cap) b) : Calls Try.prog 66 #[.pointer (some ⟨p, 0, none⟩), .int .i64 (k : Int), .slice A d cap] w fun e w' => e = .returned (.bool false) ∧ w' = w := by
  by_cases k0 : k = 0
  · subst k0
    unfold ro at hro
    rw [if_pos rfl] at hro
    cases hro
  · have hd : 1 ≤ d := by rw [hw]; exact ow_pos k k0 b
    rcases hv with ⟨h0, _⟩ | ⟨g, o, c', e, hc, hr⟩
    · subst h0; simp at hb; omega
    · simp only [Value.slice.injEq] at e
      obtain ⟨rfl, _, rfl⟩ := e
      have c0 := byte_cell hr 0 (by omega)
      rw [Nat.add_zero] at c0
      have hm := (b.getD 0 0#8).isLt
      unfold ro at hro
      rw [if_neg k0] at hro
      split at hro
      · rename_i hin
        exact ro_no p k g o d cap _ (by omega) hk (by omega) hm hin w c0
      · split at hro
        · cases hro
        · split at hro <;> cases hro

end Go.Proofs.Ytabcglakdlkdcaa

namespace Go.Proofs.Ytabcglakdlkdcaa
open Go Go.RowKit
open Sha
open Wd

section
variable {P : Program} {ops : Array Oper} {rest : List Oper} {op : Oper} {a : Act} {w : World} {Q : Exit → Act → World → Prop}
end
abbrev ic0 (m : Nat) : List Value := [.int .i64 (m : Int), .int .i64 0, .int .u64 0, .int .u64 0, .int .u64 0, .int .u64 0, .int .i64 0]
theorem ow_take (k : Nat) (r : List (BitVec 8)) (d : Nat) (hd : d = ow k r) (hl : d ≤ r.length) : d = ow k (r.take d) := by
  by_cases k0 : k = 0
  · subst k0; exact hd
  · have := ow_pos k k0 r
    cases r with
    | nil => simp at hl; omega
    | cons x r =>
      obtain ⟨e, rfl⟩ : ∃ e, d = e + 1 := ⟨d - 1, by omega⟩
      exact hd
theorem ow_le (k : Nat) (r : List (BitVec 8)) : ow k r ≤ 256 := by
  unfold ow
  split
  · decide
  · split
    · decide
    · split
      · split
        · decide
        · rename_i x _; have := x.isLt; omega
      · decide
theorem SlAt.take' {w : World} {A : Option Addr} {n c : Nat} {d : List (BitVec 8)} (h : SlAt w (.slice A n c) d) (hn : n = d.length) (k : Nat) (hk : k ≤ n) : SlAt w (.slice A k c) (d.take k) := by
  have e : (d.take k).length = k := by rw [List.length_take]; omega
  rcases h with ⟨h0, _⟩ | ⟨g, o, c', e', hc, hr⟩
  · subst h0
    simp at hn
    obtain rfl : k = 0 := by omega
    exact .inl ⟨rfl, _, _, rfl⟩
  · simp only [Value.slice.injEq] at e'
    obtain ⟨rfl, _, rfl⟩ := e'
    refine .inr ⟨g, o, _, by rw [e], by rw [e]; omega, fun j v hj => hr j v ?_⟩
    unfold vB at hj ⊢
    rw [List.map_take, List.getElem?_take] at hj
    split at hj
    · exact hj
    · cases hj
theorem ic0_ic (m : Nat) : ic0 m = ic m 0 0 0 := by unfold ic; rw [wq_zero]; rfl
theorem ic0_one (m : Nat) : (ic0 m).toArray.all (·.oneCell') = true := by rw [ic0_ic]; exact ic_one _ _ _ _
theorem zI_one : zI.toArray.all (·.oneCell') = true := by rw [zI_ic]; exact ic_one _ _ _ _
set_option maxRecDepth 100000 in
set_option maxHeartbeats 4000000 in
theorem ri_1 (T g o n cap m : Nat) (hm : m < 256) (r : List (BitVec 8)) (hn : r.length + 1 = n) (hc : n ≤ cap) (h28 : 28 ≤ m) (w : World) (hT : Row w T mtab 75) (hr : w.rangeAt g (o + 1) (vB r)) (c0 : w.cell? ⟨g, o, none⟩ = some (.int .u8 (m : Int))) : Calls Try.prog 45 #[.slice (some ⟨T, 0, none⟩) 28 28, .slice (some ⟨g, o, none⟩) n cap] w fun e w' => e = .returned (.tuple #[.agg zI.toArray, .int .i64 0]) ∧ Below w.heap.size w w' := by
  have HT : Hid (Row w T mtab 75) := hT
  have HR : Hid (w.rangeAt g (o + 1) (vB r)) := hr
  have HN : Hid (r.length + 1 = n) := hn
  have HC : Hid (n ≤ cap) := hc
  have C0 : Hid (w.cell? ⟨g, o, none⟩ = some (.int .u8 (m : Int))) := c0
  have hn0 : 0 < n := by omega
  clear hT hr hn hc c0
  go_enter Try.func45, Try.ntmps45
  go_upto_region 1 with (refine wpList_allocI rfl rfl ?_; intro X1 q1 q2 q3; have R1 : Hid (Row X1 w.heap.size zI 77) := q1; have B1 : Hid (Below w.heap.size w X1) := q2; have S1 : Hid (X1.heap.size = w.heap.size + 1) := q3; clear q1 q2 q3; simp only [Act.put, List.setIfInBounds_toArray, List.set_cons_zero, List.set_cons_succ])
  have c0 : X1.cell? ⟨g, o, none⟩ = some (.int .u8 (m : Int)) := cell_be C0.out B1.out
  go_upto_region 2 with (first
    | (refine wpList_allocI rfl rfl ?_; intro X2 q1 q2 q3; have R2 : Hid (Row X2 X1.heap.size zI 77) := q1; have B2 : Hid (Below X1.heap.size X1 X2) := q2; have S2 : Hid (X2.heap.size = X1.heap.size + 1) := q3; clear q1 q2 q3; simp only [Act.put, List.setIfInBounds_toArray, List.set_cons_zero, List.set_cons_succ])
    | (refine wpList_storeL rfl 77 (.tmp 6) (.tmp 14) rfl X1.heap.size (ic0 m) zI 77 rfl rfl R2.out rfl info_I (ic0_one m) ?_; intro X3 q1 q2; have E3 : Hid (X3 = _) := q1; have R3 : Hid (Row X3 X1.heap.size (ic0 m) 77) := q2; clear q1 q2; simp only [Act.put]))
  obtain ⟨p, hp⟩ : ∃ p, p = X1.heap.size := ⟨_, rfl⟩
  obtain ⟨q, hq⟩ : ∃ q, q = w.heap.size := ⟨_, rfl⟩
  have HQ : Hid (q = w.heap.size) := hq
  have HPQ : Hid (p = q + 1) := by show _ = _; rw [hp, hq]; exact S1.out
  rw [← hp] at R3 E3 R2 B2
  rw [← hq] at R1
  rw [← hp, ← hq]
  have hB : Below w.heap.size w X3 := by rw [E3.out]; exact below_setCells (B1.out.trans (B2.out.mono (by rw [HPQ.out, HQ.out]; omega))) (by rw [HPQ.out, HQ.out]; omega) _
  have BB : Hid (Below w.heap.size w X3) := hB
  have RQ : Hid (Row X3 q zI 77) := by rw [E3.out]; exact Row.setCells_other (Row.below R1.out B2.out (by rw [HPQ.out]; omega)) _ _ _ (by rw [HPQ.out]; omega)
  have RP : Hid (Row X3 p (ic m 0 0 0) 77) := by rw [← ic0_ic]; exact R3.out
  have RT : Hid (Row X3 T mtab 75) := Row.below HT.out hB HT.out.lt
  have RR : Hid (X3.rangeAt g (o + 1) (vB r)) := range_be HR.out hB
  clear hp hq hB E3 R3 R2 R1 B1 B2 S1 S2 c0 C0 HT HR
  have cp := RP.out.cell 0 _ (ic_0 m 0 0 0)
  go_wp2_with (refine wpList_storeL rfl 77 (.tmp 4) (.tmp 20) rfl q zI zI 77 rfl rfl RQ.out rfl info_I zI_one ?_; intro X9 q1 q2; have E9 : Hid (X9 = _) := q1; have R9 : Hid (Row X9 q zI 77) := q2; clear q1 q2; simp only [Act.put])
  have hE : Below w.heap.size w X9 := by rw [E9.out]; exact below_setCells BB.out (by rw [HQ.out]; exact Nat.le_refl _) _
  exact bodyPost_ret (results_rowS_tmp Try.results45 _ _ q 77 zI (.int .i64 0) rfl rfl R9.out Try.underlying77 info_I) rfl ⟨rfl, hE⟩
set_option maxRecDepth 100000 in
set_option maxHeartbeats 4000000 in
theorem ri_2 (T g o n cap m : Nat) (hm : m < 256) (r : List (BitVec 8)) (hn : r.length + 1 = n) (hc : n ≤ cap) (h28 : m < 28) (hy : r.length < ow (oper m) r) (w : World) (hT : Row w T mtab 75) (hr : w.rangeAt g (o + 1) (vB r)) (c0 : w.cell? ⟨g, o, none⟩ = some (.int .u8 (m : Int))) : Calls Try.prog 45 #[.slice (some ⟨T, 0, none⟩) 28 28, .slice (some ⟨g, o, none⟩) n cap] w fun e w' => e = .returned (.tuple #[.agg zI.toArray, .int .i64 0]) ∧ Below w.heap.size w w' := by
  have HY : Hid (r.length < ow (oper m) r) := hy
  clear hy
  have HT : Hid (Row w T mtab 75) := hT
  have HR : Hid (w.rangeAt g (o + 1) (vB r)) := hr
  have HN : Hid (r.length + 1 = n) := hn
  have HC : Hid (n ≤ cap) := hc
  have C0 : Hid (w.cell? ⟨g, o, none⟩ = some (.int .u8 (m : Int))) := c0
  have hn0 : 0 < n := by omega
  clear hT hr hn hc c0
  go_enter Try.func45, Try.ntmps45
  go_upto_region 1 with (refine wpList_allocI rfl rfl ?_; intro X1 q1 q2 q3; have R1 : Hid (Row X1 w.heap.size zI 77) := q1; have B1 : Hid (Below w.heap.size w X1) := q2; have S1 : Hid (X1.heap.size = w.heap.size + 1) := q3; clear q1 q2 q3; simp only [Act.put, List.setIfInBounds_toArray, List.set_cons_zero, List.set_cons_succ])
  have c0 : X1.cell? ⟨g, o, none⟩ = some (.int .u8 (m : Int)) := cell_be C0.out B1.out
  go_upto_region 2 with (first
    | (refine wpList_allocI rfl rfl ?_; intro X2 q1 q2 q3; have R2 : Hid (Row X2 X1.heap.size zI 77) := q1; have B2 : Hid (Below X1.heap.size X1 X2) := q2; have S2 : Hid (X2.heap.size = X1.heap.size + 1) := q3; clear q1 q2 q3; simp only [Act.put, List.setIfInBounds_toArray, List.set_cons_zero, List.set_cons_succ])
    | (refine wpList_storeL rfl 77 (.tmp 6) (.tmp 14) rfl X1.heap.size (ic0 m) zI 77 rfl rfl R2.out rfl info_I (ic0_one m) ?_; intro X3 q1 q2; have E3 : Hid (X3 = _) := q1; have R3 : Hid (Row X3 X1.heap.size (ic0 m) 77) := q2; clear q1 q2; simp only [Act.put]))
  obtain ⟨p, hp⟩ : ∃ p, p = X1.heap.size := ⟨_, rfl⟩
  obtain ⟨q, hq⟩ : ∃ q, q = w.heap.size := ⟨_, rfl⟩
  have HQ : Hid (q = w.heap.size) := hq
  have HPQ : Hid (p = q + 1) := by show _ = _; rw [hp, hq]; exact S1.out
  rw [← hp] at R3 E3 R2 B2
  rw [← hq] at R1
  rw [← hp, ← hq]
  have hB : Below w.heap.size w X3 := by rw [E3.out]; exact below_setCells (B1.out.trans (B2.out.mono (by rw [HPQ.out, HQ.out]; omega))) (by rw [HPQ.out, HQ.out]; omega) _
  have BB : Hid (Below w.heap.size w X3) := hB
  have RQ : Hid (Row X3 q zI 77) := by rw [E3.out]; exact Row.setCells_other (Row.below R1.out B2.out (by rw [HPQ.out]; omega)) _ _ _ (by rw [HPQ.out]; omega)
  have RP : Hid (Row X3 p (ic m 0 0 0) 77) := by rw [← ic0_ic]; exact R3.out
  have RT : Hid (Row X3 T mtab 75) := Row.below HT.out hB HT.out.lt
  have RR : Hid (X3.rangeAt g (o + 1) (vB r)) := range_be HR.out hB
  clear hp hq hB E3 R3 R2 R1 B1 B2 S1 S2 c0 C0 HT HR
  have cp := RP.out.cell 0 _ (ic_0 m 0 0 0)
  obtain ⟨k, hk⟩ : ∃ k, k = oper m := ⟨_, rfl⟩
  have HK : Hid (k ≤ 5) := by show _ ≤ _; rw [hk]; exact oper_le m h28
  have ct := RT.out.cell (m * 6 + 1) _ (mtab_oper m h28)
  rw [← hk] at ct
  rw [← hk] at HY
  clear hk
  obtain ⟨A, hA⟩ : ∃ A : Addr, A = if cap = 1 then ⟨g, o, none⟩ else ⟨g, o + 1, none⟩ := ⟨_, rfl⟩
  have HA : Hid (A = if cap = 1 then ⟨g, o, none⟩ else ⟨g, o + 1, none⟩) := hA
  have HS : Hid (SlAt X3 (.slice (some A) r.length (cap - 1)) r) := by
    by_cases h0 : r = []
    · exact .inl ⟨h0, _, _, by rw [h0]; rfl⟩
    · have := List.length_pos_iff.2 h0
      have h1 := HN.out
      have h2 := HC.out
      rw [if_neg (by omega)] at hA
      exact .inr ⟨g, o + 1, cap - 1, by rw [hA], by omega, RR.out⟩
  have HN1 : Hid (n - 1 = r.length) := by show _ = _; have := HN.out; omega
  clear hA
  go_upto_region 4 with fail
  go_quiet (fail)
  obtain ⟨X4, h4⟩ : ∃ X4, X4 = X3.drewN nq := ⟨_, rfl⟩
  rw [← h4]
  replace BB : Hid (Below w.heap.size w X4) := by rw [h4]; exact below_drewN BB.out _
  replace RQ : Hid (Row X4 q zI 77) := by rw [h4]; exact RQ.out.drewN _
  replace RP : Hid (Row X4 p (ic m 0 0 0) 77) := by rw [h4]; exact RP.out.drewN _
  replace HS : Hid (SlAt X4 (.slice (some A) r.length (cap - 1)) r) := by rw [h4]; exact HS.out
  obtain ⟨l, hl⟩ : ∃ l, l = r.length := ⟨_, rfl⟩
  obtain ⟨c1, hc1⟩ : ∃ c, c = cap - 1 := ⟨_, rfl⟩
  have HLC : Hid (l ≤ c1) := by show _ ≤ _; rw [hl, hc1]; have h1 := HN.out; have h2 := HC.out; omega
  rw [show (if cap = 1 then some (⟨g, o, none⟩ : Addr) else some ⟨g, o + 1, none⟩) = some A by rw [HA.out]; split <;> rfl, HN1.out, ← hl, ← hc1]
  rw [← hl, ← hc1] at HS
  obtain ⟨d, hd⟩ : ∃ d, d = ow k r := ⟨_, rfl⟩
  have HOW : Hid _ := operandWidth_any k HK.out (some A) l c1 r hl.symm X4 HS.out
  have HD : Hid (d = ow k r) := hd
  have HL : Hid (l = r.length) := hl
  rw [← hd] at HOW
  clear h4 hc1 cp ct RT RR HN1 HA HN HC
  have hdl : l < d := by rw [hl, hd]; exact HY.out
  clear hd hl
  go_wp2_with (first | (go_at_call 65; refine Calls.mono HOW.out ?_; rintro e X5 ⟨rfl, hqq⟩; obtain rfl := hqq.symm) | (refine wpList_storeL rfl 77 (.tmp 4) (.tmp 36) rfl q zI zI 77 rfl rfl RQ.out rfl info_I zI_one ?_; intro X9 q1 q2; have E9 : Hid (X9 = _) := q1; have R9 : Hid (Row X9 q zI 77) := q2; clear q1 q2; simp only [Act.put]))
  have hE : Below w.heap.size w X9 := by rw [E9.out]; exact below_setCells BB.out (by rw [HQ.out]; exact Nat.le_refl _) _
  exact bodyPost_ret (results_rowS_tmp Try.results45 _ _ q 77 zI (.int .i64 0) rfl rfl R9.out Try.underlying77 info_I) rfl ⟨rfl, hE⟩
set_option maxRecDepth 100000 in
set_option maxHeartbeats 4000000 in
theorem ri_3 (T g o n cap m : Nat) (hm : m < 256) (r : List (BitVec 8)) (hn : r.length + 1 = n) (hc : n ≤ cap) (h28 : m < 28) (hy : ow (oper m) r ≤ r.length) (hz : ro (oper m) (r.take (ow (oper m) r)) = none) (w : World) (hT : Row w T mtab 75) (hr : w.rangeAt g (o + 1) (vB r)) (c0 : w.cell? ⟨g, o, none⟩ = some (.int .u8 (m : Int))) : Calls Try.prog 45 #[.slice (some ⟨T, 0, none⟩) 28 28, .slice (some ⟨g, o, none⟩) n cap] w fun e w' => e = .returned (.tuple #[.agg zI.toArray, .int .i64 0]) ∧ Below w.heap.size w w' := by
  have HY : Hid (ow (oper m) r ≤ r.length ∧ ro (oper m) (r.take (ow (oper m) r)) = none) := ⟨hy, hz⟩
  clear hy hz
  have HT : Hid (Row w T mtab 75) := hT
  have HR : Hid (w.rangeAt g (o + 1) (vB r)) := hr
  have HN : Hid (r.length + 1 = n) := hn
  have HC : Hid (n ≤ cap) := hc
  have C0 : Hid (w.cell? ⟨g, o, none⟩ = some (.int .u8 (m : Int))) := c0
  have hn0 : 0 < n := by omega
  clear hT hr hn hc c0
  go_enter Try.func45, Try.ntmps45
  go_upto_region 1 with (refine wpList_allocI rfl rfl ?_; intro X1 q1 q2 q3; have R1 : Hid (Row X1 w.heap.size zI 77) := q1; have B1 : Hid (Below w.heap.size w X1) := q2; have S1 : Hid (X1.heap.size = w.heap.size + 1) := q3; clear q1 q2 q3; simp only [Act.put, List.setIfInBounds_toArray, List.set_cons_zero, List.set_cons_succ])
  have c0 : X1.cell? ⟨g, o, none⟩ = some (.int .u8 (m : Int)) := cell_be C0.out B1.out
  go_upto_region 2 with (first
    | (refine wpList_allocI rfl rfl ?_; intro X2 q1 q2 q3; have R2 : Hid (Row X2 X1.heap.size zI 77) := q1; have B2 : Hid (Below X1.heap.size X1 X2) := q2; have S2 : Hid (X2.heap.size = X1.heap.size + 1) := q3; clear q1 q2 q3; simp only [Act.put, List.setIfInBounds_toArray, List.set_cons_zero, List.set_cons_succ])
    | (refine wpList_storeL rfl 77 (.tmp 6) (.tmp 14) rfl X1.heap.size (ic0 m) zI 77 rfl rfl R2.out rfl info_I (ic0_one m) ?_; intro X3 q1 q2; have E3 : Hid (X3 = _) := q1; have R3 : Hid (Row X3 X1.heap.size (ic0 m) 77) := q2; clear q1 q2; simp only [Act.put]))
  obtain ⟨p, hp⟩ : ∃ p, p = X1.heap.size := ⟨_, rfl⟩
  obtain ⟨q, hq⟩ : ∃ q, q = w.heap.size := ⟨_, rfl⟩
  have HQ : Hid (q = w.heap.size) := hq
  have HPQ : Hid (p = q + 1) := by show _ = _; rw [hp, hq]; exact S1.out
  rw [← hp] at R3 E3 R2 B2
  rw [← hq] at R1
  rw [← hp, ← hq]
  have hB : Below w.heap.size w X3 := by rw [E3.out]; exact below_setCells (B1.out.trans (B2.out.mono (by rw [HPQ.out, HQ.out]; omega))) (by rw [HPQ.out, HQ.out]; omega) _
  have BB : Hid (Below w.heap.size w X3) := hB
  have RQ : Hid (Row X3 q zI 77) := by rw [E3.out]; exact Row.setCells_other (Row.below R1.out B2.out (by rw [HPQ.out]; omega)) _ _ _ (by rw [HPQ.out]; omega)
  have RP : Hid (Row X3 p (ic m 0 0 0) 77) := by rw [← ic0_ic]; exact R3.out
  have RT : Hid (Row X3 T mtab 75) := Row.below HT.out hB HT.out.lt
  have RR : Hid (X3.rangeAt g (o + 1) (vB r)) := range_be HR.out hB
  clear hp hq hB E3 R3 R2 R1 B1 B2 S1 S2 c0 C0 HT HR
  have cp := RP.out.cell 0 _ (ic_0 m 0 0 0)
  obtain ⟨k, hk⟩ : ∃ k, k = oper m := ⟨_, rfl⟩
  have HK : Hid (k ≤ 5) := by show _ ≤ _; rw [hk]; exact oper_le m h28
  have ct := RT.out.cell (m * 6 + 1) _ (mtab_oper m h28)
  rw [← hk] at ct
  rw [← hk] at HY
  clear hk
  obtain ⟨A, hA⟩ : ∃ A : Addr, A = if cap = 1 then ⟨g, o, none⟩ else ⟨g, o + 1, none⟩ := ⟨_, rfl⟩
  have HA : Hid (A = if cap = 1 then ⟨g, o, none⟩ else ⟨g, o + 1, none⟩) := hA
  have HS : Hid (SlAt X3 (.slice (some A) r.length (cap - 1)) r) := by
    by_cases h0 : r = []
    · exact .inl ⟨h0, _, _, by rw [h0]; rfl⟩
    · have := List.length_pos_iff.2 h0
      have h1 := HN.out
      have h2 := HC.out
      rw [if_neg (by omega)] at hA
      exact .inr ⟨g, o + 1, cap - 1, by rw [hA], by omega, RR.out⟩
  have HN1 : Hid (n - 1 = r.length) := by show _ = _; have := HN.out; omega
  clear hA
  go_upto_region 4 with fail
  go_quiet (fail)
  obtain ⟨X4, h4⟩ : ∃ X4, X4 = X3.drewN nq := ⟨_, rfl⟩
  rw [← h4]
  replace BB : Hid (Below w.heap.size w X4) := by rw [h4]; exact below_drewN BB.out _
  replace RQ : Hid (Row X4 q zI 77) := by rw [h4]; exact RQ.out.drewN _
  replace RP : Hid (Row X4 p (ic m 0 0 0) 77) := by rw [h4]; exact RP.out.drewN _
  replace HS : Hid (SlAt X4 (.slice (some A) r.length (cap - 1)) r) := by rw [h4]; exact HS.out
  obtain ⟨l, hl⟩ : ∃ l, l = r.length := ⟨_, rfl⟩
  obtain ⟨c1, hc1⟩ : ∃ c, c = cap - 1 := ⟨_, rfl⟩
  have HLC : Hid (l ≤ c1) := by show _ ≤ _; rw [hl, hc1]; have h1 := HN.out; have h2 := HC.out; omega
  rw [show (if cap = 1 then some (⟨g, o, none⟩ : Addr) else some ⟨g, o + 1, none⟩) = some A by rw [HA.out]; split <;> rfl, HN1.out, ← hl, ← hc1]
  rw [← hl, ← hc1] at HS
  obtain ⟨d, hd⟩ : ∃ d, d = ow k r := ⟨_, rfl⟩
  have HOW : Hid _ := operandWidth_any k HK.out (some A) l c1 r hl.symm X4 HS.out
  have HD : Hid (d = ow k r) := hd
  have HL : Hid (l = r.length) := hl
  rw [← hd] at HOW
  clear h4 hc1 cp ct RT RR HN1 HA HN HC
  have hdl : d ≤ l := by rw [hl, hd]; exact HY.out.1
  have hdc : d ≤ c1 := Nat.le_trans hdl HLC.out
  have HTL : Hid ((r.take d).length = d) := by show _ = _; rw [List.length_take, ← hl]; omega
  have HTW : Hid (d = ow k (r.take d)) := ow_take k r d hd (by rw [← hl]; exact hdl)
  have HTS : Hid (SlAt X4 (.slice (some A) d c1) (r.take d)) := HS.out.take' hl d hdl
  have HRO : Hid _ := readOperand_none k p d c1 HK.out (some A) (r.take d) HTL.out HTW.out (by rw [hd]; exact HY.out.2) X4 HTS.out
  clear hd hl HY
  go_wp2_with (first | (go_at_call 65; refine Calls.mono HOW.out ?_; rintro e X5 ⟨rfl, hqq⟩; obtain rfl := hqq.symm) | (go_at_call 66; refine Calls.mono HRO.out ?_; rintro e X6 ⟨rfl, hqq⟩; obtain rfl := hqq.symm) | (refine wpList_storeL rfl 77 (.tmp 4) (.tmp 43) rfl q zI zI 77 rfl rfl RQ.out rfl info_I zI_one ?_; intro X9 q1 q2; have E9 : Hid (X9 = _) := q1; have R9 : Hid (Row X9 q zI 77) := q2; clear q1 q2; simp only [Act.put]))
  have hE : Below w.heap.size w X9 := by rw [E9.out]; exact below_setCells BB.out (by rw [HQ.out]; exact Nat.le_refl _) _
  exact bodyPost_ret (results_rowS_tmp Try.results45 _ _ q 77 zI (.int .i64 0) rfl rfl R9.out Try.underlying77 info_I) rfl ⟨rfl, hE⟩
set_option maxRecDepth 100000 in
set_option maxHeartbeats 4000000 in
theorem ri_4 (T g o n cap m : Nat) (hm : m < 256) (r : List (BitVec 8)) (hn : r.length + 1 = n) (hc : n ≤ cap) (h28 : m < 28) (hy : ow (oper m) r ≤ r.length) (na nn : Nat) (hz : ro (oper m) (r.take (ow (oper m) r)) = some (na, nn)) (w : World) (hT : Row w T mtab 75) (hr : w.rangeAt g (o + 1) (vB r)) (c0 : w.cell? ⟨g, o, none⟩ = some (.int .u8 (m : Int))) : Calls Try.prog 45 #[.slice (some ⟨T, 0, none⟩) 28 28, .slice (some ⟨g, o, none⟩) n cap] w fun e w' => e = .returned (.tuple #[.agg (ic m 0 na nn).toArray, .int .i64 ((1 + ow (oper m) r : Nat) : Int)]) ∧ Below w.heap.size w w' := by
  have HY : Hid (ow (oper m) r ≤ r.length ∧ ro (oper m) (r.take (ow (oper m) r)) = some (na, nn)) := ⟨hy, hz⟩
  clear hy hz
  obtain ⟨Y, hY⟩ : ∃ Y, Y = 1 + ow (oper m) r := ⟨_, rfl⟩
  have HYY : Hid (Y = 1 + ow (oper m) r) := hY
  rw [← hY]
  clear hY
  have HT : Hid (Row w T mtab 75) := hT
  have HR : Hid (w.rangeAt g (o + 1) (vB r)) := hr
  have HN : Hid (r.length + 1 = n) := hn
  have HC : Hid (n ≤ cap) := hc
  have C0 : Hid (w.cell? ⟨g, o, none⟩ = some (.int .u8 (m : Int))) := c0
  have hn0 : 0 < n := by omega
  clear hT hr hn hc c0
  go_enter Try.func45, Try.ntmps45
  go_upto_region 1 with (refine wpList_allocI rfl rfl ?_; intro X1 q1 q2 q3; have R1 : Hid (Row X1 w.heap.size zI 77) := q1; have B1 : Hid (Below w.heap.size w X1) := q2; have S1 : Hid (X1.heap.size = w.heap.size + 1) := q3; clear q1 q2 q3; simp only [Act.put, List.setIfInBounds_toArray, List.set_cons_zero, List.set_cons_succ])
  have c0 : X1.cell? ⟨g, o, none⟩ = some (.int .u8 (m : Int)) := cell_be C0.out B1.out
  go_upto_region 2 with (first
    | (refine wpList_allocI rfl rfl ?_; intro X2 q1 q2 q3; have R2 : Hid (Row X2 X1.heap.size zI 77) := q1; have B2 : Hid (Below X1.heap.size X1 X2) := q2; have S2 : Hid (X2.heap.size = X1.heap.size + 1) := q3; clear q1 q2 q3; simp only [Act.put, List.setIfInBounds_toArray, List.set_cons_zero, List.set_cons_succ])
    | (refine wpList_storeL rfl 77 (.tmp 6) (.tmp 14) rfl X1.heap.size (ic0 m) zI 77 rfl rfl R2.out rfl info_I (ic0_one m) ?_; intro X3 q1 q2; have E3 : Hid (X3 = _) := q1; have R3 : Hid (Row X3 X1.heap.size (ic0 m) 77) := q2; clear q1 q2; simp only [Act.put]))
  obtain ⟨p, hp⟩ : ∃ p, p = X1.heap.size := ⟨_, rfl⟩
  obtain ⟨q, hq⟩ : ∃ q, q = w.heap.size := ⟨_, rfl⟩
  have HQ : Hid (q = w.heap.size) := hq
  have HPQ : Hid (p = q + 1) := by show _ = _; rw [hp, hq]; exact S1.out
  rw [← hp] at R3 E3 R2 B2
  rw [← hq] at R1
  rw [← hp, ← hq]
  have hB : Below w.heap.size w X3 := by rw [E3.out]; exact below_setCells (B1.out.trans (B2.out.mono (by rw [HPQ.out, HQ.out]; omega))) (by rw [HPQ.out, HQ.out]; omega) _
  have BB : Hid (Below w.heap.size w X3) := hB
  have RQ : Hid (Row X3 q zI 77) := by rw [E3.out]; exact Row.setCells_other (Row.below R1.out B2.out (by rw [HPQ.out]; omega)) _ _ _ (by rw [HPQ.out]; omega)
  have RP : Hid (Row X3 p (ic m 0 0 0) 77) := by rw [← ic0_ic]; exact R3.out
  have RT : Hid (Row X3 T mtab 75) := Row.below HT.out hB HT.out.lt
  have RR : Hid (X3.rangeAt g (o + 1) (vB r)) := range_be HR.out hB
  clear hp hq hB E3 R3 R2 R1 B1 B2 S1 S2 c0 C0 HT HR
  have cp := RP.out.cell 0 _ (ic_0 m 0 0 0)
  obtain ⟨k, hk⟩ : ∃ k, k = oper m := ⟨_, rfl⟩
  have HK : Hid (k ≤ 5) := by show _ ≤ _; rw [hk]; exact oper_le m h28
  have ct := RT.out.cell (m * 6 + 1) _ (mtab_oper m h28)
  rw [← hk] at ct
  rw [← hk] at HY HYY
  clear hk
  obtain ⟨A, hA⟩ : ∃ A : Addr, A = if cap = 1 then ⟨g, o, none⟩ else ⟨g, o + 1, none⟩ := ⟨_, rfl⟩
  have HA : Hid (A = if cap = 1 then ⟨g, o, none⟩ else ⟨g, o + 1, none⟩) := hA
  have HS : Hid (SlAt X3 (.slice (some A) r.length (cap - 1)) r) := by
    by_cases h0 : r = []
    · exact .inl ⟨h0, _, _, by rw [h0]; rfl⟩
    · have := List.length_pos_iff.2 h0
      have h1 := HN.out
      have h2 := HC.out
      rw [if_neg (by omega)] at hA
      exact .inr ⟨g, o + 1, cap - 1, by rw [hA], by omega, RR.out⟩
  have HN1 : Hid (n - 1 = r.length) := by show _ = _; have := HN.out; omega
  clear hA
  go_upto_region 4 with fail
  go_quiet (fail)
  obtain ⟨X4, h4⟩ : ∃ X4, X4 = X3.drewN nq := ⟨_, rfl⟩
  rw [← h4]
  replace BB : Hid (Below w.heap.size w X4) := by rw [h4]; exact below_drewN BB.out _
  replace RQ : Hid (Row X4 q zI 77) := by rw [h4]; exact RQ.out.drewN _
  replace RP : Hid (Row X4 p (ic m 0 0 0) 77) := by rw [h4]; exact RP.out.drewN _
  replace HS : Hid (SlAt X4 (.slice (some A) r.length (cap - 1)) r) := by rw [h4]; exact HS.out
  obtain ⟨l, hl⟩ : ∃ l, l = r.length := ⟨_, rfl⟩
  obtain ⟨c1, hc1⟩ : ∃ c, c = cap - 1 := ⟨_, rfl⟩
  have HLC : Hid (l ≤ c1) := by show _ ≤ _; rw [hl, hc1]; have h1 := HN.out; have h2 := HC.out; omega
  rw [show (if cap = 1 then some (⟨g, o, none⟩ : Addr) else some ⟨g, o + 1, none⟩) = some A by rw [HA.out]; split <;> rfl, HN1.out, ← hl, ← hc1]
  rw [← hl, ← hc1] at HS
  obtain ⟨d, hd⟩ : ∃ d, d = ow k r := ⟨_, rfl⟩
  have HOW : Hid _ := operandWidth_any k HK.out (some A) l c1 r hl.symm X4 HS.out
  have HD : Hid (d = ow k r) := hd
  have HL : Hid (l = r.length) := hl
  rw [← hd] at HOW
  clear h4 hc1 cp ct RT RR HN1 HA HN HC
  have hdl : d ≤ l := by rw [hl, hd]; exact HY.out.1
  have hdc : d ≤ c1 := Nat.le_trans hdl HLC.out
  have HTL : Hid ((r.take d).length = d) := by show _ = _; rw [List.length_take, ← hl]; omega
  have HTW : Hid (d = ow k (r.take d)) := ow_take k r d hd (by rw [← hl]; exact hdl)
  have HTS : Hid (SlAt X4 (.slice (some A) d c1) (r.take d)) := HS.out.take' hl d hdl
  have HRO : Hid _ := readOperand_some k p d c1 m 0 na nn HK.out (some A) (r.take d) HTL.out HTW.out (by rw [hd]; exact HY.out.2) X4 HTS.out RP.out
  rw [← hd] at HYY
  obtain ⟨L, hL⟩ : ∃ L, L = ic m 0 na nn := ⟨_, rfl⟩
  rw [← hL] at HRO
  have HLL : Hid (L = ic m 0 na nn) := hL
  have HI : Hid ((Try.prog.info? 77).map (·.size) = some L.length) := by show _ = _; rw [hL]; exact info_Ic _ _ _ _
  have HN7 : Hid (L.length = zI.length) := by show _ = _; rw [hL]; exact ic_len _ _ _ _
  have HO : Hid (L.toArray.all (·.oneCell') = true) := by show _ = _; rw [hL]; exact ic_one _ _ _ _
  have d33 : d ≤ 256 := by rw [hd]; exact ow_le k r
  have hqp : ¬ q = p := by rw [HPQ.out]; omega
  clear hd hl HY hL
  go_wp2_with (first
    | (go_at_call 65; refine Calls.mono HOW.out ?_; rintro e X5 ⟨rfl, hqq⟩; obtain rfl := hqq.symm)
    | (go_at_call 66; refine Calls.mono HRO.out ?_; rintro e X6 ⟨rfl, qr, qg⟩; have R6 : Hid (Row X6 p L 77) := qr; have RQ6 : Hid (Row X6 q zI 77) := qg.row RQ.out hqp; have B6 : Hid (Below w.heap.size w X6) := BB.out.trans (qg.to_below BB.out.size (fun k e => by rw [e, HPQ.out, HQ.out]; omega)); clear qr qg)
    | (refine wpList_load_w rfl 77 (.tmp 6) rfl p 0 rfl L _ R6.out.all Try.underlying77 rfl HI.out ?_; simp only [Act.put, List.setIfInBounds_toArray, List.set_cons_zero, List.set_cons_succ])
    | (refine wpList_storeL rfl 77 (.tmp 4) (.tmp 44) rfl q L zI 77 rfl rfl RQ6.out HN7.out HI.out HO.out ?_; intro X9 q1 q2; have E9 : Hid (X9 = _) := q1; have R9 : Hid (Row X9 q L 77) := q2; clear q1 q2; simp only [Act.put]))
  have hE : Below w.heap.size w X9 := by rw [E9.out]; exact below_setCells B6.out (by rw [HQ.out]; exact Nat.le_refl _) _
  have hY : (1 : Int) + (d : Int) = (Y : Int) := by rw [HYY.out]; omega
  exact bodyPost_ret (results_rowS_tmp Try.results45 _ _ q 77 L (.int .i64 (Y : Int)) rfl (by rw [← hY]; rfl) R9.out Try.underlying77 HI.out) rfl ⟨by rw [HLL.out], hE⟩

end Go.Proofs.Ytabcglakdlkdcaa

namespace Go.Proofs.Ytabcglakdlkdcaa
open Go Go.RowKit
open Wd

theorem info_all_int : (Try.prog.info? 3).map (fun i => (i.zero, i.size, i.bytes)) = some (some (.int .i64 0), 1, 8) := by kernel_rfl
theorem made_ints (n : Nat) : madeCells (Value.int IntKind.i64 0).cells (n * 1) = (vI (List.replicate n 0)).toArray := by
  apply Array.ext'
  rw [show (Value.int IntKind.i64 0).cells = #[Value.int IntKind.i64 0] from rfl, toList_madeCells_one]
  simp [vI]
section
variable {P : Program} {ops : Array Oper} {rest : List Oper} {op : Oper} {a : Act} {w : World} {Q : Exit → Act → World → Prop}
/-- make of n numbers. -/
theorem wpList_make_i (hgd : op.guard = none) (t : TypeId) (x y : Operand) (ho : op.op = .makeSlice t x y) (e : TypeId) (n : Nat) (l l' : Int) (hl : l = (n : Int)) (hl' : l' = (n : Int)) (hx : a.eval x = .int .i64 l) (hy : a.eval y = .int .i64 l') (hn : n ≤ 35184372088832)
    (hu : P.underlying t = some (.slice e)) (hi : (P.info? e).map (fun i => (i.zero, i.size, i.bytes)) = some (some (.int .i64 0), 1, 8))
    (h : wpList P ops Q rest (a.put op.dst (.slice (some ⟨w.heap.size, 0, none⟩) n n)) (w.alloc (.cells (vI (List.replicate n 0)).toArray e))) : wpList P ops Q (op :: rest) a w :=
  wpList_plain hgd fun _ hK => by
    subst hl; subst hl'
    obtain ⟨i, hi0, hz, hs, hb⟩ := info_parts hi
    have hr := run_make (P := P) w t e i (.int .i64 0) hu hi0 hz .i64 .i64 (n : Int) (n : Int) (by omega) (by omega) (by rw [hb]; omega) (by omega)
    rw [hs, Int.toNat_natCast, made_ints] at hr
    unfold Oper.wp execOp
    simp only [ho, hx, hy, Sem.run_bind, hr, Result.andThen_ok, Sem.run_pure, Oper.upon_value]
    exact hK _ _ h
end

end Go.Proofs.Ytabcglakdlkdcaa

namespace Go.Proofs.Ytabcglakdlkdcaa
open Go Go.RowKit
open Sha
open Wd

/-- What the bytes at a place say: code, number, small number, size. -/
def ri (b : List (BitVec 8)) : Option (Nat × Nat × Nat × Nat) := match b with
  | [] => none
  | x :: r => if 28 ≤ x.toNat then none else if r.length < ow (oper x.toNat) r then none else
    match ro (oper x.toNat) (r.take (ow (oper x.toNat) r)) with
    | none => none
    | some (a, n) => some (x.toNat, a, n, 1 + ow (oper x.toNat) r)
theorem ri_size {b : List (BitVec 8)} {c a n s : Nat} (h : ri b = some (c, a, n, s)) : c < 28 ∧ 1 ≤ s ∧ s ≤ 257 ∧ s ≤ b.length := by
  cases b with
  | nil => cases h
  | cons x r =>
    unfold ri at h
    simp only at h
    split at h
    · cases h
    · split at h
      · cases h
      · split at h
        · cases h
        · rename_i h1 h2 _ _ _ _
          simp only [Option.some.injEq, Prod.mk.injEq] at h
          obtain ⟨rfl, _, _, rfl⟩ := h
          have := ow_le (oper x.toNat) r
          rw [List.length_cons]
          omega
theorem cons_cell {w : World} {g o : Nat} {x : BitVec 8} {r : List (BitVec 8)} (h : w.rangeAt g o (vB (x :: r))) : w.cell? ⟨g, o, none⟩ = some (.int .u8 ((x.toNat : Nat) : Int)) := h 0 _ rfl
theorem cons_rest {w : World} {g o : Nat} {x : BitVec 8} {r : List (BitVec 8)} (h : w.rangeAt g o (vB (x :: r))) : w.rangeAt g (o + 1) (vB r) := fun j v hj => by
  have := h (j + 1) v hj
  rwa [show o + (j + 1) = o + 1 + j by omega] at this
theorem readI_some (T g o n cap : Nat) (b : List (BitVec 8)) (hn : b.length = n) (hc : n ≤ cap) (c a m s : Nat) (h : ri b = some (c, a, m, s)) (w : World) (hT : Row w T mtab 75) (hr : w.rangeAt g o (vB b)) : Calls Try.prog 45 #[.slice (some ⟨T, 0, none⟩) 28 28, .slice (some ⟨g, o, none⟩) n cap] w fun e w' => e = .returned (.tuple #[.agg (ic c 0 a m).toArray, .int .i64 (s : Int)]) ∧ Below w.heap.size w w' := by
  cases b with
  | nil => cases h
  | cons x r =>
    unfold ri at h
    simp only at h
    split at h
    · cases h
    · split at h
      · cases h
      · split at h
        · cases h
        · rename_i h1 h2 _ _ _ h3
          simp only [Option.some.injEq, Prod.mk.injEq] at h
          obtain ⟨rfl, rfl, rfl, rfl⟩ := h
          exact ri_4 T g o n cap _ x.isLt r hn hc (by omega) (by omega) _ _ h3 w hT (cons_rest hr) (cons_cell hr)
theorem readI_none (T g o n cap : Nat) (b : List (BitVec 8)) (hn : b.length = n) (h0 : 0 < n) (hc : n ≤ cap) (h : ri b = none) (w : World) (hT : Row w T mtab 75) (hr : w.rangeAt g o (vB b)) : Calls Try.prog 45 #[.slice (some ⟨T, 0, none⟩) 28 28, .slice (some ⟨g, o, none⟩) n cap] w fun e w' => e = .returned (.tuple #[.agg zI.toArray, .int .i64 0]) ∧ Below w.heap.size w w' := by
  cases b with
  | nil => simp at hn; omega
  | cons x r =>
    unfold ri at h
    simp only at h
    split at h
    · rename_i h1
      exact ri_1 T g o n cap _ x.isLt r hn hc h1 w hT (cons_rest hr) (cons_cell hr)
    · split at h
      · rename_i h1 h2
        exact ri_2 T g o n cap _ x.isLt r hn hc (by omega) h2 w hT (cons_rest hr) (cons_cell hr)
      · split at h
        · rename_i h1 h2 h3
          exact ri_3 T g o n cap _ x.isLt r hn hc (by omega) (by omega) h3 w hT (cons_rest hr) (cons_cell hr)
        · cases h
/-- Lists that are owned, of any type. -/
abbrev Lw (w : World) (e : TypeId) (s : Nat) (v : Value) (n : Nat) (xs : List Value) : Prop := w.ownsRow 0 e s v n xs
section
variable {w w' : World} {v : Value} {e : TypeId} {s n : Nat} {xs : List Value}
theorem Lw.lt (h : Lw w e s v n xs) : ∀ g, v.ownBlock = some g → g < w.heap.size := fun g e => (World.ownsRow.lt h g e).2
theorem Lw.block (h : Lw w e s v n xs) (k : ∀ g, v.ownBlock = some g → w'.heap[g]? = w.heap[g]?) : Lw w' e s v n xs := by
  obtain ⟨h1, h2⟩ := h
  refine ⟨h1, ?_⟩
  rcases h2 with h2 | ⟨g, cap, cur, hv, hg, hh, r⟩
  · exact .inl h2
  · exact .inr ⟨g, cap, cur, hv, hg, (k g (by rw [hv]; rfl)).trans hh, r⟩
theorem Lw.be (h : Lw w e s v n xs) (k : Below w.heap.size w w') : Lw w' e s v n xs := Lw.block h fun g e => k.block g (Lw.lt h g e)
theorem Lw.gro {R : Nat → Prop} (h : Lw w e s v n xs) (k : Gro R w w') (hR : ∀ g, v.ownBlock = some g → ¬ R g) : Lw w' e s v n xs := Lw.block h fun g e => k.block g (Lw.lt h g e) (hR g e)
theorem Lw.ne {b : Nat} {cs : List Value} {t : TypeId} (h : Lw w e s v n xs) (r : Row w b cs t) (ht : t ≠ e) : ∀ g, v.ownBlock = some g → g ≠ b := fun g e q => by
  subst q
  obtain ⟨_, h2⟩ := h
  rcases h2 with ⟨h2, _⟩ | ⟨g', cap, cur, hv, hg, hh, _⟩
  · rw [h2] at e; cases e
  · rw [hv] at e
    obtain rfl : g' = g := by simpa [Value.ownBlock] using e
    have := hh.symm.trans r
    simp only [Option.some.injEq, Obj.cells.injEq] at this
    exact ht this.2.1.symm
theorem Lw.nil (w : World) (e : TypeId) (s : Nat) : Lw w e s (.slice none 0 0) 0 [] := ⟨by simp, .inl ⟨rfl, rfl⟩⟩
theorem Lw.form (h : Lw w e s v n xs) : ∃ A cap, v = .slice A n cap ∧ n ≤ cap ∧ (A = none → cap = 0) := by
  obtain ⟨_, h2⟩ := h
  rcases h2 with ⟨h2, h3⟩ | ⟨g, cap, cur, hv, hg, hh, hc, _⟩
  · exact ⟨none, 0, by rw [h2, h3], by rw [h3]; exact Nat.le_refl _, fun _ => rfl⟩
  · exact ⟨_, cap, hv, hc, fun q => by cases q⟩
theorem Lw.len (h : Lw w e s v n xs) : xs.length = n * s := h.1
theorem Lw.open (h : Lw w e s v n xs) (hn : 0 < n) : ∃ g cap, v = .slice (some ⟨g, 0, none⟩) n cap ∧ n ≤ cap := by
  obtain ⟨_, h2⟩ := h
  rcases h2 with ⟨h2, h3⟩ | ⟨g, cap, cur, hv, hg, hh, hc, _⟩
  · omega
  · exact ⟨g, cap, hv, hc⟩
theorem Lw.range {g cap : Nat} (h : Lw w e s (.slice (some ⟨g, 0, none⟩) n cap) n xs) : w.rangeAt g 0 xs := fun j u hj => by
  have hlt : j < n * s := by have := (List.getElem?_eq_some_iff.1 hj).1; rwa [Lw.len h] at this
  rw [Nat.zero_add]
  exact (World.ownsRow.cellAt h j hlt).trans hj
end
section
variable {Q : Exit → Act → World → Prop} {o : Oper} {a : Act} {w : World} {K : Act → World → Prop}
/-- append of one element onto a list that is owned. -/
theorem wp_appL (t e : TypeId) (sz bt : Nat) (hu : Try.prog.underlying t = some (.slice e)) (hi : ∃ ie z, Try.prog.info? e = some ie ∧ ie.zero = some z ∧ ie.size = sz ∧ ie.bytes = bt ∧ z.cells.size = sz) (h0 : 0 < sz) (hb0 : bt ≤ 4096) (s x : Operand) (ho : o.op = .call { callee := .builtin .append, args := #[s, x], argTypes := #[t, t] }) (v : Value) (n : Nat) (l news : List Value) (hs : a.eval s = v) (hown : Lw w e sz v n l)
    (g2 : Nat) (hm : news.length = sz) (hx : a.eval x = .slice (some ⟨g2, 0, none⟩) 1 1) (hX : w.rangeAt g2 0 news) (h1 : ∀ v ∈ news, v.oneCell' = true) (hk : n ≤ 1000000)
    (h : ∀ v' w', Lw w' e sz v' (n + 1) (l ++ news) → w.grownBy w' v.ownBlock → (v'.ownBlock = v.ownBlock ∨ v'.ownBlock = some w.heap.size) → K (a.put o.dst v') w') : Oper.wp Try.prog o a w K Q := by
  obtain ⟨ie, z, i1, i2, i3, i5, i4⟩ := hi
  obtain ⟨v', w', hr, q2, q3, _, q5⟩ := run_append_own_at (P := Try.prog) w 0 t o.type e ie z sz bt hu i1 i2 i3 i5 i4 h0 v n l hown ⟨g2, 0, none⟩ 1 1 news (by rw [hm, Nat.one_mul]) (fun j u hj => by rw [Addr.add_mid]; exact hX j u hj) h1 (by unfold maxLen; omega) (by
    have : bt * (n + 1) ≤ 4096 * 1000001 := Nat.mul_le_mul hb0 (by omega)
    rw [Nat.mul_comm] at this
    omega) (Nat.zero_le _)
  unfold Oper.wp execOp
  simp only [ho, resolve, invoke, builtin, Sem.run_bind, Sem.run_pure, Result.andThen_ok, List.map_toArray, List.map_cons, List.map_nil, hs, hx, hr]
  exact h v' w' q2 q3 q5
end

end Go.Proofs.Ytabcglakdlkdcaa
