/-
  machine.program.labelled.
-/
import Derived.Test.YtclbiophgnkggaaGreatDoorMkK
import Derived.Test.YtclbiophgnkggaaGreatDoorMkGa
import Derived.Test.YtclbiophgnkggaaGreatDoorWText

namespace Go.Proofs.YtclbiophgnkggaaGreatDoor
open Go Go.RowKit
open Sha
open Wd
open Go.Lib (decDigits)

def mplc (ls : List Ins) (n k : Nat) : Nat := match ls[k]? with | some x => x.p | none => n
theorem mplc_some {ls : List Ins} {n k : Nat} {x : Ins} (h : ls[k]? = some x) : mplc ls n k = x.p := by unfold mplc; rw [h]
theorem mplc_cons (x : Ins) (ls : List Ins) (n k : Nat) : mplc (x :: ls) n (k + 1) = mplc ls n k := by unfold mplc; rw [List.getElem?_cons_succ]
theorem mpg_at {d : List (BitVec 8)} : ∀ (f p : Nat) (ls : List Ins), pg d f p = some ls → p ≤ d.length → mplc ls d.length 0 = p ∧ ∀ (k : Nat) (x : Ins), ls[k]? = some x → x.p < d.length ∧ ∃ s, ri (d.drop x.p) = some (x.c, x.a, x.n, s) ∧ mplc ls d.length (k + 1) = x.p + s := by
  intro f
  induction f with
  | zero => intro p ls h; cases h
  | succ f ih =>
    intro p ls h hp
    by_cases hlt : p < d.length
    · cases hri : ri (d.drop p) with
      | none => rw [pg_none hlt hri] at h; cases h
      | some y =>
        obtain ⟨c, a, n, s⟩ := y
        rw [pg_some hlt hri] at h
        cases hq : pg d f (p + s) with
        | none => rw [hq] at h; cases h
        | some l2 =>
          rw [hq] at h
          simp only [Option.map_some, Option.some.injEq] at h
          subst h
          have hs := (ri_size hri).2.2.2
          rw [List.length_drop] at hs
          obtain ⟨i1, i2⟩ := ih (p + s) l2 hq (by omega)
          refine ⟨rfl, fun k x hx => ?_⟩
          cases k with
          | zero =>
            rw [List.getElem?_cons_zero] at hx
            obtain rfl := Option.some.inj hx
            exact ⟨hlt, s, hri, by rw [mplc_cons]; exact i1⟩
          | succ k =>
            rw [List.getElem?_cons_succ] at hx
            obtain ⟨j1, s2, j2, j3⟩ := i2 k x hx
            exact ⟨j1, s2, j2, by rw [mplc_cons]; exact j3⟩
    · rw [pg_end (by omega)] at h
      obtain rfl := Option.some.inj h
      refine ⟨?_, fun k x hx => by simp at hx⟩
      show d.length = p
      omega
/-- Where a jump leads: the instruction that lies there. -/
theorem mri_head {b : List (BitVec 8)} {c a n s : Nat} (h : ri b = some (c, a, n, s)) : ∃ x r, b = x :: r ∧ x.toNat = c ∧ ow (oper c) r ≤ r.length ∧ ro (oper c) (r.take (ow (oper c) r)) = some (a, n) := by
  cases b with
  | nil => cases h
  | cons x r =>
    unfold ri at h
    simp only at h
    split at h
    · cases h
    · split at h
      · cases h
      · split at h
        · cases h
        · rename_i h1 h2 _ _ _ h3
          simp only [Option.some.injEq, Prod.mk.injEq] at h
          obtain ⟨rfl, rfl, rfl, rfl⟩ := h
          exact ⟨x, r, rfl, rfl, by omega, h3⟩
theorem mchk_pg {d : List (BitVec 8)} {ls : List Ins} (h : chk d = some ls) : pg d (d.length + 1) 0 = some ls ∧ 0 < d.length ∧ d.length ≤ 1024 := by
  unfold chk at h
  split at h
  · cases h
  rename_i h1
  cases hp : pg d (d.length + 1) 0 with
  | none => rw [hp] at h; cases h
  | some l =>
    rw [hp] at h
    simp only at h
    split at h
    · obtain rfl := Option.some.inj h
      exact ⟨rfl, by omega, by omega⟩
    · cases h
theorem mins_at {d : List (BitVec 8)} {ls : List Ins} {m nx : Nat} {x : Ins} (hd : d.length = m) (h : chk d = some ls) (hx : ls[nx]? = some x) :
    m ≤ 1024 ∧ x.p < m ∧ x.c < 28 ∧ mplc ls m nx = x.p ∧ ∃ b r, d.drop x.p = b :: r ∧ b.toNat = x.c ∧ ow (oper x.c) r ≤ r.length ∧ ro (oper x.c) (r.take (ow (oper x.c) r)) = some (x.a, x.n) ∧ mplc ls m (nx + 1) = x.p + (1 + ow (oper x.c) r) := by
  obtain ⟨h1, h2, h3⟩ := mchk_pg h
  obtain ⟨_, h4⟩ := mpg_at _ _ _ h1 (Nat.zero_le _)
  rw [hd] at h4 h3
  obtain ⟨h5, s, h6, h7⟩ := h4 nx x hx
  obtain ⟨b, r, e1, e2, e3, e4⟩ := mri_head h6
  have hc := (ri_size h6).1
  have hss : s = 1 + ow (oper x.c) r := by
    rw [e1] at h6
    unfold ri at h6
    simp only at h6
    rw [e2] at h6
    split at h6
    · cases h6
    · split at h6
      · cases h6
      · split at h6
        · cases h6
        · simp only [Option.some.injEq, Prod.mk.injEq] at h6
          exact h6.2.2.2.symm
  exact ⟨h3, h5, hc, mplc_some hx, b, r, e1, e2, e3, e4, by rw [h7, hss]⟩
theorem mget_drop {d : List (BitVec 8)} {p : Nat} {b : BitVec 8} {r : List (BitVec 8)} (h : d.drop p = b :: r) (i : Nat) : d.getD (p + i) 0#8 = (b :: r).getD i 0#8 := by
  rw [← h, List.getD_eq_getElem?_getD, List.getD_eq_getElem?_getD, List.getElem?_drop]
/-- One byte behind it. -/
theorem mins_two {c a n : Nat} {r : List (BitVec 8)} (hc : c = 4 ∨ c = 5 ∨ c = 16) (h1 : ow (oper c) r ≤ r.length) (h2 : ro (oper c) (r.take (ow (oper c) r)) = some (a, n)) : ow (oper c) r = 1 ∧ (r.getD 0 0#8).toNat = n := by
  have ho : oper c ≠ 0 ∧ oper c ≠ 5 ∧ oper c ≠ 1 := by rcases hc with rfl | rfl | rfl <;> decide
  have hw : ow (oper c) r = 1 := by unfold ow; rw [if_neg ho.1, if_neg ho.2.1, if_neg ho.2.2]
  refine ⟨hw, ?_⟩
  rw [hw] at h1 h2
  obtain ⟨y, r', rfl⟩ : ∃ y r', r = y :: r' := by
    cases r with
    | nil => simp at h1
    | cons y r' => exact ⟨y, r', rfl⟩
  unfold ro at h2
  rw [if_neg ho.1] at h2
  split at h2
  · cases h2
  · rw [if_neg ho.2.2, if_neg ho.2.1] at h2
    simp only [Option.some.injEq, Prod.mk.injEq] at h2
    exact h2.2
theorem mins_jump {c a n : Nat} {r : List (BitVec 8)} (hc : c = 14 ∨ c = 15) (h1 : ow (oper c) r ≤ r.length) (h2 : ro (oper c) (r.take (ow (oper c) r)) = some (a, n)) : ow (oper c) r = 2 ∧ (r.getD 0 0#8).toNat * 256 + (r.getD 1 0#8).toNat = n := by
  have ho : oper c = 5 := by rcases hc with rfl | rfl <;> rfl
  rw [ho] at h1 h2 ⊢
  have hw : ow 5 r = 2 := rfl
  refine ⟨hw, ?_⟩
  rw [hw] at h1 h2
  obtain ⟨y, r', rfl⟩ : ∃ y r', r = y :: r' := by
    cases r with
    | nil => simp at h1
    | cons y r' => exact ⟨y, r', rfl⟩
  obtain ⟨z, r2, rfl⟩ : ∃ y r2, r' = y :: r2 := by
    cases r' with
    | nil => simp at h1
    | cons y r' => exact ⟨y, r', rfl⟩
  unfold ro at h2
  rw [if_neg (by decide)] at h2
  split at h2
  · cases h2
  · rw [if_neg (by decide), if_pos rfl] at h2
    simp only [Option.some.injEq, Prod.mk.injEq] at h2
    exact h2.2
theorem mins_push {a n : Nat} {r : List (BitVec 8)} (h1 : ow (oper 2) r ≤ r.length) (h2 : ro (oper 2) (r.take (ow (oper 2) r)) = some (a, n)) : ∃ y r', r = y :: r' ∧ 1 ≤ y.toNat ∧ y.toNat ≤ 32 ∧ y.toNat ≤ r'.length ∧ ow (oper 2) r = 1 + y.toNat ∧ a = nb (r'.take y.toNat) ∧ n = 0 := by
  have ho : oper 2 = 1 := rfl
  rw [ho] at h1 h2 ⊢
  obtain ⟨y, r', rfl⟩ : ∃ y r', r = y :: r' := by
    cases r with
    | nil => exact absurd h1 (by decide)
    | cons y r' => exact ⟨y, r', rfl⟩
  have hw : ow 1 (y :: r') = 1 + y.toNat := rfl
  rw [hw] at h1 h2
  rw [List.length_cons] at h1
  unfold ro at h2
  rw [if_neg (by decide)] at h2
  split at h2
  · cases h2
  · rename_i hb
    rw [if_pos rfl] at h2
    rw [show ((y :: r').take (1 + y.toNat)) = y :: r'.take y.toNat by rw [Nat.add_comm, List.take_succ_cons]] at h2 hb
    simp only [List.drop_succ_cons, List.drop_zero, Option.some.injEq, Prod.mk.injEq] at h2
    have hlo : lo 1 = 1 := rfl
    have hhi : Go.Proofs.YtclbiophgnkggaaGreatDoor.hi 1 = 32 := rfl
    rw [hlo, hhi] at hb
    simp only [List.getD_cons_zero] at hb
    exact ⟨y, r', rfl, by omega, by omega, by omega, hw, h2.1.symm, h2.2.symm⟩
theorem mnb_ht (b : List (BitVec 8)) (hb : b.length ≤ 32) (t : Nat) (h : t < b.length) : ht (nb b) (b.length - 1 - t) = (b.getD t 0#8).toNat := by
  unfold nb
  rw [ht_by8, rdn_by8 zb_lt _ (by omega)]
  unfold zb
  have e1 : 31 - (b.length - 1 - t) = (32 - b.length) + t := by omega
  rw [e1, List.getD_eq_getElem?_getD, List.getElem?_append_right (by rw [List.length_replicate]; omega), List.length_replicate, Nat.add_sub_cancel_left, List.getElem?_map, List.getD_eq_getElem?_getD]
  cases hq : b[t]? with
  | none =>
    have := List.getElem?_eq_none_iff.1 hq
    omega
  | some v => rfl
theorem mnb_bound (b : List (BitVec 8)) (hb : b.length ≤ 32) : nb b < 256 ^ b.length := by
  have h := nb_lt b
  rw [← p32] at h
  -- the digits ahead are noughts
  have key : ∀ k, k ≤ 32 - b.length → nb b < 256 ^ (32 - k) := by
    intro k
    induction k with
    | zero => intro _; exact h
    | succ k ih =>
      intro hk
      have h1 := ih (by omega)
      obtain ⟨m, hm⟩ : ∃ m, m = 31 - k := ⟨_, rfl⟩
      rw [show 32 - k = m + 1 by omega] at h1
      rw [show 32 - (k + 1) = m by omega]
      have h2 := ht_top _ _ h1
      have h3 : ht (nb b) m = 0 := by
        unfold nb
        rw [ht_by8, rdn_by8 zb_lt _ (by omega)]
        unfold zb
        rw [List.getD_eq_getElem?_getD, List.getElem?_append_left (by rw [List.length_replicate]; omega), List.getElem?_replicate, if_pos (by omega)]
        rfl
      rw [h3] at h2
      exact (Nat.div_eq_zero_iff_lt (p256 m)).1 h2.symm
  have := key (32 - b.length) (Nat.le_refl _)
  rwa [show 32 - (32 - b.length) = b.length by omega] at this
/-- The names. -/
def nmL (c : Nat) : List UInt8 := match c with
  | 0 => [115, 116, 111, 112]
  | 1 => [100, 111, 110, 101]
  | 2 => [112, 117, 115, 104]
  | 3 => [112, 111, 112]
  | 4 => [100, 117, 112]
  | 5 => [115, 119, 97, 112]
  | 6 => [97, 100, 100]
  | 7 => [115, 117, 98]
  | 8 => [109, 117, 108]
  | 9 => [100, 105, 118]
  | 10 => [109, 111, 100]
  | 11 => [108, 101, 115, 115]
  | 12 => [115, 97, 109, 101]
  | 13 => [110, 111, 116]
  | 14 => [106, 117, 109, 112]
  | 15 => [119, 104, 101, 110]
  | 16 => [97, 114, 103]
  | 17 => [97, 114, 103, 115]
  | 18 => [99, 97, 108, 108, 101, 114]
  | 19 => [115, 101, 108, 102]
  | 20 => [116, 111, 107, 101, 110]
  | 21 => [97, 109, 111, 117, 110, 116]
  | 22 => [116, 105, 109, 101]
  | 23 => [103, 97, 115]
  | 24 => [108, 111, 97, 100]
  | 25 => [115, 97, 118, 101]
  | 26 => [104, 97, 118, 101]
  | 27 => [115, 101, 110, 100]
  | _ => []
theorem nmL_len (c : Nat) (h : c < 28) : (nmL c).length ≤ 6 := by
  match c, h with
  | 0, _ => decide
  | 1, _ => decide
  | 2, _ => decide
  | 3, _ => decide
  | 4, _ => decide
  | 5, _ => decide
  | 6, _ => decide
  | 7, _ => decide
  | 8, _ => decide
  | 9, _ => decide
  | 10, _ => decide
  | 11, _ => decide
  | 12, _ => decide
  | 13, _ => decide
  | 14, _ => decide
  | 15, _ => decide
  | 16, _ => decide
  | 17, _ => decide
  | 18, _ => decide
  | 19, _ => decide
  | 20, _ => decide
  | 21, _ => decide
  | 22, _ => decide
  | 23, _ => decide
  | 24, _ => decide
  | 25, _ => decide
  | 26, _ => decide
  | 27, _ => decide
  | k + 28, h => exact absurd h (by omega)
theorem mtab_name (c : Nat) (h : c < 28) : mtab[c * 6]? = some (.string ⟨(nmL c).toArray⟩) := by
  match c, h with
  | 0, _ => exact rfl
  | 1, _ => exact rfl
  | 2, _ => exact rfl
  | 3, _ => exact rfl
  | 4, _ => exact rfl
  | 5, _ => exact rfl
  | 6, _ => exact rfl
  | 7, _ => exact rfl
  | 8, _ => exact rfl
  | 9, _ => exact rfl
  | 10, _ => exact rfl
  | 11, _ => exact rfl
  | 12, _ => exact rfl
  | 13, _ => exact rfl
  | 14, _ => exact rfl
  | 15, _ => exact rfl
  | 16, _ => exact rfl
  | 17, _ => exact rfl
  | 18, _ => exact rfl
  | 19, _ => exact rfl
  | 20, _ => exact rfl
  | 21, _ => exact rfl
  | 22, _ => exact rfl
  | 23, _ => exact rfl
  | 24, _ => exact rfl
  | 25, _ => exact rfl
  | 26, _ => exact rfl
  | 27, _ => exact rfl
  | k + 28, h => exact absurd h (by omega)
theorem pg_len {d : List (BitVec 8)} : ∀ (f p : Nat) (ls : List Ins), pg d f p = some ls → p ≤ d.length → ls.length ≤ d.length - p := by
  intro f
  induction f with
  | zero => intro p ls h; cases h
  | succ f ih =>
    intro p ls h hp
    by_cases hlt : p < d.length
    · cases hri : ri (d.drop p) with
      | none => rw [pg_none hlt hri] at h; cases h
      | some y =>
        obtain ⟨c, a, n, s⟩ := y
        rw [pg_some hlt hri] at h
        cases hq : pg d f (p + s) with
        | none => rw [hq] at h; cases h
        | some l2 =>
          rw [hq] at h
          simp only [Option.map_some, Option.some.injEq] at h
          subst h
          have hs := ri_size hri
          rw [List.length_drop] at hs
          have := ih (p + s) l2 hq (by omega)
          rw [List.length_cons]; omega
    · rw [pg_end (by omega)] at h
      obtain rfl := Option.some.inj h
      simp
theorem chk_len {d : List (BitVec 8)} {ls : List Ins} (h : chk d = some ls) : ls.length ≤ 1024 := by
  obtain ⟨h1, h2, h3⟩ := mchk_pg h
  have := pg_len _ _ _ h1 (Nat.zero_le _)
  omega
theorem moper5 (c : Nat) (h : c < 28) : (oper c == 5) = (c == 14 || c == 15) := by
  revert c
  decide
/-- A label, an operand, a line, all lines. -/
def labT (p : Nat) : List UInt8 := 76 :: decDigits p
def opT (c a n : Nat) : List UInt8 := if oper c = 0 then [] else if oper c = 1 then 32 :: decDigits a else if oper c = 5 then 32 :: 76 :: decDigits n else 32 :: decDigits n
def goT (ls : List Ins) (p : Nat) : Bool := ls.any fun y => oper y.c == 5 && y.n == p
def lnT (ls : List Ins) (x : Ins) : List UInt8 := (if goT ls x.p = true then labT x.p ++ [58, 10] else []) ++ (nmL x.c ++ opT x.c x.a x.n ++ [10])
def txT (ls : List Ins) (k : Nat) : List UInt8 := (ls.take k).flatMap (lnT ls)
theorem txT_zero (ls : List Ins) : txT ls 0 = [] := rfl
theorem txT_succ {ls : List Ins} {k : Nat} {x : Ins} (h : ls[k]? = some x) : txT ls (k + 1) = txT ls k ++ lnT ls x := by
  unfold txT
  rw [List.take_add_one, h, List.flatMap_append]
  simp
theorem dec_len (a : Nat) (h : a < 2 ^ 256) : (decDigits a).length ≤ 78 := by
  have key : ∀ n a : Nat, a < 10 ^ n → 0 < n → (decDigits a).length ≤ n := by
    intro n
    induction n with
    | zero => intro a _ h0; omega
    | succ n ih =>
      intro a ha _
      by_cases h10 : a < 10
      · rw [Lib.decDigits_one h10]; simp
      · rw [decDigits_big h10, List.length_append]
        have hn : 0 < n := by
          rcases Nat.eq_zero_or_pos n with q | q
          · subst q; simp at ha; omega
          · exact q
        have h1 : a / 10 < 10 ^ n := by
          rw [Nat.div_lt_iff_lt_mul (by decide)]
          rw [Nat.pow_succ] at ha
          exact ha
        have := ih (a / 10) h1 hn
        simp only [List.length_singleton]
        omega
  exact key 78 a (Nat.lt_of_lt_of_le h (by decide +kernel)) (by decide)
theorem opT_len (c a n : Nat) (ha : a < 2 ^ 256) (hn : n < 65536) : (opT c a n).length ≤ 80 := by
  have h1 := dec_len a ha
  have h2 := dec_len n (Nat.lt_trans hn (by decide))
  unfold opT
  split
  · simp
  · split
    · rw [List.length_cons]; omega
    · split
      · rw [List.length_cons, List.length_cons]; omega
      · rw [List.length_cons]; omega
theorem lnT_len (ls : List Ins) (x : Ins) (hp : x.p < 65536) (hc : x.c < 28) (hn : x.n < 65536) (ha : x.a < 2 ^ 256) : (lnT ls x).length ≤ 180 := by
  have h1 := opT_len x.c x.a x.n ha hn
  have h2 := nmL_len x.c hc
  have h3 := dec_len x.p (Nat.lt_trans hp (by decide))
  unfold lnT labT
  split
  · simp only [List.length_append, List.length_cons, List.length_nil]; omega
  · simp only [List.length_append, List.length_cons, List.length_nil]; omega
theorem txT_len (ls : List Ins) (n : Nat) (hg : Gd ls n) (hn : n ≤ 1024) : ∀ k, (txT ls k).length ≤ k * 180 := by
  intro k
  induction k with
  | zero => simp [txT_zero]
  | succ k ih =>
    cases hx : ls[k]? with
    | none =>
      have : ls.length ≤ k := List.getElem?_eq_none_iff.1 hx
      have e : txT ls (k + 1) = txT ls k := by
        unfold txT
        rw [List.take_of_length_le (by omega), List.take_of_length_le (by omega)]
      rw [e]; omega
    | some x =>
      have hm := hg x (List.mem_of_getElem? hx)
      have := lnT_len ls x (by omega) hm.2.1 hm.2.2.1 hm.2.2.2
      rw [txT_succ hx, List.length_append]; omega

section
variable {P : Program} {ops : Array Oper} {rest : List Oper} {op : Oper} {a : Act} {w : World} {Q : Exit → Act → World → Prop}
/-- Two texts, one behind the other. -/
theorem wpList_cat (hgd : op.guard = none) (t r : TypeId) (x y : Operand) (ho : op.op = .binOp .add t x y r) (l m : List UInt8) (hx : a.eval x = .string ⟨l.toArray⟩) (hy : a.eval y = .string ⟨m.toArray⟩) (hl : l.length ≤ 8388608) (hm : m.length ≤ 8388608)
    (h : wpList P ops Q rest (a.put op.dst (.string ⟨(l ++ m).toArray⟩)) w) : wpList P ops Q (op :: rest) a w :=
  wpList_plain hgd fun _ hK => by
    unfold Oper.wp execOp
    have hr := run_string_add_lists (P := P) w l m (by omega) (by omega)
    simp only [ho, hx, hy]
    have hs : ¬ (9223372036854775807 < l.length + m.length) := by omega
    go_simp
    exact hK _ _ h
end

end Go.Proofs.YtclbiophgnkggaaGreatDoor

namespace Go.Proofs.YtclbiophgnkggaaGreatDoor
open Go Go.RowKit
open Sha
open Wd
open Go.Lib (decDigits)

def labF (ls : List Ins) (t n : Nat) : List Value := (List.range n).map fun i => Value.bool (goT (ls.take t) i)
theorem labF_len (ls : List Ins) (t n : Nat) : (labF ls t n).length = n := by unfold labF; simp
theorem labF_zero (ls : List Ins) (n : Nat) : labF ls 0 n = (List.replicate n (Value.bool false)) := by
  unfold labF
  apply List.ext_getElem
  · simp
  · intro i h1 h2; simp [goT]
theorem goT_succ {ls : List Ins} {t : Nat} {x : Ins} (hx : ls[t]? = some x) (i : Nat) : goT (ls.take (t + 1)) i = (goT (ls.take t) i || (oper x.c == 5 && x.n == i)) := by
  unfold goT
  rw [List.take_add_one, hx, List.any_append]
  simp
theorem labF_set {ls : List Ins} {t n : Nat} {x : Ins} (hx : ls[t]? = some x) (h5 : oper x.c = 5) : (labF ls t n).set x.n (.bool true) = labF ls (t + 1) n := by
  unfold labF
  apply List.ext_getElem
  · simp
  · intro i h1 h2
    rw [List.getElem_set]
    simp only [List.getElem_map, List.getElem_range]
    rw [goT_succ hx, h5]
    by_cases h : x.n = i
    · rw [if_pos h, h]; simp
    · rw [if_neg h]
      have : (x.n == i) = false := by simpa using h
      rw [this]; simp
theorem labF_same {ls : List Ins} {t n : Nat} {x : Ins} (hx : ls[t]? = some x) (h5 : oper x.c ≠ 5) : labF ls (t + 1) n = labF ls t n := by
  unfold labF
  refine List.map_congr_left (fun i _ => ?_)
  rw [goT_succ hx, show (oper x.c == 5) = false by simpa using h5]
  simp
theorem labF_get (ls : List Ins) (n i : Nat) (h : i < n) : (labF ls ls.length n)[i]? = some (.bool (goT ls i)) := by
  unfold labF
  rw [List.take_length, List.getElem?_map, List.getElem?_range h]
  rfl
theorem info_bool1 : (Tryz.prog.info? 4).map (·.size) = some 1 := by kernel_rfl
theorem info_all_boolM : (Tryz.prog.info? 4).map (fun i => (i.zero, i.size, i.bytes)) = some (some (.bool false), 1, 1) := by kernel_rfl
theorem made_bools (n : Nat) : madeCells (Value.bool false).cells (n * 1) = ((List.replicate n (Value.bool false))).toArray := by
  apply Array.ext'
  rw [show (Value.bool false).cells = #[Value.bool false] from rfl, toList_madeCells_one]
  simp
section
variable {ops : Array Oper} {rest : List Oper} {op : Oper} {a : Act} {w : World} {Q : Exit → Act → World → Prop}
theorem wpList_makeT (hgd : op.guard = none) (x y : Operand) (ho : op.op = .makeSlice 47 x y) (n : Nat) (hx : a.eval x = .int .i64 (n : Int)) (hy : a.eval y = .int .i64 (n : Int)) (hn : n ≤ 35184372088832)
    (h : ∀ X, Row X w.heap.size (List.replicate n (Value.bool false)) 4 → Below w.heap.size w X → X.heap.size = w.heap.size + 1 → wpList Tryz.prog ops Q rest (a.put op.dst (.slice (some ⟨w.heap.size, 0, none⟩) n n)) X) : wpList Tryz.prog ops Q (op :: rest) a w :=
  wpList_plain hgd fun _ hK => by
    obtain ⟨i, hi0, hz, hs, hb⟩ := info_parts info_all_boolM
    have hr := run_make (P := Tryz.prog) w 47 4 i (.bool false) Tryz.underlying47 hi0 hz .i64 .i64 (n : Int) (n : Int) (by omega) (by omega) (by rw [hb]; omega) (by omega)
    rw [hs, Int.toNat_natCast, made_bools] at hr
    unfold Oper.wp execOp
    simp only [ho, hx, hy, Sem.run_bind, hr, Result.andThen_ok, Sem.run_pure, Oper.upon_value]
    exact hK _ _ (h _ (Row.new' rfl rfl) ((Below.refl _ _).alloc (Nat.le_refl _) _) (by simp))
end
set_option maxRecDepth 100000 in
set_option maxHeartbeats 4000000 in
theorem labelled_any (T gs n : Nat) (ls : List Ins) (v : Value) (hn : n ≤ 1024) (hls : ∀ y ∈ ls, y.c < 28 ∧ (oper y.c = 5 → y.n < n)) (hlen : ls.length ≤ 1024) (w : World) (hT : Row w T mtab 84) (hv : Lw w 53 7 v ls.length (fl ls)) : Calls Tryz.prog 17 #[.agg #[v, .slice (some ⟨gs, 0, none⟩) n n], .slice (some ⟨T, 0, none⟩) 28 28] w fun e w' => ∃ b, e = .returned (.slice (some ⟨b, 0, none⟩) n n) ∧ w.heap.size ≤ b ∧ Row w' b (labF ls ls.length n) 4 ∧ Below w.heap.size w w' := by
  obtain ⟨A, cap, rfl, hcap, hA⟩ := Lw.form hv
  have HV : Hid (Lw w 53 7 (.slice A ls.length cap) ls.length (fl ls)) := hv
  have HT : Hid (Row w T mtab 84) := hT
  have HLS : Hid (∀ y ∈ ls, y.c < 28 ∧ (oper y.c = 5 → y.n < n)) := hls
  clear hv hT hls hcap hA
  go_enter Tryz.func17, Tryz.ntmps17
  go_upto_region 3 with (first
    | (refine wpList_boxG 44 rfl (.tmp 0) rfl [.slice A ls.length cap, .slice (some ⟨gs, 0, none⟩) n n] rfl ?_; intro X q1 q2 q3; have R1 : Hid (Row X w.heap.size [.slice A ls.length cap, .slice (some ⟨gs, 0, none⟩) n n] 44) := q1; have B1 : Hid (Below w.heap.size w X) := q2; have c0 := q1.cell 0 _ rfl; have c1 := q1.cell 1 _ rfl; have S1 : Hid (X.heap.size = w.heap.size + 1) := q3; clear q1 q2 q3; simp only [Act.put, List.setIfInBounds_toArray, List.set_cons_zero, List.set_cons_succ])
    | (refine wpList_makeT rfl (.tmp 10) (.tmp 10) rfl n rfl rfl (by omega) ?_; intro X2 q1 q2 q3; have R2 : Hid (Row X2 X.heap.size (List.replicate n (Value.bool false)) 4) := q1; have B2 : Hid (Below X.heap.size X X2) := q2; have c0 := (Row.below R1.out q2 R1.out.lt).cell 0 _ rfl; clear q1 q2 q3; simp only [Act.put, List.setIfInBounds_toArray, List.set_cons_zero, List.set_cons_succ]))
  obtain ⟨q0, hq0⟩ : ∃ q0, q0 = X.heap.size := ⟨_, rfl⟩
  have HQ0 : Hid (w.heap.size < q0) := by show _ < _; rw [hq0, S1.out]; omega
  have RP : Hid (Row X2 q0 (labF ls 0 n) 4) := by show Row _ _ _ _; rw [labF_zero, hq0]; exact R2.out
  have BP : Hid (Below w.heap.size w X2) := B1.out.trans (B2.out.mono B1.out.size)
  rw [← hq0] at R2 B2 ⊢
  clear hq0 R2 B2 B1 S1 R1 c0 c1
  go_loopw [15] (fun v wr => ∃ t : Nat, t ≤ ls.length ∧ v = .int .i64 (t : Int) ∧ Hid (Below w.heap.size w wr) ∧ Hid (Row wr q0 (labF ls t n) 4)) (fun v _ => ls.length - (intOf v).toNat)
  case atStart => exact ⟨0, Nat.zero_le _, rfl, BP, RP⟩
  case round =>
    obtain ⟨t, ht, rfl, HB, HBX⟩ := hrel
    clear BP RP
    by_cases hlt : t < ls.length
    · obtain ⟨x, hx⟩ : ∃ x, ls[t]? = some x := ⟨_, List.getElem?_eq_getElem hlt⟩
      have hxm := HLS.out x (List.mem_of_getElem? hx)
      have hxc : x.c < 28 := hxm.1
      have HX : Hid (ls[t]? = some x) := hx
      obtain ⟨g, cap', e, hcc⟩ := Lw.open HV.out (by omega)
      simp only [Value.slice.injEq] at e
      obtain ⟨rfl, _, rfl⟩ := e
      obtain ⟨L, hL⟩ : ∃ L, L = ic x.c x.p x.a x.n := ⟨_, rfl⟩
      have HL : Hid (L = ic x.c x.p x.a x.n) := hL
      have RG : Hid (wr.rangeAt g (t * 7) L) := by rw [hL]; exact range_be (fl_at (Lw.range HV.out) t x hx) HB.out
      have HI : Hid ((Tryz.prog.info? 53).map (·.size) = some L.length) := by show _ = _; rw [hL]; exact info_Ic _ _ _ _
      have HN7 : Hid (L.length = zI.length) := by show _ = _; rw [hL]; exact ic_len _ _ _ _
      have HO : Hid (L.toArray.all (·.oneCell') = true) := by show _ = _; rw [hL]; exact ic_one _ _ _ _
      have HX5 : Hid (oper x.c = 5 → x.n < n) := hxm.2
      clear hL hx hxm hcc
      go_upto_region 5 with (first
        | (refine wpList_load_w rfl 53 (.tmp 17) rfl g (t * 7) rfl L _ RG.out Tryz.underlying53 rfl HI.out ?_; simp only [Act.put, List.setIfInBounds_toArray, List.set_cons_zero, List.set_cons_succ])
        | (refine wpList_allocI rfl rfl ?_; intro X2 q1 q2 q3; have R2 : Hid (Row X2 wr.heap.size zI 53) := q1; have B2 : Hid (Below wr.heap.size wr X2) := q2; clear q1 q2 q3; simp only [Act.put, List.setIfInBounds_toArray, List.set_cons_zero, List.set_cons_succ])
        | (refine wpList_storeL rfl 53 (.tmp 7) (.tmp 18) rfl wr.heap.size L zI 53 rfl rfl R2.out HN7.out HI.out HO.out ?_; intro X3 q1 q2; have E3 : Hid (X3 = _) := q1; have R3 : Hid (Row X3 wr.heap.size L 53) := q2; clear q1 q2; simp only [Act.put]))
      have BB3 : Below w.heap.size w X3 := by rw [E3.out]; exact below_setCells (HB.out.trans (B2.out.mono HB.out.size)) HB.out.size _
      have BX : Hid (Below w.heap.size w X3) := BB3
      have RB3 : Hid (Row X3 q0 (labF ls t n) 4) := by rw [E3.out]; exact Row.setCells_other (Row.below HBX.out B2.out HBX.out.lt) _ _ _ (Nat.ne_of_lt HBX.out.lt)
      have R3' : Row X3 wr.heap.size (ic x.c x.p x.a x.n) 53 := by rw [← HL.out]; exact R3.out
      have c0 := R3'.cell 0 _ (ic_0 _ _ _ _)
      have c6 := R3'.cell 6 _ (ic_6 _ _ _ _)
      have ct := (Row.below HT.out BB3 HT.out.lt).cell (x.c * 6 + 1) _ (mtab_oper x.c hxc)
      have hx28 : x.c < 28 := hxc
      obtain ⟨k, hk⟩ : ∃ k, k = oper x.c := ⟨_, rfl⟩
      rw [← hk] at ct
      obtain ⟨xc, hxc'⟩ : ∃ xc, xc = x.c := ⟨_, rfl⟩
      obtain ⟨xn, hxn'⟩ : ∃ xn, xn = x.n := ⟨_, rfl⟩
      rw [← hxc'] at c0 ct hx28
      rw [← hxn'] at c6
      have HK : Hid (k = oper x.c) := hk
      have HXN : Hid (xn = x.n) := hxn'
      clear hk hxc' hxn' R3' BB3 R3 E3 R2 B2 hxc
      by_cases k5 : k = 5
      · have hxnn : xn < n := by rw [HXN.out]; exact HX5.out (by rw [← HK.out]; exact k5)
        have HD : Hid ((labF ls t n).set xn (.bool true) = labF ls (t + 1) n) := by show _ = _; rw [HXN.out]; exact labF_set HX.out (by rw [← HK.out]; exact k5)
        subst k5
        go_wp2_with (first
          | (refine wpList_set1 rfl 4 (.tmp 29) (.const (.bool true)) rfl q0 xn (.bool true) (labF ls t n) 4 rfl rfl rfl RB3.out (by rw [labF_len]; exact hxnn) info_bool1 rfl ?_; intro X4 q1 q2 q3; have R4 : Hid (Row X4 q0 (labF ls (t + 1) n) 4) := (by have := q1; rw [HD.out] at this; exact this); have B4 : Hid (Below w.heap.size w X4) := BX.out.trans (q2.to_below BX.out.size (fun g e => by rw [e]; exact Nat.le_of_lt HQ0.out)); clear q1 q2 q3; simp only [Act.put]))
        refine ⟨⟨t + 1, hlt, by go_num, B4, R4⟩, by simp [intOf]; omega⟩
      · have HD : Hid (labF ls (t + 1) n = labF ls t n) := labF_same HX.out (by rw [← HK.out]; exact k5)
        have RB4 : Hid (Row X3 q0 (labF ls (t + 1) n) 4) := by show Row _ _ _ _; rw [HD.out]; exact RB3.out
        go_wp2
        refine ⟨⟨t + 1, hlt, by go_num, BX, RB4⟩, by simp [intOf]; omega⟩
    · have et : t = ls.length := by omega
      have HD : Hid (Row wr q0 (labF ls ls.length n) 4) := by rw [← et]; exact HBX.out
      have e4 : (t : Int) = (ls.length : Int) := by omega
      rw [e4]
      clear e4 et ht hlt HBX
      go_wp2
      go_ret
      exact ⟨q0, rfl, Nat.le_of_lt HQ0.out, HD.out, HB.out⟩

end Go.Proofs.YtclbiophgnkggaaGreatDoor
