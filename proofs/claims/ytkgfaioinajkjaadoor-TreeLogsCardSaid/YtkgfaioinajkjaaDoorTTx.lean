/-
  Plain mathematics: the texts that are digested for a path, and two that clash.
-/
import Derived.Test.YtkgfaioinajkjaaDoorTRSum
import Derived.Test.YtkgfaioinajkjaaDoorTPath

namespace Go.Proofs.YtkgfaioinajkjaaDoor
open Go Go.RowKit
open Sha

theorem pow_one_way (a b : Nat) (h1 : 2 ^ a < 2 * 2 ^ b) (h2 : 2 ^ b < 2 * 2 ^ a) : a = b := by
  have e1 : 2 * 2 ^ b = 2 ^ (b + 1) := by rw [Nat.pow_succ]; omega
  have e2 : 2 * 2 ^ a = 2 ^ (a + 1) := by rw [Nat.pow_succ]; omega
  rw [e1] at h1
  rw [e2] at h2
  have := (Nat.pow_lt_pow_iff_right (by decide : 1 < 2)).1 h1
  have := (Nat.pow_lt_pow_iff_right (by decide : 1 < 2)).1 h2
  omega
theorem fpart_is (n j : Nat) (h2 : 2 ≤ n) (hn : n < 4611686018427387904) (ha : 2 ^ j < n) (hb : n ≤ 2 * 2 ^ j) : fpart n = 2 ^ j := by
  obtain ⟨h, h', _, _⟩ := fpart_bounds n h2 hn
  have e : fpart n = 2 ^ (Lib.bitLen (n - 1) - 1) := rfl
  rw [e] at h h' ⊢
  rw [pow_one_way (Lib.bitLen (n - 1) - 1) j (by omega) (by omega)]

/-- Does the other one stand on the right, from the leaf up. -/
def sd (n i : Nat) : List Bool :=
  if _h : 2 ≤ n ∧ n < 4611686018427387904 then
    if i < fpart n then sd (fpart n) i ++ [true] else sd (n - fpart n) (i - fpart n) ++ [false]
  else []
termination_by n
decreasing_by
  · exact (fpart_bounds n (by omega) (by omega)).1
  · have := fpart_pos n; omega
theorem sd_one (i : Nat) : sd 1 i = [] := by rw [sd, dif_neg (by omega)]
theorem sd_left (n i : Nat) (h2 : 2 ≤ n) (hl : n < 4611686018427387904) (h : i < fpart n) : sd n i = sd (fpart n) i ++ [true] := by
  rw [sd, dif_pos ⟨h2, hl⟩, if_pos h]
theorem sd_right (n i : Nat) (h2 : 2 ≤ n) (hl : n < 4611686018427387904) (h : ¬ i < fpart n) : sd n i = sd (n - fpart n) (i - fpart n) ++ [false] := by
  rw [sd, dif_pos ⟨h2, hl⟩, if_neg h]
theorem sd_length (n : Nat) : ∀ i, 1 ≤ n → n < 4611686018427387904 → (sd n i).length = pl n i := by
  induction n using Nat.strongRecOn with
  | ind n ih =>
    intro i h1 hl
    by_cases e : n = 1
    · subst e; rw [sd_one, pl_one]; rfl
    · have hb := fpart_bounds n (by omega) hl
      have hp := fpart_pos n
      by_cases hk : i < fpart n
      · rw [sd_left n i (by omega) hl hk, pl_left n i (by omega) hl hk, List.length_append, ih (fpart n) hb.1 i (by omega) (by omega)]; rfl
      · rw [sd_right n i (by omega) hl hk, pl_right n i (by omega) hl hk, List.length_append, ih (n - fpart n) (by omega) (i - fpart n) (by omega) (by omega)]; rfl

def vT (l : List Bool) : List Value := l.map Value.bool
theorem info_all_bool : (Tryd.prog.info? 4).map (fun i => (i.zero, i.size, i.bytes)) = some (some (.bool false), 1, 1) := by kernel_rfl
theorem vT_one (l : List Bool) : ∀ v ∈ vT l, v.oneCell' = true := by
  intro v hv
  obtain ⟨b, _, rfl⟩ := List.mem_map.1 hv
  rfl
theorem own_of_below {B N e size n : Nat} {w w' : World} {v : Value} {xs : List Value} (h : w.ownsRow N e size v n xs) (k : Below B w w') (hB : w.heap.size ≤ B) : w'.ownsRow N e size v n xs := ownsRow_below h k hB

section
variable {ops : Array Oper} {rest : List Oper} {op : Oper} {a : Act} {Q : Exit → Act → World → Prop}
end

set_option maxRecDepth 100000 in
set_option maxHeartbeats 1000000 in
theorem leafText_any (d : List (BitVec 8)) (n : Nat) (hn : d.length = n) (hd : n + 1 ≤ 140737488355328) (A : Option Addr) (cap : Nat) (w : World) (hv : SlAt w (.slice A n cap) d) (hnil : A = none → cap = 0) :
    Calls Tryd.prog 43 #[.slice A n cap] w fun e w' => ∃ v, e = .returned v ∧ w'.ownsRow w.heap.size 5 1 v (1 + n) (vB ([0#8] ++ d)) ∧ Below w.heap.size w w' := by
  have hB : Below w.heap.size w (w.alloc (.cells #[.int .u8 0] 5)) := (Below.refl _ _).alloc (Nat.le_refl _) _
  have HV : Hid (SlAt (w.alloc (.cells #[.int .u8 0] 5)) (.slice A n cap) d) := hv.be hB
  have HO : Hid ((w.alloc (.cells #[.int .u8 0] 5)).ownsRow w.heap.size 5 1 (.slice (some ⟨w.heap.size, 0, none⟩) 1 1) 1 (vB [0#8])) := row_owns (Nat.le_refl _) rfl (by decide) (Row.new' rfl rfl)
  have HN : Hid (A = none → cap = 0) := hnil
  have HL : Hid (d.length = n) := hn
  have HD : Hid (1 + n ≤ 140737488355328) := by show _ ≤ _; omega
  clear hv hnil hn hd
  go_enter Tryd.func43, Tryd.ntmps43
  go_wp2_with (refine wpList_append_bytes rfl (.tmp 5) (.tmp 6) rfl _ w w.heap.size w.heap.size _ 1 n [0#8] d HO.out rfl A cap HL.out rfl HV.out HN.out HD.out (by simp) (Nat.le_refl _) hB ?_; intro v3 w3 hO3 hB3 hG3; clear hG3; simp only [Act.put, List.setIfInBounds_toArray, List.set_cons_zero, List.set_cons_succ])
  go_ret
  exact ⟨v3, rfl, hO3, hB3⟩

theorem slat_grown {w w' : World} {b o n cap : Nat} {d : List (BitVec 8)} {k : Option Nat} (h : SlAt w (.slice (some ⟨b, o, none⟩) n cap) d) (hg : w.grownBy w' k) (hne : k ≠ some b) : SlAt w' (.slice (some ⟨b, o, none⟩) n cap) d := by
  rcases h with ⟨h1, A, c, e⟩ | ⟨ab, ao, c, e, h2, h3⟩
  · exact .inl ⟨h1, A, c, e⟩
  · refine .inr ⟨ab, ao, c, e, h2, fun j v hv => ?_⟩
    simp only [Value.slice.injEq, Option.some.injEq, Addr.mk.injEq] at e
    obtain ⟨⟨rfl, rfl, _⟩, rfl, rfl⟩ := e
    have hc := h3 j v hv
    have hlt := World.block_lt_of_cell? w _ hc
    rw [← hc]
    unfold World.cell?
    rw [hg.block b hlt (fun x => hne x.symm)]

set_option maxRecDepth 100000 in
set_option maxHeartbeats 1000000 in
theorem nodeText_any (l r : List (BitVec 8)) (hl : Dl l) (hr : Dl r) (w : World) :
    Calls Tryd.prog 44 #[.agg (vB l).toArray, .agg (vB r).toArray] w fun e w' => ∃ v, e = .returned v ∧ w'.ownsRow w.heap.size 5 1 v 65 (vB ([1#8] ++ (l ++ r))) ∧ Below w.heap.size w w' := by
  obtain ⟨W1, hW1⟩ : ∃ W1, W1 = ((w.alloc (.cells (vB l).toArray 42)).alloc (.cells (vB r).toArray 42)).alloc (.cells #[.int .u8 1] 5) := ⟨_, rfl⟩
  have hB : Below w.heap.size w W1 := by rw [hW1]; exact (((Below.refl _ _).alloc (Nat.le_refl _) _).alloc (by simp) _).alloc (by simp; omega) _
  have r1 : Row W1 w.heap.size (vB l) 42 := by rw [hW1]; exact ((Row.new w (vB l) _).alloc _).alloc _
  have r2 : Row W1 (w.heap.size + 1) (vB r) 42 := by rw [hW1]; exact (Row.new' (by simp) rfl).alloc _
  have r3 : Row W1 (w.heap.size + 2) (vB [1#8]) 5 := by rw [hW1]; exact Row.new' (by simp) rfl
  have HO : Hid (W1.ownsRow (w.heap.size + 2) 5 1 (.slice (some ⟨w.heap.size + 2, 0, none⟩) 1 1) 1 (vB [1#8])) := row_owns (Nat.le_refl _) rfl (by decide) r3
  have HS1 : Hid (SlAt W1 (.slice (some ⟨w.heap.size, 0, none⟩) 32 32) l) := slat_row r1 hl
  have HS2 : Hid (SlAt W1 (.slice (some ⟨w.heap.size + 1, 0, none⟩) 32 32) r) := slat_row r2 hr
  have HZ : Hid (w.heap.size + 2 ≤ W1.heap.size) := Nat.le_of_lt r3.lt
  have hl' := hl
  have hr' := hr
  clear r1 r2 r3
  go_enter Tryd.func44, Tryd.ntmps44
  go_wp2_with (first
    | (rw [← hW1]; refine wpList_append_bytes rfl (.tmp 7) (.tmp 8) rfl W1 w w.heap.size (w.heap.size + 2) _ 1 32 [1#8] l HO.out rfl _ 32 hl rfl HS1.out (fun h => by cases h) (by decide) HZ.out (by omega) hB ?_; intro v3 w3 hO3 hB3 hG3; simp only [Act.put, List.setIfInBounds_toArray, List.set_cons_zero, List.set_cons_succ])
    | (refine wpList_append_bytes rfl (.tmp 10) (.tmp 11) rfl w3 w w.heap.size (w.heap.size + 2) _ 33 32 ([1#8] ++ l) r hO3 rfl _ 32 hr rfl (slat_grown HS2.out hG3 (by simp [Value.ownBlock])) (fun h => by cases h) (by decide) (Nat.le_trans HZ.out hG3.size) (by omega) hB3 ?_; intro v4 w4 hO4 hB4 hG4; clear hG4; simp only [Act.put, List.setIfInBounds_toArray, List.set_cons_zero, List.set_cons_succ]))
  go_ret
  rw [List.append_assoc] at hO4
  exact ⟨v4, rfl, own_less hO4 (by omega), hB4⟩

end Go.Proofs.YtkgfaioinajkjaaDoor

namespace Go.Proofs.YtkgfaioinajkjaaDoor
open Go Go.RowKit
open Sha

/-- The k-th text that is digested for a path, from the leaf up. -/
def txk (ss : List Bool) (ds : List (List (BitVec 8))) (lf : List (BitVec 8)) : Nat → List (BitVec 8)
  | 0 => [0#8] ++ lf
  | k + 1 => if ss.getD k false then [1#8] ++ (dig (txk ss ds lf k) ++ ds.getD k []) else [1#8] ++ (ds.getD k [] ++ dig (txk ss ds lf k))
/-- All of them. -/
def txs (ss : List Bool) (ds : List (List (BitVec 8))) (lf : List (BitVec 8)) (m : Nat) : List (List (BitVec 8)) := (List.range m).map (txk ss ds lf)
theorem txs_length (ss : List Bool) (ds : List (List (BitVec 8))) (lf : List (BitVec 8)) (m : Nat) : (txs ss ds lf m).length = m := by simp [txs]
theorem txs_succ (ss : List Bool) (ds : List (List (BitVec 8))) (lf : List (BitVec 8)) (m : Nat) : txs ss ds lf (m + 1) = txs ss ds lf m ++ [txk ss ds lf m] := by simp [txs, List.range_succ]
theorem txs_get (ss : List Bool) (ds : List (List (BitVec 8))) (lf : List (BitVec 8)) (m k : Nat) (h : k < m) : (txs ss ds lf m).getD k [] = txk ss ds lf k := by
  simp [txs, List.getD_eq_getElem?_getD, h]
theorem txk_front (ss : List Bool) (b : Bool) (ds : List (List (BitVec 8))) (l : List (BitVec 8)) (lf : List (BitVec 8)) (hl : ss.length = ds.length) : ∀ k, k ≤ ss.length → txk (ss ++ [b]) (ds ++ [l]) lf k = txk ss ds lf k
  | 0, _ => rfl
  | k + 1, h => by
    have e1 : (ss ++ [b]).getD k false = ss.getD k false := by simp [List.getD_eq_getElem?_getD, List.getElem?_append_left (show k < ss.length by omega)]
    have e2 : (ds ++ [l]).getD k [] = ds.getD k [] := by simp [List.getD_eq_getElem?_getD, List.getElem?_append_left (show k < ds.length by omega)]
    unfold txk
    rw [e1, e2, txk_front ss b ds l lf hl k (by omega)]
/-- What a path comes to is the last text's digest. -/
theorem rb_txk (n : Nat) : ∀ (i : Nat) (lf : List (BitVec 8)) (ds : List (List (BitVec 8))), i < n → n < 4611686018427387904 → ds.length = pl n i → rb n i lf ds = dig (txk (sd n i) ds lf (pl n i)) := by
  induction n using Nat.strongRecOn with
  | ind n ih =>
    intro i lf ds hi hn hlen
    by_cases e : n = 1
    · subst e
      rw [rb_one, pl_one]; rfl
    · have h2 : 2 ≤ n := by omega
      have hb := fpart_bounds n h2 hn
      have hp := fpart_pos n
      rcases List.eq_nil_or_concat ds with e0 | ⟨rs, l, e0⟩
      · rw [e0, pl_many n i h2 hn] at hlen
        split at hlen <;> simp at hlen
      · rw [List.concat_eq_append] at e0
        subst e0
        rw [List.length_append, List.length_singleton] at hlen
        by_cases hk : i < fpart n
        · rw [pl_left n i h2 hn hk] at hlen ⊢
          rw [sd_left n i h2 hn hk, rb_left n i lf l rs h2 hn hk, ih (fpart n) hb.1 i lf rs hk (by omega) (by omega)]
          have q := sd_length (fpart n) i (by omega) (by omega)
          have e1 : (sd (fpart n) i ++ [true]).getD (pl (fpart n) i) false = true := by simp [List.getD_eq_getElem?_getD, ← q]
          have e2 : (rs ++ [l]).getD (pl (fpart n) i) [] = l := by simp [List.getD_eq_getElem?_getD, ← show rs.length = pl (fpart n) i by omega]
          rw [txk, e1, e2, txk_front _ _ _ _ _ (by omega) _ (by omega)]
          rfl
        · rw [pl_right n i h2 hn hk] at hlen ⊢
          rw [sd_right n i h2 hn hk, rb_right n i lf l rs h2 hn hk, ih (n - fpart n) (by omega) (i - fpart n) lf rs (by omega) (by omega) (by omega)]
          have q := sd_length (n - fpart n) (i - fpart n) (by omega) (by omega)
          have e1 : (sd (n - fpart n) (i - fpart n) ++ [false]).getD (pl (n - fpart n) (i - fpart n)) false = false := by simp [List.getD_eq_getElem?_getD, ← q]
          have e2 : (rs ++ [l]).getD (pl (n - fpart n) (i - fpart n)) [] = l := by simp [List.getD_eq_getElem?_getD, ← show rs.length = pl (n - fpart n) (i - fpart n) by omega]
          rw [txk, e1, e2, txk_front _ _ _ _ _ (by omega) _ (by omega)]
          rfl
/-- Two unlike leaves that come to one digest: two unlike texts of one digest. -/
theorem two_texts (ss : List Bool) (us vs : List (List (BitVec 8))) (x y : List (BitVec 8)) (hne : x ≠ y) : ∀ m, m ≤ ss.length → m ≤ us.length → m ≤ vs.length → (∀ d ∈ us, d.length = 32) → (∀ d ∈ vs, d.length = 32) → dig (txk ss us x m) = dig (txk ss vs y m) →
    ∃ k, k ≤ m ∧ txk ss us x k ≠ txk ss vs y k ∧ dig (txk ss us x k) = dig (txk ss vs y k)
  | 0, _, _, _, _, _, h => ⟨0, Nat.le_refl _, fun e => hne (by simpa [txk] using e), h⟩
  | m + 1, h1, h2, h3, ha, hb, h => by
    by_cases e : txk ss us x (m + 1) = txk ss vs y (m + 1)
    · have la : (us.getD m []).length = 32 := by
        rw [List.getD_eq_getElem?_getD, List.getElem?_eq_getElem (by omega)]; exact ha _ (List.getElem_mem _)
      have lb : (vs.getD m []).length = 32 := by
        rw [List.getD_eq_getElem?_getD, List.getElem?_eq_getElem (by omega)]; exact hb _ (List.getElem_mem _)
      have hd : dig (txk ss us x m) = dig (txk ss vs y m) := by
        unfold txk at e
        split at e
        · have e' := List.append_cancel_left e
          exact (List.append_inj e' (by rw [dig_length, dig_length])).1
        · have e' := List.append_cancel_left e
          exact (List.append_inj e' (by rw [la, lb])).2
      obtain ⟨k, k1, k2, k3⟩ := two_texts ss us vs x y hne m (by omega) (by omega) (by omega) ha hb hd
      exact ⟨k, by omega, k2, k3⟩
    · exact ⟨m + 1, Nat.le_refl _, e, h⟩

end Go.Proofs.YtkgfaioinajkjaaDoor
