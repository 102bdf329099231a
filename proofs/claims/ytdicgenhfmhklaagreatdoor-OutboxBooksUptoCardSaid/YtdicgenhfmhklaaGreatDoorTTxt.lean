/-
  The document's Texts.
-/
import Derived.Test.YtdicgenhfmhklaaGreatDoorTRSum
import Derived.Test.YtdicgenhfmhklaaGreatDoorTPath

namespace Go.Proofs.YtdicgenhfmhklaaGreatDoor
open Go Go.RowKit
open Sha

theorem pow_one_way (a b : Nat) (h1 : 2 ^ a < 2 * 2 ^ b) (h2 : 2 ^ b < 2 * 2 ^ a) : a = b := by
  have e1 : 2 * 2 ^ b = 2 ^ (b + 1) := by rw [Nat.pow_succ]; omega
  have e2 : 2 * 2 ^ a = 2 ^ (a + 1) := by rw [Nat.pow_succ]; omega
  rw [e1] at h1
  rw [e2] at h2
  have := (Nat.pow_lt_pow_iff_right (by decide : 1 < 2)).1 h1
  have := (Nat.pow_lt_pow_iff_right (by decide : 1 < 2)).1 h2
  omega
theorem fpart_is (n j : Nat) (h2 : 2 ≤ n) (hn : n < 4611686018427387904) (ha : 2 ^ j < n) (hb : n ≤ 2 * 2 ^ j) : fpart n = 2 ^ j := by
  obtain ⟨h, h', _, _⟩ := fpart_bounds n h2 hn
  have e : fpart n = 2 ^ (Lib.bitLen (n - 1) - 1) := rfl
  rw [e] at h h' ⊢
  rw [pow_one_way (Lib.bitLen (n - 1) - 1) j (by omega) (by omega)]

set_option maxRecDepth 100000 in
set_option maxHeartbeats 1000000 in
theorem rbelow_any (n : Nat) (h2 : 2 ≤ n) (hn : n < 4611686018427387904) (w : World) :
    Calls Tryz.prog 47 #[.int .i64 (n : Int)] w fun e w' => e = .returned (.int .i64 (fpart n : Int)) ∧ w' = w := by
  have HN : Hid (n < 4611686018427387904) := hn
  have H2 : Hid (2 ≤ n) := h2
  go_enter Tryz.func47, Tryz.ntmps47
  go_wp2
  go_loopw [3] (fun k wr => ∃ j m : Nat, m = 2 ^ j ∧ m < n ∧ k = .int .i64 (m : Int) ∧ wr = w) (fun k _ => n - (intOf k).toNat)
  case atStart => exact ⟨0, 1, rfl, by omega, rfl, rfl⟩
  case round =>
    obtain ⟨j, m, hm, hlt, rfl, rfl⟩ := hrel
    have HM : Hid (m = 2 ^ j) := hm
    have m1 : 1 ≤ m := by rw [hm]; exact Nat.pow_pos (by decide)
    clear hm
    have e1 : IntKind.i64.wrap (2 * (m : Int)) = 2 * (m : Int) := by rw [IntKind.wrap_i64]; omega
    by_cases hc : 2 * m < n
    · have c1 : 2 * (m : Int) < (n : Int) := by omega
      go_wp2
      exact ⟨⟨j + 1, 2 * m, by rw [HM.out, Nat.pow_succ]; omega, hc, by go_num, trivial⟩, by simp [intOf]; omega⟩
    · have c1 : ¬ 2 * (m : Int) < (n : Int) := by omega
      go_wp2
      go_ret
      exact ⟨by rw [fpart_is n j h2 hn (by rw [← HM.out]; exact hlt) (by rw [← HM.out]; omega), HM.out]; rfl, rfl⟩

/-- Does the other one stand on the right, from the leaf up. -/
def sd (n i : Nat) : List Bool :=
  if _h : 2 ≤ n ∧ n < 4611686018427387904 then
    if i < fpart n then sd (fpart n) i ++ [true] else sd (n - fpart n) (i - fpart n) ++ [false]
  else []
termination_by n
decreasing_by
  · exact (fpart_bounds n (by omega) (by omega)).1
  · have := fpart_pos n; omega
theorem sd_one (i : Nat) : sd 1 i = [] := by rw [sd, dif_neg (by omega)]
theorem sd_left (n i : Nat) (h2 : 2 ≤ n) (hl : n < 4611686018427387904) (h : i < fpart n) : sd n i = sd (fpart n) i ++ [true] := by
  rw [sd, dif_pos ⟨h2, hl⟩, if_pos h]
theorem sd_right (n i : Nat) (h2 : 2 ≤ n) (hl : n < 4611686018427387904) (h : ¬ i < fpart n) : sd n i = sd (n - fpart n) (i - fpart n) ++ [false] := by
  rw [sd, dif_pos ⟨h2, hl⟩, if_neg h]
theorem sd_length (n : Nat) : ∀ i, 1 ≤ n → n < 4611686018427387904 → (sd n i).length = pl n i := by
  induction n using Nat.strongRecOn with
  | ind n ih =>
    intro i h1 hl
    by_cases e : n = 1
    · subst e; rw [sd_one, pl_one]; rfl
    · have hb := fpart_bounds n (by omega) hl
      have hp := fpart_pos n
      by_cases hk : i < fpart n
      · rw [sd_left n i (by omega) hl hk, pl_left n i (by omega) hl hk, List.length_append, ih (fpart n) hb.1 i (by omega) (by omega)]; rfl
      · rw [sd_right n i (by omega) hl hk, pl_right n i (by omega) hl hk, List.length_append, ih (n - fpart n) (by omega) (i - fpart n) (by omega) (by omega)]; rfl

def vT (l : List Bool) : List Value := l.map Value.bool
theorem info_all_bool : (Tryz.prog.info? 4).map (fun i => (i.zero, i.size, i.bytes)) = some (some (.bool false), 1, 1) := by kernel_rfl
theorem vT_one (l : List Bool) : ∀ v ∈ vT l, v.oneCell' = true := by
  intro v hv
  obtain ⟨b, _, rfl⟩ := List.mem_map.1 hv
  rfl
theorem own_of_below {B N e size n : Nat} {w w' : World} {v : Value} {xs : List Value} (h : w.ownsRow N e size v n xs) (k : Below B w w') (hB : w.heap.size ≤ B) : w'.ownsRow N e size v n xs := ownsRow_below h k hB

section
variable {ops : Array Oper} {rest : List Oper} {op : Oper} {a : Act} {Q : Exit → Act → World → Prop}
end

set_option maxRecDepth 100000 in
set_option maxHeartbeats 1000000 in
theorem leafText_any (d : List (BitVec 8)) (n : Nat) (hn : d.length = n) (hd : n + 1 ≤ 140737488355328) (A : Option Addr) (cap : Nat) (w : World) (hv : SlAtT w (.slice A n cap) d) (hnil : A = none → cap = 0) :
    Calls Tryz.prog 66 #[.slice A n cap] w fun e w' => ∃ v, e = .returned v ∧ w'.ownsRow w.heap.size 5 1 v (1 + n) (vB ([0#8] ++ d)) ∧ Below w.heap.size w w' := by
  have hB : Below w.heap.size w (w.alloc (.cells #[.int .u8 0] 5)) := (Below.refl _ _).alloc (Nat.le_refl _) _
  have HV : Hid (SlAtT (w.alloc (.cells #[.int .u8 0] 5)) (.slice A n cap) d) := hv.be hB
  have HO : Hid ((w.alloc (.cells #[.int .u8 0] 5)).ownsRow w.heap.size 5 1 (.slice (some ⟨w.heap.size, 0, none⟩) 1 1) 1 (vB [0#8])) := row_owns (Nat.le_refl _) rfl (by decide) (Row.new' rfl rfl)
  have HN : Hid (A = none → cap = 0) := hnil
  have HL : Hid (d.length = n) := hn
  have HD : Hid (1 + n ≤ 140737488355328) := by show _ ≤ _; omega
  clear hv hnil hn hd
  go_enter Tryz.func66, Tryz.ntmps66
  go_wp2_with (refine wpList_append_bytes rfl (.tmp 5) (.tmp 6) rfl _ w w.heap.size w.heap.size _ 1 n [0#8] d HO.out rfl A cap HL.out rfl HV.out HN.out HD.out (by simp) (Nat.le_refl _) hB ?_; intro v3 w3 hO3 hB3 hG3; clear hG3; simp only [Act.put, List.setIfInBounds_toArray, List.set_cons_zero, List.set_cons_succ])
  go_ret
  exact ⟨v3, rfl, hO3, hB3⟩

theorem slat_grown {w w' : World} {b o n cap : Nat} {d : List (BitVec 8)} {k : Option Nat} (h : SlAtT w (.slice (some ⟨b, o, none⟩) n cap) d) (hg : w.grownBy w' k) (hne : k ≠ some b) : SlAtT w' (.slice (some ⟨b, o, none⟩) n cap) d := by
  rcases h with ⟨h1, A, c, e⟩ | ⟨ab, ao, c, e, h2, h3⟩
  · exact .inl ⟨h1, A, c, e⟩
  · refine .inr ⟨ab, ao, c, e, h2, fun j v hv => ?_⟩
    simp only [Value.slice.injEq, Option.some.injEq, Addr.mk.injEq] at e
    obtain ⟨⟨rfl, rfl, _⟩, rfl, rfl⟩ := e
    have hc := h3 j v hv
    have hlt := World.block_lt_of_cell? w _ hc
    rw [← hc]
    unfold World.cell?
    rw [hg.block b hlt (fun x => hne x.symm)]

set_option maxRecDepth 100000 in
set_option maxHeartbeats 1000000 in
theorem nodeText_any (l r : List (BitVec 8)) (hl : Dl l) (hr : Dl r) (w : World) :
    Calls Tryz.prog 67 #[.agg (vB l).toArray, .agg (vB r).toArray] w fun e w' => ∃ v, e = .returned v ∧ w'.ownsRow w.heap.size 5 1 v 65 (vB ([1#8] ++ (l ++ r))) ∧ Below w.heap.size w w' := by
  obtain ⟨W1, hW1⟩ : ∃ W1, W1 = ((w.alloc (.cells (vB l).toArray 44)).alloc (.cells (vB r).toArray 44)).alloc (.cells #[.int .u8 1] 5) := ⟨_, rfl⟩
  have hB : Below w.heap.size w W1 := by rw [hW1]; exact (((Below.refl _ _).alloc (Nat.le_refl _) _).alloc (by simp) _).alloc (by simp; omega) _
  have r1 : Row W1 w.heap.size (vB l) 44 := by rw [hW1]; exact ((Row.new w (vB l) _).alloc _).alloc _
  have r2 : Row W1 (w.heap.size + 1) (vB r) 44 := by rw [hW1]; exact (Row.new' (by simp) rfl).alloc _
  have r3 : Row W1 (w.heap.size + 2) (vB [1#8]) 5 := by rw [hW1]; exact Row.new' (by simp) rfl
  have HO : Hid (W1.ownsRow (w.heap.size + 2) 5 1 (.slice (some ⟨w.heap.size + 2, 0, none⟩) 1 1) 1 (vB [1#8])) := row_owns (Nat.le_refl _) rfl (by decide) r3
  have HS1 : Hid (SlAtT W1 (.slice (some ⟨w.heap.size, 0, none⟩) 32 32) l) := slat_row r1 hl
  have HS2 : Hid (SlAtT W1 (.slice (some ⟨w.heap.size + 1, 0, none⟩) 32 32) r) := slat_row r2 hr
  have HZ : Hid (w.heap.size + 2 ≤ W1.heap.size) := Nat.le_of_lt r3.lt
  have hl' := hl
  have hr' := hr
  clear r1 r2 r3
  go_enter Tryz.func67, Tryz.ntmps67
  go_wp2_with (first
    | (rw [← hW1]; refine wpList_append_bytes rfl (.tmp 7) (.tmp 8) rfl W1 w w.heap.size (w.heap.size + 2) _ 1 32 [1#8] l HO.out rfl _ 32 hl rfl HS1.out (fun h => by cases h) (by decide) HZ.out (by omega) hB ?_; intro v3 w3 hO3 hB3 hG3; simp only [Act.put, List.setIfInBounds_toArray, List.set_cons_zero, List.set_cons_succ])
    | (refine wpList_append_bytes rfl (.tmp 10) (.tmp 11) rfl w3 w w.heap.size (w.heap.size + 2) _ 33 32 ([1#8] ++ l) r hO3 rfl _ 32 hr rfl (slat_grown HS2.out hG3 (by simp [Value.ownBlock])) (fun h => by cases h) (by decide) (Nat.le_trans HZ.out hG3.size) (by omega) hB3 ?_; intro v4 w4 hO4 hB4 hG4; clear hG4; simp only [Act.put, List.setIfInBounds_toArray, List.set_cons_zero, List.set_cons_succ]))
  go_ret
  rw [List.append_assoc] at hO4
  exact ⟨v4, rfl, own_less hO4 (by omega), hB4⟩

end Go.Proofs.YtdicgenhfmhklaaGreatDoor

namespace Go.Proofs.YtdicgenhfmhklaaGreatDoor
open Go Go.RowKit
open Sha

/-- The k-th text that is digested for a path, from the leaf up. -/
def txk (ss : List Bool) (ds : List (List (BitVec 8))) (lf : List (BitVec 8)) : Nat → List (BitVec 8)
  | 0 => [0#8] ++ lf
  | k + 1 => if ss.getD k false then [1#8] ++ (dig (txk ss ds lf k) ++ ds.getD k []) else [1#8] ++ (ds.getD k [] ++ dig (txk ss ds lf k))
/-- All of them. -/
def txs (ss : List Bool) (ds : List (List (BitVec 8))) (lf : List (BitVec 8)) (m : Nat) : List (List (BitVec 8)) := (List.range m).map (txk ss ds lf)
theorem txs_length (ss : List Bool) (ds : List (List (BitVec 8))) (lf : List (BitVec 8)) (m : Nat) : (txs ss ds lf m).length = m := by simp [txs]
theorem txs_succ (ss : List Bool) (ds : List (List (BitVec 8))) (lf : List (BitVec 8)) (m : Nat) : txs ss ds lf (m + 1) = txs ss ds lf m ++ [txk ss ds lf m] := by simp [txs, List.range_succ]
theorem txs_get (ss : List Bool) (ds : List (List (BitVec 8))) (lf : List (BitVec 8)) (m k : Nat) (h : k < m) : (txs ss ds lf m).getD k [] = txk ss ds lf k := by
  simp [txs, List.getD_eq_getElem?_getD, h]
theorem txk_front (ss : List Bool) (b : Bool) (ds : List (List (BitVec 8))) (l : List (BitVec 8)) (lf : List (BitVec 8)) (hl : ss.length = ds.length) : ∀ k, k ≤ ss.length → txk (ss ++ [b]) (ds ++ [l]) lf k = txk ss ds lf k
  | 0, _ => rfl
  | k + 1, h => by
    have e1 : (ss ++ [b]).getD k false = ss.getD k false := by simp [List.getD_eq_getElem?_getD, List.getElem?_append_left (show k < ss.length by omega)]
    have e2 : (ds ++ [l]).getD k [] = ds.getD k [] := by simp [List.getD_eq_getElem?_getD, List.getElem?_append_left (show k < ds.length by omega)]
    unfold txk
    rw [e1, e2, txk_front ss b ds l lf hl k (by omega)]
/-- What a path comes to is the last text's digest. -/
theorem rb_txk (n : Nat) : ∀ (i : Nat) (lf : List (BitVec 8)) (ds : List (List (BitVec 8))), i < n → n < 4611686018427387904 → ds.length = pl n i → rb n i lf ds = dig (txk (sd n i) ds lf (pl n i)) := by
  induction n using Nat.strongRecOn with
  | ind n ih =>
    intro i lf ds hi hn hlen
    by_cases e : n = 1
    · subst e
      rw [rb_one, pl_one]; rfl
    · have h2 : 2 ≤ n := by omega
      have hb := fpart_bounds n h2 hn
      have hp := fpart_pos n
      rcases List.eq_nil_or_concat ds with e0 | ⟨rs, l, e0⟩
      · rw [e0, pl_many n i h2 hn] at hlen
        split at hlen <;> simp at hlen
      · rw [List.concat_eq_append] at e0
        subst e0
        rw [List.length_append, List.length_singleton] at hlen
        by_cases hk : i < fpart n
        · rw [pl_left n i h2 hn hk] at hlen ⊢
          rw [sd_left n i h2 hn hk, rb_left n i lf l rs h2 hn hk, ih (fpart n) hb.1 i lf rs hk (by omega) (by omega)]
          have q := sd_length (fpart n) i (by omega) (by omega)
          have e1 : (sd (fpart n) i ++ [true]).getD (pl (fpart n) i) false = true := by simp [List.getD_eq_getElem?_getD, ← q]
          have e2 : (rs ++ [l]).getD (pl (fpart n) i) [] = l := by simp [List.getD_eq_getElem?_getD, ← show rs.length = pl (fpart n) i by omega]
          rw [txk, e1, e2, txk_front _ _ _ _ _ (by omega) _ (by omega)]
          rfl
        · rw [pl_right n i h2 hn hk] at hlen ⊢
          rw [sd_right n i h2 hn hk, rb_right n i lf l rs h2 hn hk, ih (n - fpart n) (by omega) (i - fpart n) lf rs (by omega) (by omega) (by omega)]
          have q := sd_length (n - fpart n) (i - fpart n) (by omega) (by omega)
          have e1 : (sd (n - fpart n) (i - fpart n) ++ [false]).getD (pl (n - fpart n) (i - fpart n)) false = false := by simp [List.getD_eq_getElem?_getD, ← q]
          have e2 : (rs ++ [l]).getD (pl (n - fpart n) (i - fpart n)) [] = l := by simp [List.getD_eq_getElem?_getD, ← show rs.length = pl (n - fpart n) (i - fpart n) by omega]
          rw [txk, e1, e2, txk_front _ _ _ _ _ (by omega) _ (by omega)]
          rfl
/-- Two unlike leaves that come to one digest: two unlike texts of one digest. -/
theorem two_texts (ss : List Bool) (us vs : List (List (BitVec 8))) (x y : List (BitVec 8)) (hne : x ≠ y) : ∀ m, m ≤ ss.length → m ≤ us.length → m ≤ vs.length → (∀ d ∈ us, d.length = 32) → (∀ d ∈ vs, d.length = 32) → dig (txk ss us x m) = dig (txk ss vs y m) →
    ∃ k, k ≤ m ∧ txk ss us x k ≠ txk ss vs y k ∧ dig (txk ss us x k) = dig (txk ss vs y k)
  | 0, _, _, _, _, _, h => ⟨0, Nat.le_refl _, fun e => hne (by simpa [txk] using e), h⟩
  | m + 1, h1, h2, h3, ha, hb, h => by
    by_cases e : txk ss us x (m + 1) = txk ss vs y (m + 1)
    · have la : (us.getD m []).length = 32 := by
        rw [List.getD_eq_getElem?_getD, List.getElem?_eq_getElem (by omega)]; exact ha _ (List.getElem_mem _)
      have lb : (vs.getD m []).length = 32 := by
        rw [List.getD_eq_getElem?_getD, List.getElem?_eq_getElem (by omega)]; exact hb _ (List.getElem_mem _)
      have hd : dig (txk ss us x m) = dig (txk ss vs y m) := by
        unfold txk at e
        split at e
        · have e' := List.append_cancel_left e
          exact (List.append_inj e' (by rw [dig_length, dig_length])).1
        · have e' := List.append_cancel_left e
          exact (List.append_inj e' (by rw [la, lb])).2
      obtain ⟨k, k1, k2, k3⟩ := two_texts ss us vs x y hne m (by omega) (by omega) (by omega) ha hb hd
      exact ⟨k, by omega, k2, k3⟩
    · exact ⟨m + 1, Nat.le_refl _, e, h⟩

end Go.Proofs.YtdicgenhfmhklaaGreatDoor

namespace Go.Proofs.YtdicgenhfmhklaaGreatDoor
open Go Go.RowKit
open Sha

/-- Behind an append another list of the call's own, of another type, is as it was. -/
theorem own_grown {w w' : World} {N N' e e' size size' n n' : Nat} {v vp : Value} {xs xs' : List Value} (h : w.ownsRow N e size v n xs) (hp : w.ownsRow N' e' size' vp n' xs') (hne : e ≠ e') (hg : w.grownBy w' vp.ownBlock) : w'.ownsRow N e size v n xs := by
  obtain ⟨h1, h2⟩ := h
  refine ⟨h1, ?_⟩
  rcases h2 with h2 | ⟨g, cap, cur, hv, hN, hh, r⟩
  · exact .inl h2
  · refine .inr ⟨g, cap, cur, hv, hN, (hg.block g (Array.getElem?_eq_some_iff.1 hh).1 ?_).trans hh, r⟩
    rcases hp.2 with ⟨h3, _⟩ | ⟨g', cap', cur', hv', _, hh', _⟩
    · rw [h3]; simp [Value.ownBlock]
    · rw [hv']
      simp only [Value.ownBlock, ne_eq, Option.some.injEq]
      intro hgg
      subst hgg
      rw [hh] at hh'
      simp only [Option.some.injEq, Obj.cells.injEq] at hh'
      exact hne hh'.2.1

/-- vp is the list of the texts ts. -/
structure Txs (w : World) (N : Nat) (vp : Value) (ts : List (List (BitVec 8))) (vs : List Value) : Prop where
  own : w.ownsRow N 54 1 vp ts.length vs
  each : ∀ i, i < ts.length → w.ownsRow N 5 1 (vs.getD i undef) (ts.getD i []).length (vB (ts.getD i []))
theorem Txs.len {w : World} {N : Nat} {vp : Value} {ts : List (List (BitVec 8))} {vs : List Value} (h : Txs w N vp ts vs) : vs.length = ts.length := by have := h.own.1; omega
theorem Txs.below {w w' : World} {N : Nat} {vp : Value} {ts : List (List (BitVec 8))} {vs : List Value} (h : Txs w N vp ts vs) (k : Below w.heap.size w w') : Txs w' N vp ts vs :=
  ⟨ownsRow_below h.own k (Nat.le_refl _), fun i hi => ownsRow_below (h.each i hi) k (Nat.le_refl _)⟩
theorem Txs.less {w : World} {M N : Nat} {vp : Value} {ts : List (List (BitVec 8))} {vs : List Value} (h : Txs w N vp ts vs) (hM : M ≤ N) : Txs w M vp ts vs :=
  ⟨own_less h.own hM, fun i hi => own_less (h.each i hi) hM⟩
/-- The list's head, and its cells. -/
theorem Txs.form {w : World} {N : Nat} {vp : Value} {ts : List (List (BitVec 8))} {vs : List Value} (h : Txs w N vp ts vs) (hn : 0 < ts.length) : ∃ g cap, vp = .slice (some ⟨g, 0, none⟩) ts.length cap ∧ N ≤ g ∧ ts.length ≤ cap ∧ w.rangeAt g 0 vs := by
  rcases h.own.2 with ⟨_, h0⟩ | ⟨g, cap, cur, hv, hN, hh, hc, hm, hs, ht⟩
  · omega
  · have hr : Row w g cur.toList 54 := by unfold Row; rw [hh]
    refine ⟨g, cap, hv, hN, hc, fun j u hj => hr.all j u ?_⟩
    rw [← ht] at hj
    have hjl : j < ts.length * 1 := by have := (List.getElem?_eq_some_iff.1 hj).1; rw [List.length_take] at this; omega
    rwa [List.getElem?_take_of_lt hjl] at hj
theorem Txs.cell {w : World} {N g : Nat} {vp : Value} {ts : List (List (BitVec 8))} {vs : List Value} (h : Txs w N vp ts vs) (hr : w.rangeAt g 0 vs) (i : Nat) (hi : i < ts.length) : w.cell? ⟨g, i, none⟩ = some (vs.getD i undef) := by
  have hl := h.len
  have := hr i (vs.getD i undef) (by simp [List.getD_eq_getElem?_getD, List.getElem?_eq_getElem (show i < vs.length by omega)])
  rwa [Nat.zero_add] at this
theorem Txs.at {w : World} {N : Nat} {vp : Value} {ts : List (List (BitVec 8))} {vs : List Value} (h : Txs w N vp ts vs) (i : Nat) (hi : i < ts.length) : SlAtT w (vs.getD i undef) (ts.getD i []) := (owns_slAt (h.each i hi)).1
theorem Txs.ls {w : World} {N : Nat} {vp : Value} {ts : List (List (BitVec 8))} {vs : List Value} (h : Txs w N vp ts vs) {g : Nat} (hr : w.rangeAt g 0 vs) : LsAt w g 0 ts := ⟨vs, h.len, hr, fun i hi => h.at i hi⟩
/-- Texts of two lists behind one another. -/
theorem Txs.join {w w' : World} {N : Nat} {vp vq v' : Value} {ts us : List (List (BitVec 8))} {vs xs : List Value} (h : Txs w N vp ts vs) (k : Txs w N vq us xs) (ho : w'.ownsRow N 54 1 v' (ts.length + us.length) (vs ++ xs)) (hg : w.grownBy w' vp.ownBlock) : Txs w' N v' (ts ++ us) (vs ++ xs) := by
  have hl := h.len
  refine ⟨by rw [List.length_append]; exact ho, fun i hi => ?_⟩
  rw [List.length_append] at hi
  by_cases hlt : i < ts.length
  · have e1 : (vs ++ xs).getD i undef = vs.getD i undef := by simp [List.getD_eq_getElem?_getD, List.getElem?_append_left (show i < vs.length by omega)]
    have e2 : (ts ++ us).getD i [] = ts.getD i [] := by simp [List.getD_eq_getElem?_getD, List.getElem?_append_left hlt]
    rw [e1, e2]; exact own_grown (h.each i hlt) h.own (by decide) hg
  · have e1 : (vs ++ xs).getD i undef = xs.getD (i - ts.length) undef := by simp [List.getD_eq_getElem?_getD, List.getElem?_append_right (show vs.length ≤ i by omega), hl]
    have e2 : (ts ++ us).getD i [] = us.getD (i - ts.length) [] := by simp [List.getD_eq_getElem?_getD, List.getElem?_append_right (show ts.length ≤ i by omega)]
    rw [e1, e2]; exact own_grown (k.each (i - ts.length) (by omega)) h.own (by decide) hg
theorem Txs.one {w : World} {N g : Nat} {v : Value} {d : List (BitVec 8)} (hN : N ≤ g) (hr : Row w g [v] 54) (ho : w.ownsRow N 5 1 v d.length (vB d)) : Txs w N (.slice (some ⟨g, 0, none⟩) 1 1) [d] [v] :=
  ⟨⟨rfl, .inr ⟨g, 1, #[v], rfl, hN, hr, Nat.le_refl _, by decide, rfl, rfl⟩⟩, fun i hi => by
    rcases (show i = 0 by simp at hi; omega) with rfl
    exact ho⟩
theorem info_all_slb : (Tryz.prog.info? 54).map (fun i => (i.zero, i.size, i.bytes)) = some (some (.slice none 0 0), 1, 24) := by kernel_rfl

section
variable {ops : Array Oper} {rest : List Oper} {op : Oper} {a : Act} {Q : Exit → Act → World → Prop}
/-- append of one list of texts onto another. -/
theorem wpList_join (hgd : op.guard = none) (s x : Operand) (ho : op.op = .call { callee := .builtin .append, args := #[s, x], argTypes := #[27, 27] }) (W0 Wa : World) (M N : Nat) (vp vq : Value) (ts us : List (List (BitVec 8))) (vs xs : List Value)
    (hM : Txs W0 N vp ts vs) (hn : Txs W0 N vq us xs) (h0 : 0 < us.length) (hs : a.eval s = vp) (hx : a.eval x = vq) (hk : ts.length + us.length ≤ 4000000000000) (hN : N ≤ W0.heap.size) (hMN : M ≤ N) (hb : Below M Wa W0)
    (h : ∀ v' w', Txs w' N v' (ts ++ us) (vs ++ xs) → Below M Wa w' → W0.grownBy w' vp.ownBlock → wpList Tryz.prog ops Q rest (a.put op.dst v') w') :
    wpList Tryz.prog ops Q (op :: rest) a W0 := by
  obtain ⟨i, hi0, hz, hsz, hby⟩ := info_parts info_all_slb
  obtain ⟨g, cap, hq, hgN, hcap, hcell⟩ := hn.form h0
  have hblk : ∀ k, vp.ownBlock = some k → N ≤ k := own_block hM.own
  have hl := hn.len
  refine wpList_append_own _ hgd s x 27 ho N 54 i (.slice none 0 0) 1 24 Tryz.underlying27 hi0 hz hsz hby rfl (by decide) vp ts.length vs hs hM.own ⟨g, 0, none⟩ us.length cap xs (by rw [hx, hq]) (by omega) ?_ ?_ (by unfold maxLen; omega) (by omega) hN ?_
  · intro j u hj; rw [Addr.add_mid]; exact hcell j u hj
  · intro u hu
    obtain ⟨j, hj, e⟩ := List.getElem_of_mem hu
    have hj2 := (hn.each j (by omega)).2
    rw [List.getD_eq_getElem?_getD, List.getElem?_eq_getElem hj, Option.getD_some, e] at hj2
    rcases hj2 with ⟨h2, _⟩ | ⟨g2, c2, cur2, hv2, _⟩
    · rw [h2]; rfl
    · rw [hv2]; rfl
  · intro v' w' h2 h3 _
    exact h v' w' (hM.join hn h2 h3) (hb.grown h3 (Nat.le_trans hMN hN) (fun k hk => Nat.le_trans hMN (hblk k hk))) h3
end

end Go.Proofs.YtdicgenhfmhklaaGreatDoor

namespace Go.Proofs.YtdicgenhfmhklaaGreatDoor
open Go Go.RowKit
open Sha

theorem own_form {w : World} {N e size n : Nat} {v : Value} {xs : List Value} (h : w.ownsRow N e size v n xs) : ∃ A cap, v = .slice A n cap := by
  rcases h.2 with ⟨h2, h0⟩ | ⟨g, cap, cur, hv, _⟩
  · exact ⟨none, 0, by rw [h2, h0]⟩
  · exact ⟨_, cap, hv⟩
theorem own_at {w : World} {N e n : Nat} {A : Option Addr} {cap : Nat} {xs : List Value} (h : w.ownsRow N e 1 (.slice A n cap) n xs) (hn : 0 < n) : ∃ g, A = some ⟨g, 0, none⟩ ∧ N ≤ g ∧ w.rangeAt g 0 xs := by
  rcases h.2 with ⟨_, h0⟩ | ⟨g, cap', cur, hv, hg, hh, hc, hm, hs, ht⟩
  · omega
  · simp only [Value.slice.injEq] at hv
    have hr : Row w g cur.toList e := by unfold Row; rw [hh]
    refine ⟨g, hv.1, hg, fun j u hj => hr.all j u ?_⟩
    rw [← ht] at hj
    have hjl : j < n * 1 := by have := (List.getElem?_eq_some_iff.1 hj).1; rw [List.length_take] at this; omega
    rwa [List.getElem?_take_of_lt hjl] at hj
theorem cell_beT {w w' : World} {p : Addr} {v : Value} (h : w.cell? p = some v) (k : Below w.heap.size w w') : w'.cell? p = some v := (k.cell (World.block_lt_of_cell? w _ h)).trans h
theorem vT_get (l : List Bool) (i : Nat) (h : i < l.length) : (vT l)[i]? = some (.bool (l.getD i false)) := by simp [vT, h]
/-- Bytes that were made here. -/
def SP.by8 (M n : Nat) (l : List Value) : SP := ⟨fun W v => W.ownsRow M 5 1 v n l, fun _ _ _ hB h => ownsRow_below h hB (Nat.le_refl _)⟩
theorem pat_range {w : World} {A : Option Addr} {cap : Nat} {ds : List (List (BitVec 8))} (h : PAt w (.slice A ds.length cap) ds) (t : Nat) (ht : t < ds.length) : ∃ b o, A = some ⟨b, o, none⟩ ∧ w.rangeAt b (o + t * 32) (vB (ds.getD t [])) := by
  obtain ⟨h1, A', cap', e, hc, h2⟩ := h
  simp only [Value.slice.injEq] at e
  obtain ⟨rfl, _, rfl⟩ := e
  rcases h2 with h2 | ⟨b, o, rfl, hr⟩
  · rw [h2] at ht; simp at ht
  · refine ⟨b, o, rfl, ?_⟩
    have e1 : ds = ds.take t ++ (ds.getD t [] :: ds.drop (t + 1)) := by
      rw [show ds.getD t [] = ds[t] by simp [List.getD_eq_getElem?_getD, ht], ← List.drop_eq_getElem_cons ht, List.take_append_drop]
    rw [e1, List.flatMap_append, List.flatMap_cons] at hr
    exact ran_left (ran_right hr (by rw [flat_length _ (fun d hd => h1 d (List.mem_of_mem_take hd)), List.length_take, Nat.min_eq_left (by omega)]))
theorem pat_each {w : World} {v : Value} {ds : List (List (BitVec 8))} (h : PAt w v ds) (t : Nat) (ht : t < ds.length) : Dl (ds.getD t []) := by
  rw [List.getD_eq_getElem?_getD, List.getElem?_eq_getElem ht]; exact h.1 _ (List.getElem_mem _)

end Go.Proofs.YtdicgenhfmhklaaGreatDoor
