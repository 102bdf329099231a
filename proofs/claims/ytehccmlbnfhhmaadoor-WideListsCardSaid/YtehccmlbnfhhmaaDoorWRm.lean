/-
  causewaylaw02.room.
-/
import Derived.Test.YtehccmlbnfhhmaaDoorWLs
namespace Go.Proofs.YtehccmlbnfhhmaaDoor
open Go Go.RowKit
open Wd

/-- A mark. -/
def mk (i : Nat) : Nat := num [7, 7, 7, i]
theorem mk_dgs (i : Nat) (h : i < 18446744073709551616) : dgs (mk i) 4 = [7, 7, 7, i] :=
  dgs_num [7, 7, 7, i] (by intro x hx; simp at hx; rcases hx with rfl | rfl <;> omega)
theorem mk_lt (i : Nat) (h : i < 18446744073709551616) : mk i < 2 ^ 256 := by
  have := num_lt [7, 7, 7, i] (by intro x hx; simp at hx; rcases hx with rfl | rfl <;> omega)
  unfold mk
  simpa using this
def mks (n k : Nat) : List Nat := (List.range k).map (fun t => mk (n + t))
theorem mks_length (n k : Nat) : (mks n k).length = k := by simp [mks]
/-- A list with room, on the way. -/
def roomy (xs : List Nat) (n i : Nat) : List Nat := xs ++ mks n (i - n) ++ List.replicate (n + 3 - i) 0
theorem roomy_now (xs : List Nat) (n i : Nat) (h1 : n ≤ i) (h2 : i < n + 3) : roomy xs n i = (xs ++ mks n (i - n)) ++ 0 :: List.replicate (n + 3 - (i + 1)) 0 := by
  unfold roomy
  rw [show n + 3 - i = (n + 3 - (i + 1)) + 1 by omega, List.replicate_succ]
theorem roomy_next (xs : List Nat) (n i : Nat) (h1 : n ≤ i) : roomy xs n (i + 1) = (xs ++ mks n (i - n)) ++ mk i :: List.replicate (n + 3 - (i + 1)) 0 := by
  unfold roomy mks
  rw [show i + 1 - n = (i - n) + 1 by omega, List.range_succ, List.map_append, List.map_cons, List.map_nil, show n + (i - n) = i by omega]
  simp
theorem flat_put {W : World} {g m : Nat} {ys zs : List Nat} {t : TypeId} (r : Row W g (flat (ys ++ 0 :: zs)) t) (k : Nat) (hk : ys.length = k) : Row (W.setCells g (k * 4) (vQ (dgs m 4))) g (flat (ys ++ m :: zs)) t := by
  have hl : (vQ (dgs m 4)).length = 4 := by rw [vQ_length, dgs_length]
  have h := Row.setCells (k * 4) (vQ (dgs m 4)) r (by rw [hl, flat_length, List.length_append, List.length_cons]; omega)
  rw [hl] at h
  have e1 : flat (ys ++ 0 :: zs) = flat ys ++ (vQ (dgs 0 4) ++ flat zs) := by
    rw [flat_append, show (0 : Nat) :: zs = [0] ++ zs from rfl, flat_append, flat_one]
  have e2 : flat (ys ++ m :: zs) = flat ys ++ (vQ (dgs m 4) ++ flat zs) := by
    rw [flat_append, show m :: zs = [m] ++ zs from rfl, flat_append, flat_one]
  have l1 : (flat ys).length = k * 4 := by rw [flat_length, hk]
  have e3 : (flat (ys ++ 0 :: zs)).take (k * 4) = flat ys := by rw [e1, List.take_left' l1]
  have e4 : (flat (ys ++ 0 :: zs)).drop (k * 4 + 4) = flat zs := by
    rw [e1, ← List.append_assoc, List.drop_left' (by rw [List.length_append, l1, vQ_length, dgs_length])]
  rw [e3, e4, List.append_assoc] at h
  rw [e2]
  exact h

set_option maxRecDepth 100000 in
set_option maxHeartbeats 4000000 in
theorem room_ws (xs : List Nat) (n : Nat) (hn : xs.length = n) (hlen : n * 32 ≤ 140737488351232) (A : Option Addr) (cap : Nat) (w : World) (h : Ws w A xs) :
    Calls Tryd.prog 28 #[.slice A n cap] w fun e w' => ∃ N, w.heap.size ≤ N ∧ Row w' N (flat (xs ++ mks n 3)) 24 ∧ e = .returned (.slice (some ⟨N, 0, none⟩) (n + 3) (n + 3)) ∧ Below w.heap.size w w' := by
  have HN : Hid (xs.length = n) := hn
  have HW : Hid (Ws w A xs) := h
  have ln : (n : Int) ≤ 4398046511104 := by omega
  have ln' : n ≤ 4398046511104 := by omega
  clear h hn hlen
  obtain ⟨n3, e3⟩ : ∃ n3, n3 = n + 3 := ⟨_, rfl⟩
  have eK : (n : Int) + 3 = (n3 : Int) := by omega
  have HN3 : Hid (n3 = n + 3) := e3
  have l3 : n3 ≤ 4398046511107 := by omega
  have hnn : n ≤ n3 := by omega
  rw [← e3]
  clear e3
  have rN : Row (w.alloc (.cells (flat (List.replicate n3 0)).toArray 24)) w.heap.size (flat (List.replicate n3 0)) 24 := Row.new' rfl rfl
  have hb : Below w.heap.size w (w.alloc (.cells (flat (List.replicate n3 0)).toArray 24)) := (Below.refl _ _).alloc (Nat.le_refl _) _
  have wsx := HW.out.below hb
  go_enter Tryd.func28, Tryd.ntmps28
  go_wp2_with (first
    | (refine wpList_make_w rfl (.tmp 7) (.tmp 7) rfl n3 rfl rfl (by omega) ?_; simp only [Act.put, List.setIfInBounds_toArray, List.set_cons_zero, List.set_cons_succ])
    | (refine wpList_copy4 rfl (.tmp 9) (.tmp 10) rfl w.heap.size n3 n3 A n cap rfl rfl (List.replicate n3 0) rN xs HN.out wsx (by rw [List.length_replicate]; exact Nat.le_refl _) ?_; intro W2 r2 hb2 _ _; have HR2 : Hid _ := r2; clear r2; simp only [Act.put, List.setIfInBounds_toArray, List.set_cons_zero, List.set_cons_succ]))
  have r2 := HR2.out
  rw [List.take_of_length_le (by rw [HN.out]; exact hnn), show Nat.min n n3 = n from Nat.min_eq_left hnn, List.drop_replicate, show n3 - n = 3 by have := HN3.out; omega] at r2
  replace hb := hb.trans hb2
  clear hb2 rN wsx HR2
  go_loopw [4] (fun iv wr => ∃ i : Nat, n ≤ i ∧ i ≤ n3 ∧ iv = .int .i64 (i : Int) ∧ Below w.heap.size w wr ∧ Row wr w.heap.size (flat (roomy xs n i)) 24) (fun iv _ => n3 - (intOf iv).toNat)
  case atStart =>
    refine ⟨n, Nat.le_refl _, hnn, rfl, hb, ?_⟩
    unfold roomy
    rw [Nat.sub_self, show mks n 0 = [] from rfl, List.append_nil, show n + 3 - n = 3 by omega]
    exact r2
  case round =>
    clear hb r2
    obtain ⟨i, hi, hi3, rfl, hb, r2⟩ := hrel
    by_cases hlt : i < n3
    · have hlt' : (i : Int) < (n3 : Int) := by omega
      have eU : IntKind.u64.wrap (i : Int) = (i : Int) := by rw [IntKind.wrap_u64]; omega
      have HQ : Hid (dgs (mk i) 4 = [7, 7, 7, i]) := mk_dgs i (by omega)
      obtain ⟨cx, Hx⟩ : ∃ c, Wc c (mk i) := ⟨_, rfl⟩
      have ecx : #[Value.int IntKind.u64 7, Value.int IntKind.u64 7, Value.int IntKind.u64 7, Value.int IntKind.u64 (i : Int)] = cx.toArray := by rw [show cx = vQ (dgs (mk i) 4) from Hx, HQ.out]; rfl
      have hq3 : i < n + 3 := by have := HN3.out; omega
      have hlx : (xs ++ mks n (i - n)).length = i := by rw [List.length_append, mks_length, HN.out]; omega
      rw [roomy_now xs n i hi hq3] at r2
      have T := r2.there (i * 4) cx.toArray.size (by rw [List.size_toArray, Hx.len, flat_length, List.length_append, List.length_cons, hlx]; omega)
      have fin := flat_put (m := mk i) r2 i hlx
      rw [← roomy_next xs n i hi, ← show cx = vQ (dgs (mk i) 4) from Hx] at fin
      have hbf := below_setCells hb (b := w.heap.size) (o := i * 4) (Nat.le_refl _) cx
      have Hcx : Hid _ := ecx
      have HT : Hid _ := T
      have HF : Hid _ := fin
      clear r2 hb hi3 hlx T fin ecx
      go_wp2_with (first
        | (refine wpList_index_ws rfl (.tmp 20) (.tmp 21) rfl w.heap.size 0 n3 n3 i rfl rfl hlt ?_; rw [Nat.zero_add]; simp only [Act.put, List.setIfInBounds_toArray, List.set_cons_zero, List.set_cons_succ])
        | (refine wpList_store_mid rfl 24 (.tmp 25) (.tmp 24) rfl w.heap.size (i * 4) cx.toArray rfl (congrArg Value.agg Hcx.out) HT.out Hx.info' Hx.one ?_; simp only [Act.put]))
      exact ⟨⟨i + 1, by omega, hlt, by go_num, hbf, HF.out⟩, by simp [intOf]; omega⟩
    · obtain rfl : i = n3 := by omega
      have hlt' : ¬ (i : Int) < (i : Int) := by omega
      have HF : Hid (roomy xs n i = xs ++ mks n 3) := by
        show _ = _
        unfold roomy
        rw [HN3.out, show n + 3 - n = 3 by omega, Nat.sub_self, List.replicate_zero, List.append_nil]
      rw [HF.out] at r2
      clear hlt hi3 hi
      go_wp2
      go_ret
      exact ⟨w.heap.size, Nat.le_refl _, r2, rfl, hb⟩

end Go.Proofs.YtehccmlbnfhhmaaDoor
