/-
  The helpers of the laws: lent, other, same, kept.
-/
import Derived.Test.YtihigbkanbabeaaDoorRMath
namespace Go.Proofs.YtihigbkanbabeaaDoor
open Go Go.RowKit
open Sha

def marks : List (BitVec 8) := List.replicate 80 201#8
def oth (d : List (BitVec 8)) : List (BitVec 8) := d.map (fun x => x ^^^ 165#8)
theorem oth_length (d : List (BitVec 8)) : (oth d).length = d.length := by simp [oth]

theorem oth_take (d : List (BitVec 8)) (t : Nat) (h : t < d.length) : oth (d.take (t + 1)) = oth (d.take t) ++ [d.getD t 0 ^^^ 165#8] := by
  have e : d.take (t + 1) = d.take t ++ [d.getD t 0] := by
    rw [List.take_succ_eq_append_getElem h]; simp [h]
  rw [e]; unfold oth; rw [List.map_append]; rfl

theorem c_xor (x : BitVec 8) : bits BinOp.xor IntKind.u8 (c x) 165 = c (x ^^^ 165#8) := by
  revert x; decide

theorem lent_start (d : List (BitVec 8)) : (vB (List.replicate (d.length + 80) 0#8)).take 0 ++ vB d ++ (vB (List.replicate (d.length + 80) 0#8)).drop (0 + (vB d).length) = vB (d ++ (List.replicate 0 201#8 ++ List.replicate (80 - 0) 0#8)) := by
  simp [vB]
theorem lent_fill (d : List (BitVec 8)) (t : Nat) (h : t < 80) : (d ++ (List.replicate t 201#8 ++ List.replicate (80 - t) 0#8)).set (d.length + t) 201#8 = d ++ (List.replicate (t + 1) 201#8 ++ List.replicate (80 - (t + 1)) 0#8) := by
  rw [List.set_append_right _ _ (by omega), List.set_append_right _ _ (by simp), show 80 - t = (80 - (t + 1)) + 1 by omega, List.replicate_succ (n := 80 - (t + 1))]
  simp [List.replicate_succ' (n := t)]

set_option maxRecDepth 100000 in
set_option maxHeartbeats 1000000 in
theorem lent_any (d : List (BitVec 8)) (hd : d.length ≤ 140737488351232) (A : Option Addr) (cap : Nat) (w : World) (hv : SlAt w (.slice A d.length cap) d) :
    Calls Tryd.prog 10 #[.slice A d.length cap] w fun e w' => (∃ v, e = .returned v ∧ New w' w.heap.size v (d ++ marks)) ∧ Below w.heap.size w w' := by
  have hv1 : ∀ o, SlAt (w.alloc o) (.slice A d.length cap) d := fun o => hv.below ((Below.refl _ _).alloc (Nat.le_refl _) _) (Nat.le_refl _)
  have HV : Hid _ := hv1
  clear hv1 hv
  go_enter Tryd.func10, Tryd.ntmps10
  go_wp2_with (first
    | (refine wpList_make1 rfl 22 (.tmp 7) (.tmp 7) rfl 5 (d.length + 80) _ _ (by omega) (by omega) rfl rfl (by omega) Tryd.underlying22 info_all_u8 ?_; simp only [Act.put, List.setIfInBounds_toArray, List.set_cons_zero, List.set_cons_succ])
    | (refine wpList_copy_sl rfl (.tmp 9) (.tmp 10) 22 22 rfl 5 w.heap.size (d.length + 80) (d.length + 80) (.slice A d.length cap) d (by omega) rfl rfl (HV.out _) Tryd.underlying22 info_u8 (Row.there (Row.new w (vB (List.replicate (d.length + 80) 0#8)) 5) 0 _ (by simp [vB_length])) ?_; simp only [Act.put, List.setIfInBounds_toArray, List.set_cons_zero, List.set_cons_succ]))
  obtain ⟨W1, hW1⟩ : ∃ W1, W1 = World.setCells (w.alloc (Obj.cells (vB (List.replicate (d.length + 80) 0#8)).toArray 5)) w.heap.size 0 (vB d) := ⟨_, rfl⟩
  have hB1 : Below w.heap.size w W1 := by rw [hW1]; exact below_setCells ((Below.refl _ _).alloc (Nat.le_refl _) _) (Nat.le_refl _) _
  have hr1 : Row W1 w.heap.size (vB (d ++ (List.replicate 0 201#8 ++ List.replicate (80 - 0) 0#8))) 5 := by
    have := Row.setCells 0 (vB d) (Row.new w (vB (List.replicate (d.length + 80) 0#8)) 5) (by simp [vB_length])
    rw [lent_start, ← hW1] at this; exact this
  rw [← hW1]
  clear hW1 HV
  go_loopw [4] (fun i wr => ∃ t : Nat, t ≤ 80 ∧ i = .int .i64 ((d.length : Int) + t) ∧ Below w.heap.size w wr ∧ Row wr w.heap.size (vB (d ++ (List.replicate t 201#8 ++ List.replicate (80 - t) 0#8))) 5)
    (fun i _ => d.length + 80 - (intOf i).toNat)
  case atStart => exact ⟨0, by omega, by simp, hB1, hr1⟩
  case round =>
    clear hB1 hr1
    obtain ⟨t, ht, rfl, hb, hr⟩ := hrel
    by_cases hlt : t < 80
    · have g := hr.cell (d.length + t) _ (vB_get _ (d.length + t) (by simp; omega))
      have gf := hr.thaw (d.length + t)
      generalize (d ++ (List.replicate t 201#8 ++ List.replicate (80 - t) 0#8)).getD (d.length + t) 0 = x at g
      go_wp2
      refine ⟨⟨t + 1, by omega, by go_num, hb.setCell (by simp) _, ?_⟩, by simp [intOf]; omega⟩
      have := hr.set (d.length + t) (.int .u8 (c 201#8))
      rw [vB_set, lent_fill d t hlt] at this
      exact this
    · obtain rfl : t = 80 := by omega
      go_wp2
      go_ret
      refine ⟨⟨_, rfl, w.heap.size, ?_, Nat.le_refl _, ?_⟩, hb⟩
      · simp [marks]
      · simpa [marks] using hr

theorem run_convert_sl {P : Program} (w : World) (src e dst : TypeId) (hs : P.underlying src = some (.slice e)) (he : P.underlying e = some (.int .u8)) (hd : P.underlying dst = some .string) (v : Value) (d : List (BitVec 8)) (hv : SlAt w v d) :
    (convert src dst v).run P w = .ok (.string (str d)) w := by
  rcases hv with ⟨rfl, A, cap, rfl⟩ | ⟨ab, ao, cap, rfl, _, hr⟩
  · cases A with
    | none =>
      rw [run_convert_bytes_string w src dst e none 0 cap hs he hd]
      simp [Conv.bytesToString]
      rfl
    | some p =>
      have hl : (loadCells p 0).run P w = .ok (([] : List Int).map (Value.int .u8)).toArray w := run_loadCells_list (P := P) w p [] (fun j v hj => by simp at hj)
      rw [run_convert_bytes_string w src dst e _ 0 cap hs he hd, run_bytesToString w _ 0 cap [] hl]
      rfl
  · exact run_convert_str w src e dst hs he hd ab ao cap d.length d rfl hr

theorem same_any (d : List (BitVec 8)) (v1 v2 : Value) (w : World) (h1 : SlAt w v1 d) (h2 : SlAt w v2 d) :
    Calls Tryd.prog 17 #[v1, v2] w fun e w' => e = .returned (.bool true) ∧ w' = w := by
  have c1 := run_convert_sl (P := Tryd.prog) w 22 5 9 Tryd.underlying22 Tryd.underlying5 Tryd.underlying9 v1 d h1
  have c2 := run_convert_sl (P := Tryd.prog) w 22 5 9 Tryd.underlying22 Tryd.underlying5 Tryd.underlying9 v2 d h2
  have HS : Hid (str d = str d) := rfl
  generalize str d = s at c1 c2
  clear h1 h2
  go_enter Tryd.func17, Tryd.ntmps17
  go_wp2
  go_ret
  exact ⟨by simp, rfl⟩

theorem kept_get (d : List (BitVec 8)) (t : Nat) (h : t < 80) : (d ++ marks).getD (d.length + t) 0 = 201#8 := by
  unfold marks
  rw [List.getD_eq_getElem?_getD, List.getElem?_append_right (by omega), List.getElem?_replicate, if_pos (by omega)]; rfl

set_option maxRecDepth 100000 in
set_option maxHeartbeats 1000000 in
theorem kept_any (d : List (BitVec 8)) (hd : d.length ≤ 140737488351232) (g : Nat) (A : Option Addr) (cap : Nat) (w : World) (hr : Row w g (vB (d ++ marks)) 5) (hv : SlAt w (.slice A d.length cap) d) :
    Calls Tryd.prog 12 #[.slice (some ⟨g, 0, none⟩) (d.length + 80) (d.length + 80), .slice A d.length cap] w fun e w' => e = .returned (.bool true) ∧ w' = w := by
  have HV : Hid _ := hv
  have hs : SlAt w (.slice (some ⟨g, 0, none⟩) (d.length + 80) (d.length + 80)) (d ++ marks) := .inr ⟨g, 0, d.length + 80, by simp [marks], by simp [marks], hr.all⟩
  have HS : Hid _ := hs
  clear hv hs
  go_enter Tryd.func12, Tryd.ntmps12
  go_wp2
  go_loopw [5] (fun i wr => ∃ t : Nat, t ≤ 80 ∧ i = .int .i64 ((d.length : Int) + t) ∧ wr = w)
    (fun i _ => d.length + 80 - (intOf i).toNat)
  case atStart => exact ⟨0, by omega, by simp, rfl⟩
  case round =>
    obtain ⟨t, ht, rfl, rfl⟩ := hrel
    by_cases hlt : t < 80
    · have g0 := hr.cell (d.length + t) _ (vB_get _ (d.length + t) (by simp [marks]; omega))
      rw [kept_get d t hlt, show c 201#8 = 201 from rfl] at g0
      clear hr
      go_wp2
      exact ⟨⟨t + 1, by omega, by go_num, trivial⟩, by simp [intOf]; omega⟩
    · obtain rfl : t = 80 := by omega
      clear hr
      go_wp2_with (first
        | (refine wpList_slice_h rfl 22 (.tmp 19) (.tmp 21) rfl wr 5 (some ⟨g, 0, none⟩) (d.length + 80) (d.length + 80) (d ++ marks) HS.out d.length _ rfl rfl rfl (by simp) Tryd.underlying22 info_u8 ?_; intro B5 c5 hS5; rw [List.take_left] at hS5; simp only [Act.put, List.setIfInBounds_toArray, List.set_cons_zero, List.set_cons_succ])
        | (go_at_call 17; refine (same_any d _ _ wr hS5 HV.out).mono ?_; rintro e wr ⟨rfl, rfl⟩))
      go_ret
      exact ⟨rfl, rfl⟩

set_option maxRecDepth 100000 in
set_option maxHeartbeats 1000000 in
theorem other_any (d : List (BitVec 8)) (hd : d.length ≤ 140737488351232) (A : Option Addr) (cap : Nat) (w : World) (hv : SlAt w (.slice A d.length cap) d) :
    Calls Tryd.prog 13 #[.slice A d.length cap] w fun e w' => (∃ v, e = .returned v ∧ New w' w.heap.size v (oth d)) ∧ Below w.heap.size w w' := by
  have HV : Hid _ := hv
  clear hv
  go_enter Tryd.func13, Tryd.ntmps13
  go_wp2_with (refine wpList_make1 rfl 22 (.tmp 6) (.tmp 6) rfl 5 d.length _ _ rfl rfl rfl rfl (by omega) Tryd.underlying22 info_all_u8 ?_; simp only [Act.put, List.setIfInBounds_toArray, List.set_cons_zero, List.set_cons_succ])
  go_loopw [4] (fun i wr => ∃ t : Nat, t ≤ d.length ∧ i = .int .i64 (t : Int) ∧ Below w.heap.size w wr ∧ Row wr w.heap.size (vB (oth (d.take t) ++ List.replicate (d.length - t) 0#8)) 5)
    (fun i _ => d.length - (intOf i).toNat)
  case atStart => exact ⟨0, by omega, rfl, (Below.refl _ _).alloc (Nat.le_refl _) _, Row.new' rfl (by simp [oth])⟩
  case round =>
    obtain ⟨t, ht, rfl, hb, hr⟩ := hrel
    by_cases hlt : t < d.length
    · rcases HV.out with ⟨h0, _⟩ | ⟨ab, ao, c', hiv, hcap, hir⟩
      · rw [h0] at hlt; simp at hlt
      simp only [Value.slice.injEq] at hiv
      obtain ⟨rfl, _, rfl⟩ := hiv
      have gz : wr.cell? ⟨ab, ao + t, none⟩ = some (.int .u8 (c (d.getD t 0))) := range_below hir hb (Nat.le_refl _) t _ (vB_get d t (by omega))
      have g := hr.cell t _ (vB_get _ t (by simp [oth]; omega))
      have gf := hr.thaw t
      have HT : Hid ((oth (d.take t) ++ List.replicate (d.length - t) 0#8).set t (d.getD t 0 ^^^ 165#8) = oth (d.take (t + 1)) ++ List.replicate (d.length - (t + 1)) 0#8) := by
        show _ = _
        rw [oth_take d t hlt, show d.length - t = (d.length - (t + 1)) + 1 by omega, List.replicate_succ, set_app _ _ _ _ t (by rw [oth_length, List.length_take]; omega), List.append_assoc]
        rfl
      generalize d.getD t 0 = x at gz HT
      generalize (oth (d.take t) ++ List.replicate (d.length - t) 0#8).getD t 0 = y at g
      have hx := c_xor x
      clear hir HV
      go_wp2
      refine ⟨⟨t + 1, by omega, by go_num, hb.setCell (by simp) _, ?_⟩, by simp [intOf]; omega⟩
      have := hr.set t (.int .u8 (c (x ^^^ 165#8)))
      rw [vB_set, HT.out] at this
      exact this
    · have e1 : t = d.length := by omega
      rw [e1] at hr
      go_wp2
      go_ret
      refine ⟨⟨_, rfl, w.heap.size, ?_, Nat.le_refl _, ?_⟩, hb⟩
      · rw [oth_length]; rfl
      · simpa using hr

end Go.Proofs.YtihigbkanbabeaaDoor
