/-
  The law's lent and kept; a list of digests turned: whatever bytes stand there behind it.
-/
import Derived.Test.YtflllmhefehpgaaDoorTStr
namespace Go.Proofs.YtflllmhefehpgaaDoor
open Go Go.RowKit
open Sha

theorem c_xor1 (x : BitVec 8) : bits BinOp.xor IntKind.u8 (c x) 1 = c (x ^^^ 1#8) := by
  revert x; decide
theorem c_xor165 (x : BitVec 8) : bits BinOp.xor IntKind.u8 (c x) 165 = c (x ^^^ 165#8) := by
  revert x; decide

set_option maxRecDepth 100000 in
set_option maxHeartbeats 2000000 in
theorem turnd_any (bs : List (BitVec 8)) (n cap g : Nat) (hn : n * 32 ≤ bs.length) (hs : n ≤ 4398046511104) (w : World) (hr : Row w g (vB bs) 24) :
    Calls Tryd.prog 31 #[.slice (some ⟨g, 0, none⟩) n cap] w fun e w' => e = .returned (.tuple #[]) ∧ (∃ bs' : List (BitVec 8), bs'.length = bs.length ∧ Row w' g (vB bs') 24) ∧ But g w w' := by
  go_enter Tryd.func31, Tryd.ntmps31
  go_wp2
  go_loopw [2] (fun k wr => ∃ (t : Nat) (b2 : List (BitVec 8)), t ≤ n ∧ k = .int .i64 (t : Int) ∧ b2.length = bs.length ∧ Row wr g (vB b2) 24 ∧ But g w wr) (fun k _ => n - (intOf k).toNat)
  case atStart => exact ⟨0, bs, Nat.zero_le _, rfl, rfl, hr, But.refl _ _⟩
  case round =>
    clear hr
    obtain ⟨t, b2, ht, rfl, hl, hr, hb⟩ := hrel
    by_cases hlt : t < n
    · have hk : t * 32 + t % 32 < b2.length := by omega
      have g0 := hr.cell (t * 32 + t % 32) _ (vB_get b2 _ hk)
      have gf := hr.thaw (t * 32 + t % 32)
      have hc := c_xor1 (b2.getD (t * 32 + t % 32) 0)
      have hm : ((t % 32 : Nat) : Int) = (t : Int) % 32 := by omega
      generalize b2.getD (t * 32 + t % 32) 0 = x at g0 hc
      go_wp2_with fail
      go_region
      go_wp2
      refine ⟨⟨t + 1, b2.set (t * 32 + t % 32) (x ^^^ 1#8), hlt, by go_num, by rw [List.length_set]; exact hl, ?_, (hb.trans (But.setCell g _ _ _)).trans (But.drewN g 1 _)⟩, by simp [intOf]; omega⟩
      have := hr.set (t * 32 + t % 32) (.int .u8 (c (x ^^^ 1#8)))
      rw [vB_set] at this
      exact Row.drew this
    · obtain rfl : t = n := by omega
      go_wp2
      refine bodyPost_end (results_none rfl _ _ _) rfl ?_
      exact ⟨rfl, ⟨b2, hl, hr⟩, hb⟩

def marks70 : List (BitVec 8) := List.replicate 70 201#8
theorem lent_start (d : List (BitVec 8)) : (vB (List.replicate (d.length + 70) 0#8)).take 0 ++ vB d ++ (vB (List.replicate (d.length + 70) 0#8)).drop (0 + (vB d).length) = vB (d ++ (List.replicate 0 201#8 ++ List.replicate (70 - 0) 0#8)) := by
  simp [vB]
theorem lent_fill (d : List (BitVec 8)) (t : Nat) (h : t < 70) : (d ++ (List.replicate t 201#8 ++ List.replicate (70 - t) 0#8)).set (d.length + t) 201#8 = d ++ (List.replicate (t + 1) 201#8 ++ List.replicate (70 - (t + 1)) 0#8) := by
  rw [List.set_append_right _ _ (by omega), List.set_append_right _ _ (by simp), show 70 - t = (70 - (t + 1)) + 1 by omega, List.replicate_succ (n := 70 - (t + 1))]
  simp [List.replicate_succ' (n := t)]

set_option maxRecDepth 100000 in
set_option maxHeartbeats 1000000 in
theorem lent_any (d : List (BitVec 8)) (n : Nat) (hdn : d.length = n) (hd : n ≤ 140737488351232) (A : Option Addr) (cap : Nat) (w : World) (hv : SlAt w (.slice A n cap) d) :
    Calls Tryd.prog 10 #[.slice A n cap] w fun e w' => e = .returned (.slice (some ⟨w.heap.size, 0, none⟩) (n + 70) (n + 70)) ∧ Row w' w.heap.size (vB (d ++ marks70)) 5 ∧ Below w.heap.size w w' := by
  subst hdn
  have hv1 : ∀ o, SlAt (w.alloc o) (.slice A d.length cap) d := fun o => hv.below ((Below.refl _ _).alloc (Nat.le_refl _) _) (Nat.le_refl _)
  have HV : Hid _ := hv1
  clear hv1 hv
  go_enter Tryd.func10, Tryd.ntmps10
  go_wp2_with (first
    | (refine wpList_make1 rfl 22 (.tmp 7) (.tmp 7) rfl 5 (d.length + 70) _ _ (by omega) (by omega) rfl rfl (by omega) Tryd.underlying22 info_all_u8 ?_; simp only [Act.put, List.setIfInBounds_toArray, List.set_cons_zero, List.set_cons_succ])
    | (refine wpList_copy_sl rfl (.tmp 9) (.tmp 10) 22 22 rfl 5 w.heap.size (d.length + 70) (d.length + 70) (.slice A d.length cap) d (by omega) rfl rfl (HV.out _) Tryd.underlying22 info_u8 (Row.there (Row.new w (vB (List.replicate (d.length + 70) 0#8)) 5) 0 _ (by simp [vB_length])) ?_; simp only [Act.put, List.setIfInBounds_toArray, List.set_cons_zero, List.set_cons_succ]))
  obtain ⟨W1, hW1⟩ : ∃ W1, W1 = World.setCells (w.alloc (Obj.cells (vB (List.replicate (d.length + 70) 0#8)).toArray 5)) w.heap.size 0 (vB d) := ⟨_, rfl⟩
  have hB1 : Below w.heap.size w W1 := by rw [hW1]; exact below_setCells ((Below.refl _ _).alloc (Nat.le_refl _) _) (Nat.le_refl _) _
  have hr1 : Row W1 w.heap.size (vB (d ++ (List.replicate 0 201#8 ++ List.replicate (70 - 0) 0#8))) 5 := by
    have := Row.setCells 0 (vB d) (Row.new w (vB (List.replicate (d.length + 70) 0#8)) 5) (by simp [vB_length])
    rw [lent_start, ← hW1] at this; exact this
  rw [← hW1]
  clear hW1 HV
  go_loopw [4] (fun i wr => ∃ t : Nat, t ≤ 70 ∧ i = .int .i64 ((d.length : Int) + t) ∧ Below w.heap.size w wr ∧ Row wr w.heap.size (vB (d ++ (List.replicate t 201#8 ++ List.replicate (70 - t) 0#8))) 5)
    (fun i _ => d.length + 70 - (intOf i).toNat)
  case atStart => exact ⟨0, by omega, by simp, hB1, hr1⟩
  case round =>
    clear hB1 hr1
    obtain ⟨t, ht, rfl, hb, hr⟩ := hrel
    by_cases hlt : t < 70
    · have g := hr.cell (d.length + t) _ (vB_get _ (d.length + t) (by simp; omega))
      have gf := hr.thaw (d.length + t)
      generalize (d ++ (List.replicate t 201#8 ++ List.replicate (70 - t) 0#8)).getD (d.length + t) 0 = x at g
      go_wp2
      refine ⟨⟨t + 1, by omega, by go_num, hb.setCell (by simp) _, ?_⟩, by simp [intOf]; omega⟩
      have := hr.set (d.length + t) (.int .u8 (c 201#8))
      rw [vB_set, lent_fill d t hlt] at this
      exact this
    · obtain rfl : t = 70 := by omega
      go_wp2
      go_ret
      refine ⟨rfl, ?_, hb⟩
      simpa [marks70] using hr

theorem kept_get (d : List (BitVec 8)) (t : Nat) (h : t < 70) : (d ++ marks70).getD (d.length + t) 0 = 201#8 := by
  unfold marks70
  rw [List.getD_eq_getElem?_getD, List.getElem?_append_right (by omega), List.getElem?_replicate, if_pos (by omega)]; rfl

set_option maxRecDepth 100000 in
set_option maxHeartbeats 1000000 in
theorem kept_any (d : List (BitVec 8)) (n : Nat) (hdn : d.length = n) (hd : n ≤ 140737488351232) (g : Nat) (A : Option Addr) (cap : Nat) (w : World) (hr : Row w g (vB (d ++ marks70)) 5) (hv : SlAt w (.slice A n cap) d) :
    Calls Tryd.prog 12 #[.slice (some ⟨g, 0, none⟩) (n + 70) (n + 70), .slice A n cap] w fun e w' => e = .returned (.bool true) ∧ Below w.heap.size w w' := by
  subst hdn
  have HV : Hid _ := hv
  have hs : SlAt w (.slice (some ⟨g, 0, none⟩) d.length (d.length + 70)) d := .inr ⟨g, 0, d.length + 70, rfl, by omega, fun j v hj => hr.all j v (by rw [vB_append, List.getElem?_append_left (List.getElem?_eq_some_iff.1 hj).1]; exact hj)⟩
  have HS : Hid _ := hs
  clear hv hs
  go_enter Tryd.func12, Tryd.ntmps12
  go_wp2
  go_loopw [5] (fun i wr => ∃ t : Nat, t ≤ 70 ∧ i = .int .i64 ((d.length : Int) + t) ∧ wr = w)
    (fun i _ => d.length + 70 - (intOf i).toNat)
  case atStart => exact ⟨0, by omega, by simp, rfl⟩
  case round =>
    obtain ⟨t, ht, rfl, rfl⟩ := hrel
    by_cases hlt : t < 70
    · have g0 := hr.cell (d.length + t) _ (vB_get _ (d.length + t) (by simp [marks70]; omega))
      rw [kept_get d t hlt, show c 201#8 = 201 from rfl] at g0
      clear hr
      go_wp2
      exact ⟨⟨t + 1, by omega, by go_num, trivial⟩, by simp [intOf]; omega⟩
    · obtain rfl : t = 70 := by omega
      clear hr
      have k1 := fun (W : World) (h : SlAt W (.slice A d.length cap) d) => run_convert_sl (P := Tryd.prog) W 22 5 9 Tryd.underlying22 Tryd.underlying5 Tryd.underlying9 _ d h
      have k2 := run_convert_sl (P := Tryd.prog) wr.drew 22 5 9 Tryd.underlying22 Tryd.underlying5 Tryd.underlying9 _ d HS.out
      replace k1 := k1 wr.drew HV.out
      have hst : ((str d).toList == (str d).toList) = true := by simp
      generalize str d = s at k1 k2 hst
      go_wp2_with fail
      go_region
      go_wp2
      go_ret
      exact ⟨rfl, Below.drew (Below.refl _ _)⟩

end Go.Proofs.YtflllmhefehpgaaDoor
