/-
  The law's other: as many leaves, all bytes other ones.
-/
import Derived.Test.YtnogjhbohljjnaaDoorTTwin
namespace Go.Proofs.YtnogjhbohljjnaaDoor
open Go Go.RowKit
open Sha

/-- A leaf, its first bytes turned. -/
def xw (d : List (BitVec 8)) (s : Nat) : List (BitVec 8) := (d.take s).map (· ^^^ 165#8) ++ d.drop s
theorem xw_len (d : List (BitVec 8)) (s : Nat) : (xw d s).length = d.length := by simp [xw]; omega
theorem xw_zero (d : List (BitVec 8)) : xw d 0 = d := by simp [xw]
theorem xw_all (d : List (BitVec 8)) : xw d d.length = d.map (· ^^^ 165#8) := by simp [xw]
theorem xw_get (d : List (BitVec 8)) (s : Nat) (h : s < d.length) : (xw d s).getD s 0 = d.getD s 0 := by
  unfold xw
  rw [List.getD_eq_getElem?_getD, List.getElem?_append_right (by simp; omega), List.getElem?_drop, List.getD_eq_getElem?_getD]
  congr 2
  simp; omega
theorem xw_set (d : List (BitVec 8)) (s : Nat) (h : s < d.length) : (xw d s).set s (d.getD s 0 ^^^ 165#8) = xw d (s + 1) := by
  unfold xw
  have hl : ((d.take s).map (· ^^^ 165#8)).length = s := by simp; omega
  rw [List.set_append_right _ _ (by omega), hl, Nat.sub_self, List.drop_eq_getElem_cons h, List.set_cons_zero, List.take_succ_eq_append_getElem h, List.map_append, List.append_assoc]
  simp [List.getD_eq_getElem?_getD, List.getElem?_eq_getElem h]
/-- Leaves, all bytes other ones. -/
def oth (ps : List (List (BitVec 8))) : List (List (BitVec 8)) := ps.map (·.map (· ^^^ 165#8))
theorem oth_len (ps : List (List (BitVec 8))) : (oth ps).length = ps.length := by simp [oth]
theorem oth_get (ps : List (List (BitVec 8))) (i : Nat) : (oth ps).getD i [] = (ps.getD i []).map (· ^^^ 165#8) := by
  simp only [oth, List.getD_eq_getElem?_getD, List.getElem?_map]
  cases ps[i]? <;> rfl
theorem oth_twv (g : Nat) (ps : List (List (BitVec 8))) (t : Nat) : twv g (oth ps) t = twv g ps t := by
  unfold twv
  apply List.map_congr_left
  intro i _
  rw [oth_get, List.length_map]
/-- How far the leaf of a number is turned. -/
def far (ps : List (List (BitVec 8))) (t s i : Nat) : Nat := if i < t then (ps.getD i []).length else if i = t then s else 0
structure Ot (w : World) (g : Nat) (ps : List (List (BitVec 8))) (n t s : Nat) : Prop where
  row : Row w g (twv (g + 1) ps n) 22
  each : ∀ i, i < n → Row w (g + 1 + i) (vB (xw (ps.getD i []) (far ps t s i))) 5
theorem Ot.next {w : World} {g : Nat} {ps : List (List (BitVec 8))} {n t : Nat} (h : Ot w g ps n t (ps.getD t []).length) : Ot w g ps n (t + 1) 0 :=
  ⟨h.row, fun i hi => by
    have e : far ps (t + 1) 0 i = far ps t (ps.getD t []).length i := by
      unfold far
      by_cases h1 : i < t
      · rw [if_pos (by omega), if_pos h1]
      · by_cases h2 : i = t
        · subst h2; rw [if_pos (by omega), if_neg (by omega), if_pos rfl]
        · rw [if_neg (by omega), if_neg h1, if_neg h2, ite_self]
    rw [e]; exact h.each i hi⟩

set_option maxRecDepth 100000 in
set_option maxHeartbeats 2000000 in
theorem other_any (ps : List (List (BitVec 8))) (n : Nat) (hn : ps.length = n) (hs : n ≤ 1048576) (hl : ∀ i, i < n → (ps.getD i []).length ≤ 140737488351232) (A : Option Addr) (cap : Nat) (w : World) (hv : Lv w A ps) :
    Calls Tryd.prog 19 #[.slice A n cap] w fun e w' => e = .returned (.slice (some ⟨w.heap.size, 0, none⟩) n n) ∧ Tw w' w.heap.size (oth ps) n n ∧ Below w.heap.size w w' := by
  have HL : Hid (∀ i, i < n → (ps.getD i []).length ≤ 140737488351232) := hl
  have HT : Hid (∀ W, Below w.heap.size w W → W.heap.size = w.heap.size → _) := fun W (_ : Below w.heap.size w W) (_ : W.heap.size = w.heap.size) => twin_any ps n hn hs hl A cap w hv
  clear hv hl hn
  go_enter Tryd.func19, Tryd.ntmps19
  go_wp2_with fail
  refine (HT.out w (Below.refl _ _) rfl).mono ?_
  rintro e W1 ⟨rfl, tw, hB1⟩
  have h0 : Ot W1 w.heap.size ps n 0 0 := ⟨by simpa using tw.row, fun i hi => by
    have e : far ps 0 0 i = 0 := by unfold far; rw [if_neg (by omega), ite_self]
    rw [e, xw_zero]; exact tw.each i hi⟩
  clear tw HT
  generalize hG : w.heap.size = g at *
  go_wp2_with fail
  go_loopw [4] (fun i wr => ∃ t : Nat, t ≤ n ∧ i = .int .i64 (t : Int) ∧ Below g w wr ∧ Ot wr g ps n t 0) (fun i _ => n - (intOf i).toNat)
  case atStart => exact ⟨0, by omega, rfl, hB1, h0⟩
  case round =>
    clear hB1 h0
    obtain ⟨t, ht, rfl, hb, ho⟩ := hrel
    by_cases hlt : t < n
    · have HDL := HL.out t hlt
      have HNX : Hid (∀ W, Ot W g ps n t (ps.getD t []).length → Ot W g ps n (t + 1) 0) := fun W h => h.next
      obtain ⟨L, hL⟩ : ∃ L, L = (ps.getD t []).length := ⟨_, rfl⟩
      have gv : ∀ W s, Ot W g ps n t s → W.cell? ⟨g, t, none⟩ = some (.slice (some ⟨g + 1 + t, 0, none⟩) L L) := fun W s h => by
        rw [hL]; exact h.row.cell t _ (twv_get _ _ _ _ hlt)
      have GV : Hid (∀ W s, _ → _) := gv
      rw [← hL] at HDL HNX
      have HLL : Hid (L = (ps.getD t []).length) := hL
      clear hL gv
      go_wp2
      go_loopw [5] (fun k wq => ∃ s : Nat, s ≤ L ∧ k = .int .i64 (s : Int) ∧ Below g w wq ∧ Ot wq g ps n t s) (fun k _ => L - (intOf k).toNat)
      case atStart => exact ⟨0, by omega, rfl, hb, ho⟩
      case round =>
        clear hb ho
        obtain ⟨s, hsl, rfl, hb, ho⟩ := hrel
        have g0 := GV.out _ s ho
        have HO : Hid (Ot wr g ps n t s) := ho
        by_cases hlts : s < L
        · have he := ho.each t hlt
          have ef : far ps t s t = s := by unfold far; rw [if_neg (by omega), if_pos rfl]
          rw [ef] at he
          have hls : s < (ps.getD t []).length := by rw [← HLL.out]; exact hlts
          have g1 := he.cell s _ (vB_get _ s (by rw [xw_len]; exact hls))
          rw [xw_get _ _ hls] at g1
          have gf := he.thaw s
          have hset := he.set s (.int .u8 (c ((ps.getD t []).getD s 0 ^^^ 165#8)))
          rw [vB_set, xw_set _ _ hls] at hset
          have hc := c_xor165 ((ps.getD t []).getD s 0)
          have HS : Hid (Row _ _ _ _) := hset
          generalize (ps.getD t []).getD s 0 = x at g1 hc HS
          clear ho he hset hls ef
          go_wp2_with fail
          go_region
          go_wp2
          refine ⟨⟨s + 1, hlts, by go_num, Below.drew (hb.setCell (by simp; omega) _), ⟨Row.drew (HO.out.row.set_other _ _ _ (by omega)), fun i hi => ?_⟩⟩, by simp [intOf]; omega⟩
          by_cases e : i = t
          · subst e
            have ef : far ps i (s + 1) i = s + 1 := by unfold far; rw [if_neg (by omega), if_pos rfl]
            rw [ef]
            exact Row.drew HS.out
          · have ef : far ps t (s + 1) i = far ps t s i := by unfold far; rw [if_neg e, if_neg e]
            rw [ef]
            exact Row.drew ((HO.out.each i hi).set_other _ _ _ (by omega))
        · obtain rfl : s = L := by omega
          clear ho
          go_wp2
          exact ⟨⟨t + 1, hlt, by go_num, hb, HNX.out _ HO.out⟩, by simp [intOf]; omega⟩
    · obtain rfl : t = n := by omega
      go_wp2
      go_ret
      subst hG
      refine ⟨rfl, ⟨?_, fun i hi => ?_⟩, hb⟩
      · rw [oth_twv, Nat.sub_self, List.replicate_zero, List.append_nil]; exact ho.row
      · have := ho.each i hi
        rw [show far ps t 0 i = (ps.getD i []).length from if_pos hi, xw_all] at this
        rw [oth_get]; exact this

end Go.Proofs.YtnogjhbohljjnaaDoor
