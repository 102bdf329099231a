/-
  the law's byteMark, all.
-/
import Derived.Test.YtehjadgmleoobaaRqH
import Derived.BigQuiet

namespace Go.Proofs.Ytehjadgmleoobaa
open Go Go.RowKit
open Sha

set_option maxRecDepth 100000 in
set_option maxHeartbeats 1000000 in
theorem own11_any (B : Option Addr) (n cb : Nat) (bs : List (BitVec 8)) (hb : bs.length = n) (hl : n ≤ 140737488351232) (w : World) (hv : SlAt w (.slice B n cb) bs) :
    Calls Try.prog 9 #[.slice B n cb] w fun e w' => e = .returned (.slice (some ⟨w.heap.size, 0, none⟩) n n) ∧ Row w' w.heap.size (vB bs) 5 ∧ Below w.heap.size w w' := by
  have HV : Hid _ := hv
  have HB : Hid (bs.length = n) := hb
  have HT : Hid ((vB (bs.take n)).length = n) := by show _ = _; rw [vB_length, List.length_take, hb]; omega
  have E : Hid (bs.take n = bs) := by show _ = _; rw [← hb, List.take_length]
  clear hv hb
  go_enter Try.func9, Try.ntmps9
  go_wp2_with (first
    | (refine wpList_make1 rfl _ _ rfl n _ _ rfl rfl rfl rfl (by omega) ?_; intro W r1 b1 s1; have R1 : Hid _ := r1; have B1 : Hid (Below w.heap.size w W) := b1; have TH : Hid (W.there w.heap.size 0 (vB (bs.take n)).length) := r1.there 0 _ (by rw [HT.out, vB_length, List.length_replicate]; exact Nat.le_of_eq (Nat.zero_add _)); clear r1 b1 s1)
    | (refine wpList_copyb rfl (.tmp 7) (.tmp 8) rfl w.heap.size n n cb B bs HB.out rfl rfl (SlAt.be HV.out B1.out) TH.out ?_; simp only [Act.put, List.setIfInBounds_toArray, List.set_cons_zero, List.set_cons_succ]))
  have hr := Row.setCells 0 (vB (bs.take n)) R1.out (by rw [HT.out, vB_length, List.length_replicate]; exact Nat.le_of_eq (Nat.zero_add _))
  have hB := below_setCells B1.out (b := w.heap.size) (o := 0) (Nat.le_refl _) (vB (bs.take n))
  have e2 : List.take 0 (vB (List.replicate n 0#8)) ++ vB (bs.take n) ++ List.drop (0 + (vB (bs.take n)).length) (vB (List.replicate n 0#8)) = vB bs := by
    rw [HT.out, E.out, List.drop_of_length_le (by rw [vB_length, List.length_replicate]; omega)]; simp
  rw [e2] at hr
  have HR : Hid _ := hr
  have HBB : Hid _ := hB
  clear hr hB e2
  generalize World.setCells W w.heap.size 0 (vB (bs.take n)) = X at *
  go_wp2_with fail
  go_ret
  exact ⟨rfl, HR.out, HBB.out⟩

end Go.Proofs.Ytehjadgmleoobaa

namespace Go.Proofs.Ytehjadgmleoobaa
open Go Go.RowKit
open Sha

/-- What an owner writes at a place. -/
def bmv (i k : Nat) : Nat := 1 + (if k % 3 = 0 then i % 250 else if k % 3 = 1 then i / 250 % 250 else i / 62500 % 250)
def bmk (i k : Nat) : BitVec 8 := BitVec.ofNat 8 (bmv i k)
theorem bmv_lt (i k : Nat) : bmv i k ≤ 250 := by unfold bmv; split <;> (try split) <;> omega
theorem c_bmk (i k : Nat) : c (bmk i k) = (bmv i k : Int) := by
  have := bmv_lt i k
  unfold c bmk
  rw [BitVec.toNat_ofNat, Nat.mod_eq_of_lt (by omega)]
set_option maxRecDepth 100000 in
set_option maxHeartbeats 1000000 in
theorem byteMark_any (i k : Nat) (hi : i ≤ 4398046511104) (hk : k ≤ 4398046511104) (w : World) :
    Calls Try.prog 40 #[.int .i64 (i : Int), .int .i64 (k : Int)] w fun e w' => e = .returned (.int .u8 (c (bmk i k))) ∧ w' = w := by
  rw [c_bmk]
  have hl := bmv_lt i k
  by_cases h0 : k % 3 = 0
  · have e0 : (k : Int).tmod 3 = 0 := by rw [Int.tmod_eq_emod_of_nonneg (by omega)]; omega
    have e1 : bmv i k = 1 + i % 250 := by unfold bmv; rw [if_pos h0]
    obtain ⟨a, ha⟩ : ∃ a, a = i % 250 := ⟨_, rfl⟩
    have e2 : (i : Int).tmod 250 = (a : Int) := by rw [Int.tmod_eq_emod_of_nonneg (by omega)]; omega
    have hab : a < 250 := by omega
    rw [← ha] at e1
    rw [e1]
    clear e1 h0 ha hl
    go_enter Try.func40, Try.ntmps40
    go_wp2
    go_ret
    exact ⟨by first | rfl | (congr 2; omega) | (simp; omega), rfl⟩
  · by_cases h1 : k % 3 = 1
    · have e0 : (k : Int).tmod 3 = 1 := by rw [Int.tmod_eq_emod_of_nonneg (by omega)]; omega
      have e1 : bmv i k = 1 + i / 250 % 250 := by unfold bmv; rw [if_neg h0, if_pos h1]
      obtain ⟨a, ha⟩ : ∃ a, a = i / 250 % 250 := ⟨_, rfl⟩
      obtain ⟨b, hb⟩ : ∃ b, b = i / 250 := ⟨_, rfl⟩
      have e3 : (i : Int).tdiv 250 = (b : Int) := by rw [Int.tdiv_eq_ediv_of_nonneg (by omega)]; omega
      have e2 : (b : Int).tmod 250 = (a : Int) := by rw [Int.tmod_eq_emod_of_nonneg (by omega)]; omega
      have hab : a < 250 := by omega
      have hbb : b ≤ 4398046511104 := by omega
      rw [← ha] at e1
      rw [e1]
      clear e1 h0 h1 ha hb hl
      go_enter Try.func40, Try.ntmps40
      go_wp2
      go_ret
      exact ⟨by first | rfl | (congr 2; omega) | (simp; omega), rfl⟩
    · have e0 : (k : Int).tmod 3 = 2 := by rw [Int.tmod_eq_emod_of_nonneg (by omega)]; omega
      have e1 : bmv i k = 1 + i / 62500 % 250 := by unfold bmv; rw [if_neg h0, if_neg h1]
      obtain ⟨a, ha⟩ : ∃ a, a = i / 62500 % 250 := ⟨_, rfl⟩
      obtain ⟨b, hb⟩ : ∃ b, b = i / 62500 := ⟨_, rfl⟩
      have e3 : (i : Int).tdiv 62500 = (b : Int) := by rw [Int.tdiv_eq_ediv_of_nonneg (by omega)]; omega
      have e2 : (b : Int).tmod 250 = (a : Int) := by rw [Int.tmod_eq_emod_of_nonneg (by omega)]; omega
      have hab : a < 250 := by omega
      have hbb : b ≤ 4398046511104 := by omega
      rw [← ha] at e1
      rw [e1]
      clear e1 h0 h1 ha hb hl
      go_enter Try.func40, Try.ntmps40
      go_wp2
      go_ret
      exact ⟨by first | rfl | (congr 2; omega) | (simp; omega), rfl⟩
/-- A list that bears its owner's marks. -/
def bms (i n : Nat) : List (BitVec 8) := (List.range n).map (bmk i)
theorem bms_len (i n : Nat) : (bms i n).length = n := by simp [bms]
theorem bms_get (i n k : Nat) (h : k < n) : (bms i n).getD k 0 = bmk i k := by simp [bms, List.getD_eq_getElem?_getD, h]
theorem bms_snoc (i n : Nat) : bms i n ++ [bmk i n] = bms i (n + 1) := by simp [bms, List.range_succ]
set_option maxRecDepth 100000 in
set_option maxHeartbeats 1000000 in
theorem all_marks (i n : Nat) (hi : i ≤ 4398046511104) (hn : n ≤ 4398046511104) (A : Option Addr) (cap : Nat) (w : World) (h : SlAt w (.slice A n cap) (bms i n)) :
    Calls Try.prog 41 #[.slice A n cap, .int .i64 (i : Int)] w fun e w' => e = .returned (.bool true) ∧ Below w.heap.size w w' := by
  have HS : Hid (SlAt w (.slice A n cap) (bms i n)) := h
  clear h
  go_enter Try.func41, Try.ntmps41
  go_wp2
  go_loopw [5] (fun k wr => ∃ t : Nat, t ≤ n ∧ k = .int .i64 (t : Int) ∧ Hid (Below w.heap.size w wr)) (fun k _ => n - (intOf k).toNat)
  case atStart => exact ⟨0, Nat.zero_le _, rfl, Below.refl _ _⟩
  case round =>
    obtain ⟨t, ht, rfl, HB⟩ := hrel
    by_cases hlt : t < n
    · obtain ⟨b, o, rfl, hc⟩ := sl_cell HS.out t (by rw [bms_len]; exact hlt)
      rw [bms_get i n t hlt] at hc
      have c0 : wr.cell? ⟨b, o + t, none⟩ = some (.int .u8 (c (bmk i t))) := (HB.out.cell (p := ⟨b, o + t, none⟩) (World.block_lt_of_cell? w _ hc)).trans hc
      have HM : Hid (∀ X, Calls Try.prog 40 #[.int .i64 (i : Int), .int .i64 (t : Int)] X fun e w' => e = .returned (.int .u8 (c (bmk i t))) ∧ w' = X) := fun X => byteMark_any i t hi (by omega) X
      generalize bmk i t = x at *
      clear hc
      go_wp2_with fail
      go_quiet (first | (go_at_call 40; exact (HM.out (wr.drewN _)).mono (fun _ _ h => ⟨h.1, _, h.2⟩)))
      generalize hX : wr.drewN _ = X
      have D3 : Below wr.heap.size wr X := by rw [← hX]; exact ⟨rfl, rfl, rfl, Nat.le_refl _, fun _ _ => rfl⟩
      have BX : Hid (Below w.heap.size w X) := HB.out.trans (D3.mono HB.out.size)
      clear hX D3
      go_wp2
      refine ⟨⟨t + 1, hlt, by go_num, BX⟩, by simp [intOf]; omega⟩
    · obtain rfl : t = n := by omega
      go_wp2
      go_ret
      exact ⟨rfl, HB.out⟩

end Go.Proofs.Ytehjadgmleoobaa
