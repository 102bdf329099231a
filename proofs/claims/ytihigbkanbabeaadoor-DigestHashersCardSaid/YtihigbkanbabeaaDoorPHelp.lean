/-
  small, Joined and the document's Parts.
-/
import Derived.Test.YtihigbkanbabeaaDoorPMem
namespace Go.Proofs.YtihigbkanbabeaaDoor
open Go Go.RowKit
open Sha

set_option maxRecDepth 100000 in
set_option maxHeartbeats 1000000 in
theorem small_any (A : Option Addr) (n cap : Nat) (ps : List (List (BitVec 8))) (vs : List Value) (w : World) (hI : Ins w A n ps vs) (hn : n ≤ 140737488351232) (hp : ∀ i, i < n → (ps.getD i []).length ≤ 140737488351232) :
    Calls Tryd.prog 15 #[.slice A n cap] w fun e w' => ∃ b, e = .returned (.bool b) ∧ w' = w ∧ (b = true → ps.flatten.length ≤ 1048576) := by
  have HI : Hid (Ins w A n ps vs) := hI
  have HP : Hid _ := hp
  clear hI hp
  go_enter Tryd.func15, Tryd.ntmps15
  go_wp2
  go_loopw [3, 4] (fun s i wr => ∃ t : Nat, t ≤ n ∧ i = .int .i64 (t : Int) ∧ s = .int .i64 ((ps.take t).flatten.length : Int) ∧ (ps.take t).flatten.length ≤ 140737489399808 ∧ wr = w)
    (fun _ i _ => n - (intOf i).toNat)
  case atStart => exact ⟨0, by omega, rfl, rfl, by simp, rfl⟩
  case round =>
    obtain ⟨t, ht, rfl, rfl, hb, rfl⟩ := hrel
    by_cases hs : (ps.take t).flatten.length ≤ 1048576
    · by_cases hlt : t < n
      · obtain ⟨pb, po, A', c, rfl, gz, _, _⟩ := HI.out.one t hlt
        have HT : Hid ((ps.take (t + 1)).flatten.length = (ps.take t).flatten.length + (ps.getD t []).length) := by show _ = _; rw [flat_take ps t (by rw [HI.out.num]; exact hlt), List.length_append]
        have hpt := HP.out t hlt
        generalize (ps.take t).flatten.length = s at *
        generalize (ps.getD t []).length = m at *
        go_wp2
        refine ⟨⟨t + 1, hlt, by go_num, by rw [HT.out]; go_num, by rw [HT.out]; omega, trivial⟩, by simp [intOf]; omega⟩
      · have et : t = n := by omega
        have HF : Hid ((ps.take t).flatten = ps.flatten) := by show _ = _; rw [List.take_of_length_le (by rw [HI.out.num]; omega)]
        have HS : Hid (ps.flatten.length ≤ 1048576) := by show _ ≤ _; rw [← HF.out]; exact hs
        clear HF
        generalize (ps.take t).flatten.length = s at *
        go_wp2
        go_ret
        exact ⟨_, rfl, rfl, fun _ => HS.out⟩
    · generalize (ps.take t).flatten.length = s at *
      go_wp2
      all_goals
        go_ret
        exact ⟨_, rfl, rfl, fun h => by exfalso; simp at h; omega⟩

set_option maxRecDepth 100000 in
set_option maxHeartbeats 1000000 in
theorem joined_any (A : Option Addr) (n cap : Nat) (ps : List (List (BitVec 8))) (vs : List Value) (w : World) (hI : Ins w A n ps vs) (hn : n ≤ 140737488351232) (hp : ps.flatten.length ≤ 1048576) :
    Calls Tryd.prog 19 #[.slice A n cap] w fun e w' => ∃ v, e = .returned v ∧ w'.ownsRow w.heap.size 5 1 v ps.flatten.length (vB ps.flatten) ∧ Below w.heap.size w w' := by
  have HI : Hid (Ins w A n ps vs) := hI
  clear hI
  go_enter Tryd.func19, Tryd.ntmps19
  go_wp2
  go_loopw [3, 4] (fun v i wr => ∃ t : Nat, t ≤ n ∧ i = .int .i64 (t : Int) ∧ wr.ownsRow w.heap.size 5 1 v (ps.take t).flatten.length (vB (ps.take t).flatten) ∧ Below w.heap.size w wr)
    (fun _ i _ => n - (intOf i).toNat)
  case atStart => exact ⟨0, by omega, rfl, World.ownsRow_nil _ _ _ _, Below.refl _ _⟩
  case round =>
    obtain ⟨t, ht, rfl, hown, hb⟩ := hrel
    by_cases hlt : t < n
    · obtain ⟨pb, po, A', c, rfl, gz0, hS0, hnil⟩ := HI.out.one t hlt
      have gz : wr.cell? ⟨pb, po + t, none⟩ = some (.slice A' (ps.getD t []).length c) := ((HI.out.low hb).lies (by omega)).elim (fun pb' ⟨po', hA, hr⟩ => by
        simp only [Option.some.injEq, Addr.mk.injEq] at hA
        obtain ⟨rfl, rfl, _⟩ := hA
        obtain ⟨A2, c2, hf, _⟩ := HI.out.form t hlt
        have h1 := hr t _ (vs_get vs t (by rw [HI.out.len]; exact hlt))
        obtain ⟨pb3, po3, hA3, hr3⟩ := HI.out.lies (by omega)
        simp only [Option.some.injEq, Addr.mk.injEq] at hA3
        obtain ⟨rfl, rfl, _⟩ := hA3
        have h3 := hr3 t _ (vs_get vs t (by rw [HI.out.len]; exact hlt))
        rw [h1, ← h3, gz0])
      have HT : Hid ((ps.take (t + 1)).flatten = (ps.take t).flatten ++ ps.getD t []) := flat_take ps t (by rw [HI.out.num]; exact hlt)
      have hle := take_flat_length ps t (by rw [HI.out.num]; exact hlt)
      have HSJ : Hid (SlAt wr (.slice A' (ps.getD t []).length c) (ps.getD t [])) := hS0.below hb (Nat.le_refl _)
      have HOWN : Hid _ := hown
      have HNIL : Hid _ := hnil
      clear hS0 gz0 hown hnil
      generalize (ps.take t).flatten = l at *
      generalize ps.getD t [] = q at *
      go_wp2_with (refine wpList_append_bytes rfl (.tmp 11) (.tmp 15) rfl wr w w.heap.size w.heap.size _ l.length q.length l q HOWN.out rfl A' c rfl rfl HSJ.out HNIL.out (by omega) hb.size (Nat.le_refl _) hb ?_; intro v7 W7 ho7 hW7 hg7; clear hg7; simp only [Act.put, List.setIfInBounds_toArray, List.set_cons_zero, List.set_cons_succ])
      refine ⟨⟨t + 1, hlt, by go_num, by rw [HT.out, List.length_append]; exact ho7, hW7⟩, by simp [intOf]; omega⟩
    · have et : t = n := by omega
      have HF : (ps.take t).flatten = ps.flatten := by rw [List.take_of_length_le (by rw [HI.out.num]; omega)]
      rw [HF] at hown
      clear HF
      go_wp2
      go_ret
      exact ⟨_, rfl, hown, hb⟩

set_option maxRecDepth 100000 in
set_option maxHeartbeats 1000000 in
theorem rparts_any (A : Option Addr) (n cap : Nat) (ps : List (List (BitVec 8))) (vs : List Value) (dd : List (BitVec 8)) (hdd : dd = dig ps.flatten) (w : World) (hI : Ins w A n ps vs) (hn : n ≤ 140737488351232) (hp : ps.flatten.length ≤ 1048576) (hG : Given w) :
    Calls Tryd.prog 18 #[.slice A n cap] w fun e w' => e = .returned (.agg (vB dd).toArray) ∧ Below w.heap.size w w' := by
  have hj := fun W h => joined_any A n cap ps vs W h hn hp
  obtain ⟨F, hF⟩ : ∃ F, F = ps.flatten := ⟨_, rfl⟩
  rw [← hF] at hj hdd hp
  have HJ : Hid _ := hj
  clear hj hF
  have HD : Hid (dd = dig F) := hdd
  have HDL : Hid (dd.length = 32) := by rw [hdd]; exact dig_length _
  have hi5 : (Tryd.prog.info? 26).map (·.size) = some (vB dd).toArray.size := by rw [info_dig]; simp [vB_length, HDL.out]
  have hb1 : Below w.heap.size w (w.alloc (Obj.cells (vB (List.replicate 32 0#8)).toArray 26)) := (Below.refl _ _).alloc (Nat.le_refl _) _
  have q0 : Row (w.alloc (Obj.cells (vB (List.replicate 32 0#8)).toArray 26)) w.heap.size (vB (List.replicate 32 0#8)) 26 := Row.new _ _ _
  have HI : Hid (Ins (w.alloc (Obj.cells (vB (List.replicate 32 0#8)).toArray 26)) A n ps vs) := hI.low hb1
  have HG : Hid (Given w) := hG
  clear hdd hI hG
  go_enter Tryd.func18, Tryd.ntmps18
  go_wp2_with fail
  change Calls _ _ _ (w.alloc (Obj.cells (vB (List.replicate 32 0#8)).toArray 26)) _
  generalize w.alloc (Obj.cells (vB (List.replicate 32 0#8)).toArray 26) = W1 at *
  refine (HJ.out W1 HI.out).mono ?_
  rintro e W2 ⟨v, rfl, ho, hB2⟩
  obtain ⟨hs, A2, c2, rfl⟩ := owns_slAt ho
  have hb2 := hb1.trans (hB2.mono hb1.size)
  replace q0 := Row.below q0 hB2 (Row.lt q0)
  have HS : Hid (SlAt W2 (.slice A2 F.length c2) F) := hs
  clear ho hs hB2 hb1
  go_wp2_with fail
  refine (rsum_any F dd HD.out (by omega) _ W2 HS.out (HG.out.low hb2)).mono ?_
  rintro e W3 ⟨rfl, hB3⟩
  have hb3 := hb2.trans (hB3.mono hb2.size)
  replace q0 := Row.below q0 hB3 (Row.lt q0)
  have nf := q0.over (vs := vB dd) (by rw [vB_length, HDL.out]; rfl)
  have nB := below_setCells hb3 (b := w.heap.size) (o := 0) (Nat.le_refl _) (vB dd)
  have T := q0.there 0 (vB dd).toArray.size (by simp [vB_length, HDL.out])
  clear hB3 hb2
  go_wp2_with (refine wpList_store_mid rfl 26 (.tmp 2) (.tmp 7) rfl w.heap.size 0 (vB dd).toArray rfl rfl T hi5 (all_oneCell_toArray (vB_one dd)) ?_; simp only [Act.put])
  exact bodyPost_ret (results_row Tryd.results18 _ _ w.heap.size 26 (vB dd) rfl nf Tryd.underlying26 info_dig (by rw [vB_length, HDL.out])) rfl ⟨rfl, nB⟩

end Go.Proofs.YtihigbkanbabeaaDoor
