/-
  The law's awake.
-/
import Derived.Test.YtefbjfacpakgoaaDoorSAsk
import Derived.Test.YtefbjfacpakgoaaDoorSStr
namespace Go.Proofs.YtefbjfacpakgoaaDoor
open Go Go.RowKit Go.Maps
open Sha

abbrev sa : ByteArray := ⟨#[97]⟩
theorem sa_key : isK sa.size = true := by decide
theorem size_one (k : Lit) (v : Value) : Maps.size ((DataW.map []).put k (.held v)) = 1 := by
  rw [size_put tidy_empty]
  simp [Maps.has, Maps.size]
theorem at_one (k : Lit) (hk : WideAt.IsKeyLit k) (v z : Value) : ((DataW.map []).put k (.held v)).atKey k (.held z) = .held v := atKey_put_same isMap_empty hk _ _
theorem at_empty (k : Lit) (z : Value) : (DataW.map []).atKey k (.held z) = .held z := atKey_of_not_has (by simp [Maps.has]) _

set_option maxRecDepth 100000 in
set_option maxHeartbeats 2000000 in
theorem awake_any (w : World) :
    Calls Tryd.prog 4 #[] w fun e w' => e = .returned (.bool true) ∧ Below w.heap.size w w' := by
  have HN : Hid (∀ w, Calls Tryd.prog 6 #[] w fun e w' => e = .returned (.pointer (some ⟨w.heap.size, 0, none⟩)) ∧ w' = w.alloc (.cells #[.map none, .pointer none] tT)) := newTable_any
  obtain ⟨W1, hW1⟩ : ∃ W1, W1 = (w.alloc (.cells #[.map none, .pointer none] tT)).alloc (.cells #[.int .u8 1, .int .u8 2] 5) := ⟨_, rfl⟩
  have b1 : Below w.heap.size w (w.alloc (.cells #[.map none, .pointer none] tT)) := (Below.refl _ _).alloc (Nat.le_refl _) _
  have hB1 : Below w.heap.size w W1 := by rw [hW1]; exact b1.alloc b1.size _
  have rT : Row W1 w.heap.size [.map none, .pointer none] tT := by rw [hW1]; exact (Row.new' rfl rfl).alloc _
  have rB : Row W1 (w.heap.size + 1) (vB [1#8, 2#8]) 5 := by rw [hW1]; exact Row.new' (by simp) rfl
  have hSl : SlAt W1 (.slice (some ⟨w.heap.size + 1, 0, none⟩) 2 2) [1#8, 2#8] := Bw.sl (row_bw rB (by decide))
  have HP : Hid _ := tput_new w.heap.size sa sa_key (some ⟨w.heap.size + 1, 0, none⟩) 2 2 [1#8, 2#8] rfl (by decide) (by decide) W1 rT hSl (fun e => by cases e)
  have HB1 : Hid (Below w.heap.size w W1) := hB1
  clear b1 hB1 rT rB hSl
  go_enter Tryd.func4, Tryd.ntmps4
  go_wp2_with (go_at_call 6; refine Calls.mono (HN.out _) ?_; rintro e W ⟨rfl, rfl⟩)
  rw [← hW1]
  refine Calls.mono HP.out ?_
  rintro e W2 ⟨rfl, b, A1, c1, hT, hB, hG, hb⟩
  have HG2 : Hid (Gt w.heap.size W1 W2) := hG
  have hL := tlen_some w.heap.size b 1 _ (.pointer none) W2 hT.row hT.map
  rw [size_one] at hL
  have HL : Hid _ := hL
  have HT : Hid (Tb W2 w.heap.size b 1 _) := hT
  have HB : Hid (Bw W2 (.slice A1 2 c1) [1#8, 2#8]) := hB
  have HO : Hid _ := over_some w.heap.size W2
  clear hT hB hG hb hL HP HN hW1
  go_wp2_with (go_at_call 9; refine Calls.mono HL.out ?_; rintro e W ⟨rfl, hqq⟩; obtain rfl := hqq.symm)
  refine Calls.mono HO.out ?_
  rintro e W3 ⟨rfl, hS, hB3⟩
  have HB3 : Hid (Below W2.heap.size W2 W3) := hB3
  have hT3 := HT.out.be hB3
  have hBw3 := Bw.be HB.out hB3
  have HF := find_some w.heap.size b 1 _ sa sa_key A1 2 c1 [1#8, 2#8] rfl (by decide) W3 hT3 (at_one _ (kl_key _) _ _) (Bw.sl hBw3) (sl_nil hBw3)
  have HGt : Hid _ := get_new (W2.heap.size + 1) w.heap.size W2.heap.size 0 (.map []) (by decide) sa sa_key 2 [1#8, 2#8] rfl (by decide) W3 hS (at_empty _ _) (HF.mono fun e w' ⟨A', c', h1, h2, _, h4⟩ => ⟨A', c', h1, h2, h4⟩)
  clear hS hB3 hT3 hBw3 HF HL HO HT HB
  go_wp2_with fail
  refine Calls.mono HGt.out ?_
  rintro e W4 ⟨A2, c2, rfl, hb, hG⟩
  have HG4 : Hid (Gro (fun g => g = W2.heap.size) W3 W4) := hG
  have hcv := run_convert_sl (P := Tryd.prog) W4 22 5 9 Tryd.underlying22 Tryd.underlying5 Tryd.underlying9 _ _ (Bw.sl hb)
  rw [show str [1#8, 2#8] = ⟨#[1, 2]⟩ from rfl] at hcv
  clear hb hG HGt
  go_wp2_with fail
  go_ret
  refine ⟨rfl, ?_⟩
  have q1 := HG2.out.to_below (N := w.heap.size) HB1.out.size (fun k e => by omega)
  have q2 := HB1.out.trans q1
  have q3 := q2.trans (HB3.out.mono q2.size)
  have q4 := HG4.out.to_below (N := w.heap.size) q3.size (fun k e => by have := q2.size; omega)
  exact q3.trans q4

end Go.Proofs.YtefbjfacpakgoaaDoor
