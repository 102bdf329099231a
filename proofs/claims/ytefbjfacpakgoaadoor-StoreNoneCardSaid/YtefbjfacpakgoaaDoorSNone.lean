/-
  The law StoreNone: the walk.
-/
import Derived.Test.YtefbjfacpakgoaaDoorSAwake
namespace Go.Proofs.YtefbjfacpakgoaaDoor
open Go Go.RowKit Go.Maps
open Sha

theorem may_both {k n : Nat} (h : may k n = 0) : isK k = true ∧ n ≤ 4096 := by
  unfold may at h
  by_cases h1 : k < 1 ∨ 128 < k
  · rw [if_pos h1] at h; cases h
  · rw [if_neg h1] at h
    by_cases h2 : 4096 < n
    · rw [if_pos h2] at h; cases h
    · exact ⟨decide_eq_true (by omega), by omega⟩

set_option maxRecDepth 100000 in
set_option maxHeartbeats 2000000 in
theorem none_walk (s : ByteArray) (A : Option Addr) (n cap : Nat) (d : List (BitVec 8)) (hd : d.length = n) (w : World) (hv : SlAt w (.slice A n cap) d) (hnil : A = none → n = 0 ∧ cap = 0) :
    Calls Tryd.prog 3 #[.string s, .slice A n cap] w fun e w' => e = .returned (.bool true) ∧ Below w.heap.size w w' := by
  have HA : Hid _ := awake_any w
  have HO : Hid (∀ w, Calls Tryd.prog 5 #[.nilIface] w fun e w' => e = .returned (.tuple #[.pointer none, .int .i64 1]) ∧ w' = w) := over_none
  have HN : Hid (∀ w, Calls Tryd.prog 6 #[] w fun e w' => e = .returned (.pointer (some ⟨w.heap.size, 0, none⟩)) ∧ w' = w.alloc (.cells #[.map none, .pointer none] tT)) := newTable_any
  have HD : Hid (d.length = n) := hd
  have HV : Hid (SlAt w (.slice A n cap) d) := hv
  have HNIL : Hid (A = none → n = 0 ∧ cap = 0) := hnil
  have HMY : Hid (∀ w, Calls Tryd.prog 8 #[.string s, .slice A n cap] w fun e w' => e = .returned (.int .i64 (may s.size n)) ∧ w' = w) := rmay_any s A n cap
  clear hd hv hnil
  go_enter Tryd.func3, Tryd.ntmps3
  go_wp2_with fail
  refine Calls.mono HA.out ?_
  rintro e W1 ⟨rfl, hB1⟩
  have HB1 : Hid (Below w.heap.size w W1) := hB1
  clear hB1 HA
  go_wp2_with fail
  refine Calls.mono (HO.out W1) ?_
  rintro e Wx ⟨rfl, hqq⟩
  obtain rfl := hqq.symm
  go_wp2_with fail
  refine Calls.mono (HN.out W1) ?_
  rintro e Wy ⟨rfl, hqq⟩
  have hT2 : Row Wy W1.heap.size [.map none, .pointer none] tT := by rw [hqq]; exact Row.new' rfl rfl
  have hB2 : Below w.heap.size w Wy := by rw [hqq]; exact HB1.out.alloc HB1.out.size _
  have HTL : Hid (w.heap.size ≤ W1.heap.size) := HB1.out.size
  have HS3 : Hid _ := over_some W1.heap.size Wy
  have HT2 : Hid (Row Wy W1.heap.size [.map none, .pointer none] tT) := hT2
  have HB2 : Hid (Below w.heap.size w Wy) := hB2
  clear hqq HO HN hT2 hB2 HB1
  generalize W1.heap.size = T at *
  go_wp2_with fail
  refine Calls.mono HS3.out ?_
  rintro e W3 ⟨rfl, hS, hB3⟩
  have hT3 := Row.below HT2.out hB3 HT2.out.lt
  have hq3 : Below w.heap.size w W3 := HB2.out.trans (hB3.mono HB2.out.size)
  have hTm : T < Wy.heap.size := HT2.out.lt
  have hle : w.heap.size ≤ Wy.heap.size := HB2.out.size
  have HP : Hid (Calls Tryd.prog 7 #[.pointer (some ⟨Wy.heap.size + 1, 0, none⟩), .string s, .slice A n cap] W3 fun e w' => e = .returned (.int .i64 (may s.size n)) ∧ Gro (fun g => g = Wy.heap.size) W3 w') := by
    show Calls _ _ _ _ _
    by_cases hm : may s.size n = 0
    · obtain ⟨hs, hn⟩ := may_both hm
      rw [hm]
      exact sput_new (Wy.heap.size + 1) T Wy.heap.size 0 (.map []) (by decide) s A n cap d HD.out hm hs hn 0 [] rfl (by decide) W3 hS (at_empty _ _)
        ((find_none T s hs W3 hT3).mono fun e w' ⟨h1, h2⟩ => ⟨none, 0, h1, Bw.nil _, by rw [h2]; exact Below.refl _ _⟩)
        (fun W hG => HV.out.be (hq3.trans (hG.to_below hq3.size (fun k e => by omega)))) HNIL.out
    · exact (sput_bad (Wy.heap.size + 1) s A n cap hm W3).mono fun e w' ⟨h1, h2⟩ => ⟨h1, by rw [h2]; exact Gro.refl _ _⟩
  have HQ3 : Hid (Below w.heap.size w W3) := hq3
  have HT3 : Hid (Row W3 T [.map none, .pointer none] tT) := hT3
  have HTM : Hid (T < Wy.heap.size) := hTm
  have HLE : Hid (w.heap.size ≤ Wy.heap.size) := hle
  clear hS hB3 hT3 hq3 hTm hle HS3 HT2 HB2 HD HV HNIL
  go_wp2_with fail
  refine Calls.mono HP.out ?_
  rintro e W4 ⟨rfl, hG⟩
  have hT4 := hG.row HT3.out (by have := HTM.out; omega)
  have HL : Hid _ := tlen_none T (.pointer none) W4 hT4
  have HG : Hid (Gro (fun g => g = Wy.heap.size) W3 W4) := hG
  clear hG hT4 HP HT3
  generalize may s.size n = M at *
  go_wp2_with (first
    | (go_at_call 8; refine Calls.mono (HMY.out _) ?_; rintro e Wz ⟨rfl, hqq⟩; obtain rfl := hqq.symm)
    | (go_at_call 9; refine Calls.mono HL.out ?_; rintro e Wz ⟨rfl, hqq⟩; obtain rfl := hqq.symm))
  go_ret
  exact ⟨rfl, HQ3.out.trans (HG.out.to_below HQ3.out.size (fun k e => by have := HLE.out; omega))⟩

end Go.Proofs.YtefbjfacpakgoaaDoor
