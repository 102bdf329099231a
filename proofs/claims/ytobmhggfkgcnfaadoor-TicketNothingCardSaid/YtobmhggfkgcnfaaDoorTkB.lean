/-
  tickets: keys, Made, a state over an empty table.
-/
import Derived.Test.YtobmhggfkgcnfaaDoorTkA
import Derived.Lib.AppendZeros
namespace Go.Proofs.YtobmhggfkgcnfaaDoor
open Go Go.RowKit Go.Maps
open Sha
open Wd

/-- The key of ticket 1. -/
def kK : ByteArray := str [107#8, 0#8, 0#8, 0#8, 0#8, 0#8, 0#8, 0#8, 1#8]
/-- Where it is kept how many were made. -/
def nK : ByteArray := ⟨#[110, 116]⟩
theorem kK_key : isK kK.size = true := by decide +kernel
theorem nK_key : isK nK.size = true := by decide +kernel
theorem kK_add : (⟨#[107]⟩ : ByteArray) ++ str [0#8, 0#8, 0#8, 0#8, 0#8, 0#8, 0#8, 1#8] = kK := by decide +kernel
theorem nk_ne : nK ≠ kK := by decide +kernel
set_option maxRecDepth 100000 in
theorem tkey (w : World) : Calls Tryd.prog 14 #[.int .i64 1] w fun e w' => e = .returned (.string kK) ∧ Below w.heap.size w w' := by
  have HE : Hid _ := eight_1 w
  have hq := kK_add
  have hqs : (⟨#[107]⟩ : ByteArray).size = 1 := rfl
  have hsz : (str [0#8, 0#8, 0#8, 0#8, 0#8, 0#8, 0#8, 1#8]).size = 8 := by decide +kernel
  go_enter Tryd.func14, Tryd.ntmps14
  go_wp2_with fail
  refine Calls.mono HE.out ?_
  rintro e V ⟨N, hN, hR, rfl, hB⟩
  have hcv := run_convert_sl (P := Tryd.prog) V 46 5 9 Tryd.underlying46 Tryd.underlying5 Tryd.underlying9 (.slice (some ⟨N, 0, none⟩) 8 8) [0#8, 0#8, 0#8, 0#8, 0#8, 0#8, 0#8, 1#8] (.inr ⟨N, 0, 8, rfl, by decide, hR.all⟩)
  have HB : Hid (Below w.heap.size w V) := hB
  clear hB HE hN hR
  generalize str [0#8, 0#8, 0#8, 0#8, 0#8, 0#8, 0#8, 1#8] = z at *
  go_wp2_with fail
  go_ret
  exact ⟨by rw [← hq]; rfl, HB.out⟩
set_option maxRecDepth 100000 in
theorem rmade_none (A : Option Addr) (cap : Nat) (w : World) : Calls Tryd.prog 19 #[.slice A 0 cap] w fun e w' => e = .returned (.tuple #[.int .i64 0, .int .i64 0]) ∧ w' = w := by
  go_enter Tryd.func19, Tryd.ntmps19
  go_wp2
  go_ret2
  exact ⟨rfl, rfl⟩
set_option maxRecDepth 100000 in
theorem made_none (w0 : World) (S q : Nat) (f : ByteArray → List (BitVec 8)) (hq : q < 1000000) (hf : f nK = []) (w : World) (h : Lg w0 w S q f) : Calls Tryd.prog 8 #[.pointer (some ⟨S, 0, none⟩)] w fun e w' => e = .returned (.tuple #[.int .i64 0, .int .i64 0]) ∧ Lg w0 w' S (q + 1) f ∧ Kp w w' := by
  have HG : Hid _ := get_lg w0 S q f hq nK nK_key 0 [] hf rfl w h
  clear hq hf h
  go_enter Tryd.func8, Tryd.ntmps8
  go_wp2_with fail
  refine Calls.mono HG.out ?_
  rintro e V ⟨A, c, rfl, hb, hn, hL, hK⟩
  have HR : Hid _ := rmade_none A c V
  have HL : Hid (Lg w0 V S (q + 1) f) := hL
  have HK : Hid (Kp w V) := hK
  clear hb hn hL hK HG
  go_wp2_with fail
  refine Calls.mono HR.out ?_
  rintro e W ⟨rfl, hqq⟩
  obtain rfl := hqq.symm
  go_wp2_with fail
  go_ret2
  exact ⟨rfl, HL.out, HK.out⟩
set_option maxRecDepth 100000 in
theorem shut_1 (w0 : World) (S q : Nat) (f : ByteArray → List (BitVec 8)) (hq : q < 1000000) (w : World) (h : Lg w0 w S q f) : Calls Tryd.prog 21 #[.pointer (some ⟨S, 0, none⟩), .int .i64 1] w fun e w' => e = .returned (.int .i64 0) ∧ Lg w0 w' S (q + 1) (upd f kK []) ∧ Kp w w' := by
  have HE : Hid _ := tkey w
  have HQ : Hid (q < 1000000) := hq
  have HL : Hid (Lg w0 w S q f) := h
  clear hq h
  go_enter Tryd.func21, Tryd.ntmps21
  go_wp2_with fail
  refine Calls.mono HE.out ?_
  rintro e V ⟨rfl, hB⟩
  have HP : Hid _ := put_lg w0 S q f HQ.out kK kK_key none 0 0 [] rfl (by decide) (fun _ => ⟨rfl, rfl⟩) V (HL.out.be hB) (fun W _ => .inl ⟨rfl, none, 0, rfl⟩)
  have HB : Hid (Kp w V) := Kp.of_below hB
  clear hB HE HL
  go_wp2_with fail
  refine Calls.mono HP.out ?_
  rintro e W ⟨rfl, hL, hK⟩
  have HL : Hid (Lg w0 W S (q + 1) (upd f kK [])) := hL
  have HK : Hid (Kp V W) := hK
  clear hL hK HP
  go_wp2_with fail
  go_ret
  exact ⟨rfl, HL.out, HB.out.trans HK.out⟩
theorem empty_lg (w W V : World) (T : Nat) (hT : Row W T [.map none, .pointer none] tT) (hB : Below w.heap.size w W) (hS : Sv V (W.heap.size + 1) T W.heap.size 0 (.map [])) (hV : Below W.heap.size W V) : Lg w V (W.heap.size + 1) 0 (fun _ => []) :=
  ⟨T, W.heap.size, 0, .map [], Nat.le_refl _, Row.below hT hV hT.lt, hS, ⟨_, rfl⟩, hB.size, hB.trans (hV.mono hB.size), fun s _ => .inl ⟨atKey_of_not_has (by simp [Maps.has]) _, rfl⟩, fun s s' C _ _ e _ => by
    rw [atKey_of_not_has (by simp [Maps.has])] at e
    simp at e, fun _ _ => by simp⟩
set_option maxRecDepth 100000 in
theorem fresh_nil (w : World) : Calls Tryd.prog 11 #[.slice none 0 0] w fun e w' => ∃ S, e = .returned (.pointer (some ⟨S, 0, none⟩)) ∧ Lg w w' S 0 (fun _ => []) := by
  have HN : Hid _ := newTable_any w
  go_enter Tryd.func11, Tryd.ntmps11
  go_wp2_with fail
  refine Calls.mono HN.out ?_
  rintro e V ⟨rfl, hq⟩
  have HT : Hid (Row V w.heap.size [.map none, .pointer none] tT) := by rw [hq]; exact Row.new' rfl rfl
  have HB : Hid (Below w.heap.size w V) := by rw [hq]; exact (Below.refl _ _).alloc (Nat.le_refl _) _
  clear hq HN
  generalize w.heap.size = T at HT ⊢
  go_wp2_with fail
  refine wp_loop_rounds 1 ?_
  rw [rounds_succ]
  have HO : Hid _ := over_some T V
  go_wp2_with fail
  refine Calls.mono HO.out ?_
  rintro e W ⟨rfl, hS, hV⟩
  have HS : Hid _ := hS
  have HV : Hid (Below V.heap.size V W) := hV
  clear hS hV HO
  go_wp2_with fail
  go_ret
  exact ⟨_, rfl, empty_lg _ _ _ T HT.out HB.out HS.out HV.out⟩

end Go.Proofs.YtobmhggfkgcnfaaDoor
