/-
  letters and entries as cells; the tables of fields; which fields are used.
-/
import Derived.Test.YthjiekfjgfhchaaGreatXWb
import Derived.LoopN
namespace Go.Proofs.YthjiekfjgfhchaaGreat
open Go Go.RowKit
open Sha

abbrev tLet : TypeId := 35
abbrev tEnt : TypeId := 40
theorem info_fld : (Tryz.prog.info? 74).map (·.size) = some 4 := by kernel_rfl
theorem results_rowS {P : Program} {fn : Func} {p : Tmp} {ty : TypeId} {fs : Array Field} (h : fn.results = #[.cell p ty]) (tmps : Array Value) (w : World) (g : Nat) (t : TypeId) (cs : List Value)
    (hp : tmps.getD p undef = .pointer (some ⟨g, 0, none⟩)) (hg : Row w g cs t) (hu : P.underlying ty = some (.struct fs)) (hi : (P.info? ty).map (·.size) = some cs.length) :
    (results fn tmps).run P w = .ok (.agg cs.toArray) w :=
  results_cell_row h tmps w g t cs.toArray (0, 0) _ hp hg hu rfl (by simp [hi])
abbrev ltab : List Value := [.func (.func 24) #[] #[], .func (.func 26) #[] #[], .func (.func 27) #[] #[], .func (.func 29) #[] #[], .func (.func 31) #[] #[], .func (.func 32) #[] #[], .func (.func 33) #[] #[], .func (.func 35) #[] #[], .func (.func 31) #[] #[], .func (.func 37) #[] #[], .func (.func 38) #[] #[], .func (.func 39) #[] #[], .func (.func 31) #[] #[], .func (.func 40) #[] #[], .func (.func 41) #[] #[], .func (.func 43) #[] #[], .func (.func 45) #[] #[], .func (.func 47) #[] #[], .func (.func 48) #[] #[], .func (.func 49) #[] #[], .func (.func 50) #[] #[], .func (.func 51) #[] #[], .func (.func 52) #[] #[], .func (.func 53) #[] #[], .func (.func 104) #[] #[], .func (.func 105) #[] #[], .func (.func 106) #[] #[], .func (.func 108) #[] #[], .func (.func 110) #[] #[], .func (.func 111) #[] #[], .func (.func 112) #[] #[], .func (.func 113) #[] #[], .func (.func 114) #[] #[], .func (.func 116) #[] #[], .func (.func 117) #[] #[], .func (.func 120) #[] #[]]
abbrev etab : List Value := [.func (.func 59) #[] #[], .func (.func 60) #[] #[], .func (.func 61) #[] #[], .func (.func 62) #[] #[], .func (.func 63) #[] #[], .func (.func 64) #[] #[], .func (.func 65) #[] #[], .func (.func 66) #[] #[], .func (.func 67) #[] #[], .func (.func 68) #[] #[], .func (.func 69) #[] #[], .func (.func 70) #[] #[], .func (.func 59) #[] #[], .func (.func 71) #[] #[], .func (.func 72) #[] #[], .func (.func 73) #[] #[], .func (.func 74) #[] #[], .func (.func 75) #[] #[], .func (.func 76) #[] #[], .func (.func 77) #[] #[], .func (.func 78) #[] #[], .func (.func 79) #[] #[], .func (.func 80) #[] #[], .func (.func 81) #[] #[], .func (.func 82) #[] #[], .func (.func 83) #[] #[], .func (.func 84) #[] #[], .func (.func 86) #[] #[]]

set_option maxRecDepth 100000 in
theorem argsField_any (w : World) : Calls Tryz.prog 54 #[] w fun e w' => e = .returned (.agg #[.func (.func 104) #[] #[], .func (.func 105) #[] #[], .func (.func 106) #[] #[], .func (.func 108) #[] #[]]) ∧ Below w.heap.size w w' := by
  go_enter Tryz.func54, Tryz.ntmps54
  go_wp2_with (refine wpList_store_mid rfl 74 (.tmp 0) (.tmp 1) rfl w.heap.size 0 #[.func (.func 104) #[] #[], .func (.func 105) #[] #[], .func (.func 106) #[] #[], .func (.func 108) #[] #[]] rfl rfl (Row.there (Row.new' (cs := [.nilFunc, .nilFunc, .nilFunc, .nilFunc]) rfl rfl) 0 _ (by decide)) info_fld (by kernel_rfl) ?_; simp only [Act.put])
  have nf := (Row.new' (w := w) (o := #[.nilFunc, .nilFunc, .nilFunc, .nilFunc]) (t := 74) (cs := [.nilFunc, .nilFunc, .nilFunc, .nilFunc]) rfl rfl).over (vs := [.func (.func 104) #[] #[], .func (.func 105) #[] #[], .func (.func 106) #[] #[], .func (.func 108) #[] #[]]) rfl
  exact bodyPost_ret (results_rowS Tryz.results54 _ _ w.heap.size 74 [.func (.func 104) #[] #[], .func (.func 105) #[] #[], .func (.func 106) #[] #[], .func (.func 108) #[] #[]] rfl nf Tryz.underlying74 info_fld) rfl ⟨rfl, below_setCells ((Below.refl _ _).alloc (Nat.le_refl _) _) (Nat.le_refl _) _⟩

set_option maxRecDepth 100000 in
theorem codeField_any (w : World) : Calls Tryz.prog 55 #[] w fun e w' => e = .returned (.agg #[.func (.func 110) #[] #[], .func (.func 111) #[] #[], .func (.func 112) #[] #[], .func (.func 113) #[] #[]]) ∧ Below w.heap.size w w' := by
  go_enter Tryz.func55, Tryz.ntmps55
  go_wp2_with (refine wpList_store_mid rfl 74 (.tmp 0) (.tmp 1) rfl w.heap.size 0 #[.func (.func 110) #[] #[], .func (.func 111) #[] #[], .func (.func 112) #[] #[], .func (.func 113) #[] #[]] rfl rfl (Row.there (Row.new' (cs := [.nilFunc, .nilFunc, .nilFunc, .nilFunc]) rfl rfl) 0 _ (by decide)) info_fld (by kernel_rfl) ?_; simp only [Act.put])
  have nf := (Row.new' (w := w) (o := #[.nilFunc, .nilFunc, .nilFunc, .nilFunc]) (t := 74) (cs := [.nilFunc, .nilFunc, .nilFunc, .nilFunc]) rfl rfl).over (vs := [.func (.func 110) #[] #[], .func (.func 111) #[] #[], .func (.func 112) #[] #[], .func (.func 113) #[] #[]]) rfl
  exact bodyPost_ret (results_rowS Tryz.results55 _ _ w.heap.size 74 [.func (.func 110) #[] #[], .func (.func 111) #[] #[], .func (.func 112) #[] #[], .func (.func 113) #[] #[]] rfl nf Tryz.underlying74 info_fld) rfl ⟨rfl, below_setCells ((Below.refl _ _).alloc (Nat.le_refl _) _) (Nat.le_refl _) _⟩

set_option maxRecDepth 100000 in
theorem partsField_any (w : World) : Calls Tryz.prog 56 #[] w fun e w' => e = .returned (.agg #[.func (.func 114) #[] #[], .func (.func 116) #[] #[], .func (.func 117) #[] #[], .func (.func 120) #[] #[]]) ∧ Below w.heap.size w w' := by
  go_enter Tryz.func56, Tryz.ntmps56
  go_wp2_with (refine wpList_store_mid rfl 74 (.tmp 0) (.tmp 1) rfl w.heap.size 0 #[.func (.func 114) #[] #[], .func (.func 116) #[] #[], .func (.func 117) #[] #[], .func (.func 120) #[] #[]] rfl rfl (Row.there (Row.new' (cs := [.nilFunc, .nilFunc, .nilFunc, .nilFunc]) rfl rfl) 0 _ (by decide)) info_fld (by kernel_rfl) ?_; simp only [Act.put])
  have nf := (Row.new' (w := w) (o := #[.nilFunc, .nilFunc, .nilFunc, .nilFunc]) (t := 74) (cs := [.nilFunc, .nilFunc, .nilFunc, .nilFunc]) rfl rfl).over (vs := [.func (.func 114) #[] #[], .func (.func 116) #[] #[], .func (.func 117) #[] #[], .func (.func 120) #[] #[]]) rfl
  exact bodyPost_ret (results_rowS Tryz.results56 _ _ w.heap.size 74 [.func (.func 114) #[] #[], .func (.func 116) #[] #[], .func (.func 117) #[] #[], .func (.func 120) #[] #[]] rfl nf Tryz.underlying74 info_fld) rfl ⟨rfl, below_setCells ((Below.refl _ _).alloc (Nat.le_refl _) _) (Nat.le_refl _) _⟩

set_option maxRecDepth 100000 in
theorem usedBy_5 (w : World) : Calls Tryz.prog 15 #[.int .i64 5] w fun e w' => e = .returned (.slice (some ⟨w.heap.size, 0, none⟩) 1 1) ∧ w' = w.alloc (.cells #[.int .i64 4] 3) := by
  go_enter Tryz.func15, Tryz.ntmps15
  go_wp2
  go_ret
  exact ⟨rfl, rfl⟩

set_option maxRecDepth 100000 in
theorem usedBy_8 (w : World) : Calls Tryz.prog 15 #[.int .i64 8] w fun e w' => e = .returned (.slice (some ⟨w.heap.size, 0, none⟩) 1 1) ∧ w' = w.alloc (.cells #[.int .i64 0] 3) := by
  go_enter Tryz.func15, Tryz.ntmps15
  go_wp2
  go_ret
  exact ⟨rfl, rfl⟩

set_option maxRecDepth 100000 in
theorem usedBy_0 (w : World) : Calls Tryz.prog 15 #[.int .i64 0] w fun e w' => e = .returned (.slice none 0 0) ∧ w' = w := by
  go_enter Tryz.func15, Tryz.ntmps15
  go_wp2
  go_ret
  exact ⟨rfl, rfl⟩
set_option maxRecDepth 100000 in
theorem usedE_2 (w : World) : Calls Tryz.prog 19 #[.int .i64 2] w fun e w' => e = .returned (.slice (some ⟨w.heap.size, 0, none⟩) 3 3) ∧ w' = w.alloc (.cells #[.int .i64 0, .int .i64 1, .int .i64 6] 3) := by
  go_enter Tryz.func19, Tryz.ntmps19
  go_wp2
  go_ret
  exact ⟨rfl, rfl⟩

end Go.Proofs.YthjiekfjgfhchaaGreat
