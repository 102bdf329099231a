/-
  letters and entries as cells; the tables of fields; which fields are used.
-/
import Derived.Test.YtaaehdlenigomaaGreatXWb
import Derived.LoopN
namespace Go.Proofs.YtaaehdlenigomaaGreat
open Go Go.RowKit
open Sha

abbrev tLet : TypeId := 50
abbrev tEnt : TypeId := 36
theorem info_fld : (Tryz.prog.info? 103).map (·.size) = some 4 := by kernel_rfl
theorem results_rowS {P : Program} {fn : Func} {p : Tmp} {ty : TypeId} {fs : Array Field} (h : fn.results = #[.cell p ty]) (tmps : Array Value) (w : World) (g : Nat) (t : TypeId) (cs : List Value)
    (hp : tmps.getD p undef = .pointer (some ⟨g, 0, none⟩)) (hg : Row w g cs t) (hu : P.underlying ty = some (.struct fs)) (hi : (P.info? ty).map (·.size) = some cs.length) :
    (results fn tmps).run P w = .ok (.agg cs.toArray) w :=
  results_cell_row h tmps w g t cs.toArray (0, 0) _ hp hg hu rfl (by simp [hi])
abbrev ltab : List Value := [.func (.func 72) #[] #[], .func (.func 73) #[] #[], .func (.func 74) #[] #[], .func (.func 75) #[] #[], .func (.func 76) #[] #[], .func (.func 77) #[] #[], .func (.func 78) #[] #[], .func (.func 79) #[] #[], .func (.func 76) #[] #[], .func (.func 80) #[] #[], .func (.func 81) #[] #[], .func (.func 82) #[] #[], .func (.func 76) #[] #[], .func (.func 83) #[] #[], .func (.func 84) #[] #[], .func (.func 85) #[] #[], .func (.func 86) #[] #[], .func (.func 87) #[] #[], .func (.func 88) #[] #[], .func (.func 89) #[] #[], .func (.func 90) #[] #[], .func (.func 91) #[] #[], .func (.func 92) #[] #[], .func (.func 93) #[] #[], .func (.func 114) #[] #[], .func (.func 115) #[] #[], .func (.func 116) #[] #[], .func (.func 118) #[] #[], .func (.func 120) #[] #[], .func (.func 121) #[] #[], .func (.func 122) #[] #[], .func (.func 123) #[] #[], .func (.func 124) #[] #[], .func (.func 126) #[] #[], .func (.func 127) #[] #[], .func (.func 130) #[] #[]]
abbrev etab : List Value := [.func (.func 27) #[] #[], .func (.func 28) #[] #[], .func (.func 29) #[] #[], .func (.func 31) #[] #[], .func (.func 33) #[] #[], .func (.func 35) #[] #[], .func (.func 36) #[] #[], .func (.func 38) #[] #[], .func (.func 40) #[] #[], .func (.func 42) #[] #[], .func (.func 43) #[] #[], .func (.func 44) #[] #[], .func (.func 27) #[] #[], .func (.func 45) #[] #[], .func (.func 46) #[] #[], .func (.func 47) #[] #[], .func (.func 48) #[] #[], .func (.func 49) #[] #[], .func (.func 50) #[] #[], .func (.func 52) #[] #[], .func (.func 54) #[] #[], .func (.func 55) #[] #[], .func (.func 56) #[] #[], .func (.func 57) #[] #[], .func (.func 58) #[] #[], .func (.func 59) #[] #[], .func (.func 60) #[] #[], .func (.func 62) #[] #[]]

set_option maxRecDepth 100000 in
theorem argsField_any (w : World) : Calls Tryz.prog 94 #[] w fun e w' => e = .returned (.agg #[.func (.func 114) #[] #[], .func (.func 115) #[] #[], .func (.func 116) #[] #[], .func (.func 118) #[] #[]]) ∧ Below w.heap.size w w' := by
  go_enter Tryz.func94, Tryz.ntmps94
  go_wp2_with (refine wpList_store_mid rfl 103 (.tmp 0) (.tmp 1) rfl w.heap.size 0 #[.func (.func 114) #[] #[], .func (.func 115) #[] #[], .func (.func 116) #[] #[], .func (.func 118) #[] #[]] rfl rfl (Row.there (Row.new' (cs := [.nilFunc, .nilFunc, .nilFunc, .nilFunc]) rfl rfl) 0 _ (by decide)) info_fld (by kernel_rfl) ?_; simp only [Act.put])
  have nf := (Row.new' (w := w) (o := #[.nilFunc, .nilFunc, .nilFunc, .nilFunc]) (t := 103) (cs := [.nilFunc, .nilFunc, .nilFunc, .nilFunc]) rfl rfl).over (vs := [.func (.func 114) #[] #[], .func (.func 115) #[] #[], .func (.func 116) #[] #[], .func (.func 118) #[] #[]]) rfl
  exact bodyPost_ret (results_rowS Tryz.results94 _ _ w.heap.size 103 [.func (.func 114) #[] #[], .func (.func 115) #[] #[], .func (.func 116) #[] #[], .func (.func 118) #[] #[]] rfl nf Tryz.underlying103 info_fld) rfl ⟨rfl, below_setCells ((Below.refl _ _).alloc (Nat.le_refl _) _) (Nat.le_refl _) _⟩

set_option maxRecDepth 100000 in
theorem codeField_any (w : World) : Calls Tryz.prog 95 #[] w fun e w' => e = .returned (.agg #[.func (.func 120) #[] #[], .func (.func 121) #[] #[], .func (.func 122) #[] #[], .func (.func 123) #[] #[]]) ∧ Below w.heap.size w w' := by
  go_enter Tryz.func95, Tryz.ntmps95
  go_wp2_with (refine wpList_store_mid rfl 103 (.tmp 0) (.tmp 1) rfl w.heap.size 0 #[.func (.func 120) #[] #[], .func (.func 121) #[] #[], .func (.func 122) #[] #[], .func (.func 123) #[] #[]] rfl rfl (Row.there (Row.new' (cs := [.nilFunc, .nilFunc, .nilFunc, .nilFunc]) rfl rfl) 0 _ (by decide)) info_fld (by kernel_rfl) ?_; simp only [Act.put])
  have nf := (Row.new' (w := w) (o := #[.nilFunc, .nilFunc, .nilFunc, .nilFunc]) (t := 103) (cs := [.nilFunc, .nilFunc, .nilFunc, .nilFunc]) rfl rfl).over (vs := [.func (.func 120) #[] #[], .func (.func 121) #[] #[], .func (.func 122) #[] #[], .func (.func 123) #[] #[]]) rfl
  exact bodyPost_ret (results_rowS Tryz.results95 _ _ w.heap.size 103 [.func (.func 120) #[] #[], .func (.func 121) #[] #[], .func (.func 122) #[] #[], .func (.func 123) #[] #[]] rfl nf Tryz.underlying103 info_fld) rfl ⟨rfl, below_setCells ((Below.refl _ _).alloc (Nat.le_refl _) _) (Nat.le_refl _) _⟩

set_option maxRecDepth 100000 in
theorem partsField_any (w : World) : Calls Tryz.prog 96 #[] w fun e w' => e = .returned (.agg #[.func (.func 124) #[] #[], .func (.func 126) #[] #[], .func (.func 127) #[] #[], .func (.func 130) #[] #[]]) ∧ Below w.heap.size w w' := by
  go_enter Tryz.func96, Tryz.ntmps96
  go_wp2_with (refine wpList_store_mid rfl 103 (.tmp 0) (.tmp 1) rfl w.heap.size 0 #[.func (.func 124) #[] #[], .func (.func 126) #[] #[], .func (.func 127) #[] #[], .func (.func 130) #[] #[]] rfl rfl (Row.there (Row.new' (cs := [.nilFunc, .nilFunc, .nilFunc, .nilFunc]) rfl rfl) 0 _ (by decide)) info_fld (by kernel_rfl) ?_; simp only [Act.put])
  have nf := (Row.new' (w := w) (o := #[.nilFunc, .nilFunc, .nilFunc, .nilFunc]) (t := 103) (cs := [.nilFunc, .nilFunc, .nilFunc, .nilFunc]) rfl rfl).over (vs := [.func (.func 124) #[] #[], .func (.func 126) #[] #[], .func (.func 127) #[] #[], .func (.func 130) #[] #[]]) rfl
  exact bodyPost_ret (results_rowS Tryz.results96 _ _ w.heap.size 103 [.func (.func 124) #[] #[], .func (.func 126) #[] #[], .func (.func 127) #[] #[], .func (.func 130) #[] #[]] rfl nf Tryz.underlying103 info_fld) rfl ⟨rfl, below_setCells ((Below.refl _ _).alloc (Nat.le_refl _) _) (Nat.le_refl _) _⟩

set_option maxRecDepth 100000 in
theorem usedBy_5 (w : World) : Calls Tryz.prog 25 #[.int .i64 5] w fun e w' => e = .returned (.slice (some ⟨w.heap.size, 0, none⟩) 1 1) ∧ w' = w.alloc (.cells #[.int .i64 4] 3) := by
  go_enter Tryz.func25, Tryz.ntmps25
  go_wp2
  go_ret
  exact ⟨rfl, rfl⟩

set_option maxRecDepth 100000 in
theorem usedBy_8 (w : World) : Calls Tryz.prog 25 #[.int .i64 8] w fun e w' => e = .returned (.slice (some ⟨w.heap.size, 0, none⟩) 1 1) ∧ w' = w.alloc (.cells #[.int .i64 0] 3) := by
  go_enter Tryz.func25, Tryz.ntmps25
  go_wp2
  go_ret
  exact ⟨rfl, rfl⟩

set_option maxRecDepth 100000 in
theorem usedBy_0 (w : World) : Calls Tryz.prog 25 #[.int .i64 0] w fun e w' => e = .returned (.slice none 0 0) ∧ w' = w := by
  go_enter Tryz.func25, Tryz.ntmps25
  go_wp2
  go_ret
  exact ⟨rfl, rfl⟩
set_option maxRecDepth 100000 in
theorem usedE_2 (w : World) : Calls Tryz.prog 17 #[.int .i64 2] w fun e w' => e = .returned (.slice (some ⟨w.heap.size, 0, none⟩) 3 3) ∧ w' = w.alloc (.cells #[.int .i64 0, .int .i64 1, .int .i64 6] 3) := by
  go_enter Tryz.func17, Tryz.ntmps17
  go_wp2
  go_ret
  exact ⟨rfl, rfl⟩

end Go.Proofs.YtaaehdlenigomaaGreat
