/-
  the machine's table.
-/
import Derived.Test.YtdlmighfmkhpkaaXMem
import Derived.Test.YtdlmighfmkhpkaaTFp
import Derived.LoopN
namespace Go.Proofs.Ytdlmighfmkhpkaa
open Go Go.RowKit
open Sha

/-- The cells of the rows of the table. -/
def rw (k : Nat) : List Value := match k with
  | 0 => [.string ⟨#[115, 116, 111, 112]⟩, .int .i64 0, .int .i64 1, .int .i64 0, .int .i64 0, .func (.func 19) #[] #[]]
  | 1 => [.string ⟨#[100, 111, 110, 101]⟩, .int .i64 0, .int .i64 1, .int .i64 1, .int .i64 0, .func (.func 20) #[] #[]]
  | 2 => [.string ⟨#[112, 117, 115, 104]⟩, .int .i64 1, .int .i64 1, .int .i64 0, .int .i64 1, .func (.func 21) #[] #[]]
  | 3 => [.string ⟨#[112, 111, 112]⟩, .int .i64 0, .int .i64 1, .int .i64 1, .int .i64 0, .func (.func 22) #[] #[]]
  | 4 => [.string ⟨#[100, 117, 112]⟩, .int .i64 2, .int .i64 1, .int .i64 1, .int .i64 2, .func (.func 23) #[] #[]]
  | 5 => [.string ⟨#[115, 119, 97, 112]⟩, .int .i64 3, .int .i64 1, .int .i64 1, .int .i64 1, .func (.func 24) #[] #[]]
  | 6 => [.string ⟨#[97, 100, 100]⟩, .int .i64 0, .int .i64 2, .int .i64 2, .int .i64 1, .func (.func 25) #[] #[]]
  | 7 => [.string ⟨#[115, 117, 98]⟩, .int .i64 0, .int .i64 2, .int .i64 2, .int .i64 1, .func (.func 26) #[] #[]]
  | 8 => [.string ⟨#[109, 117, 108]⟩, .int .i64 0, .int .i64 5, .int .i64 2, .int .i64 1, .func (.func 27) #[] #[]]
  | 9 => [.string ⟨#[100, 105, 118]⟩, .int .i64 0, .int .i64 10, .int .i64 2, .int .i64 1, .func (.func 28) #[] #[]]
  | 10 => [.string ⟨#[109, 111, 100]⟩, .int .i64 0, .int .i64 10, .int .i64 2, .int .i64 1, .func (.func 29) #[] #[]]
  | 11 => [.string ⟨#[108, 101, 115, 115]⟩, .int .i64 0, .int .i64 2, .int .i64 2, .int .i64 1, .func (.func 30) #[] #[]]
  | 12 => [.string ⟨#[115, 97, 109, 101]⟩, .int .i64 0, .int .i64 2, .int .i64 2, .int .i64 1, .func (.func 31) #[] #[]]
  | 13 => [.string ⟨#[110, 111, 116]⟩, .int .i64 0, .int .i64 2, .int .i64 1, .int .i64 1, .func (.func 32) #[] #[]]
  | 14 => [.string ⟨#[106, 117, 109, 112]⟩, .int .i64 5, .int .i64 5, .int .i64 0, .int .i64 0, .func (.func 33) #[] #[]]
  | 15 => [.string ⟨#[119, 104, 101, 110]⟩, .int .i64 5, .int .i64 5, .int .i64 1, .int .i64 0, .func (.func 34) #[] #[]]
  | 16 => [.string ⟨#[97, 114, 103]⟩, .int .i64 4, .int .i64 2, .int .i64 0, .int .i64 1, .func (.func 35) #[] #[]]
  | 17 => [.string ⟨#[97, 114, 103, 115]⟩, .int .i64 0, .int .i64 2, .int .i64 0, .int .i64 1, .func (.func 36) #[] #[]]
  | 18 => [.string ⟨#[99, 97, 108, 108, 101, 114]⟩, .int .i64 0, .int .i64 2, .int .i64 0, .int .i64 1, .func (.func 37) #[] #[]]
  | 19 => [.string ⟨#[115, 101, 108, 102]⟩, .int .i64 0, .int .i64 2, .int .i64 0, .int .i64 1, .func (.func 38) #[] #[]]
  | 20 => [.string ⟨#[116, 111, 107, 101, 110]⟩, .int .i64 0, .int .i64 2, .int .i64 0, .int .i64 1, .func (.func 39) #[] #[]]
  | 21 => [.string ⟨#[97, 109, 111, 117, 110, 116]⟩, .int .i64 0, .int .i64 2, .int .i64 0, .int .i64 1, .func (.func 40) #[] #[]]
  | 22 => [.string ⟨#[116, 105, 109, 101]⟩, .int .i64 0, .int .i64 2, .int .i64 0, .int .i64 1, .func (.func 41) #[] #[]]
  | 23 => [.string ⟨#[103, 97, 115]⟩, .int .i64 0, .int .i64 2, .int .i64 0, .int .i64 1, .func (.func 42) #[] #[]]
  | 24 => [.string ⟨#[108, 111, 97, 100]⟩, .int .i64 0, .int .i64 200, .int .i64 1, .int .i64 1, .func (.func 43) #[] #[]]
  | 25 => [.string ⟨#[115, 97, 118, 101]⟩, .int .i64 0, .int .i64 200, .int .i64 2, .int .i64 0, .func (.func 44) #[] #[]]
  | 26 => [.string ⟨#[104, 97, 118, 101]⟩, .int .i64 0, .int .i64 200, .int .i64 2, .int .i64 1, .func (.func 45) #[] #[]]
  | 27 => [.string ⟨#[115, 101, 110, 100]⟩, .int .i64 0, .int .i64 500, .int .i64 3, .int .i64 0, .func (.func 46) #[] #[]]
  | _ => []
def mtab : List Value := (List.range 28).flatMap rw
theorem mtab_len : mtab.length = 168 := by decide +kernel
theorem info_row : (Try.prog.info? 72).map (·.size) = some 6 := by kernel_rfl
abbrev zrow : Value := .agg #[.string ⟨#[]⟩, .int .i64 0, .int .i64 0, .int .i64 0, .int .i64 0, .nilFunc]
theorem info_row_all : (Try.prog.info? 72).map (fun i => (i.size, i.zero)) = some (6, some zrow) := by kernel_rfl
theorem info_row_open : ∃ ie, Try.prog.info? 72 = some ie ∧ ie.size = 6 ∧ ie.zero = some zrow := by
  have i1 := info_row_all
  cases hi : Try.prog.info? 72 with
  | none => rw [hi] at i1; cases i1
  | some ie =>
    rw [hi] at i1
    simp only [Option.map_some, Option.some.injEq, Prod.mk.injEq] at i1
    exact ⟨ie, rfl, i1.1, i1.2⟩
set_option maxRecDepth 100000 in
set_option maxHeartbeats 4000000 in
theorem wpList_tab {ops : Array Oper} {rest : List Oper} {op : Oper} {a : Act} {w : World} {Q : Exit → Act → World → Prop} (hgd : op.guard = none) (parts : Array (Nat × Operand)) (ho : op.op = .buildSlice 52 28 parts)
    (hp : Instr.fill (fun i => some (i * 6, 6)) ((Array.range (28 * 6)).map (zrow.cells[· % zrow.cells.size]!)) (parts.map fun (i, x) => (i, a.eval x)).toList = some mtab.toArray)
    (h : ∀ X, Row X w.heap.size mtab 72 → Below w.heap.size w X → wpList Try.prog ops Q rest (a.put op.dst (.slice (some ⟨w.heap.size, 0, none⟩) 28 28)) X) : wpList Try.prog ops Q (op :: rest) a w := by
  obtain ⟨ie, h1, h2, h3⟩ := info_row_open
  exact wpList_buildSlice hgd 52 72 28 parts ho mtab.toArray ie zrow Try.underlying52 h1 h3 (by rw [h2]; decide) (by rw [h2]; decide) (by rw [h2]; exact hp) (h _ (Row.new' rfl rfl) ((Below.refl _ _).alloc (Nat.le_refl _) _))
set_option maxRecDepth 100000 in
set_option maxHeartbeats 4000000 in
theorem table_any (w : World) : Calls Try.prog 12 #[] w fun e w' => e = .returned (.slice (some ⟨w.heap.size, 0, none⟩) 28 28) ∧ Row w' w.heap.size mtab 72 ∧ Below w.heap.size w w' := by
  go_enter Try.func12, Try.ntmps12
  go_wp2_with (refine wpList_tab rfl _ rfl (by kernel_rfl) ?_; intro X q1 q2; have R : Hid (Row X w.heap.size mtab 72) := q1; have B : Hid (Below w.heap.size w X) := q2; clear q1 q2; simp only [Act.put, List.setIfInBounds_toArray, List.set_cons_zero, List.set_cons_succ])
  go_ret
  exact ⟨rfl, R.out, B.out⟩

end Go.Proofs.Ytdlmighfmkhpkaa
