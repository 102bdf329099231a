/-
  math/bits.Len64.
-/
import Derived.WalkKit
import Derived.Lib.Slices
import Derived.Lib.Small
import Derived.Lib.Walk
import Derived.Lib.BitFns
import Derived.Lib.ItoaNum
import Derived.Test.YtekgojokhjihfaaDoorXMem
namespace Go.Proofs.YtekgojokhjihfaaDoor
open Go Go.RowKit

section
variable {ops : Array Oper} {rest : List Oper} {op : Oper} {a : Act} {w : World} {Q : Exit → Act → World → Prop}
/-- The table of lengths, at a byte. -/
theorem wpList_index_tab (hgd : op.guard = none) (x y : Operand) (ho : op.op = .index 9 x y) (hx : a.eval x = .string Lib.len8tab) (z : Int) (hy : a.eval y = .int .u8 z) (h0 : 0 ≤ z) (h1 : z ≤ 255)
    (h : ∀ k : Nat, k = Lib.bitLen z.toNat → k ≤ 8 → wpList Tryd.prog ops Q rest (a.put op.dst (.int .u8 (k : Int))) w) : wpList Tryd.prog ops Q (op :: rest) a w :=
  wpList_plain hgd fun _ hK => by
    have hr := run_index_string (P := Tryd.prog) w 9 Lib.len8tab .u8 z Tryd.underlying9
    have hs : Lib.len8tab.size = 256 := by decide +kernel
    rw [dif_pos (by omega)] at hr
    have h8 := Lib.len8_of z h0 h1
    have hb := Lib.bitLen_le8' z h0 h1
    have hz : z.toNat < Lib.len8tab.size := by omega
    have e : ((Lib.len8tab[z.toNat]'hz).toNat : Int) = ((Lib.bitLen z.toNat : Nat) : Int) := by
      rw [← h8]; unfold Lib.len8; rw [getElem?_pos Lib.len8tab z.toNat hz]; rfl
    unfold Oper.wp execOp
    simp only [ho, hx, hy, Sem.run_bind, hr, Result.andThen_ok, Sem.run_pure, Oper.upon_value, e]
    exact hK _ _ (h _ rfl hb)
end

set_option maxHeartbeats 4000000 in
set_option maxRecDepth 100000 in
theorem len64_int (x : Int) (h0 : 0 ≤ x) (h1 : x ≤ 18446744073709551615) (w : World) :
    Calls Tryd.prog 106 #[.int .u64 x] w fun e w' => e = .returned (.int .i64 ((Lib.bitLen x.toNat : Nat) : Int)) ∧ w' = w := by
  go_enter Tryd.func106, Tryd.ntmps106
  go_wp2_with (refine wpList_index_tab rfl _ (.tmp 21) rfl rfl _ rfl (by omega) (by omega) ?_; intro k hk hk8; have HK : Hid _ := hk; clear hk; simp only [Act.put, List.setIfInBounds_toArray, List.set_cons_zero, List.set_cons_succ])
  all_goals (go_ret; have hk := HK.out; clear HK)
  all_goals refine ⟨congrArg Ending.returned (congrArg (Value.int IntKind.i64) ?_), rfl⟩
  · rw [Lib.bitLen_shift56 x.toNat (by omega) (by omega), hk, show (x / 4294967296 / 65536 / 256).toNat = x.toNat / 72057594037927936 by omega]; omega
  · rw [Lib.bitLen_shift48 x.toNat (by omega) (by omega), hk, show (x / 4294967296 / 65536).toNat = x.toNat / 281474976710656 by omega]; omega
  · rw [Lib.bitLen_shift40 x.toNat (by omega) (by omega), hk, show (x / 4294967296 / 256).toNat = x.toNat / 1099511627776 by omega]; omega
  · rw [Lib.bitLen_shift32 x.toNat (by omega) (by omega), hk, show (x / 4294967296).toNat = x.toNat / 4294967296 by omega]; omega
  · rw [Lib.bitLen_shift24 x.toNat (by omega) (by omega), hk, show (x / 65536 / 256).toNat = x.toNat / 16777216 by omega]; omega
  · rw [Lib.bitLen_shift16 x.toNat (by omega) (by omega), hk, show (x / 65536).toNat = x.toNat / 65536 by omega]; omega
  · rw [Lib.bitLen_shift8 x.toNat (by omega) (by omega), hk, show (x / 256).toNat = x.toNat / 256 by omega]; omega
  · rw [hk]

theorem len64_any (x : Nat) (hx : x < 18446744073709551616) (w : World) :
    Calls Tryd.prog 106 #[.int .u64 (x : Int)] w fun e w' => e = .returned (.int .i64 ((Lib.bitLen x : Nat) : Int)) ∧ w' = w := len64_int (x : Int) (by omega) (by omega) w


end Go.Proofs.YtekgojokhjihfaaDoor
