/-
  the law's programs.
-/
import Derived.Test.YtdlmighfmkhpkaaMkDf
namespace Go.Proofs.Ytdlmighfmkhpkaa
open Go Go.RowKit
open Sha
open Wd

def ans (E : Int) (v : Nat) : List Value := if E = 0 then wq v else zW
theorem two_ev (qd pd : List (BitVec 8)) (qn m k : Nat) (ls : List Ins) (hqn : qd.length = qn) (hm : 4 + qn = m) (hq0 : 0 < qn) (hm1 : m ≤ 1000) (hpd : h4 ++ qd = pd) (hck : chk pd = some ls) (hk : ls.length = k) (hk1 : k ≤ 50) (x y : Nat) (hxy : x < 2 ^ 256 ∧ y < 2 ^ 256) (E : Int) (v l1 : Nat) (hev : ev [x, y] ls [] 100 = some (E, v, l1))
    (gq bx by_ : Nat) (w : World) (hq : Row w gq (vB qd) 5) (hx : Row w bx (wq x) 29) (hy : Row w by_ (wq y) 29) :
    Calls Try.prog 9 #[.slice (some ⟨gq, 0, none⟩) qn qn, .pointer (some ⟨bx, 0, none⟩), .pointer (some ⟨by_, 0, none⟩)] w fun e w' => e = .returned (.tuple #[.agg (ans E v).toArray, .int .i64 E]) ∧ Below w.heap.size w w' := by
  have hA : ∃ r0 r1 r2 r3 r4, rans E v l1 = Rz r0 r1 r2 r3 r4 ∧ ans E v = [.int .u64 r0, .int .u64 r1, .int .u64 r2, .int .u64 r3] := by
    unfold rans ans
    by_cases hE : E = 0
    · rw [if_pos hE, if_pos hE]
      exact ⟨_, _, _, _, _, by rw [wq_cells]; rfl, wq_cells v⟩
    · rw [if_neg hE, if_neg hE]
      exact ⟨0, 0, 0, 0, 0, rfl, rfl⟩
  obtain ⟨r0, r1, r2, r3, r4, h1, h2⟩ := hA
  have hpl : pd.length = m := by rw [← hpd, List.length_append, hqn, ← hm]; rfl
  have q := two_any qd pd qn m hqn hm hq0 hm1 hpd x y E r0 r1 r2 r3 r4 (fun cz cs zs hcs gc ga W c1 c2 => lrun_any pd m hpl (by omega) hm1 x y E r0 r1 r2 r3 r4 (fun g cg ga ca hb hcg ht L hL w hr hga => run_ev pd m k ls hpl (by omega) hm1 hck hk hk1 x y hxy E v l1 r0 r1 r2 r3 r4 hev h1 g cg ga ca hb hcg ht L hL w hr hga) cz cs zs hcs gc ga _ rfl W c1 c2) gq bx by_ w hq hx hy
  rw [h2]
  exact q
theorem eqWg (d a b : Nat) (ha : a < 2 ^ 256) (hb : b < 2 ^ 256) (w : World) : (Op.equalIn (d + 2) 29 (.agg (wq a).toArray) (.agg (wq b).toArray)).run Try.prog w = .ok (decide (a = b)) w := by
  have q := run_equalIn_vQ (P := Try.prog) (w := w) d 29 27 4 Try.underlying29 Try.underlying27 sz_u64 (dgs a 4) (dgs b 4) (dgs_length _ _) (dgs_length _ _)
  rw [show decide (dgs a 4 = dgs b 4) = decide (a = b) from by rw [Bool.eq_iff_iff, decide_eq_true_eq, decide_eq_true_eq]; exact dgs_eq a b ha hb] at q
  exact q
theorem guardWd : Try.prog.eqGuardType Try.prog.depth 29 = false := by kernel_rfl
section
variable {ops : Array Oper} {rest : List Oper} {op : Oper} {a : Act} {w : World} {Q : Exit → Act → World → Prop}
theorem wpList_eqlW (hw : Region.wanted op (yielded ops a.tmps) = true) (x y : Operand) (yt : TypeId) (ho : op.op = .binOp .eql 29 x y yt) (u v : Nat) (hu : u < 2 ^ 256) (hv : v < 2 ^ 256) (L M : List Value) (hL : L = wq u) (hM : M = wq v) (hx : a.eval x = .agg L.toArray) (hy : a.eval y = .agg M.toArray) (B : Bool) (hB : decide (u = v) = B)
    (h : wpList Try.prog ops Q rest (a.put op.dst (.bool B)) w) : wpList Try.prog ops Q (op :: rest) a w :=
  BigFrame.wpList_want hw fun _ hK => by
    subst hL hM
    have hr : (binOp .eql 29 (.agg (wq u).toArray) (.agg (wq v).toArray)).run Try.prog w = .ok (.bool B) w := by
      have h2 : (Op.equal 29 (.agg (wq u).toArray) (.agg (wq v).toArray)).run Try.prog w = .ok B w := by rw [← hB]; exact eqWg 9998 u v hu hv w
      simp only [binOp]
      simp [h2]
    unfold Oper.wp execOp
    simp only [ho, hx, hy, Sem.run_bind, run_eqGuard_agg w .eql 29 x y _ _ guardWd, Result.andThen_ok, hr, Sem.run_pure, Oper.upon_value]
    exact hK _ _ h
theorem wpList_neqW (hw : Region.wanted op (yielded ops a.tmps) = true) (x y : Operand) (yt : TypeId) (ho : op.op = .binOp .neq 29 x y yt) (u : Nat) (hu : u < 2 ^ 256) (L M : List Value) (hL : L = wq u) (hM : M = wq u) (hx : a.eval x = .agg L.toArray) (hy : a.eval y = .agg M.toArray)
    (h : wpList Try.prog ops Q rest (a.put op.dst (.bool false)) w) : wpList Try.prog ops Q (op :: rest) a w :=
  BigFrame.wpList_want hw fun _ hK => by
    subst hL hM
    have hr : (binOp .neq 29 (.agg (wq u).toArray) (.agg (wq u).toArray)).run Try.prog w = .ok (.bool false) w := by
      have h2 : (Op.equal 29 (.agg (wq u).toArray) (.agg (wq u).toArray)).run Try.prog w = .ok true w := by have q := eqWg 9998 u u hu hu w; rw [decide_eq_true rfl] at q; exact q
      simp only [binOp]
      simp [h2]
    unfold Oper.wp execOp
    simp only [ho, hx, hy, Sem.run_bind, run_eqGuard_agg w .neq 29 x y _ _ guardWd, Result.andThen_ok, hr, Sem.run_pure, Oper.upon_value]
    exact hK _ _ h
theorem built_w0 : Try.prog.built 29 [] = some #[.int .u64 0, .int .u64 0, .int .u64 0, .int .u64 0] := by kernel_rfl
theorem built_w1 : Try.prog.built 29 [(0, .int .u64 1)] = some #[.int .u64 1, .int .u64 0, .int .u64 0, .int .u64 0] := by kernel_rfl
theorem wq_one1 : wq 1 = [.int .u64 1, .int .u64 0, .int .u64 0, .int .u64 0] := by rw [wq_cells, show lim 1 0 = 1 by decide +kernel, show lim 1 1 = 0 by decide +kernel, show lim 1 2 = 0 by decide +kernel, show lim 1 3 = 0 by decide +kernel]; rfl
theorem wpList_bw0 (hgd : op.guard = none) (ho : op.op = .build 29 #[]) (L : List Value) (hL : L = wq 0) (h : wpList Try.prog ops Q rest (a.put op.dst (.agg L.toArray)) w) : wpList Try.prog ops Q (op :: rest) a w :=
  wpList_plain hgd fun _ hK => by
    have hr := run_build (P := Try.prog) w 29 #[] _ built_w0
    rw [hL, wq_zero] at h
    unfold Oper.wp execOp
    simp only [ho, List.map_toArray, List.map_nil, Sem.run_bind, hr, Result.andThen_ok, Sem.run_pure, Oper.upon_value]
    exact hK _ _ h
theorem wpList_bw1 (hw : Region.wanted op (yielded ops a.tmps) = true) (ho : op.op = .build 29 #[(0, .const (.int .u64 1))]) (L : List Value) (hL : L = wq 1) (h : wpList Try.prog ops Q rest (a.put op.dst (.agg L.toArray)) w) : wpList Try.prog ops Q (op :: rest) a w :=
  BigFrame.wpList_want hw fun _ hK => by
    have hr := run_build (P := Try.prog) w 29 #[(0, .int .u64 1)] _ built_w1
    have hc : a.eval (.const (.int .u64 1)) = .int .u64 1 := rfl
    rw [hL, wq_one1] at h
    unfold Oper.wp execOp
    simp only [ho, List.map_toArray, List.map_cons, List.map_nil, hc, Sem.run_bind, hr, Result.andThen_ok, Sem.run_pure, Oper.upon_value]
    exact hK _ _ h
def q1 : List (BitVec 8) := [6#8, 16#8, 1#8, 7#8, 1#8]
theorem wpList_bq1 (hgd : op.guard = none) (ho : op.op = .buildSlice 23 5 #[(0, .const (.int .u8 6)), (1, .const (.int .u8 16)), (2, .const (.int .u8 1)), (3, .const (.int .u8 7)), (4, .const (.int .u8 1))]) (h : ∀ X, Row X w.heap.size (vB q1) 5 → Below w.heap.size w X → wpList Try.prog ops Q rest (a.put op.dst (.slice (some ⟨w.heap.size, 0, none⟩) 5 5)) X) : wpList Try.prog ops Q (op :: rest) a w :=
  wpList_plain hgd fun _ hK => by
    unfold Oper.wp execOp
    simp only [ho]
    go_simp
    exact hK _ _ (h _ (Row.new' rfl rfl) ((Below.refl _ _).alloc (Nat.le_refl _) _))
def q2 : List (BitVec 8) := [9#8, 1#8]
theorem wpList_bq2 (hgd : op.guard = none) (ho : op.op = .buildSlice 23 2 #[(0, .const (.int .u8 9)), (1, .const (.int .u8 1))]) (h : ∀ X, Row X w.heap.size (vB q2) 5 → Below w.heap.size w X → wpList Try.prog ops Q rest (a.put op.dst (.slice (some ⟨w.heap.size, 0, none⟩) 2 2)) X) : wpList Try.prog ops Q (op :: rest) a w :=
  wpList_plain hgd fun _ hK => by
    unfold Oper.wp execOp
    simp only [ho]
    go_simp
    exact hK _ _ (h _ (Row.new' rfl rfl) ((Below.refl _ _).alloc (Nat.le_refl _) _))
def q3 : List (BitVec 8) := [10#8, 1#8]
theorem wpList_bq3 (hgd : op.guard = none) (ho : op.op = .buildSlice 23 2 #[(0, .const (.int .u8 10)), (1, .const (.int .u8 1))]) (h : ∀ X, Row X w.heap.size (vB q3) 5 → Below w.heap.size w X → wpList Try.prog ops Q rest (a.put op.dst (.slice (some ⟨w.heap.size, 0, none⟩) 2 2)) X) : wpList Try.prog ops Q (op :: rest) a w :=
  wpList_plain hgd fun _ hK => by
    unfold Oper.wp execOp
    simp only [ho]
    go_simp
    exact hK _ _ (h _ (Row.new' rfl rfl) ((Below.refl _ _).alloc (Nat.le_refl _) _))
def q4 : List (BitVec 8) := [9#8, 16#8, 1#8, 8#8, 16#8, 0#8, 16#8, 1#8, 10#8, 6#8, 1#8]
theorem wpList_bq4 (hgd : op.guard = none) (ho : op.op = .buildSlice 23 11 #[(0, .const (.int .u8 9)), (1, .const (.int .u8 16)), (2, .const (.int .u8 1)), (3, .const (.int .u8 8)), (4, .const (.int .u8 16)), (5, .const (.int .u8 0)), (6, .const (.int .u8 16)), (7, .const (.int .u8 1)), (8, .const (.int .u8 10)), (9, .const (.int .u8 6)), (10, .const (.int .u8 1))]) (h : ∀ X, Row X w.heap.size (vB q4) 5 → Below w.heap.size w X → wpList Try.prog ops Q rest (a.put op.dst (.slice (some ⟨w.heap.size, 0, none⟩) 11 11)) X) : wpList Try.prog ops Q (op :: rest) a w :=
  wpList_plain hgd fun _ hK => by
    unfold Oper.wp execOp
    simp only [ho]
    go_simp
    exact hK _ _ (h _ (Row.new' rfl rfl) ((Below.refl _ _).alloc (Nat.le_refl _) _))
def q5 : List (BitVec 8) := [10#8, 16#8, 1#8, 11#8, 1#8]
theorem wpList_bq5 (hgd : op.guard = none) (ho : op.op = .buildSlice 23 5 #[(0, .const (.int .u8 10)), (1, .const (.int .u8 16)), (2, .const (.int .u8 1)), (3, .const (.int .u8 11)), (4, .const (.int .u8 1))]) (h : ∀ X, Row X w.heap.size (vB q5) 5 → Below w.heap.size w X → wpList Try.prog ops Q rest (a.put op.dst (.slice (some ⟨w.heap.size, 0, none⟩) 5 5)) X) : wpList Try.prog ops Q (op :: rest) a w :=
  wpList_plain hgd fun _ hK => by
    unfold Oper.wp execOp
    simp only [ho]
    go_simp
    exact hK _ _ (h _ (Row.new' rfl rfl) ((Below.refl _ _).alloc (Nat.le_refl _) _))
end
def i1 : List Ins := [⟨16, 0, 0, 0⟩, ⟨16, 2, 0, 1⟩, ⟨6, 4, 0, 0⟩, ⟨16, 5, 0, 1⟩, ⟨7, 7, 0, 0⟩, ⟨1, 8, 0, 0⟩]
theorem ck1 : chk (h4 ++ q1) = some i1 := rfl
def i2 : List Ins := [⟨16, 0, 0, 0⟩, ⟨16, 2, 0, 1⟩, ⟨9, 4, 0, 0⟩, ⟨1, 5, 0, 0⟩]
theorem ck2 : chk (h4 ++ q2) = some i2 := rfl
def i3 : List Ins := [⟨16, 0, 0, 0⟩, ⟨16, 2, 0, 1⟩, ⟨10, 4, 0, 0⟩, ⟨1, 5, 0, 0⟩]
theorem ck3 : chk (h4 ++ q3) = some i3 := rfl
def i4 : List Ins := [⟨16, 0, 0, 0⟩, ⟨16, 2, 0, 1⟩, ⟨9, 4, 0, 0⟩, ⟨16, 5, 0, 1⟩, ⟨8, 7, 0, 0⟩, ⟨16, 8, 0, 0⟩, ⟨16, 10, 0, 1⟩, ⟨10, 12, 0, 0⟩, ⟨6, 13, 0, 0⟩, ⟨1, 14, 0, 0⟩]
theorem ck4 : chk (h4 ++ q4) = some i4 := rfl
def i5 : List Ins := [⟨16, 0, 0, 0⟩, ⟨16, 2, 0, 1⟩, ⟨10, 4, 0, 0⟩, ⟨16, 5, 0, 1⟩, ⟨11, 7, 0, 0⟩, ⟨1, 8, 0, 0⟩]
theorem ck5 : chk (h4 ++ q5) = some i5 := rfl
theorem ev1_ok (x y : Nat) (h : x + y < 2 ^ 256) : ev [x, y] i1 [] 100 = some (0, x, 89) := by
  have e1 : addR x y = x + y := by unfold addR; rw [if_pos h]
  have e2 : addE x y = 0 := by unfold addE; rw [if_pos h]
  have e3 : subR (x + y) y = x := by unfold subR; rw [if_neg (by omega)]; omega
  have e4 : subE (x + y) y = 0 := by unfold subE; rw [if_neg (by omega)]
  simp [i1, ev, bin, gasB, e1, e2, e3, e4]
theorem ev1_no (x y : Nat) (h : ¬ x + y < 2 ^ 256) : ev [x, y] i1 [] 100 = some (104, 0, 0) := by
  have e2 : addE x y = 22 := by unfold addE; rw [if_neg h]
  simp [i1, ev, bin, gasB, e2]
theorem ev2_no (x : Nat) : ev [x, 0] i2 [] 100 = some (104, 0, 0) := by
  have e2 : divE 0 = 24 := rfl
  simp [i2, ev, bin, gasB, e2]
theorem ev3_no (x : Nat) : ev [x, 0] i3 [] 100 = some (104, 0, 0) := by
  have e2 : divE 0 = 24 := rfl
  simp [i3, ev, bin, gasB, e2]
theorem ev4_ok (x y : Nat) (hx : x < 2 ^ 256) (hy : y ≠ 0) : ev [x, y] i4 [] 100 = some (0, x, 62) := by
  have e0 : divE y = 0 := by unfold divE; rw [if_neg hy]
  have e1 : divQ x y = x / y := by unfold divQ; rw [if_neg hy]
  have e2 : divR x y = x % y := by unfold divR; rw [if_neg hy]
  have hle : x / y * y ≤ x := Nat.div_mul_le_self x y
  have hsum : x / y * y + x % y = x := by rw [Nat.mul_comm]; exact Nat.div_add_mod x y
  have e3 : mulR (x / y) y = x / y * y := by unfold mulR; rw [if_pos (Nat.lt_of_le_of_lt hle hx)]
  have e4 : mulE (x / y) y = 0 := by unfold mulE; rw [if_pos (Nat.lt_of_le_of_lt hle hx)]
  have e5 : addR (x / y * y) (x % y) = x := by unfold addR; rw [hsum, if_pos hx]
  have e6 : addE (x / y * y) (x % y) = 0 := by unfold addE; rw [hsum, if_pos hx]
  simp [i4, ev, bin, gasB, e0, e1, e2, e3, e4, e5, e6]
theorem ev5_ok (x y : Nat) (hy : y ≠ 0) : ev [x, y] i5 [] 100 = some (0, 1, 81) := by
  have e0 : divE y = 0 := by unfold divE; rw [if_neg hy]
  have e2 : divR x y = x % y := by unfold divR; rw [if_neg hy]
  have h1 : x % y < y := Nat.mod_lt x (by omega)
  simp [i5, ev, bin, gasB, e0, e2, h1]

end Go.Proofs.Ytdlmighfmkhpkaa
