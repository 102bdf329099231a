/-
  wire.bytesOf, formOf.
-/
import Derived.WalkKit
import Derived.Lib.Slices
import Derived.Lib.Small
import Derived.Lib.Walk
import Derived.Lib.BitFns
import Derived.Lib.ItoaNum
import Derived.Test.YtfommclhnfcioaaXMem
import Derived.Test.YtfommclhnfcioaaXFm

namespace Go.Proofs.Ytfommclhnfcioaa
open Go Go.RowKit

section
variable {ops : Array Oper} {rest : List Oper} {op : Oper} {a : Act} {w : World} {Q : Exit → Act → World → Prop}
/-- The table of lengths, at a byte. -/
theorem wpList_index_tab (hgd : op.guard = none) (x y : Operand) (ho : op.op = .index 9 x y) (hx : a.eval x = .string Lib.len8tab) (z : Int) (hy : a.eval y = .int .u8 z) (h0 : 0 ≤ z) (h1 : z ≤ 255)
    (h : ∀ k : Nat, k = Lib.bitLen z.toNat → k ≤ 8 → wpList Try.prog ops Q rest (a.put op.dst (.int .u8 (k : Int))) w) : wpList Try.prog ops Q (op :: rest) a w :=
  wpList_plain hgd fun _ hK => by
    have hr := run_index_string (P := Try.prog) w 9 Lib.len8tab .u8 z Try.underlying9
    have hs : Lib.len8tab.size = 256 := by decide +kernel
    rw [dif_pos (by omega)] at hr
    have h8 := Lib.len8_of z h0 h1
    have hb := Lib.bitLen_le8' z h0 h1
    have hz : z.toNat < Lib.len8tab.size := by omega
    have e : ((Lib.len8tab[z.toNat]'hz).toNat : Int) = ((Lib.bitLen z.toNat : Nat) : Int) := by
      rw [← h8]; unfold Lib.len8; rw [getElem?_pos Lib.len8tab z.toNat hz]; rfl
    unfold Oper.wp execOp
    simp only [ho, hx, hy, Sem.run_bind, hr, Result.andThen_ok, Sem.run_pure, Oper.upon_value, e]
    exact hK _ _ (h _ rfl hb)
end

set_option maxHeartbeats 4000000 in
set_option maxRecDepth 100000 in
theorem len64_int (x : Int) (h0 : 0 ≤ x) (h1 : x ≤ 18446744073709551615) (w : World) :
    Calls Try.prog 103 #[.int .u64 x] w fun e w' => e = .returned (.int .i64 ((Lib.bitLen x.toNat : Nat) : Int)) ∧ w' = w := by
  go_enter Try.func103, Try.ntmps103
  go_wp2_with (refine wpList_index_tab rfl _ (.tmp 21) rfl rfl _ rfl (by omega) (by omega) ?_; intro k hk hk8; have HK : Hid _ := hk; clear hk; simp only [Act.put, List.setIfInBounds_toArray, List.set_cons_zero, List.set_cons_succ])
  all_goals (go_ret; have hk := HK.out; clear HK)
  all_goals refine ⟨congrArg Ending.returned (congrArg (Value.int IntKind.i64) ?_), rfl⟩
  · rw [Lib.bitLen_shift56 x.toNat (by omega) (by omega), hk, show (x / 4294967296 / 65536 / 256).toNat = x.toNat / 72057594037927936 by omega]; omega
  · rw [Lib.bitLen_shift48 x.toNat (by omega) (by omega), hk, show (x / 4294967296 / 65536).toNat = x.toNat / 281474976710656 by omega]; omega
  · rw [Lib.bitLen_shift40 x.toNat (by omega) (by omega), hk, show (x / 4294967296 / 256).toNat = x.toNat / 1099511627776 by omega]; omega
  · rw [Lib.bitLen_shift32 x.toNat (by omega) (by omega), hk, show (x / 4294967296).toNat = x.toNat / 4294967296 by omega]; omega
  · rw [Lib.bitLen_shift24 x.toNat (by omega) (by omega), hk, show (x / 65536 / 256).toNat = x.toNat / 16777216 by omega]; omega
  · rw [Lib.bitLen_shift16 x.toNat (by omega) (by omega), hk, show (x / 65536).toNat = x.toNat / 65536 by omega]; omega
  · rw [Lib.bitLen_shift8 x.toNat (by omega) (by omega), hk, show (x / 256).toNat = x.toNat / 256 by omega]; omega
  · rw [hk]

theorem len64_any (x : Nat) (hx : x < 18446744073709551616) (w : World) :
    Calls Try.prog 103 #[.int .u64 (x : Int)] w fun e w' => e = .returned (.int .i64 ((Lib.bitLen x : Nat) : Int)) ∧ w' = w := len64_int (x : Int) (by omega) (by omega) w


end Go.Proofs.Ytfommclhnfcioaa

namespace Go.Proofs.Ytfommclhnfcioaa
open Go Go.RowKit
open Sha

def vQ (l : List Nat) : List Value := l.map (fun (x : Nat) => Value.int .u64 (x : Int))
theorem info_q : (Try.prog.info? 125).map (·.size) = some 4 := by kernel_rfl

set_option maxRecDepth 100000 in
set_option maxHeartbeats 2000000 in
theorem bytesOf_any (a b c d : Nat) (ha : a < 18446744073709551616) (hb : b < 18446744073709551616) (hc : c < 18446744073709551616) (hd : d < 18446744073709551616) (w : World) :
    Calls Try.prog 102 #[.agg #[.int .u64 (a : Int), .int .u64 (b : Int), .int .u64 (c : Int), .int .u64 (d : Int)]] w fun e w' => e = .returned (.int .i64 ((nb a b c d : Nat) : Int)) ∧ Below w.heap.size w w' := by
  have hB0 : Below w.heap.size w (w.alloc (.cells #[.int .u64 (a : Int), .int .u64 (b : Int), .int .u64 (c : Int), .int .u64 (d : Int)] 125)) := (Below.refl _ _).alloc (Nat.le_refl _) _
  have r0 : Row (w.alloc (.cells #[.int .u64 (a : Int), .int .u64 (b : Int), .int .u64 (c : Int), .int .u64 (d : Int)] 125)) w.heap.size [.int .u64 (a : Int), .int .u64 (b : Int), .int .u64 (c : Int), .int .u64 (d : Int)] 125 := Row.new' rfl rfl
  have g0 := r0.cell 0 _ rfl
  have g1 := r0.cell 1 _ rfl
  have g2 := r0.cell 2 _ rfl
  have g3 := r0.cell 3 _ rfl
  have ba := bl_le a
  have bb := bl_le b
  have bc := bl_le c
  have bd := bl_le d
  have LA : Hid (∀ w, _) := fun w => len64_any a ha w
  have LB : Hid (∀ w, _) := fun w => len64_any b hb w
  have LC : Hid (∀ w, _) := fun w => len64_any c hc w
  have LD : Hid (∀ w, _) := fun w => len64_any d hd w
  unfold bl at ba bb bc bd
  clear ha hb hc hd
  generalize hW : w.alloc (.cells #[.int .u64 (a : Int), .int .u64 (b : Int), .int .u64 (c : Int), .int .u64 (d : Int)] 125) = X at *
  go_enter Try.func102, Try.ntmps102
  go_wp2_with fail
  clear hW
  go_loopw [3] (fun i wr => ∃ t : Nat, t ≤ 4 ∧ i = .int .i64 ((t : Int) - 1) ∧ wr = X ∧ (t ≤ 3 → d = 0) ∧ (t ≤ 2 → c = 0) ∧ (t ≤ 1 → b = 0) ∧ (t ≤ 0 → a = 0)) (fun i _ => ((intOf i) + 1).toNat)
  case atStart => exact ⟨4, by omega, rfl, rfl, by omega, by omega, by omega, by omega⟩
  case round =>
    obtain ⟨t, ht, rfl, rfl, zd, zc, zb, za⟩ := hrel
    rcases (show t = 0 ∨ t = 1 ∨ t = 2 ∨ t = 3 ∨ t = 4 by omega) with rfl | rfl | rfl | rfl | rfl
    · obtain rfl := zd (by omega)
      obtain rfl := zc (by omega)
      obtain rfl := zb (by omega)
      obtain rfl := za (by omega)
      clear LA LB LC LD ba bb bc bd zd zc zb za
      go_wp2
      go_ret
      exact ⟨rfl, hB0⟩
    · obtain rfl := zd (by omega)
      obtain rfl := zc (by omega)
      obtain rfl := zb (by omega)
      by_cases e : a = 0
      · subst e
        clear LA LB LC LD ba bb bc bd zd zc zb za
        go_wp2
        exact ⟨⟨0, by omega, by go_num, (by first | trivial | exact fun _ => trivial | exact fun _ => rfl | omega), (by first | trivial | exact fun _ => trivial | exact fun _ => rfl | omega), (by first | trivial | exact fun _ => trivial | exact fun _ => rfl | omega), (by first | trivial | exact fun _ => trivial | exact fun _ => rfl | omega), (by first | trivial | exact fun _ => trivial | exact fun _ => rfl | omega)⟩, by simp [intOf]⟩
      · have e1 : ¬ (a : Int) = 0 := by omega
        clear zd zc zb za
        go_wp2_with (refine (LA.out _).mono ?_; rintro _ w2 ⟨rfl, rfl⟩)
        go_ret
        refine ⟨congrArg Ending.returned (congrArg (Value.int IntKind.i64) ?_), hB0⟩
        simp only [nb, bl, ne_eq, not_true_eq_false, if_false, e, not_false_eq_true, if_true]
        omega
    · obtain rfl := zd (by omega)
      obtain rfl := zc (by omega)
      by_cases e : b = 0
      · subst e
        clear LA LB LC LD ba bb bc bd zd zc zb za
        go_wp2
        exact ⟨⟨1, by omega, by go_num, (by first | trivial | exact fun _ => trivial | exact fun _ => rfl | omega), (by first | trivial | exact fun _ => trivial | exact fun _ => rfl | omega), (by first | trivial | exact fun _ => trivial | exact fun _ => rfl | omega), (by first | trivial | exact fun _ => trivial | exact fun _ => rfl | omega), by omega⟩, by simp [intOf]⟩
      · have e1 : ¬ (b : Int) = 0 := by omega
        clear zd zc zb za
        go_wp2_with (refine (LB.out _).mono ?_; rintro _ w2 ⟨rfl, rfl⟩)
        go_ret
        refine ⟨congrArg Ending.returned (congrArg (Value.int IntKind.i64) ?_), hB0⟩
        simp only [nb, bl, ne_eq, not_true_eq_false, if_false, e, not_false_eq_true, if_true]
        omega
    · obtain rfl := zd (by omega)
      by_cases e : c = 0
      · subst e
        clear LA LB LC LD ba bb bc bd zd zc zb za
        go_wp2
        exact ⟨⟨2, by omega, by go_num, (by first | trivial | exact fun _ => trivial | exact fun _ => rfl | omega), (by first | trivial | exact fun _ => trivial | exact fun _ => rfl | omega), (by first | trivial | exact fun _ => trivial | exact fun _ => rfl | omega), by omega, by omega⟩, by simp [intOf]⟩
      · have e1 : ¬ (c : Int) = 0 := by omega
        clear zd zc zb za
        go_wp2_with (refine (LC.out _).mono ?_; rintro _ w2 ⟨rfl, rfl⟩)
        go_ret
        refine ⟨congrArg Ending.returned (congrArg (Value.int IntKind.i64) ?_), hB0⟩
        simp only [nb, bl, ne_eq, not_true_eq_false, if_false, e, not_false_eq_true, if_true]
        omega
    · by_cases e : d = 0
      · subst e
        clear LA LB LC LD ba bb bc bd zd zc zb za
        go_wp2
        exact ⟨⟨3, by omega, by go_num, (by first | trivial | exact fun _ => trivial | exact fun _ => rfl | omega), (by first | trivial | exact fun _ => trivial | exact fun _ => rfl | omega), by omega, by omega, by omega⟩, by simp [intOf]⟩
      · have e1 : ¬ (d : Int) = 0 := by omega
        clear zd zc zb za
        go_wp2_with (refine (LD.out _).mono ?_; rintro _ w2 ⟨rfl, rfl⟩)
        go_ret
        refine ⟨congrArg Ending.returned (congrArg (Value.int IntKind.i64) ?_), hB0⟩
        simp only [nb, bl, ne_eq, e, not_false_eq_true, if_true]
        omega
section
variable {P : Program} {ops : Array Oper} {rest : List Oper} {op : Oper} {a : Act} {w : World} {Q : Exit → Act → World → Prop}
theorem wpList_load_w (hw : Region.wanted op (yielded ops a.tmps) = true) (ty : TypeId) (x : Operand) (ho : op.op = .load ty x)
    (b o : Nat) (hx : a.eval x = .pointer (some ⟨b, o, none⟩)) (cs : List Value) (d : TypeDesc) (hc : w.rangeAt b o cs)
    (hu : P.underlying ty = some d) (hd : d.isRow = true) (hi : (P.info? ty).map (·.size) = some cs.length)
    (h : wpList P ops Q rest (a.put op.dst (.agg cs.toArray)) w) : wpList P ops Q (op :: rest) a w :=
  BigFrame.wpList_want hw fun _ hK => wp_load_mid ty x ho b o hx cs d hc hu hd hi (hK _ _ h)
end

theorem results_row_tmp {P : Program} {fn : Func} {p q : Tmp} {ty : TypeId} {n : Nat} {e : TypeId} (h : fn.results = #[.cell p ty, .tmp q]) (tmps : Array Value) (w : World) (g : Nat) (t : TypeId) (cs : List Value) (v : Value)
    (hp : tmps.getD p undef = .pointer (some ⟨g, 0, none⟩)) (hv : tmps.getD q undef = v) (hg : Row w g cs t) (hu : P.underlying ty = some (.array n e)) (hi : (P.info? ty).map (·.size) = some n) (hl : cs.length = n) :
    (results fn tmps).run P w = .ok (.tuple #[.agg cs.toArray, v]) w := by
  have hp' : tmps[p]?.getD undef = .pointer (some ⟨g, 0, none⟩) := by simpa using hp
  have hv' : tmps[q]?.getD undef = v := by simpa using hv
  have hr := run_loadVar_row (P := P) w g t ty cs.toArray (0, 0) (.array n e) hg hu rfl (by simp [hi, hl])
  simp [results, h, hp', hv', asAddr, hr]

def z33 : List Value := vB (List.replicate 33 0#8)
abbrev q4 (a b c d : Nat) : List Value := [.int .u64 (a : Int), .int .u64 (b : Int), .int .u64 (c : Int), .int .u64 (d : Int)]
theorem info_f : (Try.prog.info? 144).map (·.size) = some 33 := by kernel_rfl
theorem q4_get (a b c d i : Nat) (h : i < 4) : (q4 a b c d)[i]? = some (.int .u64 (([a, b, c, d].getD i 0 : Nat) : Int)) := by
  rcases (show i = 0 ∨ i = 1 ∨ i = 2 ∨ i = 3 by omega) with rfl | rfl | rfl | rfl <;> rfl
/-- A byte of a part, as the walk meets it. -/
theorem fb_c (x s : Nat) : ((x : Int) / 2 ^ s) % 256 = c (BitVec.ofNat 8 (x / 2 ^ s)) := by
  have h : ((x : Int) / 2 ^ s) = ((x / 2 ^ s : Nat) : Int) := by norm_cast
  have h2 : c (BitVec.ofNat 8 (x / 2 ^ s)) = (((x / 2 ^ s) % 256 : Nat) : Int) := by
    show (((BitVec.ofNat 8 (x / 2 ^ s)).toNat : Nat) : Int) = _
    rw [BitVec.toNat_ofNat]
  rw [h, h2]
  generalize x / 2 ^ s = q
  omega

theorem fl_row {w : World} {b : Nat} {t : TypeId} (k : Nat) (hk : k ≤ 32) (h : Row w b (z33.set 0 (.int .u8 (k : Int))) t) : Row w b (vB ((List.replicate 33 0#8).set 0 (BitVec.ofNat 8 k))) t := by
  rw [← vB_set, show c (BitVec.ofNat 8 k) = (k : Int) by show (((BitVec.ofNat 8 k).toNat : Nat) : Int) = _; rw [BitVec.toNat_ofNat, Nat.mod_eq_of_lt (by omega)]]
  exact h
set_option maxRecDepth 100000 in
set_option maxHeartbeats 4000000 in
theorem formOf_any (m0 m1 m2 m3 : Nat) (ha : m0 < 18446744073709551616) (hb : m1 < 18446744073709551616) (hc : m2 < 18446744073709551616) (hd : m3 < 18446744073709551616) (k : Nat) (hk : k = nb m0 m1 m2 m3) (w : World) :
    Calls Try.prog 95 #[.agg (q4 m0 m1 m2 m3).toArray] w fun e w' => e = .returned (.tuple #[.agg (vB (fl [m0, m1, m2, m3] k k)).toArray, .int .i64 (1 + (k : Int))]) ∧ Below w.heap.size w w' := by
  have hk32 : k ≤ 32 := by rw [hk]; exact nb_le m0 m1 m2 m3
  have HB : Hid (∀ w, _) := fun w => bytesOf_any m0 m1 m2 m3 ha hb hc hd w
  rw [← hk] at HB
  clear hk ha hb hc hd
  have b0 : Below w.heap.size w (w.alloc (Obj.cells (q4 m0 m1 m2 m3).toArray 125)) := (Below.refl _ _).alloc (Nat.le_refl _) _
  have b1 := b0.alloc b0.size (Obj.cells z33.toArray 144)
  have b2 := b1.alloc b1.size (Obj.cells z33.toArray 144)
  have r0 : Row (((w.alloc (Obj.cells (q4 m0 m1 m2 m3).toArray 125)).alloc (Obj.cells z33.toArray 144)).alloc (Obj.cells z33.toArray 144)) w.heap.size (q4 m0 m1 m2 m3) 125 := ((Row.new' rfl rfl).alloc _).alloc _
  have r1 : Row (((w.alloc (Obj.cells (q4 m0 m1 m2 m3).toArray 125)).alloc (Obj.cells z33.toArray 144)).alloc (Obj.cells z33.toArray 144)) (w.heap.size + 1) z33 144 := (Row.new' (by simp) rfl).alloc _
  have r2 : Row (((w.alloc (Obj.cells (q4 m0 m1 m2 m3).toArray 125)).alloc (Obj.cells z33.toArray 144)).alloc (Obj.cells z33.toArray 144)) (w.heap.size + 2) z33 144 := Row.new' (by simp) rfl
  clear b0 b1
  go_enter Try.func95, Try.ntmps95
  go_wp2_with (refine wpList_load_w rfl 125 (.tmp 1) rfl w.heap.size 0 rfl (q4 m0 m1 m2 m3) _ r0.all Try.underlying125 rfl info_q ?_; simp only [Act.put, List.setIfInBounds_toArray, List.set_cons_zero, List.set_cons_succ])
  refine (HB.out _).mono ?_
  rintro e V ⟨rfl, hB⟩
  replace b2 := b2.trans (hB.mono b2.size)
  replace r0 := Row.below r0 hB r0.lt
  replace r1 := Row.below r1 hB r1.lt
  replace r2 := Row.below r2 hB r2.lt
  clear hB
  have g2 := r2.cell 0 _ rfl
  have f2 := r2.thaw 0
  have q2 := r2.set 0 (.int .u8 (k : Int))
  have q1 := r1.set_other (w.heap.size + 2) 0 (.int .u8 (k : Int)) (by omega)
  have q0 := r0.set_other (w.heap.size + 2) 0 (.int .u8 (k : Int)) (by omega)
  have qb := b2.setCell (p := ⟨w.heap.size + 2, 0, none⟩) (by simp) (.int .u8 (k : Int))
  clear r0 r1 r2 b2
  have Q0 : Hid _ := q0
  have Q1 : Hid _ := q1
  have Q2 : Hid _ := q2
  have QB : Hid _ := qb
  clear q0 q1 q2 qb
  go_wp2
  go_loopw [6, 13] (fun _ i wr => ∃ t : Nat, t ≤ k ∧ i = .int .i64 (t : Int) ∧ Row wr w.heap.size (q4 m0 m1 m2 m3) 125 ∧ Row wr (w.heap.size + 1) z33 144 ∧ Row wr (w.heap.size + 2) (vB (fl [m0, m1, m2, m3] k t)) 144 ∧ Below w.heap.size w wr) (fun _ i _ => k - (intOf i).toNat)
  case atStart => exact ⟨0, Nat.zero_le _, rfl, Q0.out, Q1.out, by rw [fl_start]; exact fl_row k hk32 Q2.out, QB.out⟩
  case round =>
    clear Q0 Q1 Q2 QB
    obtain ⟨t, ht, rfl, r0, r1, r2, hb⟩ := hrel
    by_cases hlt : t < k
    · have t8 : t / 8 < 4 := by omega
      have g0 := r0.cell (t / 8) _ (q4_get m0 m1 m2 m3 (t / 8) t8)
      have g2 := r2.cell (k - t) _ (vB_get _ (k - t) (by rw [fl_len]; omega))
      have f2 := r2.thaw (k - t)
      have q2 := r2.set (k - t) (.int .u8 (c (fb [m0, m1, m2, m3] t)))
      have q1 := r1.set_other (w.heap.size + 2) (k - t) (.int .u8 (c (fb [m0, m1, m2, m3] t))) (by omega)
      have q0 := r0.set_other (w.heap.size + 2) (k - t) (.int .u8 (c (fb [m0, m1, m2, m3] t))) (by omega)
      have qb := hb.setCell (p := ⟨w.heap.size + 2, k - t, none⟩) (by simp) (.int .u8 (c (fb [m0, m1, m2, m3] t)))
      rw [vB_set, fl_step [m0, m1, m2, m3] k t hlt] at q2
      have EX : Hid (c (fb [m0, m1, m2, m3] t) = (([m0, m1, m2, m3].getD (t / 8) 0 : Nat) : Int) / 2 ^ (t % 8 * 8) % 256) := (fb_c _ _).symm
      generalize [m0, m1, m2, m3].getD (t / 8) 0 = x at g0 EX
      generalize c (fb [m0, m1, m2, m3] t) = y at q0 q1 q2 qb EX
      generalize (fl [m0, m1, m2, m3] k t).getD (k - t) 0 = z at g2
      have Q0 : Hid _ := q0
      have Q1 : Hid _ := q1
      have Q2 : Hid _ := q2
      have QB : Hid _ := qb
      clear r0 r1 r2 hb q0 q1 q2 qb
      go_wp2
      rw [← EX.out]
      exact ⟨⟨t + 1, hlt, by go_num, Q0.out, Q1.out, Q2.out, QB.out⟩, by simp [intOf]; omega⟩
    · obtain rfl : t = k := by omega
      generalize hcs : vB (fl [m0, m1, m2, m3] t t) = cs at *
      have hcl : cs.length = 33 := by rw [← hcs, vB_length, fl_len]
      have hone : cs.toArray.all (·.oneCell') = true := by rw [← hcs]; exact all_oneCell_toArray (vB_one _)
      have hi : (Try.prog.info? 144).map (·.size) = some cs.length := by rw [info_f, hcl]
      have hi' : (Try.prog.info? 144).map (·.size) = some cs.toArray.size := by rw [info_f, List.size_toArray, hcl]
      have T0 := r1.there 0 cs.toArray.size (by rw [List.size_toArray, hcl]; decide)
      have nf := r1.over (vs := cs) (by rw [hcl]; rfl)
      have nB := below_setCells hb (b := w.heap.size + 1) (o := 0) (by omega) cs
      have HCS : Hid (vB (fl [m0, m1, m2, m3] t t) = cs) := hcs
      have NF : Hid _ := nf
      have NB : Hid _ := nB
      have HI : Hid _ := hi
      have HI' : Hid _ := hi'
      have HT : Hid _ := T0
      have R2 : Hid _ := r2
      have HL : Hid (cs.length = 33) := hcl
      have HO : Hid _ := hone
      clear r0 r1 r2 hb nf nB hi hi' T0 hcl hone hcs
      go_wp2_with (first
        | (refine wpList_load_w rfl 144 (.tmp 4) rfl (w.heap.size + 2) 0 rfl cs _ (Row.all R2.out) Try.underlying144 rfl HI.out ?_; simp only [Act.put, List.setIfInBounds_toArray, List.set_cons_zero, List.set_cons_succ])
        | (refine wpList_store_mid rfl 144 (.tmp 2) (.tmp 30) rfl (w.heap.size + 1) 0 cs.toArray rfl rfl HT.out HI'.out HO.out ?_; simp only [Act.put]; (change wpList _ _ _ _ _ (World.setCells wr (w.heap.size + 1) 0 cs))))
      exact bodyPost_ret (results_row_tmp Try.results95 _ _ (w.heap.size + 1) 144 cs (.int .i64 (1 + (t : Int))) rfl rfl NF.out Try.underlying144 info_f HL.out) rfl ⟨by rw [HCS.out], NB.out⟩

end Go.Proofs.Ytfommclhnfcioaa
