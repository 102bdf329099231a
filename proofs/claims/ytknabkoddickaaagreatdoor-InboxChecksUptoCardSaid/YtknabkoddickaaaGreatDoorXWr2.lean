/-
  wire.Writer: Wide, Number, Done.
-/
import Derived.WalkKit
import Derived.Lib.Slices
import Derived.Lib.Small
import Derived.Lib.Walk
import Derived.Lib.BitFns
import Derived.Lib.ItoaNum
import Derived.Test.YtknabkoddickaaaGreatDoorXMem
import Derived.Test.YtknabkoddickaaaGreatDoorXFm

namespace Go.Proofs.YtknabkoddickaaaGreatDoor
open Go Go.RowKit

section
variable {ops : Array Oper} {rest : List Oper} {op : Oper} {a : Act} {w : World} {Q : Exit → Act → World → Prop}
/-- The table of lengths, at a byte. -/
theorem wpList_index_tab (hgd : op.guard = none) (x y : Operand) (ho : op.op = .index 9 x y) (hx : a.eval x = .string Lib.len8tab) (z : Int) (hy : a.eval y = .int .u8 z) (h0 : 0 ≤ z) (h1 : z ≤ 255)
    (h : ∀ k : Nat, k = Lib.bitLen z.toNat → k ≤ 8 → wpList Tryz.prog ops Q rest (a.put op.dst (.int .u8 (k : Int))) w) : wpList Tryz.prog ops Q (op :: rest) a w :=
  wpList_plain hgd fun _ hK => by
    have hr := run_index_string (P := Tryz.prog) w 9 Lib.len8tab .u8 z Tryz.underlying9
    have hs : Lib.len8tab.size = 256 := by decide +kernel
    rw [dif_pos (by omega)] at hr
    have h8 := Lib.len8_of z h0 h1
    have hb := Lib.bitLen_le8' z h0 h1
    have hz : z.toNat < Lib.len8tab.size := by omega
    have e : ((Lib.len8tab[z.toNat]'hz).toNat : Int) = ((Lib.bitLen z.toNat : Nat) : Int) := by
      rw [← h8]; unfold Lib.len8; rw [getElem?_pos Lib.len8tab z.toNat hz]; rfl
    unfold Oper.wp execOp
    simp only [ho, hx, hy, Sem.run_bind, hr, Result.andThen_ok, Sem.run_pure, Oper.upon_value, e]
    exact hK _ _ (h _ rfl hb)
end

set_option maxHeartbeats 4000000 in
set_option maxRecDepth 100000 in
theorem len64_int (x : Int) (h0 : 0 ≤ x) (h1 : x ≤ 18446744073709551615) (w : World) :
    Calls Tryz.prog 148 #[.int .u64 x] w fun e w' => e = .returned (.int .i64 ((Lib.bitLen x.toNat : Nat) : Int)) ∧ w' = w := by
  go_enter Tryz.func148, Tryz.ntmps148
  go_wp2_with (refine wpList_index_tab rfl _ (.tmp 21) rfl rfl _ rfl (by omega) (by omega) ?_; intro k hk hk8; have HK : Hid _ := hk; clear hk; simp only [Act.put, List.setIfInBounds_toArray, List.set_cons_zero, List.set_cons_succ])
  all_goals (go_ret; have hk := HK.out; clear HK)
  all_goals refine ⟨congrArg Ending.returned (congrArg (Value.int IntKind.i64) ?_), rfl⟩
  · rw [Lib.bitLen_shift56 x.toNat (by omega) (by omega), hk, show (x / 4294967296 / 65536 / 256).toNat = x.toNat / 72057594037927936 by omega]; omega
  · rw [Lib.bitLen_shift48 x.toNat (by omega) (by omega), hk, show (x / 4294967296 / 65536).toNat = x.toNat / 281474976710656 by omega]; omega
  · rw [Lib.bitLen_shift40 x.toNat (by omega) (by omega), hk, show (x / 4294967296 / 256).toNat = x.toNat / 1099511627776 by omega]; omega
  · rw [Lib.bitLen_shift32 x.toNat (by omega) (by omega), hk, show (x / 4294967296).toNat = x.toNat / 4294967296 by omega]; omega
  · rw [Lib.bitLen_shift24 x.toNat (by omega) (by omega), hk, show (x / 65536 / 256).toNat = x.toNat / 16777216 by omega]; omega
  · rw [Lib.bitLen_shift16 x.toNat (by omega) (by omega), hk, show (x / 65536).toNat = x.toNat / 65536 by omega]; omega
  · rw [Lib.bitLen_shift8 x.toNat (by omega) (by omega), hk, show (x / 256).toNat = x.toNat / 256 by omega]; omega
  · rw [hk]

theorem len64_any (x : Nat) (hx : x < 18446744073709551616) (w : World) :
    Calls Tryz.prog 148 #[.int .u64 (x : Int)] w fun e w' => e = .returned (.int .i64 ((Lib.bitLen x : Nat) : Int)) ∧ w' = w := len64_int (x : Int) (by omega) (by omega) w


end Go.Proofs.YtknabkoddickaaaGreatDoor

namespace Go.Proofs.YtknabkoddickaaaGreatDoor
open Go Go.RowKit
open Sha

def vQ (l : List Nat) : List Value := l.map (fun (x : Nat) => Value.int .u64 (x : Int))
theorem info_q : (Tryz.prog.info? 43).map (·.size) = some 4 := by kernel_rfl

set_option maxRecDepth 100000 in
set_option maxHeartbeats 2000000 in
theorem bytesOf_any (a b c d : Nat) (ha : a < 18446744073709551616) (hb : b < 18446744073709551616) (hc : c < 18446744073709551616) (hd : d < 18446744073709551616) (w : World) :
    Calls Tryz.prog 140 #[.agg #[.int .u64 (a : Int), .int .u64 (b : Int), .int .u64 (c : Int), .int .u64 (d : Int)]] w fun e w' => e = .returned (.int .i64 ((nb a b c d : Nat) : Int)) ∧ Below w.heap.size w w' := by
  have hB0 : Below w.heap.size w (w.alloc (.cells #[.int .u64 (a : Int), .int .u64 (b : Int), .int .u64 (c : Int), .int .u64 (d : Int)] 43)) := (Below.refl _ _).alloc (Nat.le_refl _) _
  have r0 : Row (w.alloc (.cells #[.int .u64 (a : Int), .int .u64 (b : Int), .int .u64 (c : Int), .int .u64 (d : Int)] 43)) w.heap.size [.int .u64 (a : Int), .int .u64 (b : Int), .int .u64 (c : Int), .int .u64 (d : Int)] 43 := Row.new' rfl rfl
  have g0 := r0.cell 0 _ rfl
  have g1 := r0.cell 1 _ rfl
  have g2 := r0.cell 2 _ rfl
  have g3 := r0.cell 3 _ rfl
  have ba := bl_le a
  have bb := bl_le b
  have bc := bl_le c
  have bd := bl_le d
  have LA : Hid (∀ w, _) := fun w => len64_any a ha w
  have LB : Hid (∀ w, _) := fun w => len64_any b hb w
  have LC : Hid (∀ w, _) := fun w => len64_any c hc w
  have LD : Hid (∀ w, _) := fun w => len64_any d hd w
  unfold bl at ba bb bc bd
  clear ha hb hc hd
  generalize hW : w.alloc (.cells #[.int .u64 (a : Int), .int .u64 (b : Int), .int .u64 (c : Int), .int .u64 (d : Int)] 43) = X at *
  go_enter Tryz.func140, Tryz.ntmps140
  go_wp2_with fail
  clear hW
  go_loopw [3] (fun i wr => ∃ t : Nat, t ≤ 4 ∧ i = .int .i64 ((t : Int) - 1) ∧ wr = X ∧ (t ≤ 3 → d = 0) ∧ (t ≤ 2 → c = 0) ∧ (t ≤ 1 → b = 0) ∧ (t ≤ 0 → a = 0)) (fun i _ => ((intOf i) + 1).toNat)
  case atStart => exact ⟨4, by omega, rfl, rfl, by omega, by omega, by omega, by omega⟩
  case round =>
    obtain ⟨t, ht, rfl, rfl, zd, zc, zb, za⟩ := hrel
    rcases (show t = 0 ∨ t = 1 ∨ t = 2 ∨ t = 3 ∨ t = 4 by omega) with rfl | rfl | rfl | rfl | rfl
    · obtain rfl := zd (by omega)
      obtain rfl := zc (by omega)
      obtain rfl := zb (by omega)
      obtain rfl := za (by omega)
      clear LA LB LC LD ba bb bc bd zd zc zb za
      go_wp2
      go_ret
      exact ⟨rfl, hB0⟩
    · obtain rfl := zd (by omega)
      obtain rfl := zc (by omega)
      obtain rfl := zb (by omega)
      by_cases e : a = 0
      · subst e
        clear LA LB LC LD ba bb bc bd zd zc zb za
        go_wp2
        exact ⟨⟨0, by omega, by go_num, (by first | trivial | exact fun _ => trivial | exact fun _ => rfl | omega), (by first | trivial | exact fun _ => trivial | exact fun _ => rfl | omega), (by first | trivial | exact fun _ => trivial | exact fun _ => rfl | omega), (by first | trivial | exact fun _ => trivial | exact fun _ => rfl | omega), (by first | trivial | exact fun _ => trivial | exact fun _ => rfl | omega)⟩, by simp [intOf]⟩
      · have e1 : ¬ (a : Int) = 0 := by omega
        clear zd zc zb za
        go_wp2_with (refine (LA.out _).mono ?_; rintro _ w2 ⟨rfl, rfl⟩)
        go_ret
        refine ⟨congrArg Ending.returned (congrArg (Value.int IntKind.i64) ?_), hB0⟩
        simp only [nb, bl, ne_eq, not_true_eq_false, if_false, e, not_false_eq_true, if_true]
        omega
    · obtain rfl := zd (by omega)
      obtain rfl := zc (by omega)
      by_cases e : b = 0
      · subst e
        clear LA LB LC LD ba bb bc bd zd zc zb za
        go_wp2
        exact ⟨⟨1, by omega, by go_num, (by first | trivial | exact fun _ => trivial | exact fun _ => rfl | omega), (by first | trivial | exact fun _ => trivial | exact fun _ => rfl | omega), (by first | trivial | exact fun _ => trivial | exact fun _ => rfl | omega), (by first | trivial | exact fun _ => trivial | exact fun _ => rfl | omega), by omega⟩, by simp [intOf]⟩
      · have e1 : ¬ (b : Int) = 0 := by omega
        clear zd zc zb za
        go_wp2_with (refine (LB.out _).mono ?_; rintro _ w2 ⟨rfl, rfl⟩)
        go_ret
        refine ⟨congrArg Ending.returned (congrArg (Value.int IntKind.i64) ?_), hB0⟩
        simp only [nb, bl, ne_eq, not_true_eq_false, if_false, e, not_false_eq_true, if_true]
        omega
    · obtain rfl := zd (by omega)
      by_cases e : c = 0
      · subst e
        clear LA LB LC LD ba bb bc bd zd zc zb za
        go_wp2
        exact ⟨⟨2, by omega, by go_num, (by first | trivial | exact fun _ => trivial | exact fun _ => rfl | omega), (by first | trivial | exact fun _ => trivial | exact fun _ => rfl | omega), (by first | trivial | exact fun _ => trivial | exact fun _ => rfl | omega), by omega, by omega⟩, by simp [intOf]⟩
      · have e1 : ¬ (c : Int) = 0 := by omega
        clear zd zc zb za
        go_wp2_with (refine (LC.out _).mono ?_; rintro _ w2 ⟨rfl, rfl⟩)
        go_ret
        refine ⟨congrArg Ending.returned (congrArg (Value.int IntKind.i64) ?_), hB0⟩
        simp only [nb, bl, ne_eq, not_true_eq_false, if_false, e, not_false_eq_true, if_true]
        omega
    · by_cases e : d = 0
      · subst e
        clear LA LB LC LD ba bb bc bd zd zc zb za
        go_wp2
        exact ⟨⟨3, by omega, by go_num, (by first | trivial | exact fun _ => trivial | exact fun _ => rfl | omega), (by first | trivial | exact fun _ => trivial | exact fun _ => rfl | omega), by omega, by omega, by omega⟩, by simp [intOf]⟩
      · have e1 : ¬ (d : Int) = 0 := by omega
        clear zd zc zb za
        go_wp2_with (refine (LD.out _).mono ?_; rintro _ w2 ⟨rfl, rfl⟩)
        go_ret
        refine ⟨congrArg Ending.returned (congrArg (Value.int IntKind.i64) ?_), hB0⟩
        simp only [nb, bl, ne_eq, e, not_false_eq_true, if_true]
        omega
section
variable {P : Program} {ops : Array Oper} {rest : List Oper} {op : Oper} {a : Act} {w : World} {Q : Exit → Act → World → Prop}
theorem wpList_load_w (hw : Region.wanted op (yielded ops a.tmps) = true) (ty : TypeId) (x : Operand) (ho : op.op = .load ty x)
    (b o : Nat) (hx : a.eval x = .pointer (some ⟨b, o, none⟩)) (cs : List Value) (d : TypeDesc) (hc : w.rangeAt b o cs)
    (hu : P.underlying ty = some d) (hd : d.isRow = true) (hi : (P.info? ty).map (·.size) = some cs.length)
    (h : wpList P ops Q rest (a.put op.dst (.agg cs.toArray)) w) : wpList P ops Q (op :: rest) a w :=
  BigFrame.wpList_want hw fun _ hK => wp_load_mid ty x ho b o hx cs d hc hu hd hi (hK _ _ h)
end

theorem results_row_tmp {P : Program} {fn : Func} {p q : Tmp} {ty : TypeId} {n : Nat} {e : TypeId} (h : fn.results = #[.cell p ty, .tmp q]) (tmps : Array Value) (w : World) (g : Nat) (t : TypeId) (cs : List Value) (v : Value)
    (hp : tmps.getD p undef = .pointer (some ⟨g, 0, none⟩)) (hv : tmps.getD q undef = v) (hg : Row w g cs t) (hu : P.underlying ty = some (.array n e)) (hi : (P.info? ty).map (·.size) = some n) (hl : cs.length = n) :
    (results fn tmps).run P w = .ok (.tuple #[.agg cs.toArray, v]) w := by
  have hp' : tmps[p]?.getD undef = .pointer (some ⟨g, 0, none⟩) := by simpa using hp
  have hv' : tmps[q]?.getD undef = v := by simpa using hv
  have hr := run_loadVar_row (P := P) w g t ty cs.toArray (0, 0) (.array n e) hg hu rfl (by simp [hi, hl])
  simp [results, h, hp', hv', asAddr, hr]

def z33 : List Value := vB (List.replicate 33 0#8)
abbrev q4 (a b c d : Nat) : List Value := [.int .u64 (a : Int), .int .u64 (b : Int), .int .u64 (c : Int), .int .u64 (d : Int)]
theorem info_f : (Tryz.prog.info? 156).map (·.size) = some 33 := by kernel_rfl
theorem q4_get (a b c d i : Nat) (h : i < 4) : (q4 a b c d)[i]? = some (.int .u64 (([a, b, c, d].getD i 0 : Nat) : Int)) := by
  rcases (show i = 0 ∨ i = 1 ∨ i = 2 ∨ i = 3 by omega) with rfl | rfl | rfl | rfl <;> rfl
/-- A byte of a part, as the walk meets it. -/
theorem fb_c (x s : Nat) : ((x : Int) / 2 ^ s) % 256 = c (BitVec.ofNat 8 (x / 2 ^ s)) := by
  have h : ((x : Int) / 2 ^ s) = ((x / 2 ^ s : Nat) : Int) := by norm_cast
  have h2 : c (BitVec.ofNat 8 (x / 2 ^ s)) = (((x / 2 ^ s) % 256 : Nat) : Int) := by
    show (((BitVec.ofNat 8 (x / 2 ^ s)).toNat : Nat) : Int) = _
    rw [BitVec.toNat_ofNat]
  rw [h, h2]
  generalize x / 2 ^ s = q
  omega

theorem fl_row {w : World} {b : Nat} {t : TypeId} (k : Nat) (hk : k ≤ 32) (h : Row w b (z33.set 0 (.int .u8 (k : Int))) t) : Row w b (vB ((List.replicate 33 0#8).set 0 (BitVec.ofNat 8 k))) t := by
  rw [← vB_set, show c (BitVec.ofNat 8 k) = (k : Int) by show (((BitVec.ofNat 8 k).toNat : Nat) : Int) = _; rw [BitVec.toNat_ofNat, Nat.mod_eq_of_lt (by omega)]]
  exact h
set_option maxRecDepth 100000 in
set_option maxHeartbeats 4000000 in
theorem formOf_any (m0 m1 m2 m3 : Nat) (ha : m0 < 18446744073709551616) (hb : m1 < 18446744073709551616) (hc : m2 < 18446744073709551616) (hd : m3 < 18446744073709551616) (k : Nat) (hk : k = nb m0 m1 m2 m3) (w : World) :
    Calls Tryz.prog 119 #[.agg (q4 m0 m1 m2 m3).toArray] w fun e w' => e = .returned (.tuple #[.agg (vB (fl [m0, m1, m2, m3] k k)).toArray, .int .i64 (1 + (k : Int))]) ∧ Below w.heap.size w w' := by
  have hk32 : k ≤ 32 := by rw [hk]; exact nb_le m0 m1 m2 m3
  have HB : Hid (∀ w, _) := fun w => bytesOf_any m0 m1 m2 m3 ha hb hc hd w
  rw [← hk] at HB
  clear hk ha hb hc hd
  have b0 : Below w.heap.size w (w.alloc (Obj.cells (q4 m0 m1 m2 m3).toArray 43)) := (Below.refl _ _).alloc (Nat.le_refl _) _
  have b1 := b0.alloc b0.size (Obj.cells z33.toArray 156)
  have b2 := b1.alloc b1.size (Obj.cells z33.toArray 156)
  have r0 : Row (((w.alloc (Obj.cells (q4 m0 m1 m2 m3).toArray 43)).alloc (Obj.cells z33.toArray 156)).alloc (Obj.cells z33.toArray 156)) w.heap.size (q4 m0 m1 m2 m3) 43 := ((Row.new' rfl rfl).alloc _).alloc _
  have r1 : Row (((w.alloc (Obj.cells (q4 m0 m1 m2 m3).toArray 43)).alloc (Obj.cells z33.toArray 156)).alloc (Obj.cells z33.toArray 156)) (w.heap.size + 1) z33 156 := (Row.new' (by simp) rfl).alloc _
  have r2 : Row (((w.alloc (Obj.cells (q4 m0 m1 m2 m3).toArray 43)).alloc (Obj.cells z33.toArray 156)).alloc (Obj.cells z33.toArray 156)) (w.heap.size + 2) z33 156 := Row.new' (by simp) rfl
  clear b0 b1
  go_enter Tryz.func119, Tryz.ntmps119
  go_wp2_with (refine wpList_load_w rfl 43 (.tmp 1) rfl w.heap.size 0 rfl (q4 m0 m1 m2 m3) _ r0.all Tryz.underlying43 rfl info_q ?_; simp only [Act.put, List.setIfInBounds_toArray, List.set_cons_zero, List.set_cons_succ])
  refine (HB.out _).mono ?_
  rintro e V ⟨rfl, hB⟩
  replace b2 := b2.trans (hB.mono b2.size)
  replace r0 := Row.below r0 hB r0.lt
  replace r1 := Row.below r1 hB r1.lt
  replace r2 := Row.below r2 hB r2.lt
  clear hB
  have g2 := r2.cell 0 _ rfl
  have f2 := r2.thaw 0
  have q2 := r2.set 0 (.int .u8 (k : Int))
  have q1 := r1.set_other (w.heap.size + 2) 0 (.int .u8 (k : Int)) (by omega)
  have q0 := r0.set_other (w.heap.size + 2) 0 (.int .u8 (k : Int)) (by omega)
  have qb := b2.setCell (p := ⟨w.heap.size + 2, 0, none⟩) (by simp) (.int .u8 (k : Int))
  clear r0 r1 r2 b2
  have Q0 : Hid _ := q0
  have Q1 : Hid _ := q1
  have Q2 : Hid _ := q2
  have QB : Hid _ := qb
  clear q0 q1 q2 qb
  go_wp2
  go_loopw [6, 13] (fun _ i wr => ∃ t : Nat, t ≤ k ∧ i = .int .i64 (t : Int) ∧ Row wr w.heap.size (q4 m0 m1 m2 m3) 43 ∧ Row wr (w.heap.size + 1) z33 156 ∧ Row wr (w.heap.size + 2) (vB (fl [m0, m1, m2, m3] k t)) 156 ∧ Below w.heap.size w wr) (fun _ i _ => k - (intOf i).toNat)
  case atStart => exact ⟨0, Nat.zero_le _, rfl, Q0.out, Q1.out, by rw [fl_start]; exact fl_row k hk32 Q2.out, QB.out⟩
  case round =>
    clear Q0 Q1 Q2 QB
    obtain ⟨t, ht, rfl, r0, r1, r2, hb⟩ := hrel
    by_cases hlt : t < k
    · have t8 : t / 8 < 4 := by omega
      have g0 := r0.cell (t / 8) _ (q4_get m0 m1 m2 m3 (t / 8) t8)
      have g2 := r2.cell (k - t) _ (vB_get _ (k - t) (by rw [fl_len]; omega))
      have f2 := r2.thaw (k - t)
      have q2 := r2.set (k - t) (.int .u8 (c (fb [m0, m1, m2, m3] t)))
      have q1 := r1.set_other (w.heap.size + 2) (k - t) (.int .u8 (c (fb [m0, m1, m2, m3] t))) (by omega)
      have q0 := r0.set_other (w.heap.size + 2) (k - t) (.int .u8 (c (fb [m0, m1, m2, m3] t))) (by omega)
      have qb := hb.setCell (p := ⟨w.heap.size + 2, k - t, none⟩) (by simp) (.int .u8 (c (fb [m0, m1, m2, m3] t)))
      rw [vB_set, fl_step [m0, m1, m2, m3] k t hlt] at q2
      have EX : Hid (c (fb [m0, m1, m2, m3] t) = (([m0, m1, m2, m3].getD (t / 8) 0 : Nat) : Int) / 2 ^ (t % 8 * 8) % 256) := (fb_c _ _).symm
      generalize [m0, m1, m2, m3].getD (t / 8) 0 = x at g0 EX
      generalize c (fb [m0, m1, m2, m3] t) = y at q0 q1 q2 qb EX
      generalize (fl [m0, m1, m2, m3] k t).getD (k - t) 0 = z at g2
      have Q0 : Hid _ := q0
      have Q1 : Hid _ := q1
      have Q2 : Hid _ := q2
      have QB : Hid _ := qb
      clear r0 r1 r2 hb q0 q1 q2 qb
      go_wp2
      rw [← EX.out]
      exact ⟨⟨t + 1, hlt, by go_num, Q0.out, Q1.out, Q2.out, QB.out⟩, by simp [intOf]; omega⟩
    · obtain rfl : t = k := by omega
      generalize hcs : vB (fl [m0, m1, m2, m3] t t) = cs at *
      have hcl : cs.length = 33 := by rw [← hcs, vB_length, fl_len]
      have hone : cs.toArray.all (·.oneCell') = true := by rw [← hcs]; exact all_oneCell_toArray (vB_one _)
      have hi : (Tryz.prog.info? 156).map (·.size) = some cs.length := by rw [info_f, hcl]
      have hi' : (Tryz.prog.info? 156).map (·.size) = some cs.toArray.size := by rw [info_f, List.size_toArray, hcl]
      have T0 := r1.there 0 cs.toArray.size (by rw [List.size_toArray, hcl]; decide)
      have nf := r1.over (vs := cs) (by rw [hcl]; rfl)
      have nB := below_setCells hb (b := w.heap.size + 1) (o := 0) (by omega) cs
      have HCS : Hid (vB (fl [m0, m1, m2, m3] t t) = cs) := hcs
      have NF : Hid _ := nf
      have NB : Hid _ := nB
      have HI : Hid _ := hi
      have HI' : Hid _ := hi'
      have HT : Hid _ := T0
      have R2 : Hid _ := r2
      have HL : Hid (cs.length = 33) := hcl
      have HO : Hid _ := hone
      clear r0 r1 r2 hb nf nB hi hi' T0 hcl hone hcs
      go_wp2_with (first
        | (refine wpList_load_w rfl 156 (.tmp 4) rfl (w.heap.size + 2) 0 rfl cs _ (Row.all R2.out) Tryz.underlying156 rfl HI.out ?_; simp only [Act.put, List.setIfInBounds_toArray, List.set_cons_zero, List.set_cons_succ])
        | (refine wpList_store_mid rfl 156 (.tmp 2) (.tmp 30) rfl (w.heap.size + 1) 0 cs.toArray rfl rfl HT.out HI'.out HO.out ?_; simp only [Act.put]; (change wpList _ _ _ _ _ (World.setCells wr (w.heap.size + 1) 0 cs))))
      exact bodyPost_ret (results_row_tmp Tryz.results119 _ _ (w.heap.size + 1) 156 cs (.int .i64 (1 + (t : Int))) rfl rfl NF.out Tryz.underlying156 info_f HL.out) rfl ⟨by rw [HCS.out], NB.out⟩

end Go.Proofs.YtknabkoddickaaaGreatDoor

namespace Go.Proofs.YtknabkoddickaaaGreatDoor
open Go Go.RowKit
open Sha

/-- A writer that has laid bytes. -/
def Wr (w : World) (P : Nat) (A : Option Addr) (cap : Nat) (bs : List (BitVec 8)) (f : Int) : Prop := Row w P [.slice A bs.length cap, .int .i64 f] 165 ∧ Bw w (.slice A bs.length cap) bs
def Nl (v : Value) : Prop := ∀ A n c, v = .slice A n c → A = none → c = 0
/-- The parts of one value. -/
def Ls (w : World) (b : Nat) (vs : List Value) (ps : List (List (BitVec 8))) : Prop := Row w b vs 44 ∧ vs.length = ps.length ∧ ∀ i, i < ps.length → SlAt w (vs.getD i undef) (ps.getD i []) ∧ Nl (vs.getD i undef)
theorem Ls.at {w : World} {b : Nat} {vs : List Value} {ps : List (List (BitVec 8))} (h : Ls w b vs ps) (i : Nat) (hi : i < ps.length) : ∃ A c, w.cell? ⟨b, i, none⟩ = some (.slice A (ps.getD i []).length c) ∧ SlAt w (.slice A (ps.getD i []).length c) (ps.getD i []) ∧ (A = none → c = 0) := by
  obtain ⟨h1, h2, h3⟩ := h
  obtain ⟨h4, h5⟩ := h3 i hi
  have hc := h1.cell i (vs.getD i undef) (by rw [List.getD_eq_getElem?_getD, List.getElem?_eq_getElem (by omega)]; rfl)
  obtain ⟨A, c, e⟩ : ∃ A c, vs.getD i undef = .slice A (ps.getD i []).length c := by
    rcases h4 with ⟨q1, A, c, q2⟩ | ⟨b', o', c, q2, _⟩
    · exact ⟨A, c, by rw [q2, q1]; rfl⟩
    · exact ⟨_, c, q2⟩
  rw [e] at hc h4
  exact ⟨A, c, hc, h4, h5 A _ c e⟩
/-- In the list's own block, or in a new one. -/
def Frm (a : Value) (N : Nat) (v : Value) : Prop := ∀ g, v.ownBlock = some g → a.ownBlock = some g ∨ N ≤ g
theorem Frm.refl (a : Value) (N : Nat) : Frm a N a := fun _ e => .inl e
/-- How many bytes the first have. -/
def sums (ps : List (List (BitVec 8))) (t : Nat) : Nat := (ps.take t).flatten.length
theorem sums_succ (ps : List (List (BitVec 8))) (t : Nat) (h : t < ps.length) : sums ps (t + 1) = sums ps t + (ps.getD t []).length := by
  unfold sums
  rw [List.take_succ_eq_append_getElem h, List.flatten_append, List.length_append]
  simp [h]
theorem flat_succ (ps : List (List (BitVec 8))) (t : Nat) (h : t < ps.length) : (ps.take (t + 1)).flatten = (ps.take t).flatten ++ ps.getD t [] := by
  rw [List.take_succ_eq_append_getElem h, List.flatten_append]
  simp [h]
theorem sums_le (ps : List (List (BitVec 8))) (t : Nat) : sums ps t ≤ ps.flatten.length := by
  unfold sums
  have e : ps.flatten = (ps.take t).flatten ++ (ps.drop t).flatten := by rw [← List.flatten_append, List.take_append_drop]
  rw [e, List.length_append]; omega

set_option maxRecDepth 100000 in
theorem newWriter_any (w : World) :
    Calls Tryz.prog 98 #[] w fun e w' => e = .returned (.pointer (some ⟨w.heap.size, 0, none⟩)) ∧ Wr w' w.heap.size none 0 [] 0 ∧ Below w.heap.size w w' := by
  go_enter Tryz.func98, Tryz.ntmps98
  go_wp2
  go_ret
  exact ⟨rfl, ⟨Row.new' rfl rfl, Bw.nil _⟩, (Below.refl _ _).alloc (Nat.le_refl _) _⟩

set_option maxRecDepth 100000 in
theorem open_ok (P : Nat) (v : Value) (w : World) (h : Row w P [v, .int .i64 0] 165) :
    Calls Tryz.prog 135 #[.pointer (some ⟨P, 0, none⟩)] w fun e w' => e = .returned (.bool true) ∧ w' = w := by
  have g1 := h.cell 1 _ rfl
  clear h
  go_enter Tryz.func135, Tryz.ntmps135
  go_wp2
  go_ret
  exact ⟨rfl, rfl⟩

set_option maxRecDepth 100000 in
set_option maxHeartbeats 4000000 in
theorem lay_ok (P : Nat) (A : Option Addr) (cap : Nat) (bs : List (BitVec 8)) (b : Nat) (vs : List Value) (ps : List (List (BitVec 8))) (n : Nat) (hn : ps.length = n) (hn2 : n ≤ 1000000) (hT : bs.length + ps.flatten.length ≤ 4194304) (w : World) (R : Nat → Prop) (hR : R = fun g => g = P ∨ (Value.slice A bs.length cap).ownBlock = some g)
    (hw : Wr w P A cap bs 0) (hS : ∀ W, Gro R w W → Ls W b vs ps) :
    Calls Tryz.prog 113 #[.pointer (some ⟨P, 0, none⟩), .slice (some ⟨b, 0, none⟩) n n] w fun e w' => e = .returned (.tuple #[]) ∧ (∃ A' cap', Wr w' P A' cap' (bs ++ ps.flatten) 0 ∧ ∀ g, (Value.slice A' (bs ++ ps.flatten).length cap').ownBlock = some g → (Value.slice A bs.length cap).ownBlock = some g ∨ w.heap.size ≤ g) ∧ Gro R w w' := by
  have HO : Hid (∀ v w, Row w P [v, .int .i64 0] 165 → _) := fun v w h => open_ok P v w h
  have HS : Hid (∀ W, _ → _) := hS
  have HN : Hid (ps.length = n) := hn
  have HT : Hid (bs.length + ps.flatten.length ≤ 4194304) := hT
  have RP : Hid (R P) := by rw [hR]; exact .inl rfl
  have RV : Hid (∀ g, (Value.slice A bs.length cap).ownBlock = some g → R g) := fun g e => by rw [hR]; exact .inr e
  clear hS hn hR
  obtain ⟨L, hL⟩ : ∃ L, L = bs.length := ⟨_, rfl⟩
  obtain ⟨T, hTT⟩ : ∃ T, T = ps.flatten.length := ⟨_, rfl⟩
  have hLT : L + T ≤ 4194304 := by rw [hL, hTT]; exact hT
  clear hT
  have g0 := hw.1.cell 0 _ rfl
  have HW : Hid (Wr w P A cap bs 0) := hw
  have WV : Hid (∀ g, (Value.slice A bs.length cap).ownBlock = some g → g < w.heap.size) := Bw.lt hw.2
  clear hw
  rw [← hL] at g0
  have HL : Hid (L = bs.length) := hL
  have HTT : Hid (T = ps.flatten.length) := hTT
  clear hL hTT
  go_enter Tryz.func113, Tryz.ntmps113
  go_wp2_with (refine (HO.out _ _ HW.out.1).mono ?_; rintro e w2 ⟨rfl, rfl⟩)
  go_loopw [4, 6, 14] (fun s _ i wr => ∃ t : Nat, t ≤ n ∧ i = .int .i64 (t : Int) ∧ s = .int .i64 ((sums ps t : Nat) : Int) ∧ wr = w2) (fun _ _ i _ => n - (intOf i).toNat)
  case atStart => exact ⟨0, Nat.zero_le _, rfl, rfl, rfl⟩
  case round =>
    obtain ⟨t, ht, rfl, rfl, hwr⟩ := hrel
    replace hwr := hwr.symm
    subst hwr
    have hst : sums ps t ≤ T := by rw [HTT.out]; exact sums_le ps t
    by_cases hlt : t < n
    · have hst2 : sums ps (t + 1) ≤ T := by rw [HTT.out]; exact sums_le ps (t + 1)
      rw [sums_succ ps t (by rw [HN.out]; exact hlt)] at hst2
      obtain ⟨Ap, cp, hc, _, _⟩ := Ls.at (HS.out _ (Gro.refl _ _)) t (by rw [HN.out]; exact hlt)
      have E : Hid (sums ps (t + 1) = sums ps t + (ps.getD t []).length) := sums_succ ps t (by rw [HN.out]; exact hlt)
      generalize (ps.getD t []).length = m at *
      generalize hs0 : sums ps t = s0 at *
      clear hs0
      go_wp2
      exact ⟨⟨t + 1, hlt, by go_num, by rw [E.out]; go_num, trivial⟩, by simp [intOf]; omega⟩
    · obtain rfl : t = n := by omega
      have es : sums ps t = T := by rw [HTT.out]; unfold sums; rw [List.take_of_length_le (by rw [HN.out]; exact Nat.le_refl _)]
      rw [es]
      have hno : ¬ (4194304 - (L : Int) < (T : Int)) := by omega
      clear hst es hlt
      go_wp2
      go_loopw [8, 35] (fun _ i wr => ∃ (s : Nat) (A' : Option Addr) (cap' : Nat), s ≤ t ∧ i = .int .i64 (s : Int) ∧ Wr wr P A' cap' (bs ++ (ps.take s).flatten) 0 ∧ Frm (.slice A bs.length cap) w2.heap.size (.slice A' (bs ++ (ps.take s).flatten).length cap') ∧ Gro R w2 wr) (fun _ i _ => t - (intOf i).toNat)
      case atStart => exact ⟨0, A, cap, Nat.zero_le _, rfl, by simpa using HW.out, by simpa using Frm.refl _ _, Gro.refl _ _⟩
      case round =>
        clear g0 HW
        obtain ⟨s, A', cap', hs, rfl, hw, hf, hG⟩ := hrel
        have HWR : Hid _ := hw
        have HF : Hid _ := hf
        have HG : Hid _ := hG
        by_cases hlt : s < t
        · obtain ⟨Ap, cp, hc, hsl, hnil⟩ := Ls.at (HS.out _ hG) s (by rw [HN.out]; exact hlt)
          have hst2 : sums ps (s + 1) ≤ T := by rw [HTT.out]; exact sums_le ps (s + 1)
          rw [sums_succ ps s (by rw [HN.out]; exact hlt)] at hst2
          have g0 := hw.1.cell 0 _ rfl
          have hbw := hw.2
          have rP := hw.1
          have hbound : (bs ++ (ps.take s).flatten).length + (ps.getD s []).length ≤ 140737488355328 := by
            rw [List.length_append, ← HL.out]
            unfold sums at hst2
            omega
          have EF : Hid ((ps.take (s + 1)).flatten = (ps.take s).flatten ++ ps.getD s []) := flat_succ ps s (by rw [HN.out]; exact hlt)
          generalize ps.getD s [] = d at *
          generalize hl : bs ++ (ps.take s).flatten = l at *
          have HBW : Hid _ := hbw
          have HBO : Hid _ := hbound
          have HRP : Hid _ := rP
          have HSL : Hid _ := hsl
          have HNL : Hid _ := hnil
          have HLE : Hid (bs ++ (ps.take s).flatten = l) := hl
          clear hbw hw hf hG hbound hsl hnil rP hst2 hl
          go_wp2_with (refine wpList_app rfl (.tmp 43) (.tmp 44) rfl _ l d rfl HBW.out Ap d.length cp rfl rfl HSL.out HNL.out HBO.out ?_; intro v' w' q1 q2 q3; obtain ⟨Ax, cx, ex, _⟩ := Bw.form q1; subst ex; have rP' := Gro.row (Gro.grown (Gro.refl _ _) q2 (fun g e => .inl e)) HRP.out (fun e => Bw.ne HBW.out HRP.out (by decide) _ e rfl); have gP := Row.cell rP' 0 _ rfl; have fP := Row.thaw rP' 0; have rQ := Row.set rP' 0 (.slice Ax (l ++ d).length cx); have RP' : Hid _ := rP'; clear rP'; have Q1 : Hid _ := q1; have Q2 : Hid _ := q2; have Q3 : Hid _ := q3; have RQ : Hid _ := rQ; clear q1 q2 q3 rQ; simp only [Act.put, List.setIfInBounds_toArray, List.set_cons_zero, List.set_cons_succ])
          have e : bs ++ (ps.take (s + 1)).flatten = l ++ d := by rw [EF.out, ← HLE.out, List.append_assoc]
          refine ⟨⟨s + 1, Ax, cx, hlt, by go_num, ?_, ?_, ?_⟩, by simp [intOf]; omega⟩
          · rw [e, ← List.length_append]
            exact ⟨RQ.out, Bw.set_other Q1.out (Bw.ne Q1.out RP'.out (by decide))⟩
          · intro g eg
            rw [e] at eg
            rcases Q3.out with q | q
            · exact HF.out g (q.symm.trans eg)
            · have e2 : some wr.heap.size = some g := q.symm.trans eg
              simp only [Option.some.injEq] at e2
              exact .inr (by rw [← e2]; exact HG.out.size)
          · refine (HG.out.grown Q2.out (fun g eg => ?_)).set P 0 _ RP.out
            rcases HF.out g eg with q | q
            · exact .inl (RV.out g q)
            · exact .inr q
        · obtain rfl : s = t := by omega
          go_wp2
          go_end0
          have e : bs ++ (ps.take s).flatten = bs ++ ps.flatten := by rw [List.take_of_length_le (by rw [HN.out]; exact Nat.le_refl _)]
          rw [← e]
          exact ⟨rfl, ⟨A', cap', HWR.out, HF.out⟩, HG.out⟩

end Go.Proofs.YtknabkoddickaaaGreatDoor

namespace Go.Proofs.YtknabkoddickaaaGreatDoor
open Go Go.RowKit
open Sha

theorem Wr.be {w w' : World} {P : Nat} {A : Option Addr} {cap : Nat} {bs : List (BitVec 8)} {f : Int} (h : Wr w P A cap bs f) (k : Below w.heap.size w w') : Wr w' P A cap bs f := ⟨Row.below h.1 k h.1.lt, Bw.be h.2 k⟩
theorem row_ne {w : World} {b c : Nat} {cs ds : List Value} {t u : TypeId} (h : Row w b cs t) (k : Row w c ds u) (htu : t ≠ u) : b ≠ c := fun e => by
  subst e
  have := h.symm.trans k
  simp only [Option.some.injEq, Obj.cells.injEq] at this
  exact htu this.2.1
theorem sl_form {w : World} {g k : Nat} {l : List Nat} (hk : k ≤ 32) (r : Row w g (vB (fl l k k)) 156) : SlAt w (.slice (some ⟨g, 0, none⟩) (k + 1) 33) (fm l k) :=
  .inr ⟨g, 0, 33, by rw [fm_len], by rw [fm_len]; omega, fun j v hj => r.all j v (by
    rw [← fl_end l k hk] at hj
    unfold vB at hj ⊢
    rw [List.map_take, List.getElem?_take] at hj
    split at hj
    · exact hj
    · cases hj)⟩

section
variable {P : Program} {ops : Array Oper} {rest : List Oper} {op : Oper} {a : Act} {w : World} {Q : Exit → Act → World → Prop}
theorem wpList_slice_arr (hw : Region.wanted op (yielded ops a.tmps) = true) (t e : TypeId) (n : Nat) (x z : Operand) (b f k : Nat) (l : Int) (hl : l = (k : Int)) (hk : k ≤ n) (ho : op.op = .slice t x none (some z) none) (hx : a.eval x = .pointer (some ⟨b, f, none⟩)) (hz : a.eval z = .int .i64 l)
    (hu : P.underlying t = some (.array n e)) (hs : (P.info? e).map (·.size) = some 1) (h : wpList P ops Q rest (a.put op.dst (.slice (some ⟨b, f, none⟩) k n)) w) : wpList P ops Q (op :: rest) a w :=
  BigFrame.wpList_want hw fun K hK => by
    subst hl
    cases hq : P.info? e with
    | none => simp [hq] at hs
    | some i =>
      have h1 : i.size = 1 := by simpa [hq] using hs
      have hr : (Instr.sliceAt t (.pointer (some ⟨b, f, none⟩)) none (some (.int .i64 (k : Int))) none).run P w = .ok (.slice (some ⟨b, f, none⟩) k n) w := by
        simp [Instr.sliceAt, Instr.sureAddr, run_underlying hu, Instr.sliceBounds, Instr.sliceBound, asIntOf, sizeOf, typeInfo, hq, hk, Addr.add_mid]
      unfold Oper.wp execOp
      simp only [ho, hx, hz, Option.map_some, Option.map_none, Sem.run_bind, hr, Result.andThen_ok, Sem.run_pure, Oper.upon_value]
      exact hK _ _ h
end
set_option maxRecDepth 100000 in
set_option maxHeartbeats 1000000 in
theorem done_ok (P : Nat) (A : Option Addr) (cap : Nat) (bs : List (BitVec 8)) (hl : bs.length ≤ 140737488355328) (w : World) (hw : Wr w P A cap bs 0) :
    Calls Tryz.prog 100 #[.pointer (some ⟨P, 0, none⟩)] w fun e w' => ∃ A' cap', e = .returned (.tuple #[.slice A' bs.length cap', .int .i64 0]) ∧ Bw w' (.slice A' bs.length cap') bs ∧ Fresh w.heap.size (.slice A' bs.length cap') ∧ Below w.heap.size w w' := by
  have g0 := hw.1.cell 0 _ rfl
  have g1 := hw.1.cell 1 _ rfl
  obtain ⟨A0, c0, e0, _, hnil⟩ := Bw.form hw.2
  simp only [Value.slice.injEq, true_and] at e0
  obtain ⟨rfl, rfl⟩ := e0
  have HSL : Hid _ := Bw.sl hw.2
  have HNL : Hid _ := hnil
  have HL : Hid (([] : List (BitVec 8)).length + bs.length ≤ 140737488355328) := by show 0 + _ ≤ _; omega
  clear hw hnil hl
  go_enter Tryz.func100, Tryz.ntmps100
  go_wp2_with (refine wpList_app rfl _ (.tmp 18) rfl (.slice none 0 0) [] bs rfl (Bw.nil w) A bs.length cap rfl rfl HSL.out HNL.out HL.out ?_; intro v' w' q1 q2 q3; obtain ⟨Ax, cx, ex, _⟩ := Bw.form q1; subst ex; rw [List.nil_append] at q1; have Q1 : Hid _ := q1; have Q2 : Hid _ := q2; have Q3 : Hid _ := q3; clear q1 q2 q3; simp only [Act.put, List.setIfInBounds_toArray, List.set_cons_zero, List.set_cons_succ])
  go_ret2
  refine ⟨Ax, cx, rfl, Q1.out, fun g e => ?_, (Below.refl _ _).grown Q2.out (Nat.le_refl _) (fun k hk => by simp [Value.ownBlock] at hk)⟩
  rcases Q3.out with q | q
  · have e2 := q.symm.trans e
    simp [Value.ownBlock] at e2
  · have e2 := q.symm.trans e
    simp only [Option.some.injEq] at e2
    omega

end Go.Proofs.YtknabkoddickaaaGreatDoor
