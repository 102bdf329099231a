/-
  what TreeLogs stands on, together.
-/
import Derived.Test.YtkgfaioinajkjaaDoorTurn
import Derived.Test.YtkgfaioinajkjaaDoorMem
import Derived.Test.YtkgfaioinajkjaaDoorTOnM
import Derived.Test.YtkgfaioinajkjaaDoorTTxt
import Derived.Test.YtkgfaioinajkjaaDoorTRoot
import Derived.Test.YtkgfaioinajkjaaDoorTFrM
import Derived.Test.YtkgfaioinajkjaaDoorTLog2
import Derived.Deep.CutRange
import Derived.Test.YtkgfaioinajkjaaDoorTLog3
import Derived.Test.YtkgfaioinajkjaaDoorTLp2
import Derived.Test.YtkgfaioinajkjaaDoorTOwned
import Derived.Test.YtkgfaioinajkjaaDoorTAwk

namespace Go.Proofs.YtkgfaioinajkjaaDoor
open Go Go.RowKit

theorem and127 (n : Nat) : bits .and .i64 (n : Int) 127 = ((n % 128 : Nat) : Int) := by
  have h1 : (BitVec.ofInt 64 127).toNat = 2 ^ 7 - 1 := by decide
  have key : (BitVec.ofInt 64 (n : Int) &&& BitVec.ofInt 64 127).toNat = n % 128 := by
    rw [BitVec.toNat_and, BitVec.toNat_ofInt, h1, Nat.and_two_pow_sub_one_eq_mod]
    omega
  show IntKind.i64.wrap ((BitVec.ofInt 64 (n : Int) &&& BitVec.ofInt 64 127).toNat : Nat) = _
  rw [key, IntKind.wrap_i64]
  omega
theorem wu64 (n : Nat) (h : n < 18446744073709551616) : IntKind.u64.wrap (n : Int) = (n : Int) := by rw [IntKind.wrap_u64]; omega
theorem q1 (m : Nat) (hm : m < 18446744073709551616) (h : sw1 m < 18446744073709551616) : IntKind.u64.wrap (bits BinOp.and IntKind.u64 ((m : Int) / 2) 6148914691236517205 + bits BinOp.and IntKind.u64 (m : Int) 6148914691236517205) = ((sw1 m : Nat) : Int) := by
  have a1 := bits_and_u64_nat (m / 2) 6148914691236517205 (by omega) (by decide)
  have a2 := bits_and_u64_nat m 6148914691236517205 (by omega) (by decide)
  have e1 : (m : Int) / 2 = ((m / 2 : Nat) : Int) := by omega
  rw [e1]
  refine (congrArg IntKind.u64.wrap (?_ : _ = ((sw1 m : Nat) : Int))).trans (wu64 _ h)
  refine (congr (congrArg HAdd.hAdd a1) a2).trans ?_
  unfold sw1
  rw [show rb8 0x55 8 = 6148914691236517205 from rfl]
  omega
theorem q2 (m : Nat) (hm : m < 18446744073709551616) (h : sw2 m < 18446744073709551616) : IntKind.u64.wrap (bits BinOp.and IntKind.u64 ((m : Int) / 4) 3689348814741910323 + bits BinOp.and IntKind.u64 (m : Int) 3689348814741910323) = ((sw2 m : Nat) : Int) := by
  have a1 := bits_and_u64_nat (m / 4) 3689348814741910323 (by omega) (by decide)
  have a2 := bits_and_u64_nat m 3689348814741910323 (by omega) (by decide)
  have e1 : (m : Int) / 4 = ((m / 4 : Nat) : Int) := by omega
  rw [e1]
  refine (congrArg IntKind.u64.wrap (?_ : _ = ((sw2 m : Nat) : Int))).trans (wu64 _ h)
  refine (congr (congrArg HAdd.hAdd a1) a2).trans ?_
  unfold sw2
  rw [show rb8 0x33 8 = 3689348814741910323 from rfl]
  omega
theorem q3 (m : Nat) (hm : m < 9223372036854775808) : bits BinOp.and IntKind.u64 (IntKind.u64.wrap ((m : Int) / 16 + (m : Int))) 1085102592571150095 = ((sw3 m : Nat) : Int) := by
  have e1 : (m : Int) / 16 + (m : Int) = ((m / 16 + m : Nat) : Int) := by omega
  rw [e1, wu64 _ (by omega)]
  exact bits_and_u64_nat (m / 16 + m) 1085102592571150095 (by omega) (by decide)
theorem q4 (m : Nat) (h : sw4 m < 18446744073709551616) : IntKind.u64.wrap ((m : Int) + (m : Int) / 256) = ((sw4 m : Nat) : Int) := by
  have e1 : (m : Int) + (m : Int) / 256 = ((m + m / 256 : Nat) : Int) := by omega
  rw [e1]
  exact wu64 _ h
theorem q5 (m : Nat) (h : sw5 m < 18446744073709551616) : IntKind.u64.wrap ((m : Int) + (m : Int) / 65536) = ((sw5 m : Nat) : Int) := by
  have e1 : (m : Int) + (m : Int) / 65536 = ((m + m / 65536 : Nat) : Int) := by omega
  rw [e1]
  exact wu64 _ h
theorem q6 (m : Nat) (h : sw6 m < 18446744073709551616) : IntKind.u64.wrap ((m : Int) + (m : Int) / 4294967296) = ((sw6 m : Nat) : Int) := by
  have e1 : (m : Int) + (m : Int) / 4294967296 = ((m + m / 4294967296 : Nat) : Int) := by omega
  rw [e1]
  exact wu64 _ h
set_option maxRecDepth 100000 in
set_option maxHeartbeats 1000000 in
theorem ones64_w (m : Nat) (hm : m < 18446744073709551616) (w : World) :
    Calls Tryd.prog 47 #[.int .u64 (m : Int)] w fun e w' => e = .returned (.int .i64 (pops 8 m : Int)) ∧ w' = w := by
  go_enter Tryd.func47, Tryd.ntmps47
  go_wp2
  go_ret
  have s := sw_small m hm
  have p := sw_pops m hm
  refine ⟨congrArg (fun z => Ending.returned (Value.int .i64 z)) (?_ : _ = _), rfl⟩
  clear w
  rw [q1 m hm s.1]
  rw [q2 _ s.1 (by omega)]
  rw [q3 _ s.2.1]
  rw [q4 _ (by omega)]
  rw [q5 _ (by omega)]
  rw [q6 _ (by omega)]
  rw [← p.1]
  refine (congrArg (fun z => bits BinOp.and IntKind.i64 z 127) (?_ : _ = ((sw6 (sw5 (sw4 (sw3 (sw2 (sw1 m))))) : Nat) : Int))).trans (and127 _)
  have h9 := p.2.2.2
  generalize sw6 (sw5 (sw4 (sw3 (sw2 (sw1 m))))) = x at h9
  unfold wrap64
  omega

end Go.Proofs.YtkgfaioinajkjaaDoor

namespace Go.Proofs.YtkgfaioinajkjaaDoor
open Go Go.RowKit
open Sha

/-- A slice without a place has no room. -/
def Nl (v : Value) : Prop := ∀ A n c, v = .slice A n c → A = none → c = 0
/-- Leaves that stand one behind the other, as bytes of a caller. -/
def LnAt (w : World) (b o : Nat) (ps : List (List (BitVec 8))) : Prop := ∃ vs : List Value, vs.length = ps.length ∧ w.rangeAt b o vs ∧ ∀ i, i < ps.length → SlAt w (vs.getD i undef) (ps.getD i []) ∧ Nl (vs.getD i undef)
theorem LnAt.ls {w : World} {b o : Nat} {ps : List (List (BitVec 8))} (h : LnAt w b o ps) : LsAt w b o ps := by
  obtain ⟨vs, h1, h2, h3⟩ := h
  exact ⟨vs, h1, h2, fun i hi => (h3 i hi).1⟩
theorem LnAt.below {w w' : World} {b o : Nat} {ps : List (List (BitVec 8))} (h : LnAt w b o ps) (k : Below w.heap.size w w') : LnAt w' b o ps := by
  obtain ⟨vs, h1, h2, h3⟩ := h
  exact ⟨vs, h1, range_below h2 k (Nat.le_refl _), fun i hi => ⟨(h3 i hi).1.below k (Nat.le_refl _), (h3 i hi).2⟩⟩
theorem LnAt.take {w : World} {b o : Nat} {ps : List (List (BitVec 8))} (h : LnAt w b o ps) (k : Nat) : LnAt w b o (ps.take k) := by
  obtain ⟨vs, h1, h2, h3⟩ := h
  refine ⟨vs.take k, by rw [List.length_take, List.length_take, h1], fun j v hv => ?_, fun i hi => ?_⟩
  · have hj : j < k := by have := (List.getElem?_eq_some_iff.1 hv).1; rw [List.length_take] at this; omega
    rw [List.getElem?_take_of_lt hj] at hv
    exact h2 j v hv
  · rw [List.length_take] at hi
    have e1 : (vs.take k).getD i undef = vs.getD i undef := by simp [List.getD_eq_getElem?_getD, show i < k by omega]
    have e2 : (ps.take k).getD i [] = ps.getD i [] := by simp [List.getD_eq_getElem?_getD, show i < k by omega]
    rw [e1, e2]; exact h3 i (by omega)
theorem LnAt.drop {w : World} {b o : Nat} {ps : List (List (BitVec 8))} (h : LnAt w b o ps) (k : Nat) : LnAt w b (o + k) (ps.drop k) := by
  obtain ⟨vs, h1, h2, h3⟩ := h
  refine ⟨vs.drop k, by rw [List.length_drop, List.length_drop, h1], fun j v hv => ?_, fun i hi => ?_⟩
  · rw [List.getElem?_drop] at hv
    have := h2 (k + j) v hv
    rwa [show o + k + j = o + (k + j) by omega]
  · rw [List.length_drop] at hi
    have e1 : (vs.drop k).getD i undef = vs.getD (k + i) undef := by simp [List.getD_eq_getElem?_getD, List.getElem?_drop]
    have e2 : (ps.drop k).getD i [] = ps.getD (k + i) [] := by simp [List.getD_eq_getElem?_getD, List.getElem?_drop]
    rw [e1, e2]; exact h3 (k + i) (by omega)

section
variable {ops : Array Oper} {rest : List Oper} {op : Oper} {a : Act} {w : World} {Q : Exit → Act → World → Prop}
theorem wpList_slice_to (hw : Region.wanted op (yielded ops a.tmps) = true) (t e : TypeId) (x z : Operand) (b f n cap k : Nat) (ho : op.op = .slice t x none (some z) none) (hx : a.eval x = .slice (some ⟨b, f, none⟩) n cap) (hz : a.eval z = .int .i64 (k : Int)) (hk : k ≤ cap)
    (hu : Tryd.prog.underlying t = some (.slice e)) (hs : (Tryd.prog.info? e).map (·.size) = some 1) (h : wpList Tryd.prog ops Q rest (a.put op.dst (.slice (some ⟨b, f, none⟩) k cap)) w) : wpList Tryd.prog ops Q (op :: rest) a w :=
  BigFrame.wpList_want hw fun _ hK => wp_slice_to t e x z b f n cap k ho hx hz hk hu hs (hK _ _ h)
theorem wpList_slice_on (hw : Region.wanted op (yielded ops a.tmps) = true) (t e : TypeId) (x z : Operand) (b f n cap k : Nat) (ho : op.op = .slice t x (some z) none none) (hx : a.eval x = .slice (some ⟨b, f, none⟩) n cap) (hz : a.eval z = .int .i64 (k : Int)) (hk : k ≤ n) (hc : k < cap)
    (hu : Tryd.prog.underlying t = some (.slice e)) (hs : (Tryd.prog.info? e).map (·.size) = some 1) (h : wpList Tryd.prog ops Q rest (a.put op.dst (.slice (some ⟨b, f + k, none⟩) (n - k) (cap - k))) w) : wpList Tryd.prog ops Q (op :: rest) a w :=
  BigFrame.wpList_want hw fun _ hK => wp_slice_on t e x z b f n cap k ho hx hz hk hc hu hs (hK _ _ h)
end

end Go.Proofs.YtkgfaioinajkjaaDoor

namespace Go.Proofs.YtkgfaioinajkjaaDoor
open Go Go.RowKit

theorem pc_zero : pc 0 = 0 := by rw [pc, dif_pos rfl]
theorem pc_half (m : Nat) : pc m = m % 2 + pc (m / 2) := by
  by_cases h : m = 0
  · subst h; rw [Nat.zero_div, pc_zero]
  · conv => lhs; rw [pc, dif_neg h]
theorem pc_pops (m : Nat) (h : m < 18446744073709551616) : pops 8 m = pc m := pops_of pc pc_zero pc_half 8 m h
theorem pc_le (m : Nat) : pc m ≤ m := by
  induction m using Nat.strongRecOn with
  | ind m ih =>
    by_cases h : m = 0
    · subst h; rw [pc_zero]; exact Nat.le_refl _
    · have := ih (m / 2) (by omega)
      rw [pc_half]; omega
set_option maxRecDepth 100000 in
set_option maxHeartbeats 1000000 in
theorem ones64_all (m : Nat) (hm : m < 18446744073709551616) (w : World) :
    Calls Tryd.prog 33 #[.int .u64 (m : Int)] w fun e w' => e = .returned (.int .i64 (pc m : Int)) ∧ w' = w := by
  have HO : Hid _ := ones64_w m hm w
  rw [pc_pops m hm] at HO
  clear hm
  generalize pc m = k at *
  go_enter Tryd.func33, Tryd.ntmps33
  go_wp2_with (go_at_call 47; refine Calls.mono HO.out ?_; rintro e W ⟨rfl, rfl⟩)
  go_ret
  exact ⟨rfl, rfl⟩
set_option maxRecDepth 100000 in
set_option maxHeartbeats 1000000 in
theorem rones_any (m : Nat) (hm : m < 4611686018427387904) (w : World) :
    Calls Tryd.prog 34 #[.int .i64 (m : Int)] w fun e w' => e = .returned (.int .i64 (pc m : Int)) ∧ w' = w := by
  have HM : Hid (pc m < 4611686018427387904) := Nat.lt_of_le_of_lt (pc_le m) hm
  go_enter Tryd.func34, Tryd.ntmps34
  go_wp2
  go_loopw [0, 3] (fun v u wr => ∃ t k : Nat, t ≤ m ∧ v = .int .i64 (t : Int) ∧ u = .int .i64 (k : Int) ∧ wr = w ∧ Hid (k + pc t = pc m)) (fun v _ _ => (intOf v).toNat)
  case atStart => exact ⟨m, 0, Nat.le_refl _, rfl, rfl, rfl, Nat.zero_add _⟩
  case round =>
    obtain ⟨t, k, ht, rfl, rfl, rfl, hb⟩ := hrel
    by_cases h0 : 0 < t
    · have hp : (0 : Int) < (t : Int) := by omega
      have e1 : (t : Int).tmod 2 = ((t % 2 : Nat) : Int) := by rw [Int.tmod_eq_emod_of_nonneg (by omega)]; omega
      have e2 : (t : Int).tdiv 2 = ((t / 2 : Nat) : Int) := by rw [Int.tdiv_eq_ediv_of_nonneg (by omega)]; omega
      have hk : k ≤ pc m := by have := hb.out; omega
      have hk2 := HM.out
      have hb2 : Hid (k + t % 2 + pc (t / 2) = pc m) := by have h3 := hb.out; rw [pc_half t] at h3; show _ = _; omega
      go_wp2
      exact ⟨⟨t / 2, k + t % 2, by omega, by simp, by simp, trivial, hb2.out⟩, by simp [intOf]; omega⟩
    · have et : t = 0 := by omega
      subst et
      have e : k = pc m := by have := hb.out; rw [pc_zero] at this; omega
      subst e
      clear h0 ht
      go_wp2
      go_ret
      exact ⟨rfl, rfl⟩

end Go.Proofs.YtkgfaioinajkjaaDoor

namespace Go.Proofs.YtkgfaioinajkjaaDoor
open Go Go.RowKit
open Sha

section
variable {P : Program} {ops : Array Oper} {rest : List Oper} {op : Oper} {a : Act} {w : World} {Q : Exit → Act → World → Prop}
theorem wpList_storeL (hgd : op.guard = none) (ty : TypeId) (x y : Operand) (ho : op.op = .store ty x y) (b : Nat) (L M : List Value) (t : TypeId) (hx : a.eval x = .pointer (some ⟨b, 0, none⟩)) (hy : a.eval y = .agg L.toArray) (r : Row w b M t) (hl : L.length = M.length) (hi : (P.info? ty).map (·.size) = some L.length) (h1 : L.toArray.all (·.oneCell') = true)
    (h : ∀ X, X = w.setCells b 0 L → Row X b L t → wpList P ops Q rest (a.put op.dst undef) X) : wpList P ops Q (op :: rest) a w :=
  wpList_store_mid hgd ty x y ho b 0 L.toArray hx hy (r.there 0 _ (by rw [List.size_toArray, hl, Nat.zero_add]; exact Nat.le_refl _)) (by rw [hi, List.size_toArray]) h1 (h _ rfl (r.over hl))
theorem wpList_boxG (ty : TypeId) (hgd : op.guard = none) (x : Operand) (ho : op.op = .box ty x) (L : List Value) (hx : a.eval x = .agg L.toArray) (h : ∀ X, Row X w.heap.size L ty → Below w.heap.size w X → X.heap.size = w.heap.size + 1 → wpList P ops Q rest (a.put op.dst (.pointer (some ⟨w.heap.size, 0, none⟩))) X) : wpList P ops Q (op :: rest) a w :=
  wpList_plain hgd fun _ hK => by
    unfold Oper.wp execOp
    simp only [ho, hx]
    go_simp
    exact hK _ _ (h _ (Row.new' rfl rfl) ((Below.refl _ _).alloc (Nat.le_refl _) _) (by simp))
end
section
variable {ops : Array Oper} {rest : List Oper} {op : Oper} {a : Act} {w : World} {Q : Exit → Act → World → Prop}
theorem wpList_allocD (hgd : op.guard = none) (ho : op.op = .alloc 42) (h : ∀ X, Row X w.heap.size (vB (List.replicate 32 0#8)) 42 → Below w.heap.size w X → X.heap.size = w.heap.size + 1 → wpList Tryd.prog ops Q rest (a.put op.dst (.pointer (some ⟨w.heap.size, 0, none⟩))) X) : wpList Tryd.prog ops Q (op :: rest) a w :=
  wpList_plain hgd fun _ hK => by
    unfold Oper.wp execOp
    simp only [ho]
    go_simp
    exact hK _ _ (h _ (Row.new' (cs := (vB (List.replicate 32 0#8))) rfl rfl) ((Below.refl _ _).alloc (Nat.le_refl _) _) (by simp))
end
theorem wp_rf1 {o : Oper} {a : Act} {w : World} {K : Act → World → Prop} {Q : Exit → Act → World → Prop} {x : Operand} (b : Nat) (ho : o.op = .fieldAddr 28 x 1) (hx : a.eval x = .pointer (some ⟨b, 0, none⟩)) (h : K (a.put o.dst (.pointer (some ⟨b, 1, none⟩))) w) : Oper.wp Tryd.prog o a w K Q := by
  unfold Oper.wp execOp
  simp only [ho, hx]
  go_simp
  exact h
end Go.Proofs.YtkgfaioinajkjaaDoor
