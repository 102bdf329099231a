/-
  the outbox in a store: readBox, ask.
-/
import Derived.Test.YtbfahgdienppoaaGreatDoorLws
import Derived.LoopN
import Derived.Deep.CutRange
import Derived.RangeFuncBox
import Derived.RangeFuncLeaves
import Derived.RangeFuncCalls
import Derived.Shelf.Abstract
import Derived.WalkKit
import Derived.OwnWalkIn
import Derived.TacticsInMore
import Derived.LoopNIn
import Derived.LoopIn
import Derived.OrdersIn
import Derived.Maps.AppendAt
import Derived.Test.YtbfahgdienppoaaGreatDoorTLog3
import Derived.Test.YtbfahgdienppoaaGreatDoorAgBase

namespace Go.Proofs.YtbfahgdienppoaaGreatDoor
open Go Go.RowKit
open Sha

/-- A number in eight bytes, the highest first. -/
def be8 (n : Nat) : List (BitVec 8) := (List.range 8).map fun i => BitVec.ofNat 8 (n / 256 ^ (7 - i))
theorem be8_len (n : Nat) : (be8 n).length = 8 := by simp [be8]
theorem be8_take (n j : Nat) (h : j < 8) : (be8 n).take (j + 1) = (be8 n).take j ++ [BitVec.ofNat 8 (n / 256 ^ (7 - j))] := by
  have e : (be8 n)[j]? = some (BitVec.ofNat 8 (n / 256 ^ (7 - j))) := by simp [be8, h]
  rw [List.take_add_one, e]; rfl
theorem be8_get (n j : Nat) (h : j < 8) : (be8 n)[j]? = some (BitVec.ofNat 8 (n / 256 ^ (7 - j))) := by simp [be8, h]
theorem c_nat (m : Nat) : (c (BitVec.ofNat 8 m) : Int) = ((m % 256 : Nat) : Int) := by simp [c]
section
variable {ops : Array Oper} {rest : List Oper} {op : Oper} {a : Act} {w : World} {Q : Exit → Act → World → Prop}
theorem wpList_shrN (hgd : op.guard = none) (x y : Operand) (t yt : TypeId) (ho : op.op = .binOp .shr t x y yt) (n k : Nat) (hx : a.eval x = .int .i64 (n : Int)) (hy : a.eval y = .int .i64 (k : Int)) (hk : k < 64)
    (h : wpList Tryz.prog ops Q rest (a.put op.dst (.int .i64 ((n / 2 ^ k : Nat) : Int))) w) : wpList Tryz.prog ops Q (op :: rest) a w :=
  wpList_plain hgd fun _ hK => by
    unfold Oper.wp execOp
    simp only [ho, hx, hy]
    have h1 : ¬ ((k : Int) < 0) := by omega
    have h2 : (k : Int).toNat = k := Int.toNat_natCast k
    go_simp
    have e : ((n : Int) / 2 ^ k) = ((n / 2 ^ k : Nat) : Int) := by rw [Int.natCast_ediv, Int.natCast_pow]; rfl
    rw [e]
    exact hK _ _ h
theorem wpList_cv8 (hgd : op.guard = none) (x : Operand) (ho : op.op = .convert 3 5 x) (n : Nat) (hx : a.eval x = .int .i64 (n : Int))
    (h : wpList Tryz.prog ops Q rest (a.put op.dst (.int .u8 (c (BitVec.ofNat 8 n)))) w) : wpList Tryz.prog ops Q (op :: rest) a w :=
  wpList_plain hgd fun _ hK => by
    unfold Oper.wp execOp
    simp only [ho, hx]
    go_simp
    have e : IntKind.u8.wrap (n : Int) = c (BitVec.ofNat 8 n) := by rw [c_nat, IntKind.wrap_u8]; omega
    rw [e]
    exact hK _ _ h
end
theorem u8_four : ∃ ie z, Tryz.prog.info? 5 = some ie ∧ ie.zero = some z ∧ ie.size = 1 ∧ z.cells.size = 1 := by
  obtain ⟨ie, z, h1, h2, h3, _, h5⟩ := info_u8open
  exact ⟨ie, z, h1, h2, h3, h5⟩
theorem one_by {W : World} {N : Nat} {b : BitVec 8} (h : Row W N [.int .u8 (c b)] 5) : SlAt W (.slice (some ⟨N, 0, none⟩) 1 1) [b] := .inr ⟨N, 0, 1, rfl, Nat.le_refl _, h.all⟩
set_option maxRecDepth 100000 in
set_option maxHeartbeats 1000000 in
/-- eight: a number in eight bytes. -/
theorem oeight_any (n : Nat) (w : World) : Calls Tryz.prog 49 #[.int .i64 (n : Int)] w fun e w' => ∃ A cap, e = .returned (.slice A 8 cap) ∧ Bw w' (.slice A 8 cap) (be8 n) ∧ Fresh w.heap.size (.slice A 8 cap) ∧ Below w.heap.size w w' := by
  go_enter Tryz.func49, Tryz.ntmps49
  go_wp2_with fail
  go_loopw [3, 5] (fun v3 v5 wr => ∃ j : Nat, j ≤ 8 ∧ v5 = .int .i64 (j : Int) ∧ (∃ A cap, v3 = .slice A j cap) ∧ Hid (Bw wr v3 ((be8 n).take j)) ∧ Hid (Fresh w.heap.size v3) ∧ Hid (Below w.heap.size w wr)) (fun _ v5 _ => 8 - (intOf v5).toNat)
  case atStart => exact ⟨0, Nat.zero_le _, rfl, ⟨none, 0, rfl⟩, Bw.nil w, (fun g e => by simp [Value.ownBlock] at e), Below.refl _ _⟩
  case round =>
    obtain ⟨j, hj, rfl, ⟨A, cap, rfl⟩, HW, HF, HB⟩ := hrel
    by_cases hj8 : j < 8
    · obtain ⟨k, hkk⟩ : ∃ k, k = 8 * (7 - j) := ⟨_, rfl⟩
      obtain ⟨m, hm⟩ : ∃ m, m = 7 - j := ⟨_, rfl⟩
      have e7 : (7 : Int) - (j : Int) = (m : Int) := by omega
      have e8 : (8 : Int) * (m : Int) = (k : Int) := by omega
      have hk : k < 64 := by omega
      obtain ⟨b, hb⟩ : ∃ b, b = BitVec.ofNat 8 (n / 2 ^ k) := ⟨_, rfl⟩
      have hbb : b = BitVec.ofNat 8 (n / 256 ^ (7 - j)) := by rw [hb, hkk, show (256 : Nat) = 2 ^ 8 from rfl, ← Nat.pow_mul]
      have HBB : Hid (b = BitVec.ofNat 8 (n / 256 ^ (7 - j))) := hbb
      have HBE : Hid (b = BitVec.ofNat 8 (n / 2 ^ k)) := hb
      have HLT : Hid (((be8 n).take j).length = j) := by show _ = _; rw [List.length_take, be8_len]; omega
      have HLK : Hid (((be8 n).take j).length + 1 ≤ 140737488355328) := by show _ ≤ _; rw [HLT.out]; omega
      have HM : Hid (m = 7 - j) := hm
      have HKK : Hid (k = 8 * (7 - j)) := hkk
      clear hbb hb hm hkk
      go_upto_region 6 with (first
        | (refine wpList_shrN rfl (.tmp 9) (.tmp 12) 3 3 rfl n k rfl rfl hk ?_; simp only [Act.put, List.setIfInBounds_toArray, List.set_cons_zero, List.set_cons_succ])
        | (refine wpList_cv8 rfl (.tmp 13) rfl (n / 2 ^ k) rfl ?_; rw [← HBE.out]; simp only [Act.put, List.setIfInBounds_toArray, List.set_cons_zero, List.set_cons_succ])
        | (refine wpList_buildOne 46 5 Tryz.underlying46 u8_four rfl (.tmp 14) rfl (.int .u8 (c b)) rfl rfl ?_; intro X2 q1 q2 q3; have S2 : Hid (SlAt X2 (.slice (some ⟨wr.heap.size, 0, none⟩) 1 1) [b]) := one_by q1; have D2 : Hid (Below wr.heap.size wr X2) := q2; clear q1 q2 q3; simp only [Act.put, List.setIfInBounds_toArray, List.set_cons_zero, List.set_cons_succ])
        | (refine wpList_app rfl (.tmp 8) (.tmp 15) rfl (.slice A j cap) ((be8 n).take j) [b] rfl (Bw.be HW.out D2.out) (some ⟨wr.heap.size, 0, none⟩) 1 1 rfl rfl S2.out (fun h => by cases h) HLK.out ?_; intro v3 X3 q1 q2 q3; obtain ⟨A3, c3, e3, _, _⟩ := Bw.form q1; rw [List.length_append, HLT.out, show ([b] : List (BitVec 8)).length = 1 from rfl] at e3; subst e3; have W3 : Hid (Bw X3 (.slice A3 (j + 1) c3) ((be8 n).take j ++ [b])) := q1; have G3 : Hid (X2.grownBy X3 (Value.slice A j cap).ownBlock) := q2; have O3 : Hid ((Value.slice A3 (j + 1) c3).ownBlock = (Value.slice A j cap).ownBlock ∨ (Value.slice A3 (j + 1) c3).ownBlock = some X2.heap.size) := q3; clear q1 q2 q3; simp only [Act.put, List.setIfInBounds_toArray, List.set_cons_zero, List.set_cons_succ]))
      go_wp2_with fail
      go_roundw
      case rel =>
        have hB2 := HB.out.trans (D2.out.mono HB.out.size)
        refine ⟨j + 1, hj8, rfl, ⟨A3, c3, rfl⟩, ?_, ?_, ?_⟩
        · show Bw _ _ _
          rw [be8_take n j hj8, ← HBB.out]
          exact W3.out
        · intro g e
          rcases O3.out with h | h
          · rw [h] at e; exact HF.out g e
          · rw [h] at e; cases e; exact hB2.size
        · exact below_gb hB2 G3.out HF.out
      case measure => simp [intOf]; omega
    · obtain rfl : j = 8 := by omega
      go_wp2_with fail
      go_ret
      exact ⟨A, cap, rfl, by have := HW.out; rw [List.take_of_length_le (by rw [be8_len]; exact Nat.le_refl _)] at this; exact this, HF.out, HB.out⟩

end Go.Proofs.YtbfahgdienppoaaGreatDoor

namespace Go.Proofs.YtbfahgdienppoaaGreatDoor
open Go Go.RowKit
open Sha

theorem or64_i (x y : Nat) (hx : x < 9223372036854775808) (hy : y < 9223372036854775808) : bits BinOp.or IntKind.i64 (x : Int) (y : Int) = ((x ||| y : Nat) : Int) := by
  have e : ∀ n : Nat, n < 9223372036854775808 → (BitVec.ofInt IntKind.i64.bits (n : Int)).toNat = n := fun n h => by
    show (BitVec.ofInt 64 (n : Int)).toNat = n
    rw [BitVec.toNat_ofInt]
    have e2 : ((2 ^ 64 : Nat) : Int) = 18446744073709551616 := by decide
    omega
  show IntKind.i64.wrap (((BitVec.ofInt IntKind.i64.bits (x : Int)) ||| (BitVec.ofInt IntKind.i64.bits (y : Int))).toNat : Int) = _
  rw [BitVec.toNat_or, e x hx, e y hy]
  have := Nat.or_lt_two_pow (n := 63) hx hy
  generalize x ||| y = z at *
  have : z < 9223372036854775808 := this
  rw [IntKind.wrap_i64]
  omega
theorem or_byte (x y : Nat) (hy : y < 256) : x * 256 ||| y = x * 256 + y := by
  have := Nat.two_pow_add_eq_or_of_lt (i := 8) (b := y) hy x
  rw [Nat.mul_comm x 256]
  exact this.symm
theorem be8_more (n j : Nat) (h : j < 8) : n / 256 ^ (8 - j) * 256 + (BitVec.ofNat 8 (n / 256 ^ (7 - j))).toNat = n / 256 ^ (8 - (j + 1)) := by
  have e1 : n / 256 ^ (8 - j) = n / 256 ^ (7 - j) / 256 := by rw [Nat.div_div_eq_div_mul, show 8 - j = 7 - j + 1 by omega, Nat.pow_succ]
  rw [e1, show 8 - (j + 1) = 7 - j by omega, BitVec.toNat_ofNat]
  omega
theorem or_step (m : Nat) (b : BitVec 8) (hm : m < 36028797018963968) : bits BinOp.or IntKind.i64 (wrap64 ((m : Int) * 256)) (wrap64 (c b)) = ((m * 256 + b.toNat : Nat) : Int) := by
  have hb := b.isLt
  have e1 : wrap64 ((m : Int) * 256) = ((m * 256 : Nat) : Int) := by unfold wrap64; omega
  have e2 : wrap64 (c b) = ((b.toNat : Nat) : Int) := by rw [show c b = ((b.toNat : Nat) : Int) from rfl]; unfold wrap64; omega
  rw [e1, e2, or64_i _ _ (by omega) (by omega), or_byte _ _ hb]
set_option maxRecDepth 100000 in
set_option maxHeartbeats 1000000 in
/-- readEight: the number that eight bytes are. -/
theorem ore8_any (n : Nat) (hn : n < 9223372036854775808) (g o cap : Nat) (w : World) (h : w.rangeAt g o (vB (be8 n))) : Calls Tryz.prog 74 #[.slice (some ⟨g, o, none⟩) 8 cap] w fun e w' => e = .returned (.int .i64 (n : Int)) ∧ w' = w := by
  have HR : Hid (w.rangeAt g o (vB (be8 n))) := h
  have HN : Hid (n < 9223372036854775808) := hn
  clear h hn
  go_enter Tryz.func74, Tryz.ntmps74
  go_wp2_with fail
  go_loopw [3, 8] (fun v3 v8 wr => ∃ j : Nat, j ≤ 8 ∧ v8 = .int .i64 (j : Int) ∧ v3 = .int .i64 ((n / 256 ^ (8 - j) : Nat) : Int) ∧ wr = w) (fun _ v8 _ => 8 - (intOf v8).toNat)
  case atStart => exact ⟨0, Nat.zero_le _, rfl, by rw [Nat.div_eq_of_lt (Nat.lt_of_lt_of_le HN.out (by decide))]; rfl, rfl⟩
  case round =>
    obtain ⟨j, hj, rfl, rfl, rfl⟩ := hrel
    by_cases hj8 : j < 8
    · obtain ⟨b, hb⟩ : ∃ b, b = BitVec.ofNat 8 (n / 256 ^ (7 - j)) := ⟨_, rfl⟩
      obtain ⟨m, hm⟩ : ∃ m, m = n / 256 ^ (8 - j) := ⟨_, rfl⟩
      have hmb : m < 36028797018963968 := by
        have h1 : n / 256 ^ (8 - j) ≤ n / 256 := by
          rw [show 8 - j = 7 - j + 1 by omega, Nat.pow_succ, Nat.mul_comm, ← Nat.div_div_eq_div_mul]
          exact Nat.div_le_self _ _
        have := HN.out
        omega
      have HMB : Hid (m < 36028797018963968) := hmb
      have hc : wr.cell? ⟨g, o + j, none⟩ = some (.int .u8 (c b)) := HR.out j _ (by rw [vB, List.getElem?_map, be8_get n j hj8, hb]; rfl)
      have HE : Hid (m * 256 + b.toNat = n / 256 ^ (8 - (j + 1))) := by show _ = _; rw [hm, hb]; exact be8_more n j hj8
      rw [← hm]
      clear hb hm hmb
      go_wp2_with fail
      go_roundw
      case rel => exact ⟨j + 1, hj8, rfl, by rw [or_step m b HMB.out, HE.out], trivial⟩
      case measure => simp [intOf]; omega
    · obtain rfl : j = 8 := by omega
      go_wp2_with fail
      go_ret
      exact ⟨by simp, rfl⟩

end Go.Proofs.YtbfahgdienppoaaGreatDoor

namespace Go.Proofs.YtbfahgdienppoaaGreatDoor
open Go Go.RowKit Go.Shelf
open Sha

section
variable {P : Program} {ops : Array Oper} {Q : Exit → Act → World → Prop} {l n : Nat}
/-- In a round, at the wide fence, an operation goes as everywhere. -/
theorem wpIn_of_wp {o : Oper} {a : Act} {w : World} {K : Act → World → Prop} (hd : ∀ c, o.op ≠ .defer c) (h : Oper.wp P o a w K Q) : o.wpIn (Fence.wide.inRound l) n P a w K Q := by
  refine ⟨fun _ _ => trivial, ?_⟩
  rw [Oper.semAt_plain _ _ _ hd]
  unfold Oper.wp at h
  generalize (execOp a.eval o).run P w = r at *
  cases r with
  | ok x w' =>
    cases x <;> simp only [Oper.upon, Oper.uponIn] at h ⊢ <;>
      first
        | exact h
        | exact ⟨(fun hh => by cases hh), CallsIn.inRound l (callsIn_wide.2 h)⟩
        | exact h.elim
        | exact ⟨(fun hh => by cases hh), fun c cs _ => let ⟨v, w'', r, s⟩ := h c cs; ⟨v, w'', r, stepsIn_wide.2 s⟩⟩
  | halt x w' => cases x <;> simp only [Oper.upon, Oper.uponIn] at h ⊢ <;> exact h
theorem wpOpIn_of_wpOp {i : Nat} {a : Act} {w : World} {K : Act → World → Prop} (hQ : ¬ LetsOut Q) (hd : ∀ o ∈ ops, ∀ c, o.op ≠ .defer c) (h : wpOp P ops Q i K a w) : wpOpIn (Fence.wide.inRound l) n P ops Q i K a w := by
  unfold wpOp at h
  unfold wpOpIn
  cases ho : ops[i]? with
  | none => rw [ho] at h; exact h
  | some o =>
    rw [ho] at h
    simp only at h ⊢
    split
    · rename_i hw; simp only [hw, if_true] at h; exact wpIn_of_wp (hd o (Array.mem_of_getElem? ho)) (h.resolve_right (fun q => hQ q.2))
    · rename_i hw; simp only [hw] at h; exact ⟨fun _ _ => trivial, h⟩
theorem wpAnyIn_of {md : Region.Mode} (hQ : ¬ LetsOut Q) (hd : ∀ o ∈ ops, ∀ c, o.op ≠ .defer c) : ∀ (fuel : Nat) (listed : Array Bool) (a : Act) (w : World), wpAny P md ops Q fuel listed a w → wpAnyIn (Fence.wide.inRound l) n P md ops Q fuel listed a w
  | 0, _, _, _, h => h
  | fuel + 1, _, _, _, h => ⟨h.1, fun i hi => wpOpIn_mono (fun _ _ h' => wpAnyIn_of hQ hd fuel _ _ _ h') (wpOpIn_of_wpOp hQ hd (h.2 i hi))⟩
/-- A region of a round that draws its order, as a region anywhere. -/
theorem wpIn_round_any {id : Nat} {a : Act} {w : World} (hm : P.follows .mixedOrders = true) (hQ : ¬ LetsOut Q) (hd : ∀ o ∈ ops, ∀ c, o.op ≠ .defer c)
    (h : wpAny P .any ops Q ops.size (Array.replicate ops.size false) a w.drew) : (Code.region id ops true).wpIn (Fence.wide.inRound l) n P Q a w :=
  wpIn_region_any hm (wpAnyIn_of hQ hd _ _ _ _ h)
end

end Go.Proofs.YtbfahgdienppoaaGreatDoor

namespace Go.Proofs.YtbfahgdienppoaaGreatDoor
open Go Go.RowKit Go.Shelf
open Sha
attribute [local go_sem] Oper.semAt_some

abbrev Pc (b off m : Nat) (x : Fin m) : Value := .slice (some ⟨b, off + x.1 * 32, none⟩) 32 32
set_option maxHeartbeats 1000000 in
theorem chunk_in (n : Nat) (A : Option Addr) (len cap : Nat) (w : World) :
    CallsIn Fence.wide n Tryz.prog 94 #[.slice A len cap, .int .i64 32] w fun e w' => e = .returned (.func (.func 103) #[] #[.pointer (some ⟨w.heap.size, 0, none⟩), .pointer (some ⟨w.heap.size + 1, 0, none⟩)]) ∧ w' = (w.alloc (.cells #[.slice A len cap] 46)).alloc (.cells #[.int .i64 32] 3) := by
  refine callsIn_of_wp Tryz.func94 rfl trivial ?_ rfl
  simp only [Tryz.ntmps94, List.size_toArray, List.length_cons, List.length_nil, Nat.reduceAdd, Nat.reduceSub, Array.replicate_succ, Array.replicate_zero, List.push_toArray, List.append_toArray, List.nil_append, List.cons_append]
  gi_wp2
  go_ret
  exact ⟨rfl, rfl⟩
theorem fin_take (m k : Nat) (h : k < m) : (List.finRange m).take (k + 1) = (List.finRange m).take k ++ [⟨k, h⟩] := by
  rw [List.take_add_one, List.getElem?_eq_getElem (by simpa using h)]
  simp
set_option maxRecDepth 100000 in
set_option maxHeartbeats 2000000 in
/-- The iterator: piece by piece. -/
theorem chunk1_in (n l Bs Bn n₀ b off m cap : Nat) (hm : m ≤ 100) (hcap : m * 32 ≤ cap) (J Jx : List (Fin m) → World → Prop)
    (hY : ∀ pre x W, J pre W → pre.length < m → YieldAt Fence.wide (n - 1) Tryz.prog l #[Pc b off m x] W fun e W' =>
      (e = .returned (.bool true) ∧ J (pre ++ [x]) W' ∧ Gro (fun g => n₀ ≤ g ∧ g ≠ Bs ∧ g ≠ Bn) W W') ∨ (e = .returned (.bool false) ∧ Jx (pre ++ [x]) W'))
    (W : World) (hBs : W.cell? ⟨Bs, 0, none⟩ = some (.slice (some ⟨b, off, none⟩) (m * 32) cap)) (hBn : W.cell? ⟨Bn, 0, none⟩ = some (.int .i64 32)) (hJ : AbidesFrom W.heap.size J) (h0 : J [] W) :
    CallsIn Fence.wide n Tryz.prog 103 #[.func (.yield l) #[] #[], .pointer (some ⟨Bs, 0, none⟩), .pointer (some ⟨Bn, 0, none⟩)] W fun e W' => (∃ v, e = .returned v) ∧
      ((∃ ys, ys = List.finRange m ∧ J ys W') ∨ (∃ pre, pre <+: List.finRange m ∧ Jx pre W')) := by
  refine callsIn_of_wp Tryz.func103 rfl trivial ?_ rfl
  simp only [Tryz.ntmps103, List.size_toArray, List.length_cons, List.length_nil, Nat.reduceAdd, Nat.reduceSub, Array.replicate_succ, Array.replicate_zero, List.push_toArray, List.append_toArray, List.nil_append, List.cons_append]
  gi_wp2
  gi_loopw [4] (fun i wr => ∃ k : Nat, k ≤ m ∧ i = .int .i64 ((k * 32 : Nat) : Int) ∧ J ((List.finRange m).take k) wr ∧ wr.cell? ⟨Bs, 0, none⟩ = some (.slice (some ⟨b, off, none⟩) (m * 32) cap) ∧ wr.cell? ⟨Bn, 0, none⟩ = some (.int .i64 32) ∧ W.heap.size ≤ wr.heap.size)
    (fun i _ => m * 32 - (intOf i).toNat)
  case atStart => exact ⟨0, Nat.zero_le _, rfl, h0, hBs, hBn, Nat.le_refl _⟩
  case round =>
    obtain ⟨k, hk, rfl, hJs, hcs, hcn, hsz⟩ := hrel
    by_cases hlt : k < m
    · obtain ⟨fn, tmps, assign, body, hy, hR⟩ := hY _ ⟨k, hlt⟩ wr.drew (hJ _ _ _ none hJs ⟨rfl, rfl, rfl, Nat.le_refl _, fun _ _ _ => rfl⟩ (fun r e => by cases e)) (by rw [List.length_take]; simp; omega)
      obtain ⟨K, hKK⟩ : ∃ K, K = k * 32 := ⟨_, rfl⟩
      obtain ⟨M, hMM⟩ : ∃ M, M = m * 32 := ⟨_, rfl⟩
      have hy2 : (Instr.yield l #[.slice (some ⟨b, off + K, none⟩) 32 32]).run Tryz.prog wr.drew = .ok (.round l fn tmps assign body) wr.drew := by rw [hKK]; exact hy
      clear hy
      rw [← hKK]
      rw [← hMM] at hcs
      have hle : K + 32 ≤ M := by omega
      have hMc : M ≤ cap := by omega
      have hMb : M ≤ 3200 := by omega
      have HKK : Hid (K = k * 32) := hKK
      have HMM : Hid (M = m * 32) := hMM
      have HJ : Hid (AbidesFrom W.heap.size J) := hJ
      have HSZ : Hid (W.heap.size ≤ wr.heap.size) := hsz
      have hmin : min (32 : Int) (((M - K : Nat) : Int)) = 32 := by omega
      clear hKK hMM hY hBs hBn hJ h0 hJs hk hcap hm hsz
      gi_wp2
      refine wpIn_wide.2 ?_
      go_region
      gi_wp2
      refine ⟨(fun h => by cases h), hR.mono ?_⟩
      rintro e W3 (⟨rfl, hJ3, hk3⟩ | ⟨rfl, hJx3⟩)
      · have h3s : W3.cell? ⟨Bs, 0, none⟩ = some (.slice (some ⟨b, off, none⟩) M cap) := (World.cell?_of_block (a := ⟨Bs, 0, none⟩) (hk3.block Bs (World.block_lt_of_cell? _ _ hcs) (fun q => q.2.1 rfl))).trans hcs
        have h3n : W3.cell? ⟨Bn, 0, none⟩ = some (.int .i64 32) := (World.cell?_of_block (a := ⟨Bn, 0, none⟩) (hk3.block Bn (World.block_lt_of_cell? _ _ hcn) (fun q => q.2.2 rfl))).trans hcn
        gi_wp2
        go_roundw
        case rel => exact ⟨k + 1, hlt, by rw [HKK.out]; congr 1; omega, by rw [fin_take m k hlt]; exact hJ3, by rw [HMM.out] at h3s; exact h3s, h3n, Nat.le_trans HSZ.out hk3.size⟩
        case measure => have := HMM.out; simp [intOf]; omega
      · gi_wp2
        refine bodyPost_ret (results_none rfl _ _ _) rfl ?_
        exact ⟨⟨_, rfl⟩, .inr ⟨_, by rw [← fin_take m k hlt]; exact List.take_prefix _ _, hJx3⟩⟩
    · obtain rfl : k = m := by omega
      gi_wp2
      go_end0
      exact ⟨⟨_, rfl⟩, .inl ⟨_, rfl, by rw [List.take_of_length_le (by simp)] at hJs; exact hJs⟩⟩

/-- What the pieces' reader keeps. -/
abbrev Kc (n₀ Bs Bn : Nat) (W W' : World) : Prop := Gro (fun g => n₀ ≤ g ∧ g ≠ Bs ∧ g ≠ Bn) W W'
theorem chunk_stops (n Bs Bn n₀ b off m cap : Nat) (hm : m ≤ 100) (hcap : m * 32 ≤ cap) (w : World) (hs : Bs < w.heap.size) (hn : Bn < w.heap.size) (hBs : w.cell? ⟨Bs, 0, none⟩ = some (.slice (some ⟨b, off, none⟩) (m * 32) cap)) (hBn : w.cell? ⟨Bn, 0, none⟩ = some (.int .i64 32)) :
    SeqStopsK Fence.wide n Tryz.prog 103 #[.pointer (some ⟨Bs, 0, none⟩), .pointer (some ⟨Bn, 0, none⟩)] (fun x : Fin m => #[Pc b off m x]) (Kc n₀ Bs Bn) (fun ys => ys = List.finRange m) (fun pre => pre <+: List.finRange m) m w := fun l J Jx W hW hJ _ hY h0 =>
  chunk1_in n l Bs Bn n₀ b off m cap hm hcap J Jx hY W ((hW.cell (p := ⟨Bs, 0, none⟩) hs).trans hBs) ((hW.cell (p := ⟨Bn, 0, none⟩) hn).trans hBn) hJ h0

end Go.Proofs.YtbfahgdienppoaaGreatDoor

namespace Go.Proofs.YtbfahgdienppoaaGreatDoor
open Go Go.RowKit Go.Shelf
open Sha
attribute [local go_sem] Oper.semAt_some

section
variable {P : Program} {md : Region.Mode} {ops : Array Oper} {Q : Exit → Act → World → Prop} {fuel : Nat} {listed : Array Bool} {a : Act} {w : World}
theorem any1 {i : Nat} (hr : Region.ready md ops listed = [i]) (h : wpOp P ops Q i (wpAny P md ops Q fuel (listed.setIfInBounds i true)) a w) : wpAny P md ops Q (fuel + 1) listed a w :=
  wpAny_all hr (by simp) (fun j hj => by rw [List.mem_singleton.1 hj]; exact h)
theorem any_named (h : ∀ a', a' = a → wpAny P md ops Q fuel listed a' w) : wpAny P md ops Q fuel listed a w := h a rfl
theorem any2 {i k : Nat} (hr : Region.ready md ops listed = [i, k]) (h : wpOp P ops Q i (wpAny P md ops Q fuel (listed.setIfInBounds i true)) a w) (h2 : wpOp P ops Q k (wpAny P md ops Q fuel (listed.setIfInBounds k true)) a w) : wpAny P md ops Q (fuel + 1) listed a w :=
  wpAny_all hr (by simp) (fun j hj => by
    rcases List.mem_cons.1 hj with rfl | hj
    · exact h
    · rw [List.mem_singleton.1 hj]; exact h2)
theorem wp_load_ds {o : Oper} {K : Act → World → Prop} (x : Operand) (ho : o.op = .load 63 x) (b f : Nat) (hx : a.eval x = .pointer (some ⟨b, f, none⟩)) (v : Value) (hc : w.cell? ⟨b, f, none⟩ = some v) (h : K (a.put o.dst v) w) : Oper.wp Tryz.prog o a w K Q := by
  unfold Oper.wp execOp
  simp only [ho, hx]
  go_simp
  exact h
theorem run_arrAt (ad : Addr) (w : World) : (Instr.arrayAt 53 (.slice (some ad) 32 32)).run Tryz.prog w = .ok (.pointer (some ad)) w := by
  unfold Instr.arrayAt
  simp [go_sem, run_underlying Tryz.underlying53]
theorem arrAt_exec {o : Oper} {ad : Addr} (x : Operand) (ho : o.op = .sliceToArrayPointer 53 x) (hx : a.eval x = .slice (some ad) 32 32) (w : World) : (execOp a.eval o).run Tryz.prog w = .ok (.value (.pointer (some ad))) w := by
  have hr := run_arrAt ad w
  unfold execOp
  simp only [ho, hx]
  simp [go_sem, hr]
end
/-- Digests, one behind the other. -/
def fD {m : Nat} (D : List (List (BitVec 8))) (pre : List (Fin m)) : List (BitVec 8) := (pre.map fun x => D.getD x.1 []).flatten
theorem fD_snoc {m : Nat} (D : List (List (BitVec 8))) (pre : List (Fin m)) (x : Fin m) : fD D (pre ++ [x]) = fD D pre ++ D.getD x.1 [] := by simp [fD]
theorem fD_all {m : Nat} (D : List (List (BitVec 8))) (h : D.length = m) : fD D (List.finRange m) = D.flatten := by
  unfold fD
  congr 1
  apply List.ext_getElem
  · simp [h]
  · intro i h1 h2
    simp [List.getD_eq_getElem?_getD, List.getElem?_eq_getElem h2]
theorem vB_app (x y : List (BitVec 8)) : vB (x ++ y) = vB x ++ vB y := by simp [vB]
set_option maxRecDepth 100000 in
set_option maxHeartbeats 4000000 in
theorem digestsIn_any (D : List (List (BitVec 8))) (m : Nat) (hD : D.length = m) (hm : m ≤ 100) (h32 : ∀ d ∈ D, d.length = 32) (b off cap : Nat) (hcap : m * 32 ≤ cap) (w : World) (h : w.rangeAt b off (vB D.flatten)) (hb : b < w.heap.size) :
    Calls Tryz.prog 76 #[.slice (some ⟨b, off, none⟩) (m * 32) cap] w fun e w' => ∃ A c, e = .returned (.slice A m c) ∧ Ow w' (.slice A m c) m (vB D.flatten) ∧ Fresh w.heap.size (.slice A m c) ∧ Below w.heap.size w w' := by
  have HR : Hid (∀ W, Below w.heap.size w W → ∀ x : Fin m, W.rangeAt b (off + x.1 * 32) (vB (D.getD x.1 []))) := fun W hW x j u hj => by
    have hx : x.1 < D.length := by rw [hD]; exact x.2
    have hl : (D.getD x.1 []).length = 32 := h32 _ (by rw [List.getD_eq_getElem?_getD, List.getElem?_eq_getElem hx]; exact List.getElem_mem hx)
    have hj32 : j < 32 := by have := (List.getElem?_eq_some_iff.1 hj).1; rw [vB_length, hl] at this; exact this
    have e := flat_at D h32 x.1 hx j hj32
    have q := h (x.1 * 32 + j) u (by rw [vB, List.getElem?_map, e, ← List.getElem?_map]; exact hj)
    rw [Nat.add_assoc]
    exact (hW.cell (p := ⟨b, off + (x.1 * 32 + j), none⟩) hb).trans q
  have HL32 : Hid (∀ x : Fin m, (D.getD x.1 []).length = 32) := fun x => by
    have hx : x.1 < D.length := by rw [hD]; exact x.2
    exact h32 _ (by rw [List.getD_eq_getElem?_getD, List.getElem?_eq_getElem hx]; exact List.getElem_mem hx)
  have HD : Hid (D.length = m) := hD
  have HCAP : Hid (m * 32 ≤ cap) := hcap
  have HM : Hid (m ≤ 100) := hm
  obtain ⟨M, hM⟩ : ∃ M, M = m * 32 := ⟨_, rfl⟩
  have HMM : Hid (M = m * 32) := hM
  rw [← hM]
  clear hD hcap h32 h hM hm
  refine (callsIn_wide (n := 9)).1 ?_
  refine callsIn_of_wp_marks Tryz.func76 rfl trivial ?_ rfl
  simp only [Tryz.ntmps76, List.size_toArray, List.length_cons, List.length_nil, Nat.reduceAdd, Nat.reduceSub, Array.replicate_succ, Array.replicate_zero, List.push_toArray, List.append_toArray, List.nil_append, List.cons_append]
  gi_wp2_with (refine ⟨trivial, ?_⟩; gi_at_call 94; refine (chunk_in _ _ _ _ _).mono ?_; rintro e w' ⟨rfl, rfl⟩)
  have bO : Boxed ((w.alloc (.cells #[.slice none 0 0] 63))) w.heap.size 63 (.slice none 0 0) := Boxed.new w _ _
  have bS := Boxed.new (w.alloc (.cells #[.slice none 0 0] 63)) 46 (.slice (some ⟨b, off, none⟩) M cap)
  have bN := Boxed.new ((w.alloc (.cells #[.slice none 0 0] 63)).alloc (.cells #[.slice (some ⟨b, off, none⟩) M cap] 46)) 3 (.int .i64 32)
  have bO2 := (bO.alloc (.cells #[.slice (some ⟨b, off, none⟩) M cap] 46)).alloc (.cells #[.int .i64 32] 3)
  have bS2 := bS.alloc (.cells #[.int .i64 32] 3)
  simp only [World.size_alloc] at bS2 bN
  obtain ⟨W0, hW0⟩ : ∃ W0, W0 = ((w.alloc (.cells #[.slice none 0 0] 63)).alloc (.cells #[.slice (some ⟨b, off, none⟩) M cap] 46)).alloc (.cells #[.int .i64 32] 3) := ⟨_, rfl⟩
  have hs0 : W0.heap.size = w.heap.size + 3 := by rw [hW0]; simp
  have hB0 : Below w.heap.size w W0 := by rw [hW0]; exact (((Below.refl _ w).alloc (Nat.le_refl _) _).alloc (by simp) _).alloc (by simp; omega) _
  try simp only [World.size_alloc]
  rw [← hW0] at bO2 bS2 bN ⊢
  clear hW0 bO bS
  refine wpIn_rangeFunc_ownG rfl (by decide) (gf := 103) (lb := #[.pointer (some ⟨w.heap.size + 1, 0, none⟩), .pointer (some ⟨w.heap.size + 1 + 1, 0, none⟩)]) rfl trivial (enters_of Tryz.func103 (by kernel_rfl) rfl)
    (chunk_stops 8 (w.heap.size + 1) (w.heap.size + 1 + 1) w.heap.size b off m cap HM.out HCAP.out W0 (by omega) (by omega) (by rw [← HMM.out]; exact bS2.cell) bN.cell)
    (fun h k => Gro.trans h k) (fun W l o o' hl h _ _ => (Gro.refl _ W).grown (grownBy_putObj' W l o') (fun g e => .inl (by cases e; omega))) (Below.refl _ _) (fun _ => rfl)
    (fun pre W => (∃ v, Boxed W w.heap.size 63 v ∧ W.ownsRow 0 53 32 v pre.length (vB (fD D pre)) ∧ Fresh (w.heap.size + 3) v) ∧ Below w.heap.size w W ∧ w.heap.size + 3 ≤ W.heap.size)
    (fun _ _ _ => False)
    (OwnFrom.and (Own.from (holdsRow_own 0 w.heap.size 63 53 32 (fun pre => pre.length) (fun pre => vB (fD D pre)) (fun _ v => Fresh (w.heap.size + 3) v)) _) (OwnFrom.and (ownFrom_below (Nat.le_refl _) (by omega)) (fun _ _ _ _ h hg _ => Nat.le_trans h hg.size)))
    (fun _ _ _ _ _ hs _ _ => hs)
    ⟨⟨.slice none 0 0, bO2, ⟨rfl, .inl ⟨rfl, rfl⟩⟩, (fun g e => by simp [Value.ownBlock] at e)⟩, hB0, by omega⟩
    (fun x => { tmps := #[.slice (some ⟨b, off, none⟩) M cap, undef, .slice none 0 0, .pointer (some ⟨w.heap.size, 0, none⟩), Pc b off m x, .slice (some ⟨b, off, none⟩) M cap, .func (.func 103) #[] #[.pointer (some ⟨w.heap.size + 1, 0, none⟩), .pointer (some ⟨w.heap.size + 1 + 1, 0, none⟩)], Pc b off m x, undef, undef, undef, undef, undef, undef, undef], defers := [] }) ?assign ?body ?done ?stop
  case assign =>
    intro l x W K hK
    gi_wp2
    exact hK
  case body =>
    rintro l pre x W ⟨⟨v, hv, hrow, hfr⟩, hBe, hsz⟩ hlt
    obtain ⟨d, hd⟩ : ∃ d, d = D.getD x.1 [] := ⟨_, rfl⟩
    have HD32 : Hid (d.length = 32) := by rw [hd]; exact HL32.out x
    have HRG : Hid (W.drew.rangeAt b (off + x.1 * 32) (vB d)) := by rw [hd]; exact HR.out W.drew (hBe.drew) x
    have HOW : Hid (W.drew.ownsRow 0 53 32 v pre.length (vB (fD D pre))) := hrow
    have HBE : Hid (Below w.heap.size w W) := hBe
    have HFR : Hid (Fresh (w.heap.size + 3) v) := hfr
    have HSZ : Hid (w.heap.size + 3 ≤ W.heap.size) := hsz
    have HDE : Hid (d = D.getD x.1 []) := hd
    have HLK : Hid ((pre.length + 1) * 32 ≤ 140737488355328) := by have := HM.out; show _ ≤ _; omega
    have hv2 : Boxed W.drew w.heap.size 63 v := hv
    have cv := hv2.cell
    gi_wp2
    clear hd hrow hBe hfr hsz hv
    have HRX : Hid (Row (W.drew.alloc (Obj.cells (vB d).toArray 53)) W.heap.size (vB d) 53) := Row.new' rfl rfl
    have HOX : Hid (Ow (W.drew.alloc (Obj.cells (vB d).toArray 53)) v pre.length (vB (fD D pre))) := Ow.be HOW.out ((Below.refl _ _).alloc (Nat.le_refl _) _)
    have cvx := (hv2.alloc (Obj.cells (vB d).toArray 53)).cell
    have HI : Hid ((Tryz.prog.info? 53).map (·.size) = some (vB d).length) := dl_info HD32.out
    refine wpIn_round_any (by kernel_rfl) (by rintro ⟨_, _, h⟩; exact h) (by intro o ho c; simp only [List.mem_toArray, List.mem_cons, List.not_mem_nil, or_false] at ho; rcases ho with rfl | rfl | rfl | rfl | rfl | rfl | rfl <;> simp) ?_
    refine wpAny_take (i := 1) (v := Pc b off m x) rfl (by kernel_rfl) (by kernel_rfl) (by kernel_rfl) (fun _ _ _ h => h) (Or.inl ⟨by rfl, fun w => rfl⟩) ?_
    refine wpAny_take (i := 2) (v := .pointer (some ⟨b, off + x.1 * 32, none⟩)) rfl (by kernel_rfl) (by kernel_rfl) (by kernel_rfl) (fun _ _ _ h => h) (Or.inl ⟨by rfl, fun w => arrAt_exec (.tmp 9) rfl rfl w⟩) ?_
    refine any2 (i := 0) (k := 3) (by kernel_rfl) (wpOp_plain rfl rfl (wp_load_ds (.tmp 3) rfl w.heap.size 0 rfl v cv ?_)) (wpOp_plain rfl rfl (wp_load_mid 53 (.tmp 10) rfl b (off + x.1 * 32) rfl (vB d) _ HRG.out Tryz.underlying53 rfl HI.out ?_))
    · refine any1 (i := 3) (by kernel_rfl) (wpOp_plain rfl rfl (wp_load_mid 53 (.tmp 10) rfl b (off + x.1 * 32) rfl (vB d) _ HRG.out Tryz.underlying53 rfl HI.out ?_))
      refine any1 (i := 4) (by kernel_rfl) (wpOp_plain rfl rfl (wp_build_d (.tmp 11) rfl d HD32.out rfl ?_))
      refine any1 (i := 5) (by kernel_rfl) (wpOp_plain rfl rfl (wp_appd (.tmp 8) (.tmp 12) rfl W.heap.size pre.length v (vB (fD D pre)) d HD32.out rfl HOX.out rfl HRX.out HLK.out ?_))
      intro v' X2 q1 q2 q3
      obtain ⟨A2, c2, e2, _⟩ := Ow.form q1
      subst e2
      have hbx := hv2.appended (W := W.drew) (n₀ := 0) (B := w.heap.size) (by decide) HOW.out (Nat.zero_le _) (Nat.zero_le _) q1 q2
      have hc3 := hbx.1.cell
      have hf3 := hbx.1.frozen
      refine any_named fun a6 ha6 => ?_
      have e3 : a6.eval (.tmp 3) = .pointer (some ⟨w.heap.size, 0, none⟩) := by rw [ha6]; rfl
      have e13 : a6.eval (.tmp 13) = .slice A2 (pre.length + 1) c2 := by rw [ha6]; rfl
      clear ha6
      refine any1 (i := 6) (by kernel_rfl) (wpOp_plain rfl rfl (wp_store_ds w.heap.size 0 v A2 (pre.length + 1) c2 rfl e3 e13 hc3 hf3 ?_))
      refine wpAny_done (by kernel_rfl) ?_ _
      have hg1 : Gro (fun g => w.heap.size ≤ g ∧ g ≠ w.heap.size + 1 ∧ g ≠ w.heap.size + 2) W (W.drew.alloc (Obj.cells (vB d).toArray 53)) := (Gro.refl _ _).below (((Below.refl _ W).drew).alloc (Nat.le_refl _) _)
      have hg2 := (hg1.grown q2 (fun g e => .inl (by have := HFR.out g e; omega))).set w.heap.size 0 (.slice A2 (pre.length + 1) c2) ⟨Nat.le_refl _, by omega, by omega⟩
      refine ⟨((KeepsOthers.drew W).trans hbx.2.2.2.1).from _, hg2, ⟨.slice A2 (pre.length + 1) c2, hbx.2.1, ?_, ?_⟩, HBE.out.trans (hg2.to_below HBE.out.size (fun k q => q.1)), Nat.le_trans HSZ.out hg2.size⟩
      · show World.ownsRow _ _ _ _ _ (pre ++ [x]).length (vB (fD D (pre ++ [x])))
        rw [fD_snoc, vB_app, List.length_append, ← HDE.out]
        exact hbx.2.2.1
      · intro g e
        rcases q3 with h | h
        · rw [h] at e; exact HFR.out g e
        · rw [h] at e
          cases e
          have := HSZ.out
          show _ ≤ _
          simp
          omega
    · refine any2 (i := 0) (k := 4) (by kernel_rfl) (wpOp_plain rfl rfl (wp_load_ds (.tmp 3) rfl w.heap.size 0 rfl v cv ?_)) (wpOp_plain rfl rfl (wp_build_d (.tmp 11) rfl d HD32.out rfl ?_))
      · refine any1 (i := 4) (by kernel_rfl) (wpOp_plain rfl rfl (wp_build_d (.tmp 11) rfl d HD32.out rfl ?_))
        refine any1 (i := 5) (by kernel_rfl) (wpOp_plain rfl rfl (wp_appd (.tmp 8) (.tmp 12) rfl W.heap.size pre.length v (vB (fD D pre)) d HD32.out rfl HOX.out rfl HRX.out HLK.out ?_))
        intro v' X2 q1 q2 q3
        obtain ⟨A2, c2, e2, _⟩ := Ow.form q1
        subst e2
        have hbx := hv2.appended (W := W.drew) (n₀ := 0) (B := w.heap.size) (by decide) HOW.out (Nat.zero_le _) (Nat.zero_le _) q1 q2
        have hc3 := hbx.1.cell
        have hf3 := hbx.1.frozen
        refine any_named fun a6 ha6 => ?_
        have e3 : a6.eval (.tmp 3) = .pointer (some ⟨w.heap.size, 0, none⟩) := by rw [ha6]; rfl
        have e13 : a6.eval (.tmp 13) = .slice A2 (pre.length + 1) c2 := by rw [ha6]; rfl
        clear ha6
        refine any1 (i := 6) (by kernel_rfl) (wpOp_plain rfl rfl (wp_store_ds w.heap.size 0 v A2 (pre.length + 1) c2 rfl e3 e13 hc3 hf3 ?_))
        refine wpAny_done (by kernel_rfl) ?_ _
        have hg1 : Gro (fun g => w.heap.size ≤ g ∧ g ≠ w.heap.size + 1 ∧ g ≠ w.heap.size + 2) W (W.drew.alloc (Obj.cells (vB d).toArray 53)) := (Gro.refl _ _).below (((Below.refl _ W).drew).alloc (Nat.le_refl _) _)
        have hg2 := (hg1.grown q2 (fun g e => .inl (by have := HFR.out g e; omega))).set w.heap.size 0 (.slice A2 (pre.length + 1) c2) ⟨Nat.le_refl _, by omega, by omega⟩
        refine ⟨((KeepsOthers.drew W).trans hbx.2.2.2.1).from _, hg2, ⟨.slice A2 (pre.length + 1) c2, hbx.2.1, ?_, ?_⟩, HBE.out.trans (hg2.to_below HBE.out.size (fun k q => q.1)), Nat.le_trans HSZ.out hg2.size⟩
        · show World.ownsRow _ _ _ _ _ (pre ++ [x]).length (vB (fD D (pre ++ [x])))
          rw [fD_snoc, vB_app, List.length_append, ← HDE.out]
          exact hbx.2.2.1
        · intro g e
          rcases q3 with h | h
          · rw [h] at e; exact HFR.out g e
          · rw [h] at e
            cases e
            have := HSZ.out
            show _ ≤ _
            simp
            omega
      · refine any1 (i := 0) (by kernel_rfl) (wpOp_plain rfl rfl (wp_load_ds (.tmp 3) rfl w.heap.size 0 rfl v cvx ?_))
        refine any1 (i := 5) (by kernel_rfl) (wpOp_plain rfl rfl (wp_appd (.tmp 8) (.tmp 12) rfl W.heap.size pre.length v (vB (fD D pre)) d HD32.out rfl HOX.out rfl HRX.out HLK.out ?_))
        intro v' X2 q1 q2 q3
        obtain ⟨A2, c2, e2, _⟩ := Ow.form q1
        subst e2
        have hbx := hv2.appended (W := W.drew) (n₀ := 0) (B := w.heap.size) (by decide) HOW.out (Nat.zero_le _) (Nat.zero_le _) q1 q2
        have hc3 := hbx.1.cell
        have hf3 := hbx.1.frozen
        refine any_named fun a6 ha6 => ?_
        have e3 : a6.eval (.tmp 3) = .pointer (some ⟨w.heap.size, 0, none⟩) := by rw [ha6]; rfl
        have e13 : a6.eval (.tmp 13) = .slice A2 (pre.length + 1) c2 := by rw [ha6]; rfl
        clear ha6
        refine any1 (i := 6) (by kernel_rfl) (wpOp_plain rfl rfl (wp_store_ds w.heap.size 0 v A2 (pre.length + 1) c2 rfl e3 e13 hc3 hf3 ?_))
        refine wpAny_done (by kernel_rfl) ?_ _
        have hg1 : Gro (fun g => w.heap.size ≤ g ∧ g ≠ w.heap.size + 1 ∧ g ≠ w.heap.size + 2) W (W.drew.alloc (Obj.cells (vB d).toArray 53)) := (Gro.refl _ _).below (((Below.refl _ W).drew).alloc (Nat.le_refl _) _)
        have hg2 := (hg1.grown q2 (fun g e => .inl (by have := HFR.out g e; omega))).set w.heap.size 0 (.slice A2 (pre.length + 1) c2) ⟨Nat.le_refl _, by omega, by omega⟩
        refine ⟨((KeepsOthers.drew W).trans hbx.2.2.2.1).from _, hg2, ⟨.slice A2 (pre.length + 1) c2, hbx.2.1, ?_, ?_⟩, HBE.out.trans (hg2.to_below HBE.out.size (fun k q => q.1)), Nat.le_trans HSZ.out hg2.size⟩
        · show World.ownsRow _ _ _ _ _ (pre ++ [x]).length (vB (fD D (pre ++ [x])))
          rw [fD_snoc, vB_app, List.length_append, ← HDE.out]
          exact hbx.2.2.1
        · intro g e
          rcases q3 with h | h
          · rw [h] at e; exact HFR.out g e
          · rw [h] at e
            cases e
            have := HSZ.out
            show _ ≤ _
            simp
            omega
  case done =>
    rintro D0 ys W hD0 rfl ⟨⟨v, hv, hrow, hfr⟩, hB, hsz⟩ hK
    have hc := hv.cell
    obtain ⟨A2, c2, e2, _⟩ := Ow.form hrow
    subst e2
    have HOW : Hid (Ow W (.slice A2 (List.finRange m).length c2) (List.finRange m).length (vB (fD D (List.finRange m)))) := hrow
    have HFR : Hid (Fresh (w.heap.size + 3) (.slice A2 (List.finRange m).length c2)) := hfr
    clear hrow hfr
    rw [List.length_finRange] at HOW HFR hc
    rw [fD_all D HD.out] at HOW
    gi_wp2
    refine ⟨by simp, .inl ⟨_, _, rfl, run_takeDeferred hK, ?_⟩⟩
    exact ⟨_, results_tmp rfl _ _ _, A2, c2, rfl, ownsRow_putObj HOW.out _ hK rfl, HFR.out.more (by omega), hB.trans (belowK_b (w := w) (Nat.le_refl _) W D0 _ _ (by omega) hK rfl rfl)⟩
  case stop =>
    rintro D0 c pre W _ _ h _
    exact h.elim

end Go.Proofs.YtbfahgdienppoaaGreatDoor

namespace Go.Proofs.YtbfahgdienppoaaGreatDoor
open Go Go.RowKit
open Sha

abbrev tBx : TypeId := 83
/-- What stands where an outbox does. -/
def bxB (n : Nat) (F : List (List (BitVec 8))) : List (BitVec 8) := if n = 0 then [] else be8 n ++ F.flatten
theorem bxB_zero (F : List (List (BitVec 8))) : bxB 0 F = [] := rfl
theorem bxB_some {n : Nat} (h : n ≠ 0) (F : List (List (BitVec 8))) : bxB n F = be8 n ++ F.flatten := if_neg h
theorem freshT {N : Nat} {v : Value} (h : FreshT N v) : Fresh N v := h
theorem freshS {N : Nat} {v : Value} (h : Fresh N v) : FreshT N v := h
section
variable {ops : Array Oper} {rest : List Oper} {op : Oper} {a : Act} {w : World} {Q : Exit → Act → World → Prop}
theorem wpList_allocBx (hgd : op.guard = none) (ho : op.op = .alloc tBx) (h : ∀ X, Row X w.heap.size [.pointer none] tBx → Below w.heap.size w X → X.heap.size = w.heap.size + 1 → wpList Tryz.prog ops Q rest (a.put op.dst (.pointer (some ⟨w.heap.size, 0, none⟩))) X) : wpList Tryz.prog ops Q (op :: rest) a w :=
  wpList_plain hgd fun _ hK => by
    unfold Oper.wp execOp
    simp only [ho]
    go_simp
    exact hK _ _ (h _ (Row.new' (cs := [.pointer none]) rfl rfl) ((Below.refl _ _).alloc (Nat.le_refl _) _) (by simp))
theorem one_ptr (p : Option Addr) : ([Value.pointer p] : List Value).toArray.all (·.oneCell') = true := by rw [← Array.all_toList]; rfl
theorem info_bx : (Tryz.prog.info? tBx).map (·.size) = some 1 := by kernel_rfl
theorem pos_pc (n : Nat) (h : n ≠ 0) (h2 : n < 261) : 1 ≤ pc n ∧ pc n ≤ 9 := by
  revert h
  revert n
  decide +kernel
end
theorem heap_far (w : World) (b o : Nat) (vs : List Value) (k : Nat) (h : k ≠ b) : (w.setCells b o vs).heap[k]? = w.heap[k]? := by
  induction vs generalizing w o with
  | nil => rfl
  | cons v r ih => exact (ih (w.setCell ⟨b, o, none⟩ v) (o + 1)).trans (Below.heap_setCell _ _ _ _ h)
theorem Ow.sets_far {w : World} {v : Value} {n : Nat} {xs : List Value} (h : Ow w v n xs) {b o : Nat} {vs : List Value} (hne : ∀ k, v.ownBlock = some k → k ≠ b) : Ow (w.setCells b o vs) v n xs := Ow.block h fun g e => heap_far w b o vs g (hne g e)
set_option maxRecDepth 100000 in
set_option maxHeartbeats 2000000 in
theorem readBox_zero (A : Option Addr) (cap : Nat) (w : World) :
    Calls Tryz.prog 45 #[.slice A 0 cap] w fun e w' => ∃ P v, e = .returned (.tuple #[.agg #[.pointer (some ⟨P, 0, none⟩)], .int .i64 0]) ∧ Lg w' P 0 v [] ∧ w.heap.size ≤ P ∧ Fresh w.heap.size v ∧ Below w.heap.size w w' := by
  go_enter Tryz.func45, Tryz.ntmps45
  go_wp2_with (first
    | (refine wpList_allocBx rfl rfl ?_; intro X1 q1 q2 q3; have R1 : Hid (Row X1 w.heap.size [.pointer none] tBx) := q1; have B1 : Hid (Below w.heap.size w X1) := q2; clear q1 q2 q3; simp only [Act.put, List.setIfInBounds_toArray, List.set_cons_zero, List.set_cons_succ])
    | (go_at_call 73; refine Calls.mono (lnew_any X1) ?_; rintro e X2 ⟨rfl, p1, p2⟩; have L2 : Hid (Lg X2 X1.heap.size 0 (.slice none 0 0) []) := p1; have B2 : Hid (Below X1.heap.size X1 X2) := p2; have R2 : Hid (Row X2 w.heap.size [.pointer none] tBx) := Row.below R1.out p2 R1.out.lt; clear p1 p2)
    | (refine wpList_storeL rfl tBx (.tmp 2) (.tmp 11) rfl w.heap.size [.pointer (some ⟨X1.heap.size, 0, none⟩)] [.pointer none] tBx rfl rfl R2.out rfl info_bx (one_ptr _) ?_; intro X3 q1 q2; have R3 : Hid (Row X3 w.heap.size [.pointer (some ⟨X1.heap.size, 0, none⟩)] tBx) := q2; have G3 : Hid (X3 = _) := q1; clear q1 q2; simp only [Act.put]))
  have hB3 : Below w.heap.size w X3 := by rw [G3.out]; exact below_setCells (B1.out.trans (B2.out.mono B1.out.size)) (Nat.le_refl _) _
  have hL3 : Lg X3 X1.heap.size 0 (.slice none 0 0) [] := by
    rw [G3.out]
    exact ⟨Row.setCells_other L2.out.row _ _ _ (by have := R1.out.lt; omega), ⟨rfl, .inl ⟨rfl, rfl⟩⟩, fun d hd => nomatch hd⟩
  exact bodyPost_ret (results_rowS_tmp Tryz.results45 _ _ w.heap.size tBx [.pointer (some ⟨X1.heap.size, 0, none⟩)] (.int .i64 0) rfl rfl R3.out Tryz.underlying83 info_bx) rfl ⟨X1.heap.size, .slice none 0 0, rfl, hL3, B1.out.size, (fun g e => by simp [Value.ownBlock] at e), hB3⟩
set_option maxRecDepth 100000 in
set_option maxHeartbeats 2000000 in
theorem readBox_some (n : Nat) (hn0 : n ≠ 0) (hn : n < 261) (F : List (List (BitVec 8))) (hF : F.length = pc n) (h32 : ∀ d ∈ F, d.length = 32) (g L cap : Nat) (hL : L = 8 + pc n * 32) (hc : L ≤ cap) (w : World) (hg : g < w.heap.size) (hr : w.rangeAt g 0 (vB (be8 n ++ F.flatten))) :
    Calls Tryz.prog 45 #[.slice (some ⟨g, 0, none⟩) L cap] w fun e w' => ∃ P v, e = .returned (.tuple #[.agg #[.pointer (some ⟨P, 0, none⟩)], .int .i64 0]) ∧ Lg w' P n v F ∧ w.heap.size ≤ P ∧ Fresh w.heap.size v ∧ Below w.heap.size w w' := by
  obtain ⟨hp1, hp9⟩ := pos_pc n hn0 hn
  obtain ⟨m, hm⟩ : ∃ m, m = pc n := ⟨_, rfl⟩
  rw [← hm] at hF hL hp1 hp9
  have HR8 : Hid (∀ W, Below w.heap.size w W → W.rangeAt g 0 (vB (be8 n))) := fun W hW j u hj => by
    have hlt : j < (vB (be8 n)).length := (List.getElem?_eq_some_iff.1 hj).1
    refine (hW.cell (p := ⟨g, 0 + j, none⟩) hg).trans (hr j u ?_)
    rw [vB_app, List.getElem?_append_left hlt]; exact hj
  have HRF : Hid (∀ W, Below w.heap.size w W → W.rangeAt g 8 (vB F.flatten)) := fun W hW j u hj => by
    refine (hW.cell (p := ⟨g, 8 + j, none⟩) hg).trans ?_
    have q := hr (8 + j) u (by rw [vB_app, List.getElem?_append_right (by rw [vB_length, be8_len]; omega), vB_length, be8_len, Nat.add_sub_cancel_left]; exact hj)
    rwa [Nat.zero_add] at q
  have HE : Hid (∀ W, Below w.heap.size w W → Calls Tryz.prog 74 #[.slice (some ⟨g, 0, none⟩) 8 cap] W fun e w' => e = .returned (.int .i64 (n : Int)) ∧ w' = W) := fun W hW => ore8_any n (by omega) g 0 cap W (HR8.out W hW)
  obtain ⟨M, hM⟩ : ∃ M, M = m * 32 := ⟨_, rfl⟩
  obtain ⟨C, hC⟩ : ∃ C, C = cap - 8 := ⟨_, rfl⟩
  have HDI : Hid (∀ W, Below w.heap.size w W → Calls Tryz.prog 76 #[.slice (some ⟨g, 8, none⟩) M C] W fun e w' => ∃ A c, e = .returned (.slice A m c) ∧ Ow w' (.slice A m c) m (vB F.flatten) ∧ Fresh W.heap.size (.slice A m c) ∧ Below W.heap.size W w') := fun W hW => by
    rw [hM]
    exact digestsIn_any F m hF (by omega) h32 g 8 C (by omega) W (HRF.out W hW) (by have := hW.size; omega)
  have HRS : Hid (∀ W A c, Ow W (.slice A m c) m (vB F.flatten) → Calls Tryz.prog 75 #[.int .i64 (n : Int), .slice A m c] W fun e w' => ∃ P v', e = .returned (.tuple #[.pointer (some ⟨P, 0, none⟩), .int .i64 0]) ∧ Lg w' P n v' F ∧ W.heap.size ≤ P ∧ Fresh W.heap.size v' ∧ Below W.heap.size W w') := fun W A c h => by
    refine (lresume_any n hn _ F (by rw [hF, hm]) h32 (by omega) W (by rw [hF]; exact h)).mono ?_
    rintro e w' ⟨P, v', h1, h2, h3, h4, h5⟩
    exact ⟨P, v', h1, h2, h3, freshT h4, h5⟩
  have eL : ((L : Nat) : Int) = 8 + (M : Int) := by omega
  have hL0 : ¬ ((L : Int) = 0) := by omega
  have hL8 : 8 ≤ L := by omega
  have hLM : L - 8 = M := by omega
  have hLm : ((L : Int)).tmod 32 = 8 := by rw [Int.tmod_eq_emod_of_nonneg (by omega)]; omega
  have hLb : L ≤ 1000 := by omega
  have HC : Hid (C = cap - 8) := hC
  have HCL : Hid (L ≤ cap) := hc
  have hc8 : 8 ≤ cap := by omega
  have HL9 : Hid (8 < L) := by show _ < _; omega
  have HLM : Hid (L - 8 = M) := hLM
  have hn0' : ¬ ((n : Int) = 0) := by omega
  have HM : Hid (M = m * 32) := hM
  clear hp1 hp9 hF hL hr hC hM eL h32 hm hn0 hc hLM
  go_enter Tryz.func45, Tryz.ntmps45
  go_upto_region 5 with (refine wpList_allocBx rfl rfl ?_; intro X1 q1 q2 q3; have R1 : Hid (Row X1 w.heap.size [.pointer none] tBx) := q1; have B1 : Hid (Below w.heap.size w X1) := q2; clear q1 q2 q3; simp only [Act.put, List.setIfInBounds_toArray, List.set_cons_zero, List.set_cons_succ])
  go_upto_region 6 with (go_at_call 74; refine Calls.mono (HE.out X1 B1.out) ?_; rintro e X ⟨rfl, hq⟩; obtain rfl := hq.symm)
  go_upto_region 7 with (first
    | (refine wpList_slice_from rfl 46 (.tmp 22) (.const (.int .i64 8)) rfl 5 g 0 L cap 8 8 rfl rfl rfl hL8 HCL.out Tryz.underlying46 info_u8 ?_; intro Ad hAd; rw [hAd HL9.out, HLM.out, ← HC.out]; clear hAd Ad; simp only [Act.put, List.setIfInBounds_toArray, List.set_cons_zero, List.set_cons_succ])
    | (go_at_call 76; refine Calls.mono (HDI.out X1 B1.out) ?_; rintro e X2 ⟨A2, c2, rfl, p1, p2, p3⟩; have O2 : Hid (Ow X2 (.slice A2 m c2) m (vB F.flatten)) := p1; have B2 : Hid (Below w.heap.size w X2) := B1.out.trans (p3.mono B1.out.size); have R2 : Hid (Row X2 w.heap.size [.pointer none] tBx) := Row.below R1.out p3 R1.out.lt; clear p1 p2 p3)
    | (go_at_call 75; refine Calls.mono (HRS.out X2 A2 c2 O2.out) ?_; rintro e X3 ⟨P, v, rfl, p1, p2, p3, p4⟩; have L3 : Hid (Lg X3 P n v F) := p1; have F3 : Hid (X2.heap.size ≤ P ∧ Fresh X2.heap.size v) := ⟨p2, p3⟩; have B3 : Hid (Below w.heap.size w X3) := B2.out.trans (p4.mono B2.out.size); have R3 : Hid (Row X3 w.heap.size [.pointer none] tBx) := Row.below R2.out p4 R2.out.lt; clear p1 p2 p3 p4))
  go_wp2_with (refine wpList_storeL rfl tBx (.tmp 2) (.tmp 36) rfl w.heap.size [.pointer (some ⟨P, 0, none⟩)] [.pointer none] tBx rfl rfl R3.out rfl info_bx (one_ptr _) ?_; intro X4 q1 q2; have R4 : Hid (Row X4 w.heap.size [.pointer (some ⟨P, 0, none⟩)] tBx) := q2; have G4 : Hid (X4 = _) := q1; clear q1 q2; simp only [Act.put])
  have hne : P ≠ w.heap.size := by have := F3.out.1; have := B2.out.size; have := R2.out.lt; omega
  have hne2 : ∀ k, v.ownBlock = some k → k ≠ w.heap.size := fun k e => by have := F3.out.2 k e; have := R2.out.lt; omega
  have hB4 : Below w.heap.size w X4 := by rw [G4.out]; exact below_setCells B3.out (Nat.le_refl _) _
  have hL4 : Lg X4 P n v F := by
    rw [G4.out]
    exact ⟨Row.setCells_other L3.out.row _ _ _ hne, L3.out.own.sets_far (fun k e => hne2 k e), L3.out.dl⟩
  exact bodyPost_ret (results_rowS_tmp Tryz.results45 _ _ w.heap.size tBx [.pointer (some ⟨P, 0, none⟩)] (.int .i64 0) rfl rfl R4.out Tryz.underlying83 info_bx) rfl ⟨P, v, rfl, hL4, Nat.le_trans B2.out.size F3.out.1, F3.out.2.more B2.out.size, hB4⟩
/-- readBox, of what stands there. -/
theorem readBox_any (n : Nat) (hn : n < 261) (F : List (List (BitVec 8))) (hF : F.length = pc n) (h32 : ∀ d ∈ F, d.length = 32) (A : Option Addr) (L cap : Nat) (hL : L = (bxB n F).length) (w : World) (hb : Bw w (.slice A L cap) (bxB n F)) :
    Calls Tryz.prog 45 #[.slice A L cap] w fun e w' => ∃ P v, e = .returned (.tuple #[.agg #[.pointer (some ⟨P, 0, none⟩)], .int .i64 0]) ∧ Lg w' P n v F ∧ w.heap.size ≤ P ∧ Fresh w.heap.size v ∧ Below w.heap.size w w' := by
  by_cases h0 : n = 0
  · subst h0
    rw [bxB_zero] at hL
    have hF0 : F = [] := by
      apply List.eq_nil_of_length_eq_zero
      rw [hF]; decide +kernel
    subst hF0
    subst hL
    exact readBox_zero A cap w
  · have e := bxB_some h0 F
    obtain ⟨hp1, _⟩ := pos_pc n h0 hn
    have hlen : (be8 n ++ F.flatten).length = 8 + pc n * 32 := by rw [List.length_append, be8_len, flat_len F h32, hF]
    rw [e] at hL hb
    obtain ⟨g, c', e2, hc⟩ := Lw.open hb (by rw [hlen]; omega)
    rw [← hL] at e2
    simp only [Value.slice.injEq] at e2
    obtain ⟨rfl, _, rfl⟩ := e2
    have hb2 := Bw.sl hb
    refine readBox_some n h0 hn F hF h32 g L cap (by rw [hL, hlen]) (by omega) w (Bw.lt hb g rfl) ?_
    rw [hL] at hb
    exact Lw.range hb

end Go.Proofs.YtbfahgdienppoaaGreatDoor
