/-
  causewayref10's Name, decimals, plain, goesTo.
-/
import Derived.Test.YtclbiophgnkggaaGreatDoorXMem
import Derived.Laws.BytesArg
import Derived.Test.YtclbiophgnkggaaGreatDoorMtE
import Derived.Test.YtclbiophgnkggaaGreatDoorMkZe
import Derived.Test.YtclbiophgnkggaaGreatDoorMkGh

namespace Go.Proofs.YtclbiophgnkggaaGreatDoor
open Go Go.RowKit
open Sha

/-- Bytes as a string. -/
def str (l : List (BitVec 8)) : ByteArray := strOfNums (l.map c)
theorem run_convert_str {P : Program} (w : World) (src e dst : TypeId) (hs : P.underlying src = some (.slice e)) (he : P.underlying e = some (.int .u8)) (hd : P.underlying dst = some .string) (b off cap n : Nat) (l : List (BitVec 8)) (hl : l.length = n)
    (hr : w.rangeAt b off (vB l)) : (convert src dst (.slice (some ⟨b, off, none⟩) n cap)).run P w = .ok (.string (str l)) w :=
  run_convert_bytes_arg w src e hs he b off n cap (l.map c) (by simpa using hl) (fun i hi => hr i _ (by rw [vB_get l i (by omega)]; simp [show i < l.length by omega])) dst hd
theorem run_convert_sl {P : Program} (w : World) (src e dst : TypeId) (hs : P.underlying src = some (.slice e)) (he : P.underlying e = some (.int .u8)) (hd : P.underlying dst = some .string) (v : Value) (d : List (BitVec 8)) (hv : SlAt w v d) :
    (convert src dst v).run P w = .ok (.string (str d)) w := by
  rcases hv with ⟨rfl, A, cap, rfl⟩ | ⟨ab, ao, cap, rfl, _, hr⟩
  · cases A with
    | none =>
      rw [run_convert_bytes_string w src dst e none 0 cap hs he hd]
      simp [Conv.bytesToString]
      rfl
    | some p =>
      have hl : (loadCells p 0).run P w = .ok (([] : List Int).map (Value.int .u8)).toArray w := run_loadCells_list (P := P) w p [] (fun j v hj => by simp at hj)
      rw [run_convert_bytes_string w src dst e _ 0 cap hs he hd, run_bytesToString w _ 0 cap [] hl]
      rfl
  · exact run_convert_str w src e dst hs he hd ab ao cap d.length d rfl hr

end Go.Proofs.YtclbiophgnkggaaGreatDoor

namespace Go.Proofs.YtclbiophgnkggaaGreatDoor
open Go Go.RowKit
open Sha
open Wd
open Go.Lib (decDigits)

def nmT : List Value := (List.range 28).map fun c => Value.string ⟨(nmL c).toArray⟩
theorem nmT_get (c : Nat) (h : c < 28) : nmT[c]? = some (.string ⟨(nmL c).toArray⟩) := by
  unfold nmT
  rw [List.getElem?_map, List.getElem?_range h]
  rfl
theorem info_str_all : (Tryz.prog.info? 9).map (fun i => (i.size, i.zero)) = some (1, some (.string ⟨#[]⟩)) := by kernel_rfl
section
variable {ops : Array Oper} {rest : List Oper} {op : Oper} {a : Act} {w : World} {Q : Exit → Act → World → Prop}
theorem wpList_tabS (hgd : op.guard = none) (parts : Array (Nat × Operand)) (ho : op.op = .buildSlice 75 28 parts)
    (hp : Instr.fill (fun i => some (i * 1, 1)) ((Array.range (28 * 1)).map ((Value.string ⟨#[]⟩).cells[· % (Value.string ⟨#[]⟩).cells.size]!)) (parts.map fun (i, x) => (i, a.eval x)).toList = some nmT.toArray)
    (h : ∀ X, Row X w.heap.size nmT 9 → Below w.heap.size w X → wpList Tryz.prog ops Q rest (a.put op.dst (.slice (some ⟨w.heap.size, 0, none⟩) 28 28)) X) : wpList Tryz.prog ops Q (op :: rest) a w := by
  have i1 := info_str_all
  cases hi : Tryz.prog.info? 9 with
  | none => rw [hi] at i1; cases i1
  | some ie =>
    rw [hi] at i1
    simp only [Option.map_some, Option.some.injEq, Prod.mk.injEq] at i1
    obtain ⟨h2, h3⟩ := i1
    exact wpList_buildSlice hgd 75 9 28 parts ho nmT.toArray ie (.string ⟨#[]⟩) Tryz.underlying75 hi h3 (by rw [h2]; decide) (by rw [h2]; decide) (by rw [h2]; exact hp) (h _ (Row.new' rfl rfl) ((Below.refl _ _).alloc (Nat.le_refl _) _))
/-- One byte as a text. -/
theorem wpList_conv1 (hgd : op.guard = none) (x : Operand) (ho : op.op = .convert 22 9 x) (N v : Nat) (hx : a.eval x = .slice (some ⟨N, 0, none⟩) 1 1) (hv : v < 256) (hc : w.cell? ⟨N, 0, none⟩ = some (.int .u8 (v : Int))) (u : UInt8) (hu : UInt8.ofNat v = u)
    (h : wpList Tryz.prog ops Q rest (a.put op.dst (.string ⟨[u].toArray⟩)) w) : wpList Tryz.prog ops Q (op :: rest) a w :=
  wpList_plain hgd fun _ hK => by
    have hr := run_convert_str (P := Tryz.prog) w 22 5 9 Tryz.underlying22 Tryz.underlying5 Tryz.underlying9 N 0 1 1 [BitVec.ofNat 8 v] rfl (fun j u hj => by
      match j, hj with
      | 0, hj =>
        simp [vB, c] at hj
        subst hj
        rw [Nat.add_zero, hc]
        exact congrArg (fun x => some (Value.int IntKind.u8 x)) (by omega))
    subst hu
    have e : str [BitVec.ofNat 8 v] = ⟨[UInt8.ofNat v].toArray⟩ := by
      unfold str strOfNums c
      simp [Nat.mod_eq_of_lt hv]
    rw [e] at hr
    unfold Oper.wp execOp
    simp only [ho, hx, Sem.run_bind, hr, Result.andThen_ok, Sem.run_pure, Oper.upon_value]
    exact hK _ _ h
end

set_option maxRecDepth 100000 in
set_option maxHeartbeats 4000000 in
theorem name_g (c : Nat) (hc : c < 28) (w : World) : Calls Tryz.prog 11 #[.int .i64 (c : Int)] w fun e w' => e = .returned (.string ⟨(nmL c).toArray⟩) ∧ Below w.heap.size w w' := by
  obtain ⟨v, hv⟩ : ∃ v, v = nmL c := ⟨_, rfl⟩
  have hc' : (c : Int) < 28 := by omega
  have hc2 : ¬ (28 : Int) ≤ (c : Int) := by omega
  have hc3 : ¬ (c : Int) < 0 := by omega
  have HV : Hid (∀ X N, Row X N nmT 9 → X.cell? ⟨N, c, none⟩ = some (.string ⟨v.toArray⟩)) := fun X N r => by
    have := r.cell c _ (nmT_get c hc)
    rw [← hv] at this
    exact this
  have HR : Hid (v = nmL c) := hv
  clear hv
  go_enter Tryz.func11, Tryz.ntmps11
  go_wp2_with (refine wpList_tabS rfl _ rfl (by kernel_rfl) ?_; intro X1 q1 q2; have g1 := HV.out _ _ q1; have B1 : Hid (Below w.heap.size w X1) := q2; clear q1 q2; simp only [Act.put, List.setIfInBounds_toArray, List.set_cons_zero, List.set_cons_succ])
  go_ret
  exact ⟨by rw [← HR.out] <;> rfl, B1.out⟩

def dcs (a : Nat) : List UInt8 := if a = 0 then [] else decDigits a
theorem dcs_step (a : Nat) (h : a ≠ 0) : dcs a = dcs (a / 10) ++ [UInt8.ofNat (48 + a % 10)] := by
  unfold dcs
  rw [if_neg h]
  by_cases h10 : a < 10
  · rw [Lib.decDigits_one h10, if_pos (by omega), Nat.mod_eq_of_lt h10]; rfl
  · rw [decDigits_big h10, if_neg (by omega)]
def sLen : Value → Nat
  | .string s => s.size
  | _ => 0
theorem Ch.setO {W : World} {N o n a : Nat} (h : Ch W N o n a) (b q : Nat) (vs : List Value) (hn : N ≠ b) : Ch (W.setCells b q vs) N o n a := by
  induction vs generalizing W q with
  | nil => exact h
  | cons v r ih => exact ih (h.set_other b q v hn) (q + 1)
set_option maxRecDepth 100000 in
set_option maxHeartbeats 4000000 in
theorem decimals_any {ca : List Value} {a : Nat} (Ha : Wc ca a) (ha : a < 2 ^ 256) (w : World) : Calls Tryz.prog 12 #[.agg ca.toArray] w fun e w' => e = .returned (.string ⟨(decDigits a).toArray⟩) ∧ Below w.heap.size w w' := by
  have HA : Hid (a < 2 ^ 256) := ha
  have HWc : Hid (Wc ca a) := Ha
  have H10 : Hid (Wc [.int .u64 10, .int .u64 0, .int .u64 0, .int .u64 0] 10) := by
    show _ = _
    rw [small_dgs 10 (by decide)]
    rfl
  clear Ha ha
  go_enter Tryz.func12, Tryz.ntmps12
  go_upto_region 1 with (refine wpList_boxG 37 rfl (.tmp 0) rfl ca rfl ?_; intro X q1 q2 q3; have R1 : Hid (Row X w.heap.size ca 37) := q1; have B1 : Hid (Below w.heap.size w X) := q2; clear q1 q2 q3; simp only [Act.put, List.setIfInBounds_toArray, List.set_cons_zero, List.set_cons_succ])
  obtain ⟨b1, hb1⟩ : ∃ b1, b1 = w.heap.size := ⟨_, rfl⟩
  have HB1 : Hid (b1 = w.heap.size) := hb1
  rw [← hb1] at R1
  rw [← hb1]
  clear hb1
  by_cases h0 : a = 0
  · have HN : Hid _ := nought_c HWc.out HA.out (B := true) (decide_eq_true h0) X
    have HE : Hid (decDigits a = [48]) := by show _ = _; rw [h0, Lib.decDigits_one (by decide)]; rfl
    clear h0
    go_wp2_with (first
      | (refine wpList_load_mid rfl 37 (.tmp 1) rfl b1 0 rfl ca _ R1.out.all Tryz.underlying37 rfl HWc.out.info ?_; simp only [Act.put, List.setIfInBounds_toArray, List.set_cons_zero, List.set_cons_succ])
      | (go_at_call 26; refine Calls.mono HN.out ?_; rintro e X2 ⟨rfl, q⟩; have B2 : Hid (Below w.heap.size w X2) := B1.out.trans (q.mono B1.out.size); clear q))
    go_ret
    exact ⟨by rw [HE.out]; rfl, B2.out⟩
  · have HN : Hid _ := nought_c HWc.out HA.out (B := false) (decide_eq_false h0) X
    have HE0 : Hid (dcs a ++ [] = decDigits a) := by show _ = _; unfold dcs; rw [if_neg h0, List.append_nil]
    clear h0
    go_upto_region 5 with (first
      | (refine wpList_load_mid rfl 37 (.tmp 1) rfl b1 0 rfl ca _ R1.out.all Tryz.underlying37 rfl HWc.out.info ?_; simp only [Act.put, List.setIfInBounds_toArray, List.set_cons_zero, List.set_cons_succ])
      | (go_at_call 26; refine Calls.mono HN.out ?_; rintro e X2 ⟨rfl, q⟩; have R2 : Hid (Row X2 b1 ca 37) := Row.below R1.out q R1.out.lt; have B2 : Hid (Below w.heap.size w X2) := B1.out.trans (q.mono B1.out.size); clear q)
      | (go_at_call 27; refine Calls.mono (digits_c H10.out X2) ?_; rintro e X3 ⟨T, rfl, qT, qC, q⟩; have HT : Hid (X2.heap.size ≤ T) := qT; have HC : Hid (Ch X3 T 0 32 10) := qC; have R3 : Hid (Row X3 b1 ca 37) := Row.below R2.out q R2.out.lt; have B3 : Hid (Below w.heap.size w X3) := B2.out.trans (q.mono B2.out.size); clear qT qC q))
    have HTb : Hid (T ≠ b1) := by
      show _ ≠ _
      have h1 := R2.out.lt
      have h2 := HT.out
      omega
    clear HT R2 B2 R1 B1 HN
    go_loopw [3] (fun v wr => ∃ (a' : Nat) (out : List UInt8) (c' : List Value), v = .string ⟨out.toArray⟩ ∧ Hid (a' ≤ a) ∧ Hid (dcs a' ++ out = decDigits a) ∧ Hid (Wc c' a') ∧ Hid (Below w.heap.size w wr) ∧ Hid (Row wr b1 c' 37) ∧ Hid (Ch wr T 0 32 10)) (fun v _ => 100 - sLen v)
    case atStart => exact ⟨a, [], ca, rfl, Nat.le_refl _, HE0, HWc, B3, R3, HC⟩
    case round =>
      obtain ⟨a', out, c', rfl, HLE, HD, HW', HB, HR, HCT⟩ := hrel
      clear HE0 HWc R3 HC B3
      have HA' : Hid (a' < 2 ^ 256) := Nat.lt_of_le_of_lt HLE.out HA.out
      by_cases h0 : a' = 0
      · have HN : Hid _ := nought_c HW'.out HA'.out (B := true) (decide_eq_true h0) wr
        have HE : Hid (out = decDigits a) := by
          have := HD.out
          unfold dcs at this
          rw [if_pos h0] at this
          exact this
        clear h0
        go_wp2_with (first
          | (refine wpList_load_mid rfl 37 (.tmp 1) rfl b1 0 rfl c' _ HR.out.all Tryz.underlying37 rfl HW'.out.info ?_; simp only [Act.put, List.setIfInBounds_toArray, List.set_cons_zero, List.set_cons_succ])
          | (go_at_call 26; refine Calls.mono HN.out ?_; rintro e X2 ⟨rfl, q⟩; have B2 : Hid (Below w.heap.size w X2) := HB.out.trans (q.mono HB.out.size); clear q))
        go_ret
        exact ⟨by rw [← HE.out]; rfl, B2.out⟩
      · have HN : Hid _ := nought_c HW'.out HA'.out (B := false) (decide_eq_false h0) wr
        obtain ⟨qa, hqa⟩ : ∃ qa, qa = a' / 10 := ⟨_, rfl⟩
        obtain ⟨ra, hra⟩ : ∃ ra, ra = a' % 10 := ⟨_, rfl⟩
        have hra10 : ra < 10 := by rw [hra]; exact Nat.mod_lt _ (by decide)
        have hol : out.length ≤ 78 := by
          have h1 := congrArg List.length HD.out
          rw [List.length_append] at h1
          have h2 := dec_len a HA.out
          omega
        obtain ⟨ug, hug⟩ : ∃ ug, UInt8.ofNat (48 + ra) = ug := ⟨_, rfl⟩
        have HUG : Hid (UInt8.ofNat (48 + ra) = ug) := hug
        have HD2 : Hid (dcs qa ++ (ug :: out) = decDigits a) := by
          have := HD.out
          rw [dcs_step a' h0, ← hqa, ← hra, List.append_assoc, hug] at this
          exact this
        have HLE2 : Hid (qa ≤ a) := by
          have := HLE.out
          show _ ≤ _
          rw [hqa]; omega
        obtain ⟨cq, hcq⟩ : ∃ cq, cq = wq qa := ⟨_, rfl⟩
        have HWQ : Hid (Wc cq qa) := hcq
        have HP : Hid (∀ N M W, Ch W N 0 32 a' → Ch W M 0 32 10 → Calls Tryz.prog 28 #[.slice (some ⟨N, 0, none⟩) 32 32, .slice (some ⟨M, 0, none⟩) 32 32] W fun e w' => ∃ q r, e = .returned (.tuple #[.slice (some ⟨q, 0, none⟩) 32 32, .slice (some ⟨r, 1, none⟩) 32 32]) ∧ Ch w' q 0 32 qa ∧ Ch w' r 1 32 ra ∧ Below W.heap.size W w') := fun N M W r1 r2 => by
          rw [hqa, hra]
          exact parts_g a' 10 N M 32 32 (by rw [p32]; exact HA'.out) (by decide +kernel) (by decide) W r1 r2
        have HRA : Hid (ht ra 0 = ra) := by show ra / 256 ^ 0 % 256 = ra; rw [Nat.pow_zero, Nat.div_one]; omega
        have hq256 : Hid (qa < 256 ^ 32) := by
          show _ < _
          rw [p32]
          have := HA'.out
          rw [hqa]
          exact Nat.lt_of_le_of_lt (Nat.div_le_self _ _) this
        clear h0 hqa hra hcq hug
        go_upto_region 7 with (first
          | (refine wpList_load_mid rfl 37 (.tmp 1) rfl b1 0 rfl c' _ HR.out.all Tryz.underlying37 rfl HW'.out.info ?_; simp only [Act.put, List.setIfInBounds_toArray, List.set_cons_zero, List.set_cons_succ])
          | (go_at_call 26; refine Calls.mono HN.out ?_; rintro e X2 ⟨rfl, q⟩; have R2 : Hid (Row X2 b1 c' 37) := Row.below HR.out q HR.out.lt; have C2 : Hid (Ch X2 T 0 32 10) := HCT.out.be q; have B2 : Hid (Below w.heap.size w X2) := HB.out.trans (q.mono HB.out.size); clear q)
          | (refine wpList_load_mid rfl 37 (.tmp 1) rfl b1 0 rfl c' _ R2.out.all Tryz.underlying37 rfl HW'.out.info ?_; simp only [Act.put, List.setIfInBounds_toArray, List.set_cons_zero, List.set_cons_succ])
          | (go_at_call 27; refine Calls.mono (digits_c HW'.out X2) ?_; rintro e X3 ⟨N3, rfl, _, qC, q⟩; have D3 : Hid (Ch X3 N3 0 32 a') := qC; have R3 : Hid (Row X3 b1 c' 37) := Row.below R2.out q R2.out.lt; have C3 : Hid (Ch X3 T 0 32 10) := C2.out.be q; have B3 : Hid (Below w.heap.size w X3) := B2.out.trans (q.mono B2.out.size); clear qC q)
          | (go_at_call 28; refine Calls.mono (HP.out N3 T X3 D3.out C3.out) ?_; rintro e X4 ⟨Q4, N4, rfl, qQ, qR, q⟩; have Q4C : Hid (Ch X4 Q4 0 32 qa) := qQ; have c4 := qR.2 31 (by decide); have R4 : Hid (Row X4 b1 c' 37) := Row.below R3.out q R3.out.lt; have C4 : Hid (Ch X4 T 0 32 10) := C3.out.be q; have B4 : Hid (Below w.heap.size w X4) := B3.out.trans (q.mono B3.out.size); clear qQ qR q))
        rw [show 32 - 1 - 31 = 0 from rfl, HRA.out] at c4
        have hv : 48 + ra < 256 := by omega
        go_upto_region 8 with (first
          | (refine wpList_conv1 rfl (.tmp 26) rfl X4.heap.size (48 + ra) rfl (by omega) (by simp) ug HUG.out ?_; simp only [Act.put, List.setIfInBounds_toArray, List.set_cons_zero, List.set_cons_succ])
          | (refine wpList_cat rfl _ _ _ _ rfl [ug] out rfl rfl (by simp) (by omega) ?_; simp only [Act.put, List.setIfInBounds_toArray, List.set_cons_zero, List.set_cons_succ]))
        have BA : Below X4.heap.size X4 (X4.alloc (.cells #[.int .u8 (48 + (ra : Int))] 5)) := (Below.refl _ _).alloc (Nat.le_refl _) _
        generalize X4.alloc (.cells #[.int .u8 (48 + (ra : Int))] 5) = X5 at *
        have R5 : Hid (Row X5 b1 c' 37) := Row.below R4.out BA R4.out.lt
        have Q5 : Hid (Ch X5 Q4 0 32 qa) := Q4C.out.be BA
        have C5 : Hid (Ch X5 T 0 32 10) := C4.out.be BA
        have B5 : Hid (Below w.heap.size w X5) := B4.out.trans (BA.mono B4.out.size)
        have HWL : Hid (cq.length = c'.length) := by show _ = _; rw [HWQ.out.len, HW'.out.len]
        clear BA R4 Q4C C4 B4 c4 D3 R3 C3 B3 R2 C2 B2
        go_wp2_with (first
          | (go_at_call 13; refine Calls.mono (number_c HWQ.out Q4 0 32 32 (Nat.le_refl _) hq256.out X5 (.inl Q5.out)) ?_; rintro e X6 ⟨rfl, q⟩; have R6 : Hid (Row X6 b1 c' 37) := Row.below R5.out q R5.out.lt; have C6 : Hid (Ch X6 T 0 32 10) := C5.out.be q; have B6 : Hid (Below w.heap.size w X6) := B5.out.trans (q.mono B5.out.size); clear q)
          | (refine wpList_storeL rfl 37 (.tmp 1) (.tmp 31) rfl b1 cq c' 37 rfl rfl R6.out HWL.out HWQ.out.info HWQ.out.one ?_; intro X7 q1 q2; have E7 : Hid (X7 = _) := q1; have R7 : Hid (Row X7 b1 cq 37) := q2; clear q1 q2; simp only [Act.put]))
        have B7 : Hid (Below w.heap.size w X7) := by show Below _ _ _; rw [E7.out]; exact below_setCells B6.out (by rw [HB1.out]; exact Nat.le_refl _) _
        have C7 : Hid (Ch X7 T 0 32 10) := by show Ch _ _ _ _ _; rw [E7.out]; exact C6.out.setO _ _ _ HTb.out
        refine ⟨⟨qa, ug :: out, cq, rfl, HLE2, HD2, HWQ, B7, R7, C7⟩, ?_⟩
        show 100 - (List.toArray ([ug] ++ out)).size < 100 - (List.toArray out).size
        rw [List.size_toArray, List.size_toArray, List.length_append, List.length_singleton]
        omega
set_option maxRecDepth 100000 in
set_option maxHeartbeats 4000000 in
theorem plain_any (n : Nat) (hn : n < 9223372036854775808) (w : World) : Calls Tryz.prog 10 #[.int .i64 (n : Int)] w fun e w' => e = .returned (.string ⟨(decDigits n).toArray⟩) ∧ Below w.heap.size w w' := by
  obtain ⟨cr, hcr⟩ : ∃ cr, cr = wq n := ⟨_, rfl⟩
  have HW : Hid (Wc cr n) := hcr
  have HC : Hid _ := count_c n hn HW.out w
  have HD : Hid (∀ X, Calls Tryz.prog 12 #[.agg cr.toArray] X fun e w' => e = .returned (.string ⟨(decDigits n).toArray⟩) ∧ Below X.heap.size X w') := fun X => decimals_any HW.out (Nat.lt_trans hn (by decide)) X
  clear hcr
  obtain ⟨D, hD⟩ : ∃ D, D = decDigits n := ⟨_, rfl⟩
  rw [← hD] at HD ⊢
  clear hD
  go_enter Tryz.func10, Tryz.ntmps10
  go_wp2_with (first
    | (go_at_call 25; refine Calls.mono HC.out ?_; rintro e X1 ⟨rfl, q⟩; have B1 : Hid (Below w.heap.size w X1) := q; clear q)
    | (go_at_call 12; refine Calls.mono (HD.out X1) ?_; rintro e X2 ⟨rfl, q⟩; have B2 : Hid (Below w.heap.size w X2) := B1.out.trans (q.mono B1.out.size); clear q))
  go_ret
  exact ⟨rfl, B2.out⟩

/-- What a program's bytes say of an instruction. -/
theorem ins_jumpD {d : List (BitVec 8)} {ls : List Ins} {k : Nat} {x : Ins} (h : chk d = some ls) (hx : ls[k]? = some x) (hc : x.c = 14 ∨ x.c = 15) : x.p + 2 < d.length ∧ (d.getD (x.p + 1) 0#8).toNat * 256 + (d.getD (x.p + 2) 0#8).toNat = x.n := by
  obtain ⟨h1, h2, h3, _, b, r, e1, e2, e3, e4, _⟩ := mins_at rfl h hx
  obtain ⟨j1, j2⟩ := mins_jump hc e3 e4
  rw [j1] at e3
  have hl := congrArg List.length e1
  rw [List.length_drop, List.length_cons] at hl
  refine ⟨by omega, ?_⟩
  rw [mget_drop e1 1, mget_drop e1 2]
  exact j2
theorem ins_headD {d : List (BitVec 8)} {ls : List Ins} {k : Nat} {x : Ins} (h : chk d = some ls) (hx : ls[k]? = some x) : x.p < d.length ∧ x.c < 28 ∧ (d.getD x.p 0#8).toNat = x.c := by
  obtain ⟨h1, h2, h3, _, b, r, e1, e2, _⟩ := mins_at rfl h hx
  refine ⟨h2, h3, ?_⟩
  have := mget_drop e1 0
  rw [Nat.add_zero] at this
  rw [this]
  exact e2
theorem ins_twoD {d : List (BitVec 8)} {ls : List Ins} {k : Nat} {x : Ins} (h : chk d = some ls) (hx : ls[k]? = some x) (hc : x.c = 4 ∨ x.c = 5 ∨ x.c = 16) : x.p + 1 < d.length ∧ (d.getD (x.p + 1) 0#8).toNat = x.n := by
  obtain ⟨h1, h2, h3, _, b, r, e1, e2, e3, e4, _⟩ := mins_at rfl h hx
  obtain ⟨j1, j2⟩ := mins_two hc e3 e4
  rw [j1] at e3
  have hl := congrArg List.length e1
  rw [List.length_drop, List.length_cons] at hl
  refine ⟨by omega, ?_⟩
  rw [mget_drop e1 1]
  exact j2
theorem ins_pushD {d : List (BitVec 8)} {ls : List Ins} {k : Nat} {x : Ins} (h : chk d = some ls) (hx : ls[k]? = some x) (hc : x.c = 2) : ∃ y bs, 1 ≤ y ∧ y ≤ 32 ∧ x.p + 1 + y < d.length ∧ (d.getD (x.p + 1) 0#8).toNat = y ∧ bs.length = y ∧ x.a = nb bs ∧ ∀ j, j < y → d.getD (x.p + 2 + j) 0#8 = bs.getD j 0#8 := by
  obtain ⟨h1, h2, h3, _, b, r, e1, e2, e3, e4, _⟩ := mins_at rfl h hx
  rw [hc] at e3 e4
  obtain ⟨y, r', hr, y1, y2, y3, hw, ha, _⟩ := mins_push e3 e4
  have hl := congrArg List.length e1
  rw [List.length_drop, List.length_cons, hr, List.length_cons] at hl
  refine ⟨y.toNat, r'.take y.toNat, y1, y2, by omega, ?_, by rw [List.length_take]; omega, ha, fun j hj => ?_⟩
  · rw [mget_drop e1 1, hr]; rfl
  · rw [show x.p + 2 + j = x.p + (j + 2) by omega, mget_drop e1 (j + 2), hr]
    rw [List.getD_eq_getElem?_getD, List.getD_eq_getElem?_getD, List.getElem?_take_of_lt hj]
    rfl
theorem code_cell {w : World} {g o : Nat} {d : List (BitVec 8)} (h : w.rangeAt g o (vB d)) (i : Nat) (hi : i < d.length) : w.cell? ⟨g, o + i, none⟩ = some (.int .u8 (((d.getD i 0#8).toNat : Nat) : Int)) := h i _ (vB_get d i hi)
theorem goT_take {ls : List Ins} {t : Nat} {x : Ins} (hx : ls[t]? = some x) (hc : x.c < 28) (p : Nat) (h : goT (ls.take t) p = false) (h2 : (x.c = 14 ∨ x.c = 15) → x.n ≠ p) : goT (ls.take (t + 1)) p = false := by
  rw [goT_succ hx, h, moper5 x.c hc, Bool.false_or]
  by_cases hj : x.c = 14 ∨ x.c = 15
  · have : (x.n == p) = false := by simpa using h2 hj
    rw [this, Bool.and_false]
  · have : (x.c == 14 || x.c == 15) = false := by
      simp only [Bool.or_eq_false_iff, beq_eq_false_iff_ne]
      omega
    rw [this, Bool.false_and]
theorem goT_yes {ls : List Ins} {t : Nat} {x : Ins} (hx : ls[t]? = some x) (hc : x.c < 28) (h2 : x.c = 14 ∨ x.c = 15) : goT ls x.n = true := by
  unfold goT
  refine List.any_eq_true.2 ⟨x, List.mem_of_getElem? hx, ?_⟩
  rw [moper5 x.c hc]
  rcases h2 with q | q <;> rw [q] <;> simp
set_option maxRecDepth 100000 in
set_option maxHeartbeats 4000000 in
theorem goesTo_any (g o n cap p : Nat) (d : List (BitVec 8)) (hd : d.length = n) (ls : List Ins) (hls : chk d = some ls) (v : Value) (w : World) (hr : w.rangeAt g o (vB d)) (hv : Lw w 3 1 v ls.length (vI (ls.map (·.p)))) : Calls Tryz.prog 9 #[.slice (some ⟨g, o, none⟩) n cap, v, .int .i64 (p : Int)] w fun e w' => e = .returned (.bool (goT ls p)) ∧ Below w.heap.size w w' := by
  obtain ⟨A, cl, rfl, hcap, hA⟩ := Lw.form hv
  have HV : Hid (Lw w 3 1 (.slice A ls.length cl) ls.length (vI (ls.map (·.p)))) := hv
  have HR : Hid (w.rangeAt g o (vB d)) := hr
  have HLS : Hid (chk d = some ls) := hls
  have HDL : Hid (d.length = n) := hd
  have hlen := chk_len hls
  have hn1 := (mchk_pg hls).2.2
  rw [hd] at hn1
  clear hv hr hls hd hcap hA
  go_enter Tryz.func9, Tryz.ntmps9
  go_wp2
  go_loopw [7] (fun v wr => ∃ t : Nat, t ≤ ls.length ∧ v = .int .i64 (t : Int) ∧ Hid (Below w.heap.size w wr) ∧ Hid (goT (ls.take t) p = false)) (fun v _ => ls.length - (intOf v).toNat)
  case atStart => exact ⟨0, Nat.zero_le _, rfl, Below.refl _ _, by show _ = _; rfl⟩
  case round =>
    obtain ⟨t, ht, rfl, HB, HG⟩ := hrel
    by_cases hlt : t < ls.length
    · obtain ⟨x, hx⟩ : ∃ x, ls[t]? = some x := ⟨_, List.getElem?_eq_getElem hlt⟩
      obtain ⟨g2, cap', e, hcc⟩ := Lw.open HV.out (by omega)
      simp only [Value.slice.injEq] at e
      obtain ⟨rfl, _, rfl⟩ := e
      have RR : Hid (wr.rangeAt g o (vB d)) := range_be HR.out HB.out
      obtain ⟨i1, i2, i3⟩ := ins_headD HLS.out hx
      have cp := range_be (Lw.range HV.out) HB.out t (.int .i64 (x.p : Int)) (by rw [vI_get _ _ (by rw [List.length_map]; exact hlt)]; simp [hx])
      rw [Nat.zero_add] at cp
      have cc := code_cell RR.out x.p i1
      rw [i3] at cc
      have HX : Hid (ls[t]? = some x) := hx
      have HX28 : Hid (x.c < 28) := i2
      have hpn : x.p < n := by rw [← HDL.out]; exact i1
      have HJ : Hid ((x.c = 14 ∨ x.c = 15) → x.p + 2 < d.length ∧ (d.getD (x.p + 1) 0#8).toNat * 256 + (d.getD (x.p + 2) 0#8).toNat = x.n) := fun q => ins_jumpD HLS.out hx q
      obtain ⟨xc, hxc⟩ : ∃ xc, xc = x.c := ⟨_, rfl⟩
      obtain ⟨xp, hxp⟩ : ∃ xp, xp = x.p := ⟨_, rfl⟩
      have HXC : Hid (xc = x.c) := hxc
      have HXP : Hid (xp = x.p) := hxp
      rw [← hxc] at cc
      rw [← hxp] at cc cp hpn
      clear hx hcc i1 i2 i3 hxc hxp
      by_cases hj : xc = 14 ∨ xc = 15
      · obtain ⟨j1, j2⟩ := HJ.out (by rw [← HXC.out]; exact hj)
        obtain ⟨m, hm⟩ : ∃ m, m = x.n := ⟨_, rfl⟩
        have HT : Hid (Calls Tryz.prog 14 #[.slice (some ⟨g, o, none⟩) n cap, .int .i64 (xp : Int)] wr fun e w' => e = .returned (.int .i64 (m : Int)) ∧ Below wr.heap.size wr w') := by
          rw [hm, ← j2, HXP.out]
          exact target_any g o n cap x.p _ _ (by rw [← HDL.out]; exact j1) hn1 (by exact BitVec.isLt _) (by exact BitVec.isLt _) wr (by exact code_cell RR.out _ (by omega)) (by exact code_cell RR.out _ j1)
        have HM : Hid (m = x.n) := hm
        clear j1 j2 hm HJ
        by_cases hmp : m = p
        · have HY : Hid (goT ls p = true) := by
            show _ = _
            rw [← hmp, HM.out]
            exact goT_yes HX.out HX28.out (by rw [← HXC.out]; exact hj)
          have hmp' : (m : Int) = (p : Int) := by omega
          have hmpb : ((m : Int) == (p : Int)) = true := by rw [hmp']; exact beq_self_eq_true _
          clear hmp
          rcases hj with rfl | rfl
          · go_wp2_with (go_at_call 14; refine Calls.mono HT.out ?_; rintro e X1 ⟨rfl, q⟩; have B1 : Hid (Below w.heap.size w X1) := HB.out.trans (q.mono HB.out.size); clear q)
            go_ret
            exact ⟨by rw [HY.out]; rfl, B1.out⟩
          · go_wp2_with (go_at_call 14; refine Calls.mono HT.out ?_; rintro e X1 ⟨rfl, q⟩; have B1 : Hid (Below w.heap.size w X1) := HB.out.trans (q.mono HB.out.size); clear q)
            go_ret
            exact ⟨by rw [HY.out]; rfl, B1.out⟩
        · have HG2 : Hid (goT (ls.take (t + 1)) p = false) := goT_take HX.out HX28.out p HG.out (fun _ => by rw [← HM.out]; exact hmp)
          have hmpb : ((m : Int) == (p : Int)) = false := by simp; omega
          have hmp' : ¬ (m : Int) = (p : Int) := by omega
          clear hmp
          rcases hj with rfl | rfl
          · go_wp2_with (go_at_call 14; refine Calls.mono HT.out ?_; rintro e X1 ⟨rfl, q⟩; have B1 : Hid (Below w.heap.size w X1) := HB.out.trans (q.mono HB.out.size); clear q)
            exact ⟨⟨t + 1, hlt, by go_num, B1, HG2⟩, by simp [intOf]; omega⟩
          · go_wp2_with (go_at_call 14; refine Calls.mono HT.out ?_; rintro e X1 ⟨rfl, q⟩; have B1 : Hid (Below w.heap.size w X1) := HB.out.trans (q.mono HB.out.size); clear q)
            exact ⟨⟨t + 1, hlt, by go_num, B1, HG2⟩, by simp [intOf]; omega⟩
      · have HG2 : Hid (goT (ls.take (t + 1)) p = false) := goT_take HX.out HX28.out p HG.out (fun q => absurd (by rw [HXC.out]; exact q) hj)
        have hx28 : xc < 28 := by rw [HXC.out]; exact HX28.out
        have k1 : ¬ (xc : Int) = 14 := by omega
        have k2 : ¬ (xc : Int) = 15 := by omega
        clear hj HJ
        go_wp2
        exact ⟨⟨t + 1, hlt, by go_num, HB, HG2⟩, by simp [intOf]; omega⟩
    · have et : t = ls.length := by omega
      have HG2 : Hid (goT ls p = false) := by
        have := HG.out
        rw [et, List.take_length] at this
        exact this
      have e4 : (t : Int) = (ls.length : Int) := by omega
      rw [e4]
      clear e4 et ht hlt
      go_wp2
      go_ret
      exact ⟨by rw [HG2.out]; rfl, HB.out⟩

end Go.Proofs.YtclbiophgnkggaaGreatDoor
