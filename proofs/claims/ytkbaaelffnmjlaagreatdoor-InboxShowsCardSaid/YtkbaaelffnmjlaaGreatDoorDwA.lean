/-
  the document's writer: bare, Number.
-/
import Derived.Test.YtkbaaelffnmjlaaGreatDoorLeK
import Derived.Test.YtkbaaelffnmjlaaGreatDoorXOwn
import Derived.Test.YtkbaaelffnmjlaaGreatDoorXRe
import Derived.BigQuiet

namespace Go.Proofs.YtkbaaelffnmjlaaGreatDoor
open Go Go.RowKit
open Sha

/-- A leaf's cells. -/
def lf (ix en tk : Int) (rc : List (BitVec 8)) (am : List Nat) : List Value := .int .i64 ix :: .int .i64 en :: .int .i64 tk :: (vB rc ++ vQ am)
def zLf : List Value := lf 0 0 0 (List.replicate 20 0#8) (List.replicate 4 0)
section
variable {P : Program} {ops : Array Oper} {rest : List Oper} {op : Oper} {a : Act} {w : World} {Q : Exit → Act → World → Prop}
theorem wpList_storeL (hgd : op.guard = none) (ty : TypeId) (x y : Operand) (ho : op.op = .store ty x y) (b : Nat) (L M : List Value) (t : TypeId) (hx : a.eval x = .pointer (some ⟨b, 0, none⟩)) (hy : a.eval y = .agg L.toArray) (r : Row w b M t) (hl : L.length = M.length) (hi : (P.info? ty).map (·.size) = some L.length) (h1 : L.toArray.all (·.oneCell') = true)
    (h : ∀ X, X = w.setCells b 0 L → Row X b L t → wpList P ops Q rest (a.put op.dst undef) X) : wpList P ops Q (op :: rest) a w :=
  wpList_store_mid hgd ty x y ho b 0 L.toArray hx hy (r.there 0 _ (by rw [List.size_toArray, hl, Nat.zero_add]; exact Nat.le_refl _)) (by rw [hi, List.size_toArray]) h1 (h _ rfl (r.over hl))
theorem wpList_boxG (ty : TypeId) (hgd : op.guard = none) (x : Operand) (ho : op.op = .box ty x) (L : List Value) (hx : a.eval x = .agg L.toArray) (h : ∀ X, Row X w.heap.size L ty → Below w.heap.size w X → X.heap.size = w.heap.size + 1 → wpList P ops Q rest (a.put op.dst (.pointer (some ⟨w.heap.size, 0, none⟩))) X) : wpList P ops Q (op :: rest) a w :=
  wpList_plain hgd fun _ hK => by
    unfold Oper.wp execOp
    simp only [ho, hx]
    go_simp
    exact hK _ _ (h _ (Row.new' rfl rfl) ((Below.refl _ _).alloc (Nat.le_refl _) _) (by simp))
theorem wpList_set1 (hgd : op.guard = none) (ty : TypeId) (x y : Operand) (ho : op.op = .store ty x y)
    (b i : Nat) (v : Value) (cs : List Value) (t : TypeId) (hx : a.eval x = .pointer (some ⟨b, i, none⟩)) (hy : a.eval y = v) (hcs : v.cells = #[v]) (r : Row w b cs t) (hl : i < cs.length) (hi : (Tryz.prog.info? ty).map (·.size) = some 1) (h1 : v.oneCell' = true)
    (h : ∀ X, Row X b (cs.set i v) t → Gro (· = b) w X → X.heap.size = w.heap.size → wpList Tryz.prog ops Q rest (a.put op.dst undef) X) : wpList Tryz.prog ops Q (op :: rest) a w :=
  wpList_store1 hgd ty x y ho b i v hx hy hcs (r.there i 1 (by omega)) hi h1 (h _ (r.set i v) ((Gro.refl _ _).set b i v rfl) (by simp))
theorem gro_over {R : Nat → Prop} {w W : World} (h : Gro R w W) (b o : Nat) (vs : List Value) (hb : R b) : Gro R w (W.setCells b o vs) := by
  have q := below_setCells (Below.refl 0 W) (b := b) (o := o) (Nat.zero_le _) vs
  exact ⟨q.os.trans h.os, q.tape.trans h.tape, q.output.trans h.output, Nat.le_trans h.size q.size, fun k hk hn => (heap_sets W b o vs k (fun e => hn (e ▸ hb))).trans (h.block k hk hn)⟩
/-- Part of a struct, stored. -/
theorem wpList_storeM (hgd : op.guard = none) (ty : TypeId) (x y : Operand) (ho : op.op = .store ty x y) (b o : Nat) (vs cs : List Value) (t : TypeId) (hx : a.eval x = .pointer (some ⟨b, o, none⟩)) (hy : a.eval y = .agg vs.toArray) (r : Row w b cs t) (hl : o + vs.length ≤ cs.length) (hi : (Tryz.prog.info? ty).map (·.size) = some vs.length) (h1 : vs.toArray.all (·.oneCell') = true)
    (h : ∀ X, Row X b (cs.take o ++ vs ++ cs.drop (o + vs.length)) t → Gro (· = b) w X → wpList Tryz.prog ops Q rest (a.put op.dst undef) X) : wpList Tryz.prog ops Q (op :: rest) a w :=
  wpList_store_mid hgd ty x y ho b o vs.toArray hx hy (r.there o _ (by rw [List.size_toArray]; exact hl)) (by rw [hi, List.size_toArray]) h1 (h _ (Row.setCells o vs r hl) (gro_over (Gro.refl _ _) b o vs rfl))
end
section
variable {ix en tk : Int} {rc : List (BitVec 8)} {am : List Nat} {b : Nat} {w : World}
theorem lf_len (h1 : rc.length = 20) (h2 : am.length = 4) : (lf ix en tk rc am).length = 27 := by
  simp only [lf, List.length_cons, List.length_append, vB_length, vQ_len, h1, h2]
theorem lf_to (i : Nat) : (lf ix en tk rc am)[3 + i]? = (vB rc ++ vQ am)[i]? := by
  rw [show 3 + i = i + 1 + 1 + 1 by omega]
  rfl
theorem lf_am (h1 : rc.length = 20) (i : Nat) : (lf ix en tk rc am)[23 + i]? = (vQ am)[i]? := by
  rw [show 23 + i = 3 + (20 + i) by omega, lf_to]
  exact app_at (vB rc) _ 20 i (by rw [vB_length, h1])
theorem lf_one : ∀ v ∈ lf ix en tk rc am, v.oneCell' = true := by
  intro v hv
  simp only [lf, List.mem_cons, List.mem_append] at hv
  rcases hv with rfl | rfl | rfl | h | h
  · rfl
  · rfl
  · rfl
  · exact vB_one rc v h
  · obtain ⟨x, _, rfl⟩ := List.mem_map.1 h
    rfl
theorem lf_all : (lf ix en tk rc am).toArray.all (·.oneCell') = true := all_oneCell_toArray lf_one
end
theorem info_Ad (rc : List (BitVec 8)) (h : rc.length = 20) : (Tryz.prog.info? 40).map (·.size) = some (vB rc).length := by rw [vB_length, h]; kernel_rfl
theorem info_Wd (am : List Nat) (h : am.length = 4) : (Tryz.prog.info? 43).map (·.size) = some (vQ am).length := by rw [vQ_len, h]; kernel_rfl
/-- May a leaf be? -/
def may (ix en tk : Int) (am : List Nat) : Bool := decide (0 ≤ ix ∧ ix < 1099511627776 ∧ 0 ≤ en ∧ en < 1099511627776 ∧ 0 ≤ tk ∧ tk < 64 ∧ am ≠ List.replicate 4 0)
theorem wm_new (w : World) : Calls Tryz.prog 105 #[] w fun e w' => e = .returned (.pointer (some ⟨w.heap.size, 0, none⟩)) ∧ Wm w w' w.heap.size [] :=
  (newWriter_any w).mono (fun _ _ ⟨q1, q2, q3⟩ => ⟨q1, none, 0, q2, (fun g e => by cases e), Nat.le_refl _, q3⟩)
theorem wm_byte (w0 : World) (P : Nat) (bs : List (BitVec 8)) (hl : bs.length ≤ 1000000) (x : BitVec 8) (y : Int) (hy : y = c x) (w : World) (hm : Wm w0 w P bs) : Calls Tryz.prog 106 #[.pointer (some ⟨P, 0, none⟩), .int .u8 y] w fun e w' => e = .returned (.tuple #[]) ∧ Wm w0 w' P (bs ++ [x]) := by
  obtain ⟨A, cap, hw, hf, hP, hB⟩ := hm
  refine (byte_any P A cap bs 0 (by omega) x y hy w hw).mono ?_
  rintro e w' ⟨rfl, hq⟩
  exact ⟨rfl, Wm.lays hf hP hB hq (wrB_in _ _ (by simp; omega)) (wrF_in _ _ (by simp; omega))⟩
theorem wm_number (w0 : World) (P : Nat) (bs : List (BitVec 8)) (hl : bs.length ≤ 1000000) (n : Int) (h0 : 0 ≤ n) (h1 : n < 9223372036854775808) (w : World) (hm : Wm w0 w P bs) : Calls Tryz.prog 78 #[.pointer (some ⟨P, 0, none⟩), .int .i64 n] w fun e w' => e = .returned (.tuple #[]) ∧ Wm w0 w' P (bs ++ nf n) := by
  obtain ⟨A, cap, hw, hf, hP, hB⟩ := hm
  refine (number_any P A cap bs 0 n h1 (by omega) w _ rfl hw).mono ?_
  rintro e w' ⟨rfl, ⟨A', cap', hw', hff⟩, hG⟩
  have hS : bs.length + (nf n).length ≤ 4194304 := by have := nf_len n; omega
  rw [nuB_in bs n h0 hS, nuF_in bs n h0 hS] at hw'
  rw [nuB_in bs n h0 hS] at hff
  exact ⟨rfl, Wm.on hf hP hB hw' hff hG⟩
theorem wm_address (w0 : World) (P : Nat) (bs : List (BitVec 8)) (hl : bs.length ≤ 1000000) (d : List (BitVec 8)) (hd : d.length = 20) (w : World) (hm : Wm w0 w P bs) : Calls Tryz.prog 71 #[.pointer (some ⟨P, 0, none⟩), .agg (vB d).toArray] w fun e w' => e = .returned (.tuple #[]) ∧ Wm w0 w' P (bs ++ d) := by
  obtain ⟨A, cap, hw, hf, hP, hB⟩ := hm
  refine (address_lays P A cap bs 0 (by omega) d hd w hw).mono ?_
  rintro e w' ⟨rfl, hq⟩
  exact ⟨rfl, Wm.lays hf hP hB hq (wrB_in _ _ (by omega)) (wrF_in _ _ (by omega))⟩
theorem wm_wide (w0 : World) (P : Nat) (bs : List (BitVec 8)) (hl : bs.length ≤ 1000000) (am : List Nat) (ham : am.length = 4) (hq4 : ∀ x ∈ am, x < 18446744073709551616) (w : World) (hm : Wm w0 w P bs) : Calls Tryz.prog 92 #[.pointer (some ⟨P, 0, none⟩), .agg (vQ am).toArray] w fun e w' => e = .returned (.tuple #[]) ∧ Wm w0 w' P (bs ++ wf am) := by
  obtain ⟨A, cap, hw, hf, hP, hB⟩ := hm
  obtain ⟨m0, m1, m2, m3, rfl⟩ : ∃ m0 m1 m2 m3, am = [m0, m1, m2, m3] := by
    rcases am with _ | ⟨m0, _ | ⟨m1, _ | ⟨m2, _ | ⟨m3, _ | ⟨m4, r⟩⟩⟩⟩⟩
    all_goals first | exact ⟨_, _, _, _, rfl⟩ | (simp at ham)
  have hS : bs.length + (wf [m0, m1, m2, m3]).length ≤ 4194304 := by have := wf_len [m0, m1, m2, m3]; omega
  refine (wide_any P A cap bs 0 m0 m1 m2 m3 (hq4 _ (by simp)) (hq4 _ (by simp)) (hq4 _ (by simp)) (hq4 _ (by simp)) _ rfl (by omega) w _ rfl hw).mono ?_
  rintro e w' ⟨rfl, hq, hG⟩
  exact ⟨rfl, Wm.lays hf hP hB (d := wf [m0, m1, m2, m3]) ⟨hq, hG⟩ (wrB_in _ _ hS) (wrF_in _ _ hS)⟩
theorem wm_done (w0 : World) (P : Nat) (bs : List (BitVec 8)) (hl : bs.length ≤ 1000000) (w : World) (hm : Wm w0 w P bs) : Calls Tryz.prog 107 #[.pointer (some ⟨P, 0, none⟩)] w fun e w' => ∃ A cap, e = .returned (.tuple #[.slice A bs.length cap, .int .i64 0]) ∧ Bw w' (.slice A bs.length cap) bs ∧ Fresh w0.heap.size (.slice A bs.length cap) ∧ Below w0.heap.size w0 w' := by
  obtain ⟨A, cap, hw, hf, hP, hB⟩ := hm
  refine (done_ok P A cap bs (by omega) w hw).mono ?_
  rintro e w' ⟨A', cap', q1, q2, q3, q4⟩
  exact ⟨A', cap', q1, q2, q3.more hB.size, hB.trans (q4.mono hB.size)⟩
theorem Wm.be {w0 w w' : World} {P : Nat} {bs : List (BitVec 8)} (h : Wm w0 w P bs) (k : Below w.heap.size w w') : Wm w0 w' P bs := by
  obtain ⟨A, cap, hw, hf, hP, hB⟩ := h
  exact ⟨A, cap, hw.be k, hf, hP, hB.trans (k.mono hB.size)⟩
/-- A leaf's bytes. -/
def lfb (ix en tk : Int) (rc : List (BitVec 8)) (am : List Nat) : List (BitVec 8) := [76#8] ++ nf ix ++ nf en ++ nf tk ++ rc ++ wf am
theorem may_in {ix en tk : Int} {am : List Nat} (h : may ix en tk am = true) : 0 ≤ ix ∧ ix < 1099511627776 ∧ 0 ≤ en ∧ en < 1099511627776 ∧ 0 ≤ tk ∧ tk < 64 := by
  have q := of_decide_eq_true h
  exact ⟨q.1, q.2.1, q.2.2.1, q.2.2.2.1, q.2.2.2.2.1, q.2.2.2.2.2.1⟩
theorem lfb_len (ix en tk : Int) (rc : List (BitVec 8)) (am : List Nat) (hto : rc.length = 20) : (lfb ix en tk rc am).length ≤ 153 := by
  have h1 := nf_len ix
  have h2 := nf_len en
  have h3 := nf_len tk
  have h4 := wf_len am
  unfold lfb
  simp only [List.length_append, List.length_singleton]
  omega
end Go.Proofs.YtkbaaelffnmjlaaGreatDoor

namespace Go.Proofs.YtkbaaelffnmjlaaGreatDoor
open Go Go.RowKit
open Sha

theorem lt_bits : ∀ f x : Nat, x < 2 ^ f → x < 2 ^ Lib.bitLenAux f x
  | 0, x, h => by simpa [Lib.bitLenAux] using h
  | f + 1, x, h => by
    simp only [Lib.bitLenAux]
    by_cases h0 : x = 0
    · subst h0; simp
    · rw [if_neg h0]
      have h1 : x / 2 < 2 ^ f := by rw [Nat.pow_succ] at h; omega
      have := lt_bits f (x / 2) h1
      rw [Nat.add_comm 1, Nat.pow_succ]
      omega
theorem lt_bl (x : Nat) (h : x < 18446744073709551616) (t : Nat) (ht : bl x ≤ t) : x / 2 ^ (t * 8) = 0 := by
  apply Nat.div_eq_of_lt
  have h1 : x < 2 ^ Lib.bitLen x := lt_bits 64 x h
  refine Nat.lt_of_lt_of_le h1 (Nat.pow_le_pow_right (by decide) ?_)
  unfold bl at ht
  omega
theorem fb_zero (a b c d : Nat) (ha : a < 18446744073709551616) (hb : b < 18446744073709551616) (hc : c < 18446744073709551616) (hd : d < 18446744073709551616) (i : Nat) (hi : nb a b c d ≤ i) (h32 : i < 32) : fb [a, b, c, d] i = 0#8 := by
  unfold fb
  have key : [a, b, c, d].getD (i / 8) 0 / 2 ^ (i % 8 * 8) = 0 := by
    unfold nb at hi
    rcases (show i / 8 = 0 ∨ i / 8 = 1 ∨ i / 8 = 2 ∨ i / 8 = 3 by omega) with e | e | e | e
    · rw [e]; show a / _ = 0
      by_cases h3 : d ≠ 0
      · rw [if_pos h3] at hi; omega
      · rw [if_neg h3] at hi
        by_cases h2 : c ≠ 0
        · rw [if_pos h2] at hi; omega
        · rw [if_neg h2] at hi
          by_cases h1 : b ≠ 0
          · rw [if_pos h1] at hi; omega
          · rw [if_neg h1] at hi
            by_cases h0 : a ≠ 0
            · rw [if_pos h0] at hi; exact lt_bl a ha _ (by omega)
            · rw [Classical.not_not.1 h0, Nat.zero_div]
    · rw [e]; show b / _ = 0
      by_cases h3 : d ≠ 0
      · rw [if_pos h3] at hi; omega
      · rw [if_neg h3] at hi
        by_cases h2 : c ≠ 0
        · rw [if_pos h2] at hi; omega
        · rw [if_neg h2] at hi
          by_cases h1 : b ≠ 0
          · rw [if_pos h1] at hi; exact lt_bl b hb _ (by omega)
          · rw [Classical.not_not.1 h1, Nat.zero_div]
    · rw [e]; show c / _ = 0
      by_cases h3 : d ≠ 0
      · rw [if_pos h3] at hi; omega
      · rw [if_neg h3] at hi
        by_cases h2 : c ≠ 0
        · rw [if_pos h2] at hi; exact lt_bl c hc _ (by omega)
        · rw [Classical.not_not.1 h2, Nat.zero_div]
    · rw [e]; show d / _ = 0
      by_cases h3 : d ≠ 0
      · rw [if_pos h3] at hi; exact lt_bl d hd _ (by omega)
      · rw [Classical.not_not.1 h3, Nat.zero_div]
  rw [key]
/-- The lowest N bytes of a number, the highest first. -/
def pb (l : List Nat) (N : Nat) : List (BitVec 8) := (List.range N).map fun j => fb l (N - 1 - j)
theorem pb_len (l : List Nat) (N : Nat) : (pb l N).length = N := by simp [pb]
theorem fm_pb (l : List Nat) (k : Nat) : fm l k = BitVec.ofNat 8 k :: pb l k := rfl
theorem pb_get (l : List Nat) (N i : Nat) (h : i < N) : (pb l N)[i]? = some (fb l (N - 1 - i)) := by
  unfold pb
  rw [List.getElem?_map, List.getElem?_range h]
  rfl
theorem pb_drop (l : List Nat) (N k : Nat) (h : k ≤ N) : (pb l N).drop (N - k) = pb l k := by
  apply List.ext_getElem?
  intro i
  rw [List.getElem?_drop]
  by_cases hi : i < k
  · rw [pb_get l N _ (by omega), pb_get l k i hi, show N - 1 - (N - k + i) = k - 1 - i by omega]
  · rw [List.getElem?_eq_none (by rw [pb_len]; omega), List.getElem?_eq_none (by rw [pb_len]; omega)]
section
variable {P : Program} {ops : Array Oper} {rest : List Oper} {op : Oper} {a : Act} {w : World} {Q : Exit → Act → World → Prop}
theorem run_slice_from (w : World) (t e ab ao len cap m : Nat) (l : Int) (hl : l = (m : Int)) (hm : m ≤ len) (hu : P.underlying t = some (.slice e)) (hs : (P.info? e).map (·.size) = some 1) :
    (Instr.sliceAt t (.slice (some ⟨ab, ao, none⟩) len cap) (some (.int .i64 l)) none none).run P w = .ok (.slice (some (if cap = m then ⟨ab, ao, none⟩ else ⟨ab, ao + m, none⟩)) (len - m) (cap - m)) w := by
  cases hq : P.info? e with
  | none => simp [hq] at hs
  | some i =>
    have h1 : i.size = 1 := by simpa [hq] using hs
    subst hl
    by_cases h2 : cap = m <;> simp [Instr.sliceAt, Instr.slice, run_underlying hu, Instr.sliceBounds, Instr.sliceBound, asIntOf, sizeOf, typeInfo, hq, h1, h2, Addr.add_mid, hm]

theorem wpList_slice_from (hgd : op.guard = none) (t : TypeId) (x y : Operand) (ho : op.op = .slice t x (some y) none none) (e ab ao len cap m : Nat) (l : Int) (hx : a.eval x = .slice (some ⟨ab, ao, none⟩) len cap) (hy : a.eval y = .int .i64 l)
    (hl : l = (m : Int)) (hm : m ≤ len) (hc : len ≤ cap) (hu : P.underlying t = some (.slice e)) (hs : (P.info? e).map (·.size) = some 1)
    (h : ∀ A, (m < len → A = (⟨ab, ao + m, none⟩ : Addr)) → wpList P ops Q rest (a.put op.dst (.slice (some A) (len - m) (cap - m))) w) : wpList P ops Q (op :: rest) a w :=
  wpList_plain hgd fun _ hK => by
    unfold Oper.wp execOp
    simp only [ho, hx, hy, Option.map_some, Option.map_none, Sem.run_bind, run_slice_from w t e ab ao len cap m l hl hm hu hs, Result.andThen_ok, Sem.run_pure, Oper.upon_value]
    exact hK _ _ (h _ (fun hlt => by rw [if_neg (by omega)]))
end
set_option maxRecDepth 100000 in
set_option maxHeartbeats 4000000 in
theorem bare_go (g N k : Nat) (d : List (BitVec 8)) (hN : N ≤ 32) (hk : k ≤ N) (hz : ∀ i, i < N - k → d[i]? = some 0#8) (ht : 0 < k → ∃ x : BitVec 8, d[N - k]? = some x ∧ x.toNat ≠ 0) (S : Value) (hS : S = if k = 0 then .slice none 0 0 else .slice (some ⟨g, N - k, none⟩) k k) (w : World) (hr : w.rangeAt g 0 (vB d)) :
    Calls Tryz.prog 152 #[.slice (some ⟨g, 0, none⟩) N N] w fun e w' => e = .returned S ∧ w' = w := by
  have HR : Hid (w.rangeAt g 0 (vB d)) := hr
  have HZ : Hid (∀ i, i < N - k → d[i]? = some 0#8) := hz
  have HT : Hid (0 < k → ∃ x : BitVec 8, d[N - k]? = some x ∧ x.toNat ≠ 0) := ht
  have HS : Hid (S = if k = 0 then .slice none 0 0 else .slice (some ⟨g, N - k, none⟩) k k) := hS
  clear hr hz ht hS
  go_enter Tryz.func152, Tryz.ntmps152
  go_wp2_with fail
  go_loopw [3] (fun v wr => ∃ t : Nat, t ≤ N - k ∧ v = .int .i64 (t : Int) ∧ wr = w) (fun v _ => N - (intOf v).toNat)
  case atStart => exact ⟨0, Nat.zero_le _, rfl, rfl⟩
  case round =>
    obtain ⟨t, htk, rfl, hw⟩ := hrel
    subst hw
    by_cases h1 : t < N - k
    · have c0 : wr.cell? ⟨g, t, none⟩ = some (.int .u8 0) := by
        have q := HR.out t _ (by unfold vB; rw [List.getElem?_map, HZ.out t h1]; rfl)
        rw [Nat.zero_add] at q
        exact q
      have hl : t < N := by omega
      go_wp2
      exact ⟨⟨t + 1, by omega, by go_num, by first | rfl | trivial⟩, by simp [intOf]; omega⟩
    · have et : t = N - k := by omega
      by_cases hk0 : k = 0
      · have hS : S = .slice none 0 0 := by rw [HS.out, if_pos hk0]
        have e4 : (t : Int) = (N : Int) := by omega
        rw [e4]
        clear e4 h1 htk et hk0
        go_wp2
        go_ret
        exact ⟨by rw [hS]; rfl, rfl⟩
      · obtain ⟨x, hx, hx0⟩ := HT.out (by omega)
        have hS : Hid (S = .slice (some ⟨g, t, none⟩) (N - t) (N - t)) := by
          show _ = _
          rw [HS.out, if_neg hk0, et, show N - (N - k) = k by omega]
        have c0 : wr.cell? ⟨g, t, none⟩ = some (.int .u8 ((x.toNat : Nat) : Int)) := by
          rw [← et] at hx
          have q := HR.out t _ (by unfold vB; rw [List.getElem?_map, hx]; rfl)
          rw [Nat.zero_add] at q
          exact q
        obtain ⟨y, hy⟩ : ∃ y, y = x.toNat := ⟨_, rfl⟩
        rw [← hy] at c0 hx0
        have hl : t < N := by omega
        have ey : ((y : Int) != 0) = true := by simp; omega
        clear hx hy et h1 htk hk0
        go_wp2_with (refine wpList_slice_from rfl 44 (.tmp 15) (.tmp 16) rfl 5 g 0 N N t _ rfl rfl rfl (Nat.le_of_lt hl) (Nat.le_refl _) Tryz.underlying44 info_u8 ?_; intro A qA; obtain rfl := qA hl; rw [Nat.zero_add]; simp only [Act.put, List.setIfInBounds_toArray, List.set_cons_zero, List.set_cons_succ])
        go_ret
        exact ⟨by rw [hS.out]; rfl, rfl⟩

end Go.Proofs.YtkbaaelffnmjlaaGreatDoor
