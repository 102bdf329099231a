/-
  bytes as numbers.
-/
import Derived.Test.YtclbiophgnkggaaGreatDoorWVU
import Derived.Test.YtclbiophgnkggaaGreatDoorWRdM
import Derived.Test.YtclbiophgnkggaaGreatDoorMkA
import Derived.Test.YtclbiophgnkggaaGreatDoorWRd
import Derived.Test.YtclbiophgnkggaaGreatDoorWEq
import Derived.Test.YtclbiophgnkggaaGreatDoorWMul0
import Derived.Deep.CutRange

namespace Go.Proofs.YtclbiophgnkggaaGreatDoor
open Go Go.RowKit
open Wd

set_option maxRecDepth 100000 in
set_option maxHeartbeats 2000000 in
theorem bytes_any (a : Nat) (w : World) :
    Calls Tryz.prog 100 #[.agg (vQ (dgs a 4)).toArray] w fun e w' => ∃ N, w.heap.size ≤ N ∧ Row w' N (vU (bl a)) 5 ∧ e = .returned (.slice (some ⟨N, 0, none⟩) 32 32) ∧ Below w.heap.size w w' := by
  go_enter Tryz.func100, Tryz.ntmps100
  go_wp2_with (refine wpList_make_u rfl 22 (.const (.int .i64 32)) (.const (.int .i64 32)) rfl 5 32 _ _ rfl rfl rfl rfl (by decide) Tryz.underlying22 info_all_u8 ?_; simp only [Act.put, List.setIfInBounds_toArray, List.set_cons_zero, List.set_cons_succ])
  go_loopw [4, 8] (fun _ iv wr => ∃ t : Nat, t ≤ 32 ∧ iv = .int .i64 (t : Int) ∧ Below w.heap.size w wr ∧ Row wr w.heap.size (vQ (dgs a 4)) 37 ∧ Row wr (w.heap.size + 1) (vU (List.replicate (32 - t) 0 ++ rx (by8 a) t)) 5) (fun _ iv _ => 32 - (intOf iv).toNat)
  case atStart =>
    refine ⟨0, by omega, rfl, ((Below.refl _ _).alloc (Nat.le_refl _) _).alloc (by simp) _, (Row.new' rfl rfl).alloc _, ?_⟩
    exact Row.new' (by simp) rfl
  case round =>
    obtain ⟨t, ht, rfl, hb, h1, h3⟩ := hrel
    by_cases hlt : t < 32
    · have hq : t / 8 < 4 := by omega
      have g1 := h1.cell (t / 8) _ (vQ_get _ (t / 8) (by rw [dgs_length]; exact hq))
      rw [dgs_getD _ _ _ hq] at g1
      have hlen : (List.replicate (32 - t) 0 ++ rx (by8 a) t).length = 32 := by rw [List.length_append, List.length_replicate, rx_length]; omega
      have g3 := h3.cell (31 - t) _ (vU_get _ (31 - t) (by rw [hlen]; omega))
      have gf := h3.thaw (31 - t)
      have hby := by8_lim a t
      have hbl := by8_lt a t
      have hx := lim_lt a (t / 8)
      have e1 : (t : Int) / 8 = ((t / 8 : Nat) : Int) := by omega
      have e2 : (t : Int) % 8 = ((t % 8 : Nat) : Int) := by omega
      generalize (List.replicate (32 - t) 0 ++ rx (by8 a) t).getD (31 - t) 0 = z at g3
      generalize lim a (t / 8) = x at *
      obtain ⟨q, hqe⟩ : ∃ q, q = t / 8 := ⟨_, rfl⟩
      obtain ⟨r0, hr0⟩ : ∃ r0, r0 = t % 8 := ⟨_, rfl⟩
      obtain ⟨r, hre⟩ : ∃ r, r = r0 * 8 := ⟨_, rfl⟩
      obtain ⟨j, hj⟩ : ∃ j, j = 31 - t := ⟨_, rfl⟩
      rw [← hqe] at g1 e1 hq
      rw [← hr0] at e2 hby
      rw [← hre] at hby
      rw [← hj] at g3 gf
      have e3 : (r0 : Int) * 8 = (r : Int) := by omega
      have e4 : (31 : Int) - (t : Int) = (j : Int) := by omega
      have lr : (r : Int) ≤ 56 := by omega
      have lr' : r < 64 := by omega
      have lj : (j : Int) < 32 := by omega
      have lj' : j < 32 := by omega
      have lq : (q : Int) < 4 := by omega
      have eK : (x : Int) / 2 ^ r = ((x / 2 ^ r : Nat) : Int) := by simp
      obtain ⟨y, hy⟩ : ∃ y, y = x / 2 ^ r := ⟨_, rfl⟩
      rw [← hy] at eK hby
      obtain ⟨d, hd⟩ : ∃ d, d = by8 a t := ⟨_, rfl⟩
      rw [← hd] at hby hbl
      have eA : IntKind.u8.wrap (y : Int) = (d : Int) := by rw [IntKind.wrap_u8]; omega
      have HJ : Hid (j = 31 - t ∧ d = by8 a t) := ⟨hj, hd⟩
      clear hqe hre hr0 hy hby hx ht hj hd hlen hbl
      go_wp2
      refine ⟨⟨t + 1, hlt, by go_num, Below.setCell hb (by simp) _, h1.set_other _ _ _ (by omega), ?_⟩, by simp [intOf]; omega⟩
      have := h3.set j (.int .u8 (d : Int))
      rw [vU_set, HJ.out.1, HJ.out.2, show 31 - t = 32 - 1 - t from rfl, rx_fill (by8 a) t 32 hlt] at this
      rw [HJ.out.1, HJ.out.2]
      exact this
    · have et : t = 32 := by omega
      have e4 : (t : Int) = 32 := by omega
      rw [et, Nat.sub_self, List.replicate_zero, List.nil_append] at h3
      rw [e4]
      clear et e4 ht hlt
      go_wp2
      go_ret
      exact ⟨w.heap.size + 1, by omega, h3, by simp, hb⟩

end Go.Proofs.YtclbiophgnkggaaGreatDoor

namespace Go.Proofs.YtclbiophgnkggaaGreatDoor
open Go Go.RowKit
open Sha
open Wd
/-- An amount's bytes. -/
def wB (n : Nat) : List (BitVec 8) := (bl n).map (BitVec.ofNat 8)
theorem wB_len (n : Nat) : (wB n).length = 32 := by unfold wB; rw [List.length_map, bl_length]
theorem wB_vU (n : Nat) : vB (wB n) = vU (bl n) := by
  unfold wB vB vU
  rw [List.map_map]
  refine List.map_congr_left (fun x hx => ?_)
  simp only [Function.comp_apply, c, BitVec.toNat_ofNat]
  rw [Nat.mod_eq_of_lt (bl_lt n x hx)]
/-- An amount's cells. -/
def wq (a : Nat) : List Value := vQ (dgs a 4)
theorem wq_len (a : Nat) : (wq a).length = 4 := by unfold wq; rw [vQ, List.length_map, dgs_length]
theorem wq_one (a : Nat) : (wq a).toArray.all (·.oneCell') = true := by
  rw [← Array.all_toList]
  refine List.all_eq_true.2 (fun v hv => ?_)
  obtain ⟨x, _, rfl⟩ := List.mem_map.1 hv
  rfl
theorem wq_cells (a : Nat) : wq a = [.int .u64 ((lim a 0 : Nat) : Int), .int .u64 ((lim a 1 : Nat) : Int), .int .u64 ((lim a 2 : Nat) : Int), .int .u64 ((lim a 3 : Nat) : Int)] := rfl
theorem wq_zero : wq 0 = [.int .u64 0, .int .u64 0, .int .u64 0, .int .u64 0] := by
  rw [wq_cells, show lim 0 0 = 0 by decide +kernel, show lim 0 1 = 0 by decide +kernel, show lim 0 2 = 0 by decide +kernel, show lim 0 3 = 0 by decide +kernel]
  rfl
theorem results_rowS {P : Program} {fn : Func} {p : Tmp} {ty : TypeId} {fs : Array Field} (h : fn.results = #[.cell p ty]) (tmps : Array Value) (w : World) (g : Nat) (t : TypeId) (cs : List Value)
    (hp : tmps.getD p undef = .pointer (some ⟨g, 0, none⟩)) (hg : Row w g cs t) (hu : P.underlying ty = some (.struct fs)) (hi : (P.info? ty).map (·.size) = some cs.length) :
    (results fn tmps).run P w = .ok (.agg cs.toArray) w :=
  results_cell_row h tmps w g t cs.toArray (0, 0) _ hp hg hu rfl (by simp [hi])
theorem results_rowS_tmp {P : Program} {fn : Func} {p q : Tmp} {ty : TypeId} {fs : Array Field} (h : fn.results = #[.cell p ty, .tmp q]) (tmps : Array Value) (w : World) (g : Nat) (t : TypeId) (cs : List Value) (v : Value)
    (hp : tmps.getD p undef = .pointer (some ⟨g, 0, none⟩)) (hv : tmps.getD q undef = v) (hg : Row w g cs t) (hu : P.underlying ty = some (.struct fs)) (hi : (P.info? ty).map (·.size) = some cs.length) :
    (results fn tmps).run P w = .ok (.tuple #[.agg cs.toArray, v]) w := by
  have hp' : tmps[p]?.getD undef = .pointer (some ⟨g, 0, none⟩) := by simpa using hp
  have hv' : tmps[q]?.getD undef = v := by simpa using hv
  have hr := run_loadVar_row (P := P) w g t ty cs.toArray (0, 0) (.struct fs) hg hu rfl (by simp [hi])
  simp [results, h, hp', hv', asAddr, hr]

theorem results_rowA {P : Program} {fn : Func} {p : Tmp} {ty e : TypeId} {k : Nat} (h : fn.results = #[.cell p ty]) (tmps : Array Value) (w : World) (g : Nat) (t : TypeId) (cs : List Value)
    (hp : tmps.getD p undef = .pointer (some ⟨g, 0, none⟩)) (hg : Row w g cs t) (hu : P.underlying ty = some (.array k e)) (hi : (P.info? ty).map (·.size) = some cs.length) :
    (results fn tmps).run P w = .ok (.agg cs.toArray) w :=
  results_cell_row h tmps w g t cs.toArray (0, 0) _ hp hg hu rfl (by simp [hi])
abbrev zW : List Value := [.int .u64 0, .int .u64 0, .int .u64 0, .int .u64 0]
abbrev zI : List Value := [.int .i64 0, .int .i64 0, .int .u64 0, .int .u64 0, .int .u64 0, .int .u64 0, .int .i64 0]
abbrev zP : List Value := [.slice none 0 0, .slice none 0 0]
abbrev z32 : List Value := vB (List.replicate 32 0#8)
section
variable {P : Program} {ops : Array Oper} {rest : List Oper} {op : Oper} {a : Act} {w : World} {Q : Exit → Act → World → Prop}
theorem run_slice_arr (w : World) (t e n b o k : Nat) (l : Int) (hl : l = (k : Int)) (hk : k < n) (hu : P.underlying t = some (.array n e)) (hs : (P.info? e).map (·.size) = some 1) :
    (Instr.sliceAt t (.pointer (some ⟨b, o, none⟩)) (some (.int .i64 l)) none none).run P w = .ok (.slice (some ⟨b, o + k, none⟩) (n - k) (n - k)) w := by
  cases hq : P.info? e with
  | none => simp [hq] at hs
  | some i =>
    have h1 : i.size = 1 := by simpa [hq] using hs
    subst hl
    have h2 : ¬ n = k := by omega
    have h3 : k ≤ n := Nat.le_of_lt hk
    simp [Instr.sliceAt, Instr.sureAddr, run_underlying hu, Instr.sliceBounds, Instr.sliceBound, asIntOf, sizeOf, typeInfo, hq, h1, h2, h3, Addr.add_mid]

theorem run_slice_from (w : World) (t e ab ao len cap m : Nat) (l : Int) (hl : l = (m : Int)) (hm : m ≤ len) (hu : P.underlying t = some (.slice e)) (hs : (P.info? e).map (·.size) = some 1) :
    (Instr.sliceAt t (.slice (some ⟨ab, ao, none⟩) len cap) (some (.int .i64 l)) none none).run P w = .ok (.slice (some (if cap = m then ⟨ab, ao, none⟩ else ⟨ab, ao + m, none⟩)) (len - m) (cap - m)) w := by
  cases hq : P.info? e with
  | none => simp [hq] at hs
  | some i =>
    have h1 : i.size = 1 := by simpa [hq] using hs
    subst hl
    by_cases h2 : cap = m <;> simp [Instr.sliceAt, Instr.slice, run_underlying hu, Instr.sliceBounds, Instr.sliceBound, asIntOf, sizeOf, typeInfo, hq, h1, h2, Addr.add_mid, hm]

theorem wpList_slice_arr (hgd : op.guard = none) (t : TypeId) (x y : Operand) (ho : op.op = .slice t x (some y) none none) (e n b o k : Nat) (l : Int) (hx : a.eval x = .pointer (some ⟨b, o, none⟩)) (hy : a.eval y = .int .i64 l)
    (hl : l = (k : Int)) (hk : k < n) (hu : P.underlying t = some (.array n e)) (hs : (P.info? e).map (·.size) = some 1)
    (h : wpList P ops Q rest (a.put op.dst (.slice (some ⟨b, o + k, none⟩) (n - k) (n - k))) w) : wpList P ops Q (op :: rest) a w :=
  wpList_plain hgd fun _ hK => by
    unfold Oper.wp execOp
    simp only [ho, hx, hy, Option.map_some, Option.map_none, Sem.run_bind, run_slice_arr w t e n b o k l hl hk hu hs, Result.andThen_ok, Sem.run_pure, Oper.upon_value]
    exact hK _ _ h

theorem wpList_slice_from (hgd : op.guard = none) (t : TypeId) (x y : Operand) (ho : op.op = .slice t x (some y) none none) (e ab ao len cap m : Nat) (l : Int) (hx : a.eval x = .slice (some ⟨ab, ao, none⟩) len cap) (hy : a.eval y = .int .i64 l)
    (hl : l = (m : Int)) (hm : m ≤ len) (hc : len ≤ cap) (hu : P.underlying t = some (.slice e)) (hs : (P.info? e).map (·.size) = some 1)
    (h : ∀ A, (m < len → A = (⟨ab, ao + m, none⟩ : Addr)) → wpList P ops Q rest (a.put op.dst (.slice (some A) (len - m) (cap - m))) w) : wpList P ops Q (op :: rest) a w :=
  wpList_plain hgd fun _ hK => by
    unfold Oper.wp execOp
    simp only [ho, hx, hy, Option.map_some, Option.map_none, Sem.run_bind, run_slice_from w t e ab ao len cap m l hl hm hu hs, Result.andThen_ok, Sem.run_pure, Oper.upon_value]
    exact hK _ _ (h _ (fun hlt => by rw [if_neg (by omega)]))
/-- A whole struct, stored. -/
theorem wpList_storeL (hgd : op.guard = none) (ty : TypeId) (x y : Operand) (ho : op.op = .store ty x y) (b : Nat) (L M : List Value) (t : TypeId) (hx : a.eval x = .pointer (some ⟨b, 0, none⟩)) (hy : a.eval y = .agg L.toArray) (r : Row w b M t) (hl : L.length = M.length) (hi : (P.info? ty).map (·.size) = some L.length) (h1 : L.toArray.all (·.oneCell') = true)
    (h : ∀ X, X = w.setCells b 0 L → Row X b L t → wpList P ops Q rest (a.put op.dst undef) X) : wpList P ops Q (op :: rest) a w :=
  wpList_store_mid hgd ty x y ho b 0 L.toArray hx hy (r.there 0 _ (by rw [List.size_toArray, hl, Nat.zero_add]; exact Nat.le_refl _)) (by rw [hi, List.size_toArray]) h1 (h _ rfl (r.over hl))
theorem wpList_boxG (ty : TypeId) (hgd : op.guard = none) (x : Operand) (ho : op.op = .box ty x) (L : List Value) (hx : a.eval x = .agg L.toArray) (h : ∀ X, Row X w.heap.size L ty → Below w.heap.size w X → X.heap.size = w.heap.size + 1 → wpList P ops Q rest (a.put op.dst (.pointer (some ⟨w.heap.size, 0, none⟩))) X) : wpList P ops Q (op :: rest) a w :=
  wpList_plain hgd fun _ hK => by
    unfold Oper.wp execOp
    simp only [ho, hx]
    go_simp
    exact hK _ _ (h _ (Row.new' rfl rfl) ((Below.refl _ _).alloc (Nat.le_refl _) _) (by simp))
theorem wpList_allocW (hgd : op.guard = none) (ho : op.op = .alloc 37) (h : ∀ X, Row X w.heap.size zW 37 → Below w.heap.size w X → X.heap.size = w.heap.size + 1 → wpList Tryz.prog ops Q rest (a.put op.dst (.pointer (some ⟨w.heap.size, 0, none⟩))) X) : wpList Tryz.prog ops Q (op :: rest) a w :=
  wpList_plain hgd fun _ hK => by
    unfold Oper.wp execOp
    simp only [ho]
    go_simp
    exact hK _ _ (h _ (Row.new' (cs := zW) rfl rfl) ((Below.refl _ _).alloc (Nat.le_refl _) _) (by simp))
theorem wpList_allocI (hgd : op.guard = none) (ho : op.op = .alloc 53) (h : ∀ X, Row X w.heap.size zI 53 → Below w.heap.size w X → X.heap.size = w.heap.size + 1 → wpList Tryz.prog ops Q rest (a.put op.dst (.pointer (some ⟨w.heap.size, 0, none⟩))) X) : wpList Tryz.prog ops Q (op :: rest) a w :=
  wpList_plain hgd fun _ hK => by
    unfold Oper.wp execOp
    simp only [ho]
    go_simp
    exact hK _ _ (h _ (Row.new' (cs := zI) rfl rfl) ((Below.refl _ _).alloc (Nat.le_refl _) _) (by simp))
theorem wpList_allocP (hgd : op.guard = none) (ho : op.op = .alloc 44) (h : ∀ X, Row X w.heap.size zP 44 → Below w.heap.size w X → X.heap.size = w.heap.size + 1 → wpList Tryz.prog ops Q rest (a.put op.dst (.pointer (some ⟨w.heap.size, 0, none⟩))) X) : wpList Tryz.prog ops Q (op :: rest) a w :=
  wpList_plain hgd fun _ hK => by
    unfold Oper.wp execOp
    simp only [ho]
    go_simp
    exact hK _ _ (h _ (Row.new' (cs := zP) rfl rfl) ((Below.refl _ _).alloc (Nat.le_refl _) _) (by simp))
theorem wpList_allocB (hgd : op.guard = none) (ho : op.op = .alloc 141) (h : ∀ X, Row X w.heap.size z32 141 → Below w.heap.size w X → X.heap.size = w.heap.size + 1 → wpList Tryz.prog ops Q rest (a.put op.dst (.pointer (some ⟨w.heap.size, 0, none⟩))) X) : wpList Tryz.prog ops Q (op :: rest) a w :=
  wpList_plain hgd fun _ hK => by
    unfold Oper.wp execOp
    simp only [ho]
    go_simp
    exact hK _ _ (h _ (Row.new' (cs := z32) rfl (by rfl)) ((Below.refl _ _).alloc (Nat.le_refl _) _) (by simp))

theorem wpList_slice_arr0 (hgd : op.guard = none) (t : TypeId) (x : Operand) (ho : op.op = .slice t x none none none) (e n b o : Nat) (hx : a.eval x = .pointer (some ⟨b, o, none⟩)) (hu : P.underlying t = some (.array n e)) (hs : (P.info? e).map (·.size) = some 1)
    (h : wpList P ops Q rest (a.put op.dst (.slice (some ⟨b, o, none⟩) n n)) w) : wpList P ops Q (op :: rest) a w :=
  wpList_plain hgd fun _ hK => by
    have hr : (Instr.sliceAt t (.pointer (some ⟨b, o, none⟩)) none none none).run P w = .ok (.slice (some ⟨b, o, none⟩) n n) w := by
      cases hq : P.info? e with
      | none => simp [hq] at hs
      | some i =>
        simp [Instr.sliceAt, Instr.sureAddr, run_underlying hu, Instr.sliceBounds, sizeOf, typeInfo, hq, Addr.add_mid]
    unfold Oper.wp execOp
    simp only [ho, hx, Option.map_none, Sem.run_bind, hr, Result.andThen_ok, Sem.run_pure, Oper.upon_value]
    exact hK _ _ h
/-- Bytes copied into the room at an array's end. -/
theorem wpList_copyn (hgd : op.guard = none) (x y : Operand) (ho : op.op = .call { callee := .builtin .copy, args := #[x, y], argTypes := #[22, 22] }) (g off g2 o2 n cap : Nat) (d : List (BitVec 8)) (hd : d.length = n)
    (hx : a.eval x = .slice (some ⟨g, off, none⟩) n n) (hy : a.eval y = .slice (some ⟨g2, o2, none⟩) n cap) (hr : w.rangeAt g2 o2 (vB d)) (ht : w.there g off n)
    (h : ∀ X, X = w.setCells g off (vB d) → wpList Tryz.prog ops Q rest (a.put op.dst (goInt n)) X) : wpList Tryz.prog ops Q (op :: rest) a w := by
  have hl : (vB d).length = n := by rw [vB_length, hd]
  obtain ⟨dst, op', ty, pos, after, guard⟩ := op
  simp only at hgd ho
  subst hgd; subst ho
  refine wpList_copy 5 g off n n ⟨g2, o2, none⟩ n cap (vB d) hx hy Tryz.underlying22 info_u8 (by rw [hl]; exact (Nat.min_self n).symm) (fun j v hj => by rw [Addr.add_mid]; exact hr j v hj) (by rw [hl]; exact ht) (vB_one d) ?_
  rw [hl]
  exact h _ rfl
end
/-- The number of some bytes, the highest first. -/
def zb (b : List (BitVec 8)) : List Nat := List.replicate (32 - b.length) 0 ++ b.map (fun x => x.toNat)
def nb (b : List (BitVec 8)) : Nat := rdn (zb b)
theorem zeros_app (b : List (BitVec 8)) (k : Nat) : vB (List.replicate k 0#8 ++ b) = vU (List.replicate k 0 ++ b.map (fun x => x.toNat)) := by
  unfold vB vU
  rw [List.map_append, List.map_append, List.map_replicate, List.map_replicate, List.map_map]
  rfl
theorem nb_row (g : Nat) (b : List (BitVec 8)) (w : World) (n k : Nat) (hn : b.length = n) (hk : k + n = 32) (h : Row w g z32 141) : Row (w.setCells g k (vB b)) g (vU (zb b)) 141 := by
  have q := Row.setCells k (vB b) h (by rw [vB_length, vB_length, List.length_replicate]; omega)
  unfold zb
  rw [← zeros_app]
  have e : (z32.take k ++ vB b ++ z32.drop (k + (vB b).length)) = vB (List.replicate (32 - b.length) 0#8 ++ b) := by
    rw [List.drop_of_length_le (by rw [vB_length, vB_length, List.length_replicate]; omega), List.append_nil]
    unfold z32 vB
    rw [List.map_append, ← List.map_take, List.take_replicate, Nat.min_eq_left (by omega), show 32 - b.length = k by omega]
  rw [e] at q
  exact q
theorem by_row {W : World} {N : Nat} {l : List Nat} {t : TypeId} (r : Row W N (vU l) t) : By W (some ⟨N, 0, none⟩) l := fun i hi =>
  ⟨N, 0, rfl, by rw [Nat.zero_add]; exact r.cell i _ (vU_get l i hi), Row.lt r⟩
theorem zb_len {b : List (BitVec 8)} (h : b.length ≤ 32) : (zb b).length = 32 := by
  unfold zb
  rw [List.length_append, List.length_replicate, List.length_map]; omega
theorem zb_lt {b : List (BitVec 8)} : ∀ x ∈ zb b, x < 256 := fun x hx => by
  unfold zb at hx
  rcases List.mem_append.1 hx with q | q
  · rw [(List.mem_replicate.1 q).2]; decide
  · obtain ⟨y, _, rfl⟩ := List.mem_map.1 q; exact y.isLt
theorem read_z (b : List (BitVec 8)) (h : b.length ≤ 32) (g cap : Nat) (w : World) (hr : By w (some ⟨g, 0, none⟩) (zb b)) : Calls Tryz.prog 99 #[.slice (some ⟨g, 0, none⟩) 32 cap] w fun e w' => e = .returned (.tuple #[.agg (wq (nb b)).toArray, .int .i64 0]) ∧ Below w.heap.size w w' := by
  have q := read_by _ zb_lt (some ⟨g, 0, none⟩) cap w hr
  unfold rdR rdE at q
  rw [if_pos (zb_len h), if_pos (zb_len h), zb_len h] at q
  exact q
theorem info_W : (Tryz.prog.info? 37).map (·.size) = some 4 := by kernel_rfl
theorem info_Wq (a : Nat) : (Tryz.prog.info? 37).map (·.size) = some (wq a).length := by rw [wq_len]; exact info_W
set_option maxRecDepth 100000 in
set_option maxHeartbeats 4000000 in
theorem numberOf_any (g o n cap : Nat) (b : List (BitVec 8)) (hb : b.length = n) (h1 : 1 ≤ n) (h32 : n ≤ 32) (w : World) (hr : w.rangeAt g o (vB b)) : Calls Tryz.prog 78 #[.slice (some ⟨g, o, none⟩) n cap] w fun e w' => e = .returned (.agg (wq (nb b)).toArray) ∧ Below w.heap.size w w' := by
  have HR : Hid (w.rangeAt g o (vB b)) := hr
  have HB : Hid (b.length = n) := hb
  obtain ⟨L, hL⟩ : ∃ L, L = wq (nb b) := ⟨_, rfl⟩
  have HL : Hid (L = wq (nb b)) := hL
  clear hr hb hL
  go_enter Tryz.func78, Tryz.ntmps78
  go_upto_region 2 with (first
    | (refine wpList_allocW rfl rfl ?_; intro X1 q1 q2 q3; have R1 : Hid (Row X1 w.heap.size zW 37) := q1; have B1 : Hid (Below w.heap.size w X1) := q2; have S1 : Hid (X1.heap.size = w.heap.size + 1) := q3; clear q1 q2 q3; simp only [Act.put, List.setIfInBounds_toArray, List.set_cons_zero, List.set_cons_succ])
    | (refine wpList_allocB rfl rfl ?_; intro X2 q1 q2 q3; have R2 : Hid (Row X2 X1.heap.size z32 141) := q1; have B2 : Hid (Below X1.heap.size X1 X2) := q2; clear q1 q2 q3; simp only [Act.put, List.setIfInBounds_toArray, List.set_cons_zero, List.set_cons_succ]))
  obtain ⟨g3, hg3⟩ : ∃ g3, g3 = X1.heap.size := ⟨_, rfl⟩
  obtain ⟨g2, hg2⟩ : ∃ g2, g2 = w.heap.size := ⟨_, rfl⟩
  have HG3 : Hid (g3 = g2 + 1) := by show _ = _; rw [hg3, hg2]; exact S1.out
  have HG2 : Hid (g2 = w.heap.size) := hg2
  rw [← hg3] at R2 B2
  rw [← hg2] at R1
  rw [← hg2, ← hg3]
  replace R1 : Hid (Row X2 g2 zW 37) := Row.below R1.out B2.out (by rw [HG3.out]; omega)
  replace B1 : Hid (Below w.heap.size w X2) := B1.out.trans (B2.out.mono (by rw [HG3.out, HG2.out]; omega))
  clear hg3 hg2 B2 S1
  obtain ⟨k, hk⟩ : ∃ k, k + n = 32 := ⟨32 - n, by omega⟩
  go_upto_region 3 with (first
    | (refine wpList_slice_arr rfl 141 (.tmp 3) (.tmp 8) rfl 5 32 g3 0 k _ rfl rfl (by omega) (by omega) Tryz.underlying141 info_u8 ?_; rw [show 32 - k = n by omega, Nat.zero_add]; simp only [Act.put, List.setIfInBounds_toArray, List.set_cons_zero, List.set_cons_succ])
    | (refine wpList_copyn rfl (.tmp 9) (.tmp 10) rfl g3 k g o n cap b HB.out rfl rfl (range_be HR.out B1.out) (R2.out.there k n (by rw [vB_length, List.length_replicate]; omega)) ?_; intro X3 q1; have E3 : Hid (X3 = X2.setCells g3 k (vB b)) := q1; clear q1; simp only [Act.put, List.setIfInBounds_toArray, List.set_cons_zero, List.set_cons_succ]))
  have hN : g2 ≠ g3 := by rw [HG3.out]; omega
  have R3 : Hid (Row X3 g3 (vU (zb b)) 141) := by rw [E3.out]; exact nb_row g3 b X2 n k HB.out hk R2.out
  replace R1 : Hid (Row X3 g2 zW 37) := by rw [E3.out]; exact Row.setCells_other R1.out _ _ _ hN
  replace B1 : Hid (Below w.heap.size w X3) := by rw [E3.out]; exact below_setCells B1.out (by rw [HG3.out, HG2.out]; omega) _
  have HRD : Hid _ := read_z b (by rw [HB.out]; exact h32) g3 32 X3 (by_row R3.out)
  have HI : Hid ((Tryz.prog.info? 37).map (·.size) = some L.length) := by show _ = _; rw [HL.out]; exact info_Wq _
  have HN4 : Hid (L.length = zW.length) := by show _ = _; rw [HL.out]; exact wq_len _
  have HO : Hid (L.toArray.all (·.oneCell') = true) := by show _ = _; rw [HL.out]; exact wq_one _
  rw [← HL.out] at HRD
  clear hN E3 R2 HR HB hk
  go_wp2_with (first
    | (refine wpList_slice_arr0 rfl 141 (.tmp 3) rfl 5 32 g3 0 rfl Tryz.underlying141 info_u8 ?_; simp only [Act.put, List.setIfInBounds_toArray, List.set_cons_zero, List.set_cons_succ])
    | (go_at_call 99; refine Calls.mono HRD.out ?_; rintro e X4 ⟨rfl, q2⟩; have R4 : Hid (Row X4 g2 zW 37) := Row.below R1.out q2 R1.out.lt; have B4 : Hid (Below w.heap.size w X4) := B1.out.trans (q2.mono B1.out.size); clear q2 R1 B1 R3)
    | (refine wpList_allocW rfl rfl ?_; intro X5 q1 q2 q3; have R5 : Hid (Row X5 X4.heap.size zW 37) := q1; have B5 : Hid (Below X4.heap.size X4 X5) := q2; clear q1 q2 q3; simp only [Act.put, List.setIfInBounds_toArray, List.set_cons_zero, List.set_cons_succ])
    | (refine wpList_storeL rfl 37 (.tmp 4) (.tmp 15) rfl X4.heap.size L zW 37 rfl rfl R5.out HN4.out HI.out HO.out ?_; intro X6 q1 q2; have E6 : Hid (X6 = _) := q1; have R6 : Hid (Row X6 X4.heap.size L 37) := q2; clear q1 q2; simp only [Act.put])
    | (refine wpList_load_w rfl 37 (.tmp 4) rfl X4.heap.size 0 rfl L _ R6.out.all Tryz.underlying37 rfl HI.out ?_; simp only [Act.put, List.setIfInBounds_toArray, List.set_cons_zero, List.set_cons_succ])
    | (refine wpList_storeL rfl 37 (.tmp 2) (.tmp 17) rfl g2 L zW 37 rfl rfl (by rw [E6.out]; exact Row.setCells_other (Row.below R4.out B5.out R4.out.lt) _ _ _ (Nat.ne_of_lt R4.out.lt)) HN4.out HI.out HO.out ?_; intro X7 q1 q2; have E7 : Hid (X7 = _) := q1; have R7 : Hid (Row X7 g2 L 37) := q2; clear q1 q2; simp only [Act.put]))
  have B7 : Below w.heap.size w X7 := by rw [E7.out, E6.out]; exact below_setCells (below_setCells (B4.out.trans (B5.out.mono B4.out.size)) B4.out.size _) (by rw [HG2.out]; exact Nat.le_refl _) _
  exact bodyPost_ret (results_rowA Tryz.results78 _ _ g2 37 L rfl R7.out Tryz.underlying37 HI.out) rfl ⟨by rw [← HL.out], B7⟩

end Go.Proofs.YtclbiophgnkggaaGreatDoor
