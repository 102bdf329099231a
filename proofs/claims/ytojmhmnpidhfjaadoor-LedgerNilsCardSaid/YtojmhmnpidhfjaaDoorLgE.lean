/-
  keys of token 5; open, running, paused.
-/
import Derived.Test.YtojmhmnpidhfjaaDoorLgD
import Derived.Deep.CutRange
import Derived.Great.BuildSlice
namespace Go.Proofs.YtojmhmnpidhfjaaDoor
open Go Go.RowKit Go.Maps
open Sha
open Wd

theorem results_rowS {P : Program} {fn : Func} {p : Tmp} {ty : TypeId} {fs : Array Field} (h : fn.results = #[.cell p ty]) (tmps : Array Value) (w : World) (g : Nat) (t : TypeId) (cs : List Value)
    (hp : tmps.getD p undef = .pointer (some ⟨g, 0, none⟩)) (hg : Row w g cs t) (hu : P.underlying ty = some (.struct fs)) (hi : (P.info? ty).map (·.size) = some cs.length) :
    (results fn tmps).run P w = .ok (.agg cs.toArray) w :=
  results_cell_row h tmps w g t cs.toArray (0, 0) _ hp hg hu rfl (by simp [hi])
theorem results_rowS_tmp {P : Program} {fn : Func} {p q : Tmp} {ty : TypeId} {fs : Array Field} (h : fn.results = #[.cell p ty, .tmp q]) (tmps : Array Value) (w : World) (g : Nat) (t : TypeId) (cs : List Value) (v : Value)
    (hp : tmps.getD p undef = .pointer (some ⟨g, 0, none⟩)) (hv : tmps.getD q undef = v) (hg : Row w g cs t) (hu : P.underlying ty = some (.struct fs)) (hi : (P.info? ty).map (·.size) = some cs.length) :
    (results fn tmps).run P w = .ok (.tuple #[.agg cs.toArray, v]) w := by
  have hp' : tmps[p]?.getD undef = .pointer (some ⟨g, 0, none⟩) := by simpa using hp
  have hv' : tmps[q]?.getD undef = v := by simpa using hv
  have hr := run_loadVar_row (P := P) w g t ty cs.toArray (0, 0) (.struct fs) hg hu rfl (by simp [hi])
  simp [results, h, hp', hv', asAddr, hr]
theorem info_all_A : (Tryd.prog.info? 23).map (fun i => (i.size, i.bytes)) = some (20, 20) := by kernel_rfl
theorem info_zero_A : ((Tryd.prog.info? 23).bind (·.zero)).map (·.cells.size) = some 20 := by kernel_rfl
theorem info_A_open : ∃ ie z, Tryd.prog.info? 23 = some ie ∧ ie.zero = some z ∧ ie.size = 20 ∧ ie.bytes = 20 ∧ z.cells.size = 20 := by
  have i1 := info_all_A
  have i2 := info_zero_A
  cases hi : Tryd.prog.info? 23 with
  | none => rw [hi] at i1; cases i1
  | some ie =>
    rw [hi] at i1 i2
    cases hz : ie.zero with
    | none => simp [hz] at i2
    | some z =>
      have i3 : ie.size = 20 ∧ ie.bytes = 20 := by simpa using i1
      exact ⟨ie, z, rfl, hz, i3.1, i3.2, by simpa [hz] using i2⟩

/-- One part of s cells, laid into s cells. -/
theorem fill_one (s : Nat) (hs : 0 < s) (c cells : Array Value) (hc : c.size = s) (hn : cells.size = s) : Instr.fill (fun i => some (i * s, s)) cells [(0, .agg c)] = some c := by
  obtain ⟨r, hr, hsz, hk⟩ := Great.fill_dense (s := s) hs [.agg c] 0 cells (fun v hv => by obtain rfl := List.mem_singleton.1 hv; exact hc) (by simp; omega)
  have hr' : Instr.fill (fun i => some (i * s, s)) cells [(0, .agg c)] = some r := hr
  rw [hr']
  congr 1
  apply Array.ext_getElem?
  intro k
  rw [hk k]
  by_cases hlt : k < s
  · rw [if_pos (by simp; omega), Nat.div_eq_of_lt hlt, Nat.mod_eq_of_lt hlt]
    rfl
  · rw [if_neg (by simp; omega), Array.getElem?_eq_none (by omega), Array.getElem?_eq_none (by omega)]

section
variable {Q : Exit → Act → World → Prop} {o : Oper} {a : Act} {w : World} {K : Act → World → Prop}
theorem wp_build_A (x : Operand) (ho : o.op = .buildSlice 121 1 #[(0, x)]) (r : List (BitVec 8)) (hr : r.length = 20) (hx : a.eval x = .agg (vB r).toArray)
    (h : K (a.put o.dst (.slice (some ⟨w.heap.size, 0, none⟩) 1 1)) (w.alloc (.cells (vB r).toArray 23))) : Oper.wp Tryd.prog o a w K Q := by
  obtain ⟨ie, z, h1, h2, h3, _, h4⟩ := info_A_open
  refine wp_buildSlice 121 23 1 _ ho _ ie z Tryd.underlying121 h1 h2 (by rw [h3]; decide) (by rw [h3]; decide) ?_ h
  rw [show (Array.map (fun (p : Nat × Operand) => match p with | (i, x) => (i, a.eval x)) #[(0, x)]).toList = [(0, a.eval x)] by simp, hx, h3]
  exact fill_one 20 (by decide) _ _ (by simp [vB_length, hr]) (by simp)
end
section
variable {ops : Array Oper} {rest : List Oper} {o : Oper} {a : Act} {w : World} {Q : Exit → Act → World → Prop}
theorem wpList_build_A (hgd : o.guard = none) (x : Operand) (ho : o.op = .buildSlice 121 1 #[(0, x)]) (r : List (BitVec 8)) (hr : r.length = 20) (hx : a.eval x = .agg (vB r).toArray)
    (h : wpList Tryd.prog ops Q rest (a.put o.dst (.slice (some ⟨w.heap.size, 0, none⟩) 1 1)) (w.alloc (.cells (vB r).toArray 23))) : wpList Tryd.prog ops Q (o :: rest) a w :=
  wpList_plain hgd fun _ hK => wp_build_A x ho r hr hx (hK _ _ h)
end
/-- Token 5's key. -/
def tK : ByteArray := str [116#8, 5#8]
/-- The key of a balance of token 5. -/
def bK (who : List (BitVec 8)) : ByteArray := str ([98#8, 5#8] ++ who)
theorem kT (S : Nat) (w : World) : Calls Tryd.prog 45 #[.agg #[.pointer (some ⟨S, 0, none⟩), .int .u8 5], .string ⟨#[116]⟩, .slice none 0 0] w fun e w' => e = .returned (.string tK) ∧ Below w.heap.size w w' := key0 S 5#8 116 116#8 rfl _ rfl w
theorem kB (S : Nat) (who : List (BitVec 8)) (hw : who.length = 20) (q : Nat) (w : World) (hq : Row w q (vB who) 23) : Calls Tryd.prog 45 #[.agg #[.pointer (some ⟨S, 0, none⟩), .int .u8 5], .string ⟨#[98]⟩, .slice (some ⟨q, 0, none⟩) 1 1] w fun e w' => e = .returned (.string (bK who)) ∧ Below w.heap.size w w' := key1 S 5#8 98 98#8 rfl who hw q _ rfl w hq
set_option maxRecDepth 100000 in
theorem bkey (S : Nat) (who : List (BitVec 8)) (hw : who.length = 20) (w : World) : Calls Tryd.prog 30 #[.agg #[.pointer (some ⟨S, 0, none⟩), .int .u8 5], .agg (vB who).toArray] w fun e w' => e = .returned (.string (bK who)) ∧ Below w.heap.size w w' := by
  have HK : Hid (∀ q w, Row w q (vB who) 23 → _) := fun q w hq => kB S who hw q w hq
  have HWL : Hid (who.length = 20) := hw
  have HIA : Hid ((Tryd.prog.info? 23).map (·.size) = some (vB who).length) := by show _ = _; rw [vB_length, hw]; kernel_rfl
  obtain ⟨W1, hW1, bW1⟩ : ∃ W, W = (w.alloc (Obj.cells #[.pointer (some ⟨S, 0, none⟩), .int .u8 5] 61)) ∧ Below w.heap.size w W := ⟨_, rfl, (Below.refl _ _).alloc (Nat.le_refl _) _⟩
  have hn1 : W1.heap.size = w.heap.size + 1 := by rw [hW1]; simp
  obtain ⟨W2, hW2, rW2, bW2⟩ : ∃ W, W = W1.alloc (Obj.cells (vB who).toArray 23) ∧ Row W (w.heap.size + 1) (vB who) 23 ∧ Below W1.heap.size W1 W := ⟨_, rfl, Row.new' hn1.symm rfl, (Below.refl _ _).alloc (Nat.le_refl _) _⟩
  have rP : Row W2 w.heap.size [.pointer (some ⟨S, 0, none⟩), .int .u8 5] 61 := by
    have q : Row W1 w.heap.size [.pointer (some ⟨S, 0, none⟩), .int .u8 5] 61 := by rw [hW1]; exact Row.new' rfl rfl
    exact Row.below q bW2 q.lt
  have p0 := rP.cell 0 _ rfl
  have p1 := rP.cell 1 _ rfl
  have HR : Hid (W2.rangeAt (w.heap.size + 1) 0 (vB who)) := rW2.all
  have HB : Hid (Below w.heap.size w W2) := bW1.trans (bW2.mono bW1.size)
  have HW1 : Hid (W1 = _) := hW1
  have HW2 : Hid (W2 = _) := hW2
  clear hW1 hW2 bW1 bW2 rW2 rP hn1 hw
  go_enter Tryd.func30, Tryd.ntmps30
  go_upto_region 1 with fail
  rw [← HW1.out, ← HW2.out]
  go_wp2_with (first
    | (refine wpList_load_w rfl 23 (.tmp 3) rfl (w.heap.size + 1) 0 rfl (vB who) _ HR.out Tryd.underlying23 rfl HIA.out ?_; simp only [Act.put, List.setIfInBounds_toArray, List.set_cons_zero, List.set_cons_succ])
    | (refine wpList_build_A rfl (.tmp 6) rfl who HWL.out rfl ?_; simp only [Act.put, List.setIfInBounds_toArray, List.set_cons_zero, List.set_cons_succ]))
  refine Calls.mono (HK.out _ _ (Row.new' rfl rfl)) ?_
  rintro e V ⟨rfl, hB⟩
  replace HB : Hid (Below w.heap.size w V) := (HB.out.alloc HB.out.size _).trans (hB.mono (HB.out.alloc HB.out.size _).size)
  clear hB HK
  go_wp2_with fail
  go_ret
  exact ⟨rfl, HB.out⟩
theorem info_tok : (Tryd.prog.info? 33).map (·.size) = some 6 := by kernel_rfl
set_option maxRecDepth 100000 in
theorem open_nil (tk : Int) (w : World) : Calls Tryd.prog 34 #[.pointer none, .int .i64 tk] w fun e w' => e = .returned (.tuple #[.agg #[.pointer none, .int .u8 0], .int .i64 1]) ∧ Below w.heap.size w w' := by
  go_enter Tryd.func34, Tryd.ntmps34
  go_wp2
  exact bodyPost_ret (results_rowS_tmp Tryd.results34 _ _ w.heap.size 61 [.pointer none, .int .u8 0] (.int .i64 1) rfl rfl (Row.new' rfl rfl) Tryd.underlying61 info_pg) rfl ⟨rfl, (Below.refl _ _).alloc (Nat.le_refl _) _⟩
set_option maxRecDepth 100000 in
theorem open_5 (S : Nat) (w : World) : Calls Tryd.prog 34 #[.pointer (some ⟨S, 0, none⟩), .int .i64 5] w fun e w' => e = .returned (.tuple #[.agg #[.pointer (some ⟨S, 0, none⟩), .int .u8 5], .int .i64 0]) ∧ Below w.heap.size w w' := by
  go_enter Tryd.func34, Tryd.ntmps34
  go_wp2
  exact bodyPost_ret (results_rowS_tmp Tryd.results34 _ _ w.heap.size 61 [.pointer (some ⟨S, 0, none⟩), .int .u8 5] (.int .i64 0) rfl rfl (Row.new' rfl rfl) Tryd.underlying61 info_pg) rfl ⟨rfl, (Below.refl _ _).alloc (Nat.le_refl _) _⟩
set_option maxRecDepth 100000 in
theorem running_any (th pa : Bool) (n : Int) (w : World) : Calls Tryd.prog 26 #[.agg #[.bool th, .bool pa, .int .u64 n, .int .u64 0, .int .u64 0, .int .u64 0]] w fun e w' => e = .returned (.agg #[.bool true, .bool false, .int .u64 n, .int .u64 0, .int .u64 0, .int .u64 0]) ∧ Below w.heap.size w w' := by
  go_enter Tryd.func26, Tryd.ntmps26
  go_wp2
  exact bodyPost_ret (results_rowS Tryd.results26 _ _ (w.heap.size + 1) 33 [.bool true, .bool false, .int .u64 n, .int .u64 0, .int .u64 0, .int .u64 0] rfl (Row.new' (by simp) rfl) Tryd.underlying33 info_tok) rfl ⟨rfl, ((Below.refl _ _).alloc (Nat.le_refl _) _).alloc (by simp) _⟩
set_option maxRecDepth 100000 in
theorem paused_any (th pa : Bool) (n : Int) (w : World) : Calls Tryd.prog 36 #[.agg #[.bool th, .bool pa, .int .u64 n, .int .u64 0, .int .u64 0, .int .u64 0]] w fun e w' => e = .returned (.agg #[.bool true, .bool true, .int .u64 n, .int .u64 0, .int .u64 0, .int .u64 0]) ∧ Below w.heap.size w w' := by
  go_enter Tryd.func36, Tryd.ntmps36
  go_wp2
  exact bodyPost_ret (results_rowS Tryd.results36 _ _ (w.heap.size + 1) 33 [.bool true, .bool true, .int .u64 n, .int .u64 0, .int .u64 0, .int .u64 0] rfl (Row.new' (by simp) rfl) Tryd.underlying33 info_tok) rfl ⟨rfl, ((Below.refl _ _).alloc (Nat.le_refl _) _).alloc (by simp) _⟩

end Go.Proofs.YtojmhmnpidhfjaaDoor
