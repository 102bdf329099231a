/-
  The law's lent and kept; a list of digests turned: whatever bytes stand there behind it.
-/
import Derived.Test.YtkgfaioinajkjaaDoorTTxt
import Derived.Laws.BytesArg

namespace Go.Proofs.YtkgfaioinajkjaaDoor
open Go Go.RowKit
open Sha

/-- Bytes as a string. -/
def str (l : List (BitVec 8)) : ByteArray := strOfNums (l.map c)
theorem run_convert_str {P : Program} (w : World) (src e dst : TypeId) (hs : P.underlying src = some (.slice e)) (he : P.underlying e = some (.int .u8)) (hd : P.underlying dst = some .string) (b off cap n : Nat) (l : List (BitVec 8)) (hl : l.length = n)
    (hr : w.rangeAt b off (vB l)) : (convert src dst (.slice (some ⟨b, off, none⟩) n cap)).run P w = .ok (.string (str l)) w :=
  run_convert_bytes_arg w src e hs he b off n cap (l.map c) (by simpa using hl) (fun i hi => hr i _ (by rw [vB_get l i (by omega)]; simp [show i < l.length by omega])) dst hd
theorem run_convert_sl {P : Program} (w : World) (src e dst : TypeId) (hs : P.underlying src = some (.slice e)) (he : P.underlying e = some (.int .u8)) (hd : P.underlying dst = some .string) (v : Value) (d : List (BitVec 8)) (hv : SlAt w v d) :
    (convert src dst v).run P w = .ok (.string (str d)) w := by
  rcases hv with ⟨rfl, A, cap, rfl⟩ | ⟨ab, ao, cap, rfl, _, hr⟩
  · cases A with
    | none =>
      rw [run_convert_bytes_string w src dst e none 0 cap hs he hd]
      simp [Conv.bytesToString]
      rfl
    | some p =>
      have hl : (loadCells p 0).run P w = .ok (([] : List Int).map (Value.int .u8)).toArray w := run_loadCells_list (P := P) w p [] (fun j v hj => by simp at hj)
      rw [run_convert_bytes_string w src dst e _ 0 cap hs he hd, run_bytesToString w _ 0 cap [] hl]
      rfl
  · exact run_convert_str w src e dst hs he hd ab ao cap d.length d rfl hr
theorem str_toList (l : List (BitVec 8)) : (str l).toList = toU l := by
  rw [ByteArray.toList_eq]
  unfold str toU
  rw [strOfNums_data, List.map_map]
  apply List.map_congr_left
  intro x _
  apply UInt8.toNat_inj.1
  have := x.isLt
  unfold c
  simp only [Function.comp_apply, Int.toNat_natCast, UInt8.toNat_ofNat', UInt8.toNat_ofBitVec]
  omega
theorem str_beq (l r : List (BitVec 8)) : ((str l).toList == (str r).toList) = decide (l = r) := by
  rw [str_toList, str_toList, toU_beq]

section
variable {Q : Exit → Act → World → Prop} {o : Oper} {a : Act} {w : World} {K : Act → World → Prop}
theorem wp_conv_s {x : Operand} (ho : o.op = .convert 31 9 x) (d : List (BitVec 8)) (hv : SlAt w (a.eval x) d) (h : K (a.put o.dst (.string (str d))) w) : Oper.wp Tryd.prog o a w K Q := by
  have hr := run_convert_sl (P := Tryd.prog) w 31 5 9 Tryd.underlying31 Tryd.underlying5 Tryd.underlying9 (a.eval x) d hv
  unfold Oper.wp execOp
  simp only [ho, Sem.run_bind, hr, Result.andThen_ok, Sem.run_pure, Oper.upon_value]
  exact h
theorem wp_neqstr_v {x y : Operand} {t yt : TypeId} {u v : ByteArray} {B : Bool} (ho : o.op = .binOp .neq t x y yt) (hx : a.eval x = .string u) (hy : a.eval y = .string v) (hB : (!(u.toList == v.toList)) = B) (h : K (a.put o.dst (.bool B)) w) : Oper.wp Tryd.prog o a w K Q := by
  subst hB
  unfold Oper.wp execOp
  simp only [ho, hx, hy]
  simp [go_sem]
  exact h
theorem wp_eql_d (x y : Operand) (yt : TypeId) (ho : o.op = .binOp .eql 42 x y yt) (l r : List (BitVec 8)) (hl : Dl l) (hr : Dl r) (hx : a.eval x = .agg (vB l).toArray) (hy : a.eval y = .agg (vB r).toArray) (B : Bool) (hB : decide (l = r) = B)
    (h : K (a.put o.dst (.bool B)) w) : Oper.wp Tryd.prog o a w K Q := by
  subst hB
  unfold Oper.wp execOp
  simp only [ho, hx, hy, Sem.run_bind, run_eqGuard_agg w .eql 42 x y _ _ guard_dig, Result.andThen_ok, run_eql_vB w 42 5 32 Tryd.underlying42 Tryd.underlying5 info_u8 l r hl hr, Sem.run_pure, Oper.upon_value]
  exact h
theorem wp_load_1 {P : Program} {ty : TypeId} {x : Operand} (b f : Nat) (v : Value) (ho : o.op = .load ty x) (hx : a.eval x = .pointer (some ⟨b, f, none⟩)) (hr : (loadVar ty ⟨b, f, none⟩).run P w = .ok v w) (h : K (a.put o.dst v) w) : Oper.wp P o a w K Q := by
  unfold Oper.wp execOp
  simp only [ho, hx, Instr.loadAt, Instr.sureAddr, Sem.run_bind, Sem.run_pure, Result.andThen_ok, hr, Oper.upon_value]
  exact h
end
section
variable {ops : Array Oper} {rest : List Oper} {op : Oper} {a : Act} {w : World} {Q : Exit → Act → World → Prop}
theorem wpList_build_d (hgd : op.guard = none) (x : Operand) (ho : op.op = .buildSlice 26 1 #[(0, x)]) (r : List (BitVec 8)) (hr : Dl r) (hx : a.eval x = .agg (vB r).toArray)
    (h : wpList Tryd.prog ops Q rest (a.put op.dst (.slice (some ⟨w.heap.size, 0, none⟩) 1 1)) (w.alloc (.cells (vB r).toArray 42))) : wpList Tryd.prog ops Q (op :: rest) a w :=
  wpList_plain hgd fun _ hK => wp_build_d x ho r hr hx (hK _ _ h)
theorem wpList_append_d (hgd : op.guard = none) (s x : Operand) (ho : op.op = .call { callee := .builtin .append, args := #[s, x], argTypes := #[26, 26] }) (M N n : Nat) (v : Value) (l : List Value) (r : List (BitVec 8)) (hr0 : Dl r)
    (hown : w.ownsRow M 42 32 v n l) (hs : a.eval s = v) (hx : a.eval x = .slice (some ⟨N, 0, none⟩) 1 1) (hN : Row w N (vB r) 42) (hk : (n + 1) * 32 ≤ 140737488355328) (hM : M ≤ w.heap.size)
    (h : ∀ v' w', w'.ownsRow M 42 32 v' (n + 1) (l ++ vB r) → w.grownBy w' v.ownBlock → wpList Tryd.prog ops Q rest (a.put op.dst v') w') : wpList Tryd.prog ops Q (op :: rest) a w :=
  wpList_plain hgd fun _ hK => wp_append_d s x ho M N n v l r hr0 hown hs hx hN hk hM fun v' w' h1 h2 => hK _ _ (h v' w' h1 h2)
end

end Go.Proofs.YtkgfaioinajkjaaDoor

namespace Go.Proofs.YtkgfaioinajkjaaDoor
open Go Go.RowKit
open Sha

theorem c_xor1 (x : BitVec 8) : bits BinOp.xor IntKind.u8 (c x) 1 = c (x ^^^ 1#8) := by
  revert x; decide
theorem c_xor165 (x : BitVec 8) : bits BinOp.xor IntKind.u8 (c x) 165 = c (x ^^^ 165#8) := by
  revert x; decide

def marks70 : List (BitVec 8) := List.replicate 70 201#8
theorem lent_start (d : List (BitVec 8)) : (vB (List.replicate (d.length + 70) 0#8)).take 0 ++ vB d ++ (vB (List.replicate (d.length + 70) 0#8)).drop (0 + (vB d).length) = vB (d ++ (List.replicate 0 201#8 ++ List.replicate (70 - 0) 0#8)) := by
  simp [vB]
theorem lent_fill (d : List (BitVec 8)) (t : Nat) (h : t < 70) : (d ++ (List.replicate t 201#8 ++ List.replicate (70 - t) 0#8)).set (d.length + t) 201#8 = d ++ (List.replicate (t + 1) 201#8 ++ List.replicate (70 - (t + 1)) 0#8) := by
  rw [List.set_append_right _ _ (by omega), List.set_append_right _ _ (by simp), show 70 - t = (70 - (t + 1)) + 1 by omega, List.replicate_succ (n := 70 - (t + 1))]
  simp [List.replicate_succ' (n := t)]

set_option maxRecDepth 100000 in
set_option maxHeartbeats 1000000 in
theorem lent_any (d : List (BitVec 8)) (n : Nat) (hdn : d.length = n) (hd : n ≤ 140737488351232) (A : Option Addr) (cap : Nat) (w : World) (hv : SlAt w (.slice A n cap) d) :
    Calls Tryd.prog 7 #[.slice A n cap] w fun e w' => e = .returned (.slice (some ⟨w.heap.size, 0, none⟩) (n + 70) (n + 70)) ∧ Row w' w.heap.size (vB (d ++ marks70)) 5 ∧ Below w.heap.size w w' := by
  subst hdn
  have hv1 : ∀ o, SlAt (w.alloc o) (.slice A d.length cap) d := fun o => hv.below ((Below.refl _ _).alloc (Nat.le_refl _) _) (Nat.le_refl _)
  have HV : Hid _ := hv1
  clear hv1 hv
  go_enter Tryd.func7, Tryd.ntmps7
  go_wp2_with (first
    | (refine wpList_make1 rfl 31 (.tmp 7) (.tmp 7) rfl 5 (d.length + 70) _ _ (by omega) (by omega) rfl rfl (by omega) Tryd.underlying31 info_all_u8 ?_; simp only [Act.put, List.setIfInBounds_toArray, List.set_cons_zero, List.set_cons_succ])
    | (refine wpList_copy_sl rfl (.tmp 9) (.tmp 10) 31 31 rfl 5 w.heap.size (d.length + 70) (d.length + 70) (.slice A d.length cap) d (by omega) rfl rfl (HV.out _) Tryd.underlying31 info_u8 (Row.there (Row.new w (vB (List.replicate (d.length + 70) 0#8)) 5) 0 _ (by simp [vB_length])) ?_; simp only [Act.put, List.setIfInBounds_toArray, List.set_cons_zero, List.set_cons_succ]))
  obtain ⟨W1, hW1⟩ : ∃ W1, W1 = World.setCells (w.alloc (Obj.cells (vB (List.replicate (d.length + 70) 0#8)).toArray 5)) w.heap.size 0 (vB d) := ⟨_, rfl⟩
  have hB1 : Below w.heap.size w W1 := by rw [hW1]; exact below_setCells ((Below.refl _ _).alloc (Nat.le_refl _) _) (Nat.le_refl _) _
  have hr1 : Row W1 w.heap.size (vB (d ++ (List.replicate 0 201#8 ++ List.replicate (70 - 0) 0#8))) 5 := by
    have := Row.setCells 0 (vB d) (Row.new w (vB (List.replicate (d.length + 70) 0#8)) 5) (by simp [vB_length])
    rw [lent_start, ← hW1] at this; exact this
  rw [← hW1]
  clear hW1 HV
  go_loopw [4] (fun i wr => ∃ t : Nat, t ≤ 70 ∧ i = .int .i64 ((d.length : Int) + t) ∧ Below w.heap.size w wr ∧ Row wr w.heap.size (vB (d ++ (List.replicate t 201#8 ++ List.replicate (70 - t) 0#8))) 5)
    (fun i _ => d.length + 70 - (intOf i).toNat)
  case atStart => exact ⟨0, by omega, by simp, hB1, hr1⟩
  case round =>
    clear hB1 hr1
    obtain ⟨t, ht, rfl, hb, hr⟩ := hrel
    by_cases hlt : t < 70
    · have g := hr.cell (d.length + t) _ (vB_get _ (d.length + t) (by simp; omega))
      have gf := hr.thaw (d.length + t)
      generalize (d ++ (List.replicate t 201#8 ++ List.replicate (70 - t) 0#8)).getD (d.length + t) 0 = x at g
      go_wp2
      refine ⟨⟨t + 1, by omega, by go_num, hb.setCell (by simp) _, ?_⟩, by simp [intOf]; omega⟩
      have := hr.set (d.length + t) (.int .u8 (c 201#8))
      rw [vB_set, lent_fill d t hlt] at this
      exact this
    · obtain rfl : t = 70 := by omega
      go_wp2
      go_ret
      refine ⟨rfl, ?_, hb⟩
      simpa [marks70] using hr

theorem kept_get (d : List (BitVec 8)) (t : Nat) (h : t < 70) : (d ++ marks70).getD (d.length + t) 0 = 201#8 := by
  unfold marks70
  rw [List.getD_eq_getElem?_getD, List.getElem?_append_right (by omega), List.getElem?_replicate, if_pos (by omega)]; rfl

set_option maxRecDepth 100000 in
set_option maxHeartbeats 1000000 in
theorem kept_any (d : List (BitVec 8)) (n : Nat) (hdn : d.length = n) (hd : n ≤ 140737488351232) (g : Nat) (A : Option Addr) (cap : Nat) (w : World) (hr : Row w g (vB (d ++ marks70)) 5) (hv : SlAt w (.slice A n cap) d) :
    Calls Tryd.prog 9 #[.slice (some ⟨g, 0, none⟩) (n + 70) (n + 70), .slice A n cap] w fun e w' => e = .returned (.bool true) ∧ Below w.heap.size w w' := by
  subst hdn
  have HV : Hid _ := hv
  have hs : SlAt w (.slice (some ⟨g, 0, none⟩) d.length (d.length + 70)) d := .inr ⟨g, 0, d.length + 70, rfl, by omega, fun j v hj => hr.all j v (by rw [vB_append, List.getElem?_append_left (List.getElem?_eq_some_iff.1 hj).1]; exact hj)⟩
  have HS : Hid _ := hs
  clear hv hs
  go_enter Tryd.func9, Tryd.ntmps9
  go_wp2
  go_loopw [5] (fun i wr => ∃ t : Nat, t ≤ 70 ∧ i = .int .i64 ((d.length : Int) + t) ∧ wr = w)
    (fun i _ => d.length + 70 - (intOf i).toNat)
  case atStart => exact ⟨0, by omega, by simp, rfl⟩
  case round =>
    obtain ⟨t, ht, rfl, rfl⟩ := hrel
    by_cases hlt : t < 70
    · have g0 := hr.cell (d.length + t) _ (vB_get _ (d.length + t) (by simp [marks70]; omega))
      rw [kept_get d t hlt, show c 201#8 = 201 from rfl] at g0
      clear hr
      go_wp2
      exact ⟨⟨t + 1, by omega, by go_num, trivial⟩, by simp [intOf]; omega⟩
    · obtain rfl : t = 70 := by omega
      clear hr
      have k1 := fun (W : World) (h : SlAt W (.slice A d.length cap) d) => run_convert_sl (P := Tryd.prog) W 31 5 9 Tryd.underlying31 Tryd.underlying5 Tryd.underlying9 _ d h
      have k2 := run_convert_sl (P := Tryd.prog) wr.drew 31 5 9 Tryd.underlying31 Tryd.underlying5 Tryd.underlying9 _ d HS.out
      replace k1 := k1 wr.drew HV.out
      have hst : ((str d).toList == (str d).toList) = true := by simp
      generalize str d = s at k1 k2 hst
      go_wp2_with fail
      go_region
      go_wp2
      go_ret
      exact ⟨rfl, Below.drew (Below.refl _ _)⟩

end Go.Proofs.YtkgfaioinajkjaaDoor
