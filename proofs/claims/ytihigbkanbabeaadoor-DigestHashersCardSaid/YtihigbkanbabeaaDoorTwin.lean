/-
  Len, Copy, twin; rows of new bytes.
-/
import Derived.Test.YtihigbkanbabeaaDoorBits
namespace Go.Proofs.YtihigbkanbabeaaDoor
open Go Go.RowKit
open Sha

set_option maxHeartbeats 400000 in
theorem len_any (bs : List (BitVec 8)) (b : Nat) (w : World) (hH : HAt w b bs) :
    Calls Tryd.prog 31 #[.pointer (some ⟨b, 0, none⟩)] w fun e w' => e = .returned (.int .i64 (bs.length : Int)) ∧ w' = w := by
  have g := Row.cell hH 72 _ (hcells_taken _ _ _ (hwait_length _))
  clear hH
  go_enter Tryd.func31, Tryd.ntmps31
  go_wp2
  go_ret
  exact ⟨rfl, rfl⟩

set_option maxRecDepth 100000 in
set_option maxHeartbeats 1000000 in
theorem copy_any (bs : List (BitVec 8)) (b : Nat) (w : World) (hH : HAt w b bs) :
    Calls Tryd.prog 33 #[.pointer (some ⟨b, 0, none⟩)] w fun e w' => ∃ b', e = .returned (.pointer (some ⟨b', 0, none⟩)) ∧ w.heap.size ≤ b' ∧ HAt w' b' bs ∧ Below w.heap.size w w' := by
  unfold HAt at hH
  have hl := hcells_length (hst bs) (hwait bs) bs.length (hwait_length _)
  have h1 : ∀ v ∈ hcells (hst bs) (hwait bs) bs.length, v.oneCell' = true := by
    intro v hv; unfold hcells at hv
    simp only [List.mem_append, List.mem_singleton] at hv
    rcases hv with (hv | hv) | hv
    · exact vW_one _ v hv
    · exact vB_one _ v hv
    · rw [hv]; rfl
  obtain ⟨cs, hcs⟩ : ∃ cs, cs = hcells (hst bs) (hwait bs) bs.length := ⟨_, rfl⟩
  rw [← hcs] at hH hl h1
  have HC : Hid (cs = hcells (hst bs) (hwait bs) bs.length) := hcs
  have hi : (Tryd.prog.info? 61).map (·.size) = some cs.length := by rw [info_hasher, hl]
  have hi' : (Tryd.prog.info? 61).map (·.size) = some cs.toArray.size := by rw [info_hasher]; simp [hl]
  have HL : Hid (cs.length = 73) := hl
  have hz := (zero_of_info zero_hasher).1
  clear hcs hl
  go_enter Tryd.func33, Tryd.ntmps33
  go_wp2_with (first
    | (refine wpList_load_mid rfl 61 (.tmp 5) rfl b 0 rfl cs _ hH.all Tryd.underlying61 rfl hi ?_; simp only [Act.put, List.setIfInBounds_toArray, List.set_cons_zero, List.set_cons_succ])
    | (refine wpList_store_mid rfl 61 (.tmp 3) (.tmp 6) rfl w.heap.size 0 cs.toArray rfl rfl (Row.there (Row.new' (cs := hcells ⟨0, 0, 0, 0, 0, 0, 0, 0⟩ noughts 0) rfl (by kernel_rfl)) 0 _ (by rw [hcells_length _ _ _ rfl]; simp [HL.out])) hi' (all_oneCell_toArray h1) ?_; simp only [Act.put]; (change wpList _ _ _ _ _ (World.setCells (w.alloc (Obj.cells (hcells ⟨0, 0, 0, 0, 0, 0, 0, 0⟩ noughts 0).toArray 61)) w.heap.size 0 cs))))
  go_ret
  refine ⟨w.heap.size, rfl, Nat.le_refl _, ?_, below_setCells ((Below.refl _ _).alloc (Nat.le_refl _) _) (Nat.le_refl _) _⟩
  unfold HAt
  rw [← HC.out]
  exact Row.over (Row.new _ _ _) (by rw [HL.out]; exact (hcells_length _ _ _ rfl).symm)

/-- v is a slice over a new row of its own that holds d. -/
def New (w : World) (N : Nat) (v : Value) (d : List (BitVec 8)) : Prop := ∃ g, v = .slice (some ⟨g, 0, none⟩) d.length d.length ∧ N ≤ g ∧ Row w g (vB d) 5
theorem New.slAt {w : World} {N : Nat} {v : Value} {d : List (BitVec 8)} (h : New w N v d) : SlAt w v d := by
  obtain ⟨g, rfl, _, hr⟩ := h
  exact .inr ⟨g, 0, d.length, rfl, Nat.le_refl _, hr.all⟩
theorem New.below {B N : Nat} {w w' : World} {v : Value} {d : List (BitVec 8)} (h : New w N v d) (k : Below B w w') (hB : w.heap.size ≤ B) : New w' N v d := by
  obtain ⟨g, hv, hn, hr⟩ := h
  exact ⟨g, hv, hn, hr.below k (Nat.lt_of_lt_of_le hr.lt hB)⟩
theorem Row.ne {w : World} {b c : Nat} {cs ds : List Value} {t u : TypeId} (h : Row w b cs t) (k : Row w c ds u) (htu : t ≠ u) : b ≠ c := fun e => by
  subst e
  have := h.symm.trans k
  simp at this
  exact htu this.2
theorem New.but {N b : Nat} {w w' : World} {v : Value} {d : List (BitVec 8)} {cs : List Value} {t : TypeId} (h : New w N v d) (k : But b w w') (hb : Row w b cs t) (ht : 5 ≠ t) : New w' N v d := by
  obtain ⟨g, hv, hn, hr⟩ := h
  exact ⟨g, hv, hn, hr.but k (hr.ne hb ht)⟩

theorem info_all_u8 : (Tryd.prog.info? 5).map (fun i => (i.zero, i.size, i.bytes)) = some (some (.int .u8 0), 1, 1) := by kernel_rfl

theorem made_bytes (n : Nat) : madeCells (Value.int IntKind.u8 0).cells (n * 1) = (vB (List.replicate n 0#8)).toArray := by
  apply Array.ext'
  rw [show (Value.int IntKind.u8 0).cells = #[Value.int IntKind.u8 0] from rfl, toList_madeCells_one]
  simp [vB, c]

section
variable {P : Program} {ops : Array Oper} {rest : List Oper} {op : Oper} {a : Act} {w : World} {Q : Exit → Act → World → Prop}
/-- make of n bytes. -/
theorem wpList_make1 (hgd : op.guard = none) (t : TypeId) (x y : Operand) (ho : op.op = .makeSlice t x y) (e : TypeId) (n : Nat) (l l' : Int) (hl : l = (n : Int)) (hl' : l' = (n : Int)) (hx : a.eval x = .int .i64 l) (hy : a.eval y = .int .i64 l') (hn : n ≤ 281474976710656)
    (hu : P.underlying t = some (.slice e)) (hi : (P.info? e).map (fun i => (i.zero, i.size, i.bytes)) = some (some (.int .u8 0), 1, 1))
    (h : wpList P ops Q rest (a.put op.dst (.slice (some ⟨w.heap.size, 0, none⟩) n n)) (w.alloc (.cells (vB (List.replicate n 0#8)).toArray e))) : wpList P ops Q (op :: rest) a w :=
  wpList_plain hgd fun _ hK => by
    subst hl; subst hl'
    obtain ⟨i, hi0, hz, hs, hb⟩ := info_parts hi
    have hr := run_make (P := P) w t e i (.int .u8 0) hu hi0 hz .i64 .i64 (n : Int) (n : Int) (by omega) (by omega) (by rw [hb]; omega) (by omega)
    rw [hs, Int.toNat_natCast, made_bytes] at hr
    unfold Oper.wp execOp
    simp only [ho, hx, hy, Sem.run_bind, hr, Result.andThen_ok, Sem.run_pure, Oper.upon_value]
    exact hK _ _ h
theorem wpList_neq_same (hw : Region.wanted op (yielded ops a.tmps) = true) (t : TypeId) (x y : Operand) (yt : TypeId) (ho : op.op = .binOp .neq t x y yt) (e n : Nat) (l : List (BitVec 8)) (hx : a.eval x = .agg (vB l).toArray) (hy : a.eval y = .agg (vB l).toArray)
    (ht : P.underlying t = some (.array n e)) (he : P.underlying e = some (.int .u8)) (hs : (P.info? e).map (·.size) = some 1) (hl : l.length = n) (hm : P.eqGuardType P.depth t = false)
    (h : wpList P ops Q rest (a.put op.dst (.bool false)) w) : wpList P ops Q (op :: rest) a w :=
  BigFrame.wpList_want hw fun _ hK => by
    have hsz : ∀ w, (sizeOf e).run P w = .ok 1 w := by
      intro w
      cases hq : P.info? e with
      | none => simp [hq] at hs
      | some i => have h1 : i.size = 1 := by simpa [hq] using hs
                  simp [sizeOf, typeInfo, hq, h1]
    have hr : (binOp .neq t (.agg (vB l).toArray) (.agg (vB l).toArray)).run P w = .ok (.bool false) w := by
      rw [vB_cell, run_neq_struct, run_equalIn_bytes w 9998 t e n ht he hsz (toU l) (toU l) (by rw [toU_length, hl]) (by rw [toU_length, hl])]
      simp
    unfold Oper.wp execOp
    simp only [ho, hx, hy, Sem.run_bind, run_eqGuard_agg w .neq t x y _ _ hm, Result.andThen_ok, hr, Sem.run_pure, Oper.upon_value]
    exact hK _ _ h
/-- copy of bytes into a row as long. -/
theorem wpList_copy_sl (hgd : op.guard = none) (x y : Operand) (dT sT : TypeId) (ho : op.op = .call { callee := .builtin .copy, args := #[x, y], argTypes := #[dT, sT] }) (elem : TypeId) (g n cap : Nat) (v : Value) (d : List (BitVec 8)) (hn : d.length ≤ n)
    (hx : a.eval x = .slice (some ⟨g, 0, none⟩) n cap) (hy : a.eval y = v) (hv : SlAt w v d) (hu : P.underlying dT = some (.slice elem)) (hs : (P.info? elem).map (·.size) = some 1) (ht : w.there g 0 d.length)
    (h : wpList P ops Q rest (a.put op.dst (goInt d.length)) (w.setCells g 0 (vB d))) : wpList P ops Q (op :: rest) a w := by
  rcases hv with ⟨rfl, A, c', rfl⟩ | ⟨ab, ao, c', rfl, hc, hr⟩
  · refine wpList_plain hgd fun _ hK => ?_
    obtain ⟨dst, op', ty, pos, after, guard⟩ := op
    simp only at hgd ho
    subst hgd; subst ho
    have hr := run_copy_none (P := P) w dT sT ty elem (some ⟨g, 0, none⟩) A n cap 0 c' hu hs (by simp)
    unfold Oper.wp
    rw [BigFrame.execOp_builtin, BigFrame.builtin_copy]
    simp only [List.map_toArray, List.map_cons, List.map_nil, hx, hy, Sem.run_bind, hr, Result.andThen_ok, Sem.run_pure, Oper.upon_value]
    exact hK _ _ h
  · refine wpList_copy' hgd x y dT sT ho elem g 0 n cap ⟨ab, ao, none⟩ d.length c' (vB d) hx hy hu hs (by rw [vB_length]; exact (Nat.min_eq_left hn).symm) (fun j v hj => by rw [Addr.add_mid]; exact hr j v hj) (by rw [vB_length]; exact ht) (vB_one d) ?_
    rw [vB_length]; exact h
end

set_option maxRecDepth 100000 in
set_option maxHeartbeats 1000000 in
theorem twin_any (d : List (BitVec 8)) (hd : d.length ≤ 140737488355328) (A : Option Addr) (cap : Nat) (w : World) (hv : SlAt w (.slice A d.length cap) d) :
    Calls Tryd.prog 23 #[.slice A d.length cap] w fun e w' => (∃ v, e = .returned v ∧ New w' w.heap.size v d) ∧ Below w.heap.size w w' := by
  have hv1 : ∀ o, SlAt (w.alloc o) (.slice A d.length cap) d := fun o => hv.below ((Below.refl _ _).alloc (Nat.le_refl _) _) (Nat.le_refl _)
  have HV : Hid _ := hv1
  clear hv1
  go_enter Tryd.func23, Tryd.ntmps23
  go_wp2_with (first
    | (refine wpList_make1 rfl 22 (.tmp 5) (.tmp 5) rfl 5 d.length _ _ rfl rfl rfl rfl (by omega) Tryd.underlying22 info_all_u8 ?_; simp only [Act.put, List.setIfInBounds_toArray, List.set_cons_zero, List.set_cons_succ])
    | (refine wpList_copy_sl rfl (.tmp 7) (.tmp 8) 22 22 rfl 5 w.heap.size d.length d.length (.slice A d.length cap) d (Nat.le_refl _) rfl rfl (HV.out _) Tryd.underlying22 info_u8 (Row.there (Row.new w (vB (List.replicate d.length 0#8)) 5) 0 _ (by simp [vB_length])) ?_; simp only [Act.put, List.setIfInBounds_toArray, List.set_cons_zero, List.set_cons_succ]))
  go_ret
  exact ⟨⟨_, rfl, w.heap.size, rfl, Nat.le_refl _, Row.over (Row.new _ _ _) (by simp [vB_length])⟩, below_setCells ((Below.refl _ _).alloc (Nat.le_refl _) _) (Nat.le_refl _) _⟩

end Go.Proofs.YtihigbkanbabeaaDoor
