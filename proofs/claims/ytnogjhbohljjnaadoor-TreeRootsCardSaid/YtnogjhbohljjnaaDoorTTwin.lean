/-
  The law's twin: leaves in memory of their own.
-/
import Derived.Test.YtnogjhbohljjnaaDoorTRRoot
import Derived.Test.YtnogjhbohljjnaaDoorTLent
namespace Go.Proofs.YtnogjhbohljjnaaDoor
open Go Go.RowKit
open Sha

/-- A list of leaves that is a caller's. -/
def Lv (w : World) (A : Option Addr) (ps : List (List (BitVec 8))) : Prop := ps = [] ∨ ∃ b o, A = some ⟨b, o, none⟩ ∧ LnAt w b o ps
theorem Lv.below {w w' : World} {A : Option Addr} {ps : List (List (BitVec 8))} (h : Lv w A ps) (k : Below w.heap.size w w') : Lv w' A ps := by
  rcases h with h | ⟨b, o, h1, h2⟩
  · exact .inl h
  · exact .inr ⟨b, o, h1, h2.below k⟩
/-- The values of leaves that stand in blocks one behind the other. -/
def twv (g : Nat) (ps : List (List (BitVec 8))) (t : Nat) : List Value := (List.range t).map fun i => Value.slice (some ⟨g + i, 0, none⟩) (ps.getD i []).length (ps.getD i []).length
theorem twv_len (g : Nat) (ps : List (List (BitVec 8))) (t : Nat) : (twv g ps t).length = t := by simp [twv]
theorem twv_get (g : Nat) (ps : List (List (BitVec 8))) (t i : Nat) (h : i < t) : (twv g ps t)[i]? = some (Value.slice (some ⟨g + i, 0, none⟩) (ps.getD i []).length (ps.getD i []).length) := by simp [twv, h]
theorem twv_set (g : Nat) (ps : List (List (BitVec 8))) (n t : Nat) (h : t < n) : (twv g ps t ++ List.replicate (n - t) (Value.slice none 0 0)).set t (Value.slice (some ⟨g + t, 0, none⟩) (ps.getD t []).length (ps.getD t []).length) = twv g ps (t + 1) ++ List.replicate (n - (t + 1)) (Value.slice none 0 0) := by
  rw [List.set_append_right _ _ (by rw [twv_len]; omega), twv_len, Nat.sub_self, show n - t = (n - (t + 1)) + 1 by omega, List.replicate_succ, List.set_cons_zero]
  unfold twv
  rw [List.range_succ, List.map_append, List.append_assoc]; rfl
/-- Leaves in memory of their own: the list in one block, each in one behind it. -/
structure Tw (w : World) (g : Nat) (ps : List (List (BitVec 8))) (t n : Nat) : Prop where
  row : Row w g (twv (g + 1) ps t ++ List.replicate (n - t) (Value.slice none 0 0)) 22
  each : ∀ i, i < t → Row w (g + 1 + i) (vB (ps.getD i [])) 5

theorem made_sls (n : Nat) : madeCells (Value.slice none 0 0).cells (n * 1) = (List.replicate n (Value.slice none 0 0)).toArray := by
  apply Array.ext'
  rw [show (Value.slice none 0 0).cells = #[Value.slice none 0 0] from rfl, toList_madeCells_one]
  simp
section
variable {ops : Array Oper} {rest : List Oper} {op : Oper} {a : Act} {w : World} {Q : Exit → Act → World → Prop}
/-- make of a list of leaves. -/
theorem wpList_make_sl (hgd : op.guard = none) (x y : Operand) (ho : op.op = .makeSlice 25 x y) (n : Nat) (l l' : Int) (hl : l = (n : Int)) (hl' : l' = (n : Int)) (hx : a.eval x = .int .i64 l) (hy : a.eval y = .int .i64 l') (hn : n * 24 ≤ 281474976710656)
    (h : wpList Tryd.prog ops Q rest (a.put op.dst (.slice (some ⟨w.heap.size, 0, none⟩) n n)) (w.alloc (.cells (List.replicate n (Value.slice none 0 0)).toArray 22))) : wpList Tryd.prog ops Q (op :: rest) a w :=
  wpList_plain hgd fun _ hK => by
    subst hl; subst hl'
    obtain ⟨i, hi0, hz, hs, hb⟩ := info_parts info_all_slb
    have hr := run_make (P := Tryd.prog) w 25 22 i (.slice none 0 0) Tryd.underlying25 hi0 hz .i64 .i64 (n : Int) (n : Int) (by omega) (by omega) (by rw [hb]; omega) (by omega)
    rw [hs, Int.toNat_natCast, made_sls] at hr
    unfold Oper.wp execOp
    simp only [ho, hx, hy, Sem.run_bind, hr, Result.andThen_ok, Sem.run_pure, Oper.upon_value]
    exact hK _ _ h
end

set_option maxRecDepth 100000 in
set_option maxHeartbeats 2000000 in
theorem twin_any (ps : List (List (BitVec 8))) (n : Nat) (hn : ps.length = n) (hs : n ≤ 1048576) (hl : ∀ i, i < n → (ps.getD i []).length ≤ 140737488351232) (A : Option Addr) (cap : Nat) (w : World) (hv : Lv w A ps) :
    Calls Tryd.prog 51 #[.slice A n cap] w fun e w' => e = .returned (.slice (some ⟨w.heap.size, 0, none⟩) n n) ∧ Tw w' w.heap.size ps n n ∧ Below w.heap.size w w' := by
  have HV : Hid (Lv w A ps) := hv
  have HL : Hid (∀ i, i < n → (ps.getD i []).length ≤ 140737488351232) := hl
  have HN : Hid (ps.length = n) := hn
  clear hv hl hn
  go_enter Tryd.func51, Tryd.ntmps51
  go_wp2_with (refine wpList_make_sl rfl (.tmp 7) (.tmp 7) rfl n _ _ rfl rfl rfl rfl (by omega) ?_; simp only [Act.put, List.setIfInBounds_toArray, List.set_cons_zero, List.set_cons_succ])
  obtain ⟨W1, hW1⟩ : ∃ W1, W1 = w.alloc (Obj.cells (List.replicate n (Value.slice none 0 0)).toArray 22) := ⟨_, rfl⟩
  have hB1 : Below w.heap.size w W1 := by rw [hW1]; exact (Below.refl _ _).alloc (Nat.le_refl _) _
  have hr1 : Tw W1 w.heap.size ps 0 n := ⟨by rw [hW1]; exact Row.new' rfl (by simp [twv]), fun i hi => by omega⟩
  have hz1 : W1.heap.size = w.heap.size + 1 := by rw [hW1]; simp
  rw [← hW1]
  clear hW1
  go_loopw [4] (fun i wr => ∃ t : Nat, t ≤ n ∧ i = .int .i64 (t : Int) ∧ Below w.heap.size w wr ∧ wr.heap.size = w.heap.size + 1 + t ∧ Tw wr w.heap.size ps t n)
    (fun i _ => n - (intOf i).toNat)
  case atStart => exact ⟨0, by omega, rfl, hB1, hz1, hr1⟩
  case round =>
    clear hB1 hr1 hz1
    obtain ⟨t, ht, rfl, hb, hz, hr⟩ := hrel
    by_cases hlt : t < n
    · rcases HV.out with h0 | ⟨b, o, rfl, vs, h1, h2, h3⟩
      · have := HN.out; rw [h0] at this; simp at this; omega
      have h3t := (h3 t (by rw [HN.out]; exact hlt)).1
      have hct : w.cell? ⟨b, o + t, none⟩ = some (vs.getD t undef) := h2 t _ (by rw [List.getD_eq_getElem?_getD, List.getElem?_eq_getElem (show t < vs.length by rw [h1, HN.out]; exact hlt)]; rfl)
      have hdl := HL.out t hlt
      have hset := twv_set (w.heap.size + 1) ps n t hlt
      generalize vs.getD t undef = v at *
      clear HV h1 h2 h3
      obtain ⟨d, hd⟩ : ∃ d, d = ps.getD t [] := ⟨_, rfl⟩
      rw [← hd] at h3t hdl hset
      obtain ⟨A', c', hev⟩ : ∃ A c, v = .slice A d.length c := by
        rcases h3t with ⟨h1, A, c, h2⟩ | ⟨b', o', c, h2, _⟩
        · exact ⟨A, c, by rw [h2, h1]; rfl⟩
        · exact ⟨_, c, h2⟩
      subst hev
      have g1 := cell_be hct hb
      have hB2 : Below wr.heap.size wr (wr.alloc (Obj.cells (vB (List.replicate d.length 0#8)).toArray 5)) := (Below.refl _ _).alloc (Nat.le_refl _) _
      have g2 := cell_be g1 hB2
      have hsl := (h3t.below hb (Nat.le_refl _)).below hB2 (Nat.le_refl _)
      have nr : Row (wr.alloc (Obj.cells (vB (List.replicate d.length 0#8)).toArray 5)) wr.heap.size (vB (List.replicate d.length 0#8)) 5 := Row.new' rfl rfl
      have hB3 : Below wr.heap.size wr (World.setCells (wr.alloc (Obj.cells (vB (List.replicate d.length 0#8)).toArray 5)) wr.heap.size 0 (vB d)) := below_setCells hB2 (Nat.le_refl _) _
      have nT := nr.there 0 d.length (by simp [vB_length])
      have nr3 := nr.over (vs := vB d) (by simp [vB_length])
      have q := Row.below hr.row hB3 (Row.lt hr.row)
      have hz3 : (World.setCells (wr.alloc (Obj.cells (vB (List.replicate d.length 0#8)).toArray 5)) wr.heap.size 0 (vB d)).heap.size = w.heap.size + 1 + (t + 1) := by rw [size_setCells, World.size_alloc, hz]; omega
      obtain ⟨X, hX⟩ : ∃ X, X = World.setCells (wr.alloc (Obj.cells (vB (List.replicate d.length 0#8)).toArray 5)) wr.heap.size 0 (vB d) := ⟨_, rfl⟩
      rw [← hX] at hB3 nr3 q hz3
      have g3 := q.cell t (Value.slice none 0 0) (by rw [List.getElem?_append_right (by rw [twv_len]; omega), twv_len, Nat.sub_self, List.getElem?_replicate, if_pos (by omega)])
      have gf := q.thaw t
      have he : ∀ i, i < t + 1 → Row X (w.heap.size + 1 + i) (vB (ps.getD i [])) 5 := fun i hi => by
        by_cases h : i < t
        · exact Row.below (hr.each i h) hB3 (Row.lt (hr.each i h))
        · obtain rfl : i = t := by omega
          rw [← hd, ← hz]; exact nr3
      have HQ : Hid (Row X w.heap.size _ _) := q
      have HHE : Hid (∀ i, _ → _) := he
      have HS : Hid (_ = _) := hset
      have HB : Hid (Below _ _ _) := hB3
      have HZ : Hid (wr.heap.size = w.heap.size + 1 + t) := hz
      have HZ3 : Hid (X.heap.size = w.heap.size + 1 + (t + 1)) := hz3
      clear hd hz hz3 hr hB2 h3t hct nr nr3 q he hset hB3
      go_wp2_with (first
        | (refine wpList_make1 rfl 22 (.tmp 19) (.tmp 19) rfl 5 d.length _ _ rfl rfl rfl rfl (by omega) Tryd.underlying22 info_all_u8 ?_; simp only [Act.put, List.setIfInBounds_toArray, List.set_cons_zero, List.set_cons_succ])
        | (refine wpList_copy_sl rfl (.tmp 21) (.tmp 25) 22 22 rfl 5 wr.heap.size d.length d.length _ d (Nat.le_refl _) rfl rfl hsl Tryd.underlying22 info_u8 nT ?_; simp only [Act.put, List.setIfInBounds_toArray, List.set_cons_zero, List.set_cons_succ]; (rw [← hX]); (clear hX nT hsl g1 g2)))
      refine ⟨⟨t + 1, by omega, by go_num, (hb.trans (HB.out.mono hb.size)).setCell (by simp) _, by have := HZ3.out; simpa using this, ?_, fun i hi => (HHE.out i hi).set_other _ _ _ (by omega)⟩, by simp [intOf]; omega⟩
      have := HQ.out.set t (Value.slice (some ⟨wr.heap.size, 0, none⟩) d.length d.length)
      rw [HZ.out, HS.out] at this
      rw [HZ.out]
      exact this
    · obtain rfl : t = n := by omega
      go_wp2
      go_ret
      exact ⟨rfl, hr, hb⟩

end Go.Proofs.YtnogjhbohljjnaaDoor
