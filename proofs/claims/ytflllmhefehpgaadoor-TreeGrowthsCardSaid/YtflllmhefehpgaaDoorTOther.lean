/-
  The law's other: as many leaves, all bytes other ones.
-/
import Derived.Test.YtflllmhefehpgaaDoorTRRoot
import Derived.Test.YtflllmhefehpgaaDoorTLent

namespace Go.Proofs.YtflllmhefehpgaaDoor
open Go Go.RowKit
open Sha

/-- A list of leaves that is a caller's. -/
def Lv (w : World) (A : Option Addr) (ps : List (List (BitVec 8))) : Prop := ps = [] ∨ ∃ b o, A = some ⟨b, o, none⟩ ∧ LnAt w b o ps
theorem Lv.below {w w' : World} {A : Option Addr} {ps : List (List (BitVec 8))} (h : Lv w A ps) (k : Below w.heap.size w w') : Lv w' A ps := by
  rcases h with h | ⟨b, o, h1, h2⟩
  · exact .inl h
  · exact .inr ⟨b, o, h1, h2.below k⟩
/-- The values of leaves that stand in blocks one behind the other. -/
def twv (g : Nat) (ps : List (List (BitVec 8))) (t : Nat) : List Value := (List.range t).map fun i => Value.slice (some ⟨g + i, 0, none⟩) (ps.getD i []).length (ps.getD i []).length
theorem twv_len (g : Nat) (ps : List (List (BitVec 8))) (t : Nat) : (twv g ps t).length = t := by simp [twv]
theorem twv_get (g : Nat) (ps : List (List (BitVec 8))) (t i : Nat) (h : i < t) : (twv g ps t)[i]? = some (Value.slice (some ⟨g + i, 0, none⟩) (ps.getD i []).length (ps.getD i []).length) := by simp [twv, h]
theorem twv_set (g : Nat) (ps : List (List (BitVec 8))) (n t : Nat) (h : t < n) : (twv g ps t ++ List.replicate (n - t) (Value.slice none 0 0)).set t (Value.slice (some ⟨g + t, 0, none⟩) (ps.getD t []).length (ps.getD t []).length) = twv g ps (t + 1) ++ List.replicate (n - (t + 1)) (Value.slice none 0 0) := by
  rw [List.set_append_right _ _ (by rw [twv_len]; omega), twv_len, Nat.sub_self, show n - t = (n - (t + 1)) + 1 by omega, List.replicate_succ, List.set_cons_zero]
  unfold twv
  rw [List.range_succ, List.map_append, List.append_assoc]; rfl
/-- Leaves in memory of their own: the list in one block, each in one behind it. -/
structure Tw (w : World) (g : Nat) (ps : List (List (BitVec 8))) (t n : Nat) : Prop where
  row : Row w g (twv (g + 1) ps t ++ List.replicate (n - t) (Value.slice none 0 0)) 22
  each : ∀ i, i < t → Row w (g + 1 + i) (vB (ps.getD i [])) 5

theorem made_sls (n : Nat) : madeCells (Value.slice none 0 0).cells (n * 1) = (List.replicate n (Value.slice none 0 0)).toArray := by
  apply Array.ext'
  rw [show (Value.slice none 0 0).cells = #[Value.slice none 0 0] from rfl, toList_madeCells_one]
  simp
section
variable {ops : Array Oper} {rest : List Oper} {op : Oper} {a : Act} {w : World} {Q : Exit → Act → World → Prop}
/-- make of a list of leaves. -/
theorem wpList_make_sl (hgd : op.guard = none) (x y : Operand) (ho : op.op = .makeSlice 25 x y) (n : Nat) (l l' : Int) (hl : l = (n : Int)) (hl' : l' = (n : Int)) (hx : a.eval x = .int .i64 l) (hy : a.eval y = .int .i64 l') (hn : n * 24 ≤ 281474976710656)
    (h : wpList Tryd.prog ops Q rest (a.put op.dst (.slice (some ⟨w.heap.size, 0, none⟩) n n)) (w.alloc (.cells (List.replicate n (Value.slice none 0 0)).toArray 22))) : wpList Tryd.prog ops Q (op :: rest) a w :=
  wpList_plain hgd fun _ hK => by
    subst hl; subst hl'
    obtain ⟨i, hi0, hz, hs, hb⟩ := info_parts info_all_slb
    have hr := run_make (P := Tryd.prog) w 25 22 i (.slice none 0 0) Tryd.underlying25 hi0 hz .i64 .i64 (n : Int) (n : Int) (by omega) (by omega) (by rw [hb]; omega) (by omega)
    rw [hs, Int.toNat_natCast, made_sls] at hr
    unfold Oper.wp execOp
    simp only [ho, hx, hy, Sem.run_bind, hr, Result.andThen_ok, Sem.run_pure, Oper.upon_value]
    exact hK _ _ h
end

set_option maxRecDepth 100000 in
set_option maxHeartbeats 2000000 in
theorem twin_any (ps : List (List (BitVec 8))) (n : Nat) (hn : ps.length = n) (hs : n ≤ 1048576) (hl : ∀ i, i < n → (ps.getD i []).length ≤ 140737488351232) (A : Option Addr) (cap : Nat) (w : World) (hv : Lv w A ps) :
    Calls Tryd.prog 51 #[.slice A n cap] w fun e w' => e = .returned (.slice (some ⟨w.heap.size, 0, none⟩) n n) ∧ Tw w' w.heap.size ps n n ∧ Below w.heap.size w w' := by
  have HV : Hid (Lv w A ps) := hv
  have HL : Hid (∀ i, i < n → (ps.getD i []).length ≤ 140737488351232) := hl
  have HN : Hid (ps.length = n) := hn
  clear hv hl hn
  go_enter Tryd.func51, Tryd.ntmps51
  go_wp2_with (refine wpList_make_sl rfl (.tmp 7) (.tmp 7) rfl n _ _ rfl rfl rfl rfl (by omega) ?_; simp only [Act.put, List.setIfInBounds_toArray, List.set_cons_zero, List.set_cons_succ])
  obtain ⟨W1, hW1⟩ : ∃ W1, W1 = w.alloc (Obj.cells (List.replicate n (Value.slice none 0 0)).toArray 22) := ⟨_, rfl⟩
  have hB1 : Below w.heap.size w W1 := by rw [hW1]; exact (Below.refl _ _).alloc (Nat.le_refl _) _
  have hr1 : Tw W1 w.heap.size ps 0 n := ⟨by rw [hW1]; exact Row.new' rfl (by simp [twv]), fun i hi => by omega⟩
  have hz1 : W1.heap.size = w.heap.size + 1 := by rw [hW1]; simp
  rw [← hW1]
  clear hW1
  go_loopw [4] (fun i wr => ∃ t : Nat, t ≤ n ∧ i = .int .i64 (t : Int) ∧ Below w.heap.size w wr ∧ wr.heap.size = w.heap.size + 1 + t ∧ Tw wr w.heap.size ps t n)
    (fun i _ => n - (intOf i).toNat)
  case atStart => exact ⟨0, by omega, rfl, hB1, hz1, hr1⟩
  case round =>
    clear hB1 hr1 hz1
    obtain ⟨t, ht, rfl, hb, hz, hr⟩ := hrel
    by_cases hlt : t < n
    · rcases HV.out with h0 | ⟨b, o, rfl, vs, h1, h2, h3⟩
      · have := HN.out; rw [h0] at this; simp at this; omega
      have h3t := (h3 t (by rw [HN.out]; exact hlt)).1
      have hct : w.cell? ⟨b, o + t, none⟩ = some (vs.getD t undef) := h2 t _ (by rw [List.getD_eq_getElem?_getD, List.getElem?_eq_getElem (show t < vs.length by rw [h1, HN.out]; exact hlt)]; rfl)
      have hdl := HL.out t hlt
      have hset := twv_set (w.heap.size + 1) ps n t hlt
      generalize vs.getD t undef = v at *
      clear HV h1 h2 h3
      obtain ⟨d, hd⟩ : ∃ d, d = ps.getD t [] := ⟨_, rfl⟩
      rw [← hd] at h3t hdl hset
      obtain ⟨A', c', hev⟩ : ∃ A c, v = .slice A d.length c := by
        rcases h3t with ⟨h1, A, c, h2⟩ | ⟨b', o', c, h2, _⟩
        · exact ⟨A, c, by rw [h2, h1]; rfl⟩
        · exact ⟨_, c, h2⟩
      subst hev
      have g1 := cell_be hct hb
      have hB2 : Below wr.heap.size wr (wr.alloc (Obj.cells (vB (List.replicate d.length 0#8)).toArray 5)) := (Below.refl _ _).alloc (Nat.le_refl _) _
      have g2 := cell_be g1 hB2
      have hsl := (h3t.below hb (Nat.le_refl _)).below hB2 (Nat.le_refl _)
      have nr : Row (wr.alloc (Obj.cells (vB (List.replicate d.length 0#8)).toArray 5)) wr.heap.size (vB (List.replicate d.length 0#8)) 5 := Row.new' rfl rfl
      have hB3 : Below wr.heap.size wr (World.setCells (wr.alloc (Obj.cells (vB (List.replicate d.length 0#8)).toArray 5)) wr.heap.size 0 (vB d)) := below_setCells hB2 (Nat.le_refl _) _
      have nT := nr.there 0 d.length (by simp [vB_length])
      have nr3 := nr.over (vs := vB d) (by simp [vB_length])
      have q := Row.below hr.row hB3 (Row.lt hr.row)
      have hz3 : (World.setCells (wr.alloc (Obj.cells (vB (List.replicate d.length 0#8)).toArray 5)) wr.heap.size 0 (vB d)).heap.size = w.heap.size + 1 + (t + 1) := by rw [size_setCells, World.size_alloc, hz]; omega
      obtain ⟨X, hX⟩ : ∃ X, X = World.setCells (wr.alloc (Obj.cells (vB (List.replicate d.length 0#8)).toArray 5)) wr.heap.size 0 (vB d) := ⟨_, rfl⟩
      rw [← hX] at hB3 nr3 q hz3
      have g3 := q.cell t (Value.slice none 0 0) (by rw [List.getElem?_append_right (by rw [twv_len]; omega), twv_len, Nat.sub_self, List.getElem?_replicate, if_pos (by omega)])
      have gf := q.thaw t
      have he : ∀ i, i < t + 1 → Row X (w.heap.size + 1 + i) (vB (ps.getD i [])) 5 := fun i hi => by
        by_cases h : i < t
        · exact Row.below (hr.each i h) hB3 (Row.lt (hr.each i h))
        · obtain rfl : i = t := by omega
          rw [← hd, ← hz]; exact nr3
      have HQ : Hid (Row X w.heap.size _ _) := q
      have HHE : Hid (∀ i, _ → _) := he
      have HS : Hid (_ = _) := hset
      have HB : Hid (Below _ _ _) := hB3
      have HZ : Hid (wr.heap.size = w.heap.size + 1 + t) := hz
      have HZ3 : Hid (X.heap.size = w.heap.size + 1 + (t + 1)) := hz3
      clear hd hz hz3 hr hB2 h3t hct nr nr3 q he hset hB3
      go_wp2_with (first
        | (refine wpList_make1 rfl 22 (.tmp 19) (.tmp 19) rfl 5 d.length _ _ rfl rfl rfl rfl (by omega) Tryd.underlying22 info_all_u8 ?_; simp only [Act.put, List.setIfInBounds_toArray, List.set_cons_zero, List.set_cons_succ])
        | (refine wpList_copy_sl rfl (.tmp 21) (.tmp 25) 22 22 rfl 5 wr.heap.size d.length d.length _ d (Nat.le_refl _) rfl rfl hsl Tryd.underlying22 info_u8 nT ?_; simp only [Act.put, List.setIfInBounds_toArray, List.set_cons_zero, List.set_cons_succ]; (rw [← hX]); (clear hX nT hsl g1 g2)))
      refine ⟨⟨t + 1, by omega, by go_num, (hb.trans (HB.out.mono hb.size)).setCell (by simp) _, by have := HZ3.out; simpa using this, ?_, fun i hi => (HHE.out i hi).set_other _ _ _ (by omega)⟩, by simp [intOf]; omega⟩
      have := HQ.out.set t (Value.slice (some ⟨wr.heap.size, 0, none⟩) d.length d.length)
      rw [HZ.out, HS.out] at this
      rw [HZ.out]
      exact this
    · obtain rfl : t = n := by omega
      go_wp2
      go_ret
      exact ⟨rfl, hr, hb⟩

end Go.Proofs.YtflllmhefehpgaaDoor

namespace Go.Proofs.YtflllmhefehpgaaDoor
open Go Go.RowKit
open Sha

/-- A leaf, its first bytes turned. -/
def xw (d : List (BitVec 8)) (s : Nat) : List (BitVec 8) := (d.take s).map (· ^^^ 165#8) ++ d.drop s
theorem xw_len (d : List (BitVec 8)) (s : Nat) : (xw d s).length = d.length := by simp [xw]; omega
theorem xw_zero (d : List (BitVec 8)) : xw d 0 = d := by simp [xw]
theorem xw_all (d : List (BitVec 8)) : xw d d.length = d.map (· ^^^ 165#8) := by simp [xw]
theorem xw_get (d : List (BitVec 8)) (s : Nat) (h : s < d.length) : (xw d s).getD s 0 = d.getD s 0 := by
  unfold xw
  rw [List.getD_eq_getElem?_getD, List.getElem?_append_right (by simp; omega), List.getElem?_drop, List.getD_eq_getElem?_getD]
  congr 2
  simp; omega
theorem xw_set (d : List (BitVec 8)) (s : Nat) (h : s < d.length) : (xw d s).set s (d.getD s 0 ^^^ 165#8) = xw d (s + 1) := by
  unfold xw
  have hl : ((d.take s).map (· ^^^ 165#8)).length = s := by simp; omega
  rw [List.set_append_right _ _ (by omega), hl, Nat.sub_self, List.drop_eq_getElem_cons h, List.set_cons_zero, List.take_succ_eq_append_getElem h, List.map_append, List.append_assoc]
  simp [List.getD_eq_getElem?_getD, List.getElem?_eq_getElem h]
/-- Leaves, all bytes other ones. -/
def oth (ps : List (List (BitVec 8))) : List (List (BitVec 8)) := ps.map (·.map (· ^^^ 165#8))
theorem oth_len (ps : List (List (BitVec 8))) : (oth ps).length = ps.length := by simp [oth]
theorem oth_get (ps : List (List (BitVec 8))) (i : Nat) : (oth ps).getD i [] = (ps.getD i []).map (· ^^^ 165#8) := by
  simp only [oth, List.getD_eq_getElem?_getD, List.getElem?_map]
  cases ps[i]? <;> rfl
theorem oth_twv (g : Nat) (ps : List (List (BitVec 8))) (t : Nat) : twv g (oth ps) t = twv g ps t := by
  unfold twv
  apply List.map_congr_left
  intro i _
  rw [oth_get, List.length_map]
/-- How far the leaf of a number is turned. -/
def far (ps : List (List (BitVec 8))) (t s i : Nat) : Nat := if i < t then (ps.getD i []).length else if i = t then s else 0
structure Ot (w : World) (g : Nat) (ps : List (List (BitVec 8))) (n t s : Nat) : Prop where
  row : Row w g (twv (g + 1) ps n) 22
  each : ∀ i, i < n → Row w (g + 1 + i) (vB (xw (ps.getD i []) (far ps t s i))) 5
theorem Ot.next {w : World} {g : Nat} {ps : List (List (BitVec 8))} {n t : Nat} (h : Ot w g ps n t (ps.getD t []).length) : Ot w g ps n (t + 1) 0 :=
  ⟨h.row, fun i hi => by
    have e : far ps (t + 1) 0 i = far ps t (ps.getD t []).length i := by
      unfold far
      by_cases h1 : i < t
      · rw [if_pos (by omega), if_pos h1]
      · by_cases h2 : i = t
        · subst h2; rw [if_pos (by omega), if_neg (by omega), if_pos rfl]
        · rw [if_neg (by omega), if_neg h1, if_neg h2, ite_self]
    rw [e]; exact h.each i hi⟩

set_option maxRecDepth 100000 in
set_option maxHeartbeats 2000000 in
theorem other_any (ps : List (List (BitVec 8))) (n : Nat) (hn : ps.length = n) (hs : n ≤ 1048576) (hl : ∀ i, i < n → (ps.getD i []).length ≤ 140737488351232) (A : Option Addr) (cap : Nat) (w : World) (hv : Lv w A ps) :
    Calls Tryd.prog 19 #[.slice A n cap] w fun e w' => e = .returned (.slice (some ⟨w.heap.size, 0, none⟩) n n) ∧ Tw w' w.heap.size (oth ps) n n ∧ Below w.heap.size w w' := by
  have HL : Hid (∀ i, i < n → (ps.getD i []).length ≤ 140737488351232) := hl
  have HT : Hid (∀ W, Below w.heap.size w W → W.heap.size = w.heap.size → _) := fun W (_ : Below w.heap.size w W) (_ : W.heap.size = w.heap.size) => twin_any ps n hn hs hl A cap w hv
  clear hv hl hn
  go_enter Tryd.func19, Tryd.ntmps19
  go_wp2_with fail
  refine (HT.out w (Below.refl _ _) rfl).mono ?_
  rintro e W1 ⟨rfl, tw, hB1⟩
  have h0 : Ot W1 w.heap.size ps n 0 0 := ⟨by simpa using tw.row, fun i hi => by
    have e : far ps 0 0 i = 0 := by unfold far; rw [if_neg (by omega), ite_self]
    rw [e, xw_zero]; exact tw.each i hi⟩
  clear tw HT
  generalize hG : w.heap.size = g at *
  go_wp2_with fail
  go_loopw [4] (fun i wr => ∃ t : Nat, t ≤ n ∧ i = .int .i64 (t : Int) ∧ Below g w wr ∧ Ot wr g ps n t 0) (fun i _ => n - (intOf i).toNat)
  case atStart => exact ⟨0, by omega, rfl, hB1, h0⟩
  case round =>
    clear hB1 h0
    obtain ⟨t, ht, rfl, hb, ho⟩ := hrel
    by_cases hlt : t < n
    · have HDL := HL.out t hlt
      have HNX : Hid (∀ W, Ot W g ps n t (ps.getD t []).length → Ot W g ps n (t + 1) 0) := fun W h => h.next
      obtain ⟨L, hL⟩ : ∃ L, L = (ps.getD t []).length := ⟨_, rfl⟩
      have gv : ∀ W s, Ot W g ps n t s → W.cell? ⟨g, t, none⟩ = some (.slice (some ⟨g + 1 + t, 0, none⟩) L L) := fun W s h => by
        rw [hL]; exact h.row.cell t _ (twv_get _ _ _ _ hlt)
      have GV : Hid (∀ W s, _ → _) := gv
      rw [← hL] at HDL HNX
      have HLL : Hid (L = (ps.getD t []).length) := hL
      clear hL gv
      go_wp2
      go_loopw [5] (fun k wq => ∃ s : Nat, s ≤ L ∧ k = .int .i64 (s : Int) ∧ Below g w wq ∧ Ot wq g ps n t s) (fun k _ => L - (intOf k).toNat)
      case atStart => exact ⟨0, by omega, rfl, hb, ho⟩
      case round =>
        clear hb ho
        obtain ⟨s, hsl, rfl, hb, ho⟩ := hrel
        have g0 := GV.out _ s ho
        have HO : Hid (Ot wr g ps n t s) := ho
        by_cases hlts : s < L
        · have he := ho.each t hlt
          have ef : far ps t s t = s := by unfold far; rw [if_neg (by omega), if_pos rfl]
          rw [ef] at he
          have hls : s < (ps.getD t []).length := by rw [← HLL.out]; exact hlts
          have g1 := he.cell s _ (vB_get _ s (by rw [xw_len]; exact hls))
          rw [xw_get _ _ hls] at g1
          have gf := he.thaw s
          have hset := he.set s (.int .u8 (c ((ps.getD t []).getD s 0 ^^^ 165#8)))
          rw [vB_set, xw_set _ _ hls] at hset
          have hc := c_xor165 ((ps.getD t []).getD s 0)
          have HS : Hid (Row _ _ _ _) := hset
          generalize (ps.getD t []).getD s 0 = x at g1 hc HS
          clear ho he hset hls ef
          go_wp2_with fail
          go_region
          go_wp2
          refine ⟨⟨s + 1, hlts, by go_num, Below.drew (hb.setCell (by simp; omega) _), ⟨Row.drew (HO.out.row.set_other _ _ _ (by omega)), fun i hi => ?_⟩⟩, by simp [intOf]; omega⟩
          by_cases e : i = t
          · subst e
            have ef : far ps i (s + 1) i = s + 1 := by unfold far; rw [if_neg (by omega), if_pos rfl]
            rw [ef]
            exact Row.drew HS.out
          · have ef : far ps t (s + 1) i = far ps t s i := by unfold far; rw [if_neg e, if_neg e]
            rw [ef]
            exact Row.drew ((HO.out.each i hi).set_other _ _ _ (by omega))
        · obtain rfl : s = L := by omega
          clear ho
          go_wp2
          exact ⟨⟨t + 1, hlt, by go_num, hb, HNX.out _ HO.out⟩, by simp [intOf]; omega⟩
    · obtain rfl : t = n := by omega
      go_wp2
      go_ret
      subst hG
      refine ⟨rfl, ⟨?_, fun i hi => ?_⟩, hb⟩
      · rw [oth_twv, Nat.sub_self, List.replicate_zero, List.append_nil]; exact ho.row
      · have := ho.each i hi
        rw [show far ps t 0 i = (ps.getD i []).length from if_pos hi, xw_all] at this
        rw [oth_get]; exact this

end Go.Proofs.YtflllmhefehpgaaDoor
