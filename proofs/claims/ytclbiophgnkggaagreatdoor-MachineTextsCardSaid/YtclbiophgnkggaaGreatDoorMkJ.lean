/-
  what a program's bytes say.
-/
import Derived.Test.YtclbiophgnkggaaGreatDoorMkF
import Derived.Test.YtclbiophgnkggaaGreatDoorWDig

namespace Go.Proofs.YtclbiophgnkggaaGreatDoor
open Go Go.RowKit
open Sha
open Wd

/-- What the bytes at a place say: code, number, small number, size. -/
def ri (b : List (BitVec 8)) : Option (Nat × Nat × Nat × Nat) := match b with
  | [] => none
  | x :: r => if 28 ≤ x.toNat then none else if r.length < ow (oper x.toNat) r then none else
    match ro (oper x.toNat) (r.take (ow (oper x.toNat) r)) with
    | none => none
    | some (a, n) => some (x.toNat, a, n, 1 + ow (oper x.toNat) r)
theorem ri_size {b : List (BitVec 8)} {c a n s : Nat} (h : ri b = some (c, a, n, s)) : c < 28 ∧ 1 ≤ s ∧ s ≤ 257 ∧ s ≤ b.length := by
  cases b with
  | nil => cases h
  | cons x r =>
    unfold ri at h
    simp only at h
    split at h
    · cases h
    · split at h
      · cases h
      · split at h
        · cases h
        · rename_i h1 h2 _ _ _ _
          simp only [Option.some.injEq, Prod.mk.injEq] at h
          obtain ⟨rfl, _, _, rfl⟩ := h
          have := ow_le (oper x.toNat) r
          rw [List.length_cons]
          omega
theorem cons_cell {w : World} {g o : Nat} {x : BitVec 8} {r : List (BitVec 8)} (h : w.rangeAt g o (vB (x :: r))) : w.cell? ⟨g, o, none⟩ = some (.int .u8 ((x.toNat : Nat) : Int)) := h 0 _ rfl
theorem cons_rest {w : World} {g o : Nat} {x : BitVec 8} {r : List (BitVec 8)} (h : w.rangeAt g o (vB (x :: r))) : w.rangeAt g (o + 1) (vB r) := fun j v hj => by
  have := h (j + 1) v hj
  rwa [show o + (j + 1) = o + 1 + j by omega] at this
theorem readI_some (T g o n cap : Nat) (b : List (BitVec 8)) (hn : b.length = n) (hc : n ≤ cap) (c a m s : Nat) (h : ri b = some (c, a, m, s)) (w : World) (hT : Row w T mtab 84) (hr : w.rangeAt g o (vB b)) : Calls Tryz.prog 57 #[.slice (some ⟨T, 0, none⟩) 28 28, .slice (some ⟨g, o, none⟩) n cap] w fun e w' => e = .returned (.tuple #[.agg (ic c 0 a m).toArray, .int .i64 (s : Int)]) ∧ Below w.heap.size w w' := by
  cases b with
  | nil => cases h
  | cons x r =>
    unfold ri at h
    simp only at h
    split at h
    · cases h
    · split at h
      · cases h
      · split at h
        · cases h
        · rename_i h1 h2 _ _ _ h3
          simp only [Option.some.injEq, Prod.mk.injEq] at h
          obtain ⟨rfl, rfl, rfl, rfl⟩ := h
          exact ri_4 T g o n cap _ x.isLt r hn hc (by omega) (by omega) _ _ h3 w hT (cons_rest hr) (cons_cell hr)
theorem readI_none (T g o n cap : Nat) (b : List (BitVec 8)) (hn : b.length = n) (h0 : 0 < n) (hc : n ≤ cap) (h : ri b = none) (w : World) (hT : Row w T mtab 84) (hr : w.rangeAt g o (vB b)) : Calls Tryz.prog 57 #[.slice (some ⟨T, 0, none⟩) 28 28, .slice (some ⟨g, o, none⟩) n cap] w fun e w' => e = .returned (.tuple #[.agg zI.toArray, .int .i64 0]) ∧ Below w.heap.size w w' := by
  cases b with
  | nil => simp at hn; omega
  | cons x r =>
    unfold ri at h
    simp only at h
    split at h
    · rename_i h1
      exact ri_1 T g o n cap _ x.isLt r hn hc h1 w hT (cons_rest hr) (cons_cell hr)
    · split at h
      · rename_i h1 h2
        exact ri_2 T g o n cap _ x.isLt r hn hc (by omega) h2 w hT (cons_rest hr) (cons_cell hr)
      · split at h
        · rename_i h1 h2 h3
          exact ri_3 T g o n cap _ x.isLt r hn hc (by omega) (by omega) h3 w hT (cons_rest hr) (cons_cell hr)
        · cases h
/-- Lists that are owned, of any type. -/
abbrev Lw (w : World) (e : TypeId) (s : Nat) (v : Value) (n : Nat) (xs : List Value) : Prop := w.ownsRow 0 e s v n xs
section
variable {w w' : World} {v : Value} {e : TypeId} {s n : Nat} {xs : List Value}
theorem Lw.lt (h : Lw w e s v n xs) : ∀ g, v.ownBlock = some g → g < w.heap.size := fun g e => (World.ownsRow.lt h g e).2
theorem Lw.block (h : Lw w e s v n xs) (k : ∀ g, v.ownBlock = some g → w'.heap[g]? = w.heap[g]?) : Lw w' e s v n xs := by
  obtain ⟨h1, h2⟩ := h
  refine ⟨h1, ?_⟩
  rcases h2 with h2 | ⟨g, cap, cur, hv, hg, hh, r⟩
  · exact .inl h2
  · exact .inr ⟨g, cap, cur, hv, hg, (k g (by rw [hv]; rfl)).trans hh, r⟩
theorem Lw.be (h : Lw w e s v n xs) (k : Below w.heap.size w w') : Lw w' e s v n xs := Lw.block h fun g e => k.block g (Lw.lt h g e)
theorem Lw.gro {R : Nat → Prop} (h : Lw w e s v n xs) (k : Gro R w w') (hR : ∀ g, v.ownBlock = some g → ¬ R g) : Lw w' e s v n xs := Lw.block h fun g e => k.block g (Lw.lt h g e) (hR g e)
theorem Lw.ne {b : Nat} {cs : List Value} {t : TypeId} (h : Lw w e s v n xs) (r : Row w b cs t) (ht : t ≠ e) : ∀ g, v.ownBlock = some g → g ≠ b := fun g e q => by
  subst q
  obtain ⟨_, h2⟩ := h
  rcases h2 with ⟨h2, _⟩ | ⟨g', cap, cur, hv, hg, hh, _⟩
  · rw [h2] at e; cases e
  · rw [hv] at e
    obtain rfl : g' = g := by simpa [Value.ownBlock] using e
    have := hh.symm.trans r
    simp only [Option.some.injEq, Obj.cells.injEq] at this
    exact ht this.2.1.symm
theorem Lw.nil (w : World) (e : TypeId) (s : Nat) : Lw w e s (.slice none 0 0) 0 [] := ⟨by simp, .inl ⟨rfl, rfl⟩⟩
theorem Lw.form (h : Lw w e s v n xs) : ∃ A cap, v = .slice A n cap ∧ n ≤ cap ∧ (A = none → cap = 0) := by
  obtain ⟨_, h2⟩ := h
  rcases h2 with ⟨h2, h3⟩ | ⟨g, cap, cur, hv, hg, hh, hc, _⟩
  · exact ⟨none, 0, by rw [h2, h3], by rw [h3]; exact Nat.le_refl _, fun _ => rfl⟩
  · exact ⟨_, cap, hv, hc, fun q => by cases q⟩
theorem Lw.len (h : Lw w e s v n xs) : xs.length = n * s := h.1
theorem Lw.open (h : Lw w e s v n xs) (hn : 0 < n) : ∃ g cap, v = .slice (some ⟨g, 0, none⟩) n cap ∧ n ≤ cap := by
  obtain ⟨_, h2⟩ := h
  rcases h2 with ⟨h2, h3⟩ | ⟨g, cap, cur, hv, hg, hh, hc, _⟩
  · omega
  · exact ⟨g, cap, hv, hc⟩
theorem Lw.range {g cap : Nat} (h : Lw w e s (.slice (some ⟨g, 0, none⟩) n cap) n xs) : w.rangeAt g 0 xs := fun j u hj => by
  have hlt : j < n * s := by have := (List.getElem?_eq_some_iff.1 hj).1; rwa [Lw.len h] at this
  rw [Nat.zero_add]
  exact (World.ownsRow.cellAt h j hlt).trans hj
end
section
variable {Q : Exit → Act → World → Prop} {o : Oper} {a : Act} {w : World} {K : Act → World → Prop}
/-- append of one element onto a list that is owned. -/
theorem wp_appL (t e : TypeId) (sz bt : Nat) (hu : Tryz.prog.underlying t = some (.slice e)) (hi : ∃ ie z, Tryz.prog.info? e = some ie ∧ ie.zero = some z ∧ ie.size = sz ∧ ie.bytes = bt ∧ z.cells.size = sz) (h0 : 0 < sz) (hb0 : bt ≤ 4096) (s x : Operand) (ho : o.op = .call { callee := .builtin .append, args := #[s, x], argTypes := #[t, t] }) (v : Value) (n : Nat) (l news : List Value) (hs : a.eval s = v) (hown : Lw w e sz v n l)
    (g2 : Nat) (hm : news.length = sz) (hx : a.eval x = .slice (some ⟨g2, 0, none⟩) 1 1) (hX : w.rangeAt g2 0 news) (h1 : ∀ v ∈ news, v.oneCell' = true) (hk : n ≤ 1000000)
    (h : ∀ v' w', Lw w' e sz v' (n + 1) (l ++ news) → w.grownBy w' v.ownBlock → (v'.ownBlock = v.ownBlock ∨ v'.ownBlock = some w.heap.size) → K (a.put o.dst v') w') : Oper.wp Tryz.prog o a w K Q := by
  obtain ⟨ie, z, i1, i2, i3, i5, i4⟩ := hi
  obtain ⟨v', w', hr, q2, q3, _, q5⟩ := run_append_own_at (P := Tryz.prog) w 0 t o.type e ie z sz bt hu i1 i2 i3 i5 i4 h0 v n l hown ⟨g2, 0, none⟩ 1 1 news (by rw [hm, Nat.one_mul]) (fun j u hj => by rw [Addr.add_mid]; exact hX j u hj) h1 (by unfold maxLen; omega) (by
    have : bt * (n + 1) ≤ 4096 * 1000001 := Nat.mul_le_mul hb0 (by omega)
    rw [Nat.mul_comm] at this
    omega) (Nat.zero_le _)
  unfold Oper.wp execOp
  simp only [ho, resolve, invoke, builtin, Sem.run_bind, Sem.run_pure, Result.andThen_ok, List.map_toArray, List.map_cons, List.map_nil, hs, hx, hr]
  exact h v' w' q2 q3 q5
end

end Go.Proofs.YtclbiophgnkggaaGreatDoor

namespace Go.Proofs.YtclbiophgnkggaaGreatDoor
open Go Go.RowKit
open Sha
open Wd
/-- One part of s cells, laid into s cells. -/
theorem fill_one (s : Nat) (hs : 0 < s) (c cells : Array Value) (hc : c.size = s) (hn : cells.size = s) : Instr.fill (fun i => some (i * s, s)) cells [(0, .agg c)] = some c := by
  obtain ⟨r, hr, hsz, hk⟩ := Great.fill_dense (s := s) hs [.agg c] 0 cells (fun v hv => by obtain rfl := List.mem_singleton.1 hv; exact hc) (by simp; omega)
  have hr' : Instr.fill (fun i => some (i * s, s)) cells [(0, .agg c)] = some r := hr
  rw [hr']
  congr 1
  apply Array.ext_getElem?
  intro k
  rw [hk k]
  by_cases hlt : k < s
  · rw [if_pos (by simp; omega), Nat.div_eq_of_lt hlt, Nat.mod_eq_of_lt hlt]
    rfl
  · rw [if_neg (by simp; omega), Array.getElem?_eq_none (by omega), Array.getElem?_eq_none (by omega)]


/-- An instruction of a program. -/
structure Ins where
  c : Nat
  p : Nat
  a : Nat
  n : Nat
def fl (ls : List Ins) : List Value := ls.flatMap fun i => ic i.c i.p i.a i.n
theorem fl_len (ls : List Ins) : (fl ls).length = ls.length * 7 := by
  induction ls with
  | nil => rfl
  | cons x r ih =>
    have e : fl (x :: r) = ic x.c x.p x.a x.n ++ fl r := rfl
    rw [e, List.length_append, ic_len, ih, List.length_cons]
    omega
theorem fl_app (ls : List Ins) (x : Ins) : fl (ls ++ [x]) = fl ls ++ ic x.c x.p x.a x.n := by
  unfold fl
  rw [List.flatMap_append]
  simp
theorem fl_get (ls : List Ins) (i : Nat) (x : Ins) (h : ls[i]? = some x) (j : Nat) (hj : j < 7) : (fl ls)[i * 7 + j]? = (ic x.c x.p x.a x.n)[j]? := by
  induction ls generalizing i with
  | nil => cases h
  | cons y r ih =>
    have e : fl (y :: r) = ic y.c y.p y.a y.n ++ fl r := rfl
    rw [e]
    cases i with
    | zero =>
      obtain rfl : y = x := by simpa using h
      rw [List.getElem?_append_left (by rw [ic_len]; omega), Nat.zero_mul, Nat.zero_add]
    | succ k =>
      rw [List.getElem?_append_right (by rw [ic_len]; omega), ic_len, show (k + 1) * 7 + j - 7 = k * 7 + j by omega]
      exact ih k (by simpa using h)
theorem fl_at {w : World} {g : Nat} {ls : List Ins} (h : w.rangeAt g 0 (fl ls)) (i : Nat) (x : Ins) (hx : ls[i]? = some x) : w.rangeAt g (i * 7) (ic x.c x.p x.a x.n) := fun j v hj => by
  have hlt : j < 7 := by have := (List.getElem?_eq_some_iff.1 hj).1; rwa [ic_len] at this
  have := h (i * 7 + j) v (by rw [fl_get ls i x hx j hlt]; exact hj)
  rwa [Nat.zero_add] at this
/-- Which instruction begins at a place, from 1 on; 0: none. -/
def stf (ls : List Ins) (i : Nat) : Nat := match ls.findIdx? (fun x => x.p == i) with | some k => k + 1 | none => 0
def sts (ls : List Ins) (n : Nat) : List Nat := (List.range n).map (stf ls)
theorem sts_len (ls : List Ins) (n : Nat) : (sts ls n).length = n := by unfold sts; simp
theorem sts_get (ls : List Ins) (n i : Nat) (h : i < n) : (sts ls n).getD i 0 = stf ls i := by
  unfold sts
  rw [List.getD_eq_getElem?_getD, List.getElem?_map, List.getElem?_range h]
  rfl
theorem sts_nil (n : Nat) : sts [] n = List.replicate n 0 := by
  unfold sts
  apply List.ext_getElem?
  intro i
  rw [List.getElem?_map, List.getElem?_replicate]
  by_cases h : i < n
  · rw [List.getElem?_range h, if_pos h]; rfl
  · rw [List.getElem?_eq_none (by simp; omega), if_neg h]; rfl
theorem stf_pos (ls : List Ins) (i : Nat) : stf ls i ≠ 0 ↔ ls.any (fun j => j.p == i) = true := by
  unfold stf
  cases h : ls.findIdx? (fun x => x.p == i) with
  | none =>
    rw [List.findIdx?_eq_none_iff] at h
    simp only [ne_eq, not_true_eq_false, false_iff, List.any_eq_true, not_exists, not_and]
    intro x hx q
    rw [h x hx] at q
    cases q
  | some k =>
    simp only [ne_eq, Nat.add_eq_zero_iff, Nat.one_ne_zero, and_false, not_false_eq_true, true_iff]
    obtain ⟨hk, h2, _⟩ := List.findIdx?_eq_some_iff_getElem.1 h
    exact List.any_eq_true.2 ⟨ls[k], List.getElem_mem hk, h2⟩
theorem stf_le (ls : List Ins) (i : Nat) : stf ls i ≤ ls.length := by
  unfold stf
  cases h : ls.findIdx? (fun x => x.p == i) with
  | none => exact Nat.zero_le _
  | some k => obtain ⟨hk, _⟩ := List.findIdx?_eq_some_iff_getElem.1 h; exact hk
theorem stf_app (ls : List Ins) (x : Ins) (hp : ∀ y ∈ ls, y.p < x.p) (i : Nat) : stf (ls ++ [x]) i = if i = x.p then ls.length + 1 else stf ls i := by
  unfold stf
  rw [List.findIdx?_append]
  by_cases hi : i = x.p
  · rw [if_pos hi]
    have h0 : ls.findIdx? (fun y => y.p == i) = none := by
      rw [List.findIdx?_eq_none_iff]
      intro y hy
      have := hp y hy
      simp only [beq_eq_false_iff_ne, ne_eq]
      omega
    rw [h0]
    simp [List.findIdx?_cons, hi]
  · rw [if_neg hi]
    cases h : ls.findIdx? (fun y => y.p == i) with
    | some k => rfl
    | none => simp [List.findIdx?_cons, Ne.symm hi]
theorem sts_app (ls : List Ins) (x : Ins) (hp : ∀ y ∈ ls, y.p < x.p) (n : Nat) : (sts ls n).set x.p (ls.length + 1) = sts (ls ++ [x]) n := by
  apply List.ext_getElem?
  intro i
  unfold sts
  rw [List.getElem?_set, List.getElem?_map, List.getElem?_map]
  by_cases hi : i < n
  · rw [List.getElem?_range hi]
    simp only [Option.map_some, List.length_map, List.length_range]
    rw [stf_app ls x hp i]
    by_cases e : x.p = i
    · rw [if_pos e, if_pos (by omega), if_pos e.symm]
    · rw [if_neg e, if_neg (fun q => e q.symm)]
  · rw [List.getElem?_eq_none (l := List.range n) (by simp; omega)]
    simp only [Option.map_none, List.length_map, List.length_range]
    split
    · rw [if_neg (by omega)]
    · rfl
def leads (ls : List Ins) : Bool := ls.all fun i => oper i.c != 5 || ls.any (fun j => j.p == i.n)
theorem info_P : (Tryz.prog.info? 44).map (·.size) = some 2 := by kernel_rfl
set_option maxRecDepth 100000 in
set_option maxHeartbeats 4000000 in
theorem begins_no (v : Value) (gs n m : Nat) (hm : n ≤ m) (w : World) : Calls Tryz.prog 84 #[.agg #[v, .slice (some ⟨gs, 0, none⟩) n n], .int .i64 (m : Int)] w fun e w' => e = .returned (.bool false) ∧ Below w.heap.size w w' := by
  have hnm : ¬ ((m : Int) < (n : Int)) := by omega
  go_enter Tryz.func84, Tryz.ntmps84
  go_upto_region 1 with (refine wpList_boxG 44 rfl (.tmp 0) rfl [v, .slice (some ⟨gs, 0, none⟩) n n] rfl ?_; intro X q1 q2 q3; have R1 : Hid (Row X w.heap.size [v, .slice (some ⟨gs, 0, none⟩) n n] 44) := q1; have B1 : Hid (Below w.heap.size w X) := q2; clear q1 q2 q3; simp only [Act.put, List.setIfInBounds_toArray, List.set_cons_zero, List.set_cons_succ])
  have c1 := R1.out.cell 1 _ rfl
  go_wp2
  go_ret
  exact ⟨rfl, B1.out⟩
set_option maxRecDepth 100000 in
set_option maxHeartbeats 4000000 in
theorem begins_yes (v : Value) (gs n m x : Nat) (hm : m < n) (B : Bool) (hB : B = decide (x ≠ 0)) (w : World) (c0 : w.cell? ⟨gs, m, none⟩ = some (.int .i64 (x : Int))) : Calls Tryz.prog 84 #[.agg #[v, .slice (some ⟨gs, 0, none⟩) n n], .int .i64 (m : Int)] w fun e w' => e = .returned (.bool B) ∧ Below w.heap.size w w' := by
  have C0 : Hid (w.cell? ⟨gs, m, none⟩ = some (.int .i64 (x : Int))) := c0
  have HB : Hid (B = decide (x ≠ 0)) := hB
  clear c0 hB
  go_enter Tryz.func84, Tryz.ntmps84
  go_upto_region 1 with (refine wpList_boxG 44 rfl (.tmp 0) rfl [v, .slice (some ⟨gs, 0, none⟩) n n] rfl ?_; intro X q1 q2 q3; have R1 : Hid (Row X w.heap.size [v, .slice (some ⟨gs, 0, none⟩) n n] 44) := q1; have B1 : Hid (Below w.heap.size w X) := q2; clear q1 q2 q3; simp only [Act.put, List.setIfInBounds_toArray, List.set_cons_zero, List.set_cons_succ])
  have c1 := R1.out.cell 1 _ rfl
  have c2 : X.cell? ⟨gs, m, none⟩ = some (.int .i64 (x : Int)) := cell_be C0.out B1.out
  by_cases hx : x = 0
  · have eB : B = false := by rw [HB.out, hx]; rfl
    subst hx
    go_wp2
    go_ret
    exact ⟨by rw [eB]; rfl, B1.out⟩
  · have eB : B = true := by rw [HB.out]; exact decide_eq_true hx
    have ex : ((x : Int) != 0) = true := by simp; omega
    go_wp2
    go_ret
    exact ⟨by rw [eB]; rfl, B1.out⟩
theorem begins_any (v : Value) (gs n m : Nat) (ls : List Ins) (hls : ∀ y ∈ ls, y.p < n) (w : World) (hs : Row w gs (vI (sts ls n)) 3) : Calls Tryz.prog 84 #[.agg #[v, .slice (some ⟨gs, 0, none⟩) n n], .int .i64 (m : Int)] w fun e w' => e = .returned (.bool (ls.any (fun j => j.p == m))) ∧ Below w.heap.size w w' := by
  by_cases h : m < n
  · have c0 := hs.cell m _ (vI_get (sts ls n) m (by rw [sts_len]; exact h))
    rw [sts_get ls n m h] at c0
    refine begins_yes v gs n m _ h _ ?_ w c0
    have := stf_pos ls m
    cases ha : ls.any (fun j => j.p == m) with
    | true => exact (decide_eq_true (this.2 ha)).symm
    | false => exact (decide_eq_false (fun q => by rw [this.1 q] at ha; cases ha)).symm
  · have ha : ls.any (fun j => j.p == m) = false := by
      rw [List.any_eq_false]
      intro y hy
      have := hls y hy
      simp only [beq_iff_eq]
      omega
    rw [ha]
    exact begins_no v gs n m (by omega) w

end Go.Proofs.YtclbiophgnkggaaGreatDoor

namespace Go.Proofs.YtclbiophgnkggaaGreatDoor
open Go Go.RowKit
open Sha
open Wd

theorem leads_not {ls : List Ins} {t : Nat} {x : Ins} (hx : ls[t]? = some x) (h5 : oper x.c = 5) (hn : ls.any (fun j => j.p == x.n) = false) : leads ls = false := by
  unfold leads
  rw [List.all_eq_false]
  refine ⟨x, List.mem_of_getElem? hx, ?_⟩
  rw [hn, h5]
  decide
def ledT (ls : List Ins) (t : Nat) : Bool := (ls.take t).all fun i => oper i.c != 5 || ls.any (fun j => j.p == i.n)
theorem ledT_more {ls : List Ins} {t : Nat} {x : Ins} (hx : ls[t]? = some x) (h : ledT ls t = true) (hy : oper x.c ≠ 5 ∨ ls.any (fun j => j.p == x.n) = true) : ledT ls (t + 1) = true := by
  unfold ledT at h ⊢
  rw [List.take_add_one, hx, List.all_append, h]
  simp only [Option.toList_some, List.all_cons, List.all_nil, Bool.and_true, Bool.true_and]
  rcases hy with q | q
  · rw [show (oper x.c != 5) = true by simpa using q]; rfl
  · rw [q]; simp
theorem ledT_all {ls : List Ins} (h : ledT ls ls.length = true) : leads ls = true := by
  unfold ledT at h
  rw [List.take_length] at h
  exact h
set_option maxRecDepth 100000 in
set_option maxHeartbeats 4000000 in
theorem jumpsLead_any (T gs n : Nat) (ls : List Ins) (v : Value) (hls : ∀ y ∈ ls, y.p < n ∧ y.c < 28 ∧ y.n < 65536) (hlen : ls.length ≤ 1024) (w : World) (hT : Row w T mtab 84) (hv : Lw w 53 7 v ls.length (fl ls)) (hs : Row w gs (vI (sts ls n)) 3) : Calls Tryz.prog 58 #[.agg #[v, .slice (some ⟨gs, 0, none⟩) n n], .slice (some ⟨T, 0, none⟩) 28 28] w fun e w' => e = .returned (.bool (leads ls)) ∧ Below w.heap.size w w' := by
  obtain ⟨A, cap, rfl, hcap, hA⟩ := Lw.form hv
  have HV : Hid (Lw w 53 7 (.slice A ls.length cap) ls.length (fl ls)) := hv
  have HT : Hid (Row w T mtab 84) := hT
  have HST : Hid (Row w gs (vI (sts ls n)) 3) := hs
  have HLS : Hid (∀ y ∈ ls, y.p < n ∧ y.c < 28 ∧ y.n < 65536) := hls
  clear hv hT hs hls hcap hA
  go_enter Tryz.func58, Tryz.ntmps58
  go_wp2_with (refine wpList_boxG 44 rfl (.tmp 0) rfl [.slice A ls.length cap, .slice (some ⟨gs, 0, none⟩) n n] rfl ?_; intro X q1 q2 q3; have R1 : Hid (Row X w.heap.size [.slice A ls.length cap, .slice (some ⟨gs, 0, none⟩) n n] 44) := q1; have B1 : Hid (Below w.heap.size w X) := q2; have c0 := q1.cell 0 _ rfl; clear q1 q2 q3; simp only [Act.put, List.setIfInBounds_toArray, List.set_cons_zero, List.set_cons_succ])
  go_loopw [10] (fun v wr => ∃ t : Nat, t ≤ ls.length ∧ v = .int .i64 (t : Int) ∧ Hid (Below w.heap.size w wr) ∧ Hid (Row wr w.heap.size [.slice A ls.length cap, .slice (some ⟨gs, 0, none⟩) n n] 44) ∧ Hid (ledT ls t = true)) (fun v _ => ls.length - (intOf v).toNat)
  case atStart => exact ⟨0, Nat.zero_le _, rfl, B1, R1, by show _ = _; unfold ledT; simp⟩
  case round =>
    obtain ⟨t, ht, rfl, HB, HBX, HLD⟩ := hrel
    clear B1 R1 c0
    by_cases hlt : t < ls.length
    · obtain ⟨x, hx⟩ : ∃ x, ls[t]? = some x := ⟨_, List.getElem?_eq_getElem hlt⟩
      have hxm := HLS.out x (List.mem_of_getElem? hx)
      have hxc : x.c < 28 := hxm.2.1
      have HX : Hid (ls[t]? = some x) := hx
      obtain ⟨g, cap', e, hcc⟩ := Lw.open HV.out (by omega)
      simp only [Value.slice.injEq] at e
      obtain ⟨rfl, _, rfl⟩ := e
      obtain ⟨L, hL⟩ : ∃ L, L = ic x.c x.p x.a x.n := ⟨_, rfl⟩
      have HL : Hid (L = ic x.c x.p x.a x.n) := hL
      have RG : Hid (wr.rangeAt g (t * 7) L) := by rw [hL]; exact range_be (fl_at (Lw.range HV.out) t x hx) HB.out
      have HI : Hid ((Tryz.prog.info? 53).map (·.size) = some L.length) := by show _ = _; rw [hL]; exact info_Ic _ _ _ _
      have HN7 : Hid (L.length = zI.length) := by show _ = _; rw [hL]; exact ic_len _ _ _ _
      have HO : Hid (L.toArray.all (·.oneCell') = true) := by show _ = _; rw [hL]; exact ic_one _ _ _ _
      have HXN6 : Hid (x.n < 65536) := hxm.2.2
      clear hL hx hxm hcc
      go_upto_region 4 with (first
        | (refine wpList_load_w rfl 53 (.tmp 12) rfl g (t * 7) rfl L _ RG.out Tryz.underlying53 rfl HI.out ?_; simp only [Act.put, List.setIfInBounds_toArray, List.set_cons_zero, List.set_cons_succ])
        | (refine wpList_allocI rfl rfl ?_; intro X2 q1 q2 q3; have R2 : Hid (Row X2 wr.heap.size zI 53) := q1; have B2 : Hid (Below wr.heap.size wr X2) := q2; clear q1 q2 q3; simp only [Act.put, List.setIfInBounds_toArray, List.set_cons_zero, List.set_cons_succ])
        | (refine wpList_storeL rfl 53 (.tmp 6) (.tmp 13) rfl wr.heap.size L zI 53 rfl rfl R2.out HN7.out HI.out HO.out ?_; intro X3 q1 q2; have E3 : Hid (X3 = _) := q1; have R3 : Hid (Row X3 wr.heap.size L 53) := q2; clear q1 q2; simp only [Act.put]))
      have BB3 : Below w.heap.size w X3 := by rw [E3.out]; exact below_setCells (HB.out.trans (B2.out.mono HB.out.size)) HB.out.size _
      have BX : Hid (Below w.heap.size w X3) := BB3
      have RB3 : Hid (Row X3 w.heap.size [.slice (some ⟨g, 0, none⟩) ls.length cap, .slice (some ⟨gs, 0, none⟩) n n] 44) := by rw [E3.out]; exact Row.setCells_other (Row.below HBX.out B2.out HBX.out.lt) _ _ _ (Nat.ne_of_lt HBX.out.lt)
      have RS3 : Hid (Row X3 gs (vI (sts ls n)) 3) := Row.below HST.out BB3 HST.out.lt
      have R3' : Row X3 wr.heap.size (ic x.c x.p x.a x.n) 53 := by rw [← HL.out]; exact R3.out
      have c0 := R3'.cell 0 _ (ic_0 _ _ _ _)
      have c6 := R3'.cell 6 _ (ic_6 _ _ _ _)
      have ct := (Row.below HT.out BB3 HT.out.lt).cell (x.c * 6 + 1) _ (mtab_oper x.c hxc)
      have hx28 : x.c < 28 := hxc
      obtain ⟨k, hk⟩ : ∃ k, k = oper x.c := ⟨_, rfl⟩
      rw [← hk] at ct
      obtain ⟨xc, hxc'⟩ : ∃ xc, xc = x.c := ⟨_, rfl⟩
      obtain ⟨xn, hxn'⟩ : ∃ xn, xn = x.n := ⟨_, rfl⟩
      rw [← hxc'] at c0 ct hx28
      rw [← hxn'] at c6
      have HK : Hid (k = oper x.c) := hk
      have HXN : Hid (xn = x.n) := hxn'
      clear hk hxc' hxn' R3' BB3 R3 E3 R2 B2 hxc
      by_cases k5 : k = 5
      · have HBG : Hid _ := begins_any (.slice (some ⟨g, 0, none⟩) ls.length cap) gs n xn ls (fun y hy => (HLS.out y hy).1) X3 RS3.out
        cases hany : ls.any (fun j => j.p == xn) with
        | true =>
          rw [hany] at HBG
          have HD : Hid (ledT ls (t + 1) = true) := ledT_more HX.out HLD.out (.inr (by rw [← HXN.out]; exact hany))
          subst k5
          clear hany
          go_wp2_with (first
            | (refine wpList_load_w rfl 44 (.tmp 2) rfl w.heap.size 0 rfl [.slice (some ⟨g, 0, none⟩) ls.length cap, .slice (some ⟨gs, 0, none⟩) n n] _ RB3.out.all Tryz.underlying44 rfl info_P ?_; simp only [Act.put, List.setIfInBounds_toArray, List.set_cons_zero, List.set_cons_succ])
            | (go_at_call 84; refine Calls.mono HBG.out ?_; rintro e X4 ⟨rfl, q⟩; have B4 : Hid (Below w.heap.size w X4) := BX.out.trans (q.mono BX.out.size); have RB4 : Hid (Row X4 w.heap.size [.slice (some ⟨g, 0, none⟩) ls.length cap, .slice (some ⟨gs, 0, none⟩) n n] 44) := Row.below RB3.out q RB3.out.lt; clear q))
          refine ⟨⟨t + 1, hlt, by go_num, B4, RB4, HD⟩, by simp [intOf]; omega⟩
        | false =>
          rw [hany] at HBG
          have HD : Hid (leads ls = false) := leads_not HX.out (by rw [← HK.out]; exact k5) (by rw [← HXN.out]; exact hany)
          subst k5
          clear hany
          go_wp2_with (first
            | (refine wpList_load_w rfl 44 (.tmp 2) rfl w.heap.size 0 rfl [.slice (some ⟨g, 0, none⟩) ls.length cap, .slice (some ⟨gs, 0, none⟩) n n] _ RB3.out.all Tryz.underlying44 rfl info_P ?_; simp only [Act.put, List.setIfInBounds_toArray, List.set_cons_zero, List.set_cons_succ])
            | (go_at_call 84; refine Calls.mono HBG.out ?_; rintro e X4 ⟨rfl, q⟩; have B4 : Hid (Below w.heap.size w X4) := BX.out.trans (q.mono BX.out.size); clear q))
          go_ret
          exact ⟨by rw [HD.out]; rfl, B4.out⟩
      · have HD : Hid (ledT ls (t + 1) = true) := ledT_more HX.out HLD.out (.inl (by rw [← HK.out]; exact k5))
        go_wp2
        refine ⟨⟨t + 1, hlt, by go_num, BX, RB3, HD⟩, by simp [intOf]; omega⟩
    · have et : t = ls.length := by omega
      have HD : Hid (leads ls = true) := ledT_all (by rw [← et]; exact HLD.out)
      clear HLD
      have e4 : (t : Int) = (ls.length : Int) := by omega
      rw [e4]
      clear e4 et ht hlt
      go_wp2
      go_ret
      exact ⟨by rw [HD.out]; rfl, HB.out⟩

end Go.Proofs.YtclbiophgnkggaaGreatDoor

namespace Go.Proofs.YtclbiophgnkggaaGreatDoor
open Go Go.RowKit
open Sha
open Wd

section
variable {ops : Array Oper} {rest : List Oper} {op : Oper} {a : Act} {w : World} {Q : Exit → Act → World → Prop}
/-- A store of one cell, into a row. -/
theorem wpList_set1 (hgd : op.guard = none) (ty : TypeId) (x y : Operand) (ho : op.op = .store ty x y)
    (b i : Nat) (v : Value) (cs : List Value) (t : TypeId) (hx : a.eval x = .pointer (some ⟨b, i, none⟩)) (hy : a.eval y = v) (hcs : v.cells = #[v]) (r : Row w b cs t) (hl : i < cs.length) (hi : (Tryz.prog.info? ty).map (·.size) = some 1) (h1 : v.oneCell' = true)
    (h : ∀ X, Row X b (cs.set i v) t → Gro (· = b) w X → X.heap.size = w.heap.size → wpList Tryz.prog ops Q rest (a.put op.dst undef) X) : wpList Tryz.prog ops Q (op :: rest) a w :=
  wpList_store1 hgd ty x y ho b i v hx hy hcs (r.there i 1 (by omega)) hi h1 (h _ (r.set i v) ((Gro.refl _ _).set b i v rfl) (by simp))
theorem wpList_makeI (hgd : op.guard = none) (x y : Operand) (ho : op.op = .makeSlice 29 x y) (n : Nat) (hx : a.eval x = .int .i64 (n : Int)) (hy : a.eval y = .int .i64 (n : Int)) (hn : n ≤ 35184372088832)
    (h : ∀ X, Row X w.heap.size (vI (List.replicate n 0)) 3 → Below w.heap.size w X → X.heap.size = w.heap.size + 1 → wpList Tryz.prog ops Q rest (a.put op.dst (.slice (some ⟨w.heap.size, 0, none⟩) n n)) X) : wpList Tryz.prog ops Q (op :: rest) a w :=
  wpList_make_i hgd 29 x y ho 3 n _ _ rfl rfl hx hy hn Tryz.underlying29 info_all_int (h _ (Row.new' rfl rfl) ((Below.refl _ _).alloc (Nat.le_refl _) _) (by simp))
theorem wpList_build1 (t e : TypeId) (sz : Nat) (hu : Tryz.prog.underlying t = some (.slice e)) (hi : ∃ ie z, Tryz.prog.info? e = some ie ∧ ie.zero = some z ∧ ie.size = sz ∧ z.cells.size = sz) (h0 : 0 < sz) (hs : sz ≤ 4096) (hgd : op.guard = none) (x : Operand) (ho : op.op = .buildSlice t 1 #[(0, x)]) (L : List Value) (hL : L.length = sz) (hx : a.eval x = .agg L.toArray)
    (h : ∀ X, Row X w.heap.size L e → Below w.heap.size w X → X.heap.size = w.heap.size + 1 → wpList Tryz.prog ops Q rest (a.put op.dst (.slice (some ⟨w.heap.size, 0, none⟩) 1 1)) X) : wpList Tryz.prog ops Q (op :: rest) a w := by
  obtain ⟨ie, z, h1, h2, h3, h4⟩ := hi
  refine wpList_buildSlice hgd t e 1 _ ho L.toArray ie z hu h1 h2 (by rw [h3]; omega) (by rw [h3]; omega) ?_ (h _ (Row.new' rfl rfl) ((Below.refl _ _).alloc (Nat.le_refl _) _) (by simp))
  rw [show (Array.map (fun (p : Nat × Operand) => match p with | (i, x) => (i, a.eval x)) #[(0, x)]).toList = [(0, a.eval x)] by simp, hx, h3]
  exact fill_one sz h0 _ _ (by simp [hL]) (by simp)
theorem wpList_appL (t e : TypeId) (sz bt : Nat) (hu : Tryz.prog.underlying t = some (.slice e)) (hi : ∃ ie z, Tryz.prog.info? e = some ie ∧ ie.zero = some z ∧ ie.size = sz ∧ ie.bytes = bt ∧ z.cells.size = sz) (h0 : 0 < sz) (hb0 : bt ≤ 4096) (hgd : op.guard = none) (s x : Operand) (ho : op.op = .call { callee := .builtin .append, args := #[s, x], argTypes := #[t, t] }) (v : Value) (n : Nat) (l news : List Value) (hs : a.eval s = v) (hown : Lw w e sz v n l)
    (g2 : Nat) (hm : news.length = sz) (hx : a.eval x = .slice (some ⟨g2, 0, none⟩) 1 1) (hX : w.rangeAt g2 0 news) (h1 : ∀ v ∈ news, v.oneCell' = true) (hk : n ≤ 1000000)
    (h : ∀ v' w', Lw w' e sz v' (n + 1) (l ++ news) → w.grownBy w' v.ownBlock → (v'.ownBlock = v.ownBlock ∨ v'.ownBlock = some w.heap.size) → wpList Tryz.prog ops Q rest (a.put op.dst v') w') : wpList Tryz.prog ops Q (op :: rest) a w :=
  wpList_plain hgd fun _ hK => wp_appL t e sz bt hu hi h0 hb0 s x ho v n l news hs hown g2 hm hx hX h1 hk (fun v' w' q1 q2 q3 => hK _ _ (h v' w' q1 q2 q3))
end
theorem info_I_all : (Tryz.prog.info? 53).map (fun i => (i.zero, i.size, i.bytes)) = some (some (.agg zI.toArray), 7, 56) := by kernel_rfl
theorem info_I_open : ∃ ie z, Tryz.prog.info? 53 = some ie ∧ ie.zero = some z ∧ ie.size = 7 ∧ ie.bytes = 56 ∧ z.cells.size = 7 := by
  have i1 := info_I_all
  cases hi : Tryz.prog.info? 53 with
  | none => rw [hi] at i1; cases i1
  | some ie =>
    rw [hi] at i1
    simp only [Option.map_some, Option.some.injEq, Prod.mk.injEq] at i1
    exact ⟨ie, _, rfl, i1.1, i1.2.1, i1.2.2, rfl⟩
theorem info_I_open4 : ∃ ie z, Tryz.prog.info? 53 = some ie ∧ ie.zero = some z ∧ ie.size = 7 ∧ z.cells.size = 7 := by
  obtain ⟨ie, z, h1, h2, h3, _, h5⟩ := info_I_open
  exact ⟨ie, z, h1, h2, h3, h5⟩
theorem ic_mem (c p a n : Nat) : ∀ v ∈ ic c p a n, v.oneCell' = true := by
  have := ic_one c p a n
  rw [← Array.all_toList] at this
  exact List.all_eq_true.1 this
theorem info_int1 : (Tryz.prog.info? 3).map (·.size) = some 1 := by kernel_rfl
theorem info_Ls : (Tryz.prog.info? 42).map (·.size) = some 1 := by kernel_rfl

/-- What a program's bytes say, from a place on. -/
def pg (d : List (BitVec 8)) : Nat → Nat → Option (List Ins)
  | 0, _ => none
  | f + 1, p => if d.length ≤ p then some [] else match ri (d.drop p) with
    | none => none
    | some (c, a, n, s) => (pg d f (p + s)).map (⟨c, p, a, n⟩ :: ·)
theorem pg_end {d : List (BitVec 8)} {f p : Nat} (h : d.length ≤ p) : pg d (f + 1) p = some [] := if_pos h
theorem pg_none {d : List (BitVec 8)} {f p : Nat} (h : p < d.length) (hr : ri (d.drop p) = none) : pg d (f + 1) p = none := by
  unfold pg
  rw [if_neg (by omega), hr]
theorem pg_some {d : List (BitVec 8)} {f p c a n s : Nat} (h : p < d.length) (hr : ri (d.drop p) = some (c, a, n, s)) : pg d (f + 1) p = (pg d f (p + s)).map (⟨c, p, a, n⟩ :: ·) := by
  rw [pg, if_neg (by omega), hr]
/-- The program that some bytes are. -/
def chk (d : List (BitVec 8)) : Option (List Ins) := if d.length = 0 ∨ 1024 < d.length then none else match pg d (d.length + 1) 0 with
  | none => none
  | some ls => if leads ls = true then some ls else none
/-- What holds of a program's instructions. -/
def Gd (ls : List Ins) (p : Nat) : Prop := ∀ y ∈ ls, y.p < p ∧ y.c < 28 ∧ y.n < 65536 ∧ y.a < 2 ^ 256
theorem Gd.more {ls : List Ins} {p s : Nat} (h : Gd ls p) (x : Ins) (hx : x.p = p) (hs : 1 ≤ s) (hc : x.c < 28) (hn : x.n < 65536) (ha : x.a < 2 ^ 256) : Gd (ls ++ [x]) (p + s) := fun y hy => by
  rcases List.mem_append.1 hy with q | q
  · have := h y q; exact ⟨by omega, this.2.1, this.2.2.1, this.2.2.2⟩
  · obtain rfl := List.mem_singleton.1 q
    exact ⟨by omega, hc, hn, ha⟩
theorem nb_lt (b : List (BitVec 8)) : nb b < 2 ^ 256 := rdn_lt zb_lt
theorem ri_vals {b : List (BitVec 8)} {c a n s : Nat} (h : ri b = some (c, a, n, s)) : n < 65536 ∧ a < 2 ^ 256 := by
  cases b with
  | nil => cases h
  | cons x r =>
    unfold ri at h
    simp only at h
    split at h
    · cases h
    · split at h
      · cases h
      · split at h
        · cases h
        · rename_i a' n' hro
          simp only [Option.some.injEq, Prod.mk.injEq] at h
          obtain ⟨rfl, rfl, rfl, rfl⟩ := h
          unfold ro at hro
          have h0 := ((r.take (ow (oper x.toNat) r)).getD 0 0#8).isLt
          have h1 := ((r.take (ow (oper x.toNat) r)).getD 1 0#8).isLt
          have hp : 0 < 2 ^ 256 := Nat.two_pow_pos _
          split at hro
          · simp only [Option.some.injEq, Prod.mk.injEq] at hro
            obtain ⟨rfl, rfl⟩ := hro
            exact ⟨by decide, hp⟩
          · split at hro
            · cases hro
            · split at hro
              · simp only [Option.some.injEq, Prod.mk.injEq] at hro
                obtain ⟨rfl, rfl⟩ := hro
                exact ⟨by decide, nb_lt _⟩
              · split at hro
                · simp only [Option.some.injEq, Prod.mk.injEq] at hro
                  obtain ⟨rfl, rfl⟩ := hro
                  exact ⟨by omega, hp⟩
                · simp only [Option.some.injEq, Prod.mk.injEq] at hro
                  obtain ⟨rfl, rfl⟩ := hro
                  exact ⟨by omega, hp⟩
/-- A program that is being read. -/
structure Rs (w X : World) (q pp gs n : Nat) (v : Value) (ls : List Ins) : Prop where
  hq : Row X q zP 44
  hp : Row X pp [v, .slice (some ⟨gs, 0, none⟩) n n] 44
  own : Lw X 53 7 v ls.length (fl ls)
  st : Row X gs (vI (sts ls n)) 3
  be : Below w.heap.size w X
  qlo : q = w.heap.size
  plo : w.heap.size < pp
  glo : w.heap.size ≤ gs
  vlo : ∀ g, v.ownBlock = some g → w.heap.size ≤ g
theorem Rs.keep {w X Y : World} {q pp gs n : Nat} {v : Value} {ls : List Ins} (h : Rs w X q pp gs n v ls) (k : Below X.heap.size X Y) : Rs w Y q pp gs n v ls :=
  ⟨Row.below h.hq k h.hq.lt, Row.below h.hp k h.hp.lt, Lw.be h.own k, Row.below h.st k h.st.lt, h.be.trans (k.mono h.be.size), h.qlo, h.plo, h.glo, h.vlo⟩
theorem Rs.gro {w X Y : World} {q pp gs n : Nat} {v : Value} {ls : List Ins} (h : Rs w X q pp gs n v ls) {b : Nat} (k : Gro (· = b) X Y) (hb : X.heap.size ≤ b) : Rs w Y q pp gs n v ls := h.keep (k.to_below (Nat.le_refl _) (fun g e => by rw [e]; exact hb))
theorem row_ne2 {w : World} {b c : Nat} {cs ds : List Value} {t u : TypeId} (h : Row w b cs t) (k : Row w c ds u) (ht : t ≠ u) : b ≠ c := fun e => by
  subst e
  have := h.symm.trans k
  simp only [Option.some.injEq, Obj.cells.injEq] at this
  exact ht this.2.1

end Go.Proofs.YtclbiophgnkggaaGreatDoor
