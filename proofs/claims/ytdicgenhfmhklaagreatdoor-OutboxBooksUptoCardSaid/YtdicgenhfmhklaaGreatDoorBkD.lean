/-
  OutboxBooks: the document's Cut, Leaf, Texts; the program's Leaf where it refuses.
-/
import Derived.Test.YtdicgenhfmhklaaGreatDoorObD
import Derived.Test.YtdicgenhfmhklaaGreatDoorDwF
import Derived.Test.YtdicgenhfmhklaaGreatDoorOcB
import Derived.Test.YtdicgenhfmhklaaGreatDoorTApp
import Derived.Great.FillDense

namespace Go.Proofs.YtdicgenhfmhklaaGreatDoor
open Go Go.RowKit
open Sha

set_option maxRecDepth 100000 in
set_option maxHeartbeats 4000000 in
theorem bput_leaf (B : Nat) (ix en tk : Int) (rc : List (BitVec 8)) (am : List Nat) (hrc : rc.length = 20) (ham : am.length = 4) (hm : may ix en tk am = false) (L : List Value) (hL : L = lf ix en tk rc am) (w : World) :
    Calls Tryz.prog 12 #[.pointer (some ⟨B, 0, none⟩), .agg L.toArray] w fun e w' => e = .returned (.int .i64 110) ∧ Below w.heap.size w w' := by
  have HBY : Hid (∀ X, Calls Tryz.prog 11 #[.agg L.toArray] X fun e w' => e = .returned (.tuple #[.slice none 0 0, .int .i64 110]) ∧ Below X.heap.size X w') := fun X => bytes_no ix en tk rc am hrc ham hm L hL X
  have HI : Hid ((Tryz.prog.info? 40).map (·.size) = some L.length) := by rw [hL]; exact info_lf hrc ham
  clear hL hm hrc ham
  go_enter Tryz.func12, Tryz.ntmps12
  go_wp2_with (first
    | (refine wpList_boxG 40 rfl (.tmp 1) rfl L rfl ?_; intro X1 q1 q2 q3; have R1 : Hid (Row X1 w.heap.size L 40) := q1; have B1 : Hid (Below w.heap.size w X1) := q2; clear q1 q2 q3; simp only [Act.put, List.setIfInBounds_toArray, List.set_cons_zero, List.set_cons_succ])
    | (refine wpList_load_w rfl 40 (.tmp 3) rfl w.heap.size 0 rfl L _ R1.out.all Tryz.underlying40 rfl HI.out ?_; simp only [Act.put, List.setIfInBounds_toArray, List.set_cons_zero, List.set_cons_succ])
    | (go_at_call 11; refine Calls.mono (HBY.out X1) ?_; rintro e X2 ⟨rfl, q⟩; have B2 : Hid (Below w.heap.size w X2) := B1.out.trans (q.mono B1.out.size); clear q))
  go_ret
  exact ⟨rfl, B2.out⟩
set_option maxRecDepth 100000 in
set_option maxHeartbeats 4000000 in
theorem bput_ix (w0 : World) (B : Nat) (v : Value) (ts : List (List (BitVec 8))) (ix en tk : Int) (rc : List (BitVec 8)) (am : List Nat) (hrc : rc.length = 20) (ham : am.length = 4) (hq4 : ∀ x ∈ am, x < 18446744073709551616) (hm : may ix en tk am = true) (hix : ix ≠ (ts.length : Int)) (L : List Value) (hL : L = lf ix en tk rc am) (w : World) (hb : Bk w0 w B v ts) :
    Calls Tryz.prog 12 #[.pointer (some ⟨B, 0, none⟩), .agg L.toArray] w fun e w' => e = .returned (.int .i64 111) ∧ Below w.heap.size w w' := by
  obtain ⟨A, cap, hv⟩ := hb.form
  subst hv
  obtain ⟨N, hN⟩ : ∃ N, N = ts.length := ⟨_, rfl⟩
  rw [← hN] at hix
  have HBY : Hid (∀ X, Calls Tryz.prog 11 #[.agg L.toArray] X fun e w' => ∃ A n cap, e = .returned (.tuple #[.slice A n cap, .int .i64 0]) ∧ Below X.heap.size X w') := fun X => by
    refine (bytes_ok _ en tk rc am hrc ham hq4 hm L hL X).mono ?_
    rintro e w' ⟨A, n, cap, _, q1, q2, _, q3⟩
    exact ⟨A, n, cap, q1, q3⟩
  have HI : Hid ((Tryz.prog.info? 40).map (·.size) = some L.length) := by rw [hL]; exact info_lf hrc ham
  have HCL : Hid (L[0]? = some (.int .i64 ix)) := by rw [hL]; exact rfl
  have HBK : Hid (Bk w0 w B (.slice A N cap) ts) := by rw [hN]; exact hb
  have hne2 : (ix == (N : Int)) = false := by simpa using hix
  have hne3 : (ix != (N : Int)) = true := by simpa using hix
  clear hL hm hq4 hrc ham hb hN
  go_enter Tryz.func12, Tryz.ntmps12
  go_upto_region 4 with (first
    | (refine wpList_boxG 40 rfl (.tmp 1) rfl L rfl ?_; intro X1 q1 q2 q3; have R1 : Hid (Row X1 w.heap.size L 40) := q1; have B1 : Hid (Below w.heap.size w X1) := q2; clear q1 q2 q3; simp only [Act.put, List.setIfInBounds_toArray, List.set_cons_zero, List.set_cons_succ])
    | (refine wpList_load_w rfl 40 (.tmp 3) rfl w.heap.size 0 rfl L _ R1.out.all Tryz.underlying40 rfl HI.out ?_; simp only [Act.put, List.setIfInBounds_toArray, List.set_cons_zero, List.set_cons_succ])
    | (go_at_call 11; refine Calls.mono (HBY.out X1) ?_; rintro e X2 ⟨A2, n2, c2, rfl, q2⟩; have B2 : Hid (Below w.heap.size w X2) := B1.out.trans (q2.mono B1.out.size); have R2 : Hid (Row X2 w.heap.size L 40) := Row.below R1.out q2 R1.out.lt; clear q2))
  have K2 : Hid (Bk w0 X2 B (.slice A N cap) ts) := HBK.out.keep B2.out
  have c0 := R2.out.cell 0 _ HCL.out
  have cB := K2.out.row.cell 0 _ rfl
  have HLN : Hid (∀ X, Calls Tryz.prog 9 #[.slice A N cap] X fun e w' => e = .returned (.int .i64 (N : Int)) ∧ w' = X) := fun X => len_any A N cap X
  go_wp2_with fail
  go_quiet (first | (go_at_call 9; exact (HLN.out (X2.drewN _)).mono (fun _ _ h => ⟨h.1, _, h.2⟩)))
  generalize hX3 : X2.drewN _ = X3
  have D3 : Below X2.heap.size X2 X3 := by rw [← hX3]; exact ⟨rfl, rfl, rfl, Nat.le_refl _, fun _ _ => rfl⟩
  have B3 : Hid (Below w.heap.size w X3) := B2.out.trans (D3.mono B2.out.size)
  clear hX3 D3 B2 K2 c0 cB R2 HLN
  go_wp2_with fail
  go_ret
  exact ⟨rfl, B3.out⟩

end Go.Proofs.YtdicgenhfmhklaaGreatDoor

namespace Go.Proofs.YtdicgenhfmhklaaGreatDoor
open Go Go.RowKit
open Sha

/-- A leaf's fields. -/
structure Lv11 where
  ix : Int
  en : Int
  tk : Int
  rc : List (BitVec 8)
  am : List Nat
structure Lv11.Ok (l : Lv11) : Prop where
  rc : l.rc.length = 20
  am : l.am.length = 4
  q : ∀ x ∈ l.am, x < 18446744073709551616
def Lv11.cells (l : Lv11) : List Value := lf l.ix l.en l.tk l.rc l.am
def Lv11.may (l : Lv11) : Bool := Go.Proofs.YtdicgenhfmhklaaGreatDoor.may l.ix l.en l.tk l.am
def Lv11.bytes (l : Lv11) : List (BitVec 8) := lfb l.ix l.en l.tk l.rc l.am
theorem Lv11.len {l : Lv11} (h : l.Ok) : l.cells.length = 27 := lf_len h.rc h.am
theorem Lv11.info {l : Lv11} (h : l.Ok) : (Tryz.prog.info? 40).map (·.size) = some l.cells.length := info_lf h.rc h.am
/-- The document's book in memory: read alone. -/
def LfA (w : World) (A : Option Addr) (ls : List Lv11) : Prop := ∀ (i : Nat) (l : Lv11), ls[i]? = some l → l.Ok ∧ ∃ b o, A = some ⟨b, o, none⟩ ∧ w.rangeAt b (o + i * 27) l.cells
theorem LfA.be {w w' : World} {A : Option Addr} {ls : List Lv11} (h : LfA w A ls) (k : Below w.heap.size w w') : LfA w' A ls := fun i l hl => by
  obtain ⟨h1, b, o, h2, h3⟩ := h i l hl
  exact ⟨h1, b, o, h2, range_be h3 k⟩
theorem LfA.take {w : World} {A : Option Addr} {ls : List Lv11} (h : LfA w A ls) (n : Nat) : LfA w A (ls.take n) := fun i l hl => h i l (by
  by_cases z : i < n
  · rw [List.getElem?_take_of_lt z] at hl; exact hl
  · rw [List.getElem?_eq_none (by rw [List.length_take]; omega)] at hl; cases hl)
def lcs (ls : List Lv11) : List Value := ls.flatMap Lv11.cells
theorem lcs_snoc (ls : List Lv11) (l : Lv11) : lcs (ls ++ [l]) = lcs ls ++ l.cells := by simp [lcs]
theorem lcs_len {ls : List Lv11} (h : ∀ l ∈ ls, l.Ok) : (lcs ls).length = ls.length * 27 := by
  induction ls with
  | nil => rfl
  | cons x ls ih =>
    have : lcs (x :: ls) = x.cells ++ lcs ls := rfl
    rw [this, List.length_append, Lv11.len (h x (List.mem_cons_self ..)), ih (fun y hy => h y (List.mem_cons_of_mem _ hy)), List.length_cons]
    omega
theorem lcs_at {ls : List Lv11} (h : ∀ l ∈ ls, l.Ok) {i : Nat} {l : Lv11} (hi : ls[i]? = some l) (j : Nat) (u : Value) (hj : l.cells[j]? = some u) : (lcs ls)[i * 27 + j]? = some u := by
  induction ls generalizing i with
  | nil => cases hi
  | cons x ls ih =>
    have e : lcs (x :: ls) = x.cells ++ lcs ls := rfl
    have hx := Lv11.len (h x (List.mem_cons_self ..))
    cases i with
    | zero =>
      cases hi
      rw [e, Nat.zero_mul, Nat.zero_add, List.getElem?_append_left ((List.getElem?_eq_some_iff.1 hj).1)]
      exact hj
    | succ i =>
      rw [e, List.getElem?_append_right (by omega), hx, show (i + 1) * 27 + j - 27 = i * 27 + j by omega]
      exact ih (fun y hy => h y (List.mem_cons_of_mem _ hy)) hi
theorem LfA.of {w : World} {A : Option Addr} {n c : Nat} {ls : List Lv11} (h : Lw w 40 27 (.slice A n c) n (lcs ls)) (hn : ls.length = n) (hok : ∀ l ∈ ls, l.Ok) : LfA w A ls := fun i l hl => by
  obtain ⟨g, cap', hv, _⟩ := Lw.open h (by have := (List.getElem?_eq_some_iff.1 hl).1; omega)
  simp only [Value.slice.injEq, true_and] at hv
  obtain ⟨rfl, rfl⟩ := hv
  exact ⟨hok l (List.mem_of_getElem? hl), g, 0, rfl, fun j u hj => by
    have := Lw.range h (i * 27 + j) u (lcs_at hok hl j u hj)
    rwa [show 0 + (i * 27 + j) = 0 + i * 27 + j by omega] at this⟩
theorem info_lfAll : (Tryz.prog.info? 40).map (fun i => (i.size, i.bytes)) = some (27, 80) := by kernel_rfl
theorem info_lfZ : ((Tryz.prog.info? 40).bind (·.zero)).map (·.cells.size) = some 27 := by kernel_rfl
theorem info_lfO : ∃ ie z, Tryz.prog.info? 40 = some ie ∧ ie.zero = some z ∧ ie.size = 27 ∧ ie.bytes = 80 ∧ z.cells.size = 27 := by
  have i1 := info_lfAll
  have i2 := info_lfZ
  cases hi : Tryz.prog.info? 40 with
  | none => rw [hi] at i1; cases i1
  | some ie =>
    rw [hi] at i1 i2
    simp only [Option.map_some, Option.some.injEq, Prod.mk.injEq] at i1
    cases hz : ie.zero with
    | none => simp [hz] at i2
    | some z => exact ⟨ie, z, rfl, hz, i1.1, i1.2, by simpa [hz] using i2⟩
theorem info_lf27 : (Tryz.prog.info? 40).map (·.size) = some 27 := by kernel_rfl
set_option maxRecDepth 100000 in
set_option maxHeartbeats 4000000 in
theorem rput_no (l : Lv11) (hl : l.Ok) (A : Option Addr) (n c : Nat) (E : Int) (hE : (l.may = false ∧ E = 110) ∨ (l.may = true ∧ l.ix ≠ (n : Int) ∧ E = 111)) (L : List Value) (hL : L = l.cells) (w : World) :
    Calls Tryz.prog 15 #[.slice A n c, .agg L.toArray] w fun r w' => r = .returned (.tuple #[.slice A n c, .int .i64 E]) ∧ Below w.heap.size w w' := by
  have HI : Hid ((Tryz.prog.info? 40).map (·.size) = some L.length) := by rw [hL]; exact Lv11.info hl
  have HM : Hid (∀ X, Calls Tryz.prog 38 #[.agg L.toArray] X fun e w' => e = .returned (.bool l.may) ∧ Below X.heap.size X w') := fun X => may_doc _ _ _ _ _ hl.rc hl.am L hL X
  have HCL : Hid (L[0]? = some (.int .i64 l.ix)) := by rw [hL]; exact rfl
  clear hL hl
  rcases hE with ⟨h1, rfl⟩ | ⟨h1, h2, rfl⟩
  · rw [h1] at HM
    clear h1
    go_enter Tryz.func15, Tryz.ntmps15
    go_wp2_with (first
      | (refine wpList_boxG 40 rfl (.tmp 1) rfl L rfl ?_; intro X1 q1 q2 q3; have R1 : Hid (Row X1 w.heap.size L 40) := q1; have B1 : Hid (Below w.heap.size w X1) := q2; clear q1 q2 q3; simp only [Act.put, List.setIfInBounds_toArray, List.set_cons_zero, List.set_cons_succ])
      | (refine wpList_load_w rfl 40 (.tmp 3) rfl w.heap.size 0 rfl L _ R1.out.all Tryz.underlying40 rfl HI.out ?_; simp only [Act.put, List.setIfInBounds_toArray, List.set_cons_zero, List.set_cons_succ])
      | (go_at_call 38; refine Calls.mono (HM.out X1) ?_; rintro e X2 ⟨rfl, q⟩; have B2 : Hid (Below w.heap.size w X2) := B1.out.trans (q.mono B1.out.size); clear q))
    go_ret2
    exact ⟨rfl, B2.out⟩
  · rw [h1] at HM
    have h3 : (l.ix == (n : Int)) = false := by simpa using h2
    have h4 : (l.ix != (n : Int)) = true := by simpa using h2
    clear h1
    go_enter Tryz.func15, Tryz.ntmps15
    go_wp2_with (first
      | (refine wpList_boxG 40 rfl (.tmp 1) rfl L rfl ?_; intro X1 q1 q2 q3; have R1 : Hid (Row X1 w.heap.size L 40) := q1; have B1 : Hid (Below w.heap.size w X1) := q2; clear q1 q2 q3; simp only [Act.put, List.setIfInBounds_toArray, List.set_cons_zero, List.set_cons_succ])
      | (refine wpList_load_w rfl 40 (.tmp 3) rfl w.heap.size 0 rfl L _ R1.out.all Tryz.underlying40 rfl HI.out ?_; simp only [Act.put, List.setIfInBounds_toArray, List.set_cons_zero, List.set_cons_succ])
      | (go_at_call 38; refine Calls.mono (HM.out X1) ?_; rintro e X2 ⟨rfl, q⟩; have B2 : Hid (Below w.heap.size w X2) := B1.out.trans (q.mono B1.out.size); have c0 := (Row.below R1.out q R1.out.lt).cell 0 _ HCL.out; clear q))
    go_ret2
    exact ⟨rfl, B2.out⟩
set_option maxRecDepth 100000 in
set_option maxHeartbeats 4000000 in
theorem rcut_no (A : Option Addr) (n c : Nat) (k : Int) (hk : k < 0 ∨ (n : Int) < k) (w : World) :
    Calls Tryz.prog 22 #[.slice A n c, .int .i64 k] w fun r w' => r = .returned (.tuple #[.slice A n c, .int .i64 112]) ∧ w' = w := by
  rcases hk with h | h
  · have h2 : decide (k < 0) = true := decide_eq_true h
    go_enter Tryz.func22, Tryz.ntmps22
    go_wp2_with fail
    go_ret2
    exact ⟨rfl, rfl⟩
  · have h0 : ¬ (k < 0) := by omega
    have h1 : decide (k < 0) = false := decide_eq_false h0
    have h2 : decide ((n : Int) < k) = true := decide_eq_true h
    have h3 : ¬ (k ≤ (n : Int)) := by omega
    go_enter Tryz.func22, Tryz.ntmps22
    go_wp2_with fail
    go_ret2
    exact ⟨rfl, rfl⟩

end Go.Proofs.YtdicgenhfmhklaaGreatDoor

namespace Go.Proofs.YtdicgenhfmhklaaGreatDoor
open Go Go.RowKit
open Sha

section
variable {ops : Array Oper} {rest : List Oper} {op : Oper} {a : Act} {w : World} {Q : Exit → Act → World → Prop}
theorem wpList_bLf (hgd : op.guard = none) (x : Operand) (ho : op.op = .buildSlice 31 1 #[(0, x)]) (L : List Value) (hL : L.length = 27) (hx : a.eval x = .agg L.toArray)
    (h : ∀ X, Row X w.heap.size L 40 → Below w.heap.size w X → wpList Tryz.prog ops Q rest (a.put op.dst (.slice (some ⟨w.heap.size, 0, none⟩) 1 1)) X) : wpList Tryz.prog ops Q (op :: rest) a w := by
  obtain ⟨ie, z, h1, h2, h3, _, h4⟩ := info_lfO
  refine wpList_buildSlice hgd 31 40 1 _ ho L.toArray ie z Tryz.underlying31 h1 h2 (by rw [h3]; omega) (by rw [h3]; omega) ?_ (h _ (Row.new' rfl rfl) ((Below.refl _ _).alloc (Nat.le_refl _) _))
  rw [show (Array.map (fun (p : Nat × Operand) => match p with | (i, x) => (i, a.eval x)) #[(0, x)]).toList = [(0, a.eval x)] by simp, hx, h3]
  exact fill_one 27 (by decide) _ _ (by simp [hL]) (by simp)
theorem wpList_ixF {P : Program} (T e : TypeId) (x y : Operand) (ho : op.op = .indexAddr T x y) (b f n c t s q : Nat) (hq : f + t * s = q) (hx : a.eval x = .slice (some ⟨b, f, none⟩) n c) (hy : a.eval y = .int .i64 (t : Int)) (ht : t < n)
    (hu : P.underlying T = some (.slice e)) (hs : (P.info? e).map (·.size) = some s) (hw : Region.wanted op (yielded ops a.tmps) = true) (h : wpList P ops Q rest (a.put op.dst (.pointer (some ⟨b, q, none⟩))) w) : wpList P ops Q (op :: rest) a w :=
  BigFrame.wpList_want hw fun _ hK => by
    cases hi : P.info? e with
    | none => simp [hi] at hs
    | some i =>
      have h4 : i.size = s := by simpa [hi] using hs
      have hr : (Instr.indexAt T (.slice (some ⟨b, f, none⟩) n c) (.int .i64 (t : Int))).run P w = .ok (.pointer (some ⟨b, q, none⟩)) w := by
        simp [Instr.indexAt, run_underlying hu, asIntOf, ht, sizeOf, typeInfo, hi, h4, Addr.add_mid, hq]
      unfold Oper.wp execOp
      simp only [ho, hx, hy, Sem.run_bind, hr, Result.andThen_ok, Sem.run_pure, Oper.upon_value]
      exact hK _ _ h
end
set_option maxRecDepth 100000 in
set_option maxHeartbeats 8000000 in
theorem rput_ok (ls : List Lv11) (l : Lv11) (hl : l.Ok) (A : Option Addr) (n c : Nat) (hn : ls.length = n) (hnb : n ≤ 1000000) (hm : l.may = true) (hix : l.ix = (n : Int)) (L : List Value) (hL : L = l.cells) (w : World) (hA : LfA w A ls) :
    Calls Tryz.prog 15 #[.slice A n c, .agg L.toArray] w fun r w' => ∃ A' c', r = .returned (.tuple #[.slice A' (n + 1) c', .int .i64 0]) ∧ Lw w' 40 27 (.slice A' (n + 1) c') (n + 1) (lcs (ls ++ [l])) ∧ Below w.heap.size w w' := by
  have HI : Hid ((Tryz.prog.info? 40).map (·.size) = some L.length) := by rw [hL]; exact Lv11.info hl
  have HM : Hid (∀ X, Calls Tryz.prog 38 #[.agg L.toArray] X fun e w' => e = .returned (.bool true) ∧ Below X.heap.size X w') := fun X => by have := may_doc l.ix l.en l.tk l.rc l.am hl.rc hl.am L hL X; rw [show Go.Proofs.YtdicgenhfmhklaaGreatDoor.may l.ix l.en l.tk l.am = true from hm] at this; exact this
  have HCL : Hid (L[0]? = some (.int .i64 (n : Int))) := by rw [hL, ← hix]; exact rfl
  have HLL : Hid (L.length = 27) := by show _ = _; rw [hL]; exact Lv11.len hl
  have HLO : Hid (∀ v ∈ L, v.oneCell' = true) := by rw [hL]; exact lf_one
  have HLC : Hid (L = l.cells) := hL
  have HA : Hid (LfA w A ls) := hA
  have HN : Hid (ls.length = n) := hn
  clear hL hl hm hix hA hn
  go_enter Tryz.func15, Tryz.ntmps15
  go_upto_region 5 with (first
    | (refine wpList_boxG 40 rfl (.tmp 1) rfl L rfl ?_; intro X1 q1 q2 q3; have R1 : Hid (Row X1 w.heap.size L 40) := q1; have B1 : Hid (Below w.heap.size w X1) := q2; clear q1 q2 q3; simp only [Act.put, List.setIfInBounds_toArray, List.set_cons_zero, List.set_cons_succ])
    | (refine wpList_load_w rfl 40 (.tmp 3) rfl w.heap.size 0 rfl L _ R1.out.all Tryz.underlying40 rfl HI.out ?_; simp only [Act.put, List.setIfInBounds_toArray, List.set_cons_zero, List.set_cons_succ])
    | (go_at_call 38; refine Calls.mono (HM.out X1) ?_; rintro e X2 ⟨rfl, q⟩; have B2 : Hid (Below w.heap.size w X2) := B1.out.trans (q.mono B1.out.size); have R2 : Hid (Row X2 w.heap.size L 40) := Row.below R1.out q R1.out.lt; have c0 := R2.out.cell 0 _ HCL.out; clear q))
  clear HM R1 B1 c0
  obtain ⟨bl, hbl⟩ : ∃ b, b = w.heap.size := ⟨_, rfl⟩
  have HBL : Hid (bl = w.heap.size) := hbl
  rw [← hbl] at R2 ⊢
  clear hbl
  go_wp2_with fail
  go_loopw [6, 7] (fun v6 v7 wr => ∃ (i : Nat) (A' : Option Addr) (c' : Nat), i ≤ n ∧ v7 = .int .i64 (i : Int) ∧ v6 = .slice A' i c' ∧ Hid (Lw wr 40 27 (.slice A' i c') i (lcs (ls.take i)) ∧ (∀ g, (Value.slice A' i c').ownBlock = some g → X2.heap.size ≤ g) ∧ Below X2.heap.size X2 wr)) (fun _ v7 _ => n - (intOf v7).toNat)
  case atStart => exact ⟨0, none, 0, Nat.zero_le _, rfl, rfl, Lw.nil _ _ _, (fun g e => by cases e), Below.refl _ _⟩
  case round =>
    obtain ⟨i, A', c', hi, rfl, rfl, HI0⟩ := hrel
    have HLW : Hid (Lw wr 40 27 (.slice A' i c') i (lcs (ls.take i))) := HI0.out.1
    have HG : Hid (∀ g, (Value.slice A' i c').ownBlock = some g → X2.heap.size ≤ g) := HI0.out.2.1
    have HBX : Hid (Below X2.heap.size X2 wr) := HI0.out.2.2
    have HB : Hid (Below w.heap.size w wr) := B2.out.trans (HBX.out.mono B2.out.size)
    clear HI0
    by_cases hlt : i < n
    · have hlt2 : (i : Int) < (n : Int) := by omega
      obtain ⟨x, hx⟩ : ∃ x, ls[i]? = some x := ⟨_, List.getElem?_eq_getElem (by rw [HN.out]; exact hlt)⟩
      obtain ⟨hxo, b, o, rfl, hrg⟩ := HA.out i x hx
      obtain ⟨M, hM⟩ : ∃ M, M = x.cells := ⟨_, rfl⟩
      obtain ⟨q, hq⟩ : ∃ q, q = o + i * 27 := ⟨_, rfl⟩
      rw [← hM, ← hq] at hrg
      have HQ : Hid (o + i * 27 = q) := hq.symm
      have HRG : Hid (wr.rangeAt b q M) := range_be hrg HB.out
      have HMI : Hid ((Tryz.prog.info? 40).map (·.size) = some M.length) := by rw [hM]; exact Lv11.info hxo
      have HML : Hid (M.length = 27) := by show _ = _; rw [hM]; exact Lv11.len hxo
      have HMO : Hid (∀ v ∈ M, v.oneCell' = true) := by rw [hM]; exact lf_one
      have HTE : Hid (lcs (ls.take (i + 1)) = lcs (ls.take i) ++ M) := by show _ = _; rw [List.take_add_one, hx, hM]; exact lcs_snoc _ _
      have htn : i < n := hlt
      clear hx hxo hrg hM hq
      go_wp2_with (first
        | (refine wpList_ixF 31 40 (.tmp 25) (.tmp 26) rfl b o n c i 27 q HQ.out rfl rfl htn Tryz.underlying31 info_lf27 rfl ?_; simp only [Act.put, List.setIfInBounds_toArray, List.set_cons_zero, List.set_cons_succ])
        | (refine wpList_load_w rfl 40 (.tmp 27) rfl b q rfl M _ HRG.out Tryz.underlying40 rfl HMI.out ?_; simp only [Act.put, List.setIfInBounds_toArray, List.set_cons_zero, List.set_cons_succ])
        | (refine wpList_bLf rfl (.tmp 28) rfl M HML.out rfl ?_; intro Y2 q1 q2; have RE : Hid (Row Y2 wr.heap.size M 40) := q1; have LY2 : Hid (Lw Y2 40 27 (.slice A' i c') i (lcs (ls.take i))) := Lw.be HLW.out q2; have BY2 : Hid (Below X2.heap.size X2 Y2) := HBX.out.trans (q2.mono HBX.out.size); clear q1 q2; simp only [Act.put, List.setIfInBounds_toArray, List.set_cons_zero, List.set_cons_succ])
        | (refine wpList_appL 31 40 27 80 Tryz.underlying31 info_lfO (by decide) (by decide) rfl (.tmp 24) (.tmp 29) rfl (.slice A' i c') i (lcs (ls.take i)) M rfl LY2.out wr.heap.size HML.out rfl RE.out.all HMO.out (by omega) ?_; intro v9 Y3 q1 q2 q3; obtain ⟨A9, c9, e9, _, _⟩ := Lw.form q1; subst e9; have FL : Hid (Lw Y3 40 27 (.slice A9 (i + 1) c9) (i + 1) (lcs (ls.take (i + 1))) ∧ (∀ g, (Value.slice A9 (i + 1) c9).ownBlock = some g → X2.heap.size ≤ g) ∧ Below X2.heap.size X2 Y3) := ⟨(by rw [HTE.out]; exact q1), (fun g0 e0 => by rcases q3 with z | z; (exact HG.out g0 (by rw [← z]; exact e0)); (rw [z] at e0; cases e0; exact BY2.out.size)), below_gb BY2.out q2 (fun g0 e0 => HG.out g0 e0)⟩; clear q1 q2 q3; simp only [Act.put, List.setIfInBounds_toArray, List.set_cons_zero, List.set_cons_succ]))
      exact ⟨⟨i + 1, A9, c9, hlt, by go_num, rfl, FL⟩, by simp [intOf]; omega⟩
    have hlt2 : ¬ ((i : Int) < (n : Int)) := by omega
    have hin : i = n := by omega
    have R3 : Hid (Row wr bl L 40) := Row.below R2.out HBX.out R2.out.lt
    have HIE : Hid (i = n) := hin
    have HTA : Hid (lcs (ls.take i) = lcs ls) := by show _ = _; rw [List.take_of_length_le (by rw [HN.out, hin]; exact Nat.le_refl _)]
    have hib : i ≤ 1000000 := by omega
    clear hlt hin
    go_wp2_with (first
      | (refine wpList_load_w rfl 40 (.tmp 3) rfl bl 0 rfl L _ R3.out.all Tryz.underlying40 rfl HI.out ?_; simp only [Act.put, List.setIfInBounds_toArray, List.set_cons_zero, List.set_cons_succ])
      | (refine wpList_bLf rfl (.tmp 32) rfl L HLL.out rfl ?_; intro Y2 q1 q2; have RE : Hid (Row Y2 wr.heap.size L 40) := q1; have LY2 : Hid (Lw Y2 40 27 (.slice A' i c') i (lcs (ls.take i))) := Lw.be HLW.out q2; have BY2 : Hid (Below X2.heap.size X2 Y2) := HBX.out.trans (q2.mono HBX.out.size); clear q1 q2; simp only [Act.put, List.setIfInBounds_toArray, List.set_cons_zero, List.set_cons_succ])
      | (refine wpList_appL 31 40 27 80 Tryz.underlying31 info_lfO (by decide) (by decide) rfl (.tmp 31) (.tmp 33) rfl (.slice A' i c') i (lcs (ls.take i)) L rfl LY2.out wr.heap.size HLL.out rfl RE.out.all HLO.out hib ?_; intro v9 Y3 q1 q2 q3; obtain ⟨A9, c9, e9, _, _⟩ := Lw.form q1; subst e9; have FL : Hid (Lw Y3 40 27 (.slice A9 (i + 1) c9) (i + 1) (lcs (ls ++ [l]))) := (by rw [HTA.out] at q1; rw [lcs_snoc, ← HLC.out]; exact q1); have FB : Hid (Below w.heap.size w Y3) := B2.out.trans ((below_gb BY2.out q2 (fun g0 e0 => HG.out g0 e0)).mono B2.out.size); clear q1 q2 q3; simp only [Act.put, List.setIfInBounds_toArray, List.set_cons_zero, List.set_cons_succ]))
    go_ret2
    exact ⟨A9, c9, by rw [HIE.out]; rfl, by rw [← HIE.out]; exact FL.out, FB.out⟩

end Go.Proofs.YtdicgenhfmhklaaGreatDoor

namespace Go.Proofs.YtdicgenhfmhklaaGreatDoor
open Go Go.RowKit
open Sha

section
variable {Q : Exit → Act → World → Prop} {o : Oper} {a : Act} {w : World} {K : Act → World → Prop}
theorem wp_cutK (t e : TypeId) (x z : Operand) (A : Option Addr) (n cap j s : Nat) (ho : o.op = .slice t x none (some z) none) (hx : a.eval x = .slice A n cap) (hz : a.eval z = .int .i64 (j : Int)) (hj : j ≤ cap)
    (hu : Tryz.prog.underlying t = some (.slice e)) (hs : (Tryz.prog.info? e).map (·.size) = some s) (h : K (a.put o.dst (.slice A j cap)) w) : Oper.wp Tryz.prog o a w K Q := by
  cases hq : Tryz.prog.info? e with
  | none => simp [hq] at hs
  | some ie =>
    have h1 : ie.size = s := by simpa [hq] using hs
    have hr : (Instr.sliceAt t (.slice A n cap) none (some (.int .i64 (j : Int))) none).run Tryz.prog w = .ok (.slice A j cap) w := by
      have e0 : (0 : Int) ≤ (j : Int) := by omega
      have e1 : (j : Int) ≤ (cap : Int) := by omega
      simp only [Instr.sliceAt, Instr.slice, run_underlying hu, Instr.sliceBounds, Instr.sliceBound, asIntOf, sizeOf, typeInfo, Sem.run_bind, Sem.run_pure, Result.andThen_ok, e0, e1, and_self, if_true, Int.toNat_natCast]
      simp [go_sem]
      rw [hq]
      simp [go_sem, h1]
      try (cases A <;> simp [Addr.add])
      try omega
    unfold Oper.wp execOp
    simp only [ho, hx, hz, Option.map_some, Option.map_none, Sem.run_bind, hr, Result.andThen_ok, Sem.run_pure, Oper.upon_value]
    exact h
end
set_option maxRecDepth 100000 in
set_option maxHeartbeats 4000000 in
theorem rcut_ok (A : Option Addr) (n c k : Nat) (hk : k ≤ n) (hc : n ≤ c) (w : World) :
    Calls Tryz.prog 22 #[.slice A n c, .int .i64 (k : Int)] w fun r w' => r = .returned (.tuple #[.slice A k c, .int .i64 0]) ∧ w' = w := by
  have h0 : ¬ ((k : Int) < 0) := by omega
  have h1 : decide ((k : Int) < 0) = false := decide_eq_false h0
  have h2 : ¬ (n < k) := by omega
  have h3 : decide (n < k) = false := decide_eq_false h2
  have h4 : ¬ ((n : Int) < (k : Int)) := by omega
  have HC : Hid (k ≤ c) := Nat.le_trans hk hc
  clear hc
  go_enter Tryz.func22, Tryz.ntmps22
  go_wp2_with (refine wpList_plain rfl (fun _ hK => wp_cutK 31 40 (.tmp 15) (.tmp 16) A n c k 27 rfl rfl rfl HC.out Tryz.underlying31 info_lf27 (hK _ _ ?_)); simp only [Act.put, List.setIfInBounds_toArray, List.set_cons_zero, List.set_cons_succ])
  go_ret2
  exact ⟨rfl, rfl⟩
theorem built_Lz : Tryz.prog.built 40 [] = some zLf.toArray := by kernel_rfl
theorem wp_bLz {Q : Exit → Act → World → Prop} {o : Oper} {a : Act} {w : World} {K : Act → World → Prop} (ho : o.op = .build 40 #[]) (h : K (a.put o.dst (.agg zLf.toArray)) w) : Oper.wp Tryz.prog o a w K Q := by
  have hr := run_build (P := Tryz.prog) w 40 #[] _ built_Lz
  unfold Oper.wp execOp
  simp only [ho, List.map_toArray, List.map_nil, Sem.run_bind, hr, Result.andThen_ok, Sem.run_pure, Oper.upon_value]
  exact h
set_option maxRecDepth 100000 in
set_option maxHeartbeats 4000000 in
theorem rleaf_no (A : Option Addr) (n c : Nat) (k : Int) (hk : k < 0 ∨ (n : Int) ≤ k) (w : World) :
    Calls Tryz.prog 16 #[.slice A n c, .int .i64 k] w fun r w' => r = .returned (.tuple #[.agg zLf.toArray, .int .i64 111]) ∧ Below w.heap.size w w' := by
  have HZ : Hid (Tryz.prog.built 40 [] = some zLf.toArray) := by show _ = _; kernel_rfl
  have HZI : Hid ((Tryz.prog.info? 40).map (·.size) = some zLf.length) := by show _ = _; kernel_rfl
  have HZO : Hid (zLf.toArray.all (·.oneCell') = true) := lf_all
  rcases hk with h | h
  · have h2 : decide (k < 0) = true := decide_eq_true h
    go_enter Tryz.func16, Tryz.ntmps16
    go_wp2_with (first
      | (refine wpList_allocLf rfl rfl ?_; intro X0 q1 q2 q3; have RQ : Hid (Row X0 w.heap.size zLf 40) := q1; have B0 : Hid (Below w.heap.size w X0) := q2; clear q1 q2 q3; simp only [Act.put, List.setIfInBounds_toArray, List.set_cons_zero, List.set_cons_succ])
      | (refine BigFrame.wpList_want rfl (fun _ hK => wp_bLz rfl (hK _ _ ?_)); simp only [Act.put, List.setIfInBounds_toArray, List.set_cons_zero, List.set_cons_succ])
      | (refine wpList_storeL rfl 40 (.tmp 4) (.tmp 14) rfl w.heap.size zLf zLf 40 rfl rfl RQ.out rfl HZI.out HZO.out ?_; intro X9 q1 q2; have B9 : Hid (Below w.heap.size w X9) := (by rw [q1]; exact below_setCells B0.out (Nat.le_refl _) _); have R9 : Hid (Row X9 w.heap.size zLf 40) := q2; clear q1 q2; simp only [Act.put]))
    exact bodyPost_ret (results_rowS_tmp Tryz.results16 _ _ w.heap.size 40 zLf (.int .i64 111) rfl rfl R9.out Tryz.underlying40 info_lf27) rfl ⟨rfl, B9.out⟩
  · have h0 : ¬ (k < 0) := by omega
    have h1 : decide (k < 0) = false := decide_eq_false h0
    have h2 : decide ((n : Int) ≤ k) = true := decide_eq_true h
    go_enter Tryz.func16, Tryz.ntmps16
    go_wp2_with (first
      | (refine wpList_allocLf rfl rfl ?_; intro X0 q1 q2 q3; have RQ : Hid (Row X0 w.heap.size zLf 40) := q1; have B0 : Hid (Below w.heap.size w X0) := q2; clear q1 q2 q3; simp only [Act.put, List.setIfInBounds_toArray, List.set_cons_zero, List.set_cons_succ])
      | (refine BigFrame.wpList_want rfl (fun _ hK => wp_bLz rfl (hK _ _ ?_)); simp only [Act.put, List.setIfInBounds_toArray, List.set_cons_zero, List.set_cons_succ])
      | (refine wpList_storeL rfl 40 (.tmp 4) (.tmp 14) rfl w.heap.size zLf zLf 40 rfl rfl RQ.out rfl HZI.out HZO.out ?_; intro X9 q1 q2; have B9 : Hid (Below w.heap.size w X9) := (by rw [q1]; exact below_setCells B0.out (Nat.le_refl _) _); have R9 : Hid (Row X9 w.heap.size zLf 40) := q2; clear q1 q2; simp only [Act.put]))
    exact bodyPost_ret (results_rowS_tmp Tryz.results16 _ _ w.heap.size 40 zLf (.int .i64 111) rfl rfl R9.out Tryz.underlying40 info_lf27) rfl ⟨rfl, B9.out⟩

end Go.Proofs.YtdicgenhfmhklaaGreatDoor
