/-
  The vault: what is had of a token from now on, laid; the set's numbers.
-/
import Derived.Test.YtkbdnebmekhcdaaEsB
import Derived.Test.YtkbdnebmekhcdaaXMem
import Derived.Deep.RegionLaw
import Derived.BigRegion
import Derived.Laws.Cover3

namespace Go.Proofs.Ytkbdnebmekhcdaa
open Go Go.RowKit Go.Maps
open Wd

/-- What a vault says: of each token, of each word of indices, of bonds. -/
structure St where
  T : Int → Option (Bool × Nat)
  U : Int → BitVec 64
  L : Nat
structure St.Ok (s : St) : Prop where
  t : ∀ x p, s.T x = some p → p.2 < 2 ^ 256
  l : s.L < 2 ^ 256
def encT (T : Int → Option (Bool × Nat)) (x : Int) : Option Value := (T x).map fun p => .agg (hcs p.1 p.2).toArray
def vcs (m1 m2 : Value) (L : Nat) : List Value := m1 :: m2 :: vQ (dgs L 4)
/-- The blocks of a map's value. -/
def Own1 (m : Value) (g : Nat) : Prop := m = .map (some g)
/-- The vault lies at p; its maps are m1, m2, of at most c entries. -/
structure Vt (w : World) (p c : Nat) (m1 m2 : Value) (s : St) : Prop where
  row : Row w p (vcs m1 m2 s.L) tV
  tk : Mv w m1 c (encT s.T)
  pd : ∃ g, Mv w m2 c g ∧ ∀ x, I64 x → (g x).getD (.int .u64 0) = vw (s.U x)
  ap : ∀ g, Own1 m1 g → ¬ Own1 m2 g
  ok : s.Ok
/-- What may change when the vault does. -/
def Vb (p : Nat) (m1 m2 : Value) (g : Nat) : Prop := g = p ∨ Own1 m1 g ∨ Own1 m2 g
/-- The same map, or a new one. -/
def Nw (w : World) (m m' : Value) : Prop := m' = m ∨ ∀ g, Own1 m' g → w.heap.size ≤ g

theorem Mv.notrow {w : World} {m : Value} {n c : Nat} {f : Int → Option Value} {cs : List Value} {t : TypeId} (h : Mv w m n f) (r : Row w c cs t) : ¬ Own1 m c := by
  rintro e
  rcases h with ⟨rfl, _⟩ | ⟨b, rfl, h⟩
  · cases e
  · cases e; exact h.no_row r rfl
/-- Others' blocks turn. -/
theorem Vt.gro {w w' : World} {p c : Nat} {m1 m2 : Value} {s : St} {R : Nat → Prop} (h : Vt w p c m1 m2 s) (g : Gro R w w') (hR : ∀ k, Vb p m1 m2 k → ¬ R k) : Vt w' p c m1 m2 s := by
  obtain ⟨g2, p1, p2⟩ := h.pd
  exact ⟨g.row h.row (hR p (.inl rfl)), h.tk.keep fun b hb hl => g.block b hl (hR b (.inr (.inl hb))), ⟨g2, p1.keep fun b hb hl => g.block b hl (hR b (.inr (.inr hb))), p2⟩, h.ap, h.ok⟩
theorem Vt.be {w w' : World} {p c : Nat} {m1 m2 : Value} {s : St} (h : Vt w p c m1 m2 s) (g : Below w.heap.size w w') : Vt w' p c m1 m2 s :=
  h.gro (R := fun _ => False) (Gro.of_below g) fun _ _ q => q
theorem Vt.mono {w : World} {p c d : Nat} {m1 m2 : Value} {s : St} (h : Vt w p c m1 m2 s) (hd : c ≤ d) : Vt w p d m1 m2 s := by
  obtain ⟨g2, p1, p2⟩ := h.pd
  exact ⟨h.row, h.tk.mono hd, ⟨g2, p1.mono hd, p2⟩, h.ap, h.ok⟩
theorem Vt.lt {w : World} {p c : Nat} {m1 m2 : Value} {s : St} (h : Vt w p c m1 m2 s) : p < w.heap.size := h.row.lt

theorem heap_sets (w : World) (g o : Nat) (vs : List Value) (k : Nat) (h : k ≠ g) : (w.setCells g o vs).heap[k]? = w.heap[k]? := by
  induction vs generalizing w o with
  | nil => rfl
  | cons v r ih => exact (ih (w.setCell ⟨g, o, none⟩ v) (o + 1)).trans (Below.heap_setCell _ _ _ _ h)
theorem gro_sets (w : World) (b o : Nat) (vs : List Value) : Gro (· = b) w (w.setCells b o vs) := by
  have q := below_setCells (Below.refl 0 w) (b := b) (o := o) (Nat.zero_le _) vs
  exact ⟨q.os, q.tape, q.output, q.size, fun k _ hn => heap_sets w b o vs k hn⟩
section
variable {P : Program} {ops : Array Oper} {rest : List Oper} {op : Oper} {a : Act} {w : World} {Q : Exit → Act → World → Prop}
theorem wpList_storeL (hgd : op.guard = none) (ty : TypeId) (x y : Operand) (ho : op.op = .store ty x y) (b : Nat) (L M : List Value) (t : TypeId) (hx : a.eval x = .pointer (some ⟨b, 0, none⟩)) (hy : a.eval y = .agg L.toArray) (r : Row w b M t) (hl : L.length = M.length) (hi : (P.info? ty).map (·.size) = some L.length) (h1 : L.toArray.all (·.oneCell') = true)
    (h : ∀ X, Row X b L t → Gro (· = b) w X → wpList P ops Q rest (a.put op.dst undef) X) : wpList P ops Q (op :: rest) a w :=
  wpList_store_mid hgd ty x y ho b 0 L.toArray hx hy (r.there 0 _ (by rw [List.size_toArray, hl, Nat.zero_add]; exact Nat.le_refl _)) (by rw [hi, List.size_toArray]) h1 (h _ (r.over hl) (gro_sets w b 0 L))
end
section
variable {ops : Array Oper} {rest : List Oper} {op : Oper} {a : Act} {w : World} {Q : Exit → Act → World → Prop}
theorem wpList_boxG (ty : TypeId) (hgd : op.guard = none) (x : Operand) (ho : op.op = .box ty x) (L : List Value) (hx : a.eval x = .agg L.toArray) (h : ∀ X, Row X w.heap.size L ty → Below w.heap.size w X → wpList Try.prog ops Q rest (a.put op.dst (.pointer (some ⟨w.heap.size, 0, none⟩))) X) : wpList Try.prog ops Q (op :: rest) a w :=
  wpList_plain hgd fun _ hK => by
    unfold Oper.wp execOp
    simp only [ho, hx]
    go_simp
    exact hK _ _ (h _ (Row.new' rfl rfl) ((Below.refl _ _).alloc (Nat.le_refl _) _))
theorem wpList_allocH (hgd : op.guard = none) (ho : op.op = .alloc tH) (h : ∀ X, Row X w.heap.size (hcs false 0) tH → Below w.heap.size w X → wpList Try.prog ops Q rest (a.put op.dst (.pointer (some ⟨w.heap.size, 0, none⟩))) X) : wpList Try.prog ops Q (op :: rest) a w :=
  wpList_plain hgd fun _ hK => by
    unfold Oper.wp execOp
    simp only [ho]
    go_simp
    exact hK _ _ (h _ (Row.new' (cs := hcs false 0) rfl rfl) ((Below.refl _ _).alloc (Nat.le_refl _) _))
theorem wpList_makeM (hgd : op.guard = none) (t : TypeId) (ho : op.op = .makeMap t none) (h : ∀ X, Mp X w.heap.size 0 (fun _ => none) → Below w.heap.size w X → wpList Try.prog ops Q rest (a.put op.dst (.map (some w.heap.size))) X) : wpList Try.prog ops Q (op :: rest) a w :=
  wpList_plain hgd fun _ hK => by
    unfold Oper.wp execOp
    simp only [ho]
    go_simp
    exact hK _ _ (h _ (Mp.made w) ((Below.refl _ _).alloc (Nat.le_refl _) _))
theorem wpList_set1 (hgd : op.guard = none) (ty : TypeId) (x y : Operand) (ho : op.op = .store ty x y)
    (b i : Nat) (v : Value) (cs : List Value) (t : TypeId) (hx : a.eval x = .pointer (some ⟨b, i, none⟩)) (hy : a.eval y = v) (hcs : v.cells = #[v]) (r : Row w b cs t) (hl : i < cs.length) (hi : (Try.prog.info? ty).map (·.size) = some 1) (h1 : v.oneCell' = true)
    (h : ∀ X, Row X b (cs.set i v) t → Gro (· = b) w X → wpList Try.prog ops Q rest (a.put op.dst undef) X) : wpList Try.prog ops Q (op :: rest) a w :=
  wpList_store1 hgd ty x y ho b i v hx hy hcs (r.there i 1 (by omega)) hi h1 (h _ (r.set i v) ((Gro.refl _ _).set b i v rfl))
theorem wpList_storeM (hgd : op.guard = none) (ty : TypeId) (x y : Operand) (ho : op.op = .store ty x y) (b o : Nat) (vs cs : List Value) (t : TypeId) (hx : a.eval x = .pointer (some ⟨b, o, none⟩)) (hy : a.eval y = .agg vs.toArray) (r : Row w b cs t) (hl : o + vs.length ≤ cs.length) (hi : (Try.prog.info? ty).map (·.size) = some vs.length) (h1 : vs.toArray.all (·.oneCell') = true)
    (h : ∀ X, Row X b (cs.take o ++ vs ++ cs.drop (o + vs.length)) t → Gro (· = b) w X → wpList Try.prog ops Q rest (a.put op.dst undef) X) : wpList Try.prog ops Q (op :: rest) a w :=
  wpList_store_mid hgd ty x y ho b o vs.toArray hx hy (r.there o _ (by rw [List.size_toArray]; exact hl)) (by rw [hi, List.size_toArray]) h1 (h _ (Row.setCells o vs r hl) (gro_sets w b o vs))
end
theorem results_rowS_tmp {P : Program} {fn : Func} {p q : Tmp} {ty : TypeId} {fs : Array Field} (h : fn.results = #[.cell p ty, .tmp q]) (tmps : Array Value) (w : World) (g : Nat) (t : TypeId) (cs : List Value) (v : Value)
    (hp : tmps.getD p undef = .pointer (some ⟨g, 0, none⟩)) (hv : tmps.getD q undef = v) (hg : Row w g cs t) (hu : P.underlying ty = some (.struct fs)) (hi : (P.info? ty).map (·.size) = some cs.length) :
    (results fn tmps).run P w = .ok (.tuple #[.agg cs.toArray, v]) w := by
  have hp' : tmps[p]?.getD undef = .pointer (some ⟨g, 0, none⟩) := by simpa using hp
  have hv' : tmps[q]?.getD undef = v := by simpa using hv
  have hr := run_loadVar_row (P := P) w g t ty cs.toArray (0, 0) (.struct fs) hg hu rfl (by simp [hi])
  simp [results, h, hp', hv', asAddr, hr]

/-! ### what is found of a token -/
def fnd (T : Int → Option (Bool × Nat)) (x : Int) : Bool × Nat × Int :=
  if x < 0 ∨ 64 ≤ x then (false, 0, 140) else match T x with | none => (false, 0, 141) | some p => (p.1, p.2, 0)
theorem hcs_info (s : Bool) (m : Nat) : (Try.prog.info? tH).map (·.size) = some (hcs s m).length := by rw [info_H, hcs_len]
theorem hcs_all (s : Bool) (m : Nat) : (hcs s m).toArray.all (·.oneCell') = true := all_oneCell_toArray (hcs_one s m)
theorem gro_new {b : Nat} {w X Y : World} (h1 : Below w.heap.size w X) (hb : w.heap.size ≤ b) (h2 : Gro (· = b) X Y) : Below w.heap.size w Y :=
  ⟨h2.os.trans h1.os, h2.tape.trans h1.tape, h2.output.trans h1.output, Nat.le_trans h1.size h2.size, fun k hk => (h2.block k (Nat.lt_of_lt_of_le hk h1.size) (by omega)).trans (h1.block k hk)⟩

set_option maxRecDepth 100000 in
set_option maxHeartbeats 4000000 in
theorem find_any {w : World} {p c : Nat} {m1 m2 : Value} {s : St} (hV : Vt w p c m1 m2 s) (x : Int) (s1 : Bool) (h1 : Nat) (E : Int) (hf : fnd s.T x = (s1, h1, E)) :
    Calls Try.prog 47 #[.pointer (some ⟨p, 0, none⟩), .int .i64 x] w fun e w' => e = .returned (.tuple #[.agg (hcs s1 h1).toArray, .int .i64 E]) ∧ Below w.heap.size w w' := by
  have HV : Hid (Vt w p c m1 m2 s) := hV
  have HF : Hid (fnd s.T x = (s1, h1, E)) := hf
  clear hV hf
  go_enter Try.func47, Try.ntmps47
  go_upto_region 1 with (refine wpList_allocH rfl rfl ?_; intro X1 q1 q2; have R4 : Hid (Row X1 w.heap.size (hcs false 0) tH) := q1; have B1 : Hid (Below w.heap.size w X1) := q2; clear q1 q2)
  obtain ⟨b4, hb4⟩ : ∃ b, b = w.heap.size := ⟨_, rfl⟩
  rw [← hb4] at R4 ⊢
  have HB4 : Hid (w.heap.size ≤ b4) := by show _ ≤ _; omega
  clear hb4
  by_cases hx0 : x < 0
  · obtain ⟨rfl, rfl, rfl⟩ : s1 = false ∧ h1 = 0 ∧ E = 140 := by
      have h := HF.out
      simp only [fnd, hx0, true_or, if_true, Prod.mk.injEq] at h
      exact ⟨h.1.symm, h.2.1.symm, h.2.2.symm⟩
    go_wp2_with (refine wpList_storeL rfl tH (.tmp 4) (.tmp 19) rfl b4 (hcs false 0) (hcs false 0) tH rfl rfl R4.out ((hcs_len _ _).trans (hcs_len _ _).symm) (hcs_info _ _) (hcs_all _ _) ?_; intro X2 q1 q2; have R5 : Hid (Row X2 b4 (hcs false 0) tH) := q1; have B2 : Hid (Below w.heap.size w X2) := gro_new B1.out HB4.out q2; clear q1 q2)
    exact bodyPost_ret (results_rowS_tmp Try.results47 _ _ b4 tH (hcs false 0) (.int .i64 140) rfl rfl R5.out Try.underlying78 (hcs_info _ _)) rfl ⟨rfl, B2.out⟩
  · by_cases hx6 : 64 ≤ x
    · obtain ⟨rfl, rfl, rfl⟩ : s1 = false ∧ h1 = 0 ∧ E = 140 := by
        have h := HF.out
        simp only [fnd, hx6, or_true, if_true, Prod.mk.injEq] at h
        exact ⟨h.1.symm, h.2.1.symm, h.2.2.symm⟩
      go_wp2_with (refine wpList_storeL rfl tH (.tmp 4) (.tmp 19) rfl b4 (hcs false 0) (hcs false 0) tH rfl rfl R4.out ((hcs_len _ _).trans (hcs_len _ _).symm) (hcs_info _ _) (hcs_all _ _) ?_; intro X2 q1 q2; have R5 : Hid (Row X2 b4 (hcs false 0) tH) := q1; have B2 : Hid (Below w.heap.size w X2) := gro_new B1.out HB4.out q2; clear q1 q2)
      exact bodyPost_ret (results_rowS_tmp Try.results47 _ _ b4 tH (hcs false 0) (.int .i64 140) rfl rfl R5.out Try.underlying78 (hcs_info _ _)) rfl ⟨rfl, B2.out⟩
    · have HX : Hid (I64 x) := (i64_iff x).2 (by omega)
      have V1 : Hid (Vt X1 p c m1 m2 s) := HV.out.be B1.out
      have c0 : X1.cell? ⟨p, 0, none⟩ = some m1 := V1.out.row.cell 0 _ rfl
      obtain ⟨ok, hok, hL⟩ : ∃ ok : Bool, (ok = false ∧ s1 = false ∧ h1 = 0 ∧ E = 141 ∨ ok = true ∧ E = 0) ∧ (Instr.lookup tM1 m1 (.int .i64 x) true).run Try.prog X1 = .ok (.tuple #[.agg (hcs s1 h1).toArray, .bool ok]) X1 := by
        have h := HF.out
        have hn : ¬ (x < 0 ∨ 64 ≤ x) := by omega
        have hl := V1.out.tk.look_ok und_M1 zero_H HX.out
        simp only [fnd, hn, if_false] at h
        cases hT : s.T x with
        | none =>
          rw [show encT s.T x = none by simp [encT, hT]] at hl
          simp only [hT, Prod.mk.injEq] at h
          obtain ⟨rfl, rfl, rfl⟩ := h
          exact ⟨false, .inl ⟨rfl, rfl, rfl, rfl⟩, hl⟩
        | some q =>
          rw [show encT s.T x = some (.agg (hcs q.1 q.2).toArray) by simp [encT, hT]] at hl
          simp only [hT, Prod.mk.injEq] at h
          obtain ⟨rfl, rfl, rfl⟩ := h
          exact ⟨true, .inr ⟨rfl, rfl⟩, hl⟩
      have HL : Hid ((Instr.lookup tM1 m1 (.int .i64 x) true).run Try.prog X1 = .ok (.tuple #[.agg (hcs s1 h1).toArray, .bool ok]) X1) := hL
      have HO : Hid (ok = false ∧ s1 = false ∧ h1 = 0 ∧ E = 141 ∨ ok = true ∧ E = 0) := hok
      clear hL hok HF HV
      go_upto_region 6 with (first
        | (refine wpList_lookR rfl tM1 (.tmp 24) (.tmp 25) true rfl m1 (.int .i64 x) _ rfl rfl HL.out ?_)
        | (refine wpList_allocH rfl rfl ?_; intro X3 q1 q2; have R6 : Hid (Row X3 X1.heap.size (hcs false 0) tH) := q1; have B3 : Hid (Below X1.heap.size X1 X3) := q2; clear q1 q2)
        | (refine wpList_storeL rfl tH (.tmp 6) (.tmp 27) rfl X1.heap.size (hcs s1 h1) (hcs false 0) tH rfl rfl R6.out ((hcs_len _ _).trans (hcs_len _ _).symm) (hcs_info _ _) (hcs_all _ _) ?_; intro X4 q1 q2; have R7 : Hid (Row X4 X1.heap.size (hcs s1 h1) tH) := q1; have B4 : Hid (Below X1.heap.size X1 X4) := gro_new B3.out (Nat.le_refl _) q2; clear q1 q2))
      have R8 : Hid (Row X4 b4 (hcs false 0) tH) := Row.below R4.out B4.out R4.out.lt
      have B5 : Hid (Below w.heap.size w X4) := B1.out.trans (B4.out.mono B1.out.size)
      obtain ⟨b6, hb6⟩ : ∃ b, b = X1.heap.size := ⟨_, rfl⟩
      rw [← hb6] at R7 ⊢
      clear hb6 c0 HL R6 B3 B4 R4 V1 B1
      rcases HO.out with ⟨rfl, rfl, rfl, rfl⟩ | ⟨rfl, rfl⟩
      · clear HO
        go_wp2_with (refine wpList_storeL rfl tH (.tmp 4) (.tmp 31) rfl b4 (hcs false 0) (hcs false 0) tH rfl rfl R8.out ((hcs_len _ _).trans (hcs_len _ _).symm) (hcs_info _ _) (hcs_all _ _) ?_; intro X2 q1 q2; have R5 : Hid (Row X2 b4 (hcs false 0) tH) := q1; have B2 : Hid (Below w.heap.size w X2) := gro_new B5.out HB4.out q2; clear q1 q2)
        exact bodyPost_ret (results_rowS_tmp Try.results47 _ _ b4 tH (hcs false 0) (.int .i64 141) rfl rfl R5.out Try.underlying78 (hcs_info _ _)) rfl ⟨rfl, B2.out⟩
      · clear HO
        go_wp2_with (first
          | (refine wpList_load_w rfl tH (.tmp 6) rfl b6 0 rfl (hcs s1 h1) _ R7.out.all Try.underlying78 rfl (hcs_info _ _) ?_)
          | (refine wpList_storeL rfl tH (.tmp 4) (.tmp 32) rfl b4 (hcs s1 h1) (hcs false 0) tH rfl rfl R8.out ((hcs_len _ _).trans (hcs_len _ _).symm) (hcs_info _ _) (hcs_all _ _) ?_; intro X2 q1 q2; have R5 : Hid (Row X2 b4 (hcs s1 h1) tH) := q1; have B2 : Hid (Below w.heap.size w X2) := gro_new B5.out HB4.out q2; clear q1 q2))
        exact bodyPost_ret (results_rowS_tmp Try.results47 _ _ b4 tH (hcs s1 h1) (.int .i64 0) rfl rfl R5.out Try.underlying78 (hcs_info _ _)) rfl ⟨rfl, B2.out⟩

end Go.Proofs.Ytkbdnebmekhcdaa

namespace Go.Proofs.Ytkbdnebmekhcdaa
open Go Go.RowKit
open Sha

theorem stp_fcall {P : Program} {ops : Array Oper} {o : Oper} {a : Act} {w : World} {K : Act → World → Prop} {Q : Exit → Act → World → Prop} {E : Prop} (hg : o.guard = none) (f : FuncId) (args : Array Value) (h : (execOp a.eval o).run P w = .ok (.enter f args) w)
    (hc : Calls P f args w fun e w' => ∃ v, e = .returned v ∧ K (a.put o.dst v) w') : if Region.wanted o (yielded ops a.tmps) = true then Oper.wp P o a w K Q else E := by
  have hw : Region.wanted o (yielded ops a.tmps) = true := by simp [Region.wanted, hg]
  rw [if_pos hw]
  unfold Oper.wp
  rw [h]
  exact hc.mono (fun e w' hk => by obtain ⟨v, he, hk⟩ := hk; subst he; exact hk)

/-- The same, where the function's number is held against the operation first: so that a wrong alternative fails at once. -/
theorem stp_fn {P : Program} {ops : Array Oper} {o : Oper} {a : Act} {w : World} {K : Act → World → Prop} {Q : Exit → Act → World → Prop} {E : Prop} (hg : o.guard = none) (f : FuncId) {xs : Array Operand} {ts : Array TypeId} (_ho : o.op = .call { callee := .value (.func f), args := xs, argTypes := ts }) (args : Array Value) (h : (execOp a.eval o).run P w = .ok (.enter f args) w)
    (hc : Calls P f args w fun e w' => ∃ v, e = .returned v ∧ K (a.put o.dst v) w') : if Region.wanted o (yielded ops a.tmps) = true then Oper.wp P o a w K Q else E := stp_fcall hg f args h hc

end Go.Proofs.Ytkbdnebmekhcdaa

namespace Go.Proofs.Ytkbdnebmekhcdaa
open Go Go.RowKit Go.Maps
open Wd

theorem eqMs {t : TypeId} {k e : TypeId} (h : Try.prog.underlying t = some (.map k e)) (b : Nat) (X : World) : (binOp .eql t (.map (some b)) (.map none)).run Try.prog X = .ok (.bool false) X := by
  simp only [binOp]
  simp [run_equal_map_nil X t k e _ h]
theorem eqMn {t : TypeId} {k e : TypeId} (h : Try.prog.underlying t = some (.map k e)) (X : World) : (binOp .eql t (.map none) (.map none)).run Try.prog X = .ok (.bool true) X := by
  simp only [binOp]
  simp [run_equal_map_nil X t k e _ h]
theorem hcs_open (s : Bool) (m : Nat) : ∃ a0 a1 a2 a3 : Int, hcs s m = [.bool s, .int .u64 a0, .int .u64 a1, .int .u64 a2, .int .u64 a3] := ⟨_, _, _, _, rfl⟩
theorem row_ty {w : World} {b : Nat} {cs ds : List Value} {t u : TypeId} (h : Row w b cs t) (k : Row w b ds u) : t = u := by
  have h' : w.heap[b]? = some (.cells cs.toArray t) := h
  have k' : w.heap[b]? = some (.cells ds.toArray u) := k
  rw [h'] at k'
  injection k' with k'
  injection k' with _ k'
theorem Gro.drew_l {R : Nat → Prop} {w X : World} {n : Nat} (h : Gro R (w.drewN n) X) : Gro R w X := ⟨h.os, h.tape, h.output, h.size, h.block⟩

set_option maxRecDepth 100000 in
set_option maxHeartbeats 4000000 in
/-- The map is there: laid at x. -/
theorem lay_there {w : World} {p c b : Nat} {L : Nat} {m2 : Value} {f : Int → Option Value} (hr : Row w p (vcs (.map (some b)) m2 L) tV) (hM : Mp w b c f) (hc : c < maxLen) (x : Int) (hx : I64 x) (s1 : Bool) (h1 : Nat) :
    Calls Try.prog 49 #[.pointer (some ⟨p, 0, none⟩), .int .i64 x, .agg (hcs s1 h1).toArray] w fun e w' => e = .returned (.tuple #[]) ∧ Mp w' b (c + 1) (upd f x (some (.agg (hcs s1 h1).toArray))) ∧ Gro (· = b) w w' := by
  have HR : Hid (Row w p (vcs (.map (some b)) m2 L) tV) := hr
  have HM : Hid (Mp w b c f) := hM
  have HC : Hid (c < maxLen) := hc
  have HX : Hid (I64 x) := hx
  clear hr hM hc hx
  obtain ⟨a0, a1, a2, a3, hh⟩ := hcs_open s1 h1
  rw [hh]
  clear hh
  go_enter Try.func49, Try.ntmps49
  go_upto_region 1 with (refine wpList_boxG tH rfl (.tmp 2) rfl [.bool s1, .int .u64 a0, .int .u64 a1, .int .u64 a2, .int .u64 a3] rfl ?_; intro X1 q1 q2; have R5 : Hid (Row X1 w.heap.size [.bool s1, .int .u64 a0, .int .u64 a1, .int .u64 a2, .int .u64 a3] tH) := q1; have B1 : Hid (Below w.heap.size w X1) := q2; clear q1 q2)
  obtain ⟨b5, hb5⟩ : ∃ b, b = w.heap.size := ⟨_, rfl⟩
  rw [← hb5] at R5 ⊢
  clear hb5
  have R1 : Hid (Row X1 p (vcs (.map (some b)) m2 L) tV) := Row.below HR.out B1.out HR.out.lt
  have M1 : Hid (Mp X1 b c f) := HM.out.block (B1.out.block b HM.out.lt)
  have c0 : X1.cell? ⟨p, 0, none⟩ = some (.map (some b)) := R1.out.cell 0 _ rfl
  have d0 := R5.out.cell 0 _ rfl
  have d1 := R5.out.cell 1 _ rfl
  have d2 := R5.out.cell 2 _ rfl
  have d3 := R5.out.cell 3 _ rfl
  have d4 := R5.out.cell 4 _ rfl
  have eqm := eqMs und_M1 b
  go_upto_region 3 with fail
  obtain ⟨X2, hr, hM2, hT2⟩ := (M1.out.block (w' := X1.drew) rfl).store und_M1 HC.out HX.out (.agg #[.bool s1, .int .u64 a0, .int .u64 a1, .int .u64 a2, .int .u64 a3])
  have M2 : Hid (Mp X2 b (c + 1) (upd f x (some (.agg #[.bool s1, .int .u64 a0, .int .u64 a1, .int .u64 a2, .int .u64 a3])))) := hM2
  have G2 : Hid (Gro (· = b) X1 X2) := by
    have g := hT2.grown
    exact ⟨g.os, g.tape, g.output, g.size, fun i hi hne => g.block i hi (fun e => hne (Option.some.inj e))⟩
  have hr' : (Instr.mapUpdate 67 (.map (some b)) (.int .i64 x) (.agg #[.bool s1, .int .u64 a0, .int .u64 a1, .int .u64 a2, .int .u64 a3])).run Try.prog X1.drew = .ok () X2 := hr
  clear hr hM2 hT2
  go_region
  all_goals exact bodyPost_end (results_none Try.results49 _ _ _) rfl ⟨rfl, M2.out, (Gro.of_below B1.out).trans G2.out⟩

set_option maxRecDepth 100000 in
set_option maxHeartbeats 4000000 in
/-- The map is made: laid at x. -/
theorem lay_new {w : World} {p : Nat} {L : Nat} {m2 : Value} (hr : Row w p (vcs (.map none) m2 L) tV) (x : Int) (hx : I64 x) (s1 : Bool) (h1 : Nat) :
    Calls Try.prog 49 #[.pointer (some ⟨p, 0, none⟩), .int .i64 x, .agg (hcs s1 h1).toArray] w fun e w' => ∃ b, e = .returned (.tuple #[]) ∧ w.heap.size ≤ b ∧ Row w' p (vcs (.map (some b)) m2 L) tV ∧ Mp w' b 1 (upd (fun _ => none) x (some (.agg (hcs s1 h1).toArray))) ∧ Gro (· = p) w w' := by
  have HR : Hid (Row w p (vcs (.map none) m2 L) tV) := hr
  have HX : Hid (I64 x) := hx
  clear hr hx
  obtain ⟨a0, a1, a2, a3, hh⟩ := hcs_open s1 h1
  rw [hh]
  clear hh
  go_enter Try.func49, Try.ntmps49
  go_upto_region 1 with (refine wpList_boxG tH rfl (.tmp 2) rfl [.bool s1, .int .u64 a0, .int .u64 a1, .int .u64 a2, .int .u64 a3] rfl ?_; intro X1 q1 q2; have R5 : Hid (Row X1 w.heap.size [.bool s1, .int .u64 a0, .int .u64 a1, .int .u64 a2, .int .u64 a3] tH) := q1; have B1 : Hid (Below w.heap.size w X1) := q2; clear q1 q2)
  obtain ⟨b5, hb5⟩ : ∃ b, b = w.heap.size := ⟨_, rfl⟩
  rw [← hb5] at R5 ⊢
  clear hb5
  have R1 : Hid (Row X1 p (vcs (.map none) m2 L) tV) := Row.below HR.out B1.out HR.out.lt
  have c0 : X1.cell? ⟨p, 0, none⟩ = some (.map none) := R1.out.cell 0 _ rfl
  have eqm := eqMn und_M1
  go_upto_region 3 with (first
    | (refine wpList_makeM rfl tM1 rfl ?_; intro Y1 q1 q2; have N1 : Hid (Mp Y1 X1.heap.size 0 (fun _ => none)) := q1; have B2 : Hid (Below X1.heap.size X1 Y1) := q2; have R2 : Hid (Row Y1 p (vcs (.map none) m2 L) tV) := Row.below R1.out q2 R1.out.lt; have P5 : Hid (Row Y1 b5 [.bool s1, .int .u64 a0, .int .u64 a1, .int .u64 a2, .int .u64 a3] tH) := Row.below R5.out q2 R5.out.lt; clear q1 q2)
    | (refine wpList_set1 rfl tM1 (.tmp 14) (.tmp 12) rfl p 0 (.map (some X1.heap.size)) (vcs (.map none) m2 L) tV rfl rfl rfl R2.out (by simp [vcs]) info_M1 rfl ?_; intro Y2 q1 q2; have R3 : Hid (Row Y2 p (vcs (.map (some X1.heap.size)) m2 L) tV) := q1; have G3 : Hid (Gro (· = p) Y1 Y2) := q2; clear q1 q2))
  have HBX : Hid (w.heap.size ≤ X1.heap.size) := B1.out.size
  have G4 : Hid (Gro (· = p) w Y2) := ((Gro.of_below B1.out).below B2.out).trans G3.out
  have N2 : Hid (Mp Y2 X1.heap.size 0 (fun _ => none)) := N1.out.block (G3.out.block _ N1.out.lt (N1.out.no_row R2.out))
  have R6 : Hid (Row Y2 b5 [.bool s1, .int .u64 a0, .int .u64 a1, .int .u64 a2, .int .u64 a3] tH) := G3.out.row P5.out (fun e => by subst e; exact absurd (row_ty P5.out R2.out) (by decide))
  obtain ⟨b, hb⟩ : ∃ b, b = X1.heap.size := ⟨_, rfl⟩
  rw [← hb] at R3 N2 HBX ⊢
  have d0 := R6.out.cell 0 _ rfl
  have d1 := R6.out.cell 1 _ rfl
  have d2 := R6.out.cell 2 _ rfl
  have d3 := R6.out.cell 3 _ rfl
  have d4 := R6.out.cell 4 _ rfl
  have e0 := R3.out.cell 0 _ rfl
  clear hb N1 B2 R2 P5 G3 c0 R1 eqm
  obtain ⟨X2, hr, hM2, hT2⟩ := (N2.out.block (w' := Y2.drew) rfl).store und_M1 (by decide) HX.out (.agg #[.bool s1, .int .u64 a0, .int .u64 a1, .int .u64 a2, .int .u64 a3])
  have M2 : Hid (Mp X2 b 1 (upd (fun _ => none) x (some (.agg #[.bool s1, .int .u64 a0, .int .u64 a1, .int .u64 a2, .int .u64 a3])))) := hM2
  have G2 : Hid (Gro (· = b) Y2 X2) := by
    have g := hT2.grown
    exact ⟨g.os, g.tape, g.output, g.size, fun i hi hne => g.block i hi (fun e => hne (Option.some.inj e))⟩
  have hr' : (Instr.mapUpdate 67 (.map (some b)) (.int .i64 x) (.agg #[.bool s1, .int .u64 a0, .int .u64 a1, .int .u64 a2, .int .u64 a3])).run Try.prog Y2.drew = .ok () X2 := hr
  clear hr hM2 hT2
  go_region
  all_goals exact bodyPost_end (results_none Try.results49 _ _ _) rfl ⟨b, rfl, HBX.out, G2.out.row R3.out (fun e => N2.out.no_row R3.out e.symm), M2.out, G4.out.then G2.out (fun g e => .inr (by have := HBX.out; omega))⟩

end Go.Proofs.Ytkbdnebmekhcdaa
