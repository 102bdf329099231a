/-
  EscrowRefused: what a vault tells, as cells; the law's look.
-/
import Derived.Test.YtkbdnebmekhcdaaEsQ
import Derived.Test.YtkbdnebmekhcdaaLaA
namespace Go.Proofs.Ytkbdnebmekhcdaa
open Go Go.RowKit Go.Maps
open Wd

abbrev tSn : TypeId := 53
abbrev tB64 : TypeId := 50
abbrev tW64 : TypeId := 51
abbrev tBo : TypeId := 4
theorem in3e_at {pre post : List Value} {x : Value} {o : Nat} (h : pre.length = o) : (pre ++ (x :: post))[o]? = some x := by
  subst h; rw [List.getElem?_append_right (Nat.le_refl _), Nat.sub_self]; rfl
theorem in3e_set {pre post : List Value} {x y : Value} {o : Nat} (h : pre.length = o) : (pre ++ (x :: post)).set o y = pre ++ (y :: post) := by
  subst h; rw [List.set_append_right _ _ (Nat.le_refl _), Nat.sub_self]; rfl
theorem in3e_get {pre post part : List Value} {o j : Nat} {u : Value} (h : pre.length = o) (hj : part[j]? = some u) : (pre ++ (part ++ post))[o + j]? = some u := by
  subst h
  rw [List.getElem?_append_right (Nat.le_add_right _ _), Nat.add_sub_cancel_left, List.getElem?_append_left ((List.getElem?_eq_some_iff.1 hj).1)]
  exact hj
theorem in3e_put {pre post part new : List Value} {o : Nat} (h : pre.length = o) (hn : new.length = part.length) : (pre ++ (part ++ post)).take o ++ new ++ (pre ++ (part ++ post)).drop (o + new.length) = pre ++ (new ++ post) := by
  subst h
  rw [List.take_left, List.append_assoc, hn, List.drop_length_add_append, List.drop_left]

def bcs (f : Nat → Bool) : List Value := (List.range 64).map fun i => .bool (f i)
theorem bcs_len (f : Nat → Bool) : (bcs f).length = 64 := by unfold bcs; rw [List.length_map, List.length_range]
theorem bcs_at (f : Nat → Bool) {t : Nat} (ht : t < 64) : (bcs f)[t]? = some (.bool (f t)) := by
  unfold bcs; rw [List.getElem?_map, List.getElem?_range ht]; rfl
theorem bcs_one (f : Nat → Bool) : ∀ v ∈ bcs f, v.oneCell' = true := fun v hv => by
  obtain ⟨i, _, rfl⟩ := List.mem_map.1 hv
  rfl
def upB (t : Nat) (f : Nat → Bool) (i : Nat) : Bool := if i < t then f i else false
def upH (t : Nat) (h : Nat → Nat) (i : Nat) : Nat := if i < t then h i else 0
theorem bcs_set (f : Nat → Bool) {t : Nat} (ht : t < 64) : (bcs (upB t f)).set t (.bool (f t)) = bcs (upB (t + 1) f) := by
  refine List.ext_getElem? fun j => ?_
  by_cases e : j = t
  · subst e
    rw [List.getElem?_set_self (by rw [bcs_len]; exact ht), bcs_at _ ht]
    unfold upB
    rw [if_pos (by omega)]
  · rw [List.getElem?_set_ne (fun q => e q.symm)]
    by_cases hj : j < 64
    · rw [bcs_at _ hj, bcs_at _ hj]
      unfold upB
      by_cases h : j < t
      · rw [if_pos h, if_pos (by omega)]
      · rw [if_neg h, if_neg (by omega)]
    · rw [List.getElem?_eq_none (by rw [bcs_len]; omega), List.getElem?_eq_none (by rw [bcs_len]; omega)]
theorem bcs_same {f g : Nat → Bool} (h : ∀ t, t < 64 → f t = g t) : bcs f = bcs g := by
  unfold bcs
  refine List.map_congr_left fun i hi => ?_
  rw [h i (List.mem_range.1 hi)]
theorem hcells_up (h : Nat → Nat) {t : Nat} (ht : t < 64) : hcells (upn (upH t h) t (h t)) = hcells (upH (t + 1) h) := by
  refine upn_same _ _ fun i _ => ?_
  unfold upn upH
  by_cases e : i = t
  · subst e
    rw [if_pos rfl, if_pos (by omega)]
  · rw [if_neg e]
    by_cases h : i < t
    · rw [if_pos h, if_pos (by omega)]
    · rw [if_neg h, if_neg (by omega)]
/-- What is told: listed, stopped, held, locked. -/
def scs (f g : Nat → Bool) (h : Nat → Nat) (L : Nat) : List Value := bcs f ++ (bcs g ++ (hcells h ++ vQ (dgs L 4)))
theorem v4_len (L : Nat) : (vQ (dgs L 4)).length = 4 := by rw [vQ_length, dgs_length]
theorem scs_len (f g : Nat → Bool) (h : Nat → Nat) (L : Nat) : (scs f g h L).length = 388 := by
  unfold scs; rw [List.length_append, List.length_append, List.length_append, bcs_len, bcs_len, hcells_len, v4_len]
theorem hcells_one (h : Nat → Nat) : ∀ v ∈ hcells h, v.oneCell' = true := fun v hv => by
  obtain ⟨i, _, hi⟩ := List.mem_flatMap.1 hv
  exact vQ_one _ v hi
theorem scs_one (f g : Nat → Bool) (h : Nat → Nat) (L : Nat) : (scs f g h L).toArray.all (·.oneCell') = true := all_one (by
  intro v hv
  unfold scs at hv
  simp only [List.mem_append] at hv
  rcases hv with q | q | q | q
  · exact bcs_one _ v q
  · exact bcs_one _ v q
  · exact hcells_one _ v q
  · exact vQ_one _ v q)
section
variable {f g : Nat → Bool} {h : Nat → Nat} {L : Nat}
theorem scs_e1 : scs f g h L = [] ++ (bcs f ++ (bcs g ++ (hcells h ++ vQ (dgs L 4)))) := rfl
theorem scs_e3 : scs f g h L = (bcs f ++ bcs g) ++ (hcells h ++ vQ (dgs L 4)) := by unfold scs; rw [List.append_assoc]
theorem scs_e4 : scs f g h L = (bcs f ++ (bcs g ++ hcells h)) ++ (vQ (dgs L 4) ++ []) := by unfold scs; simp only [List.append_assoc, List.append_nil]
theorem l2_len : (bcs f ++ bcs g).length = 128 := by rw [List.length_append, bcs_len, bcs_len]
theorem l3_len : (bcs f ++ (bcs g ++ hcells h)).length = 384 := by rw [List.length_append, List.length_append, bcs_len, bcs_len, hcells_len]
theorem scs_at1 {t : Nat} (ht : t < 64) : (scs f g h L)[t]? = some (.bool (f t)) := by
  unfold scs; rw [List.getElem?_append_left (by rw [bcs_len]; exact ht)]; exact bcs_at f ht
theorem scs_at2 {t : Nat} (ht : t < 64) : (scs f g h L)[64 + t]? = some (.bool (g t)) := by
  unfold scs; exact in3e_get (bcs_len f) (bcs_at g ht)
theorem scs_at3 {t : Nat} (ht : t < 64) (j : Nat) (v : Value) (hj : (vQ (dgs (h t) 4))[j]? = some v) : (scs f g h L)[128 + t * 4 + j]? = some v := by
  have hj4 : j < 4 := by have := (List.getElem?_eq_some_iff.1 hj).1; rwa [v4_len] at this
  rw [scs_e3, Nat.add_assoc]
  refine in3e_get l2_len ?_
  rw [hcells_get h _ (by omega), show (t * 4 + j) / 4 = t by omega, show (t * 4 + j) % 4 = j by omega]
  exact hj
theorem scs_at4 (j : Nat) (v : Value) (hj : (vQ (dgs L 4))[j]? = some v) : (scs f g h L)[384 + j]? = some v := by rw [scs_e4]; exact in3e_get l3_len hj
theorem scs_set1 {t : Nat} (ht : t < 64) (x : Value) : (scs f g h L).set t x = (bcs f).set t x ++ (bcs g ++ (hcells h ++ vQ (dgs L 4))) := by
  unfold scs; rw [List.set_append_left _ _ (by rw [bcs_len]; exact ht)]
theorem scs_set2 {t : Nat} (ht : t < 64) (x : Value) : (scs f g h L).set (64 + t) x = bcs f ++ ((bcs g).set t x ++ (hcells h ++ vQ (dgs L 4))) := by
  unfold scs; rw [List.set_append_right _ _ (by rw [bcs_len]; omega), bcs_len, Nat.add_sub_cancel_left, List.set_append_left _ _ (by rw [bcs_len]; exact ht)]
theorem scs_put3 {t : Nat} (ht : t < 64) (v : Nat) : (scs f g h L).take (128 + t * 4) ++ vQ (dgs v 4) ++ (scs f g h L).drop (128 + t * 4 + (vQ (dgs v 4)).length) = scs f g (upn h t v) L := by
  rw [scs_e3, scs_e3, ← hcells_set h ht v, v4_len]
  rw [List.take_append, List.take_of_length_le (by rw [l2_len]; omega), l2_len, Nat.add_sub_cancel_left, List.take_append_of_le_length (by rw [hcells_len]; omega)]
  rw [Nat.add_assoc, List.drop_append, List.drop_of_length_le (by rw [l2_len]; omega), l2_len, Nat.add_sub_cancel_left, List.nil_append, List.drop_append_of_le_length (by rw [hcells_len]; omega)]
  simp only [List.append_assoc]
theorem scs_put4 (v : Nat) : (scs f g h L).take 384 ++ vQ (dgs v 4) ++ (scs f g h L).drop (384 + (vQ (dgs v 4)).length) = scs f g h v := by
  rw [scs_e4, scs_e4]
  exact in3e_put l3_len (by rw [v4_len, v4_len])
end
def lsB (s : St) (t : Nat) : Bool := (fnd s.T (t : Int)).2.2 == 0
def stB (s : St) (t : Nat) : Bool := (fnd s.T (t : Int)).1
/-- All that a vault tells. -/
def sv (s : St) : List Value := scs (lsB s) (stB s) (hm s) s.L
theorem sn_info : (Try.prog.info? tSn).map (·.size) = some 388 := by kernel_rfl
theorem bo_info : (Try.prog.info? tBo).map (·.size) = some 1 := by kernel_rfl
theorem wd_info : (Try.prog.info? 33).map (·.size) = some 4 := by kernel_rfl
def zS : List Value := scs (fun _ => false) (fun _ => false) (fun _ => 0) 0
theorem und_B64 : Try.prog.underlying tB64 = some (.array 64 tBo) := by kernel_rfl
theorem und_W64 : Try.prog.underlying tW64 = some (.array 64 33) := by kernel_rfl
section
variable {ops : Array Oper} {rest : List Oper} {op : Oper} {a : Act} {w : World} {Q : Exit → Act → World → Prop}
set_option maxRecDepth 100000 in
theorem wpList_alS (hgd : op.guard = none) (ho : op.op = .alloc tSn) (h : ∀ X, Row X w.heap.size zS tSn → Below w.heap.size w X → X.heap.size = w.heap.size + 1 → wpList Try.prog ops Q rest (a.put op.dst (.pointer (some ⟨w.heap.size, 0, none⟩))) X) : wpList Try.prog ops Q (op :: rest) a w :=
  wpList_plain hgd fun _ hK => by
    unfold Oper.wp execOp
    simp only [ho]
    go_simp
    exact hK _ _ (h _ (Row.new' (cs := zS) rfl (by kernel_rfl)) ((Below.refl _ _).alloc (Nat.le_refl _) _) (by simp))
end
section
variable {P : Program} {Q : Exit → Act → World → Prop} {o : Oper} {a : Act} {w : World} {K : Act → World → Prop}
/-- A place of an array. -/
theorem wp_ixAr (T e : TypeId) {x y : Operand} (ho : o.op = .indexAddr T x y) (b f n t s : Nat) (hx : a.eval x = .pointer (some ⟨b, f, none⟩)) (hy : a.eval y = .int .i64 (t : Int)) (ht : t < n)
    (hu : P.underlying T = some (.array n e)) (hs : (P.info? e).map (·.size) = some s) (h : K (a.put o.dst (.pointer (some ⟨b, f + t * s, none⟩))) w) : Oper.wp P o a w K Q := by
  cases hi : P.info? e with
  | none => simp [hi] at hs
  | some i =>
    have h4 : i.size = s := by simpa [hi] using hs
    have hr : (Instr.indexAt T (.pointer (some ⟨b, f, none⟩)) (.int .i64 (t : Int))).run P w = .ok (.pointer (some ⟨b, f + t * s, none⟩)) w := by
      simp [Instr.indexAt, Instr.sureAddr, run_underlying hu, asIntOf, ht, sizeOf, typeInfo, hi, h4, Addr.add_mid]
    unfold Oper.wp execOp
    simp only [ho, hx, hy, Sem.run_bind, hr, Result.andThen_ok, Sem.run_pure, Oper.upon_value]
    exact h
end
theorem wpList_ixAr {P : Program} {ops : Array Oper} {rest : List Oper} {op : Oper} {a : Act} {w : World} {Q : Exit → Act → World → Prop} (hw : Region.wanted op (yielded ops a.tmps) = true) (T e : TypeId) (x y : Operand) (ho : op.op = .indexAddr T x y) (b f n t s : Nat) (hx : a.eval x = .pointer (some ⟨b, f, none⟩)) (hy : a.eval y = .int .i64 (t : Int)) (ht : t < n)
    (hu : P.underlying T = some (.array n e)) (hs : (P.info? e).map (·.size) = some s) (h : wpList P ops Q rest (a.put op.dst (.pointer (some ⟨b, f + t * s, none⟩))) w) : wpList P ops Q (op :: rest) a w :=
  BigFrame.wpList_want hw fun _ hK => wp_ixAr T e ho b f n t s hx hy ht hu hs (hK _ _ h)
theorem results_rSn {P : Program} {fn : Func} {p : Tmp} {ty : TypeId} {fs : Array Field} (h : fn.results = #[.cell p ty]) (tmps : Array Value) (w : World) (g : Nat) (t : TypeId) (cs : List Value)
    (hp : tmps.getD p undef = .pointer (some ⟨g, 0, none⟩)) (hg : Row w g cs t) (hu : P.underlying ty = some (.struct fs)) (hi : (P.info? ty).map (·.size) = some cs.length) :
    (results fn tmps).run P w = .ok (.agg cs.toArray) w := by
  have hp' : tmps[p]?.getD undef = .pointer (some ⟨g, 0, none⟩) := by simpa using hp
  have hr := run_loadVar_row (P := P) w g t ty cs.toArray (0, 0) (.struct fs) hg hu rfl (by simp [hi])
  simp [results, h, hp', asAddr, hr]
theorem vlA {w0 w : World} {p c : Nat} {s : St} (h : Vl w0 w p c s) (x : Int) : Calls Try.prog 30 #[.pointer (some ⟨p, 0, none⟩), .int .i64 x] w fun e w' => e = .returned (.tuple #[.bool ((fnd s.T x).2.2 == 0), .bool (fnd s.T x).1]) ∧ Below w.heap.size w w' := by
  obtain ⟨m1, m2, hV, hl⟩ := h
  exact listed_any hV x _ _ _ rfl
theorem vlH {w0 w : World} {p c : Nat} {s : St} (h : Vl w0 w p c s) (t : Nat) : Calls Try.prog 20 #[.pointer (some ⟨p, 0, none⟩), .int .i64 (t : Int)] w fun e w' => e = .returned (.agg (vQ (dgs (hm s t) 4)).toArray) ∧ Below w.heap.size w w' := by
  obtain ⟨m1, m2, hV, hl⟩ := h
  exact held_any hV (t : Int) _ _ _ rfl
theorem vlL {w0 w : World} {p c : Nat} {s : St} (h : Vl w0 w p c s) : Calls Try.prog 19 #[.pointer (some ⟨p, 0, none⟩)] w fun e w' => e = .returned (.agg (vQ (dgs s.L 4)).toArray) ∧ Below w.heap.size w w' := by
  obtain ⟨m1, m2, hV, hl⟩ := h
  exact locked_any hV
theorem vlP {w0 w : World} {p c : Nat} {s : St} (h : Vl w0 w p c s) (i : Int) (hi : I64 i) : Calls Try.prog 21 #[.pointer (some ⟨p, 0, none⟩), .int .i64 i] w fun e w' => e = .returned (.bool (paid s.U i)) ∧ Below w.heap.size w w' := by
  obtain ⟨m1, m2, hV, hl⟩ := h
  exact paid_any hV i hi
set_option maxRecDepth 100000 in
set_option maxHeartbeats 4000000 in
theorem look_any {w0 w : World} {p c : Nat} {s : St} (h : Vl w0 w p c s) (LS : List Value) (hLS : LS = sv s) : Calls Try.prog 22 #[.pointer (some ⟨p, 0, none⟩)] w fun e w' => e = .returned (.agg LS.toArray) ∧ Below w.heap.size w w' := by
  have HV : Hid (∀ X, Below w.heap.size w X → Vl w0 X p c s) := fun X k => h.be k
  have HLS : Hid (LS = sv s) := hLS
  clear h hLS
  go_enter Try.func22, Try.ntmps22
  go_wp2_with (first
    | (refine wpList_alS rfl rfl ?_; intro X1 q1 q2 q3; have R1 : Hid (Row X1 w.heap.size zS tSn) := q1; have B1 : Hid (Below w.heap.size w X1) := q2; clear q1 q2 q3; simp only [Act.put, List.setIfInBounds_toArray, List.set_cons_zero, List.set_cons_succ])
    | (refine wpList_alS rfl rfl ?_; intro X2 q1 q2 q3; have R2 : Hid (Row X2 X1.heap.size zS tSn) := q1; have B2 : Hid (Below w.heap.size w X2) := B1.out.trans (q2.mono B1.out.size); have R12 : Hid (Row X2 w.heap.size zS tSn) := Row.below R1.out q2 R1.out.lt; clear q1 q2 q3; simp only [Act.put, List.setIfInBounds_toArray, List.set_cons_zero, List.set_cons_succ]))
  obtain ⟨b2, hb2⟩ : ∃ b, b = w.heap.size := ⟨_, rfl⟩
  obtain ⟨b3, hb3⟩ : ∃ b, b = X1.heap.size := ⟨_, rfl⟩
  have HN : Hid (w.heap.size ≤ b2 ∧ w.heap.size ≤ b3 ∧ b2 ≠ b3) := ⟨Nat.le_of_eq hb2.symm, by rw [hb3]; exact B1.out.size, by rw [hb2, hb3]; have := R1.out.lt; omega⟩
  rw [← hb2] at R12 ⊢
  rw [← hb3] at R2 ⊢
  clear hb2 hb3 R1 B1
  go_loopw [4] (fun v4 wr => ∃ t : Nat, t ≤ 64 ∧ v4 = .int .i64 (t : Int) ∧ Row wr b3 (scs (upB t (lsB s)) (upB t (stB s)) (upH t (hm s)) 0) tSn ∧ Row wr b2 zS tSn ∧ Below w.heap.size w wr) (fun v4 _ => 64 - (intOf v4).toNat)
  case atStart => exact ⟨0, by decide, rfl, by have := R2.out; rwa [show zS = scs (upB 0 (lsB s)) (upB 0 (stB s)) (upH 0 (hm s)) 0 from rfl] at this, R12.out, B2.out⟩
  case round =>
    obtain ⟨t, ht, rfl, r3, r2, hbl⟩ := hrel
    clear R2 R12 B2
    by_cases hlt : t < 64
    · have HR3 : Hid (Row wr b3 (scs (upB t (lsB s)) (upB t (stB s)) (upH t (hm s)) 0) tSn) := r3
      have HR2 : Hid (Row wr b2 zS tSn) := r2
      have HBL : Hid (Below w.heap.size w wr) := hbl
      have HT : Hid (t < 64) := hlt
      clear r3 r2 hbl ht
      go_wp2_with (first
        | (go_at_call 30; refine Calls.mono (vlA (HV.out _ HBL.out) (t : Int)) ?_; rintro e Y1 ⟨rfl, q⟩; have C1 : Hid (Row Y1 b3 (scs (upB t (lsB s)) (upB t (stB s)) (upH t (hm s)) 0) tSn) := Row.below HR3.out q HR3.out.lt; have D1 : Hid (Row Y1 b2 zS tSn) := Row.below HR2.out q HR2.out.lt; have F1 : Hid (Below w.heap.size w Y1) := HBL.out.trans (q.mono HBL.out.size); clear q)
        | (refine wpList_ixAr rfl tB64 tBo (.tmp 17) (.tmp 10) rfl b3 0 64 t 1 rfl rfl HT.out und_B64 bo_info ?_; rw [show 0 + t * 1 = t by omega]; simp only [Act.put, List.setIfInBounds_toArray, List.set_cons_zero, List.set_cons_succ])
        | (refine wpList_ixAr rfl tB64 tBo (.tmp 19) (.tmp 11) rfl b3 64 64 t 1 rfl rfl HT.out und_B64 bo_info ?_; rw [show 64 + t * 1 = 64 + t by omega]; simp only [Act.put, List.setIfInBounds_toArray, List.set_cons_zero, List.set_cons_succ])
        | (refine wpList_ixAr rfl tW64 33 (.tmp 25) (.tmp 21) rfl b3 128 64 t 4 rfl rfl HT.out und_W64 wd_info ?_; simp only [Act.put, List.setIfInBounds_toArray, List.set_cons_zero, List.set_cons_succ])
        | (refine wpList_st1 rfl tBo (.tmp 18) (.tmp 15) rfl b3 t (.bool (lsB s t)) (scs (upB t (lsB s)) (upB t (stB s)) (upH t (hm s)) 0) tSn rfl rfl rfl C1.out (by { rw [scs_len]; have := HT.out; omega }) bo_info rfl ?_; intro Y2 q1 q2; have C2 : Hid (Row Y2 b3 (scs (upB (t + 1) (lsB s)) (upB t (stB s)) (upH t (hm s)) 0) tSn) := (by { rw [scs_set1 HT.out, bcs_set (lsB s) HT.out] at q1; exact q1 }); have D2 : Hid (Row Y2 b2 zS tSn) := q2.row D1.out HN.out.2.2; have F2 : Hid (Below w.heap.size w Y2) := gro_newL F1.out HN.out.2.1 q2; clear q1 q2 C1 D1 F1)
        | (refine wpList_st1 rfl tBo (.tmp 20) (.tmp 16) rfl b3 (64 + t) (.bool (stB s t)) (scs (upB (t + 1) (lsB s)) (upB t (stB s)) (upH t (hm s)) 0) tSn rfl rfl rfl C2.out (by { rw [scs_len]; have := HT.out; omega }) bo_info rfl ?_; intro Y3 q1 q2; have C3 : Hid (Row Y3 b3 (scs (upB (t + 1) (lsB s)) (upB (t + 1) (stB s)) (upH t (hm s)) 0) tSn) := (by { rw [scs_set2 HT.out, bcs_set (stB s) HT.out] at q1; exact q1 }); have D3 : Hid (Row Y3 b2 zS tSn) := q2.row D2.out HN.out.2.2; have F3 : Hid (Below w.heap.size w Y3) := gro_newL F2.out HN.out.2.1 q2; clear q1 q2 C2 D2 F2)
        | (go_at_call 20; refine Calls.mono (vlH (HV.out _ F3.out) t) ?_; rintro e Y4 ⟨rfl, q⟩; have C4 : Hid (Row Y4 b3 (scs (upB (t + 1) (lsB s)) (upB (t + 1) (stB s)) (upH t (hm s)) 0) tSn) := Row.below C3.out q C3.out.lt; have D4 : Hid (Row Y4 b2 zS tSn) := Row.below D3.out q D3.out.lt; have F4 : Hid (Below w.heap.size w Y4) := F3.out.trans (q.mono F3.out.size); clear q C3 D3 F3)
        | (refine wpList_stM rfl 33 (.tmp 26) (.tmp 24) rfl b3 (128 + t * 4) (vQ (dgs (hm s t) 4)) (scs (upB (t + 1) (lsB s)) (upB (t + 1) (stB s)) (upH t (hm s)) 0) tSn rfl rfl C4.out (by { rw [scs_len, v4_len]; have := HT.out; omega }) (by { rw [v4_len]; exact wd_info }) (all_one (vQ_one _)) ?_; intro Y5 q1 q2; have C5 : Hid (Row Y5 b3 (scs (upB (t + 1) (lsB s)) (upB (t + 1) (stB s)) (upH (t + 1) (hm s)) 0) tSn) := (by { rw [scs_put3 HT.out] at q1; show Row _ _ _ _; unfold scs at q1 ⊢; rw [hcells_up (hm s) HT.out] at q1; exact q1 }); have D5 : Hid (Row Y5 b2 zS tSn) := q2.row D4.out HN.out.2.2; have F5 : Hid (Below w.heap.size w Y5) := gro_newL F4.out HN.out.2.1 q2; clear q1 q2 C4 D4 F4))
      exact ⟨⟨t + 1, HT.out, by go_num, C5.out, D5.out, F5.out⟩, by simp [intOf]; have := HT.out; omega⟩
    · obtain rfl : t = 64 := by omega
      have HR3 : Hid (Row wr b3 (scs (lsB s) (stB s) (hm s) 0) tSn) := by
        have := r3
        show Row _ _ _ _
        unfold scs at this ⊢
        rw [bcs_same (f := upB 64 (lsB s)) (g := lsB s) (fun t ht => by unfold upB; rw [if_pos ht]), bcs_same (f := upB 64 (stB s)) (g := stB s) (fun t ht => by unfold upB; rw [if_pos ht]), upn_same (upH 64 (hm s)) (hm s) (fun t ht => by unfold upH; rw [if_pos ht])] at this
        exact this
      have HR2 : Hid (Row wr b2 zS tSn) := r2
      have HBL : Hid (Below w.heap.size w wr) := hbl
      clear r3 r2 hbl ht hlt
      have HSI : Hid ((Try.prog.info? tSn).map (·.size) = some LS.length) := by show _ = _; rw [HLS.out, sv, scs_len]; exact sn_info
      have HSL : Hid (LS.length = zS.length) := by show _ = _; rw [HLS.out, sv, scs_len, zS, scs_len]
      have HSO : Hid (LS.toArray.all (·.oneCell') = true) := by show _ = _; rw [HLS.out]; exact scs_one _ _ _ _
      go_wp2_with (first
        | (go_at_call 19; refine Calls.mono (vlL (HV.out _ HBL.out)) ?_; rintro e Y1 ⟨rfl, q⟩; have C1 : Hid (Row Y1 b3 (scs (lsB s) (stB s) (hm s) 0) tSn) := Row.below HR3.out q HR3.out.lt; have D1 : Hid (Row Y1 b2 zS tSn) := Row.below HR2.out q HR2.out.lt; have F1 : Hid (Below w.heap.size w Y1) := HBL.out.trans (q.mono HBL.out.size); clear q)
        | (refine wpList_stM rfl 33 (.tmp 29) (.tmp 28) rfl b3 384 (vQ (dgs s.L 4)) (scs (lsB s) (stB s) (hm s) 0) tSn rfl rfl C1.out (by { rw [scs_len, v4_len]; decide }) (by { rw [v4_len]; exact wd_info }) (all_one (vQ_one _)) ?_; intro Y5 q1 q2; have C5 : Hid (Row Y5 b3 LS tSn) := (by { rw [scs_put4] at q1; show Row _ _ _ _; rw [HLS.out]; exact q1 }); have D5 : Hid (Row Y5 b2 zS tSn) := q2.row D1.out HN.out.2.2; have F5 : Hid (Below w.heap.size w Y5) := gro_newL F1.out HN.out.2.1 q2; clear q1 q2 C1 D1 F1)
        | (refine wpList_ldS rfl tSn (.tmp 3) rfl b3 0 rfl LS _ C5.out.all Try.underlying53 rfl HSI.out ?_; simp only [Act.put, List.setIfInBounds_toArray, List.set_cons_zero, List.set_cons_succ])
        | (refine wpList_stL rfl tSn (.tmp 2) (.tmp 30) rfl b2 LS zS tSn rfl rfl D5.out HSL.out HSI.out HSO.out ?_; intro Y6 q1 q2; have D6 : Hid (Row Y6 b2 LS tSn) := q1; have F6 : Hid (Below w.heap.size w Y6) := gro_newL F5.out HN.out.1 q2; clear q1 q2))
      exact bodyPost_ret (results_rSn rfl _ _ b2 tSn LS rfl D6.out Try.underlying53 HSI.out) rfl ⟨rfl, F6.out⟩

end Go.Proofs.Ytkbdnebmekhcdaa
