/-
  machine.Text.
-/
import Derived.Test.YtclbiophgnkggaaGreatDoorMtD
namespace Go.Proofs.YtclbiophgnkggaaGreatDoor
open Go Go.RowKit
open Sha
open Wd
open Go.Lib (decDigits)

theorem chk_leads {d : List (BitVec 8)} {ls : List Ins} (h : chk d = some ls) : leads ls = true := by
  unfold chk at h
  split at h
  · cases h
  cases hp : pg d (d.length + 1) 0 with
  | none => rw [hp] at h; cases h
  | some l =>
    rw [hp] at h
    simp only at h
    split at h
    · rename_i h2
      obtain rfl := Option.some.inj h
      exact h2
    · cases h
theorem leads_lt {ls : List Ins} {n : Nat} (h : leads ls = true) (hg : Gd ls n) : ∀ y ∈ ls, y.c < 28 ∧ (oper y.c = 5 → y.n < n) := fun y hy => by
  refine ⟨(hg y hy).2.1, fun h5 => ?_⟩
  unfold leads at h
  have h1 := List.all_eq_true.1 h y hy
  rw [h5] at h1
  have h2 : ls.any (fun j => j.p == y.n) = true := by simpa using h1
  obtain ⟨z, hz, e⟩ := List.any_eq_true.1 h2
  have := (hg z hz).1
  have e2 : z.p = y.n := by simpa using e
  omega
theorem range_below2 {B : Nat} {w w' : World} {c o : Nat} {cs : List Value} (h : w.rangeAt c o cs) (k : Below B w w') (hB : w.heap.size ≤ B) : w'.rangeAt c o cs := fun j v hv =>
  (k.cell (p := ⟨c, o + j, none⟩) (Nat.lt_of_lt_of_le (World.block_lt_of_cell? w _ (h j v hv)) hB)).trans (h j v hv)
theorem ownsRow_below2 {B N e size n : Nat} {w w' : World} {v : Value} {xs : List Value} (h : w.ownsRow N e size v n xs) (k : Below B w w') (hB : w.heap.size ≤ B) : w'.ownsRow N e size v n xs := by
  obtain ⟨h1, h2⟩ := h
  refine ⟨h1, ?_⟩
  rcases h2 with h2 | ⟨g, cap, cur, hv, hg, hh, r⟩
  · exact .inl h2
  · exact .inr ⟨g, cap, cur, hv, hg, (k.block g (Nat.lt_of_lt_of_le (Array.getElem?_eq_some_iff.1 hh).1 hB)).trans hh, r⟩
theorem isB_be {T e : TypeId} {B b : Nat} {bs : List Value} {w w' : World} (h : Lib.IsBuilder T e B b bs w) (k : Below w.heap.size w w') : Lib.IsBuilder T e B b bs w' := by
  rcases h with h | h
  · have hlt := h.lt
    obtain ⟨h1, v, h2, h3, h4⟩ := h
    exact .inl ⟨h1, v, (k.block _ hlt).trans h2, ownsRow_below2 h3 k (Nat.le_refl _), h4⟩
  · have hlt := h.lt
    obtain ⟨h1, v, h2, h3, h4⟩ := h
    exact .inr ⟨h1, v, (k.block _ hlt).trans h2, ownsRow_below2 h3 k (Nat.le_refl _), h4⟩
theorem bW (bb : Nat) (l m : List UInt8) (W : World) (h : Lib.IsBuilder 51 5 bb bb (Lib.byteCells l) W) (hlen : l.length + m.length ≤ 8388608) (hB : bb ≤ W.heap.size) :
    Calls Tryz.prog 18 #[.pointer (some ⟨bb, 0, none⟩), .string ⟨m.toArray⟩] W fun e w' => e = .returned (.tuple #[.int .i64 (m.length : Int), .nilIface]) ∧ Lib.IsBuilder 51 5 bb bb (Lib.byteCells (l ++ m)) w' ∧ Below bb W w' ∧ KpB bb W w' := by
  refine Calls.mono (bWrite_any bb bb (Lib.byteCells l) ⟨m.toArray⟩ W h (by rw [Lib.byteCells_length]; show l.length + m.toArray.size ≤ _; rw [List.size_toArray]; omega) hB) ?_
  rintro e w' ⟨rfl, q1, q2, q3⟩
  rw [Lib.strCells_toArray, ← Lib.byteCells_append] at q1
  exact ⟨rfl, .inr q1, q2, q3⟩
section
variable {ops : Array Oper} {rest : List Oper} {op : Oper} {a : Act} {w : World} {Q : Exit → Act → World → Prop}
theorem wpList_allocBd (hgd : op.guard = none) (ho : op.op = .alloc 51) (h : ∀ X, Lib.IsBuilder 51 5 w.heap.size w.heap.size (Lib.byteCells []) X → Below w.heap.size w X → X.heap.size = w.heap.size + 1 → wpList Tryz.prog ops Q rest (a.put op.dst (.pointer (some ⟨w.heap.size, 0, none⟩))) X) : wpList Tryz.prog ops Q (op :: rest) a w :=
  wpList_plain hgd fun _ hK => by
    unfold Oper.wp execOp
    simp only [ho]
    go_simp
    exact hK _ _ (h _ (Lib.fresh_isBuilder _ _ w) ((Below.refl _ _).alloc (Nat.le_refl _) _) (by simp))
end
set_option maxRecDepth 100000 in
set_option maxHeartbeats 4000000 in
theorem mText_no (A : Option Addr) (n cap : Nat) (w : World) (hRD : ∀ X, Row X w.heap.size mtab 84 → Below w.heap.size w X → Calls Tryz.prog 16 #[.slice (some ⟨w.heap.size, 0, none⟩) 28 28, .slice A n cap] X fun e w' => e = .returned (.tuple #[.agg zP.toArray, .int .i64 100]) ∧ Below X.heap.size X w') : Calls Tryz.prog 5 #[.slice A n cap] w fun e w' => e = .returned (.tuple #[.string ⟨#[]⟩, .int .i64 100]) ∧ Below w.heap.size w w' := by
  have HRD : Hid _ := hRD
  clear hRD
  go_enter Tryz.func5, Tryz.ntmps5
  go_wp2_with (first
    | (go_at_call 15; refine Calls.mono (table_any w) ?_; rintro e X1 ⟨rfl, q1, q2⟩; have R1 : Hid _ := HRD.out X1 q1 q2; have B1 : Hid (Below w.heap.size w X1) := q2; clear q1 q2)
    | (go_at_call 16; refine Calls.mono R1.out ?_; rintro e X2 ⟨rfl, q⟩; have B2 : Hid (Below w.heap.size w X2) := B1.out.trans (q.mono B1.out.size); clear q)
    | (refine wpList_allocP rfl rfl ?_; intro X3 q1 q2 q3; have R3 : Hid (Row X3 X2.heap.size zP 44) := q1; have B3 : Hid (Below X2.heap.size X2 X3) := q2; clear q1 q2 q3; simp only [Act.put, List.setIfInBounds_toArray, List.set_cons_zero, List.set_cons_succ])
    | (refine wpList_storeL rfl 44 (.tmp 5) (.tmp 16) rfl X2.heap.size zP zP 44 rfl rfl R3.out rfl info_P zP_one ?_; intro X4 q1 q2; have E4 : Hid (X4 = _) := q1; clear q1 q2; simp only [Act.put]))
  go_ret2
  exact ⟨rfl, B2.out.trans ((by rw [E4.out]; exact below_setCells B3.out (Nat.le_refl _) _ : Below X2.heap.size X2 X4).mono B2.out.size)⟩
set_option maxRecDepth 100000 in
set_option maxHeartbeats 4000000 in
theorem mText_ok (g0 n cap : Nat) (d : List (BitVec 8)) (hd : d.length = n) (h0 : 0 < n) (h1 : n ≤ 1024) (hc : n ≤ cap) (ls : List Ins) (hls : chk d = some ls) (w : World) (hp : P10 w) (hr : w.rangeAt g0 0 (vB d)) : Calls Tryz.prog 5 #[.slice (some ⟨g0, 0, none⟩) n cap] w fun e w' => e = .returned (.tuple #[.string ⟨(txT ls ls.length).toArray⟩, .int .i64 0]) ∧ Below w.heap.size w w' := by
  have HRD : Hid (∀ X, Row X w.heap.size mtab 84 → Below w.heap.size w X → Calls Tryz.prog 16 #[.slice (some ⟨w.heap.size, 0, none⟩) 28 28, .slice (some ⟨g0, 0, none⟩) n cap] X fun e w' => ∃ A c gs, e = .returned (.tuple #[.agg #[.slice A ls.length c, .slice (some ⟨gs, 0, none⟩) n n], .int .i64 0]) ∧ Gd ls n ∧ Lw w' 53 7 (.slice A ls.length c) ls.length (fl ls) ∧ Below X.heap.size X w') := by
    intro X hT hB
    refine Calls.mono (read_any w.heap.size g0 n cap d hd h0 h1 hc X hT (range_be hr hB)) ?_
    rintro e w' ⟨q, q3⟩
    rcases q with ⟨ls', v, gs, q1, q5, q2, q4, _⟩ | ⟨q1, _⟩
    · rw [hls] at q1
      obtain rfl := Option.some.inj q1
      obtain ⟨A', c', rfl, _, _⟩ := Lw.form q4
      exact ⟨A', c', gs, q2, q5, q4, q3⟩
    · rw [hls] at q1; cases q1
  have HP : Hid (P10 w) := hp
  have HLD : Hid (leads ls = true) := chk_leads hls
  have HLEN : Hid (ls.length ≤ 1024) := by
    show _ ≤ _
    have := chk_len hls
    omega
  clear hls hr hp hd hc
  go_enter Tryz.func5, Tryz.ntmps5
  go_upto_region 5 with (first
    | (go_at_call 15; refine Calls.mono (table_any w) ?_; rintro e X1 ⟨rfl, q1, q2⟩; have R1 : Hid (Row X1 w.heap.size mtab 84) := q1; have B1 : Hid (Below w.heap.size w X1) := q2; clear q1 q2)
    | (go_at_call 16; refine Calls.mono (HRD.out X1 R1.out B1.out) ?_; rintro e X2 ⟨A, c, gs, rfl, q0, q1, q2⟩; have HGD : Hid (Gd ls n) := q0; have LV : Hid (Lw X2 53 7 (.slice A ls.length c) ls.length (fl ls)) := q1; have B2 : Hid (Below w.heap.size w X2) := B1.out.trans (q2.mono B1.out.size); have R2 : Hid (Row X2 w.heap.size mtab 84) := Row.below R1.out q2 R1.out.lt; clear q0 q1 q2)
    | (refine wpList_allocP rfl rfl ?_; intro X3 q1 q2 q3; have R3 : Hid (Row X3 X2.heap.size zP 44) := q1; have B3 : Hid (Below X2.heap.size X2 X3) := q2; clear q1 q2 q3; simp only [Act.put, List.setIfInBounds_toArray, List.set_cons_zero, List.set_cons_succ])
    | (refine wpList_storeL rfl 44 (.tmp 5) (.tmp 16) rfl X2.heap.size [.slice A ls.length c, .slice (some ⟨gs, 0, none⟩) n n] zP 44 rfl rfl R3.out rfl info_P (pp_one A _ _ _ n) ?_; intro X4 q1 q2; have E4 : Hid (X4 = _) := q1; have R4 : Hid (Row X4 X2.heap.size [.slice A ls.length c, .slice (some ⟨gs, 0, none⟩) n n] 44) := q2; clear q1 q2; simp only [Act.put]))
  have B24 : Hid (Below X2.heap.size X2 X4) := by show Below _ _ _; rw [E4.out]; exact below_setCells B3.out (Nat.le_refl _) _
  have LV4 : Hid (Lw X4 53 7 (.slice A ls.length c) ls.length (fl ls)) := Lw.be LV.out B24.out
  have B4 : Hid (Below w.heap.size w X4) := B2.out.trans (B24.out.mono B2.out.size)
  have RT4 : Hid (Row X4 w.heap.size mtab 84) := Row.below R2.out B24.out R2.out.lt
  have HLB : Hid _ := labelled_any w.heap.size gs n ls (.slice A ls.length c) h1 (leads_lt HLD.out HGD.out) HLEN.out X4 RT4.out LV4.out
  obtain ⟨pp, hpp⟩ : ∃ pp, pp = X2.heap.size := ⟨_, rfl⟩
  rw [← hpp] at R4
  rw [← hpp]
  clear B24 E4 R3 B3 LV R2 B2 R1 B1 HRD hpp
  go_upto_region 8 with (first
    | (refine wpList_load_w rfl 44 (.tmp 5) rfl pp 0 rfl [.slice A ls.length c, .slice (some ⟨gs, 0, none⟩) n n] _ R4.out.all Tryz.underlying44 rfl info_P ?_; simp only [Act.put, List.setIfInBounds_toArray, List.set_cons_zero, List.set_cons_succ])
    | (go_at_call 17; refine Calls.mono HLB.out ?_; rintro e X5 ⟨lb, rfl, q0, q1, q2⟩; have RLB : Hid (Row X5 lb (labF ls ls.length n) 4) := q1; have B5 : Hid (Below X4.heap.size X4 X5) := q2; clear q0 q1 q2)
    | (refine wpList_allocBd rfl rfl ?_; intro X6 q1 q2 q3; have DB6 : Hid (Lib.IsBuilder 51 5 X5.heap.size X5.heap.size (Lib.byteCells []) X6) := q1; have B6 : Hid (Below X5.heap.size X5 X6) := q2; have c0 := (Row.below (Row.below R4.out B5.out R4.out.lt) q2 (Row.below R4.out B5.out R4.out.lt).lt).cell 0 _ rfl; clear q1 q2 q3; simp only [Act.put, List.setIfInBounds_toArray, List.set_cons_zero, List.set_cons_succ]))
  have LV5 : Hid (Lw X5 53 7 (.slice A ls.length c) ls.length (fl ls)) := Lw.be LV4.out B5.out
  have RT5 : Hid (Row X5 w.heap.size mtab 84) := Row.below RT4.out B5.out RT4.out.lt
  have B05 : Hid (Below w.heap.size w X5) := B4.out.trans (B5.out.mono B4.out.size)
  have B06 : Hid (Below w.heap.size w X6) := B05.out.trans (B6.out.mono B05.out.size)
  obtain ⟨bb, hbb⟩ : ∃ bb, bb = X5.heap.size := ⟨_, rfl⟩
  have HBS : Hid (bb ≤ X5.heap.size) := by show _ ≤ _; rw [hbb]; exact Nat.le_refl _
  have HBS2 : Hid (X5.heap.size ≤ bb) := by show _ ≤ _; rw [hbb]; exact Nat.le_refl _
  have HWB : Hid (w.heap.size ≤ bb) := by show _ ≤ _; rw [hbb]; exact B05.out.size
  rw [← hbb] at DB6 B6
  rw [← hbb]
  clear hbb HLB R4 B5 LV4 RT4 B4 c0
  go_loopw [27] (fun v wr => ∃ t : Nat, t ≤ ls.length ∧ v = .int .i64 (t : Int) ∧ Hid (Below w.heap.size w wr) ∧ Hid (Below bb X5 wr) ∧ Hid (Lib.IsBuilder 51 5 bb bb (Lib.byteCells (txT ls t)) wr)) (fun v _ => ls.length - (intOf v).toNat)
  case atStart => exact ⟨0, Nat.zero_le _, rfl, B06, B6, DB6⟩
  case round =>
    obtain ⟨t, ht, rfl, HB, HBB, HBD⟩ := hrel
    clear B06 B6 DB6
    by_cases hlt : t < ls.length
    · obtain ⟨x, hx⟩ : ∃ x, ls[t]? = some x := ⟨_, List.getElem?_eq_getElem hlt⟩
      have hxm := HGD.out x (List.mem_of_getElem? hx)
      have HX : Hid (ls[t]? = some x) := hx
      obtain ⟨g, cap', e, hcc⟩ := Lw.open LV5.out (by omega)
      simp only [Value.slice.injEq] at e
      obtain ⟨rfl, _, rfl⟩ := e
      obtain ⟨L, hL⟩ : ∃ L, L = ic x.c x.p x.a x.n := ⟨_, rfl⟩
      have HL : Hid (L = ic x.c x.p x.a x.n) := hL
      have RG : Hid (wr.rangeAt g (t * 7) L) := by rw [hL]; exact range_below2 (fl_at (Lw.range LV5.out) t x hx) HBB.out HBS2.out
      have HI : Hid ((Tryz.prog.info? 53).map (·.size) = some L.length) := by show _ = _; rw [hL]; exact info_Ic _ _ _ _
      have HN7 : Hid (L.length = zI.length) := by show _ = _; rw [hL]; exact ic_len _ _ _ _
      have HO : Hid (L.toArray.all (·.oneCell') = true) := by show _ = _; rw [hL]; exact ic_one _ _ _ _
      have HXM : Hid (x.p < n ∧ x.c < 28 ∧ x.n < 65536 ∧ x.a < 2 ^ 256) := hxm
      obtain ⟨xb, hxb⟩ : ∃ xb, xb = wr.heap.size := ⟨_, rfl⟩
      have HXB : Hid (xb = wr.heap.size) := hxb
      clear hL hx hxm hcc hxb
      go_upto_region 10 with (first
        | (refine wpList_load_w rfl 53 (.tmp 29) rfl g (t * 7) rfl L _ RG.out Tryz.underlying53 rfl HI.out ?_; simp only [Act.put, List.setIfInBounds_toArray, List.set_cons_zero, List.set_cons_succ])
        | (refine wpList_allocI rfl rfl ?_; rw [← HXB.out]; intro Y1 q1 q2 q3; have R1 : Hid (Row Y1 xb zI 53) := q1; have B1 : Hid (Below xb wr Y1) := q2; clear q1 q2 q3; simp only [Act.put, List.setIfInBounds_toArray, List.set_cons_zero, List.set_cons_succ])
        | (refine wpList_storeL rfl 53 (.tmp 10) (.tmp 30) rfl xb L zI 53 rfl rfl R1.out HN7.out HI.out HO.out ?_; intro Y2 q1 q2; have E2 : Hid (Y2 = _) := q1; have R2 : Hid (Row Y2 xb L 53) := q2; clear q1 q2; simp only [Act.put]))
      have BY : Hid (Below wr.heap.size wr Y2) := by show Below _ _ _; rw [E2.out, ← HXB.out]; exact below_setCells B1.out (Nat.le_refl _) _
      have BW2 : Hid (Below w.heap.size w Y2) := HB.out.trans (BY.out.mono HB.out.size)
      have C2 : Hid (Below bb X5 Y2) := HBB.out.trans (BY.out.mono (Nat.le_trans HBS.out HBB.out.size))
      have D2 : Hid (Lib.IsBuilder 51 5 bb bb (Lib.byteCells (txT ls t)) Y2) := isB_be HBD.out BY.out
      have HXBB : Hid (xb ≠ bb) := by
        show _ ≠ _
        have h1 := HBD.out.elim (fun h => h.lt) (fun h => h.lt)
        have h2 := HXB.out
        omega
      have HTX : Hid (∀ X, Below w.heap.size w X → Row X w.heap.size mtab 84 → Calls Tryz.prog 20 #[.agg L.toArray, .slice (some ⟨w.heap.size, 0, none⟩) 28 28] X fun e w' => e = .returned (.string ⟨(nmL x.c ++ opT x.c x.a x.n).toArray⟩) ∧ Below X.heap.size X w') := by
        intro X q r
        rw [HL.out]
        exact text_any2 w.heap.size x.c x.p x.a x.n HXM.out.2.1 HXM.out.2.2.2 HXM.out.2.2.1 X (HP.out.below q) r
      have hTL := txT_len ls n HGD.out h1 t
      have hTX1 : (nmL x.c ++ opT x.c x.a x.n).length ≤ 86 := by
        have q1 := nmL_len x.c HXM.out.2.1
        have q2 := opT_len x.c x.a x.n HXM.out.2.2.2 HXM.out.2.2.1
        rw [List.length_append]; omega
      have hLP1 := dec_len x.p (Nat.lt_trans (Nat.lt_of_lt_of_le HXM.out.1 h1) (by decide))
      have hLEN := HLEN.out
      have hTL2 : (txT ls t).length ≤ 184320 := by omega
      clear hTL hLEN
      have R2' : Row Y2 xb (ic x.c x.p x.a x.n) 53 := by rw [← HL.out]; exact R2.out
      have c1 := R2'.cell 1 _ (ic_1 _ _ _ _)
      have cl := (Row.below RLB.out C2.out (Nat.lt_of_lt_of_le RLB.out.lt HBS2.out)).cell x.p _ (labF_get ls n x.p HXM.out.1)
      have hpn : x.p < n := HXM.out.1
      have HLP : Hid (∀ X, Below w.heap.size w X → Calls Tryz.prog 19 #[.int .i64 (x.p : Int)] X fun e w' => e = .returned (.string ⟨(labT x.p).toArray⟩) ∧ Below X.heap.size X w') := fun X q => labelOf_any x.p (by omega) X (HP.out.below q)
      have HEE : Hid (txT ls (t + 1) = txT ls t ++ ((if goT ls x.p = true then labT x.p ++ [58, 10] else []) ++ (nmL x.c ++ opT x.c x.a x.n ++ [10]))) := txT_succ HX.out
      have hLP2 : (labT x.p).length ≤ 79 := by unfold labT; rw [List.length_cons]; omega
      obtain ⟨TX, hTXd⟩ : ∃ TX, TX = nmL x.c ++ opT x.c x.a x.n := ⟨_, rfl⟩
      obtain ⟨LP, hLPd⟩ : ∃ LP, LP = labT x.p := ⟨_, rfl⟩
      obtain ⟨B, hBd⟩ : ∃ B, B = goT ls x.p := ⟨_, rfl⟩
      obtain ⟨TT, hTT⟩ : ∃ TT, TT = txT ls t := ⟨_, rfl⟩
      rw [← hTXd] at hTX1 HTX HEE
      rw [← hLPd] at hLP2 HLP HEE
      rw [← hBd] at cl HEE
      rw [← hTT] at hTL2 HEE D2
      obtain ⟨xp, hxp⟩ : ∃ xp, xp = x.p := ⟨_, rfl⟩
      rw [← hxp] at c1 cl hpn HLP
      clear hTXd hLPd hBd hTT hxp R2' E2 R1 B1 HBB HB HBD BY hLP1
      have HT2 : Hid (Row Y2 w.heap.size mtab 84) := Row.below RT5.out C2.out (Nat.lt_of_lt_of_le RT5.out.lt HBS2.out)
      cases B with
      | false =>
        have HE : Hid (txT ls (t + 1) = TT ++ (TX ++ [10])) := by show _ = _; rw [HEE.out, if_neg (by decide), List.nil_append]
        clear HEE
        have hlen := HLEN.out
        go_wp2_with (first
          | (refine wpList_load_w rfl 53 (.tmp 10) rfl xb 0 rfl L _ R2.out.all Tryz.underlying53 rfl HI.out ?_; simp only [Act.put, List.setIfInBounds_toArray, List.set_cons_zero, List.set_cons_succ])
          | (go_at_call 20; refine Calls.mono (HTX.out Y2 BW2.out HT2.out) ?_; rintro e V1 ⟨rfl, q⟩; have BV1 : Hid (Below w.heap.size w V1) := BW2.out.trans (q.mono BW2.out.size); have CV1 : Hid (Below bb X5 V1) := C2.out.trans (q.mono (Nat.le_trans HBS.out C2.out.size)); have DV1 : Hid (Lib.IsBuilder 51 5 bb bb (Lib.byteCells TT) V1) := isB_be D2.out q; clear q)
          | (refine wpList_cat rfl _ _ _ _ rfl TX [10] rfl rfl (by omega) (by decide) ?_; simp only [Act.put, List.setIfInBounds_toArray, List.set_cons_zero, List.set_cons_succ])
          | (go_at_call 18; refine Calls.mono (bW bb TT (TX ++ [10]) V1 DV1.out (by rw [List.length_append, List.length_singleton]; omega) (Nat.le_trans HBS.out CV1.out.size)) ?_; rintro e V2 ⟨rfl, q1, q2, q3⟩; have DV2 : Hid (Lib.IsBuilder 51 5 bb bb (Lib.byteCells (txT ls (t + 1))) V2) := (by rw [HE.out]; exact q1); have BV2 : Hid (Below w.heap.size w V2) := BV1.out.trans (q2.mono HWB.out); have CV2 : Hid (Below bb X5 V2) := CV1.out.trans q2; clear q1 q2 q3))
        refine ⟨⟨t + 1, hlt, by go_num, BV2, CV2, DV2⟩, by simp [intOf]; omega⟩
      | true =>
        have HE : Hid (txT ls (t + 1) = TT ++ (LP ++ [58, 10]) ++ (TX ++ [10])) := by show _ = _; rw [HEE.out, if_pos rfl]; simp only [List.append_assoc]
        clear HEE
        go_upto_region 12 with (first
          | (go_at_call 19; refine Calls.mono (HLP.out Y2 BW2.out) ?_; rintro e U1 ⟨rfl, q⟩; have BU1 : Hid (Below w.heap.size w U1) := BW2.out.trans (q.mono BW2.out.size); have CU1 : Hid (Below bb X5 U1) := C2.out.trans (q.mono (Nat.le_trans HBS.out C2.out.size)); have DU1 : Hid (Lib.IsBuilder 51 5 bb bb (Lib.byteCells TT) U1) := isB_be D2.out q; have RU1 : Hid (Row U1 xb L 53) := Row.below R2.out q R2.out.lt; clear q)
          | (refine wpList_cat rfl _ _ _ _ rfl LP [58, 10] rfl rfl (by omega) (by decide) ?_; simp only [Act.put, List.setIfInBounds_toArray, List.set_cons_zero, List.set_cons_succ])
          | (go_at_call 18; refine Calls.mono (bW bb TT (LP ++ [58, 10]) U1 DU1.out (by rw [List.length_append]; simp only [List.length_cons, List.length_nil]; omega) (Nat.le_trans HBS.out CU1.out.size)) ?_; rintro e U2 ⟨rfl, q1, q2, q3⟩; have DU2 : Hid (Lib.IsBuilder 51 5 bb bb (Lib.byteCells (TT ++ (LP ++ [58, 10]))) U2) := q1; have BU2 : Hid (Below w.heap.size w U2) := BU1.out.trans (q2.mono HWB.out); have CU2 : Hid (Below bb X5 U2) := CU1.out.trans q2; have RU2 : Hid (Row U2 xb L 53) := q3 _ _ _ (by decide) HXBB.out RU1.out; clear q1 q2 q3))
        have HU2 : Hid (Row U2 w.heap.size mtab 84) := Row.below RT5.out CU2.out (Nat.lt_of_lt_of_le RT5.out.lt HBS2.out)
        have hlen := HLEN.out
        go_wp2_with (first
          | (refine wpList_load_w rfl 53 (.tmp 10) rfl xb 0 rfl L _ RU2.out.all Tryz.underlying53 rfl HI.out ?_; simp only [Act.put, List.setIfInBounds_toArray, List.set_cons_zero, List.set_cons_succ])
          | (go_at_call 20; refine Calls.mono (HTX.out U2 BU2.out HU2.out) ?_; rintro e V1 ⟨rfl, q⟩; have BV1 : Hid (Below w.heap.size w V1) := BU2.out.trans (q.mono BU2.out.size); have CV1 : Hid (Below bb X5 V1) := CU2.out.trans (q.mono (Nat.le_trans HBS.out CU2.out.size)); have DV1 : Hid (Lib.IsBuilder 51 5 bb bb (Lib.byteCells (TT ++ (LP ++ [58, 10]))) V1) := isB_be DU2.out q; clear q)
          | (refine wpList_cat rfl _ _ _ _ rfl TX [10] rfl rfl (by omega) (by decide) ?_; simp only [Act.put, List.setIfInBounds_toArray, List.set_cons_zero, List.set_cons_succ])
          | (go_at_call 18; refine Calls.mono (bW bb (TT ++ (LP ++ [58, 10])) (TX ++ [10]) V1 DV1.out (by simp only [List.length_append, List.length_cons, List.length_nil]; omega) (Nat.le_trans HBS.out CV1.out.size)) ?_; rintro e V2 ⟨rfl, q1, q2, q3⟩; have DV2 : Hid (Lib.IsBuilder 51 5 bb bb (Lib.byteCells (txT ls (t + 1))) V2) := (by rw [HE.out]; exact q1); have BV2 : Hid (Below w.heap.size w V2) := BV1.out.trans (q2.mono HWB.out); have CV2 : Hid (Below bb X5 V2) := CV1.out.trans q2; clear q1 q2 q3))
        refine ⟨⟨t + 1, hlt, by go_num, BV2, CV2, DV2⟩, by simp [intOf]; omega⟩
    · have et : t = ls.length := by omega
      have HD : Hid (Lib.IsBuilder 51 5 bb bb (Lib.byteCells (txT ls ls.length)) wr) := by rw [← et]; exact HBD.out
      have HS : Hid _ := bString_any bb bb (txT ls ls.length) wr HD.out (Nat.le_trans HBS.out HBB.out.size)
      have e4 : (t : Int) = (ls.length : Int) := by omega
      rw [e4]
      clear e4 et ht hlt
      go_wp2_with (go_at_call 21; refine Calls.mono HS.out ?_; rintro e Z1 ⟨rfl, q⟩; have BZ : Hid (Below w.heap.size w Z1) := HB.out.trans (q.mono HWB.out); clear q)
      go_ret2
      exact ⟨rfl, BZ.out⟩

end Go.Proofs.YtclbiophgnkggaaGreatDoor
