/-
  The law's lend.
-/
import Derived.Test.YtflllmhefehpgaaDoorTLoan
import Derived.Test.YtflllmhefehpgaaDoorTAwk
namespace Go.Proofs.YtflllmhefehpgaaDoor
open Go Go.RowKit
open Sha

theorem row_grw {w w' : World} {N' e' size' n' b : Nat} {vp : Value} {cs xs' : List Value} {t : TypeId} (r : Row w b cs t) (hp : w.ownsRow N' e' size' vp n' xs') (hne : t ≠ e') (hg : w.grownBy w' vp.ownBlock) : Row w' b cs t := by
  refine (hg.block b r.lt ?_).trans r
  rcases hp.2 with ⟨h3, _⟩ | ⟨g', cap', cur', hv', _, hh', _⟩
  · rw [h3]; simp [Value.ownBlock]
  · rw [hv']
    simp only [Value.ownBlock, ne_eq, Option.some.injEq]
    intro hgg
    subst hgg
    have := r.symm.trans hh'
    simp only [Option.some.injEq, Obj.cells.injEq] at this
    exact hne this.2.1
theorem Loan.drew {w : World} {G : Nat} {ov : Value} {L : List Value} {B : Nat → Nat} {ps qs : List (List (BitVec 8))} {n a f m : Nat} (h : Loan w G ov L B ps qs n a f m) : Loan w.drew G ov L B ps qs n a f m := ⟨h.row, h.len, h.own, h.each, h.apart, h.front, h.mark⟩
theorem own_one1 {w : World} {N e size n : Nat} {v : Value} {xs : List Value} (h : w.ownsRow N e size v n xs) : v.oneCell' = true := by
  obtain ⟨A, c, rfl⟩ := own_form h; rfl
/-- The cells of a loan. -/
def lo (a b : Value) (n : Nat) : List Value := [a, b, .int .i64 (n : Int)]
theorem info_lo : (Tryd.prog.info? 35).map (·.size) = some 3 := by kernel_rfl
theorem lo_one {a b : Value} {n : Nat} (ha : a.oneCell' = true) (hb : b.oneCell' = true) : (lo a b n).toArray.all (·.oneCell') = true := all_oneCell_toArray (fun v hv => by
  unfold lo at hv
  simp only [List.mem_cons, List.not_mem_nil, or_false] at hv
  rcases hv with rfl | rfl | rfl
  · exact ha
  · exact hb
  · rfl)
theorem built_lo (n : Int) : Tryd.prog.built 35 [(2, .int .i64 n)] = some #[.slice none 0 0, .slice none 0 0, .int .i64 n] := by kernel_rfl
section
variable {ops : Array Oper} {rest : List Oper} {op : Oper} {a : Act} {w : World} {Q : Exit → Act → World → Prop}
theorem wpList_build_lo (hw : Region.wanted op (yielded ops a.tmps) = true) (p : Operand) (ho : op.op = .build 35 #[(2, p)]) (n : Nat) (ex : a.eval p = .int .i64 (n : Int))
    (h : wpList Tryd.prog ops Q rest (a.put op.dst (.agg (lo (.slice none 0 0) (.slice none 0 0) n).toArray)) w) : wpList Tryd.prog ops Q (op :: rest) a w :=
  BigFrame.wpList_want hw fun _ hK => by
    have e : ((#[(2, p)] : Array (Nat × Operand)).map fun (i, x) => (i, a.eval x)).toList = [(2, .int .i64 (n : Int))] := by simp [ex]
    refine wp_build _ _ ho (by rw [e, built_lo]; rfl) ?_
    rw [e, built_lo]; exact hK _ _ h
end

set_option maxRecDepth 100000 in
set_option maxHeartbeats 4000000 in
theorem lend_any (ps : List (List (BitVec 8))) (n : Nat) (hn : ps.length = n) (hs : n ≤ 1048576) (hl : ∀ i, i < n → (ps.getD i []).length ≤ 140737488351232) (A : Option Addr) (cap : Nat) (w : World) (hv : Lv w A ps) :
    Calls Tryd.prog 15 #[.slice A n cap] w fun e w' => ∃ (G : Nat) (ov : Value) (L : List Value) (B : Nat → Nat), e = .returned (.agg (lo (.slice (some ⟨G, 0, none⟩) (n + 9) (n + 9)) ov n).toArray) ∧ Loan w' G ov L B ps ps n n n 9 ∧ w.heap.size ≤ G ∧ Below w.heap.size w w' := by
  have HL : Hid (∀ i, i < n → (ps.getD i []).length ≤ 140737488351232) := hl
  have HV : Hid (Lv w A ps) := hv
  have HN : Hid (ps.length = n) := hn
  clear hv hl hn
  obtain ⟨Z, hZ⟩ : ∃ Z, Z = lo (.slice none 0 0) (.slice none 0 0) 0 := ⟨_, rfl⟩
  have hz1 : Row ((w.alloc (Obj.cells #[.slice none 0 0, .slice none 0 0, .int .i64 0] 35)).alloc (Obj.cells #[.slice none 0 0, .slice none 0 0, .int .i64 0] 35)) (w.heap.size + 1) (lo (.slice none 0 0) (.slice none 0 0) 0) 35 := Row.new' (by simp) rfl
  have hz2 : Row ((w.alloc (Obj.cells #[.slice none 0 0, .slice none 0 0, .int .i64 0] 35)).alloc (Obj.cells #[.slice none 0 0, .slice none 0 0, .int .i64 0] 35)) w.heap.size (lo (.slice none 0 0) (.slice none 0 0) 0) 35 := (Row.new w (lo (.slice none 0 0) (.slice none 0 0) 0) 35).alloc _
  have hb : Below w.heap.size w ((w.alloc (Obj.cells #[.slice none 0 0, .slice none 0 0, .int .i64 0] 35)).alloc (Obj.cells #[.slice none 0 0, .slice none 0 0, .int .i64 0] 35)) := ((Below.refl _ _).alloc (Nat.le_refl _) _).alloc (by simp) _
  have T0 := hz1.there 0 (lo (.slice none 0 0) (.slice none 0 0) n).toArray.size (by simp [lo])
  have r3 := hz1.over (vs := lo (.slice none 0 0) (.slice none 0 0) n) rfl
  have r2 := hz2.setCells_other (w.heap.size + 1) 0 (lo (.slice none 0 0) (.slice none 0 0) n) (by omega)
  replace hb := below_setCells hb (b := w.heap.size + 1) (o := 0) (by omega) (lo (.slice none 0 0) (.slice none 0 0) n)
  clear hz1 hz2 hZ Z
  obtain ⟨X, hX⟩ : ∃ X, X = World.setCells ((w.alloc (Obj.cells #[.slice none 0 0, .slice none 0 0, .int .i64 0] 35)).alloc (Obj.cells #[.slice none 0 0, .slice none 0 0, .int .i64 0] 35)) (w.heap.size + 1) 0 (lo (.slice none 0 0) (.slice none 0 0) n) := ⟨_, rfl⟩
  rw [← hX] at r3 r2 hb
  have hG : w.heap.size ≤ X.heap.size := hb.size
  have hB : Below X.heap.size X (X.alloc (Obj.cells (List.replicate (n + 9) (Value.slice none 0 0)).toArray 22)) := (Below.refl _ _).alloc (Nat.le_refl _) _
  have rG : Row (X.alloc (Obj.cells (List.replicate (n + 9) (Value.slice none 0 0)).toArray 22)) X.heap.size (List.replicate (n + 9) (Value.slice none 0 0)) 22 := Row.new' rfl rfl
  have r3a := Row.below r3 hB r3.lt
  have r2a := Row.below r2 hB r2.lt
  have hba := hb.trans (hB.mono hb.size)
  obtain ⟨Y, hY⟩ : ∃ Y, Y = X.alloc (Obj.cells (List.replicate (n + 9) (Value.slice none 0 0)).toArray 22) := ⟨_, rfl⟩
  rw [← hY] at rG r3a r2a hba
  have gf := r3a.thaw 0
  have g0 := r3a.cell 0 (.slice none 0 0) rfl
  have o3 := r3.lt
  clear r3 r2 hb hB
  go_enter Tryd.func15, Tryd.ntmps15
  go_wp2_with (first
    | (refine wpList_build_lo rfl (.tmp 8) rfl n rfl ?_; simp only [Act.put, List.setIfInBounds_toArray, List.set_cons_zero, List.set_cons_succ])
    | (refine wpList_store_mid rfl 35 (.tmp 3) (.tmp 9) rfl (w.heap.size + 1) 0 (lo (.slice none 0 0) (.slice none 0 0) n).toArray (by first | rfl | (go_simp; simp)) rfl T0 info_lo (lo_one rfl rfl) ?_; simp only [Act.put]; clear T0; (change wpList _ _ _ _ _ (World.setCells ((w.alloc (Obj.cells #[.slice none 0 0, .slice none 0 0, .int .i64 0] 35)).alloc (Obj.cells #[.slice none 0 0, .slice none 0 0, .int .i64 0] 35)) (w.heap.size + 1) 0 (lo (.slice none 0 0) (.slice none 0 0) n))); (rw [← hX]); (clear hX))
    | (refine wpList_make_sl rfl (.tmp 12) (.tmp 12) rfl (n + 9) _ _ (by omega) (by omega) rfl rfl (by omega) ?_; (rw [← hY]); clear hY; simp only [Act.put, List.setIfInBounds_toArray, List.set_cons_zero, List.set_cons_succ]))
  -- behind the head
  obtain ⟨W1, hW1⟩ : ∃ W1, W1 = Y.setCell ⟨w.heap.size + 1, 0, none⟩ (Value.slice (some ⟨X.heap.size, 0, none⟩) (n + 9) (n + 9)) := ⟨_, rfl⟩
  have hB1 : Below w.heap.size w W1 := by rw [hW1]; exact hba.setCell (by simp) _
  have q3 : Row W1 (w.heap.size + 1) (lo (.slice (some ⟨X.heap.size, 0, none⟩) (n + 9) (n + 9)) (.slice none 0 0) n) 35 := by rw [hW1]; exact r3a.set 0 _
  have q2 : Row W1 w.heap.size (lo (.slice none 0 0) (.slice none 0 0) 0) 35 := by rw [hW1]; exact r2a.set_other _ _ _ (by omega)
  have l1 : Loan W1 X.heap.size (.slice none 0 0) (List.replicate (n + 9) (Value.slice none 0 0)) (fun _ => 0) ps ps n 0 0 0 := by
    rw [hW1]
    exact Loan.set ⟨rG, by simp, ⟨rfl, .inl ⟨rfl, rfl⟩⟩, (fun i hi => by omega), (fun i j _ hj => by omega), (fun i hi => by omega), (fun j h1 h2 => by omega)⟩ r3a (by decide) (by decide) 0 _
  rw [← hW1]
  have HGW : Hid (w.heap.size ≤ X.heap.size) := hG
  clear hW1 hba r3a r2a rG gf g0 hG
  generalize X.heap.size = G at *
  clear X Y
  go_loopw [4] (fun i wr => ∃ (t : Nat) (ov : Value) (L : List Value) (B : Nat → Nat), t ≤ n ∧ i = .int .i64 (t : Int) ∧ Below w.heap.size w wr ∧ Row wr (w.heap.size + 1) (lo (.slice (some ⟨G, 0, none⟩) (n + 9) (n + 9)) ov n) 35 ∧ Row wr w.heap.size (lo (.slice none 0 0) (.slice none 0 0) 0) 35 ∧ Loan wr G ov L B ps ps n t t 0)
    (fun i _ => n - (intOf i).toNat)
  case atStart => exact ⟨0, _, _, _, by omega, rfl, hB1, q3, q2, l1⟩
  case round =>
    clear hB1 q3 q2 l1
    obtain ⟨t, ov, L, B, ht, rfl, hb, q3, q2, hlo⟩ := hrel
    by_cases hlt : t < n
    · rcases HV.out with h0 | ⟨b, o, rfl, vs, h1, h2, h3⟩
      · have := HN.out; rw [h0] at this; simp at this; omega
      have h3t := (h3 t (by rw [HN.out]; exact hlt)).1
      have hct : w.cell? ⟨b, o + t, none⟩ = some (vs.getD t undef) := h2 t _ (by rw [List.getD_eq_getElem?_getD, List.getElem?_eq_getElem (show t < vs.length by rw [h1, HN.out]; exact hlt)]; rfl)
      have hdl := HL.out t hlt
      generalize vs.getD t undef = v at *
      clear HV h1 h2 h3
      obtain ⟨d, hd⟩ : ∃ d, d = ps.getD t [] := ⟨_, rfl⟩
      rw [← hd] at h3t hdl
      obtain ⟨A', c', hev⟩ : ∃ A c, v = .slice A d.length c := by
        rcases h3t with ⟨h1, A, c, h2⟩ | ⟨b', o', c, h2, _⟩
        · exact ⟨A, c, by rw [h2, h1]; rfl⟩
        · exact ⟨_, c, h2⟩
      subst hev
      have HD : Hid (d = ps.getD t []) := hd
      have HCT : Hid (w.cell? ⟨b, o + t, none⟩ = some (.slice A' d.length c')) := hct
      have g1 := cell_be hct hb
      have HSL := h3t.below hb (Nat.le_refl _)
      have HLO : Hid (Loan wr G ov L B ps ps n t t 0) := hlo
      have HLL : Hid (∀ i, i < t → (ps.getD i []).length ≤ 140737488351232) := fun i hi => HL.out i (by omega)
      clear hd hct h3t hlo
      go_wp2_with fail
      refine (lent_any d _ rfl hdl A' c' wr HSL).mono ?_
      rintro e W1 ⟨rfl, rl, hB⟩
      clear HSL g1
      have hlo := HLO.out.below hB
      have bG : G < wr.heap.size := HLO.out.row.lt
      have bne : ∀ i, i < t → B i ≠ wr.heap.size := fun i hi => by have := (HLO.out.each i hi).2.lt; omega
      replace q3 := Row.below q3 hB q3.lt
      replace q2 := Row.below q2 hB q2.lt
      replace hb := hb.trans (hB.mono hb.size)
      have o1 : wr.heap.size < W1.heap.size := rl.lt
      clear hB HLO
      generalize wr.heap.size = b1 at *
      have gs1 := q3.cell 1 ov rfl
      have hB2 : Below W1.heap.size W1 (W1.alloc (.cells #[.slice (some ⟨b1, 0, none⟩) (d.length + 70) (d.length + 70)] 22)) := (Below.refl _ _).alloc (Nat.le_refl _) _
      have lo2 := hlo.below hB2
      have rl2 := Row.below rl hB2 rl.lt
      have p3 := Row.below q3 hB2 q3.lt
      have p2 := Row.below q2 hB2 q2.lt
      have hb2 := hb.trans (hB2.mono hb.size)
      have e70 : (d ++ marks70).length = d.length + 70 := by simp [marks70]
      have T1 := lo2.txs HLL.out
      have O1 : Txs (W1.alloc (.cells #[.slice (some ⟨b1, 0, none⟩) (d.length + 70) (d.length + 70)] 22)) (G + 1) (.slice (some ⟨W1.heap.size, 0, none⟩) 1 1) [d ++ marks70] [.slice (some ⟨b1, 0, none⟩) (d.length + 70) (d.length + 70)] := Txs.one (by omega) (Row.new' rfl rfl) (by
        rw [e70]; exact row_owns (by omega) e70 (by omega) rl2)
      have HB1 : Hid (G + 1 ≤ (W1.alloc (.cells #[.slice (some ⟨b1, 0, none⟩) (d.length + 70) (d.length + 70)] 22)).heap.size) := by show _ ≤ _; have := hB2.size; omega
      have HBG : Hid (G < b1) := bG
      have HBN : Hid (∀ i, i < t → B i ≠ b1) := bne
      have HT1 : Hid (Txs _ _ _ _ _) := T1
      have HO1 : Hid (Txs _ _ _ _ _) := O1
      have HLO2 : Hid (Loan _ _ _ _ _ _ _ _ _ _ _) := lo2
      have HRL2 : Hid (Row _ _ _ _) := rl2
      have HP3 : Hid (Row _ _ _ _) := p3
      have HP2 : Hid (Row _ _ _ _) := p2
      have HB2 : Hid (Below _ _ _) := hb2
      clear hB2 T1 O1 lo2 rl2 p3 p2 hb2 e70 rl q3 q2 hb hlo bG bne o1
      go_wp2_with (refine wpList_join rfl (.tmp 27) (.tmp 29) rfl _ w w.heap.size (G + 1) _ _ _ _ _ _ HT1.out HO1.out (by simp) rfl rfl (by rw [owt_len]; simp; omega) HB1.out (by have := HGW.out; omega) HB2.out ?_; intro v3 w3 T3 hB3 hG3; (have lo3 := HLO2.out.grow (Nat.le_refl _) HBG.out HBN.out (by rw [← HD.out]; exact HRL2.out) hG3 (by have h := T3.own; rw [List.length_append, owt_len] at h; rw [owv_more, ← HD.out]; exact h)); (have p3 := row_grw HP3.out HLO2.out.own (by decide) hG3); (have p2 := row_grw HP2.out HLO2.out.own (by decide) hG3); (obtain ⟨A3, c3, e3⟩ := own_form lo3.own); subst e3; (have gf3 := p3.thaw 1); (have gc3 := p3.cell 1 ov rfl); clear T3 hG3 HT1 HO1 HLO2 HRL2 HP3 HP2 HB2 HB1; simp only [Act.put, List.setIfInBounds_toArray, List.set_cons_zero, List.set_cons_succ])
      obtain ⟨W4, hW4⟩ : ∃ W4, W4 = w3.setCell ⟨w.heap.size + 1, 1, none⟩ (Value.slice A3 (t + 1) c3) := ⟨_, rfl⟩
      have f3 : Row W4 (w.heap.size + 1) (lo (.slice (some ⟨G, 0, none⟩) (n + 9) (n + 9)) (.slice A3 (t + 1) c3) n) 35 := by rw [hW4]; exact p3.set 1 _
      have f2 : Row W4 w.heap.size (lo (.slice none 0 0) (.slice none 0 0) 0) 35 := by rw [hW4]; exact p2.set_other _ _ _ (by omega)
      have lo4 := lo3.set p3 (by decide) (by decide) 1 (.slice A3 (t + 1) c3)
      have hb4 : Below w.heap.size w W4 := by rw [hW4]; exact hB3.setCell (by simp) _
      rw [← hW4] at lo4
      rw [← hW4]
      have g40 := f3.cell 0 _ rfl
      have g4t := cell_be HCT.out hb4
      have gG := lo4.row.cell t (L.getD t undef) (by have := lo4.len; rw [List.getD_eq_getElem?_getD, List.getElem?_eq_getElem (by omega)]; rfl)
      have gGf := lo4.row.thaw t
      have lay := lo4.lay hlt
      rw [more_new, ← HD.out] at lay
      have HLAY : Hid (Loan _ _ _ _ _ _ _ _ _ _ _) := lay
      have F3 : Hid (Row _ _ _ _) := f3
      have F2 : Hid (Row _ _ _ _) := f2
      clear hW4 lay lo4 lo3 p3 p2 gf3 gc3 hB3 f3 f2 gs1
      generalize L.getD t undef = old at gG
      go_wp2_with fail
      go_region
      go_wp2
      exact ⟨⟨t + 1, _, _, _, hlt, by go_num, Below.drew (hb4.setCell (by have := HGW.out; simp; omega) _), Row.drew (F3.out.set_other _ _ _ (by omega)), Row.drew (F2.out.set_other _ _ _ (by omega)), Loan.drew HLAY.out⟩, by simp [intOf]; omega⟩
    · obtain rfl : t = n := by omega
      go_wp2_with fail
      go_loopw [6] (fun j wq => ∃ (m : Nat) (L : List Value), m ≤ 9 ∧ j = .int .i64 ((t : Int) + m) ∧ Below w.heap.size w wq ∧ Row wq (w.heap.size + 1) (lo (.slice (some ⟨G, 0, none⟩) (t + 9) (t + 9)) ov t) 35 ∧ Row wq w.heap.size (lo (.slice none 0 0) (.slice none 0 0) 0) 35 ∧ Loan wq G ov L B ps ps t t t m)
        (fun j _ => t + 9 - (intOf j).toNat)
      case atStart => exact ⟨0, L, by omega, by simp, hb, q3, q2, hlo⟩
      case round =>
        clear hb q3 q2 hlo
        obtain ⟨m, L, hm, rfl, hb, q3, q2, hlo⟩ := hrel
        have g0 := q3.cell 0 _ rfl
        by_cases hlt : m < 9
        · have hB2 : Below wr.heap.size wr (wr.alloc (.cells #[.int .u8 109, .int .u8 97, .int .u8 114, .int .u8 107] 5 (4, 5))) := (Below.refl _ _).alloc (Nat.le_refl _) _
          have lo2 := hlo.below hB2
          have p3 := Row.below q3 hB2 q3.lt
          have p2 := Row.below q2 hB2 q2.lt
          have rM : Mk (wr.alloc (.cells #[.int .u8 109, .int .u8 97, .int .u8 114, .int .u8 107] 5 (4, 5))) wr.heap.size := heap_alloc_last wr _
          have kc := Lib.run_convert_bytes_const (P := Tryd.prog) wr 22 5 #[.int .u8 109, .int .u8 97, .int .u8 114, .int .u8 107] 4 4 Tryd.underlying22 Tryd.underlying5
          have gG := lo2.row.cell (t + m) (L.getD (t + m) undef) (by have := lo2.len; rw [List.getD_eq_getElem?_getD, List.getElem?_eq_getElem (by omega)]; rfl)
          have gGf := lo2.row.thaw (t + m)
          have lay := lo2.mark_lay (Nat.le_refl _) hlt rM (fun i hi => by have := (hlo.each i hi).2.lt; omega)
          have hb2 := hb.trans (hB2.mono hb.size)
          have HLAY : Hid (Loan _ _ _ _ _ _ _ _ _ _ _) := lay
          have F3 : Hid (Row _ _ _ _) := p3
          have F2 : Hid (Row _ _ _ _) := p2
          have HB2 : Hid (Below _ _ _) := hb2
          clear lay lo2 p3 p2 rM hB2 hb hb2 hlo q3 q2
          generalize L.getD (t + m) undef = old at gG
          go_wp2
          exact ⟨⟨m + 1, _, hlt, by go_num, HB2.out.setCell (by have := HGW.out; simp; omega) _, F3.out.set_other _ _ _ (by omega), F2.out.set_other _ _ _ (by omega), HLAY.out⟩, by simp [intOf]; omega⟩
        · obtain rfl : m = 9 := by omega
          have hone := own_one1 hlo.own
          have T9 := q2.there 0 (lo (.slice (some ⟨G, 0, none⟩) (t + 9) (t + 9)) ov t).toArray.size (by simp [lo])
          have nf := q2.over (vs := lo (.slice (some ⟨G, 0, none⟩) (t + 9) (t + 9)) ov t) rfl
          have nB := below_setCells hb (b := w.heap.size) (o := 0) (Nat.le_refl _) (lo (.slice (some ⟨G, 0, none⟩) (t + 9) (t + 9)) ov t)
          have nl := hlo.sets q2 (by decide) (by decide) 0 (lo (.slice (some ⟨G, 0, none⟩) (t + 9) (t + 9)) ov t)
          clear hb q2 hlo
          go_wp2_with (first
            | (refine wpList_load_w rfl 35 (.tmp 3) rfl (w.heap.size + 1) 0 rfl (lo (.slice (some ⟨G, 0, none⟩) (t + 9) (t + 9)) ov t) _ q3.all Tryd.underlying35 rfl info_lo ?_; simp only [Act.put, List.setIfInBounds_toArray, List.set_cons_zero, List.set_cons_succ])
            | (refine wpList_store_mid rfl 35 (.tmp 2) (.tmp 58) rfl w.heap.size 0 (lo (.slice (some ⟨G, 0, none⟩) (t + 9) (t + 9)) ov t).toArray rfl rfl T9 info_lo (lo_one rfl hone) ?_))
          exact bodyPost_ret (results_cell_row Tryd.results15 _ _ w.heap.size 35 (lo (.slice (some ⟨G, 0, none⟩) (t + 9) (t + 9)) ov t).toArray (0, 0) _ rfl nf Tryd.underlying35 rfl info_lo) rfl ⟨G, ov, L, B, rfl, nl, HGW.out, nB⟩

end Go.Proofs.YtflllmhefehpgaaDoor
