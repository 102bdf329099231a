/-
  InboxChecks: laws of its walk.
-/
import Derived.Test.YtknabkoddickaaaGreatDoorIbI
import Derived.Test.YtknabkoddickaaaGreatDoorIcD

namespace Go.Proofs.YtknabkoddickaaaGreatDoor
open Go Go.RowKit
open Sha

section
variable {ops : Array Oper} {rest : List Oper} {op : Oper} {a : Act} {w : World} {Q : Exit → Act → World → Prop}
theorem add_oI (x y : Operand) (t yt : TypeId) (ho : op.op = .binOp .add t x y yt) (hgd : op.guard = none) (ht : t = 3) (u v r : Int) (hx : a.eval x = .int .i64 u) (hy : a.eval y = .int .i64 v) (hr : IntKind.i64.wrap (u + v) = r)
    (h : wpList Tryz.prog ops Q rest (a.put op.dst (.int .i64 r)) w) : wpList Tryz.prog ops Q (op :: rest) a w :=
  wpList_plain hgd fun _ hK => by
    subst ht hr
    unfold Oper.wp execOp
    simp only [ho, hx, hy]
    go_simp
    exact hK _ _ h
theorem sub_oI (x y : Operand) (t yt : TypeId) (ho : op.op = .binOp .sub t x y yt) (hgd : op.guard = none) (ht : t = 3) (u v r : Int) (hx : a.eval x = .int .i64 u) (hy : a.eval y = .int .i64 v) (hr : IntKind.i64.wrap (u - v) = r)
    (h : wpList Tryz.prog ops Q rest (a.put op.dst (.int .i64 r)) w) : wpList Tryz.prog ops Q (op :: rest) a w :=
  wpList_plain hgd fun _ hK => by
    subst ht hr
    unfold Oper.wp execOp
    simp only [ho, hx, hy]
    go_simp
    exact hK _ _ h
theorem cvt_oI (x : Operand) (ho : op.op = .convert 3 5 x) (hgd : op.guard = none) (u r : Int) (hx : a.eval x = .int .i64 u) (hr : IntKind.u8.wrap u = r)
    (h : wpList Tryz.prog ops Q rest (a.put op.dst (.int .u8 r)) w) : wpList Tryz.prog ops Q (op :: rest) a w :=
  wpList_plain hgd fun _ hK => by
    subst hr
    unfold Oper.wp execOp
    simp only [ho, hx]
    go_simp
    exact hK _ _ h
theorem c_xor255 (x : BitVec 8) : bits BinOp.xor IntKind.u8 (c x) 255 = c (x ^^^ 255#8) := by
  revert x; decide
theorem xor_oI (x : Operand) (yt : TypeId) (ho : op.op = .binOp .xor 5 x (.const (.int .u8 255)) yt) (hgd : op.guard = none) (b : BitVec 8) (hx : a.eval x = .int .u8 (c b))
    (h : wpList Tryz.prog ops Q rest (a.put op.dst (.int .u8 (c (b ^^^ 255#8)))) w) : wpList Tryz.prog ops Q (op :: rest) a w :=
  wpList_plain hgd fun _ hK => by
    have e := c_xor255 b
    unfold Oper.wp execOp
    simp only [ho, hx]
    go_simp
    exact hK _ _ h
end
def mk8 : List (BitVec 8) := [130#8, 131#8, 132#8, 133#8, 134#8, 135#8, 136#8, 137#8]
theorem mk8_len : mk8.length = 8 := rfl
theorem mk8_at (t : Nat) (h : t < 8) : mk8[t]? = some (mk8.getD t 0#8) ∧ c (mk8.getD t 0#8) = 130 + (t : Int) ∧ IntKind.u8.wrap (130 + (t : Int)) = c (mk8.getD t 0#8) := by
  rcases (show t = 0 ∨ t = 1 ∨ t = 2 ∨ t = 3 ∨ t = 4 ∨ t = 5 ∨ t = 6 ∨ t = 7 by omega) with rfl | rfl | rfl | rfl | rfl | rfl | rfl | rfl <;> exact ⟨rfl, rfl, rfl⟩
theorem lend_fill (d : List (BitVec 8)) (t : Nat) (h : t < 8) : (d ++ (mk8.take t ++ List.replicate (8 - t) 0#8)).set (d.length + t) (mk8.getD t 0#8) = d ++ (mk8.take (t + 1) ++ List.replicate (8 - (t + 1)) 0#8) := by
  rw [List.set_append_right _ _ (by omega), show d.length + t - d.length = t by omega]
  congr 1
  rcases (show t = 0 ∨ t = 1 ∨ t = 2 ∨ t = 3 ∨ t = 4 ∨ t = 5 ∨ t = 6 ∨ t = 7 by omega) with rfl | rfl | rfl | rfl | rfl | rfl | rfl | rfl <;> rfl
theorem lend_start (d : List (BitVec 8)) (n : Nat) (hn : d.length = n) : (vB (List.replicate (n + 8) 0#8)).take 0 ++ vB (d.take (n + 8)) ++ (vB (List.replicate (n + 8) 0#8)).drop (0 + (vB (d.take (n + 8))).length) = vB (d ++ (mk8.take 0 ++ List.replicate (8 - 0) 0#8)) := by
  subst hn
  rw [List.take_of_length_le (l := d) (by omega)]
  simp [vB]
theorem wrap64I (z : Int) (h1 : -1000000000 ≤ z) (h2 : z ≤ 1000000000) : IntKind.i64.wrap z = z := by
  simp [IntKind.wrap, IntKind.bits, IntKind.signed]
  omega
set_option maxRecDepth 100000 in
set_option maxHeartbeats 4000000 in
theorem lend_any (d : List (BitVec 8)) (n : Nat) (hn : d.length = n) (hnb : n ≤ 100000000) (A : Option Addr) (cap : Nat) (w : World) (hv : SlAt w (.slice A n cap) d) :
    Calls Tryz.prog 11 #[.slice A n cap] w fun e w' => e = .returned (.slice (some ⟨w.heap.size, 0, none⟩) (n + 8) (n + 8)) ∧ Row w' w.heap.size (vB (d ++ mk8)) 5 ∧ Below w.heap.size w w' := by
  have HV : Hid (SlAt w (.slice A n cap) d) := hv
  have HD : Hid (d.length = n) := hn
  have HT : Hid ((vB (d.take (n + 8))).length = n) := by show _ = _; rw [vB_length, List.length_take, hn]; omega
  clear hv hn
  go_enter Tryz.func11, Tryz.ntmps11
  go_upto_region 3 with (first
    | (refine wpList_make1 rfl (.tmp 7) (.tmp 7) rfl (n + 8) _ _ (by omega) (by omega) rfl rfl (by omega) ?_; intro X1 r1 b1 s1; have R1 : Hid (Row X1 w.heap.size (vB (List.replicate (n + 8) 0#8)) 5) := r1; have B1 : Hid (Below w.heap.size w X1) := b1; have TH : Hid (X1.there w.heap.size 0 (vB (d.take (n + 8))).length) := r1.there 0 _ (by rw [HT.out, vB_length, List.length_replicate]; omega); clear r1 b1 s1; simp only [Act.put, List.setIfInBounds_toArray, List.set_cons_zero, List.set_cons_succ])
    | (refine wpList_copyb rfl (.tmp 9) (.tmp 10) rfl w.heap.size (n + 8) n cap A d HD.out rfl rfl (SlAt.be HV.out B1.out) TH.out ?_; simp only [Act.put, List.setIfInBounds_toArray, List.set_cons_zero, List.set_cons_succ]))
  obtain ⟨X2, hX2⟩ : ∃ X, X = X1.setCells w.heap.size 0 (vB (d.take (n + 8))) := ⟨_, rfl⟩
  have R2 : Hid (Row X2 w.heap.size (vB (d ++ (mk8.take 0 ++ List.replicate (8 - 0) 0#8))) 5) := by
    have := Row.setCells 0 (vB (d.take (n + 8))) R1.out (by rw [HT.out, vB_length, List.length_replicate]; omega)
    rw [lend_start d n HD.out, ← hX2] at this
    exact this
  have B2 : Hid (Below w.heap.size w X2) := by rw [hX2]; exact below_setCells B1.out (Nat.le_refl _) _
  rw [← hX2]
  obtain ⟨g, hg⟩ : ∃ g, g = w.heap.size := ⟨_, rfl⟩
  have HGG : Hid (w.heap.size ≤ g ∧ g = w.heap.size) := ⟨Nat.le_of_eq hg.symm, hg⟩
  rw [← hg] at R2 ⊢
  clear hX2 R1 B1 TH HT HV hg
  go_wp2_with fail
  go_loopw [4] (fun v wr => ∃ (t i : Nat), t ≤ 8 ∧ i = n + t ∧ v = .int .i64 (i : Int) ∧ Hid (Below w.heap.size w wr ∧ Row wr g (vB (d ++ (mk8.take t ++ List.replicate (8 - t) 0#8))) 5)) (fun v _ => n + 8 - (intOf v).toNat)
  case atStart => exact ⟨0, n, by omega, rfl, rfl, B2.out, R2.out⟩
  case round =>
    clear B2 R2
    obtain ⟨t, i, ht, hi, rfl, HI0⟩ := hrel
    by_cases hlt : t < 8
    · have hin : i < n + 8 := by omega
      have hib : i ≤ 200000000 := by omega
      have HA : Hid (IntKind.i64.wrap (130 + (i : Int)) = 130 + (i : Int)) := wrap64I _ (by omega) (by omega)
      have HS : Hid (IntKind.i64.wrap (130 + (i : Int) - (n : Int)) = 130 + (t : Int)) := by show _ = _; rw [wrap64I _ (by omega) (by omega)]; omega
      obtain ⟨y, hy⟩ : ∃ y, y = mk8.getD t 0#8 := ⟨_, rfl⟩
      have HC : Hid (IntKind.u8.wrap (130 + (t : Int)) = c y) := by rw [hy]; exact (mk8_at t hlt).2.2
      have hlen : i < (vB (d ++ (mk8.take t ++ List.replicate (8 - t) 0#8))).length := by rw [vB_length, List.length_append, List.length_append, List.length_take, List.length_replicate, HD.out, mk8_len]; omega
      have g1 := HI0.out.2.cell i _ (List.getElem?_eq_getElem hlen)
      have gf := HI0.out.2.thaw i
      obtain ⟨z, hz⟩ : ∃ z, z = (vB (d ++ (mk8.take t ++ List.replicate (8 - t) 0#8)))[i] := ⟨_, rfl⟩
      rw [← hz] at g1
      have HF : Hid ((d ++ (mk8.take t ++ List.replicate (8 - t) 0#8)).set i y = d ++ (mk8.take (t + 1) ++ List.replicate (8 - (t + 1)) 0#8)) := by rw [hi, ← HD.out, hy]; exact lend_fill d t hlt
      have HIE : Hid (i = n + t) := hi
      clear hz hy hlen hi
      go_wp2_with (first
        | (refine add_oI (.const (.int .i64 130)) (.tmp 22) _ _ rfl rfl rfl _ _ _ rfl rfl HA.out ?_; simp only [Act.put, List.setIfInBounds_toArray, List.set_cons_zero, List.set_cons_succ])
        | (refine sub_oI (.tmp 23) (.tmp 25) _ _ rfl rfl rfl _ _ _ rfl rfl HS.out ?_; simp only [Act.put, List.setIfInBounds_toArray, List.set_cons_zero, List.set_cons_succ])
        | (refine cvt_oI (.tmp 26) rfl rfl _ _ rfl HC.out ?_; simp only [Act.put, List.setIfInBounds_toArray, List.set_cons_zero, List.set_cons_succ]))
      have hi := HIE.out
      refine ⟨⟨t + 1, i + 1, by omega, by omega, by go_num, ?_⟩, by simp [intOf]; omega⟩
      refine ⟨HI0.out.1.setCell (by have := HGG.out.1; simpa using this) _, ?_⟩
      have := HI0.out.2.set i (.int .u8 (c y))
      rw [vB_set, HF.out] at this
      exact this
    · have ht8 : t = 8 := by omega
      have hin : ¬ (i < n + 8) := by omega
      have R3 : Hid (Row wr g (vB (d ++ mk8)) 5) := by
        have := HI0.out.2
        rw [ht8] at this
        show Row _ _ _ _
        simpa [mk8] using this
      have B3 : Hid (Below w.heap.size w wr) := HI0.out.1
      have hin2 : ¬ ((i : Int) < (n : Int) + 8) := by omega
      clear HI0 ht8 hlt hi ht
      go_wp2_with fail
      go_ret
      exact ⟨by rw [← HGG.out.2]; rfl, by rw [← HGG.out.2]; exact R3.out, B3.out⟩
/-- Bytes turned. -/
def flp (d : List (BitVec 8)) : List (BitVec 8) := d.map (· ^^^ 255#8)
theorem flp_len (d : List (BitVec 8)) : (flp d).length = d.length := List.length_map ..
theorem flp_step (F : List (BitVec 8)) (i : Nat) (x : BitVec 8) (h : F[i]? = some x) : (flp (F.take i) ++ F.drop i).set i (x ^^^ 255#8) = flp (F.take (i + 1)) ++ F.drop (i + 1) := by
  have hi := (List.getElem?_eq_some_iff.1 h).1
  have hl : (flp (F.take i)).length = i := by rw [flp_len, List.length_take]; omega
  have hd : F.drop i = x :: F.drop (i + 1) := by rw [List.drop_eq_getElem_cons hi]; congr 1; rw [List.getElem?_eq_getElem hi] at h; exact Option.some.inj h
  rw [List.set_append_right _ _ (by omega), hl, Nat.sub_self, hd, List.set_cons_zero, show F.take (i + 1) = F.take i ++ [x] by rw [List.take_add_one, h]; rfl]
  simp [flp]
theorem flp_at (F : List (BitVec 8)) (i : Nat) (x : BitVec 8) (h : F[i]? = some x) : (vB (flp (F.take i) ++ F.drop i))[i]? = some (.int .u8 (c x)) := by
  have hi := (List.getElem?_eq_some_iff.1 h).1
  have hl : (flp (F.take i)).length = i := by rw [flp_len, List.length_take]; omega
  unfold vB
  rw [List.getElem?_map, List.getElem?_append_right (by omega), hl, Nat.sub_self, List.getElem?_drop, Nat.add_zero, h]
  rfl
set_option maxRecDepth 100000 in
set_option maxHeartbeats 4000000 in
theorem unchanged_any (d : List (BitVec 8)) (n : Nat) (hn : d.length = n) (hnb : n ≤ 100000000) (A : Option Addr) (cap g : Nat) (w : World) (hr : Row w g (vB (d ++ mk8)) 5) (hv : SlAt w (.slice A n cap) d) (hne : ∀ b o, A = some ⟨b, o, none⟩ → 0 < n → b ≠ g) :
    Calls Tryz.prog 18 #[.slice (some ⟨g, 0, none⟩) (n + 8) (n + 8), .slice A n cap] w fun e w' => e = .returned (.bool true) ∧ Row w' g (vB (flp (d ++ mk8))) 5 ∧ Gro (· = g) w w' := by
  obtain ⟨F, hF⟩ : ∃ F, F = d ++ mk8 := ⟨_, rfl⟩
  have HFL : Hid (F.length = n + 8) := by show _ = _; rw [hF, List.length_append, hn]; rfl
  have HV : Hid (∀ i x, F[i]? = some x → i < n → ∃ b o, A = some ⟨b, o, none⟩ ∧ b ≠ g ∧ w.cell? ⟨b, o + i, none⟩ = some (.int .u8 (c x))) := fun i x hx hi => by
    have hdx : d[i]? = some x := by rw [hF, List.getElem?_append_left (by omega)] at hx; exact hx
    rcases hv with ⟨h0, _⟩ | ⟨b, o, c', e, _, hrg⟩
    · subst h0; simp at hdx
    · simp only [Value.slice.injEq] at e
      refine ⟨b, o, e.1, hne b o e.1 (by omega), ?_⟩
      have := hrg i (.int .u8 (c x)) (by unfold vB; rw [List.getElem?_map, hdx]; rfl)
      exact this
  have HM : Hid (∀ i x, F[i]? = some x → n ≤ i → i < n + 8 ∧ IntKind.u8.wrap (130 + (i : Int) - (n : Int)) = c x) := fun i x hx hi => by
    have h8 : i < n + 8 := by have := (List.getElem?_eq_some_iff.1 hx).1; rw [HFL.out] at this; exact this
    refine ⟨h8, ?_⟩
    rw [hF, List.getElem?_append_right (by omega), hn, (mk8_at (i - n) (by omega)).1] at hx
    cases hx
    rw [← (mk8_at (i - n) (by omega)).2.2]
    congr 1
    omega
  have HR0 : Hid (Row w g (vB (flp (F.take 0) ++ F.drop 0)) 5) := by rw [hF]; exact hr
  have HFE : Hid (F = d ++ mk8) := hF
  clear hr hv hne hF hn
  go_enter Tryz.func18, Tryz.ntmps18
  go_wp2_with fail
  go_loopw [5] (fun v wr => ∃ i : Nat, i ≤ n + 8 ∧ v = .int .i64 (i : Int) ∧ Hid (Gro (· = g) w wr ∧ Row wr g (vB (flp (F.take i) ++ F.drop i)) 5)) (fun v _ => n + 8 - (intOf v).toNat)
  case atStart => exact ⟨0, Nat.zero_le _, rfl, Gro.refl _ _, HR0.out⟩
  case round =>
    clear HR0
    obtain ⟨i, hi, rfl, HI0⟩ := hrel
    by_cases hlt : i < n + 8
    · obtain ⟨x, hx⟩ : ∃ x, F[i]? = some x := ⟨_, List.getElem?_eq_getElem (by rw [HFL.out]; exact hlt)⟩
      have hib : i ≤ 200000000 := by omega
      have HA : Hid (IntKind.i64.wrap (130 + (i : Int)) = 130 + (i : Int)) := wrap64I _ (by omega) (by omega)
      have HS : Hid (IntKind.i64.wrap (130 + (i : Int) - (n : Int)) = 130 + (i : Int) - (n : Int)) := wrap64I _ (by omega) (by omega)
      have g1 := HI0.out.2.cell i _ (flp_at F i x hx)
      have gf := HI0.out.2.thaw i
      have HST : Hid ((flp (F.take i) ++ F.drop i).set i (x ^^^ 255#8) = flp (F.take (i + 1)) ++ F.drop (i + 1)) := flp_step F i x hx
      have hl2 : (i : Int) < (n : Int) + 8 := by omega
      by_cases hin : i < n
      · obtain ⟨b, o, rfl, hbg, hcb⟩ := HV.out i x hx hin
        have hcb2 : wr.cell? ⟨b, o + i, none⟩ = some (.int .u8 (c x)) := by
          have hblt : b < w.heap.size := World.block_lt_of_cell? w _ hcb
          rw [← hcb]
          exact World.cell?_of_block (w := w) (a := ⟨b, o + i, none⟩) (HI0.out.1.block b hblt hbg)
        obtain ⟨r8, hr8⟩ : ∃ r, IntKind.u8.wrap (130 + (i : Int) - (n : Int)) = r := ⟨_, rfl⟩
        have HC : Hid (IntKind.u8.wrap (130 + (i : Int) - (n : Int)) = r8) := hr8
        have hin2 : (i : Int) < (n : Int) := by omega
        clear hcb hr8 hx hbg
        go_wp2_with (first
          | (refine add_oI (.const (.int .i64 130)) (.tmp 13) _ _ rfl rfl rfl _ _ _ rfl rfl HA.out ?_; simp only [Act.put, List.setIfInBounds_toArray, List.set_cons_zero, List.set_cons_succ])
          | (refine sub_oI (.tmp 14) (.tmp 16) _ _ rfl rfl rfl _ _ _ rfl rfl HS.out ?_; simp only [Act.put, List.setIfInBounds_toArray, List.set_cons_zero, List.set_cons_succ])
          | (refine cvt_oI (.tmp 17) rfl rfl _ _ rfl HC.out ?_; simp only [Act.put, List.setIfInBounds_toArray, List.set_cons_zero, List.set_cons_succ])
          | (refine xor_oI (.tmp 38) _ rfl rfl x rfl ?_; simp only [Act.put, List.setIfInBounds_toArray, List.set_cons_zero, List.set_cons_succ]))
        refine ⟨⟨i + 1, hlt, by go_num, ?_⟩, by simp [intOf]; omega⟩
        refine ⟨HI0.out.1.set g i _ rfl, ?_⟩
        have := HI0.out.2.set i (.int .u8 (c (x ^^^ 255#8)))
        rw [vB_set, HST.out] at this
        exact this
      · have HC : Hid (IntKind.u8.wrap (130 + (i : Int) - (n : Int)) = c x) := (HM.out i x hx (by omega)).2
        have hin2 : ¬ ((i : Int) < (n : Int)) := by omega
        clear hx
        go_wp2_with (first
          | (refine add_oI (.const (.int .i64 130)) (.tmp 13) _ _ rfl rfl rfl _ _ _ rfl rfl HA.out ?_; simp only [Act.put, List.setIfInBounds_toArray, List.set_cons_zero, List.set_cons_succ])
          | (refine sub_oI (.tmp 14) (.tmp 16) _ _ rfl rfl rfl _ _ _ rfl rfl HS.out ?_; simp only [Act.put, List.setIfInBounds_toArray, List.set_cons_zero, List.set_cons_succ])
          | (refine cvt_oI (.tmp 17) rfl rfl _ _ rfl HC.out ?_; simp only [Act.put, List.setIfInBounds_toArray, List.set_cons_zero, List.set_cons_succ])
          | (refine xor_oI (.tmp 38) _ rfl rfl x rfl ?_; simp only [Act.put, List.setIfInBounds_toArray, List.set_cons_zero, List.set_cons_succ]))
        refine ⟨⟨i + 1, hlt, by go_num, ?_⟩, by simp [intOf]; omega⟩
        refine ⟨HI0.out.1.set g i _ rfl, ?_⟩
        have := HI0.out.2.set i (.int .u8 (c (x ^^^ 255#8)))
        rw [vB_set, HST.out] at this
        exact this
    · have hl2 : ¬ ((i : Int) < (n : Int) + 8) := by omega
      have R3 : Hid (Row wr g (vB (flp (d ++ mk8))) 5) := by
        have := HI0.out.2
        rw [List.take_of_length_le (by rw [HFL.out]; omega), List.drop_of_length_le (by rw [HFL.out]; omega), List.append_nil, HFE.out] at this
        exact this
      have G3 : Hid (Gro (· = g) w wr) := HI0.out.1
      clear HI0 hlt
      go_wp2_with fail
      go_ret
      exact ⟨rfl, R3.out, G3.out⟩

end Go.Proofs.YtknabkoddickaaaGreatDoor

namespace Go.Proofs.YtknabkoddickaaaGreatDoor
open Go Go.RowKit
open Sha

theorem info_sl : ∃ ie z, Tryz.prog.info? 44 = some ie ∧ ie.zero = some z ∧ ie.size = 1 ∧ ie.bytes = 24 ∧ z.cells.size = 1 := by
  have i1 : (Tryz.prog.info? 44).map (fun i => (i.zero, i.size, i.bytes)) = some (some (.slice none 0 0), 1, 24) := by kernel_rfl
  cases hi : Tryz.prog.info? 44 with
  | none => rw [hi] at i1; cases i1
  | some ie =>
    rw [hi] at i1
    simp only [Option.map_some, Option.some.injEq, Prod.mk.injEq] at i1
    exact ⟨ie, _, rfl, i1.1, i1.2.1, i1.2.2, rfl⟩
theorem info_sl4 : ∃ ie z, Tryz.prog.info? 44 = some ie ∧ ie.zero = some z ∧ ie.size = 1 ∧ z.cells.size = 1 := by
  obtain ⟨ie, z, h1, h2, h3, _, h4⟩ := info_sl
  exact ⟨ie, z, h1, h2, h3, h4⟩
section
variable {ops : Array Oper} {rest : List Oper} {op : Oper} {a : Act} {w : World} {Q : Exit → Act → World → Prop}
theorem wpList_mkE (hgd : op.guard = none) (x y : Operand) (ho : op.op = .makeSlice 52 x y) (n : Nat) (l l' : Int) (hl : l = (n : Int)) (hl' : l' = (n : Int)) (hx : a.eval x = .int .i64 l) (hy : a.eval y = .int .i64 l') (hn : n ≤ 1000000)
    (h : ∀ X cs, cs.length = n * 49 → Row X w.heap.size cs 46 → Below w.heap.size w X → wpList Tryz.prog ops Q rest (a.put op.dst (.slice (some ⟨w.heap.size, 0, none⟩) n n)) X) : wpList Tryz.prog ops Q (op :: rest) a w :=
  wpList_plain hgd fun _ hK => by
    subst hl; subst hl'
    obtain ⟨ie, z, i1, i2, i3, i5, i4⟩ := info_entO
    have hr := run_make (P := Tryz.prog) w 52 46 ie z Tryz.underlying52 i1 i2 .i64 .i64 (n : Int) (n : Int) (by omega) (by omega) (by rw [i5]; omega) (by omega)
    rw [i3, Int.toNat_natCast] at hr
    unfold Oper.wp execOp
    simp only [ho, hx, hy, Sem.run_bind, hr, Result.andThen_ok]
    exact hK _ _ (h _ (madeCells z.cells (n * 49)).toList (by rw [Array.length_toList, size_madeCells]) (Row.new' rfl rfl) ((Below.refl _ _).alloc (Nat.le_refl _) _))
def kE (k : Int) : List Value := zE.set 0 (.int .i64 k)
theorem kE_len (k : Int) : (kE k).length = 49 := rfl
theorem kE_one (k : Int) : (kE k).toArray.all (·.oneCell') = true := all_oneCell_toArray (ent_one1 k _ _ _ _ _ _ _ _ _)
theorem built_kE (k : Int) : Tryz.prog.built 46 [(0, .int .i64 k)] = some (kE k).toArray := by kernel_rfl
theorem wpList_buildKE (hgd : op.guard = none) (x : Operand) (ho : op.op = .build 46 #[(0, x)]) (k : Int) (hx : a.eval x = .int .i64 k) (L : List Value) (hL : L = kE k) (h : wpList Tryz.prog ops Q rest (a.put op.dst (.agg L.toArray)) w) : wpList Tryz.prog ops Q (op :: rest) a w :=
  wpList_plain hgd fun _ hK => by
    have hr := run_build (P := Tryz.prog) w 46 #[(0, .int .i64 k)] _ (built_kE k)
    rw [← hL] at hr
    unfold Oper.wp execOp
    simp only [ho, List.map_toArray, List.map_cons, List.map_nil, hx, Sem.run_bind, hr, Result.andThen_ok, Sem.run_pure, Oper.upon_value]
    exact hK _ _ h
end
/-- A part of a row, written over. -/
def ovr (cs : List Value) (o : Nat) (L : List Value) : List Value := cs.take o ++ L ++ cs.drop (o + L.length)
theorem ovr_len {cs L : List Value} {o : Nat} (h : o + L.length ≤ cs.length) : (ovr cs o L).length = cs.length := by
  unfold ovr
  rw [List.length_append, List.length_append, List.length_take, List.length_drop]
  omega
theorem ovr_in {cs L : List Value} {o k : Nat} (h : o + L.length ≤ cs.length) (hk : k < L.length) : (ovr cs o L)[o + k]? = L[k]? := by
  unfold ovr
  have hl : (cs.take o).length = o := by rw [List.length_take]; omega
  rw [List.getElem?_append_left (by rw [List.length_append, hl]; omega), List.getElem?_append_right (by omega), hl, Nat.add_sub_cancel_left]
theorem ovr_out {cs L : List Value} {o p : Nat} (h : o + L.length ≤ cs.length) (hp : p < o ∨ o + L.length ≤ p) : (ovr cs o L)[p]? = cs[p]? := by
  unfold ovr
  have hl : (cs.take o).length = o := by rw [List.length_take]; omega
  rcases hp with hp | hp
  · rw [List.getElem?_append_left (by rw [List.length_append, hl]; omega), List.getElem?_append_left (by omega), List.getElem?_take_of_lt hp]
  · rw [List.getElem?_append_right (by rw [List.length_append, hl]; omega), List.length_append, hl, List.getElem?_drop, show o + L.length + (p - (o + L.length)) = p by omega]
/-- An entry whose body lies in a block of its own. -/
def ecell (e : Ev) (g : Nat) : List Value := e.cells (.slice (some ⟨g, 0, none⟩) e.d.length (e.d.length + 8))
def bval (e : Ev) (g : Nat) : Value := .slice (some ⟨g, 0, none⟩) (e.d.length + 8) (e.d.length + 8)
def At49 (cs : List Value) (j : Nat) (L : List Value) : Prop := ∀ k u, L[k]? = some u → cs[j * 49 + k]? = some u
/-- The law's entries, i of them laid, m kinds behind them, and its bodies. -/
structure Fu (w0 w : World) (F N : Nat) (A8 : Option Addr) (c8 : Nat) (es : List Ev) (cs : List Value) (gs : List Nat) (bs : List (List (BitVec 8))) (i m : Nat) : Prop where
  row : Row w F cs 46
  len : cs.length = (N + 3) * 49
  wf : ∀ e ∈ es, e.Wf
  nes : es.length = N
  ent : ∀ (j : Nat) (e : Ev) (g : Nat), j < i → es[j]? = some e → gs[j]? = some g → At49 cs j (ecell e g)
  kin : ∀ j, j < m → cs[(N + j) * 49]? = some (.int .i64 (500 + ((N + j : Nat) : Int)))
  lw : ∃ vs, Lw w 44 1 (.slice A8 gs.length c8) gs.length vs ∧ ∀ (j : Nat) (e : Ev) (g : Nat), es[j]? = some e → gs[j]? = some g → vs[j]? = some (bval e g)
  bl : bs.length = gs.length
  hi : i ≤ gs.length
  bd : ∀ (j g : Nat) (b : List (BitVec 8)), gs[j]? = some g → bs[j]? = some b → Row w g (vB b) 5
  bn : ∀ (j : Nat) (e : Ev) (b : List (BitVec 8)), es[j]? = some e → bs[j]? = some b → b.length = e.d.length + 8
  up : ∀ (j k g h : Nat), gs[j]? = some g → gs[k]? = some h → j < k → g < h
  f0 : w0.heap.size ≤ F
  g0 : ∀ g ∈ gs, w0.heap.size ≤ g
  l0 : ∀ g, (Value.slice A8 gs.length c8).ownBlock = some g → w0.heap.size ≤ g
  be : Below w0.heap.size w0 w
section
variable {w0 w w' : World} {F N c8 i m : Nat} {A8 : Option Addr} {es : List Ev} {cs : List Value} {gs : List Nat} {bs : List (List (BitVec 8))}
theorem Fu.below (h : Fu w0 w F N A8 c8 es cs gs bs i m) (k : Below w.heap.size w w') : Fu w0 w' F N A8 c8 es cs gs bs i m := by
  obtain ⟨vs, l1, l2⟩ := h.lw
  exact ⟨Row.below h.row k h.row.lt, h.len, h.wf, h.nes, h.ent, h.kin, ⟨vs, Lw.be l1 k, l2⟩, h.bl, h.hi, fun j g b hg hb => Row.below (h.bd j g b hg hb) k (h.bd j g b hg hb).lt, h.bn, h.up, h.f0, h.g0, h.l0, h.be.trans (k.mono h.be.size)⟩
theorem Fu.gs_lt (h : Fu w0 w F N A8 c8 es cs gs bs i m) : ∀ g ∈ gs, g < w.heap.size := fun g hg => by
  obtain ⟨j, hj, rfl⟩ := List.getElem_of_mem hg
  exact (h.bd j gs[j] (bs[j]'(by rw [h.bl]; exact hj)) (List.getElem?_eq_getElem hj) (List.getElem?_eq_getElem _)).lt
/-- One more body. -/
theorem Fu.app (h : Fu w0 w F N A8 c8 es cs gs bs i m) {vs : List Value} (hv : ∀ (j : Nat) (e : Ev) (g : Nat), es[j]? = some e → gs[j]? = some g → vs[j]? = some (bval e g)) (hvl : vs.length = gs.length) (g : Nat) (e : Ev) (he : es[gs.length]? = some e) (b : List (BitVec 8)) (hb : b.length = e.d.length + 8) (r : Row w g (vB b) 5) (hg : ∀ h ∈ gs, h < g) (hg0 : w0.heap.size ≤ g) (A9 : Option Addr) (c9 : Nat) (L : Lw w' 44 1 (.slice A9 (gs.length + 1) c9) (gs.length + 1) (vs ++ [bval e g])) (G : w.grownBy w' (Value.slice A8 gs.length c8).ownBlock) (O : (Value.slice A9 (gs.length + 1) c9).ownBlock = (Value.slice A8 gs.length c8).ownBlock ∨ (Value.slice A9 (gs.length + 1) c9).ownBlock = some w.heap.size) : Fu w0 w' F N A9 c9 es cs (gs ++ [g]) (bs ++ [b]) i m := by
  obtain ⟨vs0, l1, _⟩ := h.lw
  have rw8 : ∀ {b : Nat} {cs : List Value} {t : TypeId}, Row w b cs t → t ≠ 44 → Row w' b cs t := fun r ht => row_gb r G (some_ne (Lw.ne l1 r ht))
  have sn : ∀ {α : Type} (l : List α) (x y : α) (j : Nat), (l ++ [x])[j]? = some y → l[j]? = some y ∨ (j = l.length ∧ y = x) := fun l x y j q => by
    by_cases hj : j < l.length
    · rw [List.getElem?_append_left hj] at q; exact .inl q
    · have hl := (List.getElem?_eq_some_iff.1 q).1
      rw [List.length_append, List.length_singleton] at hl
      obtain rfl : j = l.length := by omega
      rw [List.getElem?_append_right (Nat.le_refl _), Nat.sub_self] at q
      exact .inr ⟨rfl, by simpa using q.symm⟩
  refine ⟨rw8 h.row (by decide), h.len, h.wf, h.nes, ?_, h.kin, ⟨vs ++ [bval e g], by rw [List.length_append, List.length_singleton]; exact L, ?_⟩, by rw [List.length_append, List.length_append, h.bl]; rfl, by rw [List.length_append]; exact Nat.le_trans h.hi (Nat.le_add_right _ _), ?_, ?_, ?_, h.f0, ?_, ?_, below_gb h.be G h.l0⟩
  · intro j e' g' hj he' hg'
    rcases sn gs g g' j hg' with q | ⟨q, rfl⟩
    · exact h.ent j e' g' hj he' q
    · have := h.hi
      omega
  · intro j e' g' he' hg'
    rcases sn gs g g' j hg' with q | ⟨q, rfl⟩
    · have := hv j e' g' he' q
      rw [List.getElem?_append_left ((List.getElem?_eq_some_iff.1 this).1)]
      exact this
    · subst q
      rw [he] at he'
      cases he'
      rw [List.getElem?_append_right (by omega), hvl, Nat.sub_self]
      rfl
  · intro j g' b' hg' hb'
    rcases sn gs g g' j hg' with q | ⟨q, rfl⟩
    · rcases sn bs b b' j hb' with q2 | ⟨q2, rfl⟩
      · exact rw8 (h.bd j g' b' q q2) (by decide)
      · have := (List.getElem?_eq_some_iff.1 q).1
        have := h.bl
        omega
    · rcases sn bs b b' j hb' with q2 | ⟨q2, rfl⟩
      · have := (List.getElem?_eq_some_iff.1 q2).1
        have := h.bl
        omega
      · exact rw8 r (by decide)
  · intro j e' b' he' hb'
    rcases sn bs b b' j hb' with q | ⟨q, rfl⟩
    · exact h.bn j e' b' he' q
    · rw [q, h.bl, he] at he'
      cases he'
      exact hb
  · intro j k g1 g2 h1 h2 hjk
    rcases sn gs g g1 j h1 with q | ⟨q, rfl⟩
    · rcases sn gs g g2 k h2 with q2 | ⟨q2, rfl⟩
      · exact h.up j k g1 g2 q q2 hjk
      · exact hg g1 (List.mem_of_getElem? q)
    · have := (List.getElem?_eq_some_iff.1 h2).1
      rw [List.length_append, List.length_singleton] at this
      omega
  · intro g' hg'
    rcases List.mem_append.1 hg' with q | q
    · exact h.g0 g' q
    · rw [List.mem_singleton.1 q]; exact hg0
  · intro g' hg'
    rw [List.length_append, List.length_singleton] at hg'
    rcases O with q | q
    · rw [q] at hg'; exact h.l0 g' hg'
    · rw [q] at hg'; cases hg'; exact h.be.size
theorem Fu.over (h : Fu w0 w F N A8 c8 es cs gs bs i m) (j : Nat) (hj : i ≤ j) (hj3 : j < N + 3) (hjm : j < N ∨ N + m ≤ j) (L : List Value) (hL : L.length = 49) {X : World} (r : Row X F (ovr cs (j * 49) L) 46) (G : Gro (· = F) w X) : Fu w0 X F N A8 c8 es (ovr cs (j * 49) L) gs bs i m := by
  have hb : j * 49 + L.length ≤ cs.length := by rw [h.len, hL]; omega
  obtain ⟨vs, l1, l2⟩ := h.lw
  refine ⟨r, by rw [ovr_len hb]; exact h.len, h.wf, h.nes, fun j' e g hj' he hg k u hu => ?_, fun j' hj' => ?_, ⟨vs, Lw.gro l1 G (Lw.ne l1 h.row (by decide)), l2⟩, h.bl, h.hi, fun j' g b hg hb' => ?_, h.bn, h.up, h.f0, h.g0, h.l0, h.be.trans (G.to_below h.be.size (fun g q => by rw [q]; exact h.f0))⟩
  · have hk : k < 49 := by have := (List.getElem?_eq_some_iff.1 hu).1; unfold ecell at this; rwa [Ev.len (h.wf e (List.mem_of_getElem? he))] at this
    rw [ovr_out hb (by rw [hL]; omega)]
    exact h.ent j' e g hj' he hg k u hu
  · rw [ovr_out hb (by rw [hL]; omega)]
    exact h.kin j' hj'
  · have rr := h.bd j' g b hg hb'
    exact (G.block g rr.lt (row_apart2 rr h.row (by decide))).trans rr
theorem Fu.kind (h : Fu w0 w F N A8 c8 es cs gs bs i m) (hi : i = N) (hm : m < 3) {X : World} (r : Row X F (ovr cs ((N + m) * 49) (kE (500 + ((N + m : Nat) : Int)))) 46) (G : Gro (· = F) w X) : Fu w0 X F N A8 c8 es (ovr cs ((N + m) * 49) (kE (500 + ((N + m : Nat) : Int)))) gs bs i (m + 1) := by
  have k := h.over (N + m) (by omega) (by omega) (.inr (Nat.le_refl _)) _ (kE_len _) r G
  refine ⟨k.row, k.len, k.wf, k.nes, k.ent, fun j hj => ?_, k.lw, k.bl, k.hi, k.bd, k.bn, k.up, k.f0, k.g0, k.l0, k.be⟩
  by_cases hjm : j < m
  · exact k.kin j hjm
  · obtain rfl : j = m := by omega
    have := ovr_in (cs := cs) (L := kE (500 + ((N + j : Nat) : Int))) (o := (N + j) * 49) (k := 0) (by rw [h.len, kE_len]; omega) (by rw [kE_len]; decide)
    rw [Nat.add_zero] at this
    rw [this]
    rfl
/-- An entry is laid whole. -/
theorem Fu.lay (h : Fu w0 w F N A8 c8 es cs gs bs i m) (hiN : i < N) (hig : i < gs.length) (e : Ev) (he : es[i]? = some e) (g : Nat) (hg : gs[i]? = some g) (v : Value) (ha : At49 cs i (e.cells v)) {X : World} (r : Row X F (cs.set (i * 49 + 48) (.slice (some ⟨g, 0, none⟩) e.d.length (e.d.length + 8))) 46) (G : Gro (· = F) w X) : Fu w0 X F N A8 c8 es (cs.set (i * 49 + 48) (.slice (some ⟨g, 0, none⟩) e.d.length (e.d.length + 8))) gs bs (i + 1) m := by
  have we := h.wf e (List.mem_of_getElem? he)
  obtain ⟨vs, l1, l2⟩ := h.lw
  refine ⟨r, by rw [List.length_set]; exact h.len, h.wf, h.nes, fun j' e' g' hj' he' hg' k u hu => ?_, fun j' hj' => ?_, ⟨vs, Lw.gro l1 G (Lw.ne l1 h.row (by decide)), l2⟩, h.bl, hig, fun j' g' b hg' hb' => ?_, h.bn, h.up, h.f0, h.g0, h.l0, h.be.trans (G.to_below h.be.size (fun g q => by rw [q]; exact h.f0))⟩
  · have hk : k < 49 := by have := (List.getElem?_eq_some_iff.1 hu).1; unfold ecell at this; rwa [Ev.len (h.wf e' (List.mem_of_getElem? he'))] at this
    by_cases hj : j' = i
    · subst hj
      rw [he] at he'; cases he'
      rw [hg] at hg'; cases hg'
      unfold ecell at hu
      rw [← Ev.set we v] at hu
      by_cases hk8 : k = 48
      · subst hk8
        rw [List.getElem?_set_self (by rw [h.len]; omega)]
        rw [List.getElem?_set_self (by rw [Ev.len we]; decide)] at hu
        exact hu
      · rw [List.getElem?_set_ne (by omega)]
        rw [List.getElem?_set_ne (by omega)] at hu
        exact ha k u hu
    · rw [List.getElem?_set_ne (by omega)]
      exact h.ent j' e' g' (by omega) he' hg' k u hu
  · rw [List.getElem?_set_ne (by omega)]
    exact h.kin j' hj'
  · have rr := h.bd j' g' b hg' hb'
    exact (G.block g' rr.lt (row_apart2 rr h.row (by decide))).trans rr
/-- A body is turned. -/
theorem Fu.turn (h : Fu w0 w F N A8 c8 es cs gs bs i m) (j g : Nat) (hg : gs[j]? = some g) (b' : List (BitVec 8)) (hb : b'.length = (bs.getD j []).length) {X : World} (r : Row X g (vB b') 5) (G : Gro (· = g) w X) : Fu w0 X F N A8 c8 es cs gs (bs.set j b') i m := by
  have hjl : j < gs.length := (List.getElem?_eq_some_iff.1 hg).1
  have hjb : j < bs.length := by rw [h.bl]; exact hjl
  have rr := h.bd j g bs[j] hg (List.getElem?_eq_getElem hjb)
  obtain ⟨vs, l1, l2⟩ := h.lw
  refine ⟨(G.block F h.row.lt (Ne.symm (row_apart2 rr h.row (by decide)))).trans h.row, h.len, h.wf, h.nes, h.ent, h.kin, ⟨vs, Lw.gro l1 G (Lw.ne l1 rr (by decide)), l2⟩, by rw [List.length_set]; exact h.bl, h.hi, fun k g' b hg' hb' => ?_, fun k e b he hb' => ?_, h.up, h.f0, h.g0, h.l0, h.be.trans (G.to_below h.be.size (fun q hq => by rw [hq]; exact h.g0 g (List.mem_of_getElem? hg)))⟩
  · by_cases hkj : k = j
    · subst hkj
      rw [hg] at hg'; cases hg'
      rw [List.getElem?_set_self hjb] at hb'; cases hb'
      exact r
    · rw [List.getElem?_set_ne (Ne.symm hkj)] at hb'
      have r2 := h.bd k g' b hg' hb'
      refine (G.block g' r2.lt (fun q => ?_)).trans r2
      rcases Nat.lt_or_gt_of_ne hkj with z | z
      · exact absurd (h.up k j g' g hg' hg z) (by omega)
      · exact absurd (h.up j k g g' hg hg' z) (by omega)
  · by_cases hkj : k = j
    · subst hkj
      rw [List.getElem?_set_self hjb] at hb'; cases hb'
      rw [hb, List.getD_eq_getElem?_getD, List.getElem?_eq_getElem hjb, Option.getD_some]
      exact h.bn k e bs[k] he (List.getElem?_eq_getElem hjb)
    · rw [List.getElem?_set_ne (Ne.symm hkj)] at hb'
      exact h.bn k e b he hb'
/-- An entry as its body stands. -/
def Ev.wb (e : Ev) (d : List (BitVec 8)) : Ev := ⟨e.k, e.sd, e.tm, e.tk, e.rc, e.am, e.gs, d⟩
theorem Ev.wb_wf {e : Ev} (h : e.Wf) (d : List (BitVec 8)) : (e.wb d).Wf := ⟨h.ls, h.lt, h.la, h.q⟩
theorem Ev.wb_same (e : Ev) : e.wb e.d = e := rfl
/-- Where an entry lies. -/
theorem Fu.place (h : Fu w0 w F N A8 c8 es cs gs bs i m) (j : Nat) (hj : j < i) (e : Ev) (he : es[j]? = some e) (b : List (BitVec 8)) (hb : bs[j]? = some b) : ∃ g, gs[j]? = some g ∧ w0.heap.size ≤ g ∧ w.rangeAt F (0 + j * 49) ((e.wb (b.take e.d.length)).cells (.slice (some ⟨g, 0, none⟩) (e.wb (b.take e.d.length)).d.length (e.d.length + 8))) ∧ SlAt w (.slice (some ⟨g, 0, none⟩) (e.wb (b.take e.d.length)).d.length (e.d.length + 8)) (e.wb (b.take e.d.length)).d ∧ (e.wb (b.take e.d.length)).d.length = e.d.length := by
  have hjg : j < gs.length := by have := (List.getElem?_eq_some_iff.1 hb).1; rw [h.bl] at this; exact this
  have hg : gs[j]? = some gs[j] := List.getElem?_eq_getElem hjg
  have hn := h.bn j e b he hb
  have hl : (e.wb (b.take e.d.length)).d.length = e.d.length := by show (b.take e.d.length).length = _; rw [List.length_take]; omega
  have rr := h.bd j _ b hg hb
  refine ⟨gs[j], hg, h.g0 _ (List.mem_of_getElem? hg), fun k u hu => ?_, .inr ⟨gs[j], 0, e.d.length + 8, rfl, by omega, fun k u hu => ?_⟩, hl⟩
  · have := h.row.all (j * 49 + k) u (h.ent j e _ hj he hg k u (by rw [hl] at hu; exact hu))
    rw [show 0 + j * 49 + k = 0 + (j * 49 + k) by omega]
    exact this
  · refine rr.all k u ?_
    have hk := (List.getElem?_eq_some_iff.1 hu).1
    rw [vB_length, hl] at hk
    unfold vB at hu ⊢
    rw [List.getElem?_map] at hu ⊢
    change (b.take e.d.length)[k]?.map _ = _ at hu
    rw [List.getElem?_take_of_lt hk] at hu
    exact hu
/-- The entries as they stand. -/
theorem Fu.at (h : Fu w0 w F N A8 c8 es cs gs bs i m) (hi : i = N) (fs : List Ev) (hfl : fs.length = N) (hf : ∀ (j : Nat) (e : Ev) (b : List (BitVec 8)), es[j]? = some e → bs[j]? = some b → fs[j]? = some (e.wb (b.take e.d.length))) : EsAt w (some ⟨F, 0, none⟩) fs := fun j f hj => by
  have hjN : j < N := by have := (List.getElem?_eq_some_iff.1 hj).1; omega
  have he : es[j]? = some (es[j]'(by rw [h.nes]; exact hjN)) := List.getElem?_eq_getElem _
  have hjb : j < bs.length := by rw [h.bl]; have := h.hi; omega
  have hb : bs[j]? = some bs[j] := List.getElem?_eq_getElem hjb
  have := hf j _ _ he hb
  rw [hj] at this
  cases this
  obtain ⟨g, _, _, q1, q2, _⟩ := h.place j (by omega) _ he _ hb
  exact ⟨F, 0, some ⟨g, 0, none⟩, _, rfl, q1, q2, fun q => by cases q⟩
end

end Go.Proofs.YtknabkoddickaaaGreatDoor

namespace Go.Proofs.YtknabkoddickaaaGreatDoor
open Go Go.RowKit
open Sha

section
variable {P : Program} {Q : Exit → Act → World → Prop} {o : Oper} {a : Act} {w : World} {K : Act → World → Prop}
theorem wp_cutTo15 (t e : TypeId) (x z : Operand) (A : Option Addr) (n cap j s : Nat) (ho : o.op = .slice t x none (some z) none) (hx : a.eval x = .slice A n cap) (hz : a.eval z = .int .i64 (j : Int)) (hj : j ≤ cap)
    (hu : Tryz.prog.underlying t = some (.slice e)) (hs : (Tryz.prog.info? e).map (·.size) = some s) (h : K (a.put o.dst (.slice A j cap)) w) : Oper.wp Tryz.prog o a w K Q := by
  cases hq : Tryz.prog.info? e with
  | none => simp [hq] at hs
  | some ie =>
    have h1 : ie.size = s := by simpa [hq] using hs
    have hr : (Instr.sliceAt t (.slice A n cap) none (some (.int .i64 (j : Int))) none).run Tryz.prog w = .ok (.slice A j cap) w := by
      have e0 : (0 : Int) ≤ (j : Int) := by omega
      have e1 : (j : Int) ≤ (cap : Int) := by omega
      simp only [Instr.sliceAt, Instr.slice, run_underlying hu, Instr.sliceBounds, Instr.sliceBound, asIntOf, sizeOf, typeInfo, Sem.run_bind, Sem.run_pure, Result.andThen_ok, e0, e1, and_self, if_true, Int.toNat_natCast]
      simp [go_sem]
      rw [hq]
      simp [go_sem, h1]
      try (cases A <;> simp [Addr.add])
      try omega
    unfold Oper.wp execOp
    simp only [ho, hx, hz, Option.map_some, Option.map_none, Sem.run_bind, hr, Result.andThen_ok, Sem.run_pure, Oper.upon_value]
    exact h
theorem wpList_cutTo15 {ops : Array Oper} {rest : List Oper} (hgd : o.guard = none) (t e : TypeId) (x z : Operand) (A : Option Addr) (n cap j s : Nat) (ho : o.op = .slice t x none (some z) none) (hx : a.eval x = .slice A n cap) (hz : a.eval z = .int .i64 (j : Int)) (hj : j ≤ cap)
    (hu : Tryz.prog.underlying t = some (.slice e)) (hs : (Tryz.prog.info? e).map (·.size) = some s) (h : wpList Tryz.prog ops Q rest (a.put o.dst (.slice A j cap)) w) : wpList Tryz.prog ops Q (o :: rest) a w :=
  wpList_plain hgd fun _ hK => wp_cutTo15 t e x z A n cap j s ho hx hz hj hu hs (hK _ _ h)
theorem wpList_neqD15 {ops : Array Oper} {rest : List Oper} (hw : Region.wanted o (yielded ops a.tmps) = true) (x y : Operand) (yt : TypeId) (ho : o.op = .binOp .neq 51 x y yt) (l : List (BitVec 8)) (hl : l.length = 32) (hx : a.eval x = .agg (vB l).toArray) (hy : a.eval y = .agg (vB l).toArray) (h : wpList Tryz.prog ops Q rest (a.put o.dst (.bool false)) w) : wpList Tryz.prog ops Q (o :: rest) a w :=
  BigFrame.wpList_want hw fun _ hK => wp_neD x y yt ho l l hl hl hx hy false (by simp) (hK _ _ h)
theorem wp_fe7q {x : Operand} (ho : o.op = .fieldAddr 46 x 7) (B q : Nat) (hx : a.eval x = .pointer (some ⟨B, q, none⟩)) (h : K (a.put o.dst (.pointer (some ⟨B, q + 48, none⟩))) w) : Oper.wp Tryz.prog o a w K Q := by
  unfold Oper.wp execOp
  simp only [ho, hx]
  go_simp
  exact h
end
theorem Fu.start {w0 w : World} {F N : Nat} {es : List Ev} {cs : List Value} (hw : ∀ e ∈ es, e.Wf) (hn : es.length = N) (q1 : cs.length = (N + 3) * 49) (q2 : Row w F cs 46) (q3 : Below w0.heap.size w0 w) (hF : w0.heap.size ≤ F) : Fu w0 w F N none 0 es cs [] [] 0 0 where
  row := q2
  len := q1
  wf := hw
  nes := hn
  ent := fun j e g hj => by omega
  kin := fun j hj => by omega
  lw := ⟨[], Lw.nil _ _ _, fun j e g _ hg => by simp at hg⟩
  bl := rfl
  hi := Nat.le_refl _
  bd := fun j g b hg => by simp at hg
  bn := fun j e b _ hb => by simp at hb
  up := fun j k g h hg => by simp at hg
  f0 := hF
  g0 := fun g hg => by cases hg
  l0 := fun g hg => by simp [Value.ownBlock] at hg
  be := q3
/-- The law's entries and its links. -/
structure Gu (w0 w : World) (F N : Nat) (A8 : Option Addr) (c8 : Nat) (es : List Ev) (cs : List Value) (gs : List Nat) (bs : List (List (BitVec 8))) (gl cl : Nat) (kk : List (BitVec 8)) : Prop where
  fu : Fu w0 w F N A8 c8 es cs gs bs N 3
  ld : Lw w 51 32 (.slice (some ⟨gl, 0, none⟩) (N + 1) cl) (N + 1) (dcg kk es N)
section
variable {w0 w w' : World} {F N c8 gl cl : Nat} {A8 : Option Addr} {es : List Ev} {cs : List Value} {gs : List Nat} {bs : List (List (BitVec 8))} {kk : List (BitVec 8)}
theorem Gu.below (h : Gu w0 w F N A8 c8 es cs gs bs gl cl kk) (k : Below w.heap.size w w') : Gu w0 w' F N A8 c8 es cs gs bs gl cl kk := ⟨h.fu.below k, Lw.be h.ld k⟩
theorem Gu.gro (h : Gu w0 w F N A8 c8 es cs gs bs gl cl kk) {b : Nat} {L : List Value} (r : Row w b L 51) (hb : b ≠ gl) (h0 : w0.heap.size ≤ b) (G : Gro (· = b) w w') : Gu w0 w' F N A8 c8 es cs gs bs gl cl kk := by
  obtain ⟨vs, l1, l2⟩ := h.fu.lw
  refine ⟨⟨(G.block F h.fu.row.lt (row_apart2 h.fu.row r (by decide))).trans h.fu.row, h.fu.len, h.fu.wf, h.fu.nes, h.fu.ent, h.fu.kin, ⟨vs, Lw.gro l1 G (Lw.ne l1 r (by decide)), l2⟩, h.fu.bl, h.fu.hi, fun j g b' hg hb' => ?_, h.fu.bn, h.fu.up, h.fu.f0, h.fu.g0, h.fu.l0, h.fu.be.trans (G.to_below h.fu.be.size (fun g q => by rw [q]; exact h0))⟩, Lw.gro h.ld G (fun g hg q => ?_)⟩
  · have rr := h.fu.bd j g b' hg hb'
    exact (G.block g rr.lt (row_apart2 rr r (by decide))).trans rr
  · simp only [Value.ownBlock, Option.some.injEq] at hg
    exact hb (q ▸ hg.symm)
theorem Gu.sets (h : Gu w0 w F N A8 c8 es cs gs bs gl cl kk) {b : Nat} {L : List Value} (r : Row w b L 51) (hb : b ≠ gl) (h0 : w0.heap.size ≤ b) (o : Nat) (vs : List Value) : Gu w0 (w.setCells b o vs) F N A8 c8 es cs gs bs gl cl kk := h.gro r hb h0 (gro_over (Gro.refl _ _) b o vs rfl)
theorem Gu.link (h : Gu w0 w F N A8 c8 es cs gs bs gl cl kk) (hk : kk.length = 32) (i q : Nat) (hi : i ≤ N) (hq : 0 + i * 32 = q) : w.rangeAt gl q (vB (lkg kk (es.take i))) := fun j u hj => by
  have := h.ld.range (i * 32 + j) u (dcg_at kk hk es N i hi j u hj)
  rw [show q + j = 0 + (i * 32 + j) by omega]
  exact this
end
theorem flp_take (d : List (BitVec 8)) : (flp (d ++ mk8)).take d.length = flp d := by
  unfold flp
  rw [List.map_append, List.take_left' (by simp)]
theorem wb_flp (e : Ev) : e.wb ((flp (e.d ++ mk8)).take e.d.length) = e.wb (flp e.d) := by rw [flp_take]
theorem info_ts1 : (Tryz.prog.info? 44).map (·.size) = some 1 := by kernel_rfl
theorem At49.of_ovr {cs L : List Value} {j : Nat} (h : j * 49 + L.length ≤ cs.length) : At49 (ovr cs (j * 49) L) j L := fun k u hu => by
  rw [ovr_in h ((List.getElem?_eq_some_iff.1 hu).1)]
  exact hu
theorem dgL15 (k : List (BitVec 8)) (h : k.length = 32) : (vB k).length = (vB zK).length := by rw [vB_length, vB_length, h]; rfl
theorem dgI15 (k : List (BitVec 8)) (h : k.length = 32) : (Tryz.prog.info? 51).map (·.size) = some (vB k).length := by rw [vB_length, h]; exact info_dg

end Go.Proofs.YtknabkoddickaaaGreatDoor
