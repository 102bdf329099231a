/-
  The vault's calls, over its state.
-/
import Derived.Test.YtefjonidpmpjbaaEsF
namespace Go.Proofs.Ytefjonidpmpjbaa
open Go Go.RowKit Go.Maps
open Wd

theorem wpList_allocW {ops : Array Oper} {rest : List Oper} {op : Oper} {a : Act} {w : World} {Q : Exit → Act → World → Prop} (hgd : op.guard = none) (ho : op.op = .alloc 33) (h : ∀ X, Row X w.heap.size (vQ (List.replicate 4 0)) 33 → Below w.heap.size w X → wpList Try.prog ops Q rest (a.put op.dst (.pointer (some ⟨w.heap.size, 0, none⟩))) X) : wpList Try.prog ops Q (op :: rest) a w :=
  wpList_plain hgd fun _ hK => by
    unfold Oper.wp execOp
    simp only [ho]
    go_simp
    exact hK _ _ (h _ (Row.new' (cs := vQ (List.replicate 4 0)) rfl rfl) ((Below.refl _ _).alloc (Nat.le_refl _) _))
theorem zw_len : (vQ (List.replicate 4 0)).length = 4 := rfl

theorem vcs_rng {w : World} {p : Nat} {m1 m2 : Value} {L : Nat} {t : TypeId} {cc : List Value} (h : Row w p (vcs m1 m2 L) t) (hc : Wc cc L) : w.rangeAt p 2 cc := by
  rw [hc]
  exact h.range 2 _ (fun j v hv => by rw [Nat.add_comm]; exact hv)
theorem vcs_put {cc : List Value} {r : Nat} (h : Wc cc r) (m1 m2 : Value) (L : Nat) : (vcs m1 m2 L).take 2 ++ cc ++ (vcs m1 m2 L).drop (2 + cc.length) = vcs m1 m2 r := by
  rw [h.len, h]
  rfl
set_option maxRecDepth 100000 in
set_option maxHeartbeats 4000000 in
theorem listed_any {w : World} {p c : Nat} {m1 m2 : Value} {s : St} (hV : Vt w p c m1 m2 s) (x : Int) (s1 : Bool) (h1 : Nat) (E : Int) (hf : fnd s.T x = (s1, h1, E)) :
    Calls Try.prog 30 #[.pointer (some ⟨p, 0, none⟩), .int .i64 x] w fun e w' => e = .returned (.tuple #[.bool (E == 0), .bool s1]) ∧ Below w.heap.size w w' := by
  have HV : Hid (Vt w p c m1 m2 s) := hV
  have HF : Hid (fnd s.T x = (s1, h1, E)) := hf
  clear hV hf
  go_enter Try.func30, Try.ntmps30
  go_upto_region 2 with (first
    | (go_at_call 47; refine Calls.mono (find_any HV.out x s1 h1 E HF.out) ?_; rintro e X2 ⟨rfl, q⟩; have B2 : Hid (Below w.heap.size w X2) := q; clear q)
    | (refine wpList_allocH rfl rfl ?_; intro X3 q1 q2; have R3 : Hid (Row X3 X2.heap.size (hcs false 0) tH) := q1; have B3 : Hid (Below w.heap.size w X3) := B2.out.trans (q2.mono B2.out.size); clear q1 q2)
    | (refine wpList_storeL rfl tH (.tmp 6) (.tmp 12) rfl X2.heap.size (hcs s1 h1) (hcs false 0) tH rfl rfl R3.out ((hcs_len _ _).trans (hcs_len _ _).symm) (hcs_info _ _) (hcs_all _ _) ?_; intro X4 q1 q2; have R4 : Hid (Row X4 X2.heap.size (hcs s1 h1) tH) := q1; have B4 : Hid (Below w.heap.size w X4) := gro_new B3.out B2.out.size q2; clear q1 q2))
  obtain ⟨bh, hbh⟩ : ∃ b, b = X2.heap.size := ⟨_, rfl⟩
  rw [← hbh] at R4 ⊢
  have HBbh : Hid (w.heap.size ≤ bh) := by show _ ≤ _; rw [hbh]; exact B2.out.size
  clear hbh B2 B3 R3
  have c0 := R4.out.cell 0 _ rfl
  go_quiet (fail)
  go_wp2_with fail
  go_ret2
  exact ⟨rfl, below_drewN B4.out _⟩

set_option maxRecDepth 100000 in
set_option maxHeartbeats 4000000 in
theorem held_any {w : World} {p c : Nat} {m1 m2 : Value} {s : St} (hV : Vt w p c m1 m2 s) (x : Int) (s1 : Bool) (h1 : Nat) (E : Int) (hf : fnd s.T x = (s1, h1, E)) :
    Calls Try.prog 20 #[.pointer (some ⟨p, 0, none⟩), .int .i64 x] w fun e w' => e = .returned (.agg (vQ (dgs h1 4)).toArray) ∧ Below w.heap.size w w' := by
  have HV : Hid (Vt w p c m1 m2 s) := hV
  have HF : Hid (fnd s.T x = (s1, h1, E)) := hf
  obtain ⟨ch, hch⟩ : ∃ c, c = vQ (dgs h1 4) := ⟨_, rfl⟩
  have HWH : Hid (Wc ch h1) := hch
  rw [← hch]
  clear hV hf hch
  go_enter Try.func20, Try.ntmps20
  go_upto_region 1 with (refine wpList_allocW rfl rfl ?_; intro X1 q1 q2; have RW : Hid (Row X1 w.heap.size (vQ (List.replicate 4 0)) 33) := q1; have B1 : Hid (Below w.heap.size w X1) := q2; clear q1 q2)
  obtain ⟨bw, hbw⟩ : ∃ b, b = w.heap.size := ⟨_, rfl⟩
  rw [← hbw] at RW ⊢
  have HBW : Hid (w.heap.size ≤ bw) := by show _ ≤ _; omega
  clear hbw
  have V1 : Hid (Vt X1 p c m1 m2 s) := HV.out.be B1.out
  go_upto_region 2 with (first
    | (go_at_call 47; refine Calls.mono (find_any V1.out x s1 h1 E HF.out) ?_; rintro e X2 ⟨rfl, q⟩; have B2 : Hid (Below X1.heap.size X1 X2) := q; clear q)
    | (refine wpList_allocH rfl rfl ?_; intro X3 q1 q2; have R3 : Hid (Row X3 X2.heap.size (hcs false 0) tH) := q1; have B3 : Hid (Below X1.heap.size X1 X3) := B2.out.trans (q2.mono B2.out.size); clear q1 q2)
    | (refine wpList_storeL rfl tH (.tmp 5) (.tmp 11) rfl X2.heap.size (hcs s1 h1) (hcs false 0) tH rfl rfl R3.out ((hcs_len _ _).trans (hcs_len _ _).symm) (hcs_info _ _) (hcs_all _ _) ?_; intro X4 q1 q2; have R4 : Hid (Row X4 X2.heap.size (hcs s1 h1) tH) := q1; have B4 : Hid (Below X1.heap.size X1 X4) := gro_new B3.out B2.out.size q2; clear q1 q2))
  obtain ⟨bh, hbh⟩ : ∃ b, b = X2.heap.size := ⟨_, rfl⟩
  rw [← hbh] at R4 ⊢
  have HBbh : Hid (X1.heap.size ≤ bh) := by show _ ≤ _; rw [hbh]; exact B2.out.size
  clear hbh B2 B3 R3
  have RW4 : Hid (Row X4 bw (vQ (List.replicate 4 0)) 33) := Row.below RW.out B4.out RW.out.lt
  have B5 : Hid (Below w.heap.size w X4) := B1.out.trans (B4.out.mono B1.out.size)
  go_wp2_with (first
    | (refine wpList_load_w rfl 33 (.tmp 13) rfl bh 1 rfl ch _ (hcs_rng R4.out HWH.out) Try.underlying33 rfl HWH.out.info ?_)
    | (refine wpList_storeL rfl 33 (.tmp 4) (.tmp 14) rfl bw ch (vQ (List.replicate 4 0)) 33 rfl rfl RW4.out (HWH.out.len.trans zw_len.symm) HWH.out.info HWH.out.one ?_; intro X6 q1 q2; have R6 : Hid (Row X6 bw ch 33) := q1; have B6 : Hid (Below w.heap.size w X6) := gro_new B5.out HBW.out q2; clear q1 q2))
  exact bodyPost_ret (results_row Try.results20 _ _ bw 33 ch rfl R6.out Try.underlying33 info_w4 HWH.out.len) rfl ⟨rfl, B6.out⟩

set_option maxRecDepth 100000 in
set_option maxHeartbeats 4000000 in
theorem paid_any {w : World} {p c : Nat} {m1 m2 : Value} {s : St} (hV : Vt w p c m1 m2 s) (i : Int) (hi : I64 i) :
    Calls Try.prog 21 #[.pointer (some ⟨p, 0, none⟩), .int .i64 i] w fun e w' => e = .returned (.bool (paid s.U i)) ∧ Below w.heap.size w w' := by
  have HV : Hid (Vt w p c m1 m2 s) := hV
  have HI : Hid (I64 i) := hi
  have RV : Hid (w.rangeAt p 1 [m2]) := hV.row.range 1 [m2] (fun j v hv => by rcases j with _ | j; exact hv; simp at hv)
  obtain ⟨b, hb⟩ : ∃ b, b = paid s.U i := ⟨_, rfl⟩
  have HP : Hid (∀ X, Vt X p c m1 m2 s → Calls Try.prog 48 #[.agg #[m2], .int .i64 i] X fun e w' => e = .returned (.bool b) ∧ Below X.heap.size X w') := fun X h => by rw [hb]; exact has_any h i hi
  rw [← hb]
  clear hV hi hb
  go_enter Try.func21, Try.ntmps21
  go_wp2_with (first
    | (refine wpList_load_w rfl tSt (.tmp 10) rfl p 1 rfl [m2] _ RV.out Try.underlying70 rfl info_St ?_)
    | (go_at_call 48; refine Calls.mono (HP.out w HV.out) ?_; rintro e X6 ⟨rfl, q⟩; have B6 : Hid (Below w.heap.size w X6) := q; clear q))
  go_ret
  exact ⟨rfl, B6.out⟩

set_option maxRecDepth 100000 in
set_option maxHeartbeats 4000000 in
theorem locked_any {w : World} {p c : Nat} {m1 m2 : Value} {s : St} (hV : Vt w p c m1 m2 s)  :
    Calls Try.prog 19 #[.pointer (some ⟨p, 0, none⟩)] w fun e w' => e = .returned (.agg (vQ (dgs s.L 4)).toArray) ∧ Below w.heap.size w w' := by
  have HV : Hid (Vt w p c m1 m2 s) := hV
  obtain ⟨ch, hch⟩ : ∃ c, c = vQ (dgs s.L 4) := ⟨_, rfl⟩
  have HWH : Hid (Wc ch s.L) := hch
  rw [← hch]
  clear hV hch
  go_enter Try.func19, Try.ntmps19
  go_upto_region 1 with (refine wpList_allocW rfl rfl ?_; intro X1 q1 q2; have RW : Hid (Row X1 w.heap.size (vQ (List.replicate 4 0)) 33) := q1; have B1 : Hid (Below w.heap.size w X1) := q2; clear q1 q2)
  obtain ⟨bw, hbw⟩ : ∃ b, b = w.heap.size := ⟨_, rfl⟩
  rw [← hbw] at RW ⊢
  have HBW : Hid (w.heap.size ≤ bw) := by show _ ≤ _; omega
  clear hbw
  have RV : Hid (X1.rangeAt p 2 ch) := vcs_rng (HV.out.be B1.out).row HWH.out
  go_wp2_with (first
    | (refine wpList_load_w rfl 33 (.tmp 8) rfl p 2 rfl ch _ RV.out Try.underlying33 rfl HWH.out.info ?_)
    | (refine wpList_storeL rfl 33 (.tmp 2) (.tmp 9) rfl bw ch (vQ (List.replicate 4 0)) 33 rfl rfl RW.out (HWH.out.len.trans zw_len.symm) HWH.out.info HWH.out.one ?_; intro X6 q1 q2; have R6 : Hid (Row X6 bw ch 33) := q1; have B6 : Hid (Below w.heap.size w X6) := gro_new B1.out HBW.out q2; clear q1 q2))
  exact bodyPost_ret (results_row Try.results19 _ _ bw 33 ch rfl R6.out Try.underlying33 info_w4 HWH.out.len) rfl ⟨rfl, B6.out⟩

set_option maxRecDepth 100000 in
set_option maxHeartbeats 4000000 in
/-- A new vault. -/
theorem new_any (w : World) : Calls Try.prog 9 #[] w fun e w' => ∃ p, e = .returned (.pointer (some ⟨p, 0, none⟩)) ∧ w.heap.size ≤ p ∧ Vt w' p 0 (.map none) (.map none) ⟨fun _ => none, fun _ => 0, 0⟩ ∧ Below w.heap.size w w' := by
  go_enter Try.func9, Try.ntmps9
  go_wp2_with (refine wpList_boxG tV rfl (.tmp 1) rfl (vcs (.map none) (.map none) 0) rfl ?_; intro X1 q1 q2; have R1 : Hid (Row X1 w.heap.size (vcs (.map none) (.map none) 0) tV) := q1; have B1 : Hid (Below w.heap.size w X1) := q2; clear q1 q2)
  go_ret
  exact ⟨w.heap.size, rfl, Nat.le_refl _, ⟨R1.out, .inl ⟨rfl, fun _ => rfl⟩, ⟨fun _ => none, .inl ⟨rfl, fun _ => rfl⟩, fun _ _ => rfl⟩, fun g h => (nomatch h), ⟨fun x p h => (nomatch h), by decide⟩⟩, B1.out⟩


end Go.Proofs.Ytefjonidpmpjbaa
