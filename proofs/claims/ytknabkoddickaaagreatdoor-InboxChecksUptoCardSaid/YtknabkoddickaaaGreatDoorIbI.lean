/-
  the document's Same of two entries that are the same; the law's known.
-/
import Derived.Test.YtknabkoddickaaaGreatDoorXMem
import Derived.Laws.BytesArg
import Derived.Test.YtknabkoddickaaaGreatDoorIbG
import Derived.Test.YtknabkoddickaaaGreatDoorXOwn

namespace Go.Proofs.YtknabkoddickaaaGreatDoor
open Go Go.RowKit
open Sha

/-- Bytes as a string. -/
def str (l : List (BitVec 8)) : ByteArray := strOfNums (l.map c)
theorem run_convert_str {P : Program} (w : World) (src e dst : TypeId) (hs : P.underlying src = some (.slice e)) (he : P.underlying e = some (.int .u8)) (hd : P.underlying dst = some .string) (b off cap n : Nat) (l : List (BitVec 8)) (hl : l.length = n)
    (hr : w.rangeAt b off (vB l)) : (convert src dst (.slice (some ⟨b, off, none⟩) n cap)).run P w = .ok (.string (str l)) w :=
  run_convert_bytes_arg w src e hs he b off n cap (l.map c) (by simpa using hl) (fun i hi => hr i _ (by rw [vB_get l i (by omega)]; simp [show i < l.length by omega])) dst hd
theorem run_convert_sl {P : Program} (w : World) (src e dst : TypeId) (hs : P.underlying src = some (.slice e)) (he : P.underlying e = some (.int .u8)) (hd : P.underlying dst = some .string) (v : Value) (d : List (BitVec 8)) (hv : SlAt w v d) :
    (convert src dst v).run P w = .ok (.string (str d)) w := by
  rcases hv with ⟨rfl, A, cap, rfl⟩ | ⟨ab, ao, cap, rfl, _, hr⟩
  · cases A with
    | none =>
      rw [run_convert_bytes_string w src dst e none 0 cap hs he hd]
      simp [Conv.bytesToString]
      rfl
    | some p =>
      have hl : (loadCells p 0).run P w = .ok (([] : List Int).map (Value.int .u8)).toArray w := run_loadCells_list (P := P) w p [] (fun j v hj => by simp at hj)
      rw [run_convert_bytes_string w src dst e _ 0 cap hs he hd, run_bytesToString w _ 0 cap [] hl]
      rfl
  · exact run_convert_str w src e dst hs he hd ab ao cap d.length d rfl hr

end Go.Proofs.YtknabkoddickaaaGreatDoor

namespace Go.Proofs.YtknabkoddickaaaGreatDoor
open Go Go.RowKit
open Sha

set_option maxRecDepth 100000 in
set_option maxHeartbeats 4000000 in
theorem rtext_ok (e : Ev) (hw : e.Wf) (hm : e.May) (kk : List (BitVec 8)) (hk : kk.length = 32) (A : Option Addr) (n cap : Nat) (hn : e.d.length = n) (hnil : A = none → cap = 0) (L : List Value) (hL : L = e.cells (.slice A n cap)) (w : World) (hS : SlAt w (.slice A n cap) e.d) :
    Calls Tryz.prog 39 #[.agg (vB kk).toArray, .agg L.toArray] w fun r w' => ∃ A' N c', r = .returned (.slice A' N c') ∧ (kk ++ e.bytes).length = N ∧ Bw w' (.slice A' N c') (kk ++ e.bytes) ∧ (A' = none → c' = 0) ∧ Fresh w.heap.size (.slice A' N c') ∧ Below w.heap.size w w' := by
  have HEB : Hid (∀ X, Below w.heap.size w X → Calls Tryz.prog 57 #[.agg L.toArray] X fun r w' => ∃ A' N c', r = .returned (.tuple #[.slice A' N c', .int .i64 0]) ∧ e.bytes.length = N ∧ Bw w' (.slice A' N c') e.bytes ∧ Fresh X.heap.size (.slice A' N c') ∧ Below X.heap.size X w') := fun X k => rebytes_ok e hw hm A n cap hn hnil L hL X (hS.be k)
  have HI : Hid ((Tryz.prog.info? 46).map (·.size) = some L.length) := by rw [hL]; exact Ev.info hw _
  have HBL : Hid (e.bytes.length ≤ 10000) := Ev.bytes_len hw hm
  have HKK : Hid (kk.length = 32) := hk
  obtain ⟨M, hM⟩ : ∃ M, M = vB kk := ⟨_, rfl⟩
  have HM : Hid (M = vB kk) := hM
  have HT : Hid ((vB (kk.take 32)).length = 32) := by show _ = _; rw [vB_length, List.length_take, hk]; rfl
  have HTK : Hid (kk.take 32 = kk) := by show _ = _; rw [← hk, List.take_length]
  rw [← hM]
  clear hk hw hm hn hnil hL hS hM
  go_enter Tryz.func39, Tryz.ntmps39
  go_upto_region 1 with (first
    | (refine wpList_boxG 51 rfl (.tmp 0) rfl M rfl ?_; intro X1 q1 q2 q3; have R1 : Hid (Row X1 w.heap.size (vB kk) 51) := (by rw [← HM.out]; exact q1); have B1 : Hid (Below w.heap.size w X1) := q2; clear q1 q2 q3; simp only [Act.put, List.setIfInBounds_toArray, List.set_cons_zero, List.set_cons_succ])
    | (refine wpList_boxG 46 rfl (.tmp 1) rfl L rfl ?_; intro X2 q1 q2 q3; have R2 : Hid (Row X2 X1.heap.size L 46) := q1; have B2 : Hid (Below w.heap.size w X2) := B1.out.trans (q2.mono B1.out.size); have D2 : Hid (Row X2 w.heap.size (vB kk) 51) := Row.below R1.out q2 R1.out.lt; clear q1 q2 q3 R1; simp only [Act.put, List.setIfInBounds_toArray, List.set_cons_zero, List.set_cons_succ]))
  obtain ⟨be, hbe⟩ : ∃ b, b = X1.heap.size := ⟨_, rfl⟩
  obtain ⟨bk, hbk⟩ : ∃ b, b = w.heap.size := ⟨_, rfl⟩
  rw [← hbe] at R2 ⊢
  rw [← hbk] at D2 ⊢
  clear hbe hbk B1
  go_upto_region 2 with (first
    | (refine wpList_load_w rfl 46 (.tmp 3) rfl be 0 rfl L _ R2.out.all Tryz.underlying46 rfl HI.out ?_; simp only [Act.put, List.setIfInBounds_toArray, List.set_cons_zero, List.set_cons_succ])
    | (go_at_call 57; refine Calls.mono (HEB.out X2 B2.out) ?_; rintro e4 X4 ⟨A', N, c', rfl, q0, q1, q2, q3⟩; have W4 : Hid (Bw X4 (.slice A' N c') e.bytes) := q1; have N4 : Hid (e.bytes.length = N) := q0; have B4 : Hid (Below w.heap.size w X4) := B2.out.trans (q3.mono B2.out.size); have D4 : Hid (Row X4 bk (vB kk) 51) := Row.below D2.out q3 D2.out.lt; clear q0 q1 q2 q3))
  obtain ⟨_, _, ef, _, hnil4⟩ := Bw.form W4.out
  simp only [Value.slice.injEq] at ef
  obtain ⟨rfl, _, rfl⟩ := ef
  have L4 : Hid (A' = none → c' = 0) := hnil4
  clear R2 D2 B2 HEB hnil4
  go_upto_region 3 with (refine wpList_make1 rfl _ _ rfl 32 _ _ rfl rfl rfl rfl (by decide) ?_; intro X5 r1 b1 s1; have R5 : Hid (Row X5 X4.heap.size (vB (List.replicate 32 0#8)) 5) := r1; have B5 : Hid (Below w.heap.size w X5) := B4.out.trans (b1.mono B4.out.size); have D5 : Hid (Row X5 bk (vB kk) 51) := Row.below D4.out b1 D4.out.lt; have W5 : Hid (Bw X5 (.slice A' N c') e.bytes) := Bw.be W4.out b1; have TH : Hid (X5.there X4.heap.size 0 (vB (kk.take 32)).length) := r1.there 0 _ (by rw [HT.out, vB_length, List.length_replicate]; exact Nat.le_of_eq (Nat.zero_add _)); clear r1 b1 s1; simp only [Act.put, List.setIfInBounds_toArray, List.set_cons_zero, List.set_cons_succ])
  have NB : Hid (w.heap.size ≤ X4.heap.size ∧ ∀ g, (Value.slice A' N c').ownBlock = some g → g < X4.heap.size) := ⟨B4.out.size, Bw.lt W4.out⟩
  obtain ⟨b, hb⟩ : ∃ b, b = X4.heap.size := ⟨_, rfl⟩
  rw [← hb] at R5 TH NB ⊢
  clear hb B4 D4 W4
  go_upto_region 4 with (refine wpList_copyb rfl (.tmp 14) (.tmp 15) rfl b 32 32 32 (some ⟨bk, 0, none⟩) kk HKK.out rfl rfl (by rw [← HKK.out]; exact .inr ⟨bk, 0, kk.length, rfl, Nat.le_refl _, D5.out.all⟩) TH.out ?_; simp only [Act.put, List.setIfInBounds_toArray, List.set_cons_zero, List.set_cons_succ])
  have hr := Row.setCells 0 (vB (kk.take 32)) R5.out (by rw [HT.out, vB_length, List.length_replicate]; exact Nat.le_of_eq (Nat.zero_add _))
  have hB := below_setCells B5.out (b := b) (o := 0) NB.out.1 (vB (kk.take 32))
  have hG : Gro (· = b) X5 (X5.setCells b 0 (vB (kk.take 32))) := gro_over (Gro.refl _ _) b 0 _ rfl
  have e2 : List.take 0 (vB (List.replicate 32 0#8)) ++ vB (kk.take 32) ++ List.drop (0 + (vB (kk.take 32)).length) (vB (List.replicate 32 0#8)) = vB kk := by
    rw [HT.out, HTK.out, List.drop_of_length_le (by rw [vB_length, List.length_replicate]; omega)]; simp
  rw [e2] at hr
  obtain ⟨X6, hX6⟩ : ∃ X, X = X5.setCells b 0 (vB (kk.take 32)) := ⟨_, rfl⟩
  rw [← hX6] at hr hB hG ⊢
  have R6 : Hid (Bw X6 (.slice (some ⟨b, 0, none⟩) 32 32) kk) := by have := row_bw hr (by rw [HKK.out]; decide); rw [HKK.out] at this; exact this
  have B6 : Hid (Below w.heap.size w X6) := hB
  have W6 : Hid (Bw X6 (.slice A' N c') e.bytes) := Bw.gro W5.out hG (fun g eg => by have := NB.out.2 g eg; omega)
  have HS6 : Hid (kk.length + N ≤ 140737488355328) := by show _ ≤ _; rw [← N4.out, HKK.out]; have := HBL.out; omega
  have HLN : Hid ((kk ++ e.bytes).length = 32 + N) := by show _ = _; rw [List.length_append, HKK.out, N4.out]
  clear hr hB hG e2 hX6 R5 B5 D5 W5 TH HT HTK
  go_wp2_with (refine wpList_app rfl (.tmp 17) (.tmp 18) rfl (.slice (some ⟨b, 0, none⟩) 32 32) kk e.bytes rfl R6.out A' N c' N4.out rfl (Bw.sl W6.out) L4.out HS6.out ?_; intro v7 X7 q1 q2 q3; have W7 : Hid (Bw X7 v7 (kk ++ e.bytes)) := q1; have B7 : Hid (Below w.heap.size w X7) := below_gb B6.out q2 (fun g eg => by simp [Value.ownBlock] at eg; have := NB.out.1; omega); have F7 : Hid (Fresh w.heap.size v7) := (fun g eg => by rcases q3 with q | q; (rw [q] at eg; simp [Value.ownBlock] at eg; have := NB.out.1; omega); (rw [q] at eg; cases eg; exact B6.out.size)); clear q1 q2 q3; obtain ⟨A8, c8, e8, _, n8⟩ := Bw.form W7.out; rw [HLN.out] at e8; subst e8; have N8 : Hid (A8 = none → c8 = 0) := n8; clear n8; simp only [Act.put, List.setIfInBounds_toArray, List.set_cons_zero, List.set_cons_succ])
  go_ret
  exact ⟨A8, 32 + N, c8, rfl, HLN.out, W7.out, N8.out, F7.out, B7.out⟩
set_option maxRecDepth 100000 in
set_option maxHeartbeats 4000000 in
theorem dnext_ok (e : Ev) (hw : e.Wf) (hm : e.May) (kk dd : List (BitVec 8)) (hk : kk.length = 32) (hd : dd = nx kk e) (A : Option Addr) (n cap : Nat) (hn : e.d.length = n) (hnil : A = none → cap = 0) (L : List Value) (hL : L = e.cells (.slice A n cap)) (w : World) (hG : Given w) (hS : SlAt w (.slice A n cap) e.d) :
    Calls Tryz.prog 16 #[.agg (vB kk).toArray, .agg L.toArray] w fun r w' => r = .returned (.tuple #[.agg (vB dd).toArray, .int .i64 0]) ∧ Below w.heap.size w w' := by
  have HDL : Hid (dd.length = 32) := by rw [hd]; exact dig_length _
  have HKI : Hid ((Tryz.prog.info? 51).map (·.size) = some (vB kk).length) := by show _ = _; rw [vB_length, hk]; exact info_dg
  have HID : Hid ((Tryz.prog.info? 51).map (·.size) = some (vB dd).length) := by show _ = _; rw [vB_length, HDL.out]; exact info_dg
  have HLL : Hid ((vB dd).length = (vB zK).length) := by show _ = _; rw [vB_length, vB_length, HDL.out]; rfl
  have HI : Hid ((Tryz.prog.info? 46).map (·.size) = some L.length) := by rw [hL]; exact Ev.info hw _
  have HCE : Hid (∀ X, Calls Tryz.prog 35 #[.agg L.toArray] X fun r w' => r = .returned (.int .i64 0) ∧ Below X.heap.size X w') := fun X => rcheck_ok e hw hm A n cap hn L hL X
  have HTX : Hid (∀ X, Below w.heap.size w X → Calls Tryz.prog 39 #[.agg (vB kk).toArray, .agg L.toArray] X fun r w' => ∃ A' N c', r = .returned (.slice A' N c') ∧ (kk ++ e.bytes).length = N ∧ Bw w' (.slice A' N c') (kk ++ e.bytes) ∧ (A' = none → c' = 0) ∧ Fresh X.heap.size (.slice A' N c') ∧ Below X.heap.size X w') := fun X k => rtext_ok e hw hm kk hk A n cap hn hnil L hL X (hS.be k)
  have hbl := Ev.bytes_len hw hm
  have HSM : Hid (∀ X, Below w.heap.size w X → ∀ v, SlAt X v (kk ++ e.bytes) → Calls Tryz.prog 38 #[v] X fun r w' => r = .returned (.agg (vB dd).toArray) ∧ Below X.heap.size X w') := fun X k v hv => rsum_any (kk ++ e.bytes) dd hd (by rw [List.length_append, hk]; omega) v X (slTo hv) (hG.below k (Nat.le_refl _))
  obtain ⟨M, hM⟩ : ∃ M, M = vB kk := ⟨_, rfl⟩
  have HM : Hid (M = vB kk) := hM
  rw [← hM] at HKI
  rw [← hM]
  rw [← hM] at HTX
  clear hk hw hm hn hnil hL hS hM hG hd hbl
  go_enter Tryz.func16, Tryz.ntmps16
  go_upto_region 1 with (first
    | (refine wpList_boxG 51 rfl (.tmp 0) rfl M rfl ?_; intro X1 q1 q2 q3; have R1 : Hid (Row X1 w.heap.size M 51) := q1; have B1 : Hid (Below w.heap.size w X1) := q2; clear q1 q2 q3; simp only [Act.put, List.setIfInBounds_toArray, List.set_cons_zero, List.set_cons_succ])
    | (refine wpList_boxG 46 rfl (.tmp 1) rfl L rfl ?_; intro X2 q1 q2 q3; have R2 : Hid (Row X2 X1.heap.size L 46) := q1; have B2 : Hid (Below w.heap.size w X2) := B1.out.trans (q2.mono B1.out.size); have D2 : Hid (Row X2 w.heap.size M 51) := Row.below R1.out q2 R1.out.lt; clear q1 q2 q3 R1; simp only [Act.put, List.setIfInBounds_toArray, List.set_cons_zero, List.set_cons_succ])
    | (refine wpList_allocD rfl rfl ?_; intro X3 q1 q2; have R3 : Hid (Row X3 X2.heap.size (vB zK) 51) := q1; have B3 : Hid (Below w.heap.size w X3) := B2.out.trans (q2.mono B2.out.size); have D3 : Hid (Row X3 w.heap.size M 51) := Row.below D2.out q2 D2.out.lt; have E3 : Hid (Row X3 X1.heap.size L 46) := Row.below R2.out q2 R2.out.lt; have N3 : Hid (w.heap.size ≤ X2.heap.size) := B2.out.size; clear q1 q2 D2 R2; simp only [Act.put, List.setIfInBounds_toArray, List.set_cons_zero, List.set_cons_succ]))
  obtain ⟨b, hb⟩ : ∃ b, b = X2.heap.size := ⟨_, rfl⟩
  obtain ⟨be, hbe⟩ : ∃ b, b = X1.heap.size := ⟨_, rfl⟩
  obtain ⟨bk, hbk⟩ : ∃ b, b = w.heap.size := ⟨_, rfl⟩
  have N4 : Hid (w.heap.size ≤ b) := by show _ ≤ _; rw [hb]; exact N3.out
  rw [← hb] at R3 ⊢
  rw [← hbe] at E3 ⊢
  rw [← hbk] at D3 ⊢
  clear hb hbe hbk B1 B2 N3
  go_upto_region 2 with (first
    | (refine wpList_load_w rfl 46 (.tmp 3) rfl be 0 rfl L _ E3.out.all Tryz.underlying46 rfl HI.out ?_; simp only [Act.put, List.setIfInBounds_toArray, List.set_cons_zero, List.set_cons_succ])
    | (go_at_call 35; refine Calls.mono (HCE.out X3) ?_; rintro e4 X4 ⟨rfl, q3⟩; have B4 : Hid (Below w.heap.size w X4) := B3.out.trans (q3.mono B3.out.size); have R4 : Hid (Row X4 b (vB zK) 51) := Row.below R3.out q3 R3.out.lt; have D4 : Hid (Row X4 bk M 51) := Row.below D3.out q3 D3.out.lt; have E4 : Hid (Row X4 be L 46) := Row.below E3.out q3 E3.out.lt; clear q3))
  clear R3 D3 E3 B3 HCE
  go_wp2_with (first
    | (refine wpList_load_w rfl 51 (.tmp 2) rfl bk 0 rfl M _ D4.out.all Tryz.underlying51 rfl HKI.out ?_; simp only [Act.put, List.setIfInBounds_toArray, List.set_cons_zero, List.set_cons_succ])
    | (refine wpList_load_w rfl 46 (.tmp 3) rfl be 0 rfl L _ E4.out.all Tryz.underlying46 rfl HI.out ?_; simp only [Act.put, List.setIfInBounds_toArray, List.set_cons_zero, List.set_cons_succ])
    | (go_at_call 39; refine Calls.mono (HTX.out X4 B4.out) ?_; rintro e5 X5 ⟨A5, N5, c5, rfl, q0, q1, q2, q3, q4⟩; have W5 : Hid (Bw X5 (.slice A5 N5 c5) (kk ++ e.bytes)) := q1; have B5 : Hid (Below w.heap.size w X5) := B4.out.trans (q4.mono B4.out.size); have R5 : Hid (Row X5 b (vB zK) 51) := Row.below R4.out q4 R4.out.lt; clear q0 q1 q2 q3 q4)
    | (go_at_call 38; refine Calls.mono (HSM.out X5 B5.out _ (Bw.sl W5.out)) ?_; rintro e6 X6 ⟨rfl, q⟩; have B6 : Hid (Below w.heap.size w X6) := B5.out.trans (q.mono B5.out.size); have R6 : Hid (Row X6 b (vB zK) 51) := Row.below R5.out q R5.out.lt; clear q)
    | (refine wpList_storeL rfl 51 (.tmp 4) (.tmp 15) rfl b (vB dd) (vB zK) 51 rfl rfl R6.out HLL.out HID.out (all_oneCell_toArray (vB_one dd)) ?_; intro X7 q1 q2; have B7 : Hid (Below w.heap.size w X7) := (by rw [q1]; exact below_setCells B6.out N4.out _); have R7 : Hid (Row X7 b (vB dd) 51) := q2; clear q1 q2; simp only [Act.put]))
  exact bodyPost_ret (results_row_tmp Tryz.results16 _ _ b 51 (vB dd) (.int .i64 0) rfl rfl R7.out Tryz.underlying51 info_dg (by rw [vB_length, HDL.out])) rfl ⟨rfl, B7.out⟩

end Go.Proofs.YtknabkoddickaaaGreatDoor

namespace Go.Proofs.YtknabkoddickaaaGreatDoor
open Go Go.RowKit
open Sha

theorem istr_toList (l : List (BitVec 8)) : (str l).toList = toU l := by
  rw [ByteArray.toList_eq]
  unfold str toU
  rw [strOfNums_data, List.map_map]
  apply List.map_congr_left
  intro x _
  apply UInt8.toNat_inj.1
  have := x.isLt
  unfold c
  simp only [Function.comp_apply, Int.toNat_natCast, UInt8.toNat_ofNat', UInt8.toNat_ofBitVec]
  omega
theorem istr_beq (l r : List (BitVec 8)) : ((str l).toList == (str r).toList) = decide (l = r) := by
  rw [istr_toList, istr_toList, toU_beq]
section
variable {ops : Array Oper} {rest : List Oper} {op : Oper} {a : Act} {w : World} {Q : Exit → Act → World → Prop}
theorem wpList_convI (hw : Region.wanted op (yielded ops a.tmps) = true) (x : Operand) (ho : op.op = .convert 44 9 x) (v : Value) (d : List (BitVec 8)) (hx : a.eval x = v) (hv : SlAt w v d) (h : wpList Tryz.prog ops Q rest (a.put op.dst (.string (str d))) w) : wpList Tryz.prog ops Q (op :: rest) a w :=
  BigFrame.wpList_want hw fun _ hK => by
    have hr := run_convert_sl (P := Tryz.prog) w 44 5 9 Tryz.underlying44 Tryz.underlying5 Tryz.underlying9 v d hv
    unfold Oper.wp execOp
    simp only [ho, hx, Sem.run_bind, hr, Result.andThen_ok, Sem.run_pure, Oper.upon_value]
    exact hK _ _ h
theorem wpList_eql_sI (hw : Region.wanted op (yielded ops a.tmps) = true) (x y : Operand) (yt : TypeId) (ho : op.op = .binOp .eql 9 x y yt) (l r : List (BitVec 8)) (hx : a.eval x = .string (str l)) (hy : a.eval y = .string (str r)) (B : Bool) (hB : decide (l = r) = B) (h : wpList Tryz.prog ops Q rest (a.put op.dst (.bool B)) w) : wpList Tryz.prog ops Q (op :: rest) a w :=
  BigFrame.wpList_want hw fun _ hK => by
    subst hB
    rw [← istr_beq] at h
    unfold Oper.wp execOp
    simp only [ho, hx, hy]
    simp [go_sem]
    exact hK _ _ h
end
set_option maxRecDepth 100000 in
set_option maxHeartbeats 4000000 in
theorem rsame_ok (e : Ev) (hw : e.Wf) (A1 A2 : Option Addr) (n c1 c2 : Nat) (L M : List Value) (hL : L = e.cells (.slice A1 n c1)) (hM : M = e.cells (.slice A2 n c2)) (w : World) (s1 : SlAt w (.slice A1 n c1) e.d) (s2 : SlAt w (.slice A2 n c2) e.d) :
    Calls Tryz.prog 17 #[.agg L.toArray, .agg M.toArray] w fun r w' => r = .returned (.bool true) ∧ Below w.heap.size w w' := by
  obtain ⟨k, sd, tm, tk, rc, am, gs, d⟩ := e
  obtain ⟨h1, h2, h3, hq⟩ := hw
  simp only at h1 h2 h3 s1 s2
  have HL : Hid (L = ent k sd tm tk rc am gs (.slice A1 n c1)) := hL
  have HM : Hid (M = ent k sd tm tk rc am gs (.slice A2 n c2)) := hM
  have S1 : Hid (∀ X, Below w.heap.size w X → SlAt X (.slice A1 n c1) d) := fun X k => s1.be k
  have S2 : Hid (∀ X, Below w.heap.size w X → SlAt X (.slice A2 n c2) d) := fun X k => s2.be k
  have K1 : Hid (sd.length = 20) := h1
  have K2 : Hid (rc.length = 20) := h2
  have K3 : Hid (am.length = 4) := h3
  have HIsd : Hid _ := info_adE sd h1
  have HIrc : Hid _ := info_adE rc h2
  have HIam : Hid _ := info_wdE am h3
  clear hL hM s1 s2 h1 h2 h3 hq
  go_enter Tryz.func17, Tryz.ntmps17
  go_upto_region 1 with (first
    | (refine wpList_boxG 46 rfl (.tmp 0) rfl L rfl ?_; intro X1 q1 q2 q3; have E1 : Hid (En X1 w.heap.size k sd tm tk rc am gs (.slice A1 n c1)) := ⟨(by rw [HL.out] at q1; exact q1), K1.out, K2.out, K3.out⟩; have B1 : Hid (Below w.heap.size w X1) := q2; clear q1 q2 q3; simp only [Act.put, List.setIfInBounds_toArray, List.set_cons_zero, List.set_cons_succ])
    | (refine wpList_boxG 46 rfl (.tmp 1) rfl M rfl ?_; intro X2 q1 q2 q3; have F2 : Hid (En X2 X1.heap.size k sd tm tk rc am gs (.slice A2 n c2)) := ⟨(by rw [HM.out] at q1; exact q1), K1.out, K2.out, K3.out⟩; have E2 : Hid (En X2 w.heap.size k sd tm tk rc am gs (.slice A1 n c1)) := E1.out.be q2; have B2 : Hid (Below w.heap.size w X2) := B1.out.trans (q2.mono B1.out.size); clear q1 q2 q3; simp only [Act.put, List.setIfInBounds_toArray, List.set_cons_zero, List.set_cons_succ]))
  obtain ⟨x, hx⟩ : ∃ x, x = w.heap.size := ⟨_, rfl⟩
  obtain ⟨y, hy⟩ : ∃ y, y = X1.heap.size := ⟨_, rfl⟩
  rw [← hx] at E2 ⊢
  rw [← hy] at F2 ⊢
  clear hx hy E1 B1 HL HM
  have a0 := E2.out.c_kind
  have a2 := E2.out.c_time
  have a3 := E2.out.c_token
  have a6 := E2.out.c_gas
  have a7 := E2.out.c_body
  have b0 := F2.out.c_kind
  have b2 := F2.out.c_time
  have b3 := F2.out.c_token
  have b6 := F2.out.c_gas
  have b7 := F2.out.c_body
  go_wp2_with (first
    | (refine wpList_load_w rfl 40 (.tmp 11) rfl x 1 rfl (vB sd) _ E2.out.r_sender Tryz.underlying40 rfl HIsd.out ?_; simp only [Act.put, List.setIfInBounds_toArray, List.set_cons_zero, List.set_cons_succ])
    | (refine wpList_load_w rfl 40 (.tmp 13) rfl y 1 rfl (vB sd) _ F2.out.r_sender Tryz.underlying40 rfl HIsd.out ?_; simp only [Act.put, List.setIfInBounds_toArray, List.set_cons_zero, List.set_cons_succ])
    | (refine wpList_load_w rfl 40 (.tmp 32) rfl x 23 rfl (vB rc) _ E2.out.r_to Tryz.underlying40 rfl HIrc.out ?_; simp only [Act.put, List.setIfInBounds_toArray, List.set_cons_zero, List.set_cons_succ])
    | (refine wpList_load_w rfl 40 (.tmp 34) rfl y 23 rfl (vB rc) _ F2.out.r_to Tryz.underlying40 rfl HIrc.out ?_; simp only [Act.put, List.setIfInBounds_toArray, List.set_cons_zero, List.set_cons_succ])
    | (refine wpList_load_w rfl 43 (.tmp 39) rfl x 43 rfl (vQ am) _ E2.out.r_amount Tryz.underlying43 rfl HIam.out ?_; simp only [Act.put, List.setIfInBounds_toArray, List.set_cons_zero, List.set_cons_succ])
    | (refine wpList_load_w rfl 43 (.tmp 41) rfl y 43 rfl (vQ am) _ F2.out.r_amount Tryz.underlying43 rfl HIam.out ?_; simp only [Act.put, List.setIfInBounds_toArray, List.set_cons_zero, List.set_cons_succ])
    | (refine wpList_eql_b rfl 40 (.tmp 12) (.tmp 14) _ rfl 5 20 sd sd rfl rfl Tryz.underlying40 Tryz.underlying5 info_u8 K1.out K1.out guardAE true (decide_eq_true rfl) ?_; simp only [Act.put, List.setIfInBounds_toArray, List.set_cons_zero, List.set_cons_succ])
    | (refine wpList_eql_b rfl 40 (.tmp 33) (.tmp 35) _ rfl 5 20 rc rc rfl rfl Tryz.underlying40 Tryz.underlying5 info_u8 K2.out K2.out guardAE true (decide_eq_true rfl) ?_; simp only [Act.put, List.setIfInBounds_toArray, List.set_cons_zero, List.set_cons_succ])
    | (refine wpList_eql_q rfl (.tmp 40) (.tmp 42) _ rfl am am K3.out K3.out rfl rfl true (decide_eq_true rfl) ?_; simp only [Act.put, List.setIfInBounds_toArray, List.set_cons_zero, List.set_cons_succ])
    | (refine wpList_convI rfl (.tmp 54) rfl (.slice A1 n c1) d rfl (S1.out _ B2.out) ?_; simp only [Act.put, List.setIfInBounds_toArray, List.set_cons_zero, List.set_cons_succ])
    | (refine wpList_convI rfl (.tmp 57) rfl (.slice A2 n c2) d rfl (S2.out _ B2.out) ?_; simp only [Act.put, List.setIfInBounds_toArray, List.set_cons_zero, List.set_cons_succ])
    | (refine wpList_eql_sI rfl (.tmp 55) (.tmp 58) _ rfl d d rfl rfl true (decide_eq_true rfl) ?_; simp only [Act.put, List.setIfInBounds_toArray, List.set_cons_zero, List.set_cons_succ]))
  go_ret
  exact ⟨rfl, B2.out⟩
/-- The entry of known. -/
def e0 : Ev := ⟨2, List.replicate 20 0#8, 5, 0, List.replicate 20 0#8, List.replicate 4 0, 0, [5#8, 1#8, 1#8]⟩
theorem e0_wf : e0.Wf := ⟨rfl, rfl, rfl, by decide⟩
theorem e0_may : e0.May := ⟨by decide, by decide, .inr ⟨rfl, rfl, rfl, rfl, rfl, by decide⟩⟩
theorem built_e0 (g : Nat) : Tryz.prog.built 46 [(0, .int .i64 2), (2, .int .i64 5), (7, .slice (some ⟨g, 0, none⟩) 3 3)] = some (e0.cells (.slice (some ⟨g, 0, none⟩) 3 3)).toArray := by kernel_rfl
theorem guardDE : Tryz.prog.eqGuardType Tryz.prog.depth 51 = false := by kernel_rfl
theorem wpList_buildE0 {ops : Array Oper} {rest : List Oper} {op : Oper} {a : Act} {w : World} {Q : Exit → Act → World → Prop} (hgd : op.guard = none) (x : Operand) (ho : op.op = .build 46 #[(0, .const (.int .i64 2)), (2, .const (.int .i64 5)), (7, x)]) (g : Nat) (hx : a.eval x = .slice (some ⟨g, 0, none⟩) 3 3) (L : List Value) (hL : L = e0.cells (.slice (some ⟨g, 0, none⟩) 3 3)) (h : wpList Tryz.prog ops Q rest (a.put op.dst (.agg L.toArray)) w) : wpList Tryz.prog ops Q (op :: rest) a w :=
  wpList_plain hgd fun _ hK => by
    subst hL
    have hr := run_build (P := Tryz.prog) w 46 #[(0, .int .i64 2), (2, .int .i64 5), (7, .slice (some ⟨g, 0, none⟩) 3 3)] _ (built_e0 g)
    have hc : a.eval (.const (.int .i64 2)) = .int .i64 2 := rfl
    have hc3 : a.eval (.const (.int .i64 5)) = .int .i64 5 := rfl
    unfold Oper.wp execOp
    simp only [ho, List.map_toArray, List.map_cons, List.map_nil, hx, hc, hc3, Sem.run_bind, hr, Result.andThen_ok, Sem.run_pure, Oper.upon_value]
    exact hK _ _ h
set_option maxRecDepth 100000 in
set_option maxHeartbeats 4000000 in
theorem iknown_any (w : World) (hG : Given w) : Calls Tryz.prog 6 #[] w fun e w' => e = .returned (.bool true) ∧ Below w.heap.size w w' := by
  obtain ⟨dd, hdd⟩ : ∃ d, d = nx zK e0 := ⟨_, rfl⟩
  have hl1 : lk [e0] 1 = dd := by rw [hdd]; rfl
  have HDL : Hid (dd.length = 32) := by rw [hdd]; exact dig_length _
  have HID : Hid ((Tryz.prog.info? 51).map (·.size) = some (vB dd).length) := by show _ = _; rw [vB_length, HDL.out]; exact info_dg
  have HLL : Hid ((vB dd).length = (vB zK).length) := by show _ = _; rw [vB_length, vB_length, HDL.out]; rfl
  have HGW : Hid (∀ X, Below w.heap.size w X → Given X) := fun X k => hG.below k (Nat.le_refl _)
  have HAD : Hid (∀ X p g L, L = e0.cells (.slice (some ⟨g, 0, none⟩) 3 3) → Bx w X p (.slice none 0 0) [] → SlAt X (.slice (some ⟨g, 0, none⟩) 3 3) [5#8, 1#8, 1#8] → Calls Tryz.prog 19 #[.pointer (some ⟨p, 0, none⟩), .agg L.toArray] X fun r w' => r = .returned (.tuple #[.int .i64 0, .int .i64 0]) ∧ ∃ v', Bx w w' p v' [e0] ∧ Gro (fun g => g = p) X w') := fun X p g L hL hb hs => by
    refine (add_ok w p _ [] (Nat.zero_le _) e0 e0_wf e0_may (by decide) (some ⟨g, 0, none⟩) 3 3 rfl (fun h => by cases h) L hL X hb (HGW.out X hb.be).cub hs).mono ?_
    rintro r w' ⟨q1, v', q2, q3, _⟩
    exact ⟨q1, v', q2, Gro.mono q3 (fun g q => by rcases q with q | q; exact q; cases q)⟩
  have HEN : Hid (∀ X p v, Bx w X p v [e0] → Calls Tryz.prog 20 #[.pointer (some ⟨p, 0, none⟩), .int .i64 0] X fun r w' => ∃ A c, r = .returned (.tuple #[.agg (e0.cells (.slice A 3 c)).toArray, .int .i64 0]) ∧ Nb X.heap.size w' A 3 c [5#8, 1#8, 1#8] ∧ Below X.heap.size X w') := fun X p v hb => entry_ok hb (by decide) 0 e0 rfl 3 rfl
  have HLK : Hid (∀ X p v, Bx w X p v [e0] → Calls Tryz.prog 21 #[.pointer (some ⟨p, 0, none⟩), .int .i64 1] X fun r w' => r = .returned (.tuple #[.agg (vB dd).toArray, .int .i64 0]) ∧ Below X.heap.size X w') := fun X p v hb => by
    have := link_ok hb (by decide) 1 (by decide)
    rw [hl1] at this
    exact this
  have HLE : Hid (∀ X p v, Bx w X p v [e0] → Calls Tryz.prog 22 #[.pointer (some ⟨p, 0, none⟩)] X fun r w' => r = .returned (.int .i64 1) ∧ w' = X) := fun X p v hb => blen_any hb
  have HNX : Hid (∀ X g L, L = e0.cells (.slice (some ⟨g, 0, none⟩) 3 3) → Below w.heap.size w X → SlAt X (.slice (some ⟨g, 0, none⟩) 3 3) [5#8, 1#8, 1#8] → Calls Tryz.prog 16 #[.agg (vB zK).toArray, .agg L.toArray] X fun r w' => r = .returned (.tuple #[.agg (vB dd).toArray, .int .i64 0]) ∧ Below X.heap.size X w') := fun X g L hL k hs => dnext_ok e0 e0_wf e0_may zK dd rfl hdd (some ⟨g, 0, none⟩) 3 3 rfl (fun h => by cases h) L hL X (HGW.out X k) hs
  have HSA : Hid (∀ X A c g L M, L = e0.cells (.slice A 3 c) → M = e0.cells (.slice (some ⟨g, 0, none⟩) 3 3) → SlAt X (.slice A 3 c) [5#8, 1#8, 1#8] → SlAt X (.slice (some ⟨g, 0, none⟩) 3 3) [5#8, 1#8, 1#8] → Calls Tryz.prog 17 #[.agg L.toArray, .agg M.toArray] X fun r w' => r = .returned (.bool true) ∧ Below X.heap.size X w') := fun X A c g L M hL hM s1 s2 => rsame_ok e0 e0_wf A (some ⟨g, 0, none⟩) 3 c 3 L M hL hM X s1 s2
  clear hdd hl1 hG
  go_enter Tryz.func6, Tryz.ntmps6
  go_upto_region 4 with (go_at_call 5; refine Calls.mono (bnew_any w) ?_; rintro e1 X1 ⟨p, rfl, q⟩; have K1 : Hid (Bx w X1 p (.slice none 0 0) []) := q; clear q)
  obtain ⟨X2, hX2⟩ : ∃ X, X = X1.alloc (Obj.cells (vB [5#8, 1#8, 1#8]).toArray 5) := ⟨_, rfl⟩
  have r2 : Row X2 X1.heap.size (vB [5#8, 1#8, 1#8]) 5 := by rw [hX2]; exact Row.new' rfl rfl
  have b2 : Below X1.heap.size X1 X2 := by rw [hX2]; exact (Below.refl _ _).alloc (Nat.le_refl _) _
  obtain ⟨g, hg⟩ : ∃ g, g = X1.heap.size := ⟨_, rfl⟩
  obtain ⟨L, hL⟩ : ∃ L, L = e0.cells (.slice (some ⟨g, 0, none⟩) 3 3) := ⟨_, rfl⟩
  have HL : Hid (L = e0.cells (.slice (some ⟨g, 0, none⟩) 3 3)) := hL
  have HLG : Hid (L = e0.cells (.slice (some ⟨X1.heap.size, 0, none⟩) 3 3)) := by rw [hL, hg]; exact rfl
  have HI : Hid ((Tryz.prog.info? 46).map (·.size) = some L.length) := by rw [hL]; exact Ev.info e0_wf _
  have HN : Hid (L.length = zE.length) := by show _ = _; rw [hL, Ev.len e0_wf]; rfl
  have HO : Hid (L.toArray.all (·.oneCell') = true) := by rw [hL]; exact all_oneCell_toArray (Ev.one e0 _ _ _)
  have HX2 : Hid (X2 = X1.alloc (Obj.cells (vB [5#8, 1#8, 1#8]).toArray 5)) := hX2
  have R2 : Hid (Row X2 g (vB [5#8, 1#8, 1#8]) 5) := by rw [hg]; exact r2
  have K2 : Hid (Bx w X2 p (.slice none 0 0) []) := K1.out.keep b2
  clear hX2 r2 b2 hL
  go_upto_region 5 with (first
    | (refine wpList_buildE0 rfl (.tmp 15) rfl X1.heap.size rfl L HLG.out ?_; simp only [Act.put, List.setIfInBounds_toArray, List.set_cons_zero, List.set_cons_succ]; change wpList _ _ _ _ _ (World.alloc X1 (Obj.cells (vB [5#8, 1#8, 1#8]).toArray 5)); rw [← HX2.out])
    | (refine wpList_allocE rfl rfl ?_; intro X3 q1 q2; have Z3 : Hid (Row X3 X2.heap.size zE 46) := q1; have B3 : Hid (Below X2.heap.size X2 X3) := q2; clear q1 q2; simp only [Act.put, List.setIfInBounds_toArray, List.set_cons_zero, List.set_cons_succ])
    | (refine wpList_storeL rfl 46 (.tmp 2) (.tmp 16) rfl X2.heap.size L zE 46 rfl rfl Z3.out HN.out HI.out HO.out ?_; intro X4 q1 q2; have E4 : Hid (Row X4 X2.heap.size L 46) := q2; have B4 : Hid (Below X2.heap.size X2 X4) := (by rw [q1]; exact below_setCells B3.out (Nat.le_refl _) _); clear q1 q2; simp only [Act.put]))
  have K4 : Hid (Bx w X4 p (.slice none 0 0) []) := K2.out.keep B4.out
  have R4 : Hid (Row X4 g (vB [5#8, 1#8, 1#8]) 5) := Row.below R2.out B4.out R2.out.lt
  obtain ⟨be, hbe⟩ : ∃ b, b = X2.heap.size := ⟨_, rfl⟩
  rw [← hbe] at E4 ⊢
  clear hbe B4 K2 R2 B3 Z3 K1 HX2 HLG HN HO
  have SL : Hid (∀ X, Row X g (vB [5#8, 1#8, 1#8]) 5 → SlAt X (.slice (some ⟨g, 0, none⟩) 3 3) [5#8, 1#8, 1#8]) := fun X r => .inr ⟨g, 0, 3, rfl, Nat.le_refl _, r.all⟩
  go_upto_region 6 with (first
    | (refine wpList_load_w rfl 46 (.tmp 2) rfl be 0 rfl (L) _ E4.out.all Tryz.underlying46 rfl HI.out ?_; simp only [Act.put, List.setIfInBounds_toArray, List.set_cons_zero, List.set_cons_succ])
    | (go_at_call 19; refine Calls.mono (HAD.out X4 p g L HL.out K4.out (SL.out X4 R4.out)) ?_; rintro e5 X5 ⟨rfl, v5, q1, q2⟩; have K5 : Hid (Bx w X5 p v5 [e0]) := q1; have E5 : Hid (Row X5 be L 46) := q2.row E4.out (row_apart2 E4.out K4.out.row (by decide)); have R5 : Hid (Row X5 g (vB [5#8, 1#8, 1#8]) 5) := q2.row R4.out (row_apart2 R4.out K4.out.row (by decide)); clear q1 q2))
  clear K4 E4 R4 HAD
  go_upto_region 7 with (first
    | (go_at_call 20; refine Calls.mono (HEN.out X5 p v5 K5.out) ?_; rintro e6 X6 ⟨A6, c6, rfl, q1, q2⟩; have N6 : Hid (Nb X5.heap.size X6 A6 3 c6 [5#8, 1#8, 1#8]) := q1; have B6 : Hid (Below X5.heap.size X5 X6) := q2; clear q1 q2; obtain ⟨L6, hL6⟩ : ∃ L6, L6 = e0.cells (.slice A6 3 c6) := ⟨_, rfl⟩; have H6 : Hid (L6 = e0.cells (.slice A6 3 c6)) := hL6; have I6 : Hid ((Tryz.prog.info? 46).map (·.size) = some L6.length) := (by rw [hL6]; exact Ev.info e0_wf _); have M6 : Hid (L6.length = zE.length) := (by show _ = _; rw [hL6, Ev.len e0_wf]; rfl); have O6 : Hid (L6.toArray.all (·.oneCell') = true) := (by rw [hL6]; exact all_oneCell_toArray (Ev.one e0 _ _ _)); rw [← hL6]; clear hL6)
    | (refine wpList_allocE rfl rfl ?_; intro X7 q1 q2; have Z7 : Hid (Row X7 X6.heap.size zE 46) := q1; have B7 : Hid (Below X6.heap.size X6 X7) := q2; clear q1 q2; simp only [Act.put, List.setIfInBounds_toArray, List.set_cons_zero, List.set_cons_succ])
    | (refine wpList_storeL rfl 46 (.tmp 5) (.tmp 26) rfl X6.heap.size L6 zE 46 rfl rfl Z7.out M6.out I6.out O6.out ?_; intro X8 q1 q2; have F8 : Hid (Row X8 X6.heap.size L6 46) := q2; have B8 : Hid (Below X6.heap.size X6 X8) := (by rw [q1]; exact below_setCells B7.out (Nat.le_refl _) _); clear q1 q2; simp only [Act.put]))
  have C8 : Hid (Below X5.heap.size X5 X8) := B6.out.trans (B8.out.mono B6.out.size)
  have K8 : Hid (Bx w X8 p v5 [e0]) := K5.out.keep C8.out
  have E8 : Hid (Row X8 be L 46) := Row.below E5.out C8.out E5.out.lt
  have R8 : Hid (Row X8 g (vB [5#8, 1#8, 1#8]) 5) := Row.below R5.out C8.out R5.out.lt
  have N8 : Hid (Nb X5.heap.size X8 A6 3 c6 [5#8, 1#8, 1#8]) := N6.out.below B8.out
  obtain ⟨b6, hb6⟩ : ∃ b, b = X6.heap.size := ⟨_, rfl⟩
  rw [← hb6] at F8 ⊢
  clear hb6 K5 E5 R5 N6 B6 Z7 B7 B8 C8 M6 O6 HEN
  go_upto_region 8 with (first
    | (go_at_call 21; refine Calls.mono (HLK.out X8 p v5 K8.out) ?_; rintro e9 X9 ⟨rfl, q2⟩; have B9 : Hid (Below X8.heap.size X8 X9) := q2; clear q2)
    | (refine wpList_allocD rfl rfl ?_; intro X10 q1 q2; have Z10 : Hid (Row X10 X9.heap.size (vB zK) 51) := q1; have B10 : Hid (Below X9.heap.size X9 X10) := q2; clear q1 q2; simp only [Act.put, List.setIfInBounds_toArray, List.set_cons_zero, List.set_cons_succ])
    | (refine wpList_storeL rfl 51 (.tmp 7) (.tmp 31) rfl X9.heap.size (vB dd) (vB zK) 51 rfl rfl Z10.out HLL.out HID.out (all_oneCell_toArray (vB_one dd)) ?_; intro X11 q1 q2; have D11 : Hid (Row X11 X9.heap.size (vB dd) 51) := q2; have B11 : Hid (Below X9.heap.size X9 X11) := (by rw [q1]; exact below_setCells B10.out (Nat.le_refl _) _); clear q1 q2; simp only [Act.put]))
  have C11 : Hid (Below X8.heap.size X8 X11) := B9.out.trans (B11.out.mono B9.out.size)
  have K11 : Hid (Bx w X11 p v5 [e0]) := K8.out.keep C11.out
  have E11 : Hid (Row X11 be L 46) := Row.below E8.out C11.out E8.out.lt
  have F11 : Hid (Row X11 b6 L6 46) := Row.below F8.out C11.out F8.out.lt
  have R11 : Hid (Row X11 g (vB [5#8, 1#8, 1#8]) 5) := Row.below R8.out C11.out R8.out.lt
  have N11 : Hid (Nb X5.heap.size X11 A6 3 c6 [5#8, 1#8, 1#8]) := N8.out.below C11.out
  obtain ⟨b7, hb7⟩ : ∃ b, b = X9.heap.size := ⟨_, rfl⟩
  rw [← hb7] at D11 ⊢
  clear hb7 K8 E8 F8 R8 N8 B9 Z10 B10 B11 C11 HLK
  go_upto_region 9 with (first
    | (refine wpList_buildD0 rfl rfl zK rfl ?_; simp only [Act.put, List.setIfInBounds_toArray, List.set_cons_zero, List.set_cons_succ])
    | (refine wpList_load_w rfl 46 (.tmp 2) rfl be 0 rfl (L) _ E11.out.all Tryz.underlying46 rfl HI.out ?_; simp only [Act.put, List.setIfInBounds_toArray, List.set_cons_zero, List.set_cons_succ])
    | (go_at_call 16; refine Calls.mono (HNX.out X11 g L HL.out K11.out.be (SL.out X11 R11.out)) ?_; rintro e12 X12 ⟨rfl, q2⟩; have B12 : Hid (Below X11.heap.size X11 X12) := q2; clear q2)
    | (refine wpList_allocD rfl rfl ?_; intro X13 q1 q2; have Z13 : Hid (Row X13 X12.heap.size (vB zK) 51) := q1; have B13 : Hid (Below X12.heap.size X12 X13) := q2; clear q1 q2; simp only [Act.put, List.setIfInBounds_toArray, List.set_cons_zero, List.set_cons_succ])
    | (refine wpList_storeL rfl 51 (.tmp 9) (.tmp 37) rfl X12.heap.size (vB dd) (vB zK) 51 rfl rfl Z13.out HLL.out HID.out (all_oneCell_toArray (vB_one dd)) ?_; intro X14 q1 q2; have D14 : Hid (Row X14 X12.heap.size (vB dd) 51) := q2; have B14 : Hid (Below X12.heap.size X12 X14) := (by rw [q1]; exact below_setCells B13.out (Nat.le_refl _) _); clear q1 q2; simp only [Act.put]))
  have C14 : Hid (Below X11.heap.size X11 X14) := B12.out.trans (B14.out.mono B12.out.size)
  have K14 : Hid (Bx w X14 p v5 [e0]) := K11.out.keep C14.out
  have E14 : Hid (Row X14 be L 46) := Row.below E11.out C14.out E11.out.lt
  have F14 : Hid (Row X14 b6 L6 46) := Row.below F11.out C14.out F11.out.lt
  have G14 : Hid (Row X14 b7 (vB dd) 51) := Row.below D11.out C14.out D11.out.lt
  have R14 : Hid (Row X14 g (vB [5#8, 1#8, 1#8]) 5) := Row.below R11.out C14.out R11.out.lt
  have N14 : Hid (Nb X5.heap.size X14 A6 3 c6 [5#8, 1#8, 1#8]) := N11.out.below C14.out
  obtain ⟨b9, hb9⟩ : ∃ b, b = X12.heap.size := ⟨_, rfl⟩
  rw [← hb9] at D14 ⊢
  clear hb9 K11 E11 F11 D11 R11 N11 B12 Z13 B13 B14 C14 HNX
  go_wp2_with (first
    | (refine wpList_load_w rfl 51 (.tmp 7) rfl b7 0 rfl (vB dd) _ G14.out.all Tryz.underlying51 rfl HID.out ?_; simp only [Act.put, List.setIfInBounds_toArray, List.set_cons_zero, List.set_cons_succ])
    | (refine wpList_load_w rfl 51 (.tmp 9) rfl b9 0 rfl (vB dd) _ D14.out.all Tryz.underlying51 rfl HID.out ?_; simp only [Act.put, List.setIfInBounds_toArray, List.set_cons_zero, List.set_cons_succ])
    | (refine wpList_eql_b rfl 51 (.tmp 54) (.tmp 55) _ rfl 5 32 dd dd rfl rfl Tryz.underlying51 Tryz.underlying5 info_u8 HDL.out HDL.out guardDE true (decide_eq_true rfl) ?_; simp only [Act.put, List.setIfInBounds_toArray, List.set_cons_zero, List.set_cons_succ])
    | (go_at_call 22; refine Calls.mono (HLE.out X14 p v5 K14.out) ?_; rintro e15 X ⟨rfl, hq⟩; obtain rfl := hq.symm)
    | (refine wpList_load_w rfl 46 (.tmp 5) rfl b6 0 rfl (L6) _ F14.out.all Tryz.underlying46 rfl I6.out ?_; simp only [Act.put, List.setIfInBounds_toArray, List.set_cons_zero, List.set_cons_succ])
    | (refine wpList_load_w rfl 46 (.tmp 2) rfl be 0 rfl (L) _ E14.out.all Tryz.underlying46 rfl HI.out ?_; simp only [Act.put, List.setIfInBounds_toArray, List.set_cons_zero, List.set_cons_succ])
    | (go_at_call 17; refine Calls.mono (HSA.out X14 A6 c6 g L6 L H6.out HL.out (Bw.sl N14.out.bw) (SL.out X14 R14.out)) ?_; rintro e16 X16 ⟨rfl, q⟩; have B16 : Hid (Below w.heap.size w X16) := K14.out.be.trans (q.mono K14.out.be.size); clear q))
  go_ret
  exact ⟨rfl, B16.out⟩

end Go.Proofs.YtknabkoddickaaaGreatDoor
