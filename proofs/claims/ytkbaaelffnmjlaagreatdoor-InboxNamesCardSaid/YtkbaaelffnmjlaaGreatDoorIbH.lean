/-
  the document's inbox: Text, Next; Same of two entries that are the same; the law's known.
-/
import Derived.Test.YtkbaaelffnmjlaaGreatDoorXMem
import Derived.Laws.BytesArg
import Derived.Test.YtkbaaelffnmjlaaGreatDoorIbG
import Derived.Test.YtkbaaelffnmjlaaGreatDoorXOwn

namespace Go.Proofs.YtkbaaelffnmjlaaGreatDoor
open Go Go.RowKit
open Sha

/-- Bytes as a string. -/
def str (l : List (BitVec 8)) : ByteArray := strOfNums (l.map c)
theorem run_convert_str {P : Program} (w : World) (src e dst : TypeId) (hs : P.underlying src = some (.slice e)) (he : P.underlying e = some (.int .u8)) (hd : P.underlying dst = some .string) (b off cap n : Nat) (l : List (BitVec 8)) (hl : l.length = n)
    (hr : w.rangeAt b off (vB l)) : (convert src dst (.slice (some ⟨b, off, none⟩) n cap)).run P w = .ok (.string (str l)) w :=
  run_convert_bytes_arg w src e hs he b off n cap (l.map c) (by simpa using hl) (fun i hi => hr i _ (by rw [vB_get l i (by omega)]; simp [show i < l.length by omega])) dst hd
theorem run_convert_sl {P : Program} (w : World) (src e dst : TypeId) (hs : P.underlying src = some (.slice e)) (he : P.underlying e = some (.int .u8)) (hd : P.underlying dst = some .string) (v : Value) (d : List (BitVec 8)) (hv : SlAt w v d) :
    (convert src dst v).run P w = .ok (.string (str d)) w := by
  rcases hv with ⟨rfl, A, cap, rfl⟩ | ⟨ab, ao, cap, rfl, _, hr⟩
  · cases A with
    | none =>
      rw [run_convert_bytes_string w src dst e none 0 cap hs he hd]
      simp [Conv.bytesToString]
      rfl
    | some p =>
      have hl : (loadCells p 0).run P w = .ok (([] : List Int).map (Value.int .u8)).toArray w := run_loadCells_list (P := P) w p [] (fun j v hj => by simp at hj)
      rw [run_convert_bytes_string w src dst e _ 0 cap hs he hd, run_bytesToString w _ 0 cap [] hl]
      rfl
  · exact run_convert_str w src e dst hs he hd ab ao cap d.length d rfl hr

end Go.Proofs.YtkbaaelffnmjlaaGreatDoor

namespace Go.Proofs.YtkbaaelffnmjlaaGreatDoor
open Go Go.RowKit
open Sha

set_option maxRecDepth 100000 in
set_option maxHeartbeats 4000000 in
theorem rtext_ok (e : Ev) (hw : e.Wf) (hm : e.May) (kk : List (BitVec 8)) (hk : kk.length = 32) (A : Option Addr) (n cap : Nat) (hn : e.d.length = n) (hnil : A = none → cap = 0) (L : List Value) (hL : L = e.cells (.slice A n cap)) (w : World) (hS : SlAt w (.slice A n cap) e.d) :
    Calls Tryz.prog 48 #[.agg (vB kk).toArray, .agg L.toArray] w fun r w' => ∃ A' N c', r = .returned (.slice A' N c') ∧ (kk ++ e.bytes).length = N ∧ Bw w' (.slice A' N c') (kk ++ e.bytes) ∧ (A' = none → c' = 0) ∧ Fresh w.heap.size (.slice A' N c') ∧ Below w.heap.size w w' := by
  have HEB : Hid (∀ X, Below w.heap.size w X → Calls Tryz.prog 64 #[.agg L.toArray] X fun r w' => ∃ A' N c', r = .returned (.tuple #[.slice A' N c', .int .i64 0]) ∧ e.bytes.length = N ∧ Bw w' (.slice A' N c') e.bytes ∧ Fresh X.heap.size (.slice A' N c') ∧ Below X.heap.size X w') := fun X k => rebytes_ok e hw hm A n cap hn hnil L hL X (hS.be k)
  have HI : Hid ((Tryz.prog.info? 46).map (·.size) = some L.length) := by rw [hL]; exact Ev.info hw _
  have HBL : Hid (e.bytes.length ≤ 10000) := Ev.bytes_len hw hm
  have HKK : Hid (kk.length = 32) := hk
  obtain ⟨M, hM⟩ : ∃ M, M = vB kk := ⟨_, rfl⟩
  have HM : Hid (M = vB kk) := hM
  have HT : Hid ((vB (kk.take 32)).length = 32) := by show _ = _; rw [vB_length, List.length_take, hk]; rfl
  have HTK : Hid (kk.take 32 = kk) := by show _ = _; rw [← hk, List.take_length]
  rw [← hM]
  clear hk hw hm hn hnil hL hS hM
  go_enter Tryz.func48, Tryz.ntmps48
  go_upto_region 1 with (first
    | (refine wpList_boxG 51 rfl (.tmp 0) rfl M rfl ?_; intro X1 q1 q2 q3; have R1 : Hid (Row X1 w.heap.size (vB kk) 51) := (by rw [← HM.out]; exact q1); have B1 : Hid (Below w.heap.size w X1) := q2; clear q1 q2 q3; simp only [Act.put, List.setIfInBounds_toArray, List.set_cons_zero, List.set_cons_succ])
    | (refine wpList_boxG 46 rfl (.tmp 1) rfl L rfl ?_; intro X2 q1 q2 q3; have R2 : Hid (Row X2 X1.heap.size L 46) := q1; have B2 : Hid (Below w.heap.size w X2) := B1.out.trans (q2.mono B1.out.size); have D2 : Hid (Row X2 w.heap.size (vB kk) 51) := Row.below R1.out q2 R1.out.lt; clear q1 q2 q3 R1; simp only [Act.put, List.setIfInBounds_toArray, List.set_cons_zero, List.set_cons_succ]))
  obtain ⟨be, hbe⟩ : ∃ b, b = X1.heap.size := ⟨_, rfl⟩
  obtain ⟨bk, hbk⟩ : ∃ b, b = w.heap.size := ⟨_, rfl⟩
  rw [← hbe] at R2 ⊢
  rw [← hbk] at D2 ⊢
  clear hbe hbk B1
  go_upto_region 2 with (first
    | (refine wpList_load_w rfl 46 (.tmp 3) rfl be 0 rfl L _ R2.out.all Tryz.underlying46 rfl HI.out ?_; simp only [Act.put, List.setIfInBounds_toArray, List.set_cons_zero, List.set_cons_succ])
    | (go_at_call 64; refine Calls.mono (HEB.out X2 B2.out) ?_; rintro e4 X4 ⟨A', N, c', rfl, q0, q1, q2, q3⟩; have W4 : Hid (Bw X4 (.slice A' N c') e.bytes) := q1; have N4 : Hid (e.bytes.length = N) := q0; have B4 : Hid (Below w.heap.size w X4) := B2.out.trans (q3.mono B2.out.size); have D4 : Hid (Row X4 bk (vB kk) 51) := Row.below D2.out q3 D2.out.lt; clear q0 q1 q2 q3))
  obtain ⟨_, _, ef, _, hnil4⟩ := Bw.form W4.out
  simp only [Value.slice.injEq] at ef
  obtain ⟨rfl, _, rfl⟩ := ef
  have L4 : Hid (A' = none → c' = 0) := hnil4
  clear R2 D2 B2 HEB hnil4
  go_upto_region 3 with (refine wpList_make1 rfl _ _ rfl 32 _ _ rfl rfl rfl rfl (by decide) ?_; intro X5 r1 b1 s1; have R5 : Hid (Row X5 X4.heap.size (vB (List.replicate 32 0#8)) 5) := r1; have B5 : Hid (Below w.heap.size w X5) := B4.out.trans (b1.mono B4.out.size); have D5 : Hid (Row X5 bk (vB kk) 51) := Row.below D4.out b1 D4.out.lt; have W5 : Hid (Bw X5 (.slice A' N c') e.bytes) := Bw.be W4.out b1; have TH : Hid (X5.there X4.heap.size 0 (vB (kk.take 32)).length) := r1.there 0 _ (by rw [HT.out, vB_length, List.length_replicate]; exact Nat.le_of_eq (Nat.zero_add _)); clear r1 b1 s1; simp only [Act.put, List.setIfInBounds_toArray, List.set_cons_zero, List.set_cons_succ])
  have NB : Hid (w.heap.size ≤ X4.heap.size ∧ ∀ g, (Value.slice A' N c').ownBlock = some g → g < X4.heap.size) := ⟨B4.out.size, Bw.lt W4.out⟩
  obtain ⟨b, hb⟩ : ∃ b, b = X4.heap.size := ⟨_, rfl⟩
  rw [← hb] at R5 TH NB ⊢
  clear hb B4 D4 W4
  go_upto_region 4 with (refine wpList_copyb rfl (.tmp 14) (.tmp 15) rfl b 32 32 32 (some ⟨bk, 0, none⟩) kk HKK.out rfl rfl (by rw [← HKK.out]; exact .inr ⟨bk, 0, kk.length, rfl, Nat.le_refl _, D5.out.all⟩) TH.out ?_; simp only [Act.put, List.setIfInBounds_toArray, List.set_cons_zero, List.set_cons_succ])
  have hr := Row.setCells 0 (vB (kk.take 32)) R5.out (by rw [HT.out, vB_length, List.length_replicate]; exact Nat.le_of_eq (Nat.zero_add _))
  have hB := below_setCells B5.out (b := b) (o := 0) NB.out.1 (vB (kk.take 32))
  have hG : Gro (· = b) X5 (X5.setCells b 0 (vB (kk.take 32))) := gro_over (Gro.refl _ _) b 0 _ rfl
  have e2 : List.take 0 (vB (List.replicate 32 0#8)) ++ vB (kk.take 32) ++ List.drop (0 + (vB (kk.take 32)).length) (vB (List.replicate 32 0#8)) = vB kk := by
    rw [HT.out, HTK.out, List.drop_of_length_le (by rw [vB_length, List.length_replicate]; omega)]; simp
  rw [e2] at hr
  obtain ⟨X6, hX6⟩ : ∃ X, X = X5.setCells b 0 (vB (kk.take 32)) := ⟨_, rfl⟩
  rw [← hX6] at hr hB hG ⊢
  have R6 : Hid (Bw X6 (.slice (some ⟨b, 0, none⟩) 32 32) kk) := by have := row_bw hr (by rw [HKK.out]; decide); rw [HKK.out] at this; exact this
  have B6 : Hid (Below w.heap.size w X6) := hB
  have W6 : Hid (Bw X6 (.slice A' N c') e.bytes) := Bw.gro W5.out hG (fun g eg => by have := NB.out.2 g eg; omega)
  have HS6 : Hid (kk.length + N ≤ 140737488355328) := by show _ ≤ _; rw [← N4.out, HKK.out]; have := HBL.out; omega
  have HLN : Hid ((kk ++ e.bytes).length = 32 + N) := by show _ = _; rw [List.length_append, HKK.out, N4.out]
  clear hr hB hG e2 hX6 R5 B5 D5 W5 TH HT HTK
  go_wp2_with (refine wpList_app rfl (.tmp 17) (.tmp 18) rfl (.slice (some ⟨b, 0, none⟩) 32 32) kk e.bytes rfl R6.out A' N c' N4.out rfl (Bw.sl W6.out) L4.out HS6.out ?_; intro v7 X7 q1 q2 q3; have W7 : Hid (Bw X7 v7 (kk ++ e.bytes)) := q1; have B7 : Hid (Below w.heap.size w X7) := below_gb B6.out q2 (fun g eg => by simp [Value.ownBlock] at eg; have := NB.out.1; omega); have F7 : Hid (Fresh w.heap.size v7) := (fun g eg => by rcases q3 with q | q; (rw [q] at eg; simp [Value.ownBlock] at eg; have := NB.out.1; omega); (rw [q] at eg; cases eg; exact B6.out.size)); clear q1 q2 q3; obtain ⟨A8, c8, e8, _, n8⟩ := Bw.form W7.out; rw [HLN.out] at e8; subst e8; have N8 : Hid (A8 = none → c8 = 0) := n8; clear n8; simp only [Act.put, List.setIfInBounds_toArray, List.set_cons_zero, List.set_cons_succ])
  go_ret
  exact ⟨A8, 32 + N, c8, rfl, HLN.out, W7.out, N8.out, F7.out, B7.out⟩
set_option maxRecDepth 100000 in
set_option maxHeartbeats 4000000 in
theorem dnext_ok (e : Ev) (hw : e.Wf) (hm : e.May) (kk dd : List (BitVec 8)) (hk : kk.length = 32) (hd : dd = nx kk e) (A : Option Addr) (n cap : Nat) (hn : e.d.length = n) (hnil : A = none → cap = 0) (L : List Value) (hL : L = e.cells (.slice A n cap)) (w : World) (hG : Given w) (hS : SlAt w (.slice A n cap) e.d) :
    Calls Tryz.prog 20 #[.agg (vB kk).toArray, .agg L.toArray] w fun r w' => r = .returned (.tuple #[.agg (vB dd).toArray, .int .i64 0]) ∧ Below w.heap.size w w' := by
  have HDL : Hid (dd.length = 32) := by rw [hd]; exact dig_length _
  have HKI : Hid ((Tryz.prog.info? 51).map (·.size) = some (vB kk).length) := by show _ = _; rw [vB_length, hk]; exact info_dg
  have HID : Hid ((Tryz.prog.info? 51).map (·.size) = some (vB dd).length) := by show _ = _; rw [vB_length, HDL.out]; exact info_dg
  have HLL : Hid ((vB dd).length = (vB zK).length) := by show _ = _; rw [vB_length, vB_length, HDL.out]; rfl
  have HI : Hid ((Tryz.prog.info? 46).map (·.size) = some L.length) := by rw [hL]; exact Ev.info hw _
  have HCE : Hid (∀ X, Calls Tryz.prog 32 #[.agg L.toArray] X fun r w' => r = .returned (.int .i64 0) ∧ Below X.heap.size X w') := fun X => rcheck_ok e hw hm A n cap hn L hL X
  have HTX : Hid (∀ X, Below w.heap.size w X → Calls Tryz.prog 48 #[.agg (vB kk).toArray, .agg L.toArray] X fun r w' => ∃ A' N c', r = .returned (.slice A' N c') ∧ (kk ++ e.bytes).length = N ∧ Bw w' (.slice A' N c') (kk ++ e.bytes) ∧ (A' = none → c' = 0) ∧ Fresh X.heap.size (.slice A' N c') ∧ Below X.heap.size X w') := fun X k => rtext_ok e hw hm kk hk A n cap hn hnil L hL X (hS.be k)
  have hbl := Ev.bytes_len hw hm
  have HSM : Hid (∀ X, Below w.heap.size w X → ∀ v, SlAt X v (kk ++ e.bytes) → Calls Tryz.prog 47 #[v] X fun r w' => r = .returned (.agg (vB dd).toArray) ∧ Below X.heap.size X w') := fun X k v hv => rsum_any (kk ++ e.bytes) dd hd (by rw [List.length_append, hk]; omega) v X (slTo hv) (hG.below k (Nat.le_refl _))
  obtain ⟨M, hM⟩ : ∃ M, M = vB kk := ⟨_, rfl⟩
  have HM : Hid (M = vB kk) := hM
  rw [← hM] at HKI
  rw [← hM]
  rw [← hM] at HTX
  clear hk hw hm hn hnil hL hS hM hG hd hbl
  go_enter Tryz.func20, Tryz.ntmps20
  go_upto_region 1 with (first
    | (refine wpList_boxG 51 rfl (.tmp 0) rfl M rfl ?_; intro X1 q1 q2 q3; have R1 : Hid (Row X1 w.heap.size M 51) := q1; have B1 : Hid (Below w.heap.size w X1) := q2; clear q1 q2 q3; simp only [Act.put, List.setIfInBounds_toArray, List.set_cons_zero, List.set_cons_succ])
    | (refine wpList_boxG 46 rfl (.tmp 1) rfl L rfl ?_; intro X2 q1 q2 q3; have R2 : Hid (Row X2 X1.heap.size L 46) := q1; have B2 : Hid (Below w.heap.size w X2) := B1.out.trans (q2.mono B1.out.size); have D2 : Hid (Row X2 w.heap.size M 51) := Row.below R1.out q2 R1.out.lt; clear q1 q2 q3 R1; simp only [Act.put, List.setIfInBounds_toArray, List.set_cons_zero, List.set_cons_succ])
    | (refine wpList_allocD rfl rfl ?_; intro X3 q1 q2; have R3 : Hid (Row X3 X2.heap.size (vB zK) 51) := q1; have B3 : Hid (Below w.heap.size w X3) := B2.out.trans (q2.mono B2.out.size); have D3 : Hid (Row X3 w.heap.size M 51) := Row.below D2.out q2 D2.out.lt; have E3 : Hid (Row X3 X1.heap.size L 46) := Row.below R2.out q2 R2.out.lt; have N3 : Hid (w.heap.size ≤ X2.heap.size) := B2.out.size; clear q1 q2 D2 R2; simp only [Act.put, List.setIfInBounds_toArray, List.set_cons_zero, List.set_cons_succ]))
  obtain ⟨b, hb⟩ : ∃ b, b = X2.heap.size := ⟨_, rfl⟩
  obtain ⟨be, hbe⟩ : ∃ b, b = X1.heap.size := ⟨_, rfl⟩
  obtain ⟨bk, hbk⟩ : ∃ b, b = w.heap.size := ⟨_, rfl⟩
  have N4 : Hid (w.heap.size ≤ b) := by show _ ≤ _; rw [hb]; exact N3.out
  rw [← hb] at R3 ⊢
  rw [← hbe] at E3 ⊢
  rw [← hbk] at D3 ⊢
  clear hb hbe hbk B1 B2 N3
  go_upto_region 2 with (first
    | (refine wpList_load_w rfl 46 (.tmp 3) rfl be 0 rfl L _ E3.out.all Tryz.underlying46 rfl HI.out ?_; simp only [Act.put, List.setIfInBounds_toArray, List.set_cons_zero, List.set_cons_succ])
    | (go_at_call 32; refine Calls.mono (HCE.out X3) ?_; rintro e4 X4 ⟨rfl, q3⟩; have B4 : Hid (Below w.heap.size w X4) := B3.out.trans (q3.mono B3.out.size); have R4 : Hid (Row X4 b (vB zK) 51) := Row.below R3.out q3 R3.out.lt; have D4 : Hid (Row X4 bk M 51) := Row.below D3.out q3 D3.out.lt; have E4 : Hid (Row X4 be L 46) := Row.below E3.out q3 E3.out.lt; clear q3))
  clear R3 D3 E3 B3 HCE
  go_wp2_with (first
    | (refine wpList_load_w rfl 51 (.tmp 2) rfl bk 0 rfl M _ D4.out.all Tryz.underlying51 rfl HKI.out ?_; simp only [Act.put, List.setIfInBounds_toArray, List.set_cons_zero, List.set_cons_succ])
    | (refine wpList_load_w rfl 46 (.tmp 3) rfl be 0 rfl L _ E4.out.all Tryz.underlying46 rfl HI.out ?_; simp only [Act.put, List.setIfInBounds_toArray, List.set_cons_zero, List.set_cons_succ])
    | (go_at_call 48; refine Calls.mono (HTX.out X4 B4.out) ?_; rintro e5 X5 ⟨A5, N5, c5, rfl, q0, q1, q2, q3, q4⟩; have W5 : Hid (Bw X5 (.slice A5 N5 c5) (kk ++ e.bytes)) := q1; have B5 : Hid (Below w.heap.size w X5) := B4.out.trans (q4.mono B4.out.size); have R5 : Hid (Row X5 b (vB zK) 51) := Row.below R4.out q4 R4.out.lt; clear q0 q1 q2 q3 q4)
    | (go_at_call 47; refine Calls.mono (HSM.out X5 B5.out _ (Bw.sl W5.out)) ?_; rintro e6 X6 ⟨rfl, q⟩; have B6 : Hid (Below w.heap.size w X6) := B5.out.trans (q.mono B5.out.size); have R6 : Hid (Row X6 b (vB zK) 51) := Row.below R5.out q R5.out.lt; clear q)
    | (refine wpList_storeL rfl 51 (.tmp 4) (.tmp 15) rfl b (vB dd) (vB zK) 51 rfl rfl R6.out HLL.out HID.out (all_oneCell_toArray (vB_one dd)) ?_; intro X7 q1 q2; have B7 : Hid (Below w.heap.size w X7) := (by rw [q1]; exact below_setCells B6.out N4.out _); have R7 : Hid (Row X7 b (vB dd) 51) := q2; clear q1 q2; simp only [Act.put]))
  exact bodyPost_ret (results_row_tmp Tryz.results20 _ _ b 51 (vB dd) (.int .i64 0) rfl rfl R7.out Tryz.underlying51 info_dg (by rw [vB_length, HDL.out])) rfl ⟨rfl, B7.out⟩

end Go.Proofs.YtkbaaelffnmjlaaGreatDoor
