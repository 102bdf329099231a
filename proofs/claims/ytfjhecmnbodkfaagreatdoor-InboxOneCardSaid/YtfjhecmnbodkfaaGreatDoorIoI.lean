/-
  InboxOne: the walk where it is not.
-/
import Derived.Test.YtfjhecmnbodkfaaGreatDoorIoG
namespace Go.Proofs.YtfjhecmnbodkfaaGreatDoor
open Go Go.RowKit
open Sha

set_option maxRecDepth 100000 in
set_option maxHeartbeats 16000000 in
theorem one_le (rs rs2 : List Rwi) (A0 A20 : Option Addr) (N N2 c0 c20 : Nat) (hN : N = rs.length) (hN2 : N2 = rs2.length) (hNb : N < 140737488355328) (hNb2 : N2 < 140737488355328) (M1 M2 : Nat) (hM1 : M1 = min N 100) (hM2 : M2 = min N2 100) (hc : ¬ M2 < M1) (K0 : List (BitVec 8)) (hK0 : K0.length = 32) (KK : List Value) (hKK : KK = vB K0) (w : World) (hG : Given w) (h0 : RsAt w A0 rs) (h20 : RsAt w A20 rs2) :
    Calls Tryz.prog 5 #[.slice A0 N c0, .slice A20 N2 c20, .agg KK.toArray] w fun r w' => r = .returned (.bool true) ∧ Below w.heap.size w w' := by
  obtain ⟨es, hes⟩ : ∃ es, es = rowv rs M1 := ⟨_, rfl⟩
  obtain ⟨fs, hfs⟩ : ∃ es, es = rowv rs2 M2 := ⟨_, rfl⟩
  have hel : es.length = M1 := by rw [hes]; exact rowv_len rs M1 (by omega)
  have hfl : fs.length = M2 := by rw [hfs]; exact rowv_len rs2 M2 (by omega)
  have hok : Okr es := by rw [hes]; exact rowv_okr h0 M1 (by omega) (by omega)
  have hok2 : Okr fs := by rw [hfs]; exact rowv_okr h20 M2 (by omega) (by omega)
  obtain ⟨n, hn⟩ : ∃ n, n = M1 := ⟨_, rfl⟩
  have hnm : n = min es.length fs.length := by rw [hel, hfl]; omega
  have hn1 : n ≤ M1 := by omega
  have hn2 : n ≤ M2 := by omega
  have hm100 : M1 ≤ 100 ∧ M2 ≤ 100 := by omega
  have HGW : Hid (∀ X, Below w.heap.size w X → Given X) := fun X k => hG.below k (Nat.le_refl _)
  have HR1 : Hid (∀ X, Below w.heap.size w X → Calls Tryz.prog 20 #[.slice A0 N c0] X fun r w' => ∃ A c, r = .returned (.slice A M1 c) ∧ Eo X w' (.slice A M1 c) es) := fun X k => by
    rw [hes]
    exact row_any rs A0 N c0 M1 hN hM1 hNb X (fun z r hr => by obtain ⟨q1, q2, b, o9, A', c', q3, q4, q5⟩ := h0 z r hr; exact ⟨q1, q2, b, o9, A', c', q3, range_be q4 k, q5.be k⟩)
  have HR2 : Hid (∀ X, Below w.heap.size w X → Calls Tryz.prog 20 #[.slice A20 N2 c20] X fun r w' => ∃ A c, r = .returned (.slice A M2 c) ∧ Eo X w' (.slice A M2 c) fs) := fun X k => by
    rw [hfs]
    exact row_any rs2 A20 N2 c20 M2 hN2 hM2 hNb2 X (fun z r hr => by obtain ⟨q1, q2, b, o9, A', c', q3, q4, q5⟩ := h20 z r hr; exact ⟨q1, q2, b, o9, A', c', q3, range_be q4 k, q5.be k⟩)
  have HX1 : Hid (∀ X A c, Below w.heap.size w X → EsAt X A es → Calls Tryz.prog 21 #[.slice A M1 c] X fun r w' => ∃ p v, r = .returned (.pointer (some ⟨p, 0, none⟩)) ∧ Bx X w' p v es) := fun X A c k he => boxed_any es hok A M1 c hel.symm (by omega) X (HGW.out X k).cub he
  have HX2 : Hid (∀ X A c, Below w.heap.size w X → EsAt X A fs → Calls Tryz.prog 21 #[.slice A M2 c] X fun r w' => ∃ p v, r = .returned (.pointer (some ⟨p, 0, none⟩)) ∧ Bx X w' p v fs) := fun X A c k he => boxed_any fs hok2 A M2 c hfl.symm (by omega) X (HGW.out X k).cub he
  obtain ⟨fk, hfk⟩ : ∃ z, z = forkN es fs n := ⟨_, rfl⟩
  have hfn : fk ≤ n := by rw [hfk]; exact forkN_le es fs n
  have HF1 : Hid (∀ X A A' p p' v v' b5, S2 w X es fs A A' p p' v v' b5 KK → Calls Tryz.prog 22 #[.pointer (some ⟨p, 0, none⟩), .pointer (some ⟨p', 0, none⟩)] X fun r w' => r = .returned (.int .i64 (fk : Int)) ∧ Below X.heap.size X w') := fun X A A' p p' v v' b5 h => by
    obtain ⟨w0, ha⟩ := h.ba
    obtain ⟨w1, hb⟩ := h.bb
    exact fork_any ha hb (by rw [hel, hfl]; omega) n hnm fk hfk
  have HF2 : Hid (∀ X A A' p p' v v' b5, S2 w X es fs A A' p p' v v' b5 KK → Calls Tryz.prog 22 #[.pointer (some ⟨p', 0, none⟩), .pointer (some ⟨p, 0, none⟩)] X fun r w' => r = .returned (.int .i64 (fk : Int)) ∧ Below X.heap.size X w') := fun X A A' p p' v v' b5 h => by
    obtain ⟨w0, ha⟩ := h.ba
    obtain ⟨w1, hb⟩ := h.bb
    exact fork_any hb ha (by rw [hel, hfl]; omega) n (by rw [hnm, Nat.min_comm]) fk (by rw [hfk, forkN_comm])
  have HK1 : Hid (∀ X A A' p p' v v' b5 z, S2 w X es fs A A' p p' v v' b5 KK → z ≤ n → Calls Tryz.prog 23 #[.pointer (some ⟨p, 0, none⟩), .int .i64 (z : Int)] X fun r w' => r = .returned (.tuple #[.agg (vB (lk es z)).toArray, .int .i64 0]) ∧ Below X.heap.size X w') := fun X A A' p p' v v' b5 z h hz => by obtain ⟨w0, hb⟩ := h.ba; exact link_ok hb (by omega) z (by omega)
  have HK2 : Hid (∀ X A A' p p' v v' b5 z, S2 w X es fs A A' p p' v v' b5 KK → z ≤ n → Calls Tryz.prog 23 #[.pointer (some ⟨p', 0, none⟩), .int .i64 (z : Int)] X fun r w' => r = .returned (.tuple #[.agg (vB (lk fs z)).toArray, .int .i64 0]) ∧ Below X.heap.size X w') := fun X A A' p p' v v' b5 z h hz => by obtain ⟨w0, hb⟩ := h.bb; exact link_ok hb (by omega) z (by omega)
  have hwm : ∀ z, ∀ e ∈ es.take z, e.Wf ∧ e.May := fun z e he => hok.ok e (List.mem_of_mem_take he)
  have hwm2 : ∀ z, ∀ e ∈ fs.take z, e.Wf ∧ e.May := fun z e he => hok2.ok e (List.mem_of_mem_take he)
  have lte : ∀ z, z ≤ n → z = (es.take z).length := fun z hz => by rw [List.length_take]; omega
  have ltf : ∀ z, z ≤ n → z = (fs.take z).length := fun z hz => by rw [List.length_take]; omega
  have HCL : Hid (∀ X A A' c c' z (k : List (BitVec 8)) (L : List Value) (T : Bool), z ≤ n → Below w.heap.size w X → EsAt X A es → EsAt X A' fs → k.length = 32 → L = vB k → T = clN k (es.take z) (fs.take z) z → Calls Tryz.prog 24 #[.agg L.toArray, .slice A z c, .slice A' z c'] X fun r w' => r = .returned (.bool T) ∧ Below X.heap.size X w') := fun X A A' c c' z k L T hz kb h1 h2 hk hL hT => clash_any k hk (es.take z) (fs.take z) (hwm z) (hwm2 z) A A' z c c' (lte z hz) (ltf z hz) (by omega) X (HGW.out X kb) (h1.take z) (h2.take z) L hL T hT
  have HCO : Hid (∀ z k, z ≤ n → k.length = 32 → lkf k (es.take z) = lkf k (fs.take z) → es.take z ≠ fs.take z → true = clN k (es.take z) (fs.take z) z) := fun z k hz hk h1 h2 => (clash_of k hk (es.take z) (fs.take z) (hwm z) (hwm2 z) z (by rw [← lte z hz]; exact Nat.le_refl _) (by rw [← ltf z hz]; exact Nat.le_refl _) (by rw [List.take_take, List.take_take, Nat.min_self]; exact h1) (by rw [List.take_take, List.take_take, Nat.min_self]; exact h2)).symm
  have HLS : Hid (∀ X A c, Below w.heap.size w X → EsAt X A es → Calls Tryz.prog 13 #[.agg KK.toArray, .slice A n c] X fun r w' => ∃ g c, r = .returned (.slice (some ⟨g, 0, none⟩) (n + 1) c) ∧ Lw w' 51 32 (.slice (some ⟨g, 0, none⟩) (n + 1) c) (n + 1) (dcs K0 (es.take n) n) ∧ Below X.heap.size X w') := fun X A c k h => (links_any K0 hK0 (es.take n) (hwm n) A n c (lte n (Nat.le_refl _)) (by omega) X (HGW.out X k) (h.take n) KK hKK).mono (fun r w' ⟨g, c, h1, h2, _, h4⟩ => ⟨g, c, h1, h2, h4⟩)
  obtain ⟨tn, htn⟩ : ∃ z, z = lkf K0 (es.take n) := ⟨_, rfl⟩
  have HTL : Hid (tn.length = 32) := by rw [htn]; exact lkf_len K0 hK0 _
  have HDA : Hid (∀ j u, (vB tn)[j]? = some u → (dcs K0 (es.take n) n)[n * 32 + j]? = some u) := fun j u hj => dcs_at K0 hK0 (es.take n) n n (Nat.le_refl _) j u (by rw [List.take_take, Nat.min_self, ← htn]; exact hj)
  have HC1 : Hid (∀ X A c, Below w.heap.size w X → EsAt X A es → Calls Tryz.prog 14 #[.agg KK.toArray, .agg (vB tn).toArray, .slice A n c] X fun r w' => r = .returned (.int .i64 0) ∧ Below X.heap.size X w') := fun X A c k h => by rw [hKK]; exact check_any (es.take n) (hok.take n) A n c (lte n (Nat.le_refl _)) (by omega) K0 tn hK0 HTL.out X (HGW.out X k).cub (h.take n) 0 (by rw [if_pos htn.symm])
  obtain ⟨E2, hE2⟩ : ∃ E : Int, E = if lkf K0 (fs.take n) = tn then 0 else 154 := ⟨_, rfl⟩
  have HC2 : Hid (∀ X A c, Below w.heap.size w X → EsAt X A fs → Calls Tryz.prog 14 #[.agg KK.toArray, .agg (vB tn).toArray, .slice A n c] X fun r w' => r = .returned (.int .i64 E2) ∧ Below X.heap.size X w') := fun X A c k h => by rw [hKK]; exact check_any (fs.take n) (hok2.take n) A n c (ltf n (Nat.le_refl _)) (by omega) K0 tn hK0 HTL.out X (HGW.out X k).cub (h.take n) E2 hE2
  obtain ⟨AB, hAB⟩ : ∃ T, T = decide (es.take n = fs.take n) := ⟨_, rfl⟩
  have HAL : Hid (∀ X A A' c c', Below w.heap.size w X → EsAt X A es → EsAt X A' fs → Calls Tryz.prog 25 #[.slice A n c, .slice A' n c'] X fun r w' => r = .returned (.bool AB) ∧ Below X.heap.size X w') := fun X A A' c c' _ h1 h2 => alike2_any (es.take n) (fs.take n) (fun e he => (hwm n e he).1) (fun e he => (hwm2 n e he).1) A A' n c c' (lte n (Nat.le_refl _)) (ltf n (Nat.le_refl _)) (by omega) X (h1.take n) (h2.take n) AB hAB
  have HAF : Hid (AB = decide (fk = n)) := by
    show _ = _
    rw [hAB, hfk]
    by_cases z : es.take n = fs.take n
    · rw [decide_eq_true z, decide_eq_true ((fork_take es fs n).2 z)]
    · rw [decide_eq_false z, decide_eq_false (fun y => z ((fork_take es fs n).1 y))]
  have HFL : Hid (∀ z, z ≤ n → z ≤ fk → lk es z = lk fs z) := fun z hz h => by
    unfold lk
    rw [take_of_get (forkN_min es fs n z (by rw [← hfk]; exact h))]
  have HFG : Hid (∀ z, z ≤ n → fk < z → lk es z = lk fs z → true = clN zK (es.take z) (fs.take z) z) := fun z hz h e => HCO.out z zK hz rfl e (fork_lt es fs n z hz (by rw [← hfk]; exact h))
  have HE2 : Hid ((AB = true → E2 = 0) ∧ (AB = false → E2 = 154 ∨ (E2 = 0 ∧ true = clN K0 (es.take n) (fs.take n) n))) := by
    refine ⟨fun h => ?_, fun h => ?_⟩
    · rw [hE2, if_pos]
      rw [hAB] at h
      rw [htn, of_decide_eq_true h]
    · rw [hAB] at h
      by_cases z : lkf K0 (fs.take n) = tn
      · exact .inr ⟨by rw [hE2, if_pos z], HCO.out n K0 (Nat.le_refl _) hK0 (by rw [z, htn]) (of_decide_eq_false h)⟩
      · exact .inl (by rw [hE2, if_neg z])
  have HKI : Hid ((Tryz.prog.info? 51).map (·.size) = some KK.length) := by show _ = _; rw [hKK, vB_length, hK0]; exact info_dg
  have HTI : Hid ((Tryz.prog.info? 51).map (·.size) = some (vB tn).length) := by show _ = _; rw [vB_length, HTL.out]; exact info_dg
  have HKN : Hid (∀ X, Below w.heap.size w X → Calls Tryz.prog 7 #[] X fun e w' => e = .returned (.bool true) ∧ Below X.heap.size X w') := fun X k => iknown_any X (HGW.out X k)
  have HKK : Hid (KK = vB K0 ∧ K0.length = 32) := ⟨hKK, hK0⟩
  have hnM : n = M1 := hn
  have hm1 : M1 ≤ 100 := hm100.1
  have hm2 : M2 ≤ 100 := hm100.2
  clear hes hfs hel hfl hok hok2 hfk hwm hwm2 lte ltf htn hE2 hAB h0 h20 hG hN hN2 hNb hNb2 hM1 hM2 hK0 hKK hnm hm100 hn HGW HCO
  go_enter Tryz.func5, Tryz.ntmps5
  go_upto_region 4 with (first
    | (refine wpList_boxG 51 rfl (.tmp 2) rfl KK rfl ?_; intro X1 q1 q2 q3; have R1 : Hid (Row X1 w.heap.size KK 51) := q1; have B1 : Hid (Below w.heap.size w X1) := q2; clear q1 q2 q3; simp only [Act.put, List.setIfInBounds_toArray, List.set_cons_zero, List.set_cons_succ])
    | (go_at_call 7; refine Calls.mono (HKN.out X1 B1.out) ?_; rintro r X2 ⟨rfl, q⟩; have R2 : Hid (Row X2 w.heap.size KK 51) := Row.below R1.out q R1.out.lt; have B2 : Hid (Below w.heap.size w X2) := B1.out.trans (q.mono B1.out.size); clear q)
    | (go_at_call 20; refine Calls.mono (HR1.out X2 B2.out) ?_; rintro r X3 ⟨A, c, rfl, q⟩; have R3 : Hid (Row X3 w.heap.size KK 51) := Row.below R2.out q.be R2.out.lt; have B3 : Hid (Below w.heap.size w X3) := B2.out.trans (q.be.mono B2.out.size); have E3 : Hid (EsAt X3 A es) := Eo.at q; have HCA : Hid (M1 ≤ c) := Eo.cap q; clear q))
  clear HKN HR1 R1 R2 B1 B2
  go_upto_region 5 with (first
    | (go_at_call 20; refine Calls.mono (HR2.out X3 B3.out) ?_; rintro r X4 ⟨A', c', rfl, q⟩; have R4 : Hid (Row X4 w.heap.size KK 51) := Row.below R3.out q.be R3.out.lt; have B4 : Hid (Below w.heap.size w X4) := B3.out.trans (q.be.mono B3.out.size); have E4 : Hid (EsAt X4 A es) := E3.out.be q.be; have F4 : Hid (EsAt X4 A' fs) := Eo.at q; have HCB : Hid (M2 ≤ c') := Eo.cap q; clear q))
  clear HR2 R3 B3 E3
  have hc2 : ¬ ((M2 : Int) < (M1 : Int)) := by omega
  go_upto_region 9 with (first
    | (go_at_call 21; refine Calls.mono (HX1.out X4 A c B4.out E4.out) ?_; rintro r X5 ⟨p, v, rfl, q⟩; have R5 : Hid (Row X5 w.heap.size KK 51) := Row.below R4.out q.be R4.out.lt; have B5 : Hid (Below w.heap.size w X5) := B4.out.trans (q.be.mono B4.out.size); have E5 : Hid (EsAt X5 A es) := E4.out.be q.be; have F5 : Hid (EsAt X5 A' fs) := F4.out.be q.be; have X5B : Hid (∃ w0, Bx w0 X5 p v es) := ⟨_, q⟩; clear q))
  clear HX1 R4 B4 E4 F4
  go_upto_region 12 with (first
    | (go_at_call 21; refine Calls.mono (HX2.out X5 A' c' B5.out F5.out) ?_; rintro r X6 ⟨p', v', rfl, q⟩; have S6 : Hid (S2 w X6 es fs A A' p p' v v' w.heap.size KK) := ⟨B5.out.trans (q.be.mono B5.out.size), E5.out.be q.be, F5.out.be q.be, (by obtain ⟨w0, hb⟩ := X5B.out; exact ⟨w0, hb.keep q.be⟩), ⟨_, q⟩, Row.below R5.out q.be R5.out.lt⟩; clear q))
  clear HX2 R5 B5 E5 F5 X5B hc2
  obtain ⟨b5, hb5⟩ : ∃ b, b = w.heap.size := ⟨_, rfl⟩
  rw [← hb5] at S6 ⊢
  clear hb5
  go_upto_region 13 with (go_at_call 22; refine Calls.mono (HF1.out _ _ _ _ _ _ _ _ S6.out) ?_; rintro r X7 ⟨rfl, q⟩; have S7 : Hid (S2 w X7 es fs A A' p p' v v' b5 KK) := S6.out.keep q; clear q)
  clear HF1 S6
  have hfk0 : ¬ ((fk : Int) < 0) := by omega
  have hfk1 : decide ((fk : Int) < 0) = false := decide_eq_false hfk0
  have hfk3 : ¬ (M1 < fk) := by omega
  have hfk2 : decide (M1 < fk) = false := decide_eq_false hfk3
  have hfk4 : fk ≤ M1 := by omega
  have hfkn : ¬ ((M1 : Int) < (fk : Int)) := by omega
  have hfkn2 : (fk : Int) ≤ (M1 : Int) := by omega
  go_upto_region 15 with (go_at_call 22; refine Calls.mono (HF2.out _ _ _ _ _ _ _ _ S7.out) ?_; rintro r X8 ⟨rfl, q⟩; have S8 : Hid (S2 w X8 es fs A A' p p' v v' b5 KK) := S7.out.keep q; clear q)
  clear HF2 S7 hfk0 hfk1 hfk2 hfk3 hfk4 hfkn hfkn2
  go_wp2_with fail
  go_loopw [13] (fun v13 wr => ∃ i : Nat, i ≤ n + 1 ∧ v13 = .int .i64 (i : Int) ∧ Hid (S2 w wr es fs A A' p p' v v' b5 KK)) (fun v13 _ => n + 1 - (intOf v13).toNat)
  case atStart => exact ⟨0, Nat.zero_le _, rfl, S8⟩
  case round =>
    clear S8
    obtain ⟨i, hi, rfl, HS⟩ := hrel
    by_cases hlt : i ≤ n
    · have hlt2 : (i : Int) ≤ (M1 : Int) := by omega
      have HIN : Hid (i ≤ n) := hlt
      obtain ⟨da, hda⟩ : ∃ z, z = lk es i := ⟨_, rfl⟩
      obtain ⟨db, hdb⟩ : ∃ z, z = lk fs i := ⟨_, rfl⟩
      have HLA : Hid (da.length = 32) := by rw [hda]; exact lk_len _ _
      have HLB : Hid (db.length = 32) := by rw [hdb]; exact lk_len _ _
      have HDE : Hid (da = lk es i ∧ db = lk fs i) := ⟨hda, hdb⟩
      have HKA : Hid (Calls Tryz.prog 23 #[.pointer (some ⟨p, 0, none⟩), .int .i64 (i : Int)] wr fun r w' => r = .returned (.tuple #[.agg (vB da).toArray, .int .i64 0]) ∧ Below wr.heap.size wr w') := by rw [hda]; exact HK1.out _ _ _ _ _ _ _ _ i HS.out hlt
      have HKB : Hid (∀ X, S2 w X es fs A A' p p' v v' b5 KK → Calls Tryz.prog 23 #[.pointer (some ⟨p', 0, none⟩), .int .i64 (i : Int)] X fun r w' => r = .returned (.tuple #[.agg (vB db).toArray, .int .i64 0]) ∧ Below X.heap.size X w') := fun X h => by rw [hdb]; exact HK2.out _ _ _ _ _ _ _ _ i h hlt
      clear hda hdb hlt hi
      go_upto_region 19 with (first
        | (go_at_call 23; refine Calls.mono HKA.out ?_; rintro r Y1 ⟨rfl, q⟩; have T1 : Hid (S2 w Y1 es fs A A' p p' v v' b5 KK) := HS.out.keep q; clear q)
        | (refine wpList_allocD rfl rfl ?_; intro Y2 q1 q2; have RZ : Hid (Row Y2 Y1.heap.size (vB zK) 51) := q1; have BZ : Hid (Below Y1.heap.size Y1 Y2) := q2; clear q1 q2; simp only [Act.put, List.setIfInBounds_toArray, List.set_cons_zero, List.set_cons_succ])
        | (refine wpList_storeL rfl 51 (.tmp 14) (.tmp 72) rfl Y1.heap.size (vB da) (vB zK) 51 rfl rfl RZ.out (dgL _ HLA.out) (dgI _ HLA.out) (all_oneCell_toArray (vB_one _)) ?_; intro Y3 q1 q2; have RA : Hid (Row Y3 Y1.heap.size (vB da) 51) := q2; have T3 : Hid (S2 w Y3 es fs A A' p p' v v' b5 KK) := T1.out.keep (by rw [q1]; exact below_setCells BZ.out (Nat.le_refl _) _); clear q1 q2; simp only [Act.put]))
      clear HKA HS T1 RZ BZ
      obtain ⟨ba, hba⟩ : ∃ b, b = Y1.heap.size := ⟨_, rfl⟩
      rw [← hba] at RA ⊢
      clear hba
      go_upto_region 20 with (first
        | (go_at_call 23; refine Calls.mono (HKB.out _ T3.out) ?_; rintro r Y4 ⟨rfl, q⟩; have T4 : Hid (S2 w Y4 es fs A A' p p' v v' b5 KK) := T3.out.keep q; have RA4 : Hid (Row Y4 ba (vB da) 51) := Row.below RA.out q RA.out.lt; clear q)
        | (refine wpList_allocD rfl rfl ?_; intro Y5 q1 q2; have RZ : Hid (Row Y5 Y4.heap.size (vB zK) 51) := q1; have BZ : Hid (Below Y4.heap.size Y4 Y5) := q2; clear q1 q2; simp only [Act.put, List.setIfInBounds_toArray, List.set_cons_zero, List.set_cons_succ])
        | (refine wpList_storeL rfl 51 (.tmp 16) (.tmp 78) rfl Y4.heap.size (vB db) (vB zK) 51 rfl rfl RZ.out (dgL _ HLB.out) (dgI _ HLB.out) (all_oneCell_toArray (vB_one _)) ?_; intro Y6 q1 q2; have RB6 : Hid (Row Y6 Y4.heap.size (vB db) 51) := q2; have B6 : Hid (Below Y4.heap.size Y4 Y6) := (by rw [q1]; exact below_setCells BZ.out (Nat.le_refl _) _); have T6 : Hid (S2 w Y6 es fs A A' p p' v v' b5 KK) := T4.out.keep B6.out; have RA6 : Hid (Row Y6 ba (vB da) 51) := Row.below RA4.out B6.out RA4.out.lt; clear q1 q2; simp only [Act.put]))
      clear HKB T3 T4 RA RA4 RZ BZ B6
      obtain ⟨bb, hbb⟩ : ∃ b, b = Y4.heap.size := ⟨_, rfl⟩
      rw [← hbb] at RB6 ⊢
      clear hbb
      have ra := RA6.out
      have rb := RB6.out
      have hb1 := Below.refl Y6.heap.size Y6
      clear RA6 RB6
      have HIA : Hid ((Tryz.prog.info? 51).map (·.size) = some (vB da).length) := dgI _ HLA.out
      have HIB : Hid ((Tryz.prog.info? 51).map (·.size) = some (vB db).length) := dgI _ HLB.out
      by_cases hif : i ≤ fk
      · have HLE : Hid (decide ((i : Int) ≤ (fk : Int)) = true) := decide_eq_true (by omega)
        have HGT : Hid (decide ((fk : Int) < (i : Int)) = false) := decide_eq_false (by omega)
        have HDD : Hid ((!decide (da = db)) = false) := by show _ = _; rw [decide_eq_true (by rw [HDE.out.1, HDE.out.2]; exact HFL.out i HIN.out hif)]; rfl
        clear hif
        refine wp_named fun a0 ha0 => ?_
        have hsz : a0.tmps.size = 183 := by rw [ha0]; rfl
        have zs7 : a0.eval (.tmp 7) = .slice A M1 c := by rw [ha0]; rfl
        have zs8 : a0.eval (.tmp 8) = .slice A' M2 c' := by rw [ha0]; rfl
        have zs12 : a0.eval (.tmp 12) = .int .i64 (fk : Int) := by rw [ha0]; rfl
        have zs13 : a0.eval (.tmp 13) = .int .i64 (i : Int) := by rw [ha0]; rfl
        have zs14 : a0.eval (.tmp 14) = .pointer (some ⟨ba, 0, none⟩) := by rw [ha0]; rfl
        have zs15 : a0.eval (.tmp 15) = .int .i64 0 := by rw [ha0]; rfl
        have zs16 : a0.eval (.tmp 16) = .pointer (some ⟨bb, 0, none⟩) := by rw [ha0]; rfl
        have zs17 : a0.eval (.tmp 17) = .int .i64 0 := by rw [ha0]; rfl
        obtain ⟨D, hD⟩ : ∃ D : List (Tmp × SP), D = [(80, SP.is (.int .i64 0)), (81, SP.is (.bool false)), (82, SP.is (.bool false)), (83, SP.is (.int .i64 0)), (84, SP.is (.bool false)), (85, SP.is (.bool false)), (86, SP.is (.bool false)), (87, SP.is (.int .i64 (i : Int))), (88, SP.is (.int .i64 (fk : Int))), (89, SP.is (.bool true)), (90, SP.is (.bool true)), (91, SP.is (.agg (vB da).toArray)), (92, SP.is (.agg (vB db).toArray)), (93, SP.is (.bool false)), (94, SP.is (.bool false)), (95, SP.is (.bool false)), (96, SP.is (.bool false)), (97, SP.is (.int .i64 (i : Int))), (98, SP.is (.int .i64 (fk : Int))), (99, SP.is (.bool false)), (100, SP.is (.bool false)), (101, SP.is (undef)), (102, SP.is (undef)), (103, SP.is (undef)), (104, SP.is (.bool false)), (105, SP.is (.bool false)), (106, SP.is (undef)), (107, SP.is (undef)), (108, SP.is (undef)), (109, SP.is (undef)), (110, SP.is (undef)), (111, SP.is (undef)), (112, SP.is (undef)), (113, SP.is (undef)), (114, SP.is (undef)), (115, SP.is (.bool false)), (116, SP.is (.bool false))] := ⟨_, rfl⟩
        refine wp_region_down (by kernel_rfl) (fun listed ac W => listed.size = 37 ∧ Fp D a0 listed ac W ∧ Below Y6.heap.size Y6 W ∧ Row W ba ((vB da)) 51 ∧ Row W bb ((vB db)) 51) ?_ ?_ ?_
        · exact ⟨by simp, Fp.start D a0 _ _, Below.drew hb1, Row.drew ra, Row.drew rb⟩
        · clear ha0 hb1 ra rb 
          intro listed ac W k hI hdn hk
          obtain ⟨hl, hF, hb1, ra, rb⟩ := hI
          have hk1 : k < 37 := List.mem_range.1 (List.mem_filter.1 hk).1
          have hl2 : ∀ j, (listed.setIfInBounds j true).size = 37 := fun j => by rw [Array.size_setIfInBounds]; exact hl
          rcases (show k = 0 ∨ k = 1 ∨ k = 2 ∨ k = 3 ∨ k = 4 ∨ k = 5 ∨ k = 6 ∨ k = 7 ∨ k = 8 ∨ k = 9 ∨ k = 10 ∨ k = 11 ∨ k = 12 ∨ k = 13 ∨ k = 14 ∨ k = 15 ∨ k = 16 ∨ k = 17 ∨ k = 18 ∨ k = 19 ∨ k = 20 ∨ k = 21 ∨ k = 22 ∨ k = 23 ∨ k = 24 ∨ k = 25 ∨ k = 26 ∨ k = 27 ∨ k = 28 ∨ k = 29 ∨ k = 30 ∨ k = 31 ∨ k = 32 ∨ k = 33 ∨ k = 34 ∨ k = 35 ∨ k = 36 by omega) with rfl | rfl | rfl | rfl | rfl | rfl | rfl | rfl | rfl | rfl | rfl | rfl | rfl | rfl | rfl | rfl | rfl | rfl | rfl | rfl | rfl | rfl | rfl | rfl | rfl | rfl | rfl | rfl | rfl | rfl | rfl | rfl | rfl | rfl | rfl | rfl | rfl
          · have hk3 := hk
            exact wpOp_plain rfl rfl (wp_move_v (ac.eval (.tmp 15)) rfl rfl ⟨hl2 0, (hF.put 0 80 (SP.is (.int .i64 0)) (ac.eval (.tmp 15)) (by rw [hD]; rfl) (((hF.keep 15 (by rw [hD]; rfl)).trans zs15)) (by rw [hD]; rfl) (by rw [hsz]; decide) (by rw [hl]; decide)), hb1, ra, rb⟩)
          · have hk3 := hk
            have ea := (hF.done 0 (80, SP.is (.int .i64 0)) (by rw [hD]; rfl) (ready_dep hk 0 (by kernel_rfl)))
            exact wpOp_plain rfl rfl (wp_neqint_v rfl ea rfl rfl ⟨hl2 1, (hF.put 1 81 (SP.is (.bool false)) (.bool false) (by rw [hD]; rfl) rfl (by rw [hD]; rfl) (by rw [hsz]; decide) (by rw [hl]; decide)), hb1, ra, rb⟩)
          · have hk3 := hk
            exact wpOp_plain rfl rfl (wp_move_v (ac.eval (.tmp 81)) rfl rfl ⟨hl2 2, (hF.put 2 82 (SP.is (.bool false)) (ac.eval (.tmp 81)) (by rw [hD]; rfl) ((hF.done 1 (81, SP.is (.bool false)) (by rw [hD]; rfl) (ready_dep hk 1 (by kernel_rfl)))) (by rw [hD]; rfl) (by rw [hsz]; decide) (by rw [hl]; decide)), hb1, ra, rb⟩)
          · have hk3 := hk
            exact wpOp_wanted rfl (wanted_g (g := 2) (b := false) rfl rfl (hF.done 2 (82, SP.is (.bool false)) (by rw [hD]; rfl) (ready_dep hk 2 (by kernel_rfl))) (by rw [hF.size, hsz]; decide)) (wp_move_v (ac.eval (.tmp 17)) rfl rfl ⟨hl2 3, (hF.put 3 83 (SP.is (.int .i64 0)) (ac.eval (.tmp 17)) (by rw [hD]; rfl) (((hF.keep 17 (by rw [hD]; rfl)).trans zs17)) (by rw [hD]; rfl) (by rw [hsz]; decide) (by rw [hl]; decide)), hb1, ra, rb⟩)
          · have hk3 := hk
            have ea := (hF.done 3 (83, SP.is (.int .i64 0)) (by rw [hD]; rfl) (ready_dep hk 3 (by kernel_rfl)))
            exact wpOp_wanted rfl (wanted_g (g := 2) (b := false) rfl rfl (hF.done 2 (82, SP.is (.bool false)) (by rw [hD]; rfl) (ready_dep hk 2 (by kernel_rfl))) (by rw [hF.size, hsz]; decide)) (wp_neqint_v rfl ea rfl rfl ⟨hl2 4, (hF.put 4 84 (SP.is (.bool false)) (.bool false) (by rw [hD]; rfl) rfl (by rw [hD]; rfl) (by rw [hsz]; decide) (by rw [hl]; decide)), hb1, ra, rb⟩)
          · have hk3 := hk
            have ea := (hF.done 2 (82, SP.is (.bool false)) (by rw [hD]; rfl) (ready_dep hk 2 (by kernel_rfl)))
            have eb := (hF.done 4 (84, SP.is (.bool false)) (by rw [hD]; rfl) (ready_dep hk 4 (by kernel_rfl)))
            exact wpOp_plain rfl rfl (wp_pick_f (.bool false) rfl ea eb ⟨hl2 5, (hF.put 5 85 (SP.is (.bool false)) (.bool false) (by rw [hD]; rfl) rfl (by rw [hD]; rfl) (by rw [hsz]; decide) (by rw [hl]; decide)), hb1, ra, rb⟩)
          · have hk3 := hk
            exact wpOp_plain rfl rfl (wp_move_v (ac.eval (.tmp 85)) rfl rfl ⟨hl2 6, (hF.put 6 86 (SP.is (.bool false)) (ac.eval (.tmp 85)) (by rw [hD]; rfl) ((hF.done 5 (85, SP.is (.bool false)) (by rw [hD]; rfl) (ready_dep hk 5 (by kernel_rfl)))) (by rw [hD]; rfl) (by rw [hsz]; decide) (by rw [hl]; decide)), hb1, ra, rb⟩)
          · have hk3 := hk
            exact wpOp_wanted rfl (wanted_g (g := 6) (b := false) rfl rfl (hF.done 6 (86, SP.is (.bool false)) (by rw [hD]; rfl) (ready_dep hk 6 (by kernel_rfl))) (by rw [hF.size, hsz]; decide)) (wp_move_v (ac.eval (.tmp 13)) rfl rfl ⟨hl2 7, (hF.put 7 87 (SP.is (.int .i64 (i : Int))) (ac.eval (.tmp 13)) (by rw [hD]; rfl) (((hF.keep 13 (by rw [hD]; rfl)).trans zs13)) (by rw [hD]; rfl) (by rw [hsz]; decide) (by rw [hl]; decide)), hb1, ra, rb⟩)
          · have hk3 := hk
            exact wpOp_wanted rfl (wanted_g (g := 6) (b := false) rfl rfl (hF.done 6 (86, SP.is (.bool false)) (by rw [hD]; rfl) (ready_dep hk 6 (by kernel_rfl))) (by rw [hF.size, hsz]; decide)) (wp_move_v (ac.eval (.tmp 12)) rfl rfl ⟨hl2 8, (hF.put 8 88 (SP.is (.int .i64 (fk : Int))) (ac.eval (.tmp 12)) (by rw [hD]; rfl) (((hF.keep 12 (by rw [hD]; rfl)).trans zs12)) (by rw [hD]; rfl) (by rw [hsz]; decide) (by rw [hl]; decide)), hb1, ra, rb⟩)
          · have hk3 := hk
            have ea := (hF.done 7 (87, SP.is (.int .i64 (i : Int))) (by rw [hD]; rfl) (ready_dep hk 7 (by kernel_rfl)))
            have eb := (hF.done 8 (88, SP.is (.int .i64 (fk : Int))) (by rw [hD]; rfl) (ready_dep hk 8 (by kernel_rfl)))
            exact wpOp_wanted rfl (wanted_g (g := 6) (b := false) rfl rfl (hF.done 6 (86, SP.is (.bool false)) (by rw [hD]; rfl) (ready_dep hk 6 (by kernel_rfl))) (by rw [hF.size, hsz]; decide)) (wp_leqJ rfl rfl (i : Int) (fk : Int) true ea eb HLE.out ⟨hl2 9, (hF.put 9 89 (SP.is (.bool true)) (.bool true) (by rw [hD]; rfl) rfl (by rw [hD]; rfl) (by rw [hsz]; decide) (by rw [hl]; decide)), hb1, ra, rb⟩)
          · have hk3 := hk
            exact wpOp_wanted rfl (wanted_g (g := 6) (b := false) rfl rfl (hF.done 6 (86, SP.is (.bool false)) (by rw [hD]; rfl) (ready_dep hk 6 (by kernel_rfl))) (by rw [hF.size, hsz]; decide)) (wp_move_v (ac.eval (.tmp 89)) rfl rfl ⟨hl2 10, (hF.put 10 90 (SP.is (.bool true)) (ac.eval (.tmp 89)) (by rw [hD]; rfl) ((hF.done 9 (89, SP.is (.bool true)) (by rw [hD]; rfl) (ready_dep hk 9 (by kernel_rfl)))) (by rw [hD]; rfl) (by rw [hsz]; decide) (by rw [hl]; decide)), hb1, ra, rb⟩)
          · have hk3 := hk
            exact wpOp_wanted rfl (wanted_g (g := 10) (b := true) rfl rfl (hF.done 10 (90, SP.is (.bool true)) (by rw [hD]; rfl) (ready_dep hk 10 (by kernel_rfl))) (by rw [hF.size, hsz]; decide)) (wp_load_mid 51 (.tmp 14) rfl ba 0 ((hF.keep 14 (by rw [hD]; rfl)).trans zs14) ((vB da)) _ ra.all Tryz.underlying51 rfl HIA.out ⟨hl2 11, (hF.put 11 91 (SP.is (.agg (vB da).toArray)) (.agg (vB da).toArray) (by rw [hD]; rfl) rfl (by rw [hD]; rfl) (by rw [hsz]; decide) (by rw [hl]; decide)), hb1, ra, rb⟩)
          · have hk3 := hk
            exact wpOp_wanted rfl (wanted_g (g := 10) (b := true) rfl rfl (hF.done 10 (90, SP.is (.bool true)) (by rw [hD]; rfl) (ready_dep hk 10 (by kernel_rfl))) (by rw [hF.size, hsz]; decide)) (wp_load_mid 51 (.tmp 16) rfl bb 0 ((hF.keep 16 (by rw [hD]; rfl)).trans zs16) ((vB db)) _ rb.all Tryz.underlying51 rfl HIB.out ⟨hl2 12, (hF.put 12 92 (SP.is (.agg (vB db).toArray)) (.agg (vB db).toArray) (by rw [hD]; rfl) rfl (by rw [hD]; rfl) (by rw [hsz]; decide) (by rw [hl]; decide)), hb1, ra, rb⟩)
          · have hk3 := hk
            have ea := (hF.done 11 (91, SP.is (.agg (vB da).toArray)) (by rw [hD]; rfl) (ready_dep hk 11 (by kernel_rfl)))
            have eb := (hF.done 12 (92, SP.is (.agg (vB db).toArray)) (by rw [hD]; rfl) (ready_dep hk 12 (by kernel_rfl)))
            exact wpOp_wanted rfl (wanted_g (g := 10) (b := true) rfl rfl (hF.done 10 (90, SP.is (.bool true)) (by rw [hD]; rfl) (ready_dep hk 10 (by kernel_rfl))) (by rw [hF.size, hsz]; decide)) (wp_neq_d 51 (.tmp 91) (.tmp 92) _ rfl 5 32 da db ea eb Tryz.underlying51 Tryz.underlying5 info_u8 HLA.out HLB.out guardDE false HDD.out ⟨hl2 13, (hF.put 13 93 (SP.is (.bool false)) (.bool false) (by rw [hD]; rfl) rfl (by rw [hD]; rfl) (by rw [hsz]; decide) (by rw [hl]; decide)), hb1, ra, rb⟩)
          · have hk3 := hk
            have ea := (hF.done 10 (90, SP.is (.bool true)) (by rw [hD]; rfl) (ready_dep hk 10 (by kernel_rfl)))
            have eb := (hF.done 13 (93, SP.is (.bool false)) (by rw [hD]; rfl) (ready_dep hk 13 (by kernel_rfl)))
            exact wpOp_wanted rfl (wanted_g (g := 6) (b := false) rfl rfl (hF.done 6 (86, SP.is (.bool false)) (by rw [hD]; rfl) (ready_dep hk 6 (by kernel_rfl))) (by rw [hF.size, hsz]; decide)) (wp_pick_v (.bool false) rfl ea eb ⟨hl2 14, (hF.put 14 94 (SP.is (.bool false)) (.bool false) (by rw [hD]; rfl) rfl (by rw [hD]; rfl) (by rw [hsz]; decide) (by rw [hl]; decide)), hb1, ra, rb⟩)
          · have hk3 := hk
            have ea := (hF.done 6 (86, SP.is (.bool false)) (by rw [hD]; rfl) (ready_dep hk 6 (by kernel_rfl)))
            have eb := (hF.done 14 (94, SP.is (.bool false)) (by rw [hD]; rfl) (ready_dep hk 14 (by kernel_rfl)))
            exact wpOp_plain rfl rfl (wp_pick_f (.bool false) rfl ea eb ⟨hl2 15, (hF.put 15 95 (SP.is (.bool false)) (.bool false) (by rw [hD]; rfl) rfl (by rw [hD]; rfl) (by rw [hsz]; decide) (by rw [hl]; decide)), hb1, ra, rb⟩)
          · have hk3 := hk
            exact wpOp_plain rfl rfl (wp_move_v (ac.eval (.tmp 95)) rfl rfl ⟨hl2 16, (hF.put 16 96 (SP.is (.bool false)) (ac.eval (.tmp 95)) (by rw [hD]; rfl) ((hF.done 15 (95, SP.is (.bool false)) (by rw [hD]; rfl) (ready_dep hk 15 (by kernel_rfl)))) (by rw [hD]; rfl) (by rw [hsz]; decide) (by rw [hl]; decide)), hb1, ra, rb⟩)
          · have hk3 := hk
            exact wpOp_wanted rfl (wanted_g (g := 16) (b := false) rfl rfl (hF.done 16 (96, SP.is (.bool false)) (by rw [hD]; rfl) (ready_dep hk 16 (by kernel_rfl))) (by rw [hF.size, hsz]; decide)) (wp_move_v (ac.eval (.tmp 13)) rfl rfl ⟨hl2 17, (hF.put 17 97 (SP.is (.int .i64 (i : Int))) (ac.eval (.tmp 13)) (by rw [hD]; rfl) (((hF.keep 13 (by rw [hD]; rfl)).trans zs13)) (by rw [hD]; rfl) (by rw [hsz]; decide) (by rw [hl]; decide)), hb1, ra, rb⟩)
          · have hk3 := hk
            exact wpOp_wanted rfl (wanted_g (g := 16) (b := false) rfl rfl (hF.done 16 (96, SP.is (.bool false)) (by rw [hD]; rfl) (ready_dep hk 16 (by kernel_rfl))) (by rw [hF.size, hsz]; decide)) (wp_move_v (ac.eval (.tmp 12)) rfl rfl ⟨hl2 18, (hF.put 18 98 (SP.is (.int .i64 (fk : Int))) (ac.eval (.tmp 12)) (by rw [hD]; rfl) (((hF.keep 12 (by rw [hD]; rfl)).trans zs12)) (by rw [hD]; rfl) (by rw [hsz]; decide) (by rw [hl]; decide)), hb1, ra, rb⟩)
          · have hk3 := hk
            have ea := (hF.done 17 (97, SP.is (.int .i64 (i : Int))) (by rw [hD]; rfl) (ready_dep hk 17 (by kernel_rfl)))
            have eb := (hF.done 18 (98, SP.is (.int .i64 (fk : Int))) (by rw [hD]; rfl) (ready_dep hk 18 (by kernel_rfl)))
            exact wpOp_wanted rfl (wanted_g (g := 16) (b := false) rfl rfl (hF.done 16 (96, SP.is (.bool false)) (by rw [hD]; rfl) (ready_dep hk 16 (by kernel_rfl))) (by rw [hF.size, hsz]; decide)) (wp_gtrJ rfl rfl (i : Int) (fk : Int) false ea eb HGT.out ⟨hl2 19, (hF.put 19 99 (SP.is (.bool false)) (.bool false) (by rw [hD]; rfl) rfl (by rw [hD]; rfl) (by rw [hsz]; decide) (by rw [hl]; decide)), hb1, ra, rb⟩)
          · have hk3 := hk
            exact wpOp_wanted rfl (wanted_g (g := 16) (b := false) rfl rfl (hF.done 16 (96, SP.is (.bool false)) (by rw [hD]; rfl) (ready_dep hk 16 (by kernel_rfl))) (by rw [hF.size, hsz]; decide)) (wp_move_v (ac.eval (.tmp 99)) rfl rfl ⟨hl2 20, (hF.put 20 100 (SP.is (.bool false)) (ac.eval (.tmp 99)) (by rw [hD]; rfl) ((hF.done 19 (99, SP.is (.bool false)) (by rw [hD]; rfl) (ready_dep hk 19 (by kernel_rfl)))) (by rw [hD]; rfl) (by rw [hsz]; decide) (by rw [hl]; decide)), hb1, ra, rb⟩)
          · have hk3 := hk
            exact wpOp_off rfl (unwanted_g (g := 20) (b := true) rfl rfl (hF.done 20 (100, SP.is (.bool false)) (by rw [hD]; rfl) (ready_dep hk 20 (by kernel_rfl))) (by rw [hF.size, hsz]; decide)) ⟨hl2 21, (hF.put 21 101 (SP.is (undef)) undef (by rw [hD]; rfl) rfl (by rw [hD]; rfl) (by rw [hsz]; decide) (by rw [hl]; decide)), hb1, ra, rb⟩
          · have hk3 := hk
            exact wpOp_off rfl (unwanted_g (g := 20) (b := true) rfl rfl (hF.done 20 (100, SP.is (.bool false)) (by rw [hD]; rfl) (ready_dep hk 20 (by kernel_rfl))) (by rw [hF.size, hsz]; decide)) ⟨hl2 22, (hF.put 22 102 (SP.is (undef)) undef (by rw [hD]; rfl) rfl (by rw [hD]; rfl) (by rw [hsz]; decide) (by rw [hl]; decide)), hb1, ra, rb⟩
          · have hk3 := hk
            exact wpOp_off rfl (unwanted_g (g := 20) (b := true) rfl rfl (hF.done 20 (100, SP.is (.bool false)) (by rw [hD]; rfl) (ready_dep hk 20 (by kernel_rfl))) (by rw [hF.size, hsz]; decide)) ⟨hl2 23, (hF.put 23 103 (SP.is (undef)) undef (by rw [hD]; rfl) rfl (by rw [hD]; rfl) (by rw [hsz]; decide) (by rw [hl]; decide)), hb1, ra, rb⟩
          · have hk3 := hk
            have ea := (hF.done 20 (100, SP.is (.bool false)) (by rw [hD]; rfl) (ready_dep hk 20 (by kernel_rfl)))
            exact wpOp_wanted rfl (wanted_g (g := 16) (b := false) rfl rfl (hF.done 16 (96, SP.is (.bool false)) (by rw [hD]; rfl) (ready_dep hk 16 (by kernel_rfl))) (by rw [hF.size, hsz]; decide)) (wp_pick_f (.bool false) rfl ea rfl ⟨hl2 24, (hF.put 24 104 (SP.is (.bool false)) (.bool false) (by rw [hD]; rfl) rfl (by rw [hD]; rfl) (by rw [hsz]; decide) (by rw [hl]; decide)), hb1, ra, rb⟩)
          · have hk3 := hk
            exact wpOp_wanted rfl (wanted_g (g := 16) (b := false) rfl rfl (hF.done 16 (96, SP.is (.bool false)) (by rw [hD]; rfl) (ready_dep hk 16 (by kernel_rfl))) (by rw [hF.size, hsz]; decide)) (wp_move_v (ac.eval (.tmp 104)) rfl rfl ⟨hl2 25, (hF.put 25 105 (SP.is (.bool false)) (ac.eval (.tmp 104)) (by rw [hD]; rfl) ((hF.done 24 (104, SP.is (.bool false)) (by rw [hD]; rfl) (ready_dep hk 24 (by kernel_rfl)))) (by rw [hD]; rfl) (by rw [hsz]; decide) (by rw [hl]; decide)), hb1, ra, rb⟩)
          · have hk3 := hk
            exact wpOp_off rfl (unwanted_g (g := 25) (b := true) rfl rfl (hF.done 25 (105, SP.is (.bool false)) (by rw [hD]; rfl) (ready_dep hk 25 (by kernel_rfl))) (by rw [hF.size, hsz]; decide)) ⟨hl2 26, (hF.put 26 106 (SP.is (undef)) undef (by rw [hD]; rfl) rfl (by rw [hD]; rfl) (by rw [hsz]; decide) (by rw [hl]; decide)), hb1, ra, rb⟩
          · have hk3 := hk
            exact wpOp_off rfl (unwanted_g (g := 25) (b := true) rfl rfl (hF.done 25 (105, SP.is (.bool false)) (by rw [hD]; rfl) (ready_dep hk 25 (by kernel_rfl))) (by rw [hF.size, hsz]; decide)) ⟨hl2 27, (hF.put 27 107 (SP.is (undef)) undef (by rw [hD]; rfl) rfl (by rw [hD]; rfl) (by rw [hsz]; decide) (by rw [hl]; decide)), hb1, ra, rb⟩
          · have hk3 := hk
            exact wpOp_off rfl (unwanted_g (g := 25) (b := true) rfl rfl (hF.done 25 (105, SP.is (.bool false)) (by rw [hD]; rfl) (ready_dep hk 25 (by kernel_rfl))) (by rw [hF.size, hsz]; decide)) ⟨hl2 28, (hF.put 28 108 (SP.is (undef)) undef (by rw [hD]; rfl) rfl (by rw [hD]; rfl) (by rw [hsz]; decide) (by rw [hl]; decide)), hb1, ra, rb⟩
          · have hk3 := hk
            exact wpOp_off rfl (unwanted_g (g := 25) (b := true) rfl rfl (hF.done 25 (105, SP.is (.bool false)) (by rw [hD]; rfl) (ready_dep hk 25 (by kernel_rfl))) (by rw [hF.size, hsz]; decide)) ⟨hl2 29, (hF.put 29 109 (SP.is (undef)) undef (by rw [hD]; rfl) rfl (by rw [hD]; rfl) (by rw [hsz]; decide) (by rw [hl]; decide)), hb1, ra, rb⟩
          · have hk3 := hk
            exact wpOp_off rfl (unwanted_g (g := 25) (b := true) rfl rfl (hF.done 25 (105, SP.is (.bool false)) (by rw [hD]; rfl) (ready_dep hk 25 (by kernel_rfl))) (by rw [hF.size, hsz]; decide)) ⟨hl2 30, (hF.put 30 110 (SP.is (undef)) undef (by rw [hD]; rfl) rfl (by rw [hD]; rfl) (by rw [hsz]; decide) (by rw [hl]; decide)), hb1, ra, rb⟩
          · have hk3 := hk
            exact wpOp_off rfl (unwanted_g (g := 25) (b := true) rfl rfl (hF.done 25 (105, SP.is (.bool false)) (by rw [hD]; rfl) (ready_dep hk 25 (by kernel_rfl))) (by rw [hF.size, hsz]; decide)) ⟨hl2 31, (hF.put 31 111 (SP.is (undef)) undef (by rw [hD]; rfl) rfl (by rw [hD]; rfl) (by rw [hsz]; decide) (by rw [hl]; decide)), hb1, ra, rb⟩
          · have hk3 := hk
            exact wpOp_off rfl (unwanted_g (g := 25) (b := true) rfl rfl (hF.done 25 (105, SP.is (.bool false)) (by rw [hD]; rfl) (ready_dep hk 25 (by kernel_rfl))) (by rw [hF.size, hsz]; decide)) ⟨hl2 32, (hF.put 32 112 (SP.is (undef)) undef (by rw [hD]; rfl) rfl (by rw [hD]; rfl) (by rw [hsz]; decide) (by rw [hl]; decide)), hb1, ra, rb⟩
          · have hk3 := hk
            exact wpOp_off rfl (unwanted_g (g := 25) (b := true) rfl rfl (hF.done 25 (105, SP.is (.bool false)) (by rw [hD]; rfl) (ready_dep hk 25 (by kernel_rfl))) (by rw [hF.size, hsz]; decide)) ⟨hl2 33, (hF.put 33 113 (SP.is (undef)) undef (by rw [hD]; rfl) rfl (by rw [hD]; rfl) (by rw [hsz]; decide) (by rw [hl]; decide)), hb1, ra, rb⟩
          · have hk3 := hk
            exact wpOp_off rfl (unwanted_g (g := 25) (b := true) rfl rfl (hF.done 25 (105, SP.is (.bool false)) (by rw [hD]; rfl) (ready_dep hk 25 (by kernel_rfl))) (by rw [hF.size, hsz]; decide)) ⟨hl2 34, (hF.put 34 114 (SP.is (undef)) undef (by rw [hD]; rfl) rfl (by rw [hD]; rfl) (by rw [hsz]; decide) (by rw [hl]; decide)), hb1, ra, rb⟩
          · have hk3 := hk
            have ea := (hF.done 25 (105, SP.is (.bool false)) (by rw [hD]; rfl) (ready_dep hk 25 (by kernel_rfl)))
            exact wpOp_wanted rfl (wanted_g (g := 16) (b := false) rfl rfl (hF.done 16 (96, SP.is (.bool false)) (by rw [hD]; rfl) (ready_dep hk 16 (by kernel_rfl))) (by rw [hF.size, hsz]; decide)) (wp_pick_f (.bool false) rfl ea rfl ⟨hl2 35, (hF.put 35 115 (SP.is (.bool false)) (.bool false) (by rw [hD]; rfl) rfl (by rw [hD]; rfl) (by rw [hsz]; decide) (by rw [hl]; decide)), hb1, ra, rb⟩)
          · have hk3 := hk
            have ea := (hF.done 16 (96, SP.is (.bool false)) (by rw [hD]; rfl) (ready_dep hk 16 (by kernel_rfl)))
            have eb := (hF.done 35 (115, SP.is (.bool false)) (by rw [hD]; rfl) (ready_dep hk 35 (by kernel_rfl)))
            exact wpOp_plain rfl rfl (wp_pick_f (.bool false) rfl ea eb ⟨hl2 36, (hF.put 36 116 (SP.is (.bool false)) (.bool false) (by rw [hD]; rfl) rfl (by rw [hD]; rfl) (by rw [hsz]; decide) (by rw [hl]; decide)), hb1, ra, rb⟩)
        · clear hb1 ra rb 
          intro listed ac W hI hr
          obtain ⟨hl, hF, hb1, ra, rb⟩ := hI
          have hall := all_listed (by kernel_rfl) hl hr
          have h80 : ac.eval (.tmp 80) = .int .i64 0 := hF.done 0 (80, SP.is (.int .i64 0)) (by rw [hD]; rfl) (hall 0 (by decide))
          have h81 : ac.eval (.tmp 81) = .bool false := hF.done 1 (81, SP.is (.bool false)) (by rw [hD]; rfl) (hall 1 (by decide))
          have h82 : ac.eval (.tmp 82) = .bool false := hF.done 2 (82, SP.is (.bool false)) (by rw [hD]; rfl) (hall 2 (by decide))
          have h83 : ac.eval (.tmp 83) = .int .i64 0 := hF.done 3 (83, SP.is (.int .i64 0)) (by rw [hD]; rfl) (hall 3 (by decide))
          have h84 : ac.eval (.tmp 84) = .bool false := hF.done 4 (84, SP.is (.bool false)) (by rw [hD]; rfl) (hall 4 (by decide))
          have h85 : ac.eval (.tmp 85) = .bool false := hF.done 5 (85, SP.is (.bool false)) (by rw [hD]; rfl) (hall 5 (by decide))
          have h86 : ac.eval (.tmp 86) = .bool false := hF.done 6 (86, SP.is (.bool false)) (by rw [hD]; rfl) (hall 6 (by decide))
          have h87 : ac.eval (.tmp 87) = .int .i64 (i : Int) := hF.done 7 (87, SP.is (.int .i64 (i : Int))) (by rw [hD]; rfl) (hall 7 (by decide))
          have h88 : ac.eval (.tmp 88) = .int .i64 (fk : Int) := hF.done 8 (88, SP.is (.int .i64 (fk : Int))) (by rw [hD]; rfl) (hall 8 (by decide))
          have h89 : ac.eval (.tmp 89) = .bool true := hF.done 9 (89, SP.is (.bool true)) (by rw [hD]; rfl) (hall 9 (by decide))
          have h90 : ac.eval (.tmp 90) = .bool true := hF.done 10 (90, SP.is (.bool true)) (by rw [hD]; rfl) (hall 10 (by decide))
          have h91 : ac.eval (.tmp 91) = .agg (vB da).toArray := hF.done 11 (91, SP.is (.agg (vB da).toArray)) (by rw [hD]; rfl) (hall 11 (by decide))
          have h92 : ac.eval (.tmp 92) = .agg (vB db).toArray := hF.done 12 (92, SP.is (.agg (vB db).toArray)) (by rw [hD]; rfl) (hall 12 (by decide))
          have h93 : ac.eval (.tmp 93) = .bool false := hF.done 13 (93, SP.is (.bool false)) (by rw [hD]; rfl) (hall 13 (by decide))
          have h94 : ac.eval (.tmp 94) = .bool false := hF.done 14 (94, SP.is (.bool false)) (by rw [hD]; rfl) (hall 14 (by decide))
          have h95 : ac.eval (.tmp 95) = .bool false := hF.done 15 (95, SP.is (.bool false)) (by rw [hD]; rfl) (hall 15 (by decide))
          have h96 : ac.eval (.tmp 96) = .bool false := hF.done 16 (96, SP.is (.bool false)) (by rw [hD]; rfl) (hall 16 (by decide))
          have h97 : ac.eval (.tmp 97) = .int .i64 (i : Int) := hF.done 17 (97, SP.is (.int .i64 (i : Int))) (by rw [hD]; rfl) (hall 17 (by decide))
          have h98 : ac.eval (.tmp 98) = .int .i64 (fk : Int) := hF.done 18 (98, SP.is (.int .i64 (fk : Int))) (by rw [hD]; rfl) (hall 18 (by decide))
          have h99 : ac.eval (.tmp 99) = .bool false := hF.done 19 (99, SP.is (.bool false)) (by rw [hD]; rfl) (hall 19 (by decide))
          have h100 : ac.eval (.tmp 100) = .bool false := hF.done 20 (100, SP.is (.bool false)) (by rw [hD]; rfl) (hall 20 (by decide))
          have h101 : ac.eval (.tmp 101) = undef := hF.done 21 (101, SP.is (undef)) (by rw [hD]; rfl) (hall 21 (by decide))
          have h102 : ac.eval (.tmp 102) = undef := hF.done 22 (102, SP.is (undef)) (by rw [hD]; rfl) (hall 22 (by decide))
          have h103 : ac.eval (.tmp 103) = undef := hF.done 23 (103, SP.is (undef)) (by rw [hD]; rfl) (hall 23 (by decide))
          have h104 : ac.eval (.tmp 104) = .bool false := hF.done 24 (104, SP.is (.bool false)) (by rw [hD]; rfl) (hall 24 (by decide))
          have h105 : ac.eval (.tmp 105) = .bool false := hF.done 25 (105, SP.is (.bool false)) (by rw [hD]; rfl) (hall 25 (by decide))
          have h106 : ac.eval (.tmp 106) = undef := hF.done 26 (106, SP.is (undef)) (by rw [hD]; rfl) (hall 26 (by decide))
          have h107 : ac.eval (.tmp 107) = undef := hF.done 27 (107, SP.is (undef)) (by rw [hD]; rfl) (hall 27 (by decide))
          have h108 : ac.eval (.tmp 108) = undef := hF.done 28 (108, SP.is (undef)) (by rw [hD]; rfl) (hall 28 (by decide))
          have h109 : ac.eval (.tmp 109) = undef := hF.done 29 (109, SP.is (undef)) (by rw [hD]; rfl) (hall 29 (by decide))
          have h110 : ac.eval (.tmp 110) = undef := hF.done 30 (110, SP.is (undef)) (by rw [hD]; rfl) (hall 30 (by decide))
          have h111 : ac.eval (.tmp 111) = undef := hF.done 31 (111, SP.is (undef)) (by rw [hD]; rfl) (hall 31 (by decide))
          have h112 : ac.eval (.tmp 112) = undef := hF.done 32 (112, SP.is (undef)) (by rw [hD]; rfl) (hall 32 (by decide))
          have h113 : ac.eval (.tmp 113) = undef := hF.done 33 (113, SP.is (undef)) (by rw [hD]; rfl) (hall 33 (by decide))
          have h114 : ac.eval (.tmp 114) = undef := hF.done 34 (114, SP.is (undef)) (by rw [hD]; rfl) (hall 34 (by decide))
          have h115 : ac.eval (.tmp 115) = .bool false := hF.done 35 (115, SP.is (.bool false)) (by rw [hD]; rfl) (hall 35 (by decide))
          have h116 : ac.eval (.tmp 116) = .bool false := hF.done 36 (116, SP.is (.bool false)) (by rw [hD]; rfl) (hall 36 (by decide))
          have ea := hF.lay [(80, .int .i64 0), (81, .bool false), (82, .bool false), (83, .int .i64 0), (84, .bool false), (85, .bool false), (86, .bool false), (87, .int .i64 (i : Int)), (88, .int .i64 (fk : Int)), (89, .bool true), (90, .bool true), (91, .agg (vB da).toArray), (92, .agg (vB db).toArray), (93, .bool false), (94, .bool false), (95, .bool false), (96, .bool false), (97, .int .i64 (i : Int)), (98, .int .i64 (fk : Int)), (99, .bool false), (100, .bool false), (101, undef), (102, undef), (103, undef), (104, .bool false), (105, .bool false), (106, undef), (107, undef), (108, undef), (109, undef), (110, undef), (111, undef), (112, undef), (113, undef), (114, undef), (115, .bool false), (116, .bool false)] (by rw [hD, hsz]; rfl) (by simp only [List.forall_mem_cons, List.not_mem_nil, false_implies, implies_true, and_true]; exact ⟨h80, h81, h82, h83, h84, h85, h86, h87, h88, h89, h90, h91, h92, h93, h94, h95, h96, h97, h98, h99, h100, h101, h102, h103, h104, h105, h106, h107, h108, h109, h110, h111, h112, h113, h114, h115, h116⟩)
          rw [ha0] at ea
          simp only [List.foldl_cons, List.foldl_nil, List.setIfInBounds_toArray, List.set_cons_zero, List.set_cons_succ] at ea
          clear hF hall hr hl hD  zs7 zs8 zs12 zs13 zs14 zs15 zs16 zs17 ha0 hsz h80 h81 h82 h83 h84 h85 h86 h87 h88 h89 h90 h91 h92 h93 h94 h95 h96 h97 h98 h99 h100 h101 h102 h103 h104 h105 h106 h107 h108 h109 h110 h111 h112 h113 h114 h115 h116
          subst ea
          have FS : Hid (S2 w W es fs A A' p p' v v' b5 KK) := T6.out.keep hb1
          clear hb1 ra rb T6
          go_wp2_with fail
          exact ⟨⟨i + 1, by have := HIN.out; omega, by go_num, FS⟩, by have := HIN.out; simp [intOf]; omega⟩
      · have HLE : Hid (decide ((i : Int) ≤ (fk : Int)) = false) := decide_eq_false (by omega)
        have HGT : Hid (decide ((fk : Int) < (i : Int)) = true) := decide_eq_true (by omega)
        by_cases hdd : da = db
        · have HDD : Hid (decide (da = db) = true) := decide_eq_true hdd
          have HCC : Hid (∀ W, Below Y6.heap.size Y6 W → Calls Tryz.prog 24 #[.agg (vB zK).toArray, .slice A i c, .slice A' i c'] W fun r w' => r = .returned (.bool true) ∧ Below W.heap.size W w') := fun W k => HCL.out W A A' c c' i zK (vB zK) true HIN.out (T6.out.keep k).be (T6.out.keep k).ea (T6.out.keep k).eb rfl rfl (HFG.out i HIN.out (by omega) (by rw [← HDE.out.1, ← HDE.out.2]; exact hdd))
          have HC1 : Hid (i ≤ c) := by show _ ≤ _; have := HCA.out; have := HIN.out; omega
          have HC2 : Hid (i ≤ c') := by show _ ≤ _; have := HCB.out; have := HIN.out; omega
          clear hif hdd
          refine wp_named fun a0 ha0 => ?_
          have hsz : a0.tmps.size = 183 := by rw [ha0]; rfl
          have zs7 : a0.eval (.tmp 7) = .slice A M1 c := by rw [ha0]; rfl
          have zs8 : a0.eval (.tmp 8) = .slice A' M2 c' := by rw [ha0]; rfl
          have zs12 : a0.eval (.tmp 12) = .int .i64 (fk : Int) := by rw [ha0]; rfl
          have zs13 : a0.eval (.tmp 13) = .int .i64 (i : Int) := by rw [ha0]; rfl
          have zs14 : a0.eval (.tmp 14) = .pointer (some ⟨ba, 0, none⟩) := by rw [ha0]; rfl
          have zs15 : a0.eval (.tmp 15) = .int .i64 0 := by rw [ha0]; rfl
          have zs16 : a0.eval (.tmp 16) = .pointer (some ⟨bb, 0, none⟩) := by rw [ha0]; rfl
          have zs17 : a0.eval (.tmp 17) = .int .i64 0 := by rw [ha0]; rfl
          obtain ⟨D, hD⟩ : ∃ D : List (Tmp × SP), D = [(80, SP.is (.int .i64 0)), (81, SP.is (.bool false)), (82, SP.is (.bool false)), (83, SP.is (.int .i64 0)), (84, SP.is (.bool false)), (85, SP.is (.bool false)), (86, SP.is (.bool false)), (87, SP.is (.int .i64 (i : Int))), (88, SP.is (.int .i64 (fk : Int))), (89, SP.is (.bool false)), (90, SP.is (.bool false)), (91, SP.is (undef)), (92, SP.is (undef)), (93, SP.is (undef)), (94, SP.is (.bool false)), (95, SP.is (.bool false)), (96, SP.is (.bool false)), (97, SP.is (.int .i64 (i : Int))), (98, SP.is (.int .i64 (fk : Int))), (99, SP.is (.bool true)), (100, SP.is (.bool true)), (101, SP.is (.agg (vB da).toArray)), (102, SP.is (.agg (vB db).toArray)), (103, SP.is (.bool true)), (104, SP.is (.bool true)), (105, SP.is (.bool true)), (106, SP.is (.agg (vB zK).toArray)), (107, SP.is (.slice A M1 c)), (108, SP.is (.int .i64 (i : Int))), (109, SP.is (.slice A i c)), (110, SP.is (.slice A' M2 c')), (111, SP.is (.int .i64 (i : Int))), (112, SP.is (.slice A' i c')), (113, SP.is (.bool true)), (114, SP.is (.bool false)), (115, SP.is (.bool false)), (116, SP.is (.bool false))] := ⟨_, rfl⟩
          refine wp_region_down (by kernel_rfl) (fun listed ac W => listed.size = 37 ∧ Fp D a0 listed ac W ∧ Below Y6.heap.size Y6 W ∧ Row W ba ((vB da)) 51 ∧ Row W bb ((vB db)) 51) ?_ ?_ ?_
          · exact ⟨by simp, Fp.start D a0 _ _, Below.drew hb1, Row.drew ra, Row.drew rb⟩
          · clear ha0 hb1 ra rb 
            intro listed ac W k hI hdn hk
            obtain ⟨hl, hF, hb1, ra, rb⟩ := hI
            have hk1 : k < 37 := List.mem_range.1 (List.mem_filter.1 hk).1
            have hl2 : ∀ j, (listed.setIfInBounds j true).size = 37 := fun j => by rw [Array.size_setIfInBounds]; exact hl
            rcases (show k = 0 ∨ k = 1 ∨ k = 2 ∨ k = 3 ∨ k = 4 ∨ k = 5 ∨ k = 6 ∨ k = 7 ∨ k = 8 ∨ k = 9 ∨ k = 10 ∨ k = 11 ∨ k = 12 ∨ k = 13 ∨ k = 14 ∨ k = 15 ∨ k = 16 ∨ k = 17 ∨ k = 18 ∨ k = 19 ∨ k = 20 ∨ k = 21 ∨ k = 22 ∨ k = 23 ∨ k = 24 ∨ k = 25 ∨ k = 26 ∨ k = 27 ∨ k = 28 ∨ k = 29 ∨ k = 30 ∨ k = 31 ∨ k = 32 ∨ k = 33 ∨ k = 34 ∨ k = 35 ∨ k = 36 by omega) with rfl | rfl | rfl | rfl | rfl | rfl | rfl | rfl | rfl | rfl | rfl | rfl | rfl | rfl | rfl | rfl | rfl | rfl | rfl | rfl | rfl | rfl | rfl | rfl | rfl | rfl | rfl | rfl | rfl | rfl | rfl | rfl | rfl | rfl | rfl | rfl | rfl
            · have hk3 := hk
              exact wpOp_plain rfl rfl (wp_move_v (ac.eval (.tmp 15)) rfl rfl ⟨hl2 0, (hF.put 0 80 (SP.is (.int .i64 0)) (ac.eval (.tmp 15)) (by rw [hD]; rfl) (((hF.keep 15 (by rw [hD]; rfl)).trans zs15)) (by rw [hD]; rfl) (by rw [hsz]; decide) (by rw [hl]; decide)), hb1, ra, rb⟩)
            · have hk3 := hk
              have ea := (hF.done 0 (80, SP.is (.int .i64 0)) (by rw [hD]; rfl) (ready_dep hk 0 (by kernel_rfl)))
              exact wpOp_plain rfl rfl (wp_neqint_v rfl ea rfl rfl ⟨hl2 1, (hF.put 1 81 (SP.is (.bool false)) (.bool false) (by rw [hD]; rfl) rfl (by rw [hD]; rfl) (by rw [hsz]; decide) (by rw [hl]; decide)), hb1, ra, rb⟩)
            · have hk3 := hk
              exact wpOp_plain rfl rfl (wp_move_v (ac.eval (.tmp 81)) rfl rfl ⟨hl2 2, (hF.put 2 82 (SP.is (.bool false)) (ac.eval (.tmp 81)) (by rw [hD]; rfl) ((hF.done 1 (81, SP.is (.bool false)) (by rw [hD]; rfl) (ready_dep hk 1 (by kernel_rfl)))) (by rw [hD]; rfl) (by rw [hsz]; decide) (by rw [hl]; decide)), hb1, ra, rb⟩)
            · have hk3 := hk
              exact wpOp_wanted rfl (wanted_g (g := 2) (b := false) rfl rfl (hF.done 2 (82, SP.is (.bool false)) (by rw [hD]; rfl) (ready_dep hk 2 (by kernel_rfl))) (by rw [hF.size, hsz]; decide)) (wp_move_v (ac.eval (.tmp 17)) rfl rfl ⟨hl2 3, (hF.put 3 83 (SP.is (.int .i64 0)) (ac.eval (.tmp 17)) (by rw [hD]; rfl) (((hF.keep 17 (by rw [hD]; rfl)).trans zs17)) (by rw [hD]; rfl) (by rw [hsz]; decide) (by rw [hl]; decide)), hb1, ra, rb⟩)
            · have hk3 := hk
              have ea := (hF.done 3 (83, SP.is (.int .i64 0)) (by rw [hD]; rfl) (ready_dep hk 3 (by kernel_rfl)))
              exact wpOp_wanted rfl (wanted_g (g := 2) (b := false) rfl rfl (hF.done 2 (82, SP.is (.bool false)) (by rw [hD]; rfl) (ready_dep hk 2 (by kernel_rfl))) (by rw [hF.size, hsz]; decide)) (wp_neqint_v rfl ea rfl rfl ⟨hl2 4, (hF.put 4 84 (SP.is (.bool false)) (.bool false) (by rw [hD]; rfl) rfl (by rw [hD]; rfl) (by rw [hsz]; decide) (by rw [hl]; decide)), hb1, ra, rb⟩)
            · have hk3 := hk
              have ea := (hF.done 2 (82, SP.is (.bool false)) (by rw [hD]; rfl) (ready_dep hk 2 (by kernel_rfl)))
              have eb := (hF.done 4 (84, SP.is (.bool false)) (by rw [hD]; rfl) (ready_dep hk 4 (by kernel_rfl)))
              exact wpOp_plain rfl rfl (wp_pick_f (.bool false) rfl ea eb ⟨hl2 5, (hF.put 5 85 (SP.is (.bool false)) (.bool false) (by rw [hD]; rfl) rfl (by rw [hD]; rfl) (by rw [hsz]; decide) (by rw [hl]; decide)), hb1, ra, rb⟩)
            · have hk3 := hk
              exact wpOp_plain rfl rfl (wp_move_v (ac.eval (.tmp 85)) rfl rfl ⟨hl2 6, (hF.put 6 86 (SP.is (.bool false)) (ac.eval (.tmp 85)) (by rw [hD]; rfl) ((hF.done 5 (85, SP.is (.bool false)) (by rw [hD]; rfl) (ready_dep hk 5 (by kernel_rfl)))) (by rw [hD]; rfl) (by rw [hsz]; decide) (by rw [hl]; decide)), hb1, ra, rb⟩)
            · have hk3 := hk
              exact wpOp_wanted rfl (wanted_g (g := 6) (b := false) rfl rfl (hF.done 6 (86, SP.is (.bool false)) (by rw [hD]; rfl) (ready_dep hk 6 (by kernel_rfl))) (by rw [hF.size, hsz]; decide)) (wp_move_v (ac.eval (.tmp 13)) rfl rfl ⟨hl2 7, (hF.put 7 87 (SP.is (.int .i64 (i : Int))) (ac.eval (.tmp 13)) (by rw [hD]; rfl) (((hF.keep 13 (by rw [hD]; rfl)).trans zs13)) (by rw [hD]; rfl) (by rw [hsz]; decide) (by rw [hl]; decide)), hb1, ra, rb⟩)
            · have hk3 := hk
              exact wpOp_wanted rfl (wanted_g (g := 6) (b := false) rfl rfl (hF.done 6 (86, SP.is (.bool false)) (by rw [hD]; rfl) (ready_dep hk 6 (by kernel_rfl))) (by rw [hF.size, hsz]; decide)) (wp_move_v (ac.eval (.tmp 12)) rfl rfl ⟨hl2 8, (hF.put 8 88 (SP.is (.int .i64 (fk : Int))) (ac.eval (.tmp 12)) (by rw [hD]; rfl) (((hF.keep 12 (by rw [hD]; rfl)).trans zs12)) (by rw [hD]; rfl) (by rw [hsz]; decide) (by rw [hl]; decide)), hb1, ra, rb⟩)
            · have hk3 := hk
              have ea := (hF.done 7 (87, SP.is (.int .i64 (i : Int))) (by rw [hD]; rfl) (ready_dep hk 7 (by kernel_rfl)))
              have eb := (hF.done 8 (88, SP.is (.int .i64 (fk : Int))) (by rw [hD]; rfl) (ready_dep hk 8 (by kernel_rfl)))
              exact wpOp_wanted rfl (wanted_g (g := 6) (b := false) rfl rfl (hF.done 6 (86, SP.is (.bool false)) (by rw [hD]; rfl) (ready_dep hk 6 (by kernel_rfl))) (by rw [hF.size, hsz]; decide)) (wp_leqJ rfl rfl (i : Int) (fk : Int) false ea eb HLE.out ⟨hl2 9, (hF.put 9 89 (SP.is (.bool false)) (.bool false) (by rw [hD]; rfl) rfl (by rw [hD]; rfl) (by rw [hsz]; decide) (by rw [hl]; decide)), hb1, ra, rb⟩)
            · have hk3 := hk
              exact wpOp_wanted rfl (wanted_g (g := 6) (b := false) rfl rfl (hF.done 6 (86, SP.is (.bool false)) (by rw [hD]; rfl) (ready_dep hk 6 (by kernel_rfl))) (by rw [hF.size, hsz]; decide)) (wp_move_v (ac.eval (.tmp 89)) rfl rfl ⟨hl2 10, (hF.put 10 90 (SP.is (.bool false)) (ac.eval (.tmp 89)) (by rw [hD]; rfl) ((hF.done 9 (89, SP.is (.bool false)) (by rw [hD]; rfl) (ready_dep hk 9 (by kernel_rfl)))) (by rw [hD]; rfl) (by rw [hsz]; decide) (by rw [hl]; decide)), hb1, ra, rb⟩)
            · have hk3 := hk
              exact wpOp_off rfl (unwanted_g (g := 10) (b := true) rfl rfl (hF.done 10 (90, SP.is (.bool false)) (by rw [hD]; rfl) (ready_dep hk 10 (by kernel_rfl))) (by rw [hF.size, hsz]; decide)) ⟨hl2 11, (hF.put 11 91 (SP.is (undef)) undef (by rw [hD]; rfl) rfl (by rw [hD]; rfl) (by rw [hsz]; decide) (by rw [hl]; decide)), hb1, ra, rb⟩
            · have hk3 := hk
              exact wpOp_off rfl (unwanted_g (g := 10) (b := true) rfl rfl (hF.done 10 (90, SP.is (.bool false)) (by rw [hD]; rfl) (ready_dep hk 10 (by kernel_rfl))) (by rw [hF.size, hsz]; decide)) ⟨hl2 12, (hF.put 12 92 (SP.is (undef)) undef (by rw [hD]; rfl) rfl (by rw [hD]; rfl) (by rw [hsz]; decide) (by rw [hl]; decide)), hb1, ra, rb⟩
            · have hk3 := hk
              exact wpOp_off rfl (unwanted_g (g := 10) (b := true) rfl rfl (hF.done 10 (90, SP.is (.bool false)) (by rw [hD]; rfl) (ready_dep hk 10 (by kernel_rfl))) (by rw [hF.size, hsz]; decide)) ⟨hl2 13, (hF.put 13 93 (SP.is (undef)) undef (by rw [hD]; rfl) rfl (by rw [hD]; rfl) (by rw [hsz]; decide) (by rw [hl]; decide)), hb1, ra, rb⟩
            · have hk3 := hk
              have ea := (hF.done 10 (90, SP.is (.bool false)) (by rw [hD]; rfl) (ready_dep hk 10 (by kernel_rfl)))
              exact wpOp_wanted rfl (wanted_g (g := 6) (b := false) rfl rfl (hF.done 6 (86, SP.is (.bool false)) (by rw [hD]; rfl) (ready_dep hk 6 (by kernel_rfl))) (by rw [hF.size, hsz]; decide)) (wp_pick_f (.bool false) rfl ea rfl ⟨hl2 14, (hF.put 14 94 (SP.is (.bool false)) (.bool false) (by rw [hD]; rfl) rfl (by rw [hD]; rfl) (by rw [hsz]; decide) (by rw [hl]; decide)), hb1, ra, rb⟩)
            · have hk3 := hk
              have ea := (hF.done 6 (86, SP.is (.bool false)) (by rw [hD]; rfl) (ready_dep hk 6 (by kernel_rfl)))
              have eb := (hF.done 14 (94, SP.is (.bool false)) (by rw [hD]; rfl) (ready_dep hk 14 (by kernel_rfl)))
              exact wpOp_plain rfl rfl (wp_pick_f (.bool false) rfl ea eb ⟨hl2 15, (hF.put 15 95 (SP.is (.bool false)) (.bool false) (by rw [hD]; rfl) rfl (by rw [hD]; rfl) (by rw [hsz]; decide) (by rw [hl]; decide)), hb1, ra, rb⟩)
            · have hk3 := hk
              exact wpOp_plain rfl rfl (wp_move_v (ac.eval (.tmp 95)) rfl rfl ⟨hl2 16, (hF.put 16 96 (SP.is (.bool false)) (ac.eval (.tmp 95)) (by rw [hD]; rfl) ((hF.done 15 (95, SP.is (.bool false)) (by rw [hD]; rfl) (ready_dep hk 15 (by kernel_rfl)))) (by rw [hD]; rfl) (by rw [hsz]; decide) (by rw [hl]; decide)), hb1, ra, rb⟩)
            · have hk3 := hk
              exact wpOp_wanted rfl (wanted_g (g := 16) (b := false) rfl rfl (hF.done 16 (96, SP.is (.bool false)) (by rw [hD]; rfl) (ready_dep hk 16 (by kernel_rfl))) (by rw [hF.size, hsz]; decide)) (wp_move_v (ac.eval (.tmp 13)) rfl rfl ⟨hl2 17, (hF.put 17 97 (SP.is (.int .i64 (i : Int))) (ac.eval (.tmp 13)) (by rw [hD]; rfl) (((hF.keep 13 (by rw [hD]; rfl)).trans zs13)) (by rw [hD]; rfl) (by rw [hsz]; decide) (by rw [hl]; decide)), hb1, ra, rb⟩)
            · have hk3 := hk
              exact wpOp_wanted rfl (wanted_g (g := 16) (b := false) rfl rfl (hF.done 16 (96, SP.is (.bool false)) (by rw [hD]; rfl) (ready_dep hk 16 (by kernel_rfl))) (by rw [hF.size, hsz]; decide)) (wp_move_v (ac.eval (.tmp 12)) rfl rfl ⟨hl2 18, (hF.put 18 98 (SP.is (.int .i64 (fk : Int))) (ac.eval (.tmp 12)) (by rw [hD]; rfl) (((hF.keep 12 (by rw [hD]; rfl)).trans zs12)) (by rw [hD]; rfl) (by rw [hsz]; decide) (by rw [hl]; decide)), hb1, ra, rb⟩)
            · have hk3 := hk
              have ea := (hF.done 17 (97, SP.is (.int .i64 (i : Int))) (by rw [hD]; rfl) (ready_dep hk 17 (by kernel_rfl)))
              have eb := (hF.done 18 (98, SP.is (.int .i64 (fk : Int))) (by rw [hD]; rfl) (ready_dep hk 18 (by kernel_rfl)))
              exact wpOp_wanted rfl (wanted_g (g := 16) (b := false) rfl rfl (hF.done 16 (96, SP.is (.bool false)) (by rw [hD]; rfl) (ready_dep hk 16 (by kernel_rfl))) (by rw [hF.size, hsz]; decide)) (wp_gtrJ rfl rfl (i : Int) (fk : Int) true ea eb HGT.out ⟨hl2 19, (hF.put 19 99 (SP.is (.bool true)) (.bool true) (by rw [hD]; rfl) rfl (by rw [hD]; rfl) (by rw [hsz]; decide) (by rw [hl]; decide)), hb1, ra, rb⟩)
            · have hk3 := hk
              exact wpOp_wanted rfl (wanted_g (g := 16) (b := false) rfl rfl (hF.done 16 (96, SP.is (.bool false)) (by rw [hD]; rfl) (ready_dep hk 16 (by kernel_rfl))) (by rw [hF.size, hsz]; decide)) (wp_move_v (ac.eval (.tmp 99)) rfl rfl ⟨hl2 20, (hF.put 20 100 (SP.is (.bool true)) (ac.eval (.tmp 99)) (by rw [hD]; rfl) ((hF.done 19 (99, SP.is (.bool true)) (by rw [hD]; rfl) (ready_dep hk 19 (by kernel_rfl)))) (by rw [hD]; rfl) (by rw [hsz]; decide) (by rw [hl]; decide)), hb1, ra, rb⟩)
            · have hk3 := hk
              exact wpOp_wanted rfl (wanted_g (g := 20) (b := true) rfl rfl (hF.done 20 (100, SP.is (.bool true)) (by rw [hD]; rfl) (ready_dep hk 20 (by kernel_rfl))) (by rw [hF.size, hsz]; decide)) (wp_load_mid 51 (.tmp 14) rfl ba 0 ((hF.keep 14 (by rw [hD]; rfl)).trans zs14) ((vB da)) _ ra.all Tryz.underlying51 rfl HIA.out ⟨hl2 21, (hF.put 21 101 (SP.is (.agg (vB da).toArray)) (.agg (vB da).toArray) (by rw [hD]; rfl) rfl (by rw [hD]; rfl) (by rw [hsz]; decide) (by rw [hl]; decide)), hb1, ra, rb⟩)
            · have hk3 := hk
              exact wpOp_wanted rfl (wanted_g (g := 20) (b := true) rfl rfl (hF.done 20 (100, SP.is (.bool true)) (by rw [hD]; rfl) (ready_dep hk 20 (by kernel_rfl))) (by rw [hF.size, hsz]; decide)) (wp_load_mid 51 (.tmp 16) rfl bb 0 ((hF.keep 16 (by rw [hD]; rfl)).trans zs16) ((vB db)) _ rb.all Tryz.underlying51 rfl HIB.out ⟨hl2 22, (hF.put 22 102 (SP.is (.agg (vB db).toArray)) (.agg (vB db).toArray) (by rw [hD]; rfl) rfl (by rw [hD]; rfl) (by rw [hsz]; decide) (by rw [hl]; decide)), hb1, ra, rb⟩)
            · have hk3 := hk
              have ea := (hF.done 21 (101, SP.is (.agg (vB da).toArray)) (by rw [hD]; rfl) (ready_dep hk 21 (by kernel_rfl)))
              have eb := (hF.done 22 (102, SP.is (.agg (vB db).toArray)) (by rw [hD]; rfl) (ready_dep hk 22 (by kernel_rfl)))
              exact wpOp_wanted rfl (wanted_g (g := 20) (b := true) rfl rfl (hF.done 20 (100, SP.is (.bool true)) (by rw [hD]; rfl) (ready_dep hk 20 (by kernel_rfl))) (by rw [hF.size, hsz]; decide)) (wp_eql_b 51 (.tmp 101) (.tmp 102) _ rfl 5 32 da db ea eb Tryz.underlying51 Tryz.underlying5 info_u8 HLA.out HLB.out guardDE true HDD.out ⟨hl2 23, (hF.put 23 103 (SP.is (.bool true)) (.bool true) (by rw [hD]; rfl) rfl (by rw [hD]; rfl) (by rw [hsz]; decide) (by rw [hl]; decide)), hb1, ra, rb⟩)
            · have hk3 := hk
              have ea := (hF.done 20 (100, SP.is (.bool true)) (by rw [hD]; rfl) (ready_dep hk 20 (by kernel_rfl)))
              have eb := (hF.done 23 (103, SP.is (.bool true)) (by rw [hD]; rfl) (ready_dep hk 23 (by kernel_rfl)))
              exact wpOp_wanted rfl (wanted_g (g := 16) (b := false) rfl rfl (hF.done 16 (96, SP.is (.bool false)) (by rw [hD]; rfl) (ready_dep hk 16 (by kernel_rfl))) (by rw [hF.size, hsz]; decide)) (wp_pick_v (.bool true) rfl ea eb ⟨hl2 24, (hF.put 24 104 (SP.is (.bool true)) (.bool true) (by rw [hD]; rfl) rfl (by rw [hD]; rfl) (by rw [hsz]; decide) (by rw [hl]; decide)), hb1, ra, rb⟩)
            · have hk3 := hk
              exact wpOp_wanted rfl (wanted_g (g := 16) (b := false) rfl rfl (hF.done 16 (96, SP.is (.bool false)) (by rw [hD]; rfl) (ready_dep hk 16 (by kernel_rfl))) (by rw [hF.size, hsz]; decide)) (wp_move_v (ac.eval (.tmp 104)) rfl rfl ⟨hl2 25, (hF.put 25 105 (SP.is (.bool true)) (ac.eval (.tmp 104)) (by rw [hD]; rfl) ((hF.done 24 (104, SP.is (.bool true)) (by rw [hD]; rfl) (ready_dep hk 24 (by kernel_rfl)))) (by rw [hD]; rfl) (by rw [hsz]; decide) (by rw [hl]; decide)), hb1, ra, rb⟩)
            · have hk3 := hk
              exact wpOp_wanted rfl (wanted_g (g := 25) (b := true) rfl rfl (hF.done 25 (105, SP.is (.bool true)) (by rw [hD]; rfl) (ready_dep hk 25 (by kernel_rfl))) (by rw [hF.size, hsz]; decide)) (wp_bD0 rfl ⟨hl2 26, (hF.put 26 106 (SP.is (.agg (vB zK).toArray)) (.agg (vB zK).toArray) (by rw [hD]; rfl) rfl (by rw [hD]; rfl) (by rw [hsz]; decide) (by rw [hl]; decide)), hb1, ra, rb⟩)
            · have hk3 := hk
              exact wpOp_wanted rfl (wanted_g (g := 25) (b := true) rfl rfl (hF.done 25 (105, SP.is (.bool true)) (by rw [hD]; rfl) (ready_dep hk 25 (by kernel_rfl))) (by rw [hF.size, hsz]; decide)) (wp_move_v (ac.eval (.tmp 7)) rfl rfl ⟨hl2 27, (hF.put 27 107 (SP.is (.slice A M1 c)) (ac.eval (.tmp 7)) (by rw [hD]; rfl) (((hF.keep 7 (by rw [hD]; rfl)).trans zs7)) (by rw [hD]; rfl) (by rw [hsz]; decide) (by rw [hl]; decide)), hb1, ra, rb⟩)
            · have hk3 := hk
              exact wpOp_wanted rfl (wanted_g (g := 25) (b := true) rfl rfl (hF.done 25 (105, SP.is (.bool true)) (by rw [hD]; rfl) (ready_dep hk 25 (by kernel_rfl))) (by rw [hF.size, hsz]; decide)) (wp_move_v (ac.eval (.tmp 13)) rfl rfl ⟨hl2 28, (hF.put 28 108 (SP.is (.int .i64 (i : Int))) (ac.eval (.tmp 13)) (by rw [hD]; rfl) (((hF.keep 13 (by rw [hD]; rfl)).trans zs13)) (by rw [hD]; rfl) (by rw [hsz]; decide) (by rw [hl]; decide)), hb1, ra, rb⟩)
            · have hk3 := hk
              have ea := (hF.done 27 (107, SP.is (.slice A M1 c)) (by rw [hD]; rfl) (ready_dep hk 27 (by kernel_rfl)))
              have eb := (hF.done 28 (108, SP.is (.int .i64 (i : Int))) (by rw [hD]; rfl) (ready_dep hk 28 (by kernel_rfl)))
              exact wpOp_wanted rfl (wanted_g (g := 25) (b := true) rfl rfl (hF.done 25 (105, SP.is (.bool true)) (by rw [hD]; rfl) (ready_dep hk 25 (by kernel_rfl))) (by rw [hF.size, hsz]; decide)) (wp_cutTo 52 46 (.tmp 107) (.tmp 108) A M1 c i 49 rfl ea eb HC1.out Tryz.underlying52 info_ent ⟨hl2 29, (hF.put 29 109 (SP.is (.slice A i c)) (.slice A i c) (by rw [hD]; rfl) rfl (by rw [hD]; rfl) (by rw [hsz]; decide) (by rw [hl]; decide)), hb1, ra, rb⟩)
            · have hk3 := hk
              exact wpOp_wanted rfl (wanted_g (g := 25) (b := true) rfl rfl (hF.done 25 (105, SP.is (.bool true)) (by rw [hD]; rfl) (ready_dep hk 25 (by kernel_rfl))) (by rw [hF.size, hsz]; decide)) (wp_move_v (ac.eval (.tmp 8)) rfl rfl ⟨hl2 30, (hF.put 30 110 (SP.is (.slice A' M2 c')) (ac.eval (.tmp 8)) (by rw [hD]; rfl) (((hF.keep 8 (by rw [hD]; rfl)).trans zs8)) (by rw [hD]; rfl) (by rw [hsz]; decide) (by rw [hl]; decide)), hb1, ra, rb⟩)
            · have hk3 := hk
              exact wpOp_wanted rfl (wanted_g (g := 25) (b := true) rfl rfl (hF.done 25 (105, SP.is (.bool true)) (by rw [hD]; rfl) (ready_dep hk 25 (by kernel_rfl))) (by rw [hF.size, hsz]; decide)) (wp_move_v (ac.eval (.tmp 13)) rfl rfl ⟨hl2 31, (hF.put 31 111 (SP.is (.int .i64 (i : Int))) (ac.eval (.tmp 13)) (by rw [hD]; rfl) (((hF.keep 13 (by rw [hD]; rfl)).trans zs13)) (by rw [hD]; rfl) (by rw [hsz]; decide) (by rw [hl]; decide)), hb1, ra, rb⟩)
            · have hk3 := hk
              have ea := (hF.done 30 (110, SP.is (.slice A' M2 c')) (by rw [hD]; rfl) (ready_dep hk 30 (by kernel_rfl)))
              have eb := (hF.done 31 (111, SP.is (.int .i64 (i : Int))) (by rw [hD]; rfl) (ready_dep hk 31 (by kernel_rfl)))
              exact wpOp_wanted rfl (wanted_g (g := 25) (b := true) rfl rfl (hF.done 25 (105, SP.is (.bool true)) (by rw [hD]; rfl) (ready_dep hk 25 (by kernel_rfl))) (by rw [hF.size, hsz]; decide)) (wp_cutTo 52 46 (.tmp 110) (.tmp 111) A' M2 c' i 49 rfl ea eb HC2.out Tryz.underlying52 info_ent ⟨hl2 32, (hF.put 32 112 (SP.is (.slice A' i c')) (.slice A' i c') (by rw [hD]; rfl) rfl (by rw [hD]; rfl) (by rw [hsz]; decide) (by rw [hl]; decide)), hb1, ra, rb⟩)
            · have hk3 := hk
              have e106 := (hF.done 26 (106, SP.is (.agg (vB zK).toArray)) (by rw [hD]; rfl) (ready_dep hk 26 (by kernel_rfl)))
              have e109 := (hF.done 29 (109, SP.is (.slice A i c)) (by rw [hD]; rfl) (ready_dep hk 29 (by kernel_rfl)))
              have e112 := (hF.done 32 (112, SP.is (.slice A' i c')) (by rw [hD]; rfl) (ready_dep hk 32 (by kernel_rfl)))
              refine wpOp_wanted rfl (wanted_g (g := 25) (b := true) rfl rfl (hF.done 25 (105, SP.is (.bool true)) (by rw [hD]; rfl) (ready_dep hk 25 (by kernel_rfl))) (by rw [hF.size, hsz]; decide)) (wp_fcall_v 24 #[.agg (vB zK).toArray, .slice A i c, .slice A' i c'] rfl rfl (by show [ac.eval (.tmp 106), ac.eval (.tmp 109), ac.eval (.tmp 112)] = _; rw [show ac.eval (.tmp 106) = _ from e106, show ac.eval (.tmp 109) = _ from e109, show ac.eval (.tmp 112) = _ from e112]) (by go_simp) ((HCC.out W hb1).mono ?_))
              rintro e W2 ⟨rfl, hB⟩
              exact ⟨_, rfl, hl2 33, ((hF.world hB).put 33 113 (SP.is (.bool true)) (.bool true) (by rw [hD]; rfl) rfl (by rw [hD]; rfl) (by rw [hsz]; decide) (by rw [hl]; decide)), hb1.trans (hB.mono hb1.size), Row.below ra hB (Row.lt ra), Row.below rb hB (Row.lt rb)⟩
            · have hk3 := hk
              have ea := (hF.done 33 (113, SP.is (.bool true)) (by rw [hD]; rfl) (ready_dep hk 33 (by kernel_rfl)))
              exact wpOp_wanted rfl (wanted_g (g := 25) (b := true) rfl rfl (hF.done 25 (105, SP.is (.bool true)) (by rw [hD]; rfl) (ready_dep hk 25 (by kernel_rfl))) (by rw [hF.size, hsz]; decide)) (wp_notT true rfl ea ⟨hl2 34, (hF.put 34 114 (SP.is (.bool false)) (.bool false) (by rw [hD]; rfl) rfl (by rw [hD]; rfl) (by rw [hsz]; decide) (by rw [hl]; decide)), hb1, ra, rb⟩)
            · have hk3 := hk
              have ea := (hF.done 25 (105, SP.is (.bool true)) (by rw [hD]; rfl) (ready_dep hk 25 (by kernel_rfl)))
              have eb := (hF.done 34 (114, SP.is (.bool false)) (by rw [hD]; rfl) (ready_dep hk 34 (by kernel_rfl)))
              exact wpOp_wanted rfl (wanted_g (g := 16) (b := false) rfl rfl (hF.done 16 (96, SP.is (.bool false)) (by rw [hD]; rfl) (ready_dep hk 16 (by kernel_rfl))) (by rw [hF.size, hsz]; decide)) (wp_pick_v (.bool false) rfl ea eb ⟨hl2 35, (hF.put 35 115 (SP.is (.bool false)) (.bool false) (by rw [hD]; rfl) rfl (by rw [hD]; rfl) (by rw [hsz]; decide) (by rw [hl]; decide)), hb1, ra, rb⟩)
            · have hk3 := hk
              have ea := (hF.done 16 (96, SP.is (.bool false)) (by rw [hD]; rfl) (ready_dep hk 16 (by kernel_rfl)))
              have eb := (hF.done 35 (115, SP.is (.bool false)) (by rw [hD]; rfl) (ready_dep hk 35 (by kernel_rfl)))
              exact wpOp_plain rfl rfl (wp_pick_f (.bool false) rfl ea eb ⟨hl2 36, (hF.put 36 116 (SP.is (.bool false)) (.bool false) (by rw [hD]; rfl) rfl (by rw [hD]; rfl) (by rw [hsz]; decide) (by rw [hl]; decide)), hb1, ra, rb⟩)
          · clear hb1 ra rb 
            intro listed ac W hI hr
            obtain ⟨hl, hF, hb1, ra, rb⟩ := hI
            have hall := all_listed (by kernel_rfl) hl hr
            have h80 : ac.eval (.tmp 80) = .int .i64 0 := hF.done 0 (80, SP.is (.int .i64 0)) (by rw [hD]; rfl) (hall 0 (by decide))
            have h81 : ac.eval (.tmp 81) = .bool false := hF.done 1 (81, SP.is (.bool false)) (by rw [hD]; rfl) (hall 1 (by decide))
            have h82 : ac.eval (.tmp 82) = .bool false := hF.done 2 (82, SP.is (.bool false)) (by rw [hD]; rfl) (hall 2 (by decide))
            have h83 : ac.eval (.tmp 83) = .int .i64 0 := hF.done 3 (83, SP.is (.int .i64 0)) (by rw [hD]; rfl) (hall 3 (by decide))
            have h84 : ac.eval (.tmp 84) = .bool false := hF.done 4 (84, SP.is (.bool false)) (by rw [hD]; rfl) (hall 4 (by decide))
            have h85 : ac.eval (.tmp 85) = .bool false := hF.done 5 (85, SP.is (.bool false)) (by rw [hD]; rfl) (hall 5 (by decide))
            have h86 : ac.eval (.tmp 86) = .bool false := hF.done 6 (86, SP.is (.bool false)) (by rw [hD]; rfl) (hall 6 (by decide))
            have h87 : ac.eval (.tmp 87) = .int .i64 (i : Int) := hF.done 7 (87, SP.is (.int .i64 (i : Int))) (by rw [hD]; rfl) (hall 7 (by decide))
            have h88 : ac.eval (.tmp 88) = .int .i64 (fk : Int) := hF.done 8 (88, SP.is (.int .i64 (fk : Int))) (by rw [hD]; rfl) (hall 8 (by decide))
            have h89 : ac.eval (.tmp 89) = .bool false := hF.done 9 (89, SP.is (.bool false)) (by rw [hD]; rfl) (hall 9 (by decide))
            have h90 : ac.eval (.tmp 90) = .bool false := hF.done 10 (90, SP.is (.bool false)) (by rw [hD]; rfl) (hall 10 (by decide))
            have h91 : ac.eval (.tmp 91) = undef := hF.done 11 (91, SP.is (undef)) (by rw [hD]; rfl) (hall 11 (by decide))
            have h92 : ac.eval (.tmp 92) = undef := hF.done 12 (92, SP.is (undef)) (by rw [hD]; rfl) (hall 12 (by decide))
            have h93 : ac.eval (.tmp 93) = undef := hF.done 13 (93, SP.is (undef)) (by rw [hD]; rfl) (hall 13 (by decide))
            have h94 : ac.eval (.tmp 94) = .bool false := hF.done 14 (94, SP.is (.bool false)) (by rw [hD]; rfl) (hall 14 (by decide))
            have h95 : ac.eval (.tmp 95) = .bool false := hF.done 15 (95, SP.is (.bool false)) (by rw [hD]; rfl) (hall 15 (by decide))
            have h96 : ac.eval (.tmp 96) = .bool false := hF.done 16 (96, SP.is (.bool false)) (by rw [hD]; rfl) (hall 16 (by decide))
            have h97 : ac.eval (.tmp 97) = .int .i64 (i : Int) := hF.done 17 (97, SP.is (.int .i64 (i : Int))) (by rw [hD]; rfl) (hall 17 (by decide))
            have h98 : ac.eval (.tmp 98) = .int .i64 (fk : Int) := hF.done 18 (98, SP.is (.int .i64 (fk : Int))) (by rw [hD]; rfl) (hall 18 (by decide))
            have h99 : ac.eval (.tmp 99) = .bool true := hF.done 19 (99, SP.is (.bool true)) (by rw [hD]; rfl) (hall 19 (by decide))
            have h100 : ac.eval (.tmp 100) = .bool true := hF.done 20 (100, SP.is (.bool true)) (by rw [hD]; rfl) (hall 20 (by decide))
            have h101 : ac.eval (.tmp 101) = .agg (vB da).toArray := hF.done 21 (101, SP.is (.agg (vB da).toArray)) (by rw [hD]; rfl) (hall 21 (by decide))
            have h102 : ac.eval (.tmp 102) = .agg (vB db).toArray := hF.done 22 (102, SP.is (.agg (vB db).toArray)) (by rw [hD]; rfl) (hall 22 (by decide))
            have h103 : ac.eval (.tmp 103) = .bool true := hF.done 23 (103, SP.is (.bool true)) (by rw [hD]; rfl) (hall 23 (by decide))
            have h104 : ac.eval (.tmp 104) = .bool true := hF.done 24 (104, SP.is (.bool true)) (by rw [hD]; rfl) (hall 24 (by decide))
            have h105 : ac.eval (.tmp 105) = .bool true := hF.done 25 (105, SP.is (.bool true)) (by rw [hD]; rfl) (hall 25 (by decide))
            have h106 : ac.eval (.tmp 106) = .agg (vB zK).toArray := hF.done 26 (106, SP.is (.agg (vB zK).toArray)) (by rw [hD]; rfl) (hall 26 (by decide))
            have h107 : ac.eval (.tmp 107) = .slice A M1 c := hF.done 27 (107, SP.is (.slice A M1 c)) (by rw [hD]; rfl) (hall 27 (by decide))
            have h108 : ac.eval (.tmp 108) = .int .i64 (i : Int) := hF.done 28 (108, SP.is (.int .i64 (i : Int))) (by rw [hD]; rfl) (hall 28 (by decide))
            have h109 : ac.eval (.tmp 109) = .slice A i c := hF.done 29 (109, SP.is (.slice A i c)) (by rw [hD]; rfl) (hall 29 (by decide))
            have h110 : ac.eval (.tmp 110) = .slice A' M2 c' := hF.done 30 (110, SP.is (.slice A' M2 c')) (by rw [hD]; rfl) (hall 30 (by decide))
            have h111 : ac.eval (.tmp 111) = .int .i64 (i : Int) := hF.done 31 (111, SP.is (.int .i64 (i : Int))) (by rw [hD]; rfl) (hall 31 (by decide))
            have h112 : ac.eval (.tmp 112) = .slice A' i c' := hF.done 32 (112, SP.is (.slice A' i c')) (by rw [hD]; rfl) (hall 32 (by decide))
            have h113 : ac.eval (.tmp 113) = .bool true := hF.done 33 (113, SP.is (.bool true)) (by rw [hD]; rfl) (hall 33 (by decide))
            have h114 : ac.eval (.tmp 114) = .bool false := hF.done 34 (114, SP.is (.bool false)) (by rw [hD]; rfl) (hall 34 (by decide))
            have h115 : ac.eval (.tmp 115) = .bool false := hF.done 35 (115, SP.is (.bool false)) (by rw [hD]; rfl) (hall 35 (by decide))
            have h116 : ac.eval (.tmp 116) = .bool false := hF.done 36 (116, SP.is (.bool false)) (by rw [hD]; rfl) (hall 36 (by decide))
            have ea := hF.lay [(80, .int .i64 0), (81, .bool false), (82, .bool false), (83, .int .i64 0), (84, .bool false), (85, .bool false), (86, .bool false), (87, .int .i64 (i : Int)), (88, .int .i64 (fk : Int)), (89, .bool false), (90, .bool false), (91, undef), (92, undef), (93, undef), (94, .bool false), (95, .bool false), (96, .bool false), (97, .int .i64 (i : Int)), (98, .int .i64 (fk : Int)), (99, .bool true), (100, .bool true), (101, .agg (vB da).toArray), (102, .agg (vB db).toArray), (103, .bool true), (104, .bool true), (105, .bool true), (106, .agg (vB zK).toArray), (107, .slice A M1 c), (108, .int .i64 (i : Int)), (109, .slice A i c), (110, .slice A' M2 c'), (111, .int .i64 (i : Int)), (112, .slice A' i c'), (113, .bool true), (114, .bool false), (115, .bool false), (116, .bool false)] (by rw [hD, hsz]; rfl) (by simp only [List.forall_mem_cons, List.not_mem_nil, false_implies, implies_true, and_true]; exact ⟨h80, h81, h82, h83, h84, h85, h86, h87, h88, h89, h90, h91, h92, h93, h94, h95, h96, h97, h98, h99, h100, h101, h102, h103, h104, h105, h106, h107, h108, h109, h110, h111, h112, h113, h114, h115, h116⟩)
            rw [ha0] at ea
            simp only [List.foldl_cons, List.foldl_nil, List.setIfInBounds_toArray, List.set_cons_zero, List.set_cons_succ] at ea
            clear hF hall hr hl hD  zs7 zs8 zs12 zs13 zs14 zs15 zs16 zs17 ha0 hsz h80 h81 h82 h83 h84 h85 h86 h87 h88 h89 h90 h91 h92 h93 h94 h95 h96 h97 h98 h99 h100 h101 h102 h103 h104 h105 h106 h107 h108 h109 h110 h111 h112 h113 h114 h115 h116
            subst ea
            have FS : Hid (S2 w W es fs A A' p p' v v' b5 KK) := T6.out.keep hb1
            clear hb1 ra rb T6
            go_wp2_with fail
            exact ⟨⟨i + 1, by have := HIN.out; omega, by go_num, FS⟩, by have := HIN.out; simp [intOf]; omega⟩
        · have HDD : Hid (decide (da = db) = false) := decide_eq_false hdd
          clear hif hdd
          refine wp_named fun a0 ha0 => ?_
          have hsz : a0.tmps.size = 183 := by rw [ha0]; rfl
          have zs7 : a0.eval (.tmp 7) = .slice A M1 c := by rw [ha0]; rfl
          have zs8 : a0.eval (.tmp 8) = .slice A' M2 c' := by rw [ha0]; rfl
          have zs12 : a0.eval (.tmp 12) = .int .i64 (fk : Int) := by rw [ha0]; rfl
          have zs13 : a0.eval (.tmp 13) = .int .i64 (i : Int) := by rw [ha0]; rfl
          have zs14 : a0.eval (.tmp 14) = .pointer (some ⟨ba, 0, none⟩) := by rw [ha0]; rfl
          have zs15 : a0.eval (.tmp 15) = .int .i64 0 := by rw [ha0]; rfl
          have zs16 : a0.eval (.tmp 16) = .pointer (some ⟨bb, 0, none⟩) := by rw [ha0]; rfl
          have zs17 : a0.eval (.tmp 17) = .int .i64 0 := by rw [ha0]; rfl
          obtain ⟨D, hD⟩ : ∃ D : List (Tmp × SP), D = [(80, SP.is (.int .i64 0)), (81, SP.is (.bool false)), (82, SP.is (.bool false)), (83, SP.is (.int .i64 0)), (84, SP.is (.bool false)), (85, SP.is (.bool false)), (86, SP.is (.bool false)), (87, SP.is (.int .i64 (i : Int))), (88, SP.is (.int .i64 (fk : Int))), (89, SP.is (.bool false)), (90, SP.is (.bool false)), (91, SP.is (undef)), (92, SP.is (undef)), (93, SP.is (undef)), (94, SP.is (.bool false)), (95, SP.is (.bool false)), (96, SP.is (.bool false)), (97, SP.is (.int .i64 (i : Int))), (98, SP.is (.int .i64 (fk : Int))), (99, SP.is (.bool true)), (100, SP.is (.bool true)), (101, SP.is (.agg (vB da).toArray)), (102, SP.is (.agg (vB db).toArray)), (103, SP.is (.bool false)), (104, SP.is (.bool false)), (105, SP.is (.bool false)), (106, SP.is (undef)), (107, SP.is (undef)), (108, SP.is (undef)), (109, SP.is (undef)), (110, SP.is (undef)), (111, SP.is (undef)), (112, SP.is (undef)), (113, SP.is (undef)), (114, SP.is (undef)), (115, SP.is (.bool false)), (116, SP.is (.bool false))] := ⟨_, rfl⟩
          refine wp_region_down (by kernel_rfl) (fun listed ac W => listed.size = 37 ∧ Fp D a0 listed ac W ∧ Below Y6.heap.size Y6 W ∧ Row W ba ((vB da)) 51 ∧ Row W bb ((vB db)) 51) ?_ ?_ ?_
          · exact ⟨by simp, Fp.start D a0 _ _, Below.drew hb1, Row.drew ra, Row.drew rb⟩
          · clear ha0 hb1 ra rb 
            intro listed ac W k hI hdn hk
            obtain ⟨hl, hF, hb1, ra, rb⟩ := hI
            have hk1 : k < 37 := List.mem_range.1 (List.mem_filter.1 hk).1
            have hl2 : ∀ j, (listed.setIfInBounds j true).size = 37 := fun j => by rw [Array.size_setIfInBounds]; exact hl
            rcases (show k = 0 ∨ k = 1 ∨ k = 2 ∨ k = 3 ∨ k = 4 ∨ k = 5 ∨ k = 6 ∨ k = 7 ∨ k = 8 ∨ k = 9 ∨ k = 10 ∨ k = 11 ∨ k = 12 ∨ k = 13 ∨ k = 14 ∨ k = 15 ∨ k = 16 ∨ k = 17 ∨ k = 18 ∨ k = 19 ∨ k = 20 ∨ k = 21 ∨ k = 22 ∨ k = 23 ∨ k = 24 ∨ k = 25 ∨ k = 26 ∨ k = 27 ∨ k = 28 ∨ k = 29 ∨ k = 30 ∨ k = 31 ∨ k = 32 ∨ k = 33 ∨ k = 34 ∨ k = 35 ∨ k = 36 by omega) with rfl | rfl | rfl | rfl | rfl | rfl | rfl | rfl | rfl | rfl | rfl | rfl | rfl | rfl | rfl | rfl | rfl | rfl | rfl | rfl | rfl | rfl | rfl | rfl | rfl | rfl | rfl | rfl | rfl | rfl | rfl | rfl | rfl | rfl | rfl | rfl | rfl
            · have hk3 := hk
              exact wpOp_plain rfl rfl (wp_move_v (ac.eval (.tmp 15)) rfl rfl ⟨hl2 0, (hF.put 0 80 (SP.is (.int .i64 0)) (ac.eval (.tmp 15)) (by rw [hD]; rfl) (((hF.keep 15 (by rw [hD]; rfl)).trans zs15)) (by rw [hD]; rfl) (by rw [hsz]; decide) (by rw [hl]; decide)), hb1, ra, rb⟩)
            · have hk3 := hk
              have ea := (hF.done 0 (80, SP.is (.int .i64 0)) (by rw [hD]; rfl) (ready_dep hk 0 (by kernel_rfl)))
              exact wpOp_plain rfl rfl (wp_neqint_v rfl ea rfl rfl ⟨hl2 1, (hF.put 1 81 (SP.is (.bool false)) (.bool false) (by rw [hD]; rfl) rfl (by rw [hD]; rfl) (by rw [hsz]; decide) (by rw [hl]; decide)), hb1, ra, rb⟩)
            · have hk3 := hk
              exact wpOp_plain rfl rfl (wp_move_v (ac.eval (.tmp 81)) rfl rfl ⟨hl2 2, (hF.put 2 82 (SP.is (.bool false)) (ac.eval (.tmp 81)) (by rw [hD]; rfl) ((hF.done 1 (81, SP.is (.bool false)) (by rw [hD]; rfl) (ready_dep hk 1 (by kernel_rfl)))) (by rw [hD]; rfl) (by rw [hsz]; decide) (by rw [hl]; decide)), hb1, ra, rb⟩)
            · have hk3 := hk
              exact wpOp_wanted rfl (wanted_g (g := 2) (b := false) rfl rfl (hF.done 2 (82, SP.is (.bool false)) (by rw [hD]; rfl) (ready_dep hk 2 (by kernel_rfl))) (by rw [hF.size, hsz]; decide)) (wp_move_v (ac.eval (.tmp 17)) rfl rfl ⟨hl2 3, (hF.put 3 83 (SP.is (.int .i64 0)) (ac.eval (.tmp 17)) (by rw [hD]; rfl) (((hF.keep 17 (by rw [hD]; rfl)).trans zs17)) (by rw [hD]; rfl) (by rw [hsz]; decide) (by rw [hl]; decide)), hb1, ra, rb⟩)
            · have hk3 := hk
              have ea := (hF.done 3 (83, SP.is (.int .i64 0)) (by rw [hD]; rfl) (ready_dep hk 3 (by kernel_rfl)))
              exact wpOp_wanted rfl (wanted_g (g := 2) (b := false) rfl rfl (hF.done 2 (82, SP.is (.bool false)) (by rw [hD]; rfl) (ready_dep hk 2 (by kernel_rfl))) (by rw [hF.size, hsz]; decide)) (wp_neqint_v rfl ea rfl rfl ⟨hl2 4, (hF.put 4 84 (SP.is (.bool false)) (.bool false) (by rw [hD]; rfl) rfl (by rw [hD]; rfl) (by rw [hsz]; decide) (by rw [hl]; decide)), hb1, ra, rb⟩)
            · have hk3 := hk
              have ea := (hF.done 2 (82, SP.is (.bool false)) (by rw [hD]; rfl) (ready_dep hk 2 (by kernel_rfl)))
              have eb := (hF.done 4 (84, SP.is (.bool false)) (by rw [hD]; rfl) (ready_dep hk 4 (by kernel_rfl)))
              exact wpOp_plain rfl rfl (wp_pick_f (.bool false) rfl ea eb ⟨hl2 5, (hF.put 5 85 (SP.is (.bool false)) (.bool false) (by rw [hD]; rfl) rfl (by rw [hD]; rfl) (by rw [hsz]; decide) (by rw [hl]; decide)), hb1, ra, rb⟩)
            · have hk3 := hk
              exact wpOp_plain rfl rfl (wp_move_v (ac.eval (.tmp 85)) rfl rfl ⟨hl2 6, (hF.put 6 86 (SP.is (.bool false)) (ac.eval (.tmp 85)) (by rw [hD]; rfl) ((hF.done 5 (85, SP.is (.bool false)) (by rw [hD]; rfl) (ready_dep hk 5 (by kernel_rfl)))) (by rw [hD]; rfl) (by rw [hsz]; decide) (by rw [hl]; decide)), hb1, ra, rb⟩)
            · have hk3 := hk
              exact wpOp_wanted rfl (wanted_g (g := 6) (b := false) rfl rfl (hF.done 6 (86, SP.is (.bool false)) (by rw [hD]; rfl) (ready_dep hk 6 (by kernel_rfl))) (by rw [hF.size, hsz]; decide)) (wp_move_v (ac.eval (.tmp 13)) rfl rfl ⟨hl2 7, (hF.put 7 87 (SP.is (.int .i64 (i : Int))) (ac.eval (.tmp 13)) (by rw [hD]; rfl) (((hF.keep 13 (by rw [hD]; rfl)).trans zs13)) (by rw [hD]; rfl) (by rw [hsz]; decide) (by rw [hl]; decide)), hb1, ra, rb⟩)
            · have hk3 := hk
              exact wpOp_wanted rfl (wanted_g (g := 6) (b := false) rfl rfl (hF.done 6 (86, SP.is (.bool false)) (by rw [hD]; rfl) (ready_dep hk 6 (by kernel_rfl))) (by rw [hF.size, hsz]; decide)) (wp_move_v (ac.eval (.tmp 12)) rfl rfl ⟨hl2 8, (hF.put 8 88 (SP.is (.int .i64 (fk : Int))) (ac.eval (.tmp 12)) (by rw [hD]; rfl) (((hF.keep 12 (by rw [hD]; rfl)).trans zs12)) (by rw [hD]; rfl) (by rw [hsz]; decide) (by rw [hl]; decide)), hb1, ra, rb⟩)
            · have hk3 := hk
              have ea := (hF.done 7 (87, SP.is (.int .i64 (i : Int))) (by rw [hD]; rfl) (ready_dep hk 7 (by kernel_rfl)))
              have eb := (hF.done 8 (88, SP.is (.int .i64 (fk : Int))) (by rw [hD]; rfl) (ready_dep hk 8 (by kernel_rfl)))
              exact wpOp_wanted rfl (wanted_g (g := 6) (b := false) rfl rfl (hF.done 6 (86, SP.is (.bool false)) (by rw [hD]; rfl) (ready_dep hk 6 (by kernel_rfl))) (by rw [hF.size, hsz]; decide)) (wp_leqJ rfl rfl (i : Int) (fk : Int) false ea eb HLE.out ⟨hl2 9, (hF.put 9 89 (SP.is (.bool false)) (.bool false) (by rw [hD]; rfl) rfl (by rw [hD]; rfl) (by rw [hsz]; decide) (by rw [hl]; decide)), hb1, ra, rb⟩)
            · have hk3 := hk
              exact wpOp_wanted rfl (wanted_g (g := 6) (b := false) rfl rfl (hF.done 6 (86, SP.is (.bool false)) (by rw [hD]; rfl) (ready_dep hk 6 (by kernel_rfl))) (by rw [hF.size, hsz]; decide)) (wp_move_v (ac.eval (.tmp 89)) rfl rfl ⟨hl2 10, (hF.put 10 90 (SP.is (.bool false)) (ac.eval (.tmp 89)) (by rw [hD]; rfl) ((hF.done 9 (89, SP.is (.bool false)) (by rw [hD]; rfl) (ready_dep hk 9 (by kernel_rfl)))) (by rw [hD]; rfl) (by rw [hsz]; decide) (by rw [hl]; decide)), hb1, ra, rb⟩)
            · have hk3 := hk
              exact wpOp_off rfl (unwanted_g (g := 10) (b := true) rfl rfl (hF.done 10 (90, SP.is (.bool false)) (by rw [hD]; rfl) (ready_dep hk 10 (by kernel_rfl))) (by rw [hF.size, hsz]; decide)) ⟨hl2 11, (hF.put 11 91 (SP.is (undef)) undef (by rw [hD]; rfl) rfl (by rw [hD]; rfl) (by rw [hsz]; decide) (by rw [hl]; decide)), hb1, ra, rb⟩
            · have hk3 := hk
              exact wpOp_off rfl (unwanted_g (g := 10) (b := true) rfl rfl (hF.done 10 (90, SP.is (.bool false)) (by rw [hD]; rfl) (ready_dep hk 10 (by kernel_rfl))) (by rw [hF.size, hsz]; decide)) ⟨hl2 12, (hF.put 12 92 (SP.is (undef)) undef (by rw [hD]; rfl) rfl (by rw [hD]; rfl) (by rw [hsz]; decide) (by rw [hl]; decide)), hb1, ra, rb⟩
            · have hk3 := hk
              exact wpOp_off rfl (unwanted_g (g := 10) (b := true) rfl rfl (hF.done 10 (90, SP.is (.bool false)) (by rw [hD]; rfl) (ready_dep hk 10 (by kernel_rfl))) (by rw [hF.size, hsz]; decide)) ⟨hl2 13, (hF.put 13 93 (SP.is (undef)) undef (by rw [hD]; rfl) rfl (by rw [hD]; rfl) (by rw [hsz]; decide) (by rw [hl]; decide)), hb1, ra, rb⟩
            · have hk3 := hk
              have ea := (hF.done 10 (90, SP.is (.bool false)) (by rw [hD]; rfl) (ready_dep hk 10 (by kernel_rfl)))
              exact wpOp_wanted rfl (wanted_g (g := 6) (b := false) rfl rfl (hF.done 6 (86, SP.is (.bool false)) (by rw [hD]; rfl) (ready_dep hk 6 (by kernel_rfl))) (by rw [hF.size, hsz]; decide)) (wp_pick_f (.bool false) rfl ea rfl ⟨hl2 14, (hF.put 14 94 (SP.is (.bool false)) (.bool false) (by rw [hD]; rfl) rfl (by rw [hD]; rfl) (by rw [hsz]; decide) (by rw [hl]; decide)), hb1, ra, rb⟩)
            · have hk3 := hk
              have ea := (hF.done 6 (86, SP.is (.bool false)) (by rw [hD]; rfl) (ready_dep hk 6 (by kernel_rfl)))
              have eb := (hF.done 14 (94, SP.is (.bool false)) (by rw [hD]; rfl) (ready_dep hk 14 (by kernel_rfl)))
              exact wpOp_plain rfl rfl (wp_pick_f (.bool false) rfl ea eb ⟨hl2 15, (hF.put 15 95 (SP.is (.bool false)) (.bool false) (by rw [hD]; rfl) rfl (by rw [hD]; rfl) (by rw [hsz]; decide) (by rw [hl]; decide)), hb1, ra, rb⟩)
            · have hk3 := hk
              exact wpOp_plain rfl rfl (wp_move_v (ac.eval (.tmp 95)) rfl rfl ⟨hl2 16, (hF.put 16 96 (SP.is (.bool false)) (ac.eval (.tmp 95)) (by rw [hD]; rfl) ((hF.done 15 (95, SP.is (.bool false)) (by rw [hD]; rfl) (ready_dep hk 15 (by kernel_rfl)))) (by rw [hD]; rfl) (by rw [hsz]; decide) (by rw [hl]; decide)), hb1, ra, rb⟩)
            · have hk3 := hk
              exact wpOp_wanted rfl (wanted_g (g := 16) (b := false) rfl rfl (hF.done 16 (96, SP.is (.bool false)) (by rw [hD]; rfl) (ready_dep hk 16 (by kernel_rfl))) (by rw [hF.size, hsz]; decide)) (wp_move_v (ac.eval (.tmp 13)) rfl rfl ⟨hl2 17, (hF.put 17 97 (SP.is (.int .i64 (i : Int))) (ac.eval (.tmp 13)) (by rw [hD]; rfl) (((hF.keep 13 (by rw [hD]; rfl)).trans zs13)) (by rw [hD]; rfl) (by rw [hsz]; decide) (by rw [hl]; decide)), hb1, ra, rb⟩)
            · have hk3 := hk
              exact wpOp_wanted rfl (wanted_g (g := 16) (b := false) rfl rfl (hF.done 16 (96, SP.is (.bool false)) (by rw [hD]; rfl) (ready_dep hk 16 (by kernel_rfl))) (by rw [hF.size, hsz]; decide)) (wp_move_v (ac.eval (.tmp 12)) rfl rfl ⟨hl2 18, (hF.put 18 98 (SP.is (.int .i64 (fk : Int))) (ac.eval (.tmp 12)) (by rw [hD]; rfl) (((hF.keep 12 (by rw [hD]; rfl)).trans zs12)) (by rw [hD]; rfl) (by rw [hsz]; decide) (by rw [hl]; decide)), hb1, ra, rb⟩)
            · have hk3 := hk
              have ea := (hF.done 17 (97, SP.is (.int .i64 (i : Int))) (by rw [hD]; rfl) (ready_dep hk 17 (by kernel_rfl)))
              have eb := (hF.done 18 (98, SP.is (.int .i64 (fk : Int))) (by rw [hD]; rfl) (ready_dep hk 18 (by kernel_rfl)))
              exact wpOp_wanted rfl (wanted_g (g := 16) (b := false) rfl rfl (hF.done 16 (96, SP.is (.bool false)) (by rw [hD]; rfl) (ready_dep hk 16 (by kernel_rfl))) (by rw [hF.size, hsz]; decide)) (wp_gtrJ rfl rfl (i : Int) (fk : Int) true ea eb HGT.out ⟨hl2 19, (hF.put 19 99 (SP.is (.bool true)) (.bool true) (by rw [hD]; rfl) rfl (by rw [hD]; rfl) (by rw [hsz]; decide) (by rw [hl]; decide)), hb1, ra, rb⟩)
            · have hk3 := hk
              exact wpOp_wanted rfl (wanted_g (g := 16) (b := false) rfl rfl (hF.done 16 (96, SP.is (.bool false)) (by rw [hD]; rfl) (ready_dep hk 16 (by kernel_rfl))) (by rw [hF.size, hsz]; decide)) (wp_move_v (ac.eval (.tmp 99)) rfl rfl ⟨hl2 20, (hF.put 20 100 (SP.is (.bool true)) (ac.eval (.tmp 99)) (by rw [hD]; rfl) ((hF.done 19 (99, SP.is (.bool true)) (by rw [hD]; rfl) (ready_dep hk 19 (by kernel_rfl)))) (by rw [hD]; rfl) (by rw [hsz]; decide) (by rw [hl]; decide)), hb1, ra, rb⟩)
            · have hk3 := hk
              exact wpOp_wanted rfl (wanted_g (g := 20) (b := true) rfl rfl (hF.done 20 (100, SP.is (.bool true)) (by rw [hD]; rfl) (ready_dep hk 20 (by kernel_rfl))) (by rw [hF.size, hsz]; decide)) (wp_load_mid 51 (.tmp 14) rfl ba 0 ((hF.keep 14 (by rw [hD]; rfl)).trans zs14) ((vB da)) _ ra.all Tryz.underlying51 rfl HIA.out ⟨hl2 21, (hF.put 21 101 (SP.is (.agg (vB da).toArray)) (.agg (vB da).toArray) (by rw [hD]; rfl) rfl (by rw [hD]; rfl) (by rw [hsz]; decide) (by rw [hl]; decide)), hb1, ra, rb⟩)
            · have hk3 := hk
              exact wpOp_wanted rfl (wanted_g (g := 20) (b := true) rfl rfl (hF.done 20 (100, SP.is (.bool true)) (by rw [hD]; rfl) (ready_dep hk 20 (by kernel_rfl))) (by rw [hF.size, hsz]; decide)) (wp_load_mid 51 (.tmp 16) rfl bb 0 ((hF.keep 16 (by rw [hD]; rfl)).trans zs16) ((vB db)) _ rb.all Tryz.underlying51 rfl HIB.out ⟨hl2 22, (hF.put 22 102 (SP.is (.agg (vB db).toArray)) (.agg (vB db).toArray) (by rw [hD]; rfl) rfl (by rw [hD]; rfl) (by rw [hsz]; decide) (by rw [hl]; decide)), hb1, ra, rb⟩)
            · have hk3 := hk
              have ea := (hF.done 21 (101, SP.is (.agg (vB da).toArray)) (by rw [hD]; rfl) (ready_dep hk 21 (by kernel_rfl)))
              have eb := (hF.done 22 (102, SP.is (.agg (vB db).toArray)) (by rw [hD]; rfl) (ready_dep hk 22 (by kernel_rfl)))
              exact wpOp_wanted rfl (wanted_g (g := 20) (b := true) rfl rfl (hF.done 20 (100, SP.is (.bool true)) (by rw [hD]; rfl) (ready_dep hk 20 (by kernel_rfl))) (by rw [hF.size, hsz]; decide)) (wp_eql_b 51 (.tmp 101) (.tmp 102) _ rfl 5 32 da db ea eb Tryz.underlying51 Tryz.underlying5 info_u8 HLA.out HLB.out guardDE false HDD.out ⟨hl2 23, (hF.put 23 103 (SP.is (.bool false)) (.bool false) (by rw [hD]; rfl) rfl (by rw [hD]; rfl) (by rw [hsz]; decide) (by rw [hl]; decide)), hb1, ra, rb⟩)
            · have hk3 := hk
              have ea := (hF.done 20 (100, SP.is (.bool true)) (by rw [hD]; rfl) (ready_dep hk 20 (by kernel_rfl)))
              have eb := (hF.done 23 (103, SP.is (.bool false)) (by rw [hD]; rfl) (ready_dep hk 23 (by kernel_rfl)))
              exact wpOp_wanted rfl (wanted_g (g := 16) (b := false) rfl rfl (hF.done 16 (96, SP.is (.bool false)) (by rw [hD]; rfl) (ready_dep hk 16 (by kernel_rfl))) (by rw [hF.size, hsz]; decide)) (wp_pick_v (.bool false) rfl ea eb ⟨hl2 24, (hF.put 24 104 (SP.is (.bool false)) (.bool false) (by rw [hD]; rfl) rfl (by rw [hD]; rfl) (by rw [hsz]; decide) (by rw [hl]; decide)), hb1, ra, rb⟩)
            · have hk3 := hk
              exact wpOp_wanted rfl (wanted_g (g := 16) (b := false) rfl rfl (hF.done 16 (96, SP.is (.bool false)) (by rw [hD]; rfl) (ready_dep hk 16 (by kernel_rfl))) (by rw [hF.size, hsz]; decide)) (wp_move_v (ac.eval (.tmp 104)) rfl rfl ⟨hl2 25, (hF.put 25 105 (SP.is (.bool false)) (ac.eval (.tmp 104)) (by rw [hD]; rfl) ((hF.done 24 (104, SP.is (.bool false)) (by rw [hD]; rfl) (ready_dep hk 24 (by kernel_rfl)))) (by rw [hD]; rfl) (by rw [hsz]; decide) (by rw [hl]; decide)), hb1, ra, rb⟩)
            · have hk3 := hk
              exact wpOp_off rfl (unwanted_g (g := 25) (b := true) rfl rfl (hF.done 25 (105, SP.is (.bool false)) (by rw [hD]; rfl) (ready_dep hk 25 (by kernel_rfl))) (by rw [hF.size, hsz]; decide)) ⟨hl2 26, (hF.put 26 106 (SP.is (undef)) undef (by rw [hD]; rfl) rfl (by rw [hD]; rfl) (by rw [hsz]; decide) (by rw [hl]; decide)), hb1, ra, rb⟩
            · have hk3 := hk
              exact wpOp_off rfl (unwanted_g (g := 25) (b := true) rfl rfl (hF.done 25 (105, SP.is (.bool false)) (by rw [hD]; rfl) (ready_dep hk 25 (by kernel_rfl))) (by rw [hF.size, hsz]; decide)) ⟨hl2 27, (hF.put 27 107 (SP.is (undef)) undef (by rw [hD]; rfl) rfl (by rw [hD]; rfl) (by rw [hsz]; decide) (by rw [hl]; decide)), hb1, ra, rb⟩
            · have hk3 := hk
              exact wpOp_off rfl (unwanted_g (g := 25) (b := true) rfl rfl (hF.done 25 (105, SP.is (.bool false)) (by rw [hD]; rfl) (ready_dep hk 25 (by kernel_rfl))) (by rw [hF.size, hsz]; decide)) ⟨hl2 28, (hF.put 28 108 (SP.is (undef)) undef (by rw [hD]; rfl) rfl (by rw [hD]; rfl) (by rw [hsz]; decide) (by rw [hl]; decide)), hb1, ra, rb⟩
            · have hk3 := hk
              exact wpOp_off rfl (unwanted_g (g := 25) (b := true) rfl rfl (hF.done 25 (105, SP.is (.bool false)) (by rw [hD]; rfl) (ready_dep hk 25 (by kernel_rfl))) (by rw [hF.size, hsz]; decide)) ⟨hl2 29, (hF.put 29 109 (SP.is (undef)) undef (by rw [hD]; rfl) rfl (by rw [hD]; rfl) (by rw [hsz]; decide) (by rw [hl]; decide)), hb1, ra, rb⟩
            · have hk3 := hk
              exact wpOp_off rfl (unwanted_g (g := 25) (b := true) rfl rfl (hF.done 25 (105, SP.is (.bool false)) (by rw [hD]; rfl) (ready_dep hk 25 (by kernel_rfl))) (by rw [hF.size, hsz]; decide)) ⟨hl2 30, (hF.put 30 110 (SP.is (undef)) undef (by rw [hD]; rfl) rfl (by rw [hD]; rfl) (by rw [hsz]; decide) (by rw [hl]; decide)), hb1, ra, rb⟩
            · have hk3 := hk
              exact wpOp_off rfl (unwanted_g (g := 25) (b := true) rfl rfl (hF.done 25 (105, SP.is (.bool false)) (by rw [hD]; rfl) (ready_dep hk 25 (by kernel_rfl))) (by rw [hF.size, hsz]; decide)) ⟨hl2 31, (hF.put 31 111 (SP.is (undef)) undef (by rw [hD]; rfl) rfl (by rw [hD]; rfl) (by rw [hsz]; decide) (by rw [hl]; decide)), hb1, ra, rb⟩
            · have hk3 := hk
              exact wpOp_off rfl (unwanted_g (g := 25) (b := true) rfl rfl (hF.done 25 (105, SP.is (.bool false)) (by rw [hD]; rfl) (ready_dep hk 25 (by kernel_rfl))) (by rw [hF.size, hsz]; decide)) ⟨hl2 32, (hF.put 32 112 (SP.is (undef)) undef (by rw [hD]; rfl) rfl (by rw [hD]; rfl) (by rw [hsz]; decide) (by rw [hl]; decide)), hb1, ra, rb⟩
            · have hk3 := hk
              exact wpOp_off rfl (unwanted_g (g := 25) (b := true) rfl rfl (hF.done 25 (105, SP.is (.bool false)) (by rw [hD]; rfl) (ready_dep hk 25 (by kernel_rfl))) (by rw [hF.size, hsz]; decide)) ⟨hl2 33, (hF.put 33 113 (SP.is (undef)) undef (by rw [hD]; rfl) rfl (by rw [hD]; rfl) (by rw [hsz]; decide) (by rw [hl]; decide)), hb1, ra, rb⟩
            · have hk3 := hk
              exact wpOp_off rfl (unwanted_g (g := 25) (b := true) rfl rfl (hF.done 25 (105, SP.is (.bool false)) (by rw [hD]; rfl) (ready_dep hk 25 (by kernel_rfl))) (by rw [hF.size, hsz]; decide)) ⟨hl2 34, (hF.put 34 114 (SP.is (undef)) undef (by rw [hD]; rfl) rfl (by rw [hD]; rfl) (by rw [hsz]; decide) (by rw [hl]; decide)), hb1, ra, rb⟩
            · have hk3 := hk
              have ea := (hF.done 25 (105, SP.is (.bool false)) (by rw [hD]; rfl) (ready_dep hk 25 (by kernel_rfl)))
              exact wpOp_wanted rfl (wanted_g (g := 16) (b := false) rfl rfl (hF.done 16 (96, SP.is (.bool false)) (by rw [hD]; rfl) (ready_dep hk 16 (by kernel_rfl))) (by rw [hF.size, hsz]; decide)) (wp_pick_f (.bool false) rfl ea rfl ⟨hl2 35, (hF.put 35 115 (SP.is (.bool false)) (.bool false) (by rw [hD]; rfl) rfl (by rw [hD]; rfl) (by rw [hsz]; decide) (by rw [hl]; decide)), hb1, ra, rb⟩)
            · have hk3 := hk
              have ea := (hF.done 16 (96, SP.is (.bool false)) (by rw [hD]; rfl) (ready_dep hk 16 (by kernel_rfl)))
              have eb := (hF.done 35 (115, SP.is (.bool false)) (by rw [hD]; rfl) (ready_dep hk 35 (by kernel_rfl)))
              exact wpOp_plain rfl rfl (wp_pick_f (.bool false) rfl ea eb ⟨hl2 36, (hF.put 36 116 (SP.is (.bool false)) (.bool false) (by rw [hD]; rfl) rfl (by rw [hD]; rfl) (by rw [hsz]; decide) (by rw [hl]; decide)), hb1, ra, rb⟩)
          · clear hb1 ra rb 
            intro listed ac W hI hr
            obtain ⟨hl, hF, hb1, ra, rb⟩ := hI
            have hall := all_listed (by kernel_rfl) hl hr
            have h80 : ac.eval (.tmp 80) = .int .i64 0 := hF.done 0 (80, SP.is (.int .i64 0)) (by rw [hD]; rfl) (hall 0 (by decide))
            have h81 : ac.eval (.tmp 81) = .bool false := hF.done 1 (81, SP.is (.bool false)) (by rw [hD]; rfl) (hall 1 (by decide))
            have h82 : ac.eval (.tmp 82) = .bool false := hF.done 2 (82, SP.is (.bool false)) (by rw [hD]; rfl) (hall 2 (by decide))
            have h83 : ac.eval (.tmp 83) = .int .i64 0 := hF.done 3 (83, SP.is (.int .i64 0)) (by rw [hD]; rfl) (hall 3 (by decide))
            have h84 : ac.eval (.tmp 84) = .bool false := hF.done 4 (84, SP.is (.bool false)) (by rw [hD]; rfl) (hall 4 (by decide))
            have h85 : ac.eval (.tmp 85) = .bool false := hF.done 5 (85, SP.is (.bool false)) (by rw [hD]; rfl) (hall 5 (by decide))
            have h86 : ac.eval (.tmp 86) = .bool false := hF.done 6 (86, SP.is (.bool false)) (by rw [hD]; rfl) (hall 6 (by decide))
            have h87 : ac.eval (.tmp 87) = .int .i64 (i : Int) := hF.done 7 (87, SP.is (.int .i64 (i : Int))) (by rw [hD]; rfl) (hall 7 (by decide))
            have h88 : ac.eval (.tmp 88) = .int .i64 (fk : Int) := hF.done 8 (88, SP.is (.int .i64 (fk : Int))) (by rw [hD]; rfl) (hall 8 (by decide))
            have h89 : ac.eval (.tmp 89) = .bool false := hF.done 9 (89, SP.is (.bool false)) (by rw [hD]; rfl) (hall 9 (by decide))
            have h90 : ac.eval (.tmp 90) = .bool false := hF.done 10 (90, SP.is (.bool false)) (by rw [hD]; rfl) (hall 10 (by decide))
            have h91 : ac.eval (.tmp 91) = undef := hF.done 11 (91, SP.is (undef)) (by rw [hD]; rfl) (hall 11 (by decide))
            have h92 : ac.eval (.tmp 92) = undef := hF.done 12 (92, SP.is (undef)) (by rw [hD]; rfl) (hall 12 (by decide))
            have h93 : ac.eval (.tmp 93) = undef := hF.done 13 (93, SP.is (undef)) (by rw [hD]; rfl) (hall 13 (by decide))
            have h94 : ac.eval (.tmp 94) = .bool false := hF.done 14 (94, SP.is (.bool false)) (by rw [hD]; rfl) (hall 14 (by decide))
            have h95 : ac.eval (.tmp 95) = .bool false := hF.done 15 (95, SP.is (.bool false)) (by rw [hD]; rfl) (hall 15 (by decide))
            have h96 : ac.eval (.tmp 96) = .bool false := hF.done 16 (96, SP.is (.bool false)) (by rw [hD]; rfl) (hall 16 (by decide))
            have h97 : ac.eval (.tmp 97) = .int .i64 (i : Int) := hF.done 17 (97, SP.is (.int .i64 (i : Int))) (by rw [hD]; rfl) (hall 17 (by decide))
            have h98 : ac.eval (.tmp 98) = .int .i64 (fk : Int) := hF.done 18 (98, SP.is (.int .i64 (fk : Int))) (by rw [hD]; rfl) (hall 18 (by decide))
            have h99 : ac.eval (.tmp 99) = .bool true := hF.done 19 (99, SP.is (.bool true)) (by rw [hD]; rfl) (hall 19 (by decide))
            have h100 : ac.eval (.tmp 100) = .bool true := hF.done 20 (100, SP.is (.bool true)) (by rw [hD]; rfl) (hall 20 (by decide))
            have h101 : ac.eval (.tmp 101) = .agg (vB da).toArray := hF.done 21 (101, SP.is (.agg (vB da).toArray)) (by rw [hD]; rfl) (hall 21 (by decide))
            have h102 : ac.eval (.tmp 102) = .agg (vB db).toArray := hF.done 22 (102, SP.is (.agg (vB db).toArray)) (by rw [hD]; rfl) (hall 22 (by decide))
            have h103 : ac.eval (.tmp 103) = .bool false := hF.done 23 (103, SP.is (.bool false)) (by rw [hD]; rfl) (hall 23 (by decide))
            have h104 : ac.eval (.tmp 104) = .bool false := hF.done 24 (104, SP.is (.bool false)) (by rw [hD]; rfl) (hall 24 (by decide))
            have h105 : ac.eval (.tmp 105) = .bool false := hF.done 25 (105, SP.is (.bool false)) (by rw [hD]; rfl) (hall 25 (by decide))
            have h106 : ac.eval (.tmp 106) = undef := hF.done 26 (106, SP.is (undef)) (by rw [hD]; rfl) (hall 26 (by decide))
            have h107 : ac.eval (.tmp 107) = undef := hF.done 27 (107, SP.is (undef)) (by rw [hD]; rfl) (hall 27 (by decide))
            have h108 : ac.eval (.tmp 108) = undef := hF.done 28 (108, SP.is (undef)) (by rw [hD]; rfl) (hall 28 (by decide))
            have h109 : ac.eval (.tmp 109) = undef := hF.done 29 (109, SP.is (undef)) (by rw [hD]; rfl) (hall 29 (by decide))
            have h110 : ac.eval (.tmp 110) = undef := hF.done 30 (110, SP.is (undef)) (by rw [hD]; rfl) (hall 30 (by decide))
            have h111 : ac.eval (.tmp 111) = undef := hF.done 31 (111, SP.is (undef)) (by rw [hD]; rfl) (hall 31 (by decide))
            have h112 : ac.eval (.tmp 112) = undef := hF.done 32 (112, SP.is (undef)) (by rw [hD]; rfl) (hall 32 (by decide))
            have h113 : ac.eval (.tmp 113) = undef := hF.done 33 (113, SP.is (undef)) (by rw [hD]; rfl) (hall 33 (by decide))
            have h114 : ac.eval (.tmp 114) = undef := hF.done 34 (114, SP.is (undef)) (by rw [hD]; rfl) (hall 34 (by decide))
            have h115 : ac.eval (.tmp 115) = .bool false := hF.done 35 (115, SP.is (.bool false)) (by rw [hD]; rfl) (hall 35 (by decide))
            have h116 : ac.eval (.tmp 116) = .bool false := hF.done 36 (116, SP.is (.bool false)) (by rw [hD]; rfl) (hall 36 (by decide))
            have ea := hF.lay [(80, .int .i64 0), (81, .bool false), (82, .bool false), (83, .int .i64 0), (84, .bool false), (85, .bool false), (86, .bool false), (87, .int .i64 (i : Int)), (88, .int .i64 (fk : Int)), (89, .bool false), (90, .bool false), (91, undef), (92, undef), (93, undef), (94, .bool false), (95, .bool false), (96, .bool false), (97, .int .i64 (i : Int)), (98, .int .i64 (fk : Int)), (99, .bool true), (100, .bool true), (101, .agg (vB da).toArray), (102, .agg (vB db).toArray), (103, .bool false), (104, .bool false), (105, .bool false), (106, undef), (107, undef), (108, undef), (109, undef), (110, undef), (111, undef), (112, undef), (113, undef), (114, undef), (115, .bool false), (116, .bool false)] (by rw [hD, hsz]; rfl) (by simp only [List.forall_mem_cons, List.not_mem_nil, false_implies, implies_true, and_true]; exact ⟨h80, h81, h82, h83, h84, h85, h86, h87, h88, h89, h90, h91, h92, h93, h94, h95, h96, h97, h98, h99, h100, h101, h102, h103, h104, h105, h106, h107, h108, h109, h110, h111, h112, h113, h114, h115, h116⟩)
            rw [ha0] at ea
            simp only [List.foldl_cons, List.foldl_nil, List.setIfInBounds_toArray, List.set_cons_zero, List.set_cons_succ] at ea
            clear hF hall hr hl hD  zs7 zs8 zs12 zs13 zs14 zs15 zs16 zs17 ha0 hsz h80 h81 h82 h83 h84 h85 h86 h87 h88 h89 h90 h91 h92 h93 h94 h95 h96 h97 h98 h99 h100 h101 h102 h103 h104 h105 h106 h107 h108 h109 h110 h111 h112 h113 h114 h115 h116
            subst ea
            have FS : Hid (S2 w W es fs A A' p p' v v' b5 KK) := T6.out.keep hb1
            clear hb1 ra rb T6
            go_wp2_with fail
            exact ⟨⟨i + 1, by have := HIN.out; omega, by go_num, FS⟩, by have := HIN.out; simp [intOf]; omega⟩
    have hlt2 : ¬ ((i : Int) ≤ (M1 : Int)) := by omega
    clear hlt hi
    go_upto_region 22 with fail
    clear hlt2
    obtain ⟨Z, hZ⟩ : ∃ Z, Z = wr := ⟨_, rfl⟩
    subst hZ
    have r5 := HS.out.rk
    have hb1 := Below.refl Z.heap.size Z
    have HCN1 : Hid (n ≤ c) := by show _ ≤ _; have := HCA.out; omega
    have HCN2 : Hid (n ≤ c') := by show _ ≤ _; have := HCB.out; omega
    have H9 : Hid (M1 = n) := hnM.symm
    rw [show (M1 : Int) = (n : Int) by rw [H9.out]]
    refine wp_named fun a0 ha0 => ?_
    have hsz : a0.tmps.size = 183 := by rw [ha0]; rfl
    have zs5 : a0.eval (.tmp 5) = .pointer (some ⟨b5, 0, none⟩) := by rw [ha0]; rfl
    have zs7 : a0.eval (.tmp 7) = .slice A M1 c := by rw [ha0]; rfl
    have zs8 : a0.eval (.tmp 8) = .slice A' M2 c' := by rw [ha0]; rfl
    have zs9 : a0.eval (.tmp 9) = .int .i64 (n : Int) := by rw [ha0]; rfl
    obtain ⟨D, hD⟩ : ∃ D : List (Tmp × SP), D = [(117, SP.is (.agg KK.toArray)), (118, SP.is (.slice A M1 c)), (119, SP.is (.int .i64 (n : Int))), (120, SP.is (.slice A n c)), (121, SP.lk n (dcs K0 (es.take n) n)), (18, SP.lk n (dcs K0 (es.take n) n))] := ⟨_, rfl⟩
    refine wp_region_down (by kernel_rfl) (fun listed ac W => listed.size = 6 ∧ Fp D a0 listed ac W ∧ Below Z.heap.size Z W ∧ Row W b5 KK 51) ?_ ?_ ?_
    · exact ⟨by simp, Fp.start D a0 _ _, Below.drew hb1, Row.drew r5⟩
    · clear ha0 hb1 r5 
      intro listed ac W k hI hdn hk
      obtain ⟨hl, hF, hb1, r5⟩ := hI
      have hk1 : k < 6 := List.mem_range.1 (List.mem_filter.1 hk).1
      have hl2 : ∀ j, (listed.setIfInBounds j true).size = 6 := fun j => by rw [Array.size_setIfInBounds]; exact hl
      rcases (show k = 0 ∨ k = 1 ∨ k = 2 ∨ k = 3 ∨ k = 4 ∨ k = 5 by omega) with rfl | rfl | rfl | rfl | rfl | rfl
      · have hk3 := hk
        exact wpOp_plain rfl rfl (wp_load_mid 51 (.tmp 5) rfl b5 0 ((hF.keep 5 (by rw [hD]; rfl)).trans zs5) KK _ r5.all Tryz.underlying51 rfl HKI.out ⟨hl2 0, (hF.put 0 117 (SP.is (.agg KK.toArray)) (.agg KK.toArray) (by rw [hD]; rfl) rfl (by rw [hD]; rfl) (by rw [hsz]; decide) (by rw [hl]; decide)), hb1, r5⟩)
      · have hk3 := hk
        exact wpOp_plain rfl rfl (wp_move_v (ac.eval (.tmp 7)) rfl rfl ⟨hl2 1, (hF.put 1 118 (SP.is (.slice A M1 c)) (ac.eval (.tmp 7)) (by rw [hD]; rfl) (((hF.keep 7 (by rw [hD]; rfl)).trans zs7)) (by rw [hD]; rfl) (by rw [hsz]; decide) (by rw [hl]; decide)), hb1, r5⟩)
      · have hk3 := hk
        exact wpOp_plain rfl rfl (wp_move_v (ac.eval (.tmp 9)) rfl rfl ⟨hl2 2, (hF.put 2 119 (SP.is (.int .i64 (n : Int))) (ac.eval (.tmp 9)) (by rw [hD]; rfl) (((hF.keep 9 (by rw [hD]; rfl)).trans zs9)) (by rw [hD]; rfl) (by rw [hsz]; decide) (by rw [hl]; decide)), hb1, r5⟩)
      · have hk3 := hk
        have ea := (hF.done 1 (118, SP.is (.slice A M1 c)) (by rw [hD]; rfl) (ready_dep hk 1 (by kernel_rfl)))
        have eb := (hF.done 2 (119, SP.is (.int .i64 (n : Int))) (by rw [hD]; rfl) (ready_dep hk 2 (by kernel_rfl)))
        exact wpOp_plain rfl rfl (wp_cutTo 52 46 (.tmp 118) (.tmp 119) A M1 c n 49 rfl ea eb HCN1.out Tryz.underlying52 info_ent ⟨hl2 3, (hF.put 3 120 (SP.is (.slice A n c)) (.slice A n c) (by rw [hD]; rfl) rfl (by rw [hD]; rfl) (by rw [hsz]; decide) (by rw [hl]; decide)), hb1, r5⟩)
      · have hk3 := hk
        have e117 := (hF.done 0 (117, SP.is (.agg KK.toArray)) (by rw [hD]; rfl) (ready_dep hk 0 (by kernel_rfl)))
        have e120 := (hF.done 3 (120, SP.is (.slice A n c)) (by rw [hD]; rfl) (ready_dep hk 3 (by kernel_rfl)))
        refine wpOp_plain rfl rfl (wp_fcall_v 13 #[.agg KK.toArray, .slice A n c] rfl rfl (by show [ac.eval (.tmp 117), ac.eval (.tmp 120)] = _; rw [show ac.eval (.tmp 117) = _ from e117, show ac.eval (.tmp 120) = _ from e120]) (by go_simp) ((HLS.out W A c ((HS.out.keep hb1)).be ((HS.out.keep hb1)).ea).mono ?_))
        rintro e W2 ⟨g9, c9, rfl, hL9, hB⟩
        exact ⟨_, rfl, hl2 4, ((hF.world hB).put 4 121 (SP.lk n (dcs K0 (es.take n) n)) (.slice (some ⟨g9, 0, none⟩) (n + 1) c9) (by rw [hD]; rfl) (⟨g9, c9, rfl, hL9⟩) (by rw [hD]; rfl) (by rw [hsz]; decide) (by rw [hl]; decide)), hb1.trans (hB.mono hb1.size), Row.below r5 hB (Row.lt r5)⟩
      · have hk3 := hk
        exact wpOp_plain rfl rfl (wp_assign_v (ac.eval (.tmp 121)) rfl rfl ⟨hl2 5, (hF.put 5 18 (SP.lk n (dcs K0 (es.take n) n)) (ac.eval (.tmp 121)) (by rw [hD]; rfl) ((hF.done 4 (121, SP.lk n (dcs K0 (es.take n) n)) (by rw [hD]; rfl) (ready_dep hk 4 (by kernel_rfl)))) (by rw [hD]; rfl) (by rw [hsz]; decide) (by rw [hl]; decide)), hb1, r5⟩)
    · clear hb1 r5 
      intro listed ac W hI hr
      obtain ⟨hl, hF, hb1, r5⟩ := hI
      have hall := all_listed (by kernel_rfl) hl hr
      have h117 : ac.eval (.tmp 117) = .agg KK.toArray := hF.done 0 (117, SP.is (.agg KK.toArray)) (by rw [hD]; rfl) (hall 0 (by decide))
      have h118 : ac.eval (.tmp 118) = .slice A M1 c := hF.done 1 (118, SP.is (.slice A M1 c)) (by rw [hD]; rfl) (hall 1 (by decide))
      have h119 : ac.eval (.tmp 119) = .int .i64 (n : Int) := hF.done 2 (119, SP.is (.int .i64 (n : Int))) (by rw [hD]; rfl) (hall 2 (by decide))
      have h120 : ac.eval (.tmp 120) = .slice A n c := hF.done 3 (120, SP.is (.slice A n c)) (by rw [hD]; rfl) (hall 3 (by decide))
      obtain ⟨x121, h121⟩ : ∃ x, ac.eval (.tmp 121) = x := ⟨_, rfl⟩
      have f18 := hF.done 5 (18, SP.lk n (dcs K0 (es.take n) n)) (by rw [hD]; rfl) (hall 5 (by decide))
      obtain ⟨x18, h18⟩ : ∃ x, ac.eval (.tmp 18) = x := ⟨_, rfl⟩
      replace f18 : (SP.lk n (dcs K0 (es.take n) n)).P W x18 := by rw [← h18]; exact f18
      have ea := hF.lay [(117, .agg KK.toArray), (118, .slice A M1 c), (119, .int .i64 (n : Int)), (120, .slice A n c), (121, x121), (18, x18)] (by rw [hD, hsz]; rfl) (by simp only [List.forall_mem_cons, List.not_mem_nil, false_implies, implies_true, and_true]; exact ⟨h117, h118, h119, h120, h121, h18⟩)
      rw [ha0] at ea
      simp only [List.foldl_cons, List.foldl_nil, List.setIfInBounds_toArray, List.set_cons_zero, List.set_cons_succ] at ea
      clear hF hall hr hl hD  zs5 zs7 zs8 zs9 ha0 hsz h117 h118 h119 h120 h121 h18
      subst ea
      obtain ⟨g, d, hx18, hLw⟩ := f18
      subst hx18
      obtain ⟨Z1, hZ1⟩ : ∃ Z, Z = W := ⟨_, rfl⟩
      rw [← hZ1] at hb1 hLw r5 ⊢
      have U1 : Hid (S2 w Z1 es fs A A' p p' v v' b5 KK) := HS.out.keep hb1
      have LW1 : Hid (Lw Z1 51 32 (.slice (some ⟨g, 0, none⟩) (n + 1) d) (n + 1) (dcs K0 (es.take n) n)) := hLw
      clear hZ1 hLw hb1 HS HLS
      obtain ⟨q6, hq6⟩ : ∃ q, q = 0 + n * 32 := ⟨_, rfl⟩
      have HQ6 : Hid (0 + n * 32 = q6) := hq6.symm
      have HRT : Hid (∀ X, Below Z1.heap.size Z1 X → X.rangeAt g q6 (vB tn)) := fun X k2 j u hj => by
        have := (Lw.be LW1.out k2).range (n * 32 + j) u (HDA.out j u hj)
        rw [show q6 + j = 0 + (n * 32 + j) by omega]
        exact this
      have HNN : Hid (n < n + 1) := Nat.lt_succ_self n
      clear hq6 LW1
      go_upto_region 23 with fail
      have hb1 := Below.refl Z1.heap.size Z1
      refine wp_named fun a0 ha0 => ?_
      have hsz : a0.tmps.size = 183 := by rw [ha0]; rfl
      have zs5 : a0.eval (.tmp 5) = .pointer (some ⟨b5, 0, none⟩) := by rw [ha0]; rfl
      have zs7 : a0.eval (.tmp 7) = .slice A M1 c := by rw [ha0]; rfl
      have zs8 : a0.eval (.tmp 8) = .slice A' M2 c' := by rw [ha0]; rfl
      have zs9 : a0.eval (.tmp 9) = .int .i64 (n : Int) := by rw [ha0]; rfl
      have zs18 : a0.eval (.tmp 18) = .slice (some ⟨g, 0, none⟩) (n + 1) d := by rw [ha0]; rfl
      obtain ⟨D, hD⟩ : ∃ D : List (Tmp × SP), D = [(122, SP.is (.agg KK.toArray)), (123, SP.is (.slice (some ⟨g, 0, none⟩) (n + 1) d)), (124, SP.is (.int .i64 (n : Int))), (125, SP.is (.pointer (some ⟨g, q6, none⟩))), (126, SP.is (.agg (vB tn).toArray)), (127, SP.is (.slice A M1 c)), (128, SP.is (.int .i64 (n : Int))), (129, SP.is (.slice A n c)), (130, SP.is (.int .i64 0)), (19, SP.is (.int .i64 0))] := ⟨_, rfl⟩
      refine wp_region_down (by kernel_rfl) (fun listed ac W => listed.size = 10 ∧ Fp D a0 listed ac W ∧ Below Z1.heap.size Z1 W ∧ Row W b5 KK 51) ?_ ?_ ?_
      · exact ⟨by simp, Fp.start D a0 _ _, Below.drew hb1, Row.drew r5⟩
      · clear ha0 hb1 r5 
        intro listed ac W k hI hdn hk
        obtain ⟨hl, hF, hb1, r5⟩ := hI
        have hk1 : k < 10 := List.mem_range.1 (List.mem_filter.1 hk).1
        have hl2 : ∀ j, (listed.setIfInBounds j true).size = 10 := fun j => by rw [Array.size_setIfInBounds]; exact hl
        rcases (show k = 0 ∨ k = 1 ∨ k = 2 ∨ k = 3 ∨ k = 4 ∨ k = 5 ∨ k = 6 ∨ k = 7 ∨ k = 8 ∨ k = 9 by omega) with rfl | rfl | rfl | rfl | rfl | rfl | rfl | rfl | rfl | rfl
        · have hk3 := hk
          exact wpOp_plain rfl rfl (wp_load_mid 51 (.tmp 5) rfl b5 0 ((hF.keep 5 (by rw [hD]; rfl)).trans zs5) KK _ r5.all Tryz.underlying51 rfl HKI.out ⟨hl2 0, (hF.put 0 122 (SP.is (.agg KK.toArray)) (.agg KK.toArray) (by rw [hD]; rfl) rfl (by rw [hD]; rfl) (by rw [hsz]; decide) (by rw [hl]; decide)), hb1, r5⟩)
        · have hk3 := hk
          exact wpOp_plain rfl rfl (wp_move_v (ac.eval (.tmp 18)) rfl rfl ⟨hl2 1, (hF.put 1 123 (SP.is (.slice (some ⟨g, 0, none⟩) (n + 1) d)) (ac.eval (.tmp 18)) (by rw [hD]; rfl) (((hF.keep 18 (by rw [hD]; rfl)).trans zs18)) (by rw [hD]; rfl) (by rw [hsz]; decide) (by rw [hl]; decide)), hb1, r5⟩)
        · have hk3 := hk
          exact wpOp_plain rfl rfl (wp_move_v (ac.eval (.tmp 9)) rfl rfl ⟨hl2 2, (hF.put 2 124 (SP.is (.int .i64 (n : Int))) (ac.eval (.tmp 9)) (by rw [hD]; rfl) (((hF.keep 9 (by rw [hD]; rfl)).trans zs9)) (by rw [hD]; rfl) (by rw [hsz]; decide) (by rw [hl]; decide)), hb1, r5⟩)
        · have hk3 := hk
          have ea := (hF.done 1 (123, SP.is (.slice (some ⟨g, 0, none⟩) (n + 1) d)) (by rw [hD]; rfl) (ready_dep hk 1 (by kernel_rfl)))
          have eb := (hF.done 2 (124, SP.is (.int .i64 (n : Int))) (by rw [hD]; rfl) (ready_dep hk 2 (by kernel_rfl)))
          exact wpOp_plain rfl rfl (wp_ixO 54 51 rfl g 0 (n + 1) d n 32 q6 HQ6.out ea eb HNN.out Tryz.underlying54 info_dg ⟨hl2 3, (hF.put 3 125 (SP.is (.pointer (some ⟨g, q6, none⟩))) (.pointer (some ⟨g, q6, none⟩)) (by rw [hD]; rfl) rfl (by rw [hD]; rfl) (by rw [hsz]; decide) (by rw [hl]; decide)), hb1, r5⟩)
        · have hk3 := hk
          have ea := (hF.done 3 (125, SP.is (.pointer (some ⟨g, q6, none⟩))) (by rw [hD]; rfl) (ready_dep hk 3 (by kernel_rfl)))
          exact wpOp_plain rfl rfl (wp_load_mid 51 (.tmp 125) rfl g q6 ea (vB tn) _ (HRT.out W hb1) Tryz.underlying51 rfl HTI.out ⟨hl2 4, (hF.put 4 126 (SP.is (.agg (vB tn).toArray)) (.agg (vB tn).toArray) (by rw [hD]; rfl) rfl (by rw [hD]; rfl) (by rw [hsz]; decide) (by rw [hl]; decide)), hb1, r5⟩)
        · have hk3 := hk
          exact wpOp_plain rfl rfl (wp_move_v (ac.eval (.tmp 7)) rfl rfl ⟨hl2 5, (hF.put 5 127 (SP.is (.slice A M1 c)) (ac.eval (.tmp 7)) (by rw [hD]; rfl) (((hF.keep 7 (by rw [hD]; rfl)).trans zs7)) (by rw [hD]; rfl) (by rw [hsz]; decide) (by rw [hl]; decide)), hb1, r5⟩)
        · have hk3 := hk
          exact wpOp_plain rfl rfl (wp_move_v (ac.eval (.tmp 9)) rfl rfl ⟨hl2 6, (hF.put 6 128 (SP.is (.int .i64 (n : Int))) (ac.eval (.tmp 9)) (by rw [hD]; rfl) (((hF.keep 9 (by rw [hD]; rfl)).trans zs9)) (by rw [hD]; rfl) (by rw [hsz]; decide) (by rw [hl]; decide)), hb1, r5⟩)
        · have hk3 := hk
          have ea := (hF.done 5 (127, SP.is (.slice A M1 c)) (by rw [hD]; rfl) (ready_dep hk 5 (by kernel_rfl)))
          have eb := (hF.done 6 (128, SP.is (.int .i64 (n : Int))) (by rw [hD]; rfl) (ready_dep hk 6 (by kernel_rfl)))
          exact wpOp_plain rfl rfl (wp_cutTo 52 46 (.tmp 127) (.tmp 128) A M1 c n 49 rfl ea eb HCN1.out Tryz.underlying52 info_ent ⟨hl2 7, (hF.put 7 129 (SP.is (.slice A n c)) (.slice A n c) (by rw [hD]; rfl) rfl (by rw [hD]; rfl) (by rw [hsz]; decide) (by rw [hl]; decide)), hb1, r5⟩)
        · have hk3 := hk
          have e122 := (hF.done 0 (122, SP.is (.agg KK.toArray)) (by rw [hD]; rfl) (ready_dep hk 0 (by kernel_rfl)))
          have e126 := (hF.done 4 (126, SP.is (.agg (vB tn).toArray)) (by rw [hD]; rfl) (ready_dep hk 4 (by kernel_rfl)))
          have e129 := (hF.done 7 (129, SP.is (.slice A n c)) (by rw [hD]; rfl) (ready_dep hk 7 (by kernel_rfl)))
          refine wpOp_plain rfl rfl (wp_fcall_v 14 #[.agg KK.toArray, .agg (vB tn).toArray, .slice A n c] rfl rfl (by show [ac.eval (.tmp 122), ac.eval (.tmp 126), ac.eval (.tmp 129)] = _; rw [show ac.eval (.tmp 122) = _ from e122, show ac.eval (.tmp 126) = _ from e126, show ac.eval (.tmp 129) = _ from e129]) (by go_simp) ((HC1.out W A c ((U1.out.keep hb1)).be ((U1.out.keep hb1)).ea).mono ?_))
          rintro e W2 ⟨rfl, hB⟩
          exact ⟨_, rfl, hl2 8, ((hF.world hB).put 8 130 (SP.is (.int .i64 0)) (.int .i64 0) (by rw [hD]; rfl) rfl (by rw [hD]; rfl) (by rw [hsz]; decide) (by rw [hl]; decide)), hb1.trans (hB.mono hb1.size), Row.below r5 hB (Row.lt r5)⟩
        · have hk3 := hk
          exact wpOp_plain rfl rfl (wp_assign_v (ac.eval (.tmp 130)) rfl rfl ⟨hl2 9, (hF.put 9 19 (SP.is (.int .i64 0)) (ac.eval (.tmp 130)) (by rw [hD]; rfl) ((hF.done 8 (130, SP.is (.int .i64 0)) (by rw [hD]; rfl) (ready_dep hk 8 (by kernel_rfl)))) (by rw [hD]; rfl) (by rw [hsz]; decide) (by rw [hl]; decide)), hb1, r5⟩)
      · clear hb1 r5 
        intro listed ac W hI hr
        obtain ⟨hl, hF, hb1, r5⟩ := hI
        have hall := all_listed (by kernel_rfl) hl hr
        have h122 : ac.eval (.tmp 122) = .agg KK.toArray := hF.done 0 (122, SP.is (.agg KK.toArray)) (by rw [hD]; rfl) (hall 0 (by decide))
        have h123 : ac.eval (.tmp 123) = .slice (some ⟨g, 0, none⟩) (n + 1) d := hF.done 1 (123, SP.is (.slice (some ⟨g, 0, none⟩) (n + 1) d)) (by rw [hD]; rfl) (hall 1 (by decide))
        have h124 : ac.eval (.tmp 124) = .int .i64 (n : Int) := hF.done 2 (124, SP.is (.int .i64 (n : Int))) (by rw [hD]; rfl) (hall 2 (by decide))
        have h125 : ac.eval (.tmp 125) = .pointer (some ⟨g, q6, none⟩) := hF.done 3 (125, SP.is (.pointer (some ⟨g, q6, none⟩))) (by rw [hD]; rfl) (hall 3 (by decide))
        have h126 : ac.eval (.tmp 126) = .agg (vB tn).toArray := hF.done 4 (126, SP.is (.agg (vB tn).toArray)) (by rw [hD]; rfl) (hall 4 (by decide))
        have h127 : ac.eval (.tmp 127) = .slice A M1 c := hF.done 5 (127, SP.is (.slice A M1 c)) (by rw [hD]; rfl) (hall 5 (by decide))
        have h128 : ac.eval (.tmp 128) = .int .i64 (n : Int) := hF.done 6 (128, SP.is (.int .i64 (n : Int))) (by rw [hD]; rfl) (hall 6 (by decide))
        have h129 : ac.eval (.tmp 129) = .slice A n c := hF.done 7 (129, SP.is (.slice A n c)) (by rw [hD]; rfl) (hall 7 (by decide))
        have h130 : ac.eval (.tmp 130) = .int .i64 0 := hF.done 8 (130, SP.is (.int .i64 0)) (by rw [hD]; rfl) (hall 8 (by decide))
        have h19 : ac.eval (.tmp 19) = .int .i64 0 := hF.done 9 (19, SP.is (.int .i64 0)) (by rw [hD]; rfl) (hall 9 (by decide))
        have ea := hF.lay [(122, .agg KK.toArray), (123, .slice (some ⟨g, 0, none⟩) (n + 1) d), (124, .int .i64 (n : Int)), (125, .pointer (some ⟨g, q6, none⟩)), (126, .agg (vB tn).toArray), (127, .slice A M1 c), (128, .int .i64 (n : Int)), (129, .slice A n c), (130, .int .i64 0), (19, .int .i64 0)] (by rw [hD, hsz]; rfl) (by simp only [List.forall_mem_cons, List.not_mem_nil, false_implies, implies_true, and_true]; exact ⟨h122, h123, h124, h125, h126, h127, h128, h129, h130, h19⟩)
        rw [ha0] at ea
        simp only [List.foldl_cons, List.foldl_nil, List.setIfInBounds_toArray, List.set_cons_zero, List.set_cons_succ] at ea
        clear hF hall hr hl hD  zs5 zs7 zs8 zs9 zs18 ha0 hsz h122 h123 h124 h125 h126 h127 h128 h129 h130 h19
        subst ea
        obtain ⟨Z2, hZ2⟩ : ∃ Z, Z = W := ⟨_, rfl⟩
        rw [← hZ2] at hb1 r5 ⊢
        have U2 : Hid (S2 w Z2 es fs A A' p p' v v' b5 KK) := U1.out.keep hb1
        have HZ2 : Hid (Below Z1.heap.size Z1 Z2) := hb1
        clear hZ2 hb1 U1 HC1
        go_upto_region 24 with fail
        have hb1 := Below.refl Z2.heap.size Z2
        refine wp_named fun a0 ha0 => ?_
        have hsz : a0.tmps.size = 183 := by rw [ha0]; rfl
        have zs5 : a0.eval (.tmp 5) = .pointer (some ⟨b5, 0, none⟩) := by rw [ha0]; rfl
        have zs7 : a0.eval (.tmp 7) = .slice A M1 c := by rw [ha0]; rfl
        have zs8 : a0.eval (.tmp 8) = .slice A' M2 c' := by rw [ha0]; rfl
        have zs9 : a0.eval (.tmp 9) = .int .i64 (n : Int) := by rw [ha0]; rfl
        have zs18 : a0.eval (.tmp 18) = .slice (some ⟨g, 0, none⟩) (n + 1) d := by rw [ha0]; rfl
        obtain ⟨D, hD⟩ : ∃ D : List (Tmp × SP), D = [(131, SP.is (.agg KK.toArray)), (132, SP.is (.slice (some ⟨g, 0, none⟩) (n + 1) d)), (133, SP.is (.int .i64 (n : Int))), (134, SP.is (.pointer (some ⟨g, q6, none⟩))), (135, SP.is (.agg (vB tn).toArray)), (136, SP.is (.slice A' M2 c')), (137, SP.is (.int .i64 (n : Int))), (138, SP.is (.slice A' n c')), (139, SP.is (.int .i64 E2)), (20, SP.is (.int .i64 E2))] := ⟨_, rfl⟩
        refine wp_region_down (by kernel_rfl) (fun listed ac W => listed.size = 10 ∧ Fp D a0 listed ac W ∧ Below Z2.heap.size Z2 W ∧ Row W b5 KK 51) ?_ ?_ ?_
        · exact ⟨by simp, Fp.start D a0 _ _, Below.drew hb1, Row.drew r5⟩
        · clear ha0 hb1 r5 
          intro listed ac W k hI hdn hk
          obtain ⟨hl, hF, hb1, r5⟩ := hI
          have hk1 : k < 10 := List.mem_range.1 (List.mem_filter.1 hk).1
          have hl2 : ∀ j, (listed.setIfInBounds j true).size = 10 := fun j => by rw [Array.size_setIfInBounds]; exact hl
          rcases (show k = 0 ∨ k = 1 ∨ k = 2 ∨ k = 3 ∨ k = 4 ∨ k = 5 ∨ k = 6 ∨ k = 7 ∨ k = 8 ∨ k = 9 by omega) with rfl | rfl | rfl | rfl | rfl | rfl | rfl | rfl | rfl | rfl
          · have hk3 := hk
            exact wpOp_plain rfl rfl (wp_load_mid 51 (.tmp 5) rfl b5 0 ((hF.keep 5 (by rw [hD]; rfl)).trans zs5) KK _ r5.all Tryz.underlying51 rfl HKI.out ⟨hl2 0, (hF.put 0 131 (SP.is (.agg KK.toArray)) (.agg KK.toArray) (by rw [hD]; rfl) rfl (by rw [hD]; rfl) (by rw [hsz]; decide) (by rw [hl]; decide)), hb1, r5⟩)
          · have hk3 := hk
            exact wpOp_plain rfl rfl (wp_move_v (ac.eval (.tmp 18)) rfl rfl ⟨hl2 1, (hF.put 1 132 (SP.is (.slice (some ⟨g, 0, none⟩) (n + 1) d)) (ac.eval (.tmp 18)) (by rw [hD]; rfl) (((hF.keep 18 (by rw [hD]; rfl)).trans zs18)) (by rw [hD]; rfl) (by rw [hsz]; decide) (by rw [hl]; decide)), hb1, r5⟩)
          · have hk3 := hk
            exact wpOp_plain rfl rfl (wp_move_v (ac.eval (.tmp 9)) rfl rfl ⟨hl2 2, (hF.put 2 133 (SP.is (.int .i64 (n : Int))) (ac.eval (.tmp 9)) (by rw [hD]; rfl) (((hF.keep 9 (by rw [hD]; rfl)).trans zs9)) (by rw [hD]; rfl) (by rw [hsz]; decide) (by rw [hl]; decide)), hb1, r5⟩)
          · have hk3 := hk
            have ea := (hF.done 1 (132, SP.is (.slice (some ⟨g, 0, none⟩) (n + 1) d)) (by rw [hD]; rfl) (ready_dep hk 1 (by kernel_rfl)))
            have eb := (hF.done 2 (133, SP.is (.int .i64 (n : Int))) (by rw [hD]; rfl) (ready_dep hk 2 (by kernel_rfl)))
            exact wpOp_plain rfl rfl (wp_ixO 54 51 rfl g 0 (n + 1) d n 32 q6 HQ6.out ea eb HNN.out Tryz.underlying54 info_dg ⟨hl2 3, (hF.put 3 134 (SP.is (.pointer (some ⟨g, q6, none⟩))) (.pointer (some ⟨g, q6, none⟩)) (by rw [hD]; rfl) rfl (by rw [hD]; rfl) (by rw [hsz]; decide) (by rw [hl]; decide)), hb1, r5⟩)
          · have hk3 := hk
            have ea := (hF.done 3 (134, SP.is (.pointer (some ⟨g, q6, none⟩))) (by rw [hD]; rfl) (ready_dep hk 3 (by kernel_rfl)))
            exact wpOp_plain rfl rfl (wp_load_mid 51 (.tmp 134) rfl g q6 ea (vB tn) _ (HRT.out W (HZ2.out.trans (hb1.mono HZ2.out.size))) Tryz.underlying51 rfl HTI.out ⟨hl2 4, (hF.put 4 135 (SP.is (.agg (vB tn).toArray)) (.agg (vB tn).toArray) (by rw [hD]; rfl) rfl (by rw [hD]; rfl) (by rw [hsz]; decide) (by rw [hl]; decide)), hb1, r5⟩)
          · have hk3 := hk
            exact wpOp_plain rfl rfl (wp_move_v (ac.eval (.tmp 8)) rfl rfl ⟨hl2 5, (hF.put 5 136 (SP.is (.slice A' M2 c')) (ac.eval (.tmp 8)) (by rw [hD]; rfl) (((hF.keep 8 (by rw [hD]; rfl)).trans zs8)) (by rw [hD]; rfl) (by rw [hsz]; decide) (by rw [hl]; decide)), hb1, r5⟩)
          · have hk3 := hk
            exact wpOp_plain rfl rfl (wp_move_v (ac.eval (.tmp 9)) rfl rfl ⟨hl2 6, (hF.put 6 137 (SP.is (.int .i64 (n : Int))) (ac.eval (.tmp 9)) (by rw [hD]; rfl) (((hF.keep 9 (by rw [hD]; rfl)).trans zs9)) (by rw [hD]; rfl) (by rw [hsz]; decide) (by rw [hl]; decide)), hb1, r5⟩)
          · have hk3 := hk
            have ea := (hF.done 5 (136, SP.is (.slice A' M2 c')) (by rw [hD]; rfl) (ready_dep hk 5 (by kernel_rfl)))
            have eb := (hF.done 6 (137, SP.is (.int .i64 (n : Int))) (by rw [hD]; rfl) (ready_dep hk 6 (by kernel_rfl)))
            exact wpOp_plain rfl rfl (wp_cutTo 52 46 (.tmp 136) (.tmp 137) A' M2 c' n 49 rfl ea eb HCN2.out Tryz.underlying52 info_ent ⟨hl2 7, (hF.put 7 138 (SP.is (.slice A' n c')) (.slice A' n c') (by rw [hD]; rfl) rfl (by rw [hD]; rfl) (by rw [hsz]; decide) (by rw [hl]; decide)), hb1, r5⟩)
          · have hk3 := hk
            have e131 := (hF.done 0 (131, SP.is (.agg KK.toArray)) (by rw [hD]; rfl) (ready_dep hk 0 (by kernel_rfl)))
            have e135 := (hF.done 4 (135, SP.is (.agg (vB tn).toArray)) (by rw [hD]; rfl) (ready_dep hk 4 (by kernel_rfl)))
            have e138 := (hF.done 7 (138, SP.is (.slice A' n c')) (by rw [hD]; rfl) (ready_dep hk 7 (by kernel_rfl)))
            refine wpOp_plain rfl rfl (wp_fcall_v 14 #[.agg KK.toArray, .agg (vB tn).toArray, .slice A' n c'] rfl rfl (by show [ac.eval (.tmp 131), ac.eval (.tmp 135), ac.eval (.tmp 138)] = _; rw [show ac.eval (.tmp 131) = _ from e131, show ac.eval (.tmp 135) = _ from e135, show ac.eval (.tmp 138) = _ from e138]) (by go_simp) ((HC2.out W A' c' ((U2.out.keep hb1)).be ((U2.out.keep hb1)).eb).mono ?_))
            rintro e W2 ⟨rfl, hB⟩
            exact ⟨_, rfl, hl2 8, ((hF.world hB).put 8 139 (SP.is (.int .i64 E2)) (.int .i64 E2) (by rw [hD]; rfl) rfl (by rw [hD]; rfl) (by rw [hsz]; decide) (by rw [hl]; decide)), hb1.trans (hB.mono hb1.size), Row.below r5 hB (Row.lt r5)⟩
          · have hk3 := hk
            exact wpOp_plain rfl rfl (wp_assign_v (ac.eval (.tmp 139)) rfl rfl ⟨hl2 9, (hF.put 9 20 (SP.is (.int .i64 E2)) (ac.eval (.tmp 139)) (by rw [hD]; rfl) ((hF.done 8 (139, SP.is (.int .i64 E2)) (by rw [hD]; rfl) (ready_dep hk 8 (by kernel_rfl)))) (by rw [hD]; rfl) (by rw [hsz]; decide) (by rw [hl]; decide)), hb1, r5⟩)
        · clear hb1 r5 
          intro listed ac W hI hr
          obtain ⟨hl, hF, hb1, r5⟩ := hI
          have hall := all_listed (by kernel_rfl) hl hr
          have h131 : ac.eval (.tmp 131) = .agg KK.toArray := hF.done 0 (131, SP.is (.agg KK.toArray)) (by rw [hD]; rfl) (hall 0 (by decide))
          have h132 : ac.eval (.tmp 132) = .slice (some ⟨g, 0, none⟩) (n + 1) d := hF.done 1 (132, SP.is (.slice (some ⟨g, 0, none⟩) (n + 1) d)) (by rw [hD]; rfl) (hall 1 (by decide))
          have h133 : ac.eval (.tmp 133) = .int .i64 (n : Int) := hF.done 2 (133, SP.is (.int .i64 (n : Int))) (by rw [hD]; rfl) (hall 2 (by decide))
          have h134 : ac.eval (.tmp 134) = .pointer (some ⟨g, q6, none⟩) := hF.done 3 (134, SP.is (.pointer (some ⟨g, q6, none⟩))) (by rw [hD]; rfl) (hall 3 (by decide))
          have h135 : ac.eval (.tmp 135) = .agg (vB tn).toArray := hF.done 4 (135, SP.is (.agg (vB tn).toArray)) (by rw [hD]; rfl) (hall 4 (by decide))
          have h136 : ac.eval (.tmp 136) = .slice A' M2 c' := hF.done 5 (136, SP.is (.slice A' M2 c')) (by rw [hD]; rfl) (hall 5 (by decide))
          have h137 : ac.eval (.tmp 137) = .int .i64 (n : Int) := hF.done 6 (137, SP.is (.int .i64 (n : Int))) (by rw [hD]; rfl) (hall 6 (by decide))
          have h138 : ac.eval (.tmp 138) = .slice A' n c' := hF.done 7 (138, SP.is (.slice A' n c')) (by rw [hD]; rfl) (hall 7 (by decide))
          have h139 : ac.eval (.tmp 139) = .int .i64 E2 := hF.done 8 (139, SP.is (.int .i64 E2)) (by rw [hD]; rfl) (hall 8 (by decide))
          have h20 : ac.eval (.tmp 20) = .int .i64 E2 := hF.done 9 (20, SP.is (.int .i64 E2)) (by rw [hD]; rfl) (hall 9 (by decide))
          have ea := hF.lay [(131, .agg KK.toArray), (132, .slice (some ⟨g, 0, none⟩) (n + 1) d), (133, .int .i64 (n : Int)), (134, .pointer (some ⟨g, q6, none⟩)), (135, .agg (vB tn).toArray), (136, .slice A' M2 c'), (137, .int .i64 (n : Int)), (138, .slice A' n c'), (139, .int .i64 E2), (20, .int .i64 E2)] (by rw [hD, hsz]; rfl) (by simp only [List.forall_mem_cons, List.not_mem_nil, false_implies, implies_true, and_true]; exact ⟨h131, h132, h133, h134, h135, h136, h137, h138, h139, h20⟩)
          rw [ha0] at ea
          simp only [List.foldl_cons, List.foldl_nil, List.setIfInBounds_toArray, List.set_cons_zero, List.set_cons_succ] at ea
          clear hF hall hr hl hD  zs5 zs7 zs8 zs9 zs18 ha0 hsz h131 h132 h133 h134 h135 h136 h137 h138 h139 h20
          subst ea
          obtain ⟨Z3, hZ3⟩ : ∃ Z, Z = W := ⟨_, rfl⟩
          rw [← hZ3] at hb1 r5 ⊢
          have U3 : Hid (S2 w Z3 es fs A A' p p' v v' b5 KK) := U2.out.keep hb1
          clear hZ3 hb1 U2 HC2 HRT HZ2
          go_upto_region 25 with fail
          have hb1 := Below.refl Z3.heap.size Z3
          refine wp_named fun a0 ha0 => ?_
          have hsz : a0.tmps.size = 183 := by rw [ha0]; rfl
          have zs5 : a0.eval (.tmp 5) = .pointer (some ⟨b5, 0, none⟩) := by rw [ha0]; rfl
          have zs7 : a0.eval (.tmp 7) = .slice A M1 c := by rw [ha0]; rfl
          have zs8 : a0.eval (.tmp 8) = .slice A' M2 c' := by rw [ha0]; rfl
          have zs9 : a0.eval (.tmp 9) = .int .i64 (n : Int) := by rw [ha0]; rfl
          obtain ⟨D, hD⟩ : ∃ D : List (Tmp × SP), D = [(140, SP.is (.slice A M1 c)), (141, SP.is (.int .i64 (n : Int))), (142, SP.is (.slice A n c)), (143, SP.is (.slice A' M2 c')), (144, SP.is (.int .i64 (n : Int))), (145, SP.is (.slice A' n c')), (146, SP.is (.bool AB)), (21, SP.is (.bool AB))] := ⟨_, rfl⟩
          refine wp_region_down (by kernel_rfl) (fun listed ac W => listed.size = 8 ∧ Fp D a0 listed ac W ∧ Below Z3.heap.size Z3 W ∧ Row W b5 KK 51) ?_ ?_ ?_
          · exact ⟨by simp, Fp.start D a0 _ _, Below.drew hb1, Row.drew r5⟩
          · clear ha0 hb1 r5 
            intro listed ac W k hI hdn hk
            obtain ⟨hl, hF, hb1, r5⟩ := hI
            have hk1 : k < 8 := List.mem_range.1 (List.mem_filter.1 hk).1
            have hl2 : ∀ j, (listed.setIfInBounds j true).size = 8 := fun j => by rw [Array.size_setIfInBounds]; exact hl
            rcases (show k = 0 ∨ k = 1 ∨ k = 2 ∨ k = 3 ∨ k = 4 ∨ k = 5 ∨ k = 6 ∨ k = 7 by omega) with rfl | rfl | rfl | rfl | rfl | rfl | rfl | rfl
            · have hk3 := hk
              exact wpOp_plain rfl rfl (wp_move_v (ac.eval (.tmp 7)) rfl rfl ⟨hl2 0, (hF.put 0 140 (SP.is (.slice A M1 c)) (ac.eval (.tmp 7)) (by rw [hD]; rfl) (((hF.keep 7 (by rw [hD]; rfl)).trans zs7)) (by rw [hD]; rfl) (by rw [hsz]; decide) (by rw [hl]; decide)), hb1, r5⟩)
            · have hk3 := hk
              exact wpOp_plain rfl rfl (wp_move_v (ac.eval (.tmp 9)) rfl rfl ⟨hl2 1, (hF.put 1 141 (SP.is (.int .i64 (n : Int))) (ac.eval (.tmp 9)) (by rw [hD]; rfl) (((hF.keep 9 (by rw [hD]; rfl)).trans zs9)) (by rw [hD]; rfl) (by rw [hsz]; decide) (by rw [hl]; decide)), hb1, r5⟩)
            · have hk3 := hk
              have ea := (hF.done 0 (140, SP.is (.slice A M1 c)) (by rw [hD]; rfl) (ready_dep hk 0 (by kernel_rfl)))
              have eb := (hF.done 1 (141, SP.is (.int .i64 (n : Int))) (by rw [hD]; rfl) (ready_dep hk 1 (by kernel_rfl)))
              exact wpOp_plain rfl rfl (wp_cutTo 52 46 (.tmp 140) (.tmp 141) A M1 c n 49 rfl ea eb HCN1.out Tryz.underlying52 info_ent ⟨hl2 2, (hF.put 2 142 (SP.is (.slice A n c)) (.slice A n c) (by rw [hD]; rfl) rfl (by rw [hD]; rfl) (by rw [hsz]; decide) (by rw [hl]; decide)), hb1, r5⟩)
            · have hk3 := hk
              exact wpOp_plain rfl rfl (wp_move_v (ac.eval (.tmp 8)) rfl rfl ⟨hl2 3, (hF.put 3 143 (SP.is (.slice A' M2 c')) (ac.eval (.tmp 8)) (by rw [hD]; rfl) (((hF.keep 8 (by rw [hD]; rfl)).trans zs8)) (by rw [hD]; rfl) (by rw [hsz]; decide) (by rw [hl]; decide)), hb1, r5⟩)
            · have hk3 := hk
              exact wpOp_plain rfl rfl (wp_move_v (ac.eval (.tmp 9)) rfl rfl ⟨hl2 4, (hF.put 4 144 (SP.is (.int .i64 (n : Int))) (ac.eval (.tmp 9)) (by rw [hD]; rfl) (((hF.keep 9 (by rw [hD]; rfl)).trans zs9)) (by rw [hD]; rfl) (by rw [hsz]; decide) (by rw [hl]; decide)), hb1, r5⟩)
            · have hk3 := hk
              have ea := (hF.done 3 (143, SP.is (.slice A' M2 c')) (by rw [hD]; rfl) (ready_dep hk 3 (by kernel_rfl)))
              have eb := (hF.done 4 (144, SP.is (.int .i64 (n : Int))) (by rw [hD]; rfl) (ready_dep hk 4 (by kernel_rfl)))
              exact wpOp_plain rfl rfl (wp_cutTo 52 46 (.tmp 143) (.tmp 144) A' M2 c' n 49 rfl ea eb HCN2.out Tryz.underlying52 info_ent ⟨hl2 5, (hF.put 5 145 (SP.is (.slice A' n c')) (.slice A' n c') (by rw [hD]; rfl) rfl (by rw [hD]; rfl) (by rw [hsz]; decide) (by rw [hl]; decide)), hb1, r5⟩)
            · have hk3 := hk
              have e142 := (hF.done 2 (142, SP.is (.slice A n c)) (by rw [hD]; rfl) (ready_dep hk 2 (by kernel_rfl)))
              have e145 := (hF.done 5 (145, SP.is (.slice A' n c')) (by rw [hD]; rfl) (ready_dep hk 5 (by kernel_rfl)))
              refine wpOp_plain rfl rfl (wp_fcall_v 25 #[.slice A n c, .slice A' n c'] rfl rfl (by show [ac.eval (.tmp 142), ac.eval (.tmp 145)] = _; rw [show ac.eval (.tmp 142) = _ from e142, show ac.eval (.tmp 145) = _ from e145]) (by go_simp) ((HAL.out W A A' c c' ((U3.out.keep hb1)).be ((U3.out.keep hb1)).ea ((U3.out.keep hb1)).eb).mono ?_))
              rintro e W2 ⟨rfl, hB⟩
              exact ⟨_, rfl, hl2 6, ((hF.world hB).put 6 146 (SP.is (.bool AB)) (.bool AB) (by rw [hD]; rfl) rfl (by rw [hD]; rfl) (by rw [hsz]; decide) (by rw [hl]; decide)), hb1.trans (hB.mono hb1.size), Row.below r5 hB (Row.lt r5)⟩
            · have hk3 := hk
              exact wpOp_plain rfl rfl (wp_assign_v (ac.eval (.tmp 146)) rfl rfl ⟨hl2 7, (hF.put 7 21 (SP.is (.bool AB)) (ac.eval (.tmp 146)) (by rw [hD]; rfl) ((hF.done 6 (146, SP.is (.bool AB)) (by rw [hD]; rfl) (ready_dep hk 6 (by kernel_rfl)))) (by rw [hD]; rfl) (by rw [hsz]; decide) (by rw [hl]; decide)), hb1, r5⟩)
          · clear hb1 r5 
            intro listed ac W hI hr
            obtain ⟨hl, hF, hb1, r5⟩ := hI
            have hall := all_listed (by kernel_rfl) hl hr
            have h140 : ac.eval (.tmp 140) = .slice A M1 c := hF.done 0 (140, SP.is (.slice A M1 c)) (by rw [hD]; rfl) (hall 0 (by decide))
            have h141 : ac.eval (.tmp 141) = .int .i64 (n : Int) := hF.done 1 (141, SP.is (.int .i64 (n : Int))) (by rw [hD]; rfl) (hall 1 (by decide))
            have h142 : ac.eval (.tmp 142) = .slice A n c := hF.done 2 (142, SP.is (.slice A n c)) (by rw [hD]; rfl) (hall 2 (by decide))
            have h143 : ac.eval (.tmp 143) = .slice A' M2 c' := hF.done 3 (143, SP.is (.slice A' M2 c')) (by rw [hD]; rfl) (hall 3 (by decide))
            have h144 : ac.eval (.tmp 144) = .int .i64 (n : Int) := hF.done 4 (144, SP.is (.int .i64 (n : Int))) (by rw [hD]; rfl) (hall 4 (by decide))
            have h145 : ac.eval (.tmp 145) = .slice A' n c' := hF.done 5 (145, SP.is (.slice A' n c')) (by rw [hD]; rfl) (hall 5 (by decide))
            have h146 : ac.eval (.tmp 146) = .bool AB := hF.done 6 (146, SP.is (.bool AB)) (by rw [hD]; rfl) (hall 6 (by decide))
            have h21 : ac.eval (.tmp 21) = .bool AB := hF.done 7 (21, SP.is (.bool AB)) (by rw [hD]; rfl) (hall 7 (by decide))
            have ea := hF.lay [(140, .slice A M1 c), (141, .int .i64 (n : Int)), (142, .slice A n c), (143, .slice A' M2 c'), (144, .int .i64 (n : Int)), (145, .slice A' n c'), (146, .bool AB), (21, .bool AB)] (by rw [hD, hsz]; rfl) (by simp only [List.forall_mem_cons, List.not_mem_nil, false_implies, implies_true, and_true]; exact ⟨h140, h141, h142, h143, h144, h145, h146, h21⟩)
            rw [ha0] at ea
            simp only [List.foldl_cons, List.foldl_nil, List.setIfInBounds_toArray, List.set_cons_zero, List.set_cons_succ] at ea
            clear hF hall hr hl hD  zs5 zs7 zs8 zs9 ha0 hsz h140 h141 h142 h143 h144 h145 h146 h21
            subst ea
            obtain ⟨Z4, hZ4⟩ : ∃ Z, Z = W := ⟨_, rfl⟩
            rw [← hZ4] at hb1 r5 ⊢
            have U4 : Hid (S2 w Z4 es fs A A' p p' v v' b5 KK) := U3.out.keep hb1
            clear hZ4 hb1 U3 HAL
            by_cases hfe : fk = n
            · have hAB : AB = true := by rw [HAF.out]; exact decide_eq_true hfe
              have hE0 : E2 = 0 := HE2.out.1 hAB
              have hfe2 : (fk : Int) = (n : Int) := by omega
              have hfe3 : ((fk : Int) == (n : Int)) = true := by simpa using hfe2
              subst hAB hE0
              clear hfe
              go_upto_region 28 with fail
              clear hfe2 hfe3
              have hb1 := Below.refl Z4.heap.size Z4
              refine wp_named fun a0 ha0 => ?_
              have hsz : a0.tmps.size = 183 := by rw [ha0]; rfl
              have zs5 : a0.eval (.tmp 5) = .pointer (some ⟨b5, 0, none⟩) := by rw [ha0]; rfl
              have zs7 : a0.eval (.tmp 7) = .slice A M1 c := by rw [ha0]; rfl
              have zs8 : a0.eval (.tmp 8) = .slice A' M2 c' := by rw [ha0]; rfl
              have zs9 : a0.eval (.tmp 9) = .int .i64 (n : Int) := by rw [ha0]; rfl
              have zs21 : a0.eval (.tmp 21) = .bool true := by rw [ha0]; rfl
              have zs20 : a0.eval (.tmp 20) = .int .i64 0 := by rw [ha0]; rfl
              obtain ⟨D, hD⟩ : ∃ D : List (Tmp × SP), D = [(156, SP.is (.bool true)), (157, SP.is (.bool true)), (158, SP.is (.int .i64 0)), (159, SP.is (.bool true)), (160, SP.is (.bool true)), (161, SP.is (.bool true)), (162, SP.is (undef)), (163, SP.is (undef)), (164, SP.is (undef)), (165, SP.is (undef)), (166, SP.is (undef)), (167, SP.is (undef)), (168, SP.is (undef)), (169, SP.is (undef)), (170, SP.is (undef)), (171, SP.is (undef)), (172, SP.is (undef)), (173, SP.is (undef)), (174, SP.is (undef)), (175, SP.is (undef)), (176, SP.is (undef)), (177, SP.is (undef)), (178, SP.is (undef)), (179, SP.is (undef)), (180, SP.is (undef)), (181, SP.is (undef)), (182, SP.is (.bool true)), (6, SP.is (.bool true))] := ⟨_, rfl⟩
              refine wp_region_down (by kernel_rfl) (fun listed ac W => listed.size = 28 ∧ Fp D a0 listed ac W ∧ Below Z4.heap.size Z4 W ∧ Row W b5 KK 51) ?_ ?_ ?_
              · exact ⟨by simp, Fp.start D a0 _ _, Below.drew hb1, Row.drew r5⟩
              · clear ha0 hb1 r5 
                intro listed ac W k hI hdn hk
                obtain ⟨hl, hF, hb1, r5⟩ := hI
                have hk1 : k < 28 := List.mem_range.1 (List.mem_filter.1 hk).1
                have hl2 : ∀ j, (listed.setIfInBounds j true).size = 28 := fun j => by rw [Array.size_setIfInBounds]; exact hl
                rcases (show k = 0 ∨ k = 1 ∨ k = 2 ∨ k = 3 ∨ k = 4 ∨ k = 5 ∨ k = 6 ∨ k = 7 ∨ k = 8 ∨ k = 9 ∨ k = 10 ∨ k = 11 ∨ k = 12 ∨ k = 13 ∨ k = 14 ∨ k = 15 ∨ k = 16 ∨ k = 17 ∨ k = 18 ∨ k = 19 ∨ k = 20 ∨ k = 21 ∨ k = 22 ∨ k = 23 ∨ k = 24 ∨ k = 25 ∨ k = 26 ∨ k = 27 by omega) with rfl | rfl | rfl | rfl | rfl | rfl | rfl | rfl | rfl | rfl | rfl | rfl | rfl | rfl | rfl | rfl | rfl | rfl | rfl | rfl | rfl | rfl | rfl | rfl | rfl | rfl | rfl | rfl
                · have hk3 := hk
                  exact wpOp_plain rfl rfl (wp_move_v (ac.eval (.tmp 21)) rfl rfl ⟨hl2 0, (hF.put 0 156 (SP.is (.bool true)) (ac.eval (.tmp 21)) (by rw [hD]; rfl) (((hF.keep 21 (by rw [hD]; rfl)).trans zs21)) (by rw [hD]; rfl) (by rw [hsz]; decide) (by rw [hl]; decide)), hb1, r5⟩)
                · have hk3 := hk
                  exact wpOp_plain rfl rfl (wp_move_v (ac.eval (.tmp 156)) rfl rfl ⟨hl2 1, (hF.put 1 157 (SP.is (.bool true)) (ac.eval (.tmp 156)) (by rw [hD]; rfl) ((hF.done 0 (156, SP.is (.bool true)) (by rw [hD]; rfl) (ready_dep hk 0 (by kernel_rfl)))) (by rw [hD]; rfl) (by rw [hsz]; decide) (by rw [hl]; decide)), hb1, r5⟩)
                · have hk3 := hk
                  exact wpOp_wanted rfl (wanted_g (g := 1) (b := true) rfl rfl (hF.done 1 (157, SP.is (.bool true)) (by rw [hD]; rfl) (ready_dep hk 1 (by kernel_rfl))) (by rw [hF.size, hsz]; decide)) (wp_move_v (ac.eval (.tmp 20)) rfl rfl ⟨hl2 2, (hF.put 2 158 (SP.is (.int .i64 0)) (ac.eval (.tmp 20)) (by rw [hD]; rfl) (((hF.keep 20 (by rw [hD]; rfl)).trans zs20)) (by rw [hD]; rfl) (by rw [hsz]; decide) (by rw [hl]; decide)), hb1, r5⟩)
                · have hk3 := hk
                  have ea := (hF.done 2 (158, SP.is (.int .i64 0)) (by rw [hD]; rfl) (ready_dep hk 2 (by kernel_rfl)))
                  exact wpOp_wanted rfl (wanted_g (g := 1) (b := true) rfl rfl (hF.done 1 (157, SP.is (.bool true)) (by rw [hD]; rfl) (ready_dep hk 1 (by kernel_rfl))) (by rw [hF.size, hsz]; decide)) (wp_eqint_v rfl ea rfl rfl ⟨hl2 3, (hF.put 3 159 (SP.is (.bool true)) (.bool true) (by rw [hD]; rfl) rfl (by rw [hD]; rfl) (by rw [hsz]; decide) (by rw [hl]; decide)), hb1, r5⟩)
                · have hk3 := hk
                  have ea := (hF.done 1 (157, SP.is (.bool true)) (by rw [hD]; rfl) (ready_dep hk 1 (by kernel_rfl)))
                  have eb := (hF.done 3 (159, SP.is (.bool true)) (by rw [hD]; rfl) (ready_dep hk 3 (by kernel_rfl)))
                  exact wpOp_plain rfl rfl (wp_pick_v (.bool true) rfl ea eb ⟨hl2 4, (hF.put 4 160 (SP.is (.bool true)) (.bool true) (by rw [hD]; rfl) rfl (by rw [hD]; rfl) (by rw [hsz]; decide) (by rw [hl]; decide)), hb1, r5⟩)
                · have hk3 := hk
                  exact wpOp_plain rfl rfl (wp_move_v (ac.eval (.tmp 160)) rfl rfl ⟨hl2 5, (hF.put 5 161 (SP.is (.bool true)) (ac.eval (.tmp 160)) (by rw [hD]; rfl) ((hF.done 4 (160, SP.is (.bool true)) (by rw [hD]; rfl) (ready_dep hk 4 (by kernel_rfl)))) (by rw [hD]; rfl) (by rw [hsz]; decide) (by rw [hl]; decide)), hb1, r5⟩)
                · have hk3 := hk
                  exact wpOp_off rfl (unwanted_g (g := 5) (b := false) rfl rfl (hF.done 5 (161, SP.is (.bool true)) (by rw [hD]; rfl) (ready_dep hk 5 (by kernel_rfl))) (by rw [hF.size, hsz]; decide)) ⟨hl2 6, (hF.put 6 162 (SP.is (undef)) undef (by rw [hD]; rfl) rfl (by rw [hD]; rfl) (by rw [hsz]; decide) (by rw [hl]; decide)), hb1, r5⟩
                · have hk3 := hk
                  exact wpOp_off rfl (unwanted_g (g := 5) (b := false) rfl rfl (hF.done 5 (161, SP.is (.bool true)) (by rw [hD]; rfl) (ready_dep hk 5 (by kernel_rfl))) (by rw [hF.size, hsz]; decide)) ⟨hl2 7, (hF.put 7 163 (SP.is (undef)) undef (by rw [hD]; rfl) rfl (by rw [hD]; rfl) (by rw [hsz]; decide) (by rw [hl]; decide)), hb1, r5⟩
                · have hk3 := hk
                  exact wpOp_off rfl (unwanted_g (g := 5) (b := false) rfl rfl (hF.done 5 (161, SP.is (.bool true)) (by rw [hD]; rfl) (ready_dep hk 5 (by kernel_rfl))) (by rw [hF.size, hsz]; decide)) ⟨hl2 8, (hF.put 8 164 (SP.is (undef)) undef (by rw [hD]; rfl) rfl (by rw [hD]; rfl) (by rw [hsz]; decide) (by rw [hl]; decide)), hb1, r5⟩
                · have hk3 := hk
                  exact wpOp_off rfl (unwanted_u (g := 8) (b := true) rfl rfl (hF.done 8 (164, SP.is (undef)) (by rw [hD]; rfl) (ready_dep hk 8 (by kernel_rfl))) (by rw [hF.size, hsz]; decide)) ⟨hl2 9, (hF.put 9 165 (SP.is (undef)) undef (by rw [hD]; rfl) rfl (by rw [hD]; rfl) (by rw [hsz]; decide) (by rw [hl]; decide)), hb1, r5⟩
                · have hk3 := hk
                  exact wpOp_off rfl (unwanted_u (g := 8) (b := true) rfl rfl (hF.done 8 (164, SP.is (undef)) (by rw [hD]; rfl) (ready_dep hk 8 (by kernel_rfl))) (by rw [hF.size, hsz]; decide)) ⟨hl2 10, (hF.put 10 166 (SP.is (undef)) undef (by rw [hD]; rfl) rfl (by rw [hD]; rfl) (by rw [hsz]; decide) (by rw [hl]; decide)), hb1, r5⟩
                · have hk3 := hk
                  exact wpOp_off rfl (unwanted_u (g := 8) (b := true) rfl rfl (hF.done 8 (164, SP.is (undef)) (by rw [hD]; rfl) (ready_dep hk 8 (by kernel_rfl))) (by rw [hF.size, hsz]; decide)) ⟨hl2 11, (hF.put 11 167 (SP.is (undef)) undef (by rw [hD]; rfl) rfl (by rw [hD]; rfl) (by rw [hsz]; decide) (by rw [hl]; decide)), hb1, r5⟩
                · have hk3 := hk
                  exact wpOp_off rfl (unwanted_u (g := 11) (b := false) rfl rfl (hF.done 11 (167, SP.is (undef)) (by rw [hD]; rfl) (ready_dep hk 11 (by kernel_rfl))) (by rw [hF.size, hsz]; decide)) ⟨hl2 12, (hF.put 12 168 (SP.is (undef)) undef (by rw [hD]; rfl) rfl (by rw [hD]; rfl) (by rw [hsz]; decide) (by rw [hl]; decide)), hb1, r5⟩
                · have hk3 := hk
                  exact wpOp_off rfl (unwanted_u (g := 11) (b := false) rfl rfl (hF.done 11 (167, SP.is (undef)) (by rw [hD]; rfl) (ready_dep hk 11 (by kernel_rfl))) (by rw [hF.size, hsz]; decide)) ⟨hl2 13, (hF.put 13 169 (SP.is (undef)) undef (by rw [hD]; rfl) rfl (by rw [hD]; rfl) (by rw [hsz]; decide) (by rw [hl]; decide)), hb1, r5⟩
                · have hk3 := hk
                  exact wpOp_off rfl (unwanted_u (g := 11) (b := false) rfl rfl (hF.done 11 (167, SP.is (undef)) (by rw [hD]; rfl) (ready_dep hk 11 (by kernel_rfl))) (by rw [hF.size, hsz]; decide)) ⟨hl2 14, (hF.put 14 170 (SP.is (undef)) undef (by rw [hD]; rfl) rfl (by rw [hD]; rfl) (by rw [hsz]; decide) (by rw [hl]; decide)), hb1, r5⟩
                · have hk3 := hk
                  exact wpOp_off rfl (unwanted_u (g := 14) (b := true) rfl rfl (hF.done 14 (170, SP.is (undef)) (by rw [hD]; rfl) (ready_dep hk 14 (by kernel_rfl))) (by rw [hF.size, hsz]; decide)) ⟨hl2 15, (hF.put 15 171 (SP.is (undef)) undef (by rw [hD]; rfl) rfl (by rw [hD]; rfl) (by rw [hsz]; decide) (by rw [hl]; decide)), hb1, r5⟩
                · have hk3 := hk
                  exact wpOp_off rfl (unwanted_u (g := 14) (b := true) rfl rfl (hF.done 14 (170, SP.is (undef)) (by rw [hD]; rfl) (ready_dep hk 14 (by kernel_rfl))) (by rw [hF.size, hsz]; decide)) ⟨hl2 16, (hF.put 16 172 (SP.is (undef)) undef (by rw [hD]; rfl) rfl (by rw [hD]; rfl) (by rw [hsz]; decide) (by rw [hl]; decide)), hb1, r5⟩
                · have hk3 := hk
                  exact wpOp_off rfl (unwanted_u (g := 14) (b := true) rfl rfl (hF.done 14 (170, SP.is (undef)) (by rw [hD]; rfl) (ready_dep hk 14 (by kernel_rfl))) (by rw [hF.size, hsz]; decide)) ⟨hl2 17, (hF.put 17 173 (SP.is (undef)) undef (by rw [hD]; rfl) rfl (by rw [hD]; rfl) (by rw [hsz]; decide) (by rw [hl]; decide)), hb1, r5⟩
                · have hk3 := hk
                  exact wpOp_off rfl (unwanted_u (g := 14) (b := true) rfl rfl (hF.done 14 (170, SP.is (undef)) (by rw [hD]; rfl) (ready_dep hk 14 (by kernel_rfl))) (by rw [hF.size, hsz]; decide)) ⟨hl2 18, (hF.put 18 174 (SP.is (undef)) undef (by rw [hD]; rfl) rfl (by rw [hD]; rfl) (by rw [hsz]; decide) (by rw [hl]; decide)), hb1, r5⟩
                · have hk3 := hk
                  exact wpOp_off rfl (unwanted_u (g := 14) (b := true) rfl rfl (hF.done 14 (170, SP.is (undef)) (by rw [hD]; rfl) (ready_dep hk 14 (by kernel_rfl))) (by rw [hF.size, hsz]; decide)) ⟨hl2 19, (hF.put 19 175 (SP.is (undef)) undef (by rw [hD]; rfl) rfl (by rw [hD]; rfl) (by rw [hsz]; decide) (by rw [hl]; decide)), hb1, r5⟩
                · have hk3 := hk
                  exact wpOp_off rfl (unwanted_u (g := 14) (b := true) rfl rfl (hF.done 14 (170, SP.is (undef)) (by rw [hD]; rfl) (ready_dep hk 14 (by kernel_rfl))) (by rw [hF.size, hsz]; decide)) ⟨hl2 20, (hF.put 20 176 (SP.is (undef)) undef (by rw [hD]; rfl) rfl (by rw [hD]; rfl) (by rw [hsz]; decide) (by rw [hl]; decide)), hb1, r5⟩
                · have hk3 := hk
                  exact wpOp_off rfl (unwanted_u (g := 14) (b := true) rfl rfl (hF.done 14 (170, SP.is (undef)) (by rw [hD]; rfl) (ready_dep hk 14 (by kernel_rfl))) (by rw [hF.size, hsz]; decide)) ⟨hl2 21, (hF.put 21 177 (SP.is (undef)) undef (by rw [hD]; rfl) rfl (by rw [hD]; rfl) (by rw [hsz]; decide) (by rw [hl]; decide)), hb1, r5⟩
                · have hk3 := hk
                  exact wpOp_off rfl (unwanted_u (g := 14) (b := true) rfl rfl (hF.done 14 (170, SP.is (undef)) (by rw [hD]; rfl) (ready_dep hk 14 (by kernel_rfl))) (by rw [hF.size, hsz]; decide)) ⟨hl2 22, (hF.put 22 178 (SP.is (undef)) undef (by rw [hD]; rfl) rfl (by rw [hD]; rfl) (by rw [hsz]; decide) (by rw [hl]; decide)), hb1, r5⟩
                · have hk3 := hk
                  exact wpOp_off rfl (unwanted_u (g := 11) (b := false) rfl rfl (hF.done 11 (167, SP.is (undef)) (by rw [hD]; rfl) (ready_dep hk 11 (by kernel_rfl))) (by rw [hF.size, hsz]; decide)) ⟨hl2 23, (hF.put 23 179 (SP.is (undef)) undef (by rw [hD]; rfl) rfl (by rw [hD]; rfl) (by rw [hsz]; decide) (by rw [hl]; decide)), hb1, r5⟩
                · have hk3 := hk
                  exact wpOp_off rfl (unwanted_u (g := 8) (b := true) rfl rfl (hF.done 8 (164, SP.is (undef)) (by rw [hD]; rfl) (ready_dep hk 8 (by kernel_rfl))) (by rw [hF.size, hsz]; decide)) ⟨hl2 24, (hF.put 24 180 (SP.is (undef)) undef (by rw [hD]; rfl) rfl (by rw [hD]; rfl) (by rw [hsz]; decide) (by rw [hl]; decide)), hb1, r5⟩
                · have hk3 := hk
                  exact wpOp_off rfl (unwanted_g (g := 5) (b := false) rfl rfl (hF.done 5 (161, SP.is (.bool true)) (by rw [hD]; rfl) (ready_dep hk 5 (by kernel_rfl))) (by rw [hF.size, hsz]; decide)) ⟨hl2 25, (hF.put 25 181 (SP.is (undef)) undef (by rw [hD]; rfl) rfl (by rw [hD]; rfl) (by rw [hsz]; decide) (by rw [hl]; decide)), hb1, r5⟩
                · have hk3 := hk
                  have ea := (hF.done 5 (161, SP.is (.bool true)) (by rw [hD]; rfl) (ready_dep hk 5 (by kernel_rfl)))
                  exact wpOp_plain rfl rfl (wp_pick_v (.bool true) rfl ea rfl ⟨hl2 26, (hF.put 26 182 (SP.is (.bool true)) (.bool true) (by rw [hD]; rfl) rfl (by rw [hD]; rfl) (by rw [hsz]; decide) (by rw [hl]; decide)), hb1, r5⟩)
                · have hk3 := hk
                  exact wpOp_plain rfl rfl (wp_assign_v (ac.eval (.tmp 182)) rfl rfl ⟨hl2 27, (hF.put 27 6 (SP.is (.bool true)) (ac.eval (.tmp 182)) (by rw [hD]; rfl) ((hF.done 26 (182, SP.is (.bool true)) (by rw [hD]; rfl) (ready_dep hk 26 (by kernel_rfl)))) (by rw [hD]; rfl) (by rw [hsz]; decide) (by rw [hl]; decide)), hb1, r5⟩)
              · clear hb1 r5 
                intro listed ac W hI hr
                obtain ⟨hl, hF, hb1, r5⟩ := hI
                have hall := all_listed (by kernel_rfl) hl hr
                have h156 : ac.eval (.tmp 156) = .bool true := hF.done 0 (156, SP.is (.bool true)) (by rw [hD]; rfl) (hall 0 (by decide))
                have h157 : ac.eval (.tmp 157) = .bool true := hF.done 1 (157, SP.is (.bool true)) (by rw [hD]; rfl) (hall 1 (by decide))
                have h158 : ac.eval (.tmp 158) = .int .i64 0 := hF.done 2 (158, SP.is (.int .i64 0)) (by rw [hD]; rfl) (hall 2 (by decide))
                have h159 : ac.eval (.tmp 159) = .bool true := hF.done 3 (159, SP.is (.bool true)) (by rw [hD]; rfl) (hall 3 (by decide))
                have h160 : ac.eval (.tmp 160) = .bool true := hF.done 4 (160, SP.is (.bool true)) (by rw [hD]; rfl) (hall 4 (by decide))
                have h161 : ac.eval (.tmp 161) = .bool true := hF.done 5 (161, SP.is (.bool true)) (by rw [hD]; rfl) (hall 5 (by decide))
                have h162 : ac.eval (.tmp 162) = undef := hF.done 6 (162, SP.is (undef)) (by rw [hD]; rfl) (hall 6 (by decide))
                have h163 : ac.eval (.tmp 163) = undef := hF.done 7 (163, SP.is (undef)) (by rw [hD]; rfl) (hall 7 (by decide))
                have h164 : ac.eval (.tmp 164) = undef := hF.done 8 (164, SP.is (undef)) (by rw [hD]; rfl) (hall 8 (by decide))
                have h165 : ac.eval (.tmp 165) = undef := hF.done 9 (165, SP.is (undef)) (by rw [hD]; rfl) (hall 9 (by decide))
                have h166 : ac.eval (.tmp 166) = undef := hF.done 10 (166, SP.is (undef)) (by rw [hD]; rfl) (hall 10 (by decide))
                have h167 : ac.eval (.tmp 167) = undef := hF.done 11 (167, SP.is (undef)) (by rw [hD]; rfl) (hall 11 (by decide))
                have h168 : ac.eval (.tmp 168) = undef := hF.done 12 (168, SP.is (undef)) (by rw [hD]; rfl) (hall 12 (by decide))
                have h169 : ac.eval (.tmp 169) = undef := hF.done 13 (169, SP.is (undef)) (by rw [hD]; rfl) (hall 13 (by decide))
                have h170 : ac.eval (.tmp 170) = undef := hF.done 14 (170, SP.is (undef)) (by rw [hD]; rfl) (hall 14 (by decide))
                have h171 : ac.eval (.tmp 171) = undef := hF.done 15 (171, SP.is (undef)) (by rw [hD]; rfl) (hall 15 (by decide))
                have h172 : ac.eval (.tmp 172) = undef := hF.done 16 (172, SP.is (undef)) (by rw [hD]; rfl) (hall 16 (by decide))
                have h173 : ac.eval (.tmp 173) = undef := hF.done 17 (173, SP.is (undef)) (by rw [hD]; rfl) (hall 17 (by decide))
                have h174 : ac.eval (.tmp 174) = undef := hF.done 18 (174, SP.is (undef)) (by rw [hD]; rfl) (hall 18 (by decide))
                have h175 : ac.eval (.tmp 175) = undef := hF.done 19 (175, SP.is (undef)) (by rw [hD]; rfl) (hall 19 (by decide))
                have h176 : ac.eval (.tmp 176) = undef := hF.done 20 (176, SP.is (undef)) (by rw [hD]; rfl) (hall 20 (by decide))
                have h177 : ac.eval (.tmp 177) = undef := hF.done 21 (177, SP.is (undef)) (by rw [hD]; rfl) (hall 21 (by decide))
                have h178 : ac.eval (.tmp 178) = undef := hF.done 22 (178, SP.is (undef)) (by rw [hD]; rfl) (hall 22 (by decide))
                have h179 : ac.eval (.tmp 179) = undef := hF.done 23 (179, SP.is (undef)) (by rw [hD]; rfl) (hall 23 (by decide))
                have h180 : ac.eval (.tmp 180) = undef := hF.done 24 (180, SP.is (undef)) (by rw [hD]; rfl) (hall 24 (by decide))
                have h181 : ac.eval (.tmp 181) = undef := hF.done 25 (181, SP.is (undef)) (by rw [hD]; rfl) (hall 25 (by decide))
                have h182 : ac.eval (.tmp 182) = .bool true := hF.done 26 (182, SP.is (.bool true)) (by rw [hD]; rfl) (hall 26 (by decide))
                have h6 : ac.eval (.tmp 6) = .bool true := hF.done 27 (6, SP.is (.bool true)) (by rw [hD]; rfl) (hall 27 (by decide))
                have ea := hF.lay [(156, .bool true), (157, .bool true), (158, .int .i64 0), (159, .bool true), (160, .bool true), (161, .bool true), (162, undef), (163, undef), (164, undef), (165, undef), (166, undef), (167, undef), (168, undef), (169, undef), (170, undef), (171, undef), (172, undef), (173, undef), (174, undef), (175, undef), (176, undef), (177, undef), (178, undef), (179, undef), (180, undef), (181, undef), (182, .bool true), (6, .bool true)] (by rw [hD, hsz]; rfl) (by simp only [List.forall_mem_cons, List.not_mem_nil, false_implies, implies_true, and_true]; exact ⟨h156, h157, h158, h159, h160, h161, h162, h163, h164, h165, h166, h167, h168, h169, h170, h171, h172, h173, h174, h175, h176, h177, h178, h179, h180, h181, h182, h6⟩)
                rw [ha0] at ea
                simp only [List.foldl_cons, List.foldl_nil, List.setIfInBounds_toArray, List.set_cons_zero, List.set_cons_succ] at ea
                clear hF hall hr hl hD  zs5 zs7 zs8 zs9 zs21 zs20 ha0 hsz h156 h157 h158 h159 h160 h161 h162 h163 h164 h165 h166 h167 h168 h169 h170 h171 h172 h173 h174 h175 h176 h177 h178 h179 h180 h181 h182 h6
                subst ea
                have FB : Hid (Below w.heap.size w W) := U4.out.be.trans (hb1.mono U4.out.be.size)
                clear r5 hb1
                go_wp2_with fail
                go_ret
                exact ⟨rfl, FB.out⟩
            · have hAB : AB = false := by rw [HAF.out]; exact decide_eq_false hfe
              have hfe2 : ¬ ((fk : Int) = (n : Int)) := by omega
              have hfe3 : ((fk : Int) == (n : Int)) = false := by simpa using hfe2
              have hor := HE2.out.2 hAB
              subst hAB
              clear hfe
              rcases hor with hE4 | ⟨hE0, hcl⟩
              · subst hE4
                go_upto_region 28 with fail
                clear hfe2 hfe3
                have hb1 := Below.refl Z4.heap.size Z4
                refine wp_named fun a0 ha0 => ?_
                have hsz : a0.tmps.size = 183 := by rw [ha0]; rfl
                have zs5 : a0.eval (.tmp 5) = .pointer (some ⟨b5, 0, none⟩) := by rw [ha0]; rfl
                have zs7 : a0.eval (.tmp 7) = .slice A M1 c := by rw [ha0]; rfl
                have zs8 : a0.eval (.tmp 8) = .slice A' M2 c' := by rw [ha0]; rfl
                have zs9 : a0.eval (.tmp 9) = .int .i64 (n : Int) := by rw [ha0]; rfl
                have zs21 : a0.eval (.tmp 21) = .bool false := by rw [ha0]; rfl
                have zs20 : a0.eval (.tmp 20) = .int .i64 154 := by rw [ha0]; rfl
                obtain ⟨D, hD⟩ : ∃ D : List (Tmp × SP), D = [(156, SP.is (.bool false)), (157, SP.is (.bool false)), (158, SP.is (undef)), (159, SP.is (undef)), (160, SP.is (.bool false)), (161, SP.is (.bool false)), (162, SP.is (.bool false)), (163, SP.is (.bool true)), (164, SP.is (.bool true)), (165, SP.is (.int .i64 154)), (166, SP.is (.bool true)), (167, SP.is (.bool true)), (168, SP.is (undef)), (169, SP.is (undef)), (170, SP.is (undef)), (171, SP.is (undef)), (172, SP.is (undef)), (173, SP.is (undef)), (174, SP.is (undef)), (175, SP.is (undef)), (176, SP.is (undef)), (177, SP.is (undef)), (178, SP.is (undef)), (179, SP.is (undef)), (180, SP.is (.bool true)), (181, SP.is (.bool true)), (182, SP.is (.bool true)), (6, SP.is (.bool true))] := ⟨_, rfl⟩
                refine wp_region_down (by kernel_rfl) (fun listed ac W => listed.size = 28 ∧ Fp D a0 listed ac W ∧ Below Z4.heap.size Z4 W ∧ Row W b5 KK 51) ?_ ?_ ?_
                · exact ⟨by simp, Fp.start D a0 _ _, Below.drew hb1, Row.drew r5⟩
                · clear ha0 hb1 r5 
                  intro listed ac W k hI hdn hk
                  obtain ⟨hl, hF, hb1, r5⟩ := hI
                  have hk1 : k < 28 := List.mem_range.1 (List.mem_filter.1 hk).1
                  have hl2 : ∀ j, (listed.setIfInBounds j true).size = 28 := fun j => by rw [Array.size_setIfInBounds]; exact hl
                  rcases (show k = 0 ∨ k = 1 ∨ k = 2 ∨ k = 3 ∨ k = 4 ∨ k = 5 ∨ k = 6 ∨ k = 7 ∨ k = 8 ∨ k = 9 ∨ k = 10 ∨ k = 11 ∨ k = 12 ∨ k = 13 ∨ k = 14 ∨ k = 15 ∨ k = 16 ∨ k = 17 ∨ k = 18 ∨ k = 19 ∨ k = 20 ∨ k = 21 ∨ k = 22 ∨ k = 23 ∨ k = 24 ∨ k = 25 ∨ k = 26 ∨ k = 27 by omega) with rfl | rfl | rfl | rfl | rfl | rfl | rfl | rfl | rfl | rfl | rfl | rfl | rfl | rfl | rfl | rfl | rfl | rfl | rfl | rfl | rfl | rfl | rfl | rfl | rfl | rfl | rfl | rfl
                  · have hk3 := hk
                    exact wpOp_plain rfl rfl (wp_move_v (ac.eval (.tmp 21)) rfl rfl ⟨hl2 0, (hF.put 0 156 (SP.is (.bool false)) (ac.eval (.tmp 21)) (by rw [hD]; rfl) (((hF.keep 21 (by rw [hD]; rfl)).trans zs21)) (by rw [hD]; rfl) (by rw [hsz]; decide) (by rw [hl]; decide)), hb1, r5⟩)
                  · have hk3 := hk
                    exact wpOp_plain rfl rfl (wp_move_v (ac.eval (.tmp 156)) rfl rfl ⟨hl2 1, (hF.put 1 157 (SP.is (.bool false)) (ac.eval (.tmp 156)) (by rw [hD]; rfl) ((hF.done 0 (156, SP.is (.bool false)) (by rw [hD]; rfl) (ready_dep hk 0 (by kernel_rfl)))) (by rw [hD]; rfl) (by rw [hsz]; decide) (by rw [hl]; decide)), hb1, r5⟩)
                  · have hk3 := hk
                    exact wpOp_off rfl (unwanted_g (g := 1) (b := true) rfl rfl (hF.done 1 (157, SP.is (.bool false)) (by rw [hD]; rfl) (ready_dep hk 1 (by kernel_rfl))) (by rw [hF.size, hsz]; decide)) ⟨hl2 2, (hF.put 2 158 (SP.is (undef)) undef (by rw [hD]; rfl) rfl (by rw [hD]; rfl) (by rw [hsz]; decide) (by rw [hl]; decide)), hb1, r5⟩
                  · have hk3 := hk
                    exact wpOp_off rfl (unwanted_g (g := 1) (b := true) rfl rfl (hF.done 1 (157, SP.is (.bool false)) (by rw [hD]; rfl) (ready_dep hk 1 (by kernel_rfl))) (by rw [hF.size, hsz]; decide)) ⟨hl2 3, (hF.put 3 159 (SP.is (undef)) undef (by rw [hD]; rfl) rfl (by rw [hD]; rfl) (by rw [hsz]; decide) (by rw [hl]; decide)), hb1, r5⟩
                  · have hk3 := hk
                    have ea := (hF.done 1 (157, SP.is (.bool false)) (by rw [hD]; rfl) (ready_dep hk 1 (by kernel_rfl)))
                    exact wpOp_plain rfl rfl (wp_pick_f (.bool false) rfl ea rfl ⟨hl2 4, (hF.put 4 160 (SP.is (.bool false)) (.bool false) (by rw [hD]; rfl) rfl (by rw [hD]; rfl) (by rw [hsz]; decide) (by rw [hl]; decide)), hb1, r5⟩)
                  · have hk3 := hk
                    exact wpOp_plain rfl rfl (wp_move_v (ac.eval (.tmp 160)) rfl rfl ⟨hl2 5, (hF.put 5 161 (SP.is (.bool false)) (ac.eval (.tmp 160)) (by rw [hD]; rfl) ((hF.done 4 (160, SP.is (.bool false)) (by rw [hD]; rfl) (ready_dep hk 4 (by kernel_rfl)))) (by rw [hD]; rfl) (by rw [hsz]; decide) (by rw [hl]; decide)), hb1, r5⟩)
                  · have hk3 := hk
                    exact wpOp_wanted rfl (wanted_g (g := 5) (b := false) rfl rfl (hF.done 5 (161, SP.is (.bool false)) (by rw [hD]; rfl) (ready_dep hk 5 (by kernel_rfl))) (by rw [hF.size, hsz]; decide)) (wp_move_v (ac.eval (.tmp 21)) rfl rfl ⟨hl2 6, (hF.put 6 162 (SP.is (.bool false)) (ac.eval (.tmp 21)) (by rw [hD]; rfl) (((hF.keep 21 (by rw [hD]; rfl)).trans zs21)) (by rw [hD]; rfl) (by rw [hsz]; decide) (by rw [hl]; decide)), hb1, r5⟩)
                  · have hk3 := hk
                    have ea := (hF.done 6 (162, SP.is (.bool false)) (by rw [hD]; rfl) (ready_dep hk 6 (by kernel_rfl)))
                    exact wpOp_wanted rfl (wanted_g (g := 5) (b := false) rfl rfl (hF.done 5 (161, SP.is (.bool false)) (by rw [hD]; rfl) (ready_dep hk 5 (by kernel_rfl))) (by rw [hF.size, hsz]; decide)) (wp_notT false rfl ea ⟨hl2 7, (hF.put 7 163 (SP.is (.bool true)) (.bool true) (by rw [hD]; rfl) rfl (by rw [hD]; rfl) (by rw [hsz]; decide) (by rw [hl]; decide)), hb1, r5⟩)
                  · have hk3 := hk
                    exact wpOp_wanted rfl (wanted_g (g := 5) (b := false) rfl rfl (hF.done 5 (161, SP.is (.bool false)) (by rw [hD]; rfl) (ready_dep hk 5 (by kernel_rfl))) (by rw [hF.size, hsz]; decide)) (wp_move_v (ac.eval (.tmp 163)) rfl rfl ⟨hl2 8, (hF.put 8 164 (SP.is (.bool true)) (ac.eval (.tmp 163)) (by rw [hD]; rfl) ((hF.done 7 (163, SP.is (.bool true)) (by rw [hD]; rfl) (ready_dep hk 7 (by kernel_rfl)))) (by rw [hD]; rfl) (by rw [hsz]; decide) (by rw [hl]; decide)), hb1, r5⟩)
                  · have hk3 := hk
                    exact wpOp_wanted rfl (wanted_g (g := 8) (b := true) rfl rfl (hF.done 8 (164, SP.is (.bool true)) (by rw [hD]; rfl) (ready_dep hk 8 (by kernel_rfl))) (by rw [hF.size, hsz]; decide)) (wp_move_v (ac.eval (.tmp 20)) rfl rfl ⟨hl2 9, (hF.put 9 165 (SP.is (.int .i64 154)) (ac.eval (.tmp 20)) (by rw [hD]; rfl) (((hF.keep 20 (by rw [hD]; rfl)).trans zs20)) (by rw [hD]; rfl) (by rw [hsz]; decide) (by rw [hl]; decide)), hb1, r5⟩)
                  · have hk3 := hk
                    have ea := (hF.done 9 (165, SP.is (.int .i64 154)) (by rw [hD]; rfl) (ready_dep hk 9 (by kernel_rfl)))
                    exact wpOp_wanted rfl (wanted_g (g := 8) (b := true) rfl rfl (hF.done 8 (164, SP.is (.bool true)) (by rw [hD]; rfl) (ready_dep hk 8 (by kernel_rfl))) (by rw [hF.size, hsz]; decide)) (wp_eqint_v rfl ea rfl rfl ⟨hl2 10, (hF.put 10 166 (SP.is (.bool true)) (.bool true) (by rw [hD]; rfl) rfl (by rw [hD]; rfl) (by rw [hsz]; decide) (by rw [hl]; decide)), hb1, r5⟩)
                  · have hk3 := hk
                    exact wpOp_wanted rfl (wanted_g (g := 8) (b := true) rfl rfl (hF.done 8 (164, SP.is (.bool true)) (by rw [hD]; rfl) (ready_dep hk 8 (by kernel_rfl))) (by rw [hF.size, hsz]; decide)) (wp_move_v (ac.eval (.tmp 166)) rfl rfl ⟨hl2 11, (hF.put 11 167 (SP.is (.bool true)) (ac.eval (.tmp 166)) (by rw [hD]; rfl) ((hF.done 10 (166, SP.is (.bool true)) (by rw [hD]; rfl) (ready_dep hk 10 (by kernel_rfl)))) (by rw [hD]; rfl) (by rw [hsz]; decide) (by rw [hl]; decide)), hb1, r5⟩)
                  · have hk3 := hk
                    exact wpOp_off rfl (unwanted_g (g := 11) (b := false) rfl rfl (hF.done 11 (167, SP.is (.bool true)) (by rw [hD]; rfl) (ready_dep hk 11 (by kernel_rfl))) (by rw [hF.size, hsz]; decide)) ⟨hl2 12, (hF.put 12 168 (SP.is (undef)) undef (by rw [hD]; rfl) rfl (by rw [hD]; rfl) (by rw [hsz]; decide) (by rw [hl]; decide)), hb1, r5⟩
                  · have hk3 := hk
                    exact wpOp_off rfl (unwanted_g (g := 11) (b := false) rfl rfl (hF.done 11 (167, SP.is (.bool true)) (by rw [hD]; rfl) (ready_dep hk 11 (by kernel_rfl))) (by rw [hF.size, hsz]; decide)) ⟨hl2 13, (hF.put 13 169 (SP.is (undef)) undef (by rw [hD]; rfl) rfl (by rw [hD]; rfl) (by rw [hsz]; decide) (by rw [hl]; decide)), hb1, r5⟩
                  · have hk3 := hk
                    exact wpOp_off rfl (unwanted_g (g := 11) (b := false) rfl rfl (hF.done 11 (167, SP.is (.bool true)) (by rw [hD]; rfl) (ready_dep hk 11 (by kernel_rfl))) (by rw [hF.size, hsz]; decide)) ⟨hl2 14, (hF.put 14 170 (SP.is (undef)) undef (by rw [hD]; rfl) rfl (by rw [hD]; rfl) (by rw [hsz]; decide) (by rw [hl]; decide)), hb1, r5⟩
                  · have hk3 := hk
                    exact wpOp_off rfl (unwanted_u (g := 14) (b := true) rfl rfl (hF.done 14 (170, SP.is (undef)) (by rw [hD]; rfl) (ready_dep hk 14 (by kernel_rfl))) (by rw [hF.size, hsz]; decide)) ⟨hl2 15, (hF.put 15 171 (SP.is (undef)) undef (by rw [hD]; rfl) rfl (by rw [hD]; rfl) (by rw [hsz]; decide) (by rw [hl]; decide)), hb1, r5⟩
                  · have hk3 := hk
                    exact wpOp_off rfl (unwanted_u (g := 14) (b := true) rfl rfl (hF.done 14 (170, SP.is (undef)) (by rw [hD]; rfl) (ready_dep hk 14 (by kernel_rfl))) (by rw [hF.size, hsz]; decide)) ⟨hl2 16, (hF.put 16 172 (SP.is (undef)) undef (by rw [hD]; rfl) rfl (by rw [hD]; rfl) (by rw [hsz]; decide) (by rw [hl]; decide)), hb1, r5⟩
                  · have hk3 := hk
                    exact wpOp_off rfl (unwanted_u (g := 14) (b := true) rfl rfl (hF.done 14 (170, SP.is (undef)) (by rw [hD]; rfl) (ready_dep hk 14 (by kernel_rfl))) (by rw [hF.size, hsz]; decide)) ⟨hl2 17, (hF.put 17 173 (SP.is (undef)) undef (by rw [hD]; rfl) rfl (by rw [hD]; rfl) (by rw [hsz]; decide) (by rw [hl]; decide)), hb1, r5⟩
                  · have hk3 := hk
                    exact wpOp_off rfl (unwanted_u (g := 14) (b := true) rfl rfl (hF.done 14 (170, SP.is (undef)) (by rw [hD]; rfl) (ready_dep hk 14 (by kernel_rfl))) (by rw [hF.size, hsz]; decide)) ⟨hl2 18, (hF.put 18 174 (SP.is (undef)) undef (by rw [hD]; rfl) rfl (by rw [hD]; rfl) (by rw [hsz]; decide) (by rw [hl]; decide)), hb1, r5⟩
                  · have hk3 := hk
                    exact wpOp_off rfl (unwanted_u (g := 14) (b := true) rfl rfl (hF.done 14 (170, SP.is (undef)) (by rw [hD]; rfl) (ready_dep hk 14 (by kernel_rfl))) (by rw [hF.size, hsz]; decide)) ⟨hl2 19, (hF.put 19 175 (SP.is (undef)) undef (by rw [hD]; rfl) rfl (by rw [hD]; rfl) (by rw [hsz]; decide) (by rw [hl]; decide)), hb1, r5⟩
                  · have hk3 := hk
                    exact wpOp_off rfl (unwanted_u (g := 14) (b := true) rfl rfl (hF.done 14 (170, SP.is (undef)) (by rw [hD]; rfl) (ready_dep hk 14 (by kernel_rfl))) (by rw [hF.size, hsz]; decide)) ⟨hl2 20, (hF.put 20 176 (SP.is (undef)) undef (by rw [hD]; rfl) rfl (by rw [hD]; rfl) (by rw [hsz]; decide) (by rw [hl]; decide)), hb1, r5⟩
                  · have hk3 := hk
                    exact wpOp_off rfl (unwanted_u (g := 14) (b := true) rfl rfl (hF.done 14 (170, SP.is (undef)) (by rw [hD]; rfl) (ready_dep hk 14 (by kernel_rfl))) (by rw [hF.size, hsz]; decide)) ⟨hl2 21, (hF.put 21 177 (SP.is (undef)) undef (by rw [hD]; rfl) rfl (by rw [hD]; rfl) (by rw [hsz]; decide) (by rw [hl]; decide)), hb1, r5⟩
                  · have hk3 := hk
                    exact wpOp_off rfl (unwanted_u (g := 14) (b := true) rfl rfl (hF.done 14 (170, SP.is (undef)) (by rw [hD]; rfl) (ready_dep hk 14 (by kernel_rfl))) (by rw [hF.size, hsz]; decide)) ⟨hl2 22, (hF.put 22 178 (SP.is (undef)) undef (by rw [hD]; rfl) rfl (by rw [hD]; rfl) (by rw [hsz]; decide) (by rw [hl]; decide)), hb1, r5⟩
                  · have hk3 := hk
                    exact wpOp_off rfl (unwanted_g (g := 11) (b := false) rfl rfl (hF.done 11 (167, SP.is (.bool true)) (by rw [hD]; rfl) (ready_dep hk 11 (by kernel_rfl))) (by rw [hF.size, hsz]; decide)) ⟨hl2 23, (hF.put 23 179 (SP.is (undef)) undef (by rw [hD]; rfl) rfl (by rw [hD]; rfl) (by rw [hsz]; decide) (by rw [hl]; decide)), hb1, r5⟩
                  · have hk3 := hk
                    have ea := (hF.done 11 (167, SP.is (.bool true)) (by rw [hD]; rfl) (ready_dep hk 11 (by kernel_rfl)))
                    exact wpOp_wanted rfl (wanted_g (g := 8) (b := true) rfl rfl (hF.done 8 (164, SP.is (.bool true)) (by rw [hD]; rfl) (ready_dep hk 8 (by kernel_rfl))) (by rw [hF.size, hsz]; decide)) (wp_pick_v (.bool true) rfl ea rfl ⟨hl2 24, (hF.put 24 180 (SP.is (.bool true)) (.bool true) (by rw [hD]; rfl) rfl (by rw [hD]; rfl) (by rw [hsz]; decide) (by rw [hl]; decide)), hb1, r5⟩)
                  · have hk3 := hk
                    have ea := (hF.done 8 (164, SP.is (.bool true)) (by rw [hD]; rfl) (ready_dep hk 8 (by kernel_rfl)))
                    have eb := (hF.done 24 (180, SP.is (.bool true)) (by rw [hD]; rfl) (ready_dep hk 24 (by kernel_rfl)))
                    exact wpOp_wanted rfl (wanted_g (g := 5) (b := false) rfl rfl (hF.done 5 (161, SP.is (.bool false)) (by rw [hD]; rfl) (ready_dep hk 5 (by kernel_rfl))) (by rw [hF.size, hsz]; decide)) (wp_pick_v (.bool true) rfl ea eb ⟨hl2 25, (hF.put 25 181 (SP.is (.bool true)) (.bool true) (by rw [hD]; rfl) rfl (by rw [hD]; rfl) (by rw [hsz]; decide) (by rw [hl]; decide)), hb1, r5⟩)
                  · have hk3 := hk
                    have ea := (hF.done 5 (161, SP.is (.bool false)) (by rw [hD]; rfl) (ready_dep hk 5 (by kernel_rfl)))
                    have eb := (hF.done 25 (181, SP.is (.bool true)) (by rw [hD]; rfl) (ready_dep hk 25 (by kernel_rfl)))
                    exact wpOp_plain rfl rfl (wp_pick_f (.bool true) rfl ea eb ⟨hl2 26, (hF.put 26 182 (SP.is (.bool true)) (.bool true) (by rw [hD]; rfl) rfl (by rw [hD]; rfl) (by rw [hsz]; decide) (by rw [hl]; decide)), hb1, r5⟩)
                  · have hk3 := hk
                    exact wpOp_plain rfl rfl (wp_assign_v (ac.eval (.tmp 182)) rfl rfl ⟨hl2 27, (hF.put 27 6 (SP.is (.bool true)) (ac.eval (.tmp 182)) (by rw [hD]; rfl) ((hF.done 26 (182, SP.is (.bool true)) (by rw [hD]; rfl) (ready_dep hk 26 (by kernel_rfl)))) (by rw [hD]; rfl) (by rw [hsz]; decide) (by rw [hl]; decide)), hb1, r5⟩)
                · clear hb1 r5 
                  intro listed ac W hI hr
                  obtain ⟨hl, hF, hb1, r5⟩ := hI
                  have hall := all_listed (by kernel_rfl) hl hr
                  have h156 : ac.eval (.tmp 156) = .bool false := hF.done 0 (156, SP.is (.bool false)) (by rw [hD]; rfl) (hall 0 (by decide))
                  have h157 : ac.eval (.tmp 157) = .bool false := hF.done 1 (157, SP.is (.bool false)) (by rw [hD]; rfl) (hall 1 (by decide))
                  have h158 : ac.eval (.tmp 158) = undef := hF.done 2 (158, SP.is (undef)) (by rw [hD]; rfl) (hall 2 (by decide))
                  have h159 : ac.eval (.tmp 159) = undef := hF.done 3 (159, SP.is (undef)) (by rw [hD]; rfl) (hall 3 (by decide))
                  have h160 : ac.eval (.tmp 160) = .bool false := hF.done 4 (160, SP.is (.bool false)) (by rw [hD]; rfl) (hall 4 (by decide))
                  have h161 : ac.eval (.tmp 161) = .bool false := hF.done 5 (161, SP.is (.bool false)) (by rw [hD]; rfl) (hall 5 (by decide))
                  have h162 : ac.eval (.tmp 162) = .bool false := hF.done 6 (162, SP.is (.bool false)) (by rw [hD]; rfl) (hall 6 (by decide))
                  have h163 : ac.eval (.tmp 163) = .bool true := hF.done 7 (163, SP.is (.bool true)) (by rw [hD]; rfl) (hall 7 (by decide))
                  have h164 : ac.eval (.tmp 164) = .bool true := hF.done 8 (164, SP.is (.bool true)) (by rw [hD]; rfl) (hall 8 (by decide))
                  have h165 : ac.eval (.tmp 165) = .int .i64 154 := hF.done 9 (165, SP.is (.int .i64 154)) (by rw [hD]; rfl) (hall 9 (by decide))
                  have h166 : ac.eval (.tmp 166) = .bool true := hF.done 10 (166, SP.is (.bool true)) (by rw [hD]; rfl) (hall 10 (by decide))
                  have h167 : ac.eval (.tmp 167) = .bool true := hF.done 11 (167, SP.is (.bool true)) (by rw [hD]; rfl) (hall 11 (by decide))
                  have h168 : ac.eval (.tmp 168) = undef := hF.done 12 (168, SP.is (undef)) (by rw [hD]; rfl) (hall 12 (by decide))
                  have h169 : ac.eval (.tmp 169) = undef := hF.done 13 (169, SP.is (undef)) (by rw [hD]; rfl) (hall 13 (by decide))
                  have h170 : ac.eval (.tmp 170) = undef := hF.done 14 (170, SP.is (undef)) (by rw [hD]; rfl) (hall 14 (by decide))
                  have h171 : ac.eval (.tmp 171) = undef := hF.done 15 (171, SP.is (undef)) (by rw [hD]; rfl) (hall 15 (by decide))
                  have h172 : ac.eval (.tmp 172) = undef := hF.done 16 (172, SP.is (undef)) (by rw [hD]; rfl) (hall 16 (by decide))
                  have h173 : ac.eval (.tmp 173) = undef := hF.done 17 (173, SP.is (undef)) (by rw [hD]; rfl) (hall 17 (by decide))
                  have h174 : ac.eval (.tmp 174) = undef := hF.done 18 (174, SP.is (undef)) (by rw [hD]; rfl) (hall 18 (by decide))
                  have h175 : ac.eval (.tmp 175) = undef := hF.done 19 (175, SP.is (undef)) (by rw [hD]; rfl) (hall 19 (by decide))
                  have h176 : ac.eval (.tmp 176) = undef := hF.done 20 (176, SP.is (undef)) (by rw [hD]; rfl) (hall 20 (by decide))
                  have h177 : ac.eval (.tmp 177) = undef := hF.done 21 (177, SP.is (undef)) (by rw [hD]; rfl) (hall 21 (by decide))
                  have h178 : ac.eval (.tmp 178) = undef := hF.done 22 (178, SP.is (undef)) (by rw [hD]; rfl) (hall 22 (by decide))
                  have h179 : ac.eval (.tmp 179) = undef := hF.done 23 (179, SP.is (undef)) (by rw [hD]; rfl) (hall 23 (by decide))
                  have h180 : ac.eval (.tmp 180) = .bool true := hF.done 24 (180, SP.is (.bool true)) (by rw [hD]; rfl) (hall 24 (by decide))
                  have h181 : ac.eval (.tmp 181) = .bool true := hF.done 25 (181, SP.is (.bool true)) (by rw [hD]; rfl) (hall 25 (by decide))
                  have h182 : ac.eval (.tmp 182) = .bool true := hF.done 26 (182, SP.is (.bool true)) (by rw [hD]; rfl) (hall 26 (by decide))
                  have h6 : ac.eval (.tmp 6) = .bool true := hF.done 27 (6, SP.is (.bool true)) (by rw [hD]; rfl) (hall 27 (by decide))
                  have ea := hF.lay [(156, .bool false), (157, .bool false), (158, undef), (159, undef), (160, .bool false), (161, .bool false), (162, .bool false), (163, .bool true), (164, .bool true), (165, .int .i64 154), (166, .bool true), (167, .bool true), (168, undef), (169, undef), (170, undef), (171, undef), (172, undef), (173, undef), (174, undef), (175, undef), (176, undef), (177, undef), (178, undef), (179, undef), (180, .bool true), (181, .bool true), (182, .bool true), (6, .bool true)] (by rw [hD, hsz]; rfl) (by simp only [List.forall_mem_cons, List.not_mem_nil, false_implies, implies_true, and_true]; exact ⟨h156, h157, h158, h159, h160, h161, h162, h163, h164, h165, h166, h167, h168, h169, h170, h171, h172, h173, h174, h175, h176, h177, h178, h179, h180, h181, h182, h6⟩)
                  rw [ha0] at ea
                  simp only [List.foldl_cons, List.foldl_nil, List.setIfInBounds_toArray, List.set_cons_zero, List.set_cons_succ] at ea
                  clear hF hall hr hl hD  zs5 zs7 zs8 zs9 zs21 zs20 ha0 hsz h156 h157 h158 h159 h160 h161 h162 h163 h164 h165 h166 h167 h168 h169 h170 h171 h172 h173 h174 h175 h176 h177 h178 h179 h180 h181 h182 h6
                  subst ea
                  have FB : Hid (Below w.heap.size w W) := U4.out.be.trans (hb1.mono U4.out.be.size)
                  clear r5 hb1
                  go_wp2_with fail
                  go_ret
                  exact ⟨rfl, FB.out⟩
              · subst hE0
                have HCC : Hid (∀ W, Below Z4.heap.size Z4 W → Calls Tryz.prog 24 #[.agg KK.toArray, .slice A n c, .slice A' n c'] W fun r w' => r = .returned (.bool true) ∧ Below W.heap.size W w') := fun W k => HCL.out W A A' c c' n K0 KK true (Nat.le_refl _) (U4.out.keep k).be (U4.out.keep k).ea (U4.out.keep k).eb HKK.out.2 HKK.out.1 hcl
                clear hcl
                go_upto_region 28 with fail
                clear hfe2 hfe3
                have hb1 := Below.refl Z4.heap.size Z4
                refine wp_named fun a0 ha0 => ?_
                have hsz : a0.tmps.size = 183 := by rw [ha0]; rfl
                have zs5 : a0.eval (.tmp 5) = .pointer (some ⟨b5, 0, none⟩) := by rw [ha0]; rfl
                have zs7 : a0.eval (.tmp 7) = .slice A M1 c := by rw [ha0]; rfl
                have zs8 : a0.eval (.tmp 8) = .slice A' M2 c' := by rw [ha0]; rfl
                have zs9 : a0.eval (.tmp 9) = .int .i64 (n : Int) := by rw [ha0]; rfl
                have zs21 : a0.eval (.tmp 21) = .bool false := by rw [ha0]; rfl
                have zs20 : a0.eval (.tmp 20) = .int .i64 0 := by rw [ha0]; rfl
                obtain ⟨D, hD⟩ : ∃ D : List (Tmp × SP), D = [(156, SP.is (.bool false)), (157, SP.is (.bool false)), (158, SP.is (undef)), (159, SP.is (undef)), (160, SP.is (.bool false)), (161, SP.is (.bool false)), (162, SP.is (.bool false)), (163, SP.is (.bool true)), (164, SP.is (.bool true)), (165, SP.is (.int .i64 0)), (166, SP.is (.bool false)), (167, SP.is (.bool false)), (168, SP.is (.int .i64 0)), (169, SP.is (.bool true)), (170, SP.is (.bool true)), (171, SP.is (.agg KK.toArray)), (172, SP.is (.slice A M1 c)), (173, SP.is (.int .i64 (n : Int))), (174, SP.is (.slice A n c)), (175, SP.is (.slice A' M2 c')), (176, SP.is (.int .i64 (n : Int))), (177, SP.is (.slice A' n c')), (178, SP.is (.bool true)), (179, SP.is (.bool true)), (180, SP.is (.bool true)), (181, SP.is (.bool true)), (182, SP.is (.bool true)), (6, SP.is (.bool true))] := ⟨_, rfl⟩
                refine wp_region_down (by kernel_rfl) (fun listed ac W => listed.size = 28 ∧ Fp D a0 listed ac W ∧ Below Z4.heap.size Z4 W ∧ Row W b5 KK 51) ?_ ?_ ?_
                · exact ⟨by simp, Fp.start D a0 _ _, Below.drew hb1, Row.drew r5⟩
                · clear ha0 hb1 r5 
                  intro listed ac W k hI hdn hk
                  obtain ⟨hl, hF, hb1, r5⟩ := hI
                  have hk1 : k < 28 := List.mem_range.1 (List.mem_filter.1 hk).1
                  have hl2 : ∀ j, (listed.setIfInBounds j true).size = 28 := fun j => by rw [Array.size_setIfInBounds]; exact hl
                  rcases (show k = 0 ∨ k = 1 ∨ k = 2 ∨ k = 3 ∨ k = 4 ∨ k = 5 ∨ k = 6 ∨ k = 7 ∨ k = 8 ∨ k = 9 ∨ k = 10 ∨ k = 11 ∨ k = 12 ∨ k = 13 ∨ k = 14 ∨ k = 15 ∨ k = 16 ∨ k = 17 ∨ k = 18 ∨ k = 19 ∨ k = 20 ∨ k = 21 ∨ k = 22 ∨ k = 23 ∨ k = 24 ∨ k = 25 ∨ k = 26 ∨ k = 27 by omega) with rfl | rfl | rfl | rfl | rfl | rfl | rfl | rfl | rfl | rfl | rfl | rfl | rfl | rfl | rfl | rfl | rfl | rfl | rfl | rfl | rfl | rfl | rfl | rfl | rfl | rfl | rfl | rfl
                  · have hk3 := hk
                    exact wpOp_plain rfl rfl (wp_move_v (ac.eval (.tmp 21)) rfl rfl ⟨hl2 0, (hF.put 0 156 (SP.is (.bool false)) (ac.eval (.tmp 21)) (by rw [hD]; rfl) (((hF.keep 21 (by rw [hD]; rfl)).trans zs21)) (by rw [hD]; rfl) (by rw [hsz]; decide) (by rw [hl]; decide)), hb1, r5⟩)
                  · have hk3 := hk
                    exact wpOp_plain rfl rfl (wp_move_v (ac.eval (.tmp 156)) rfl rfl ⟨hl2 1, (hF.put 1 157 (SP.is (.bool false)) (ac.eval (.tmp 156)) (by rw [hD]; rfl) ((hF.done 0 (156, SP.is (.bool false)) (by rw [hD]; rfl) (ready_dep hk 0 (by kernel_rfl)))) (by rw [hD]; rfl) (by rw [hsz]; decide) (by rw [hl]; decide)), hb1, r5⟩)
                  · have hk3 := hk
                    exact wpOp_off rfl (unwanted_g (g := 1) (b := true) rfl rfl (hF.done 1 (157, SP.is (.bool false)) (by rw [hD]; rfl) (ready_dep hk 1 (by kernel_rfl))) (by rw [hF.size, hsz]; decide)) ⟨hl2 2, (hF.put 2 158 (SP.is (undef)) undef (by rw [hD]; rfl) rfl (by rw [hD]; rfl) (by rw [hsz]; decide) (by rw [hl]; decide)), hb1, r5⟩
                  · have hk3 := hk
                    exact wpOp_off rfl (unwanted_g (g := 1) (b := true) rfl rfl (hF.done 1 (157, SP.is (.bool false)) (by rw [hD]; rfl) (ready_dep hk 1 (by kernel_rfl))) (by rw [hF.size, hsz]; decide)) ⟨hl2 3, (hF.put 3 159 (SP.is (undef)) undef (by rw [hD]; rfl) rfl (by rw [hD]; rfl) (by rw [hsz]; decide) (by rw [hl]; decide)), hb1, r5⟩
                  · have hk3 := hk
                    have ea := (hF.done 1 (157, SP.is (.bool false)) (by rw [hD]; rfl) (ready_dep hk 1 (by kernel_rfl)))
                    exact wpOp_plain rfl rfl (wp_pick_f (.bool false) rfl ea rfl ⟨hl2 4, (hF.put 4 160 (SP.is (.bool false)) (.bool false) (by rw [hD]; rfl) rfl (by rw [hD]; rfl) (by rw [hsz]; decide) (by rw [hl]; decide)), hb1, r5⟩)
                  · have hk3 := hk
                    exact wpOp_plain rfl rfl (wp_move_v (ac.eval (.tmp 160)) rfl rfl ⟨hl2 5, (hF.put 5 161 (SP.is (.bool false)) (ac.eval (.tmp 160)) (by rw [hD]; rfl) ((hF.done 4 (160, SP.is (.bool false)) (by rw [hD]; rfl) (ready_dep hk 4 (by kernel_rfl)))) (by rw [hD]; rfl) (by rw [hsz]; decide) (by rw [hl]; decide)), hb1, r5⟩)
                  · have hk3 := hk
                    exact wpOp_wanted rfl (wanted_g (g := 5) (b := false) rfl rfl (hF.done 5 (161, SP.is (.bool false)) (by rw [hD]; rfl) (ready_dep hk 5 (by kernel_rfl))) (by rw [hF.size, hsz]; decide)) (wp_move_v (ac.eval (.tmp 21)) rfl rfl ⟨hl2 6, (hF.put 6 162 (SP.is (.bool false)) (ac.eval (.tmp 21)) (by rw [hD]; rfl) (((hF.keep 21 (by rw [hD]; rfl)).trans zs21)) (by rw [hD]; rfl) (by rw [hsz]; decide) (by rw [hl]; decide)), hb1, r5⟩)
                  · have hk3 := hk
                    have ea := (hF.done 6 (162, SP.is (.bool false)) (by rw [hD]; rfl) (ready_dep hk 6 (by kernel_rfl)))
                    exact wpOp_wanted rfl (wanted_g (g := 5) (b := false) rfl rfl (hF.done 5 (161, SP.is (.bool false)) (by rw [hD]; rfl) (ready_dep hk 5 (by kernel_rfl))) (by rw [hF.size, hsz]; decide)) (wp_notT false rfl ea ⟨hl2 7, (hF.put 7 163 (SP.is (.bool true)) (.bool true) (by rw [hD]; rfl) rfl (by rw [hD]; rfl) (by rw [hsz]; decide) (by rw [hl]; decide)), hb1, r5⟩)
                  · have hk3 := hk
                    exact wpOp_wanted rfl (wanted_g (g := 5) (b := false) rfl rfl (hF.done 5 (161, SP.is (.bool false)) (by rw [hD]; rfl) (ready_dep hk 5 (by kernel_rfl))) (by rw [hF.size, hsz]; decide)) (wp_move_v (ac.eval (.tmp 163)) rfl rfl ⟨hl2 8, (hF.put 8 164 (SP.is (.bool true)) (ac.eval (.tmp 163)) (by rw [hD]; rfl) ((hF.done 7 (163, SP.is (.bool true)) (by rw [hD]; rfl) (ready_dep hk 7 (by kernel_rfl)))) (by rw [hD]; rfl) (by rw [hsz]; decide) (by rw [hl]; decide)), hb1, r5⟩)
                  · have hk3 := hk
                    exact wpOp_wanted rfl (wanted_g (g := 8) (b := true) rfl rfl (hF.done 8 (164, SP.is (.bool true)) (by rw [hD]; rfl) (ready_dep hk 8 (by kernel_rfl))) (by rw [hF.size, hsz]; decide)) (wp_move_v (ac.eval (.tmp 20)) rfl rfl ⟨hl2 9, (hF.put 9 165 (SP.is (.int .i64 0)) (ac.eval (.tmp 20)) (by rw [hD]; rfl) (((hF.keep 20 (by rw [hD]; rfl)).trans zs20)) (by rw [hD]; rfl) (by rw [hsz]; decide) (by rw [hl]; decide)), hb1, r5⟩)
                  · have hk3 := hk
                    have ea := (hF.done 9 (165, SP.is (.int .i64 0)) (by rw [hD]; rfl) (ready_dep hk 9 (by kernel_rfl)))
                    exact wpOp_wanted rfl (wanted_g (g := 8) (b := true) rfl rfl (hF.done 8 (164, SP.is (.bool true)) (by rw [hD]; rfl) (ready_dep hk 8 (by kernel_rfl))) (by rw [hF.size, hsz]; decide)) (wp_eqint_v rfl ea rfl rfl ⟨hl2 10, (hF.put 10 166 (SP.is (.bool false)) (.bool false) (by rw [hD]; rfl) rfl (by rw [hD]; rfl) (by rw [hsz]; decide) (by rw [hl]; decide)), hb1, r5⟩)
                  · have hk3 := hk
                    exact wpOp_wanted rfl (wanted_g (g := 8) (b := true) rfl rfl (hF.done 8 (164, SP.is (.bool true)) (by rw [hD]; rfl) (ready_dep hk 8 (by kernel_rfl))) (by rw [hF.size, hsz]; decide)) (wp_move_v (ac.eval (.tmp 166)) rfl rfl ⟨hl2 11, (hF.put 11 167 (SP.is (.bool false)) (ac.eval (.tmp 166)) (by rw [hD]; rfl) ((hF.done 10 (166, SP.is (.bool false)) (by rw [hD]; rfl) (ready_dep hk 10 (by kernel_rfl)))) (by rw [hD]; rfl) (by rw [hsz]; decide) (by rw [hl]; decide)), hb1, r5⟩)
                  · have hk3 := hk
                    exact wpOp_wanted rfl (wanted_g (g := 11) (b := false) rfl rfl (hF.done 11 (167, SP.is (.bool false)) (by rw [hD]; rfl) (ready_dep hk 11 (by kernel_rfl))) (by rw [hF.size, hsz]; decide)) (wp_move_v (ac.eval (.tmp 20)) rfl rfl ⟨hl2 12, (hF.put 12 168 (SP.is (.int .i64 0)) (ac.eval (.tmp 20)) (by rw [hD]; rfl) (((hF.keep 20 (by rw [hD]; rfl)).trans zs20)) (by rw [hD]; rfl) (by rw [hsz]; decide) (by rw [hl]; decide)), hb1, r5⟩)
                  · have hk3 := hk
                    have ea := (hF.done 12 (168, SP.is (.int .i64 0)) (by rw [hD]; rfl) (ready_dep hk 12 (by kernel_rfl)))
                    exact wpOp_wanted rfl (wanted_g (g := 11) (b := false) rfl rfl (hF.done 11 (167, SP.is (.bool false)) (by rw [hD]; rfl) (ready_dep hk 11 (by kernel_rfl))) (by rw [hF.size, hsz]; decide)) (wp_eqint_v rfl ea rfl rfl ⟨hl2 13, (hF.put 13 169 (SP.is (.bool true)) (.bool true) (by rw [hD]; rfl) rfl (by rw [hD]; rfl) (by rw [hsz]; decide) (by rw [hl]; decide)), hb1, r5⟩)
                  · have hk3 := hk
                    exact wpOp_wanted rfl (wanted_g (g := 11) (b := false) rfl rfl (hF.done 11 (167, SP.is (.bool false)) (by rw [hD]; rfl) (ready_dep hk 11 (by kernel_rfl))) (by rw [hF.size, hsz]; decide)) (wp_move_v (ac.eval (.tmp 169)) rfl rfl ⟨hl2 14, (hF.put 14 170 (SP.is (.bool true)) (ac.eval (.tmp 169)) (by rw [hD]; rfl) ((hF.done 13 (169, SP.is (.bool true)) (by rw [hD]; rfl) (ready_dep hk 13 (by kernel_rfl)))) (by rw [hD]; rfl) (by rw [hsz]; decide) (by rw [hl]; decide)), hb1, r5⟩)
                  · have hk3 := hk
                    exact wpOp_wanted rfl (wanted_g (g := 14) (b := true) rfl rfl (hF.done 14 (170, SP.is (.bool true)) (by rw [hD]; rfl) (ready_dep hk 14 (by kernel_rfl))) (by rw [hF.size, hsz]; decide)) (wp_load_mid 51 (.tmp 5) rfl b5 0 ((hF.keep 5 (by rw [hD]; rfl)).trans zs5) KK _ r5.all Tryz.underlying51 rfl HKI.out ⟨hl2 15, (hF.put 15 171 (SP.is (.agg KK.toArray)) (.agg KK.toArray) (by rw [hD]; rfl) rfl (by rw [hD]; rfl) (by rw [hsz]; decide) (by rw [hl]; decide)), hb1, r5⟩)
                  · have hk3 := hk
                    exact wpOp_wanted rfl (wanted_g (g := 14) (b := true) rfl rfl (hF.done 14 (170, SP.is (.bool true)) (by rw [hD]; rfl) (ready_dep hk 14 (by kernel_rfl))) (by rw [hF.size, hsz]; decide)) (wp_move_v (ac.eval (.tmp 7)) rfl rfl ⟨hl2 16, (hF.put 16 172 (SP.is (.slice A M1 c)) (ac.eval (.tmp 7)) (by rw [hD]; rfl) (((hF.keep 7 (by rw [hD]; rfl)).trans zs7)) (by rw [hD]; rfl) (by rw [hsz]; decide) (by rw [hl]; decide)), hb1, r5⟩)
                  · have hk3 := hk
                    exact wpOp_wanted rfl (wanted_g (g := 14) (b := true) rfl rfl (hF.done 14 (170, SP.is (.bool true)) (by rw [hD]; rfl) (ready_dep hk 14 (by kernel_rfl))) (by rw [hF.size, hsz]; decide)) (wp_move_v (ac.eval (.tmp 9)) rfl rfl ⟨hl2 17, (hF.put 17 173 (SP.is (.int .i64 (n : Int))) (ac.eval (.tmp 9)) (by rw [hD]; rfl) (((hF.keep 9 (by rw [hD]; rfl)).trans zs9)) (by rw [hD]; rfl) (by rw [hsz]; decide) (by rw [hl]; decide)), hb1, r5⟩)
                  · have hk3 := hk
                    have ea := (hF.done 16 (172, SP.is (.slice A M1 c)) (by rw [hD]; rfl) (ready_dep hk 16 (by kernel_rfl)))
                    have eb := (hF.done 17 (173, SP.is (.int .i64 (n : Int))) (by rw [hD]; rfl) (ready_dep hk 17 (by kernel_rfl)))
                    exact wpOp_wanted rfl (wanted_g (g := 14) (b := true) rfl rfl (hF.done 14 (170, SP.is (.bool true)) (by rw [hD]; rfl) (ready_dep hk 14 (by kernel_rfl))) (by rw [hF.size, hsz]; decide)) (wp_cutTo 52 46 (.tmp 172) (.tmp 173) A M1 c n 49 rfl ea eb HCN1.out Tryz.underlying52 info_ent ⟨hl2 18, (hF.put 18 174 (SP.is (.slice A n c)) (.slice A n c) (by rw [hD]; rfl) rfl (by rw [hD]; rfl) (by rw [hsz]; decide) (by rw [hl]; decide)), hb1, r5⟩)
                  · have hk3 := hk
                    exact wpOp_wanted rfl (wanted_g (g := 14) (b := true) rfl rfl (hF.done 14 (170, SP.is (.bool true)) (by rw [hD]; rfl) (ready_dep hk 14 (by kernel_rfl))) (by rw [hF.size, hsz]; decide)) (wp_move_v (ac.eval (.tmp 8)) rfl rfl ⟨hl2 19, (hF.put 19 175 (SP.is (.slice A' M2 c')) (ac.eval (.tmp 8)) (by rw [hD]; rfl) (((hF.keep 8 (by rw [hD]; rfl)).trans zs8)) (by rw [hD]; rfl) (by rw [hsz]; decide) (by rw [hl]; decide)), hb1, r5⟩)
                  · have hk3 := hk
                    exact wpOp_wanted rfl (wanted_g (g := 14) (b := true) rfl rfl (hF.done 14 (170, SP.is (.bool true)) (by rw [hD]; rfl) (ready_dep hk 14 (by kernel_rfl))) (by rw [hF.size, hsz]; decide)) (wp_move_v (ac.eval (.tmp 9)) rfl rfl ⟨hl2 20, (hF.put 20 176 (SP.is (.int .i64 (n : Int))) (ac.eval (.tmp 9)) (by rw [hD]; rfl) (((hF.keep 9 (by rw [hD]; rfl)).trans zs9)) (by rw [hD]; rfl) (by rw [hsz]; decide) (by rw [hl]; decide)), hb1, r5⟩)
                  · have hk3 := hk
                    have ea := (hF.done 19 (175, SP.is (.slice A' M2 c')) (by rw [hD]; rfl) (ready_dep hk 19 (by kernel_rfl)))
                    have eb := (hF.done 20 (176, SP.is (.int .i64 (n : Int))) (by rw [hD]; rfl) (ready_dep hk 20 (by kernel_rfl)))
                    exact wpOp_wanted rfl (wanted_g (g := 14) (b := true) rfl rfl (hF.done 14 (170, SP.is (.bool true)) (by rw [hD]; rfl) (ready_dep hk 14 (by kernel_rfl))) (by rw [hF.size, hsz]; decide)) (wp_cutTo 52 46 (.tmp 175) (.tmp 176) A' M2 c' n 49 rfl ea eb HCN2.out Tryz.underlying52 info_ent ⟨hl2 21, (hF.put 21 177 (SP.is (.slice A' n c')) (.slice A' n c') (by rw [hD]; rfl) rfl (by rw [hD]; rfl) (by rw [hsz]; decide) (by rw [hl]; decide)), hb1, r5⟩)
                  · have hk3 := hk
                    have e171 := (hF.done 15 (171, SP.is (.agg KK.toArray)) (by rw [hD]; rfl) (ready_dep hk 15 (by kernel_rfl)))
                    have e174 := (hF.done 18 (174, SP.is (.slice A n c)) (by rw [hD]; rfl) (ready_dep hk 18 (by kernel_rfl)))
                    have e177 := (hF.done 21 (177, SP.is (.slice A' n c')) (by rw [hD]; rfl) (ready_dep hk 21 (by kernel_rfl)))
                    refine wpOp_wanted rfl (wanted_g (g := 14) (b := true) rfl rfl (hF.done 14 (170, SP.is (.bool true)) (by rw [hD]; rfl) (ready_dep hk 14 (by kernel_rfl))) (by rw [hF.size, hsz]; decide)) (wp_fcall_v 24 #[.agg KK.toArray, .slice A n c, .slice A' n c'] rfl rfl (by show [ac.eval (.tmp 171), ac.eval (.tmp 174), ac.eval (.tmp 177)] = _; rw [show ac.eval (.tmp 171) = _ from e171, show ac.eval (.tmp 174) = _ from e174, show ac.eval (.tmp 177) = _ from e177]) (by go_simp) ((HCC.out W hb1).mono ?_))
                    rintro e W2 ⟨rfl, hB⟩
                    exact ⟨_, rfl, hl2 22, ((hF.world hB).put 22 178 (SP.is (.bool true)) (.bool true) (by rw [hD]; rfl) rfl (by rw [hD]; rfl) (by rw [hsz]; decide) (by rw [hl]; decide)), hb1.trans (hB.mono hb1.size), Row.below r5 hB (Row.lt r5)⟩
                  · have hk3 := hk
                    have ea := (hF.done 14 (170, SP.is (.bool true)) (by rw [hD]; rfl) (ready_dep hk 14 (by kernel_rfl)))
                    have eb := (hF.done 22 (178, SP.is (.bool true)) (by rw [hD]; rfl) (ready_dep hk 22 (by kernel_rfl)))
                    exact wpOp_wanted rfl (wanted_g (g := 11) (b := false) rfl rfl (hF.done 11 (167, SP.is (.bool false)) (by rw [hD]; rfl) (ready_dep hk 11 (by kernel_rfl))) (by rw [hF.size, hsz]; decide)) (wp_pick_v (.bool true) rfl ea eb ⟨hl2 23, (hF.put 23 179 (SP.is (.bool true)) (.bool true) (by rw [hD]; rfl) rfl (by rw [hD]; rfl) (by rw [hsz]; decide) (by rw [hl]; decide)), hb1, r5⟩)
                  · have hk3 := hk
                    have ea := (hF.done 11 (167, SP.is (.bool false)) (by rw [hD]; rfl) (ready_dep hk 11 (by kernel_rfl)))
                    have eb := (hF.done 23 (179, SP.is (.bool true)) (by rw [hD]; rfl) (ready_dep hk 23 (by kernel_rfl)))
                    exact wpOp_wanted rfl (wanted_g (g := 8) (b := true) rfl rfl (hF.done 8 (164, SP.is (.bool true)) (by rw [hD]; rfl) (ready_dep hk 8 (by kernel_rfl))) (by rw [hF.size, hsz]; decide)) (wp_pick_f (.bool true) rfl ea eb ⟨hl2 24, (hF.put 24 180 (SP.is (.bool true)) (.bool true) (by rw [hD]; rfl) rfl (by rw [hD]; rfl) (by rw [hsz]; decide) (by rw [hl]; decide)), hb1, r5⟩)
                  · have hk3 := hk
                    have ea := (hF.done 8 (164, SP.is (.bool true)) (by rw [hD]; rfl) (ready_dep hk 8 (by kernel_rfl)))
                    have eb := (hF.done 24 (180, SP.is (.bool true)) (by rw [hD]; rfl) (ready_dep hk 24 (by kernel_rfl)))
                    exact wpOp_wanted rfl (wanted_g (g := 5) (b := false) rfl rfl (hF.done 5 (161, SP.is (.bool false)) (by rw [hD]; rfl) (ready_dep hk 5 (by kernel_rfl))) (by rw [hF.size, hsz]; decide)) (wp_pick_v (.bool true) rfl ea eb ⟨hl2 25, (hF.put 25 181 (SP.is (.bool true)) (.bool true) (by rw [hD]; rfl) rfl (by rw [hD]; rfl) (by rw [hsz]; decide) (by rw [hl]; decide)), hb1, r5⟩)
                  · have hk3 := hk
                    have ea := (hF.done 5 (161, SP.is (.bool false)) (by rw [hD]; rfl) (ready_dep hk 5 (by kernel_rfl)))
                    have eb := (hF.done 25 (181, SP.is (.bool true)) (by rw [hD]; rfl) (ready_dep hk 25 (by kernel_rfl)))
                    exact wpOp_plain rfl rfl (wp_pick_f (.bool true) rfl ea eb ⟨hl2 26, (hF.put 26 182 (SP.is (.bool true)) (.bool true) (by rw [hD]; rfl) rfl (by rw [hD]; rfl) (by rw [hsz]; decide) (by rw [hl]; decide)), hb1, r5⟩)
                  · have hk3 := hk
                    exact wpOp_plain rfl rfl (wp_assign_v (ac.eval (.tmp 182)) rfl rfl ⟨hl2 27, (hF.put 27 6 (SP.is (.bool true)) (ac.eval (.tmp 182)) (by rw [hD]; rfl) ((hF.done 26 (182, SP.is (.bool true)) (by rw [hD]; rfl) (ready_dep hk 26 (by kernel_rfl)))) (by rw [hD]; rfl) (by rw [hsz]; decide) (by rw [hl]; decide)), hb1, r5⟩)
                · clear hb1 r5 
                  intro listed ac W hI hr
                  obtain ⟨hl, hF, hb1, r5⟩ := hI
                  have hall := all_listed (by kernel_rfl) hl hr
                  have h156 : ac.eval (.tmp 156) = .bool false := hF.done 0 (156, SP.is (.bool false)) (by rw [hD]; rfl) (hall 0 (by decide))
                  have h157 : ac.eval (.tmp 157) = .bool false := hF.done 1 (157, SP.is (.bool false)) (by rw [hD]; rfl) (hall 1 (by decide))
                  have h158 : ac.eval (.tmp 158) = undef := hF.done 2 (158, SP.is (undef)) (by rw [hD]; rfl) (hall 2 (by decide))
                  have h159 : ac.eval (.tmp 159) = undef := hF.done 3 (159, SP.is (undef)) (by rw [hD]; rfl) (hall 3 (by decide))
                  have h160 : ac.eval (.tmp 160) = .bool false := hF.done 4 (160, SP.is (.bool false)) (by rw [hD]; rfl) (hall 4 (by decide))
                  have h161 : ac.eval (.tmp 161) = .bool false := hF.done 5 (161, SP.is (.bool false)) (by rw [hD]; rfl) (hall 5 (by decide))
                  have h162 : ac.eval (.tmp 162) = .bool false := hF.done 6 (162, SP.is (.bool false)) (by rw [hD]; rfl) (hall 6 (by decide))
                  have h163 : ac.eval (.tmp 163) = .bool true := hF.done 7 (163, SP.is (.bool true)) (by rw [hD]; rfl) (hall 7 (by decide))
                  have h164 : ac.eval (.tmp 164) = .bool true := hF.done 8 (164, SP.is (.bool true)) (by rw [hD]; rfl) (hall 8 (by decide))
                  have h165 : ac.eval (.tmp 165) = .int .i64 0 := hF.done 9 (165, SP.is (.int .i64 0)) (by rw [hD]; rfl) (hall 9 (by decide))
                  have h166 : ac.eval (.tmp 166) = .bool false := hF.done 10 (166, SP.is (.bool false)) (by rw [hD]; rfl) (hall 10 (by decide))
                  have h167 : ac.eval (.tmp 167) = .bool false := hF.done 11 (167, SP.is (.bool false)) (by rw [hD]; rfl) (hall 11 (by decide))
                  have h168 : ac.eval (.tmp 168) = .int .i64 0 := hF.done 12 (168, SP.is (.int .i64 0)) (by rw [hD]; rfl) (hall 12 (by decide))
                  have h169 : ac.eval (.tmp 169) = .bool true := hF.done 13 (169, SP.is (.bool true)) (by rw [hD]; rfl) (hall 13 (by decide))
                  have h170 : ac.eval (.tmp 170) = .bool true := hF.done 14 (170, SP.is (.bool true)) (by rw [hD]; rfl) (hall 14 (by decide))
                  have h171 : ac.eval (.tmp 171) = .agg KK.toArray := hF.done 15 (171, SP.is (.agg KK.toArray)) (by rw [hD]; rfl) (hall 15 (by decide))
                  have h172 : ac.eval (.tmp 172) = .slice A M1 c := hF.done 16 (172, SP.is (.slice A M1 c)) (by rw [hD]; rfl) (hall 16 (by decide))
                  have h173 : ac.eval (.tmp 173) = .int .i64 (n : Int) := hF.done 17 (173, SP.is (.int .i64 (n : Int))) (by rw [hD]; rfl) (hall 17 (by decide))
                  have h174 : ac.eval (.tmp 174) = .slice A n c := hF.done 18 (174, SP.is (.slice A n c)) (by rw [hD]; rfl) (hall 18 (by decide))
                  have h175 : ac.eval (.tmp 175) = .slice A' M2 c' := hF.done 19 (175, SP.is (.slice A' M2 c')) (by rw [hD]; rfl) (hall 19 (by decide))
                  have h176 : ac.eval (.tmp 176) = .int .i64 (n : Int) := hF.done 20 (176, SP.is (.int .i64 (n : Int))) (by rw [hD]; rfl) (hall 20 (by decide))
                  have h177 : ac.eval (.tmp 177) = .slice A' n c' := hF.done 21 (177, SP.is (.slice A' n c')) (by rw [hD]; rfl) (hall 21 (by decide))
                  have h178 : ac.eval (.tmp 178) = .bool true := hF.done 22 (178, SP.is (.bool true)) (by rw [hD]; rfl) (hall 22 (by decide))
                  have h179 : ac.eval (.tmp 179) = .bool true := hF.done 23 (179, SP.is (.bool true)) (by rw [hD]; rfl) (hall 23 (by decide))
                  have h180 : ac.eval (.tmp 180) = .bool true := hF.done 24 (180, SP.is (.bool true)) (by rw [hD]; rfl) (hall 24 (by decide))
                  have h181 : ac.eval (.tmp 181) = .bool true := hF.done 25 (181, SP.is (.bool true)) (by rw [hD]; rfl) (hall 25 (by decide))
                  have h182 : ac.eval (.tmp 182) = .bool true := hF.done 26 (182, SP.is (.bool true)) (by rw [hD]; rfl) (hall 26 (by decide))
                  have h6 : ac.eval (.tmp 6) = .bool true := hF.done 27 (6, SP.is (.bool true)) (by rw [hD]; rfl) (hall 27 (by decide))
                  have ea := hF.lay [(156, .bool false), (157, .bool false), (158, undef), (159, undef), (160, .bool false), (161, .bool false), (162, .bool false), (163, .bool true), (164, .bool true), (165, .int .i64 0), (166, .bool false), (167, .bool false), (168, .int .i64 0), (169, .bool true), (170, .bool true), (171, .agg KK.toArray), (172, .slice A M1 c), (173, .int .i64 (n : Int)), (174, .slice A n c), (175, .slice A' M2 c'), (176, .int .i64 (n : Int)), (177, .slice A' n c'), (178, .bool true), (179, .bool true), (180, .bool true), (181, .bool true), (182, .bool true), (6, .bool true)] (by rw [hD, hsz]; rfl) (by simp only [List.forall_mem_cons, List.not_mem_nil, false_implies, implies_true, and_true]; exact ⟨h156, h157, h158, h159, h160, h161, h162, h163, h164, h165, h166, h167, h168, h169, h170, h171, h172, h173, h174, h175, h176, h177, h178, h179, h180, h181, h182, h6⟩)
                  rw [ha0] at ea
                  simp only [List.foldl_cons, List.foldl_nil, List.setIfInBounds_toArray, List.set_cons_zero, List.set_cons_succ] at ea
                  clear hF hall hr hl hD  zs5 zs7 zs8 zs9 zs21 zs20 ha0 hsz h156 h157 h158 h159 h160 h161 h162 h163 h164 h165 h166 h167 h168 h169 h170 h171 h172 h173 h174 h175 h176 h177 h178 h179 h180 h181 h182 h6
                  subst ea
                  have FB : Hid (Below w.heap.size w W) := U4.out.be.trans (hb1.mono U4.out.be.size)
                  clear r5 hb1
                  go_wp2_with fail
                  go_ret
                  exact ⟨rfl, FB.out⟩

end Go.Proofs.YtfjhecmnbodkfaaGreatDoor
