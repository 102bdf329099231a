/-
  read.
-/
import Derived.Test.YtclbiophgnkggaaGreatDoorMkJ
namespace Go.Proofs.YtclbiophgnkggaaGreatDoor
open Go Go.RowKit
open Sha
open Wd

theorem Lw.gb {w w' : World} {v u : Value} {e : TypeId} {s n : Nat} {xs : List Value} (h : Lw w e s v n xs) (k : w.grownBy w' u.ownBlock) (hR : ∀ g, v.ownBlock = some g → some g ≠ u.ownBlock) : Lw w' e s v n xs := Lw.block h fun g e => k.block g (Lw.lt h g e) (hR g e)
theorem row_gb {w w' : World} {b : Nat} {cs : List Value} {t : TypeId} {r : Option Nat} (h : Row w b cs t) (k : w.grownBy w' r) (hn : some b ≠ r) : Row w' b cs t := (k.block b h.lt hn).trans h
theorem below_gb {w X Y : World} {r : Option Nat} (h : Below w.heap.size w X) (k : X.grownBy Y r) (hr : ∀ g, r = some g → w.heap.size ≤ g) : Below w.heap.size w Y :=
  ((Gro.of_below h : Gro (fun g => w.heap.size ≤ g) w X).grown k (fun g e => .inl (hr g e))).to_below (Nat.le_refl _) (fun _ h => h)
theorem some_ne {b : Nat} {r : Option Nat} (h : ∀ g, r = some g → g ≠ b) : some b ≠ r := fun e => h b e.symm rfl
theorem zP_one : zP.toArray.all (·.oneCell') = true := by rw [← Array.all_toList]; rfl
theorem pp_one (A : Option Addr) (k c gs n : Nat) : [Value.slice A k c, .slice (some ⟨gs, 0, none⟩) n n].toArray.all (·.oneCell') = true := by rw [← Array.all_toList]; rfl
set_option maxRecDepth 100000 in
set_option maxHeartbeats 4000000 in
theorem read_len (T n cap : Nat) (A : Option Addr) (d : List (BitVec 8)) (hd : d.length = n) (h : n = 0 ∨ 1024 < n) (hm : n < 9223372036854775808) (w : World) : Calls Tryz.prog 16 #[.slice (some ⟨T, 0, none⟩) 28 28, .slice A n cap] w fun e w' => (chk d = none ∧ e = .returned (.tuple #[.agg zP.toArray, .int .i64 100])) ∧ Below w.heap.size w w' := by
  have HNO : Hid (chk d = none) := by show _ = _; unfold chk; rw [hd]; exact if_pos h
  go_enter Tryz.func16, Tryz.ntmps16
  go_upto_region 1 with (refine wpList_allocP rfl rfl ?_; intro X1 q1 q2 q3; have RQ : Hid (Row X1 w.heap.size zP 44) := q1; have BB : Hid (Below w.heap.size w X1) := q2; clear q1 q2 q3; simp only [Act.put, List.setIfInBounds_toArray, List.set_cons_zero, List.set_cons_succ])
  obtain ⟨q, hq⟩ : ∃ q, q = w.heap.size := ⟨_, rfl⟩
  have HQ : Hid (q = w.heap.size) := hq
  rw [← hq] at RQ
  rw [← hq]
  clear hq hd
  by_cases h0 : n = 0
  · subst h0
    go_wp2_with (refine wpList_storeL rfl 44 (.tmp 4) (.tmp 18) rfl q zP zP 44 rfl rfl RQ.out rfl info_P zP_one ?_; intro X9 q1 q2; have E9 : Hid (X9 = _) := q1; have R9 : Hid (Row X9 q zP 44) := q2; clear q1 q2; simp only [Act.put])
    have hE : Below w.heap.size w X9 := by rw [E9.out]; exact below_setCells BB.out (by rw [HQ.out]; exact Nat.le_refl _) _
    exact bodyPost_ret (results_rowS_tmp Tryz.results16 _ _ q 44 zP (.int .i64 100) rfl rfl R9.out Tryz.underlying44 info_P) rfl ⟨⟨HNO.out, rfl⟩, hE⟩
  · have hgt : 1024 < n := h.resolve_left h0
    clear h
    go_wp2_with (refine wpList_storeL rfl 44 (.tmp 4) (.tmp 18) rfl q zP zP 44 rfl rfl RQ.out rfl info_P zP_one ?_; intro X9 q1 q2; have E9 : Hid (X9 = _) := q1; have R9 : Hid (Row X9 q zP 44) := q2; clear q1 q2; simp only [Act.put])
    have hE : Below w.heap.size w X9 := by rw [E9.out]; exact below_setCells BB.out (by rw [HQ.out]; exact Nat.le_refl _) _
    exact bodyPost_ret (results_rowS_tmp Tryz.results16 _ _ q 44 zP (.int .i64 100) rfl rfl R9.out Tryz.underlying44 info_P) rfl ⟨⟨HNO.out, rfl⟩, hE⟩
set_option maxRecDepth 100000 in
set_option maxHeartbeats 4000000 in
theorem read_any (T g n cap : Nat) (d : List (BitVec 8)) (hd : d.length = n) (h0 : 0 < n) (h1 : n ≤ 1024) (hc : n ≤ cap) (w : World) (hT : Row w T mtab 84) (hr : w.rangeAt g 0 (vB d)) : Calls Tryz.prog 16 #[.slice (some ⟨T, 0, none⟩) 28 28, .slice (some ⟨g, 0, none⟩) n cap] w fun e w' => ((∃ ls v gs, chk d = some ls ∧ Gd ls n ∧ e = .returned (.tuple #[.agg #[v, .slice (some ⟨gs, 0, none⟩) n n], .int .i64 0]) ∧ Lw w' 53 7 v ls.length (fl ls) ∧ Row w' gs (vI (sts ls n)) 3 ∧ w.heap.size ≤ gs ∧ ∀ g, v.ownBlock = some g → w.heap.size ≤ g) ∨ (chk d = none ∧ e = .returned (.tuple #[.agg zP.toArray, .int .i64 100]))) ∧ Below w.heap.size w w' := by
  have HT : Hid (Row w T mtab 84) := hT
  have HR : Hid (w.rangeAt g 0 (vB d)) := hr
  have HDL : Hid (d.length = n) := hd
  have HC : Hid (n ≤ cap) := hc
  have HLEN : Hid (¬ (d.length = 0 ∨ 1024 < d.length)) := by show ¬ _; omega
  have en0 : ((n : Int) == 0) = false := by simp; omega
  have en1 : ¬ ((1024 : Int) < (n : Int)) := by omega
  clear hT hr hd hc
  go_enter Tryz.func16, Tryz.ntmps16
  go_upto_region 1 with (refine wpList_allocP rfl rfl ?_; intro X1 q1 q2 q3; have RQ : Hid (Row X1 w.heap.size zP 44) := q1; have BB : Hid (Below w.heap.size w X1) := q2; have S1 : Hid (X1.heap.size = w.heap.size + 1) := q3; clear q1 q2 q3; simp only [Act.put, List.setIfInBounds_toArray, List.set_cons_zero, List.set_cons_succ])
  go_upto_region 4 with (first
    | (refine wpList_makeI rfl (.tmp 20) (.tmp 20) rfl n rfl rfl (by omega) ?_; intro X2 q1 q2 q3; have R2 : Hid (Row X2 X1.heap.size (vI (List.replicate n 0)) 3) := q1; have B2 : Hid (Below X1.heap.size X1 X2) := q2; have S2 : Hid (X2.heap.size = X1.heap.size + 1) := q3; clear q1 q2 q3; simp only [Act.put, List.setIfInBounds_toArray, List.set_cons_zero, List.set_cons_succ])
    | (refine wpList_allocP rfl rfl ?_; intro X3 q1 q2 q3; have R3 : Hid (Row X3 X2.heap.size zP 44) := q1; have B3 : Hid (Below X2.heap.size X2 X3) := q2; clear q1 q2 q3; simp only [Act.put, List.setIfInBounds_toArray, List.set_cons_zero, List.set_cons_succ])
    | (refine wpList_storeL rfl 44 (.tmp 6) (.tmp 22) rfl X2.heap.size [.slice none 0 0, .slice (some ⟨X1.heap.size, 0, none⟩) n n] zP 44 rfl rfl R3.out rfl info_P (pp_one none 0 0 _ n) ?_; intro X4 q1 q2; have E4 : Hid (X4 = _) := q1; have R4 : Hid (Row X4 X2.heap.size [.slice none 0 0, .slice (some ⟨X1.heap.size, 0, none⟩) n n] 44) := q2; clear q1 q2; simp only [Act.put]))
  obtain ⟨q, hq⟩ : ∃ q, q = w.heap.size := ⟨_, rfl⟩
  obtain ⟨gs, hgs⟩ : ∃ gs, gs = X1.heap.size := ⟨_, rfl⟩
  obtain ⟨pp, hpp⟩ : ∃ pp, pp = X2.heap.size := ⟨_, rfl⟩
  have es1 : gs = q + 1 := by rw [hgs, hq]; exact S1.out
  have es2 : pp = gs + 1 := by rw [hpp, hgs]; exact S2.out
  have HRS : Hid (Rs w X4 q pp gs n (.slice none 0 0) []) := by
    rw [E4.out]
    have k3 : Below w.heap.size w X3 := BB.out.trans ((B2.out.trans (B3.out.mono (by rw [S2.out]; omega))).mono BB.out.size)
    refine ⟨?_, ?_, Lw.nil _ _ _, ?_, ?_, hq, by omega, by omega, fun g e => by cases e⟩
    · exact Row.setCells_other (Row.below (Row.below (by rw [hq]; exact RQ.out) B2.out (by omega)) B3.out (by omega)) _ _ _ (by omega)
    · rw [hpp, hgs, ← E4.out]; exact R4.out
    · rw [sts_nil, hgs]; exact Row.setCells_other (Row.below R2.out B3.out (by omega)) _ _ _ (by omega)
    · exact below_setCells k3 (by omega) _
  rw [← hq, ← hgs, ← hpp]
  clear hq hgs hpp E4 R4 R3 B3 R2 B2 S2 RQ BB S1 es1 es2
  go_wp2_with fail
  go_loopw [7] (fun vv wr => ∃ (p f : Nat) (ls : List Ins) (v : Value), p ≤ n ∧ vv = .int .i64 (p : Int) ∧ Hid (Rs w wr q pp gs n v ls) ∧ Hid (Gd ls p ∧ ls.length ≤ p) ∧ Hid (n ≤ p + f ∧ pg d (n + 1) 0 = (pg d (f + 1) p).map (ls ++ ·))) (fun vv _ => n - (intOf vv).toNat)
  case atStart => exact ⟨0, n, [], _, Nat.zero_le _, rfl, HRS, ⟨(fun y hy => by cases hy), Nat.le_refl _⟩, by show _ ∧ _; exact ⟨by omega, by simp⟩⟩
  case round =>
    clear HRS
    obtain ⟨p, f, ls, v, hpn, rfl, HRS, HGD, HPG⟩ := hrel
    by_cases hlt : p < n
    · have HRD : Hid (wr.rangeAt g p (vB (d.drop p))) := by
        have := range_drop (range_be HR.out HRS.out.be) p
        rwa [Nat.zero_add] at this
      have HTT : Hid (Row wr T mtab 84) := Row.below HT.out HRS.out.be HT.out.lt
      have HDP : Hid ((d.drop p).length = n - p) := by show _ = _; rw [List.length_drop, HDL.out]
      obtain ⟨f', rfl⟩ : ∃ f', f = f' + 1 := ⟨f - 1, by have := HPG.out.1; omega⟩
      have hnp : 0 < n - p := by omega
      cases hri : ri (d.drop p) with
      | none =>
        have HRI : Hid _ := readI_none T g p (n - p) (cap - p) (d.drop p) HDP.out hnp (by have := HC.out; omega) hri wr HTT.out HRD.out
        have HNO : Hid (chk d = none) := by
          show _ = _
          unfold chk
          rw [if_neg HLEN.out, HDL.out, HPG.out.2, pg_none (by rw [HDL.out]; exact hlt) hri]
          rfl
        clear hri
        go_upto_region 7 with (first
          | (refine wpList_slice_from rfl 22 (.tmp 29) (.tmp 30) rfl 5 g 0 n cap p _ rfl rfl rfl (Nat.le_of_lt hlt) HC.out Tryz.underlying22 info_u8 ?_; intro A qA; obtain rfl := qA hlt; rw [Nat.zero_add]; simp only [Act.put, List.setIfInBounds_toArray, List.set_cons_zero, List.set_cons_succ])
          | (go_at_call 57; refine Calls.mono HRI.out ?_; rintro e X1 ⟨rfl, q2⟩; have RS1 : Hid (Rs w X1 q pp gs n v ls) := HRS.out.keep q2; clear q2)
          | (refine wpList_allocI rfl rfl ?_; intro X2 q1 q2 q3; have R2 : Hid (Row X2 X1.heap.size zI 53) := q1; have B2 : Hid (Below X1.heap.size X1 X2) := q2; have RS2 : Hid (Rs w X2 q pp gs n v ls) := RS1.out.keep q2; clear q1 q2 q3; simp only [Act.put, List.setIfInBounds_toArray, List.set_cons_zero, List.set_cons_succ])
          | (refine wpList_storeL rfl 53 (.tmp 8) (.tmp 33) rfl X1.heap.size zI zI 53 rfl rfl R2.out rfl info_I zI_one ?_; intro X3 q1 q2; have E3 : Hid (X3 = _) := q1; clear q1 q2; simp only [Act.put]))
        have RS3 : Hid (Rs w X3 q pp gs n v ls) := RS1.out.keep (by rw [E3.out]; exact below_setCells B2.out (Nat.le_refl _) _)
        have RQ : Hid (Row X3 q zP 44) := RS3.out.hq
        have BB : Hid (Below w.heap.size w X3) := RS3.out.be
        have HQ : Hid (q = w.heap.size) := RS3.out.qlo
        clear E3 R2 B2 RS1 RS2 HRS
        go_wp2_with (refine wpList_storeL rfl 44 (.tmp 4) (.tmp 37) rfl q zP zP 44 rfl rfl RQ.out rfl info_P zP_one ?_; intro X9 q1 q2; have E9 : Hid (X9 = _) := q1; have R9 : Hid (Row X9 q zP 44) := q2; clear q1 q2; simp only [Act.put])
        have hE : Below w.heap.size w X9 := by rw [E9.out]; exact below_setCells BB.out (by rw [HQ.out]; exact Nat.le_refl _) _
        exact bodyPost_ret (results_rowS_tmp Tryz.results16 _ _ q 44 zP (.int .i64 100) rfl rfl R9.out Tryz.underlying44 info_P) rfl ⟨.inr ⟨HNO.out, rfl⟩, hE⟩
      | some y =>
        obtain ⟨c, a, m, z⟩ := y
        have hz := ri_size hri
        have hvl := ri_vals hri
        have HRI : Hid _ := readI_some T g p (n - p) (cap - p) (d.drop p) HDP.out (by have := HC.out; omega) c a m z hri wr HTT.out HRD.out
        have hzn : p + z ≤ n := by have := HDP.out; omega
        have hz1 : 1 ≤ z := hz.2.1
        have ez0 : ((z : Int) == 0) = false := by simp; omega
        have HPG2 : Hid (n ≤ p + z + f' ∧ pg d (n + 1) 0 = (pg d (f' + 1) (p + z)).map ((ls ++ [⟨c, p, a, m⟩]) ++ ·)) := by
          refine ⟨by have := HPG.out.1; omega, ?_⟩
          rw [HPG.out.2, pg_some (by rw [HDL.out]; exact hlt) hri, Option.map_map]
          congr 1
          funext r
          simp
        have HGD2 : Hid (Gd (ls ++ [⟨c, p, a, m⟩]) (p + z) ∧ (ls ++ [(⟨c, p, a, m⟩ : Ins)]).length ≤ p + z) := ⟨HGD.out.1.more _ rfl hz1 hz.1 hvl.1 hvl.2, by rw [List.length_append, List.length_singleton]; have := HGD.out.2; omega⟩
        obtain ⟨L, hL⟩ : ∃ L, L = ic c 0 a m := ⟨_, rfl⟩
        have HL : Hid (L = ic c 0 a m) := hL
        rw [← hL] at HRI
        have HI : Hid ((Tryz.prog.info? 53).map (·.size) = some L.length) := by show _ = _; rw [hL]; exact info_Ic _ _ _ _
        have HN7 : Hid (L.length = zI.length) := by show _ = _; rw [hL]; exact ic_len _ _ _ _
        have HO : Hid (L.toArray.all (·.oneCell') = true) := by show _ = _; rw [hL]; exact ic_one _ _ _ _
        have HL1 : Hid (1 < L.length) := by show _ < _; rw [hL, ic_len]; decide
        have hll : ls.length ≤ 1024 := by have := HGD.out.2; omega
        have HZ257 : Hid (z ≤ 257) := hz.2.2.1
        clear hri hL hz hvl HPG
        go_upto_region 7 with (first
          | (refine wpList_slice_from rfl 22 (.tmp 29) (.tmp 30) rfl 5 g 0 n cap p _ rfl rfl rfl (Nat.le_of_lt hlt) HC.out Tryz.underlying22 info_u8 ?_; intro A qA; obtain rfl := qA hlt; rw [Nat.zero_add]; simp only [Act.put, List.setIfInBounds_toArray, List.set_cons_zero, List.set_cons_succ])
          | (go_at_call 57; refine Calls.mono HRI.out ?_; rintro e X1 ⟨rfl, q2⟩; have RS1 : Hid (Rs w X1 q pp gs n v ls) := HRS.out.keep q2; clear q2)
          | (refine wpList_allocI rfl rfl ?_; intro X2 q1 q2 q3; have R2 : Hid (Row X2 X1.heap.size zI 53) := q1; have B2 : Hid (Below X1.heap.size X1 X2) := q2; clear q1 q2 q3; simp only [Act.put, List.setIfInBounds_toArray, List.set_cons_zero, List.set_cons_succ])
          | (refine wpList_storeL rfl 53 (.tmp 8) (.tmp 33) rfl X1.heap.size L zI 53 rfl rfl R2.out HN7.out HI.out HO.out ?_; intro X3 q1 q2; have E3 : Hid (X3 = _) := q1; have R3 : Hid (Row X3 X1.heap.size L 53) := q2; clear q1 q2; simp only [Act.put]))
        have B3 : Hid (Below X1.heap.size X1 X3) := by rw [E3.out]; exact below_setCells B2.out (Nat.le_refl _) _
        obtain ⟨x8, hx8⟩ : ∃ x8, x8 = X1.heap.size := ⟨_, rfl⟩
        rw [← hx8] at R3
        rw [← hx8]
        have HX8 : Hid (x8 = X1.heap.size) := hx8
        clear hx8 E3 R2 B2
        go_upto_region 10 with (first
          | (refine wpList_set1 rfl 3 (.tmp 39) (.tmp 38) rfl x8 1 (.int .i64 (p : Int)) L 53 rfl rfl rfl R3.out HL1.out info_int1 rfl ?_; intro X4 q1 q2 q3; have R4 : Hid (Row X4 x8 (L.set 1 (.int .i64 (p : Int))) 53) := q1; have G4 : Hid (Gro (· = x8) X3 X4) := q2; clear q1 q2 q3; simp only [Act.put]))
        obtain ⟨M, hM⟩ : ∃ M, M = ic c p a m := ⟨_, rfl⟩
        have HM : Hid (M = ic c p a m) := hM
        have R4' : Hid (Row X4 x8 M 53) := by rw [hM, ← ic_set1 c 0 a m p, ← HL.out]; exact R4.out
        have B4 : Hid (Below X1.heap.size X1 X4) := B3.out.trans (G4.out.to_below B3.out.size (fun k e => by rw [e, HX8.out]; exact Nat.le_refl _))
        have RS4 : Hid (Rs w X4 q pp gs n v ls) := RS1.out.keep B4.out
        have HMI : Hid ((Tryz.prog.info? 53).map (·.size) = some M.length) := by show _ = _; rw [hM]; exact info_Ic _ _ _ _
        have HM7 : Hid (M.length = 7) := by show _ = _; rw [hM]; exact ic_len _ _ _ _
        have HMO : Hid (∀ v ∈ M, v.oneCell' = true) := by rw [hM]; exact ic_mem _ _ _ _
        have c0 := RS4.out.hp.cell 0 _ rfl
        clear hM R4 G4 B3 R3 HL HI HN7 HO HL1 RS1 HRS B4 HX8
        go_upto_region 11 with (first
          | (refine wpList_load_w rfl 53 (.tmp 8) rfl x8 0 rfl M _ R4'.out.all Tryz.underlying53 rfl HMI.out ?_; simp only [Act.put, List.setIfInBounds_toArray, List.set_cons_zero, List.set_cons_succ])
          | (refine wpList_build1 42 53 7 Tryz.underlying42 info_I_open4 (by decide) (by decide) rfl (.tmp 42) rfl M HM7.out rfl ?_; intro X5 q1 q2 q3; have R5 : Hid (Row X5 X4.heap.size M 53) := q1; have RS5 : Hid (Rs w X5 q pp gs n v ls) := RS4.out.keep q2; clear q1 q2 q3; simp only [Act.put, List.setIfInBounds_toArray, List.set_cons_zero, List.set_cons_succ])
          | (refine wpList_appL 42 53 7 56 Tryz.underlying42 info_I_open (by decide) (by decide) rfl (.tmp 41) (.tmp 43) rfl v ls.length (fl ls) M rfl RS5.out.own X4.heap.size HM7.out rfl R5.out.all HMO.out (by omega) ?_; intro v' X6 q1 q2 q3; obtain ⟨A', cp', rfl, _, _⟩ := Lw.form q1; have LW6 : Hid (Lw X6 53 7 (.slice A' (ls.length + 1) cp') (ls.length + 1) (fl ls ++ M)) := q1; have G6 : Hid (X5.grownBy X6 v.ownBlock) := q2; have O6 : Hid ((Value.slice A' (ls.length + 1) cp').ownBlock = v.ownBlock ∨ (Value.slice A' (ls.length + 1) cp').ownBlock = some X5.heap.size) := q3; have RP6 : Hid (Row X6 pp [v, .slice (some ⟨gs, 0, none⟩) n n] 44) := row_gb RS5.out.hp q2 (some_ne (Lw.ne RS5.out.own RS5.out.hp (by decide))); clear q1 q2 q3; simp only [Act.put, List.setIfInBounds_toArray, List.set_cons_zero, List.set_cons_succ])
          | (refine wpList_set1 rfl 42 (.tmp 45) (.tmp 44) rfl pp 0 (.slice A' (ls.length + 1) cp') [v, .slice (some ⟨gs, 0, none⟩) n n] 44 rfl rfl rfl RP6.out (Nat.succ_pos _) info_Ls rfl ?_; intro X7 q1 q2 q3; have R7 : Hid (Row X7 pp [.slice A' (ls.length + 1) cp', .slice (some ⟨gs, 0, none⟩) n n] 44) := q1; have G7 : Hid (Gro (· = pp) X6 X7) := q2; clear q1 q2 q3; simp only [Act.put]))
        have RQ7 : Hid (Row X7 q zP 44) := G7.out.row (row_gb RS5.out.hq G6.out (some_ne (Lw.ne RS5.out.own RS5.out.hq (by decide)))) (fun e => by have h1 := RS5.out.plo; have h2 := RS5.out.qlo; omega)
        have RG7 : Hid (Row X7 gs (vI (sts ls n)) 3) := G7.out.row (row_gb RS5.out.st G6.out (some_ne (Lw.ne RS5.out.own RS5.out.st (by decide)))) (row_ne2 RS5.out.st RS5.out.hp (by decide))
        have LW7 : Hid (Lw X7 53 7 (.slice A' (ls.length + 1) cp') (ls.length + 1) (fl ls ++ M)) := Lw.gro LW6.out G7.out (Lw.ne LW6.out RP6.out (by decide))
        have B7 : Hid (Below w.heap.size w X7) := (below_gb RS5.out.be G6.out RS5.out.vlo).trans (G7.out.to_below (by have := RS5.out.be.size; have := G6.out.size; omega) (fun k e => by rw [e]; exact Nat.le_of_lt RS5.out.plo))
        have V7 : Hid (∀ g, (Value.slice A' (ls.length + 1) cp').ownBlock = some g → w.heap.size ≤ g) := fun g e => by
          rcases O6.out with h | h
          · exact RS5.out.vlo g (by rw [← h]; exact e)
          · rw [h] at e; cases e; exact RS5.out.be.size
        have c0 := R7.out.cell 0 _ rfl
        have c1 := R7.out.cell 1 _ rfl
        have HGS : Hid (q = w.heap.size ∧ w.heap.size < pp ∧ w.heap.size ≤ gs) := ⟨RS5.out.qlo, RS5.out.plo, RS5.out.glo⟩
        have HSL : Hid (p < (vI (sts ls n)).length) := by show _ < _; rw [vI_length, sts_len]; exact hlt
        clear RP6 LW6 G6 O6 G7 RS5 R5 RS4 R4' HMI HMO
        go_upto_region 12 with (first
          | (refine wpList_set1 rfl 3 (.tmp 52) (.tmp 51) rfl gs p (.int .i64 ((ls.length + 1 : Nat) : Int)) (vI (sts ls n)) 3 rfl rfl rfl RG7.out HSL.out info_int1 rfl ?_; intro X8 q1 q2 q3; have R8 : Hid (Row X8 gs ((vI (sts ls n)).set p (.int .i64 ((ls.length + 1 : Nat) : Int))) 3) := q1; have G8 : Hid (Gro (· = gs) X7 X8) := q2; clear q1 q2 q3; simp only [Act.put]))
        have HRS8 : Hid (Rs w X8 q pp gs n (.slice A' (ls.length + 1) cp') (ls ++ [⟨c, p, a, m⟩])) := by
          refine ⟨G8.out.row RQ7.out (row_ne2 RQ7.out RG7.out (by decide)), G8.out.row R7.out (row_ne2 R7.out RG7.out (by decide)), ?_, ?_, B7.out.trans (G8.out.to_below B7.out.size (fun k e => by rw [e]; exact HGS.out.2.2)), HGS.out.1, HGS.out.2.1, HGS.out.2.2, V7.out⟩
          · rw [fl_app, List.length_append, List.length_singleton]
            have := LW7.out
            rw [HM.out] at this
            exact Lw.gro this G8.out (Lw.ne this RG7.out (by decide))
          · have := R8.out
            rw [vI_set, sts_app ls ⟨c, p, a, m⟩ (fun y hy => (HGD.out.1 y hy).1) n] at this
            exact this
        have hz257 : z ≤ 257 := HZ257.out
        clear R8 G8 RQ7 RG7 LW7 B7 V7 c0 c1 HGS HSL R7 HM HM7
        go_wp2
        exact ⟨⟨p + z, f', _, _, hzn, by go_num, HRS8, HGD2, HPG2⟩, by simp [intOf]; omega⟩
    · have epn : p = n := by omega
      have HPS : Hid (pg d (n + 1) 0 = some ls) := by
        show _ = _
        rw [HPG.out.2, pg_end (by rw [HDL.out]; omega)]
        simp
      have HGN : Hid (Gd ls n) := by rw [← epn]; exact HGD.out.1
      have hll : ls.length ≤ 1024 := by have := HGD.out.2; omega
      have e4 : (p : Int) = (n : Int) := by omega
      have HJL : Hid _ := jumpsLead_any T gs n ls v (fun y hy => ⟨(HGN.out y hy).1, (HGN.out y hy).2.1, (HGN.out y hy).2.2.1⟩) hll wr (Row.below HT.out HRS.out.be HT.out.lt) HRS.out.own HRS.out.st
      obtain ⟨A, cp, rfl, _, _⟩ := Lw.form HRS.out.own
      rw [e4]
      clear e4 epn hlt hpn HPG HGD
      cases hld : leads ls with
      | true =>
        have HYE : Hid (chk d = some ls) := by
          show _ = _
          unfold chk
          rw [if_neg HLEN.out, HDL.out, HPS.out]
          exact if_pos hld
        rw [hld] at HJL
        clear hld
        go_wp2_with (first
          | (refine wpList_load_w rfl 44 (.tmp 6) rfl pp 0 rfl [.slice A ls.length cp, .slice (some ⟨gs, 0, none⟩) n n] _ HRS.out.hp.all Tryz.underlying44 rfl info_P ?_; simp only [Act.put, List.setIfInBounds_toArray, List.set_cons_zero, List.set_cons_succ])
          | (go_at_call 58; refine Calls.mono HJL.out ?_; rintro e X1 ⟨rfl, q2⟩; have RS1 : Hid (Rs w X1 q pp gs n (.slice A ls.length cp) ls) := HRS.out.keep q2; clear q2 HRS HJL)
          | (refine wpList_load_w rfl 44 (.tmp 6) rfl pp 0 rfl [.slice A ls.length cp, .slice (some ⟨gs, 0, none⟩) n n] _ RS1.out.hp.all Tryz.underlying44 rfl info_P ?_; simp only [Act.put, List.setIfInBounds_toArray, List.set_cons_zero, List.set_cons_succ])
          | (refine wpList_storeL rfl 44 (.tmp 4) (.tmp 61) rfl q [.slice A ls.length cp, .slice (some ⟨gs, 0, none⟩) n n] zP 44 rfl rfl RS1.out.hq rfl info_P (pp_one A _ _ _ n) ?_; intro X9 q1 q2; have E9 : Hid (X9 = _) := q1; have R9 : Hid (Row X9 q [.slice A ls.length cp, .slice (some ⟨gs, 0, none⟩) n n] 44) := q2; clear q1 q2; simp only [Act.put]))
        have hG : Gro (· = q) X1 X9 := by rw [E9.out]; exact gro_over (Gro.refl _ _) q 0 _ rfl
        have hE : Below w.heap.size w X9 := RS1.out.be.trans (hG.to_below RS1.out.be.size (fun k e => by rw [e, RS1.out.qlo]; exact Nat.le_refl _))
        refine bodyPost_ret (results_rowS_tmp Tryz.results16 _ _ q 44 [.slice A ls.length cp, .slice (some ⟨gs, 0, none⟩) n n] (.int .i64 0) rfl rfl R9.out Tryz.underlying44 info_P) rfl ⟨.inl ⟨ls, _, gs, HYE.out, HGN.out, rfl, ?_, ?_, RS1.out.glo, RS1.out.vlo⟩, hE⟩
        · exact Lw.gro RS1.out.own hG (Lw.ne RS1.out.own RS1.out.hq (by decide))
        · exact hG.row RS1.out.st (row_ne2 RS1.out.st RS1.out.hq (by decide))
      | false =>
        have HNO : Hid (chk d = none) := by
          show _ = _
          unfold chk
          rw [if_neg HLEN.out, HDL.out, HPS.out]
          exact if_neg (by rw [hld]; decide)
        rw [hld] at HJL
        clear hld
        go_upto_region 14 with (first
          | (refine wpList_load_w rfl 44 (.tmp 6) rfl pp 0 rfl [.slice A ls.length cp, .slice (some ⟨gs, 0, none⟩) n n] _ HRS.out.hp.all Tryz.underlying44 rfl info_P ?_; simp only [Act.put, List.setIfInBounds_toArray, List.set_cons_zero, List.set_cons_succ])
          | (go_at_call 58; refine Calls.mono HJL.out ?_; rintro e X1 ⟨rfl, q2⟩; have RS1 : Hid (Rs w X1 q pp gs n (.slice A ls.length cp) ls) := HRS.out.keep q2; clear q2 HRS HJL))
        have RQ : Hid (Row X1 q zP 44) := RS1.out.hq
        have BB : Hid (Below w.heap.size w X1) := RS1.out.be
        have HQ : Hid (q = w.heap.size) := RS1.out.qlo
        go_wp2_with (refine wpList_storeL rfl 44 (.tmp 4) (.tmp 60) rfl q zP zP 44 rfl rfl RQ.out rfl info_P zP_one ?_; intro X9 q1 q2; have E9 : Hid (X9 = _) := q1; have R9 : Hid (Row X9 q zP 44) := q2; clear q1 q2; simp only [Act.put])
        have hE : Below w.heap.size w X9 := by rw [E9.out]; exact below_setCells BB.out (by rw [HQ.out]; exact Nat.le_refl _) _
        exact bodyPost_ret (results_rowS_tmp Tryz.results16 _ _ q 44 zP (.int .i64 100) rfl rfl R9.out Tryz.underlying44 info_P) rfl ⟨.inr ⟨HNO.out, rfl⟩, hE⟩

end Go.Proofs.YtclbiophgnkggaaGreatDoor
