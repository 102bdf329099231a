/-
  causewayref02.Text.
-/
import Derived.Test.YtehccmlbnfhhmaaDoorWPls
import Derived.Test.YtehccmlbnfhhmaaDoorWRtM
import Derived.Test.YtehccmlbnfhhmaaDoorWKn
namespace Go.Proofs.YtehccmlbnfhhmaaDoor
open Go Go.RowKit
open Wd
open Go.Lib (decDigits nDigits dg)

def vU (l : List Nat) : List Value := l.map (fun (x : Nat) => Value.int .u8 (x : Int))
theorem vU_length (l : List Nat) : (vU l).length = l.length := by simp [vU]
theorem vU_get (l : List Nat) (i : Nat) (h : i < l.length) : (vU l)[i]? = some (.int .u8 ((l.getD i 0 : Nat) : Int)) := by simp [vU, h]
theorem vU_set (l : List Nat) (i : Nat) (x : Nat) : (vU l).set i (.int .u8 (x : Int)) = vU (l.set i x) := by simp [vU, List.map_set]
theorem info_all_u8 : (Tryd.prog.info? 5).map (fun i => (i.zero, i.size, i.bytes)) = some (some (.int .u8 0), 1, 1) := by kernel_rfl
theorem made_u8s (n : Nat) : madeCells (Value.int IntKind.u8 0).cells (n * 1) = (vU (List.replicate n 0)).toArray := by
  apply Array.ext'
  rw [show (Value.int IntKind.u8 0).cells = #[Value.int IntKind.u8 0] from rfl, toList_madeCells_one]
  simp [vU]
section
variable {P : Program} {ops : Array Oper} {rest : List Oper} {op : Oper} {a : Act} {w : World} {Q : Exit → Act → World → Prop}
theorem wpList_make_u (hgd : op.guard = none) (t : TypeId) (x y : Operand) (ho : op.op = .makeSlice t x y) (e : TypeId) (n : Nat) (l l' : Int) (hl : l = (n : Int)) (hl' : l' = (n : Int)) (hx : a.eval x = .int .i64 l) (hy : a.eval y = .int .i64 l') (hn : n ≤ 35184372088832)
    (hu : P.underlying t = some (.slice e)) (hi : (P.info? e).map (fun i => (i.zero, i.size, i.bytes)) = some (some (.int .u8 0), 1, 1))
    (h : wpList P ops Q rest (a.put op.dst (.slice (some ⟨w.heap.size, 0, none⟩) n n)) (w.alloc (.cells (vU (List.replicate n 0)).toArray e))) : wpList P ops Q (op :: rest) a w :=
  wpList_plain hgd fun _ hK => by
    subst hl; subst hl'
    obtain ⟨i, hi0, hz, hs, hb⟩ := info_parts hi
    have hr := run_make (P := P) w t e i (.int .u8 0) hu hi0 hz .i64 .i64 (n : Int) (n : Int) (by omega) (by omega) (by rw [hb]; omega) (by omega)
    rw [hs, Int.toNat_natCast, made_u8s] at hr
    unfold Oper.wp execOp
    simp only [ho, hx, hy, Sem.run_bind, hr, Result.andThen_ok]
    exact hK _ _ h
end

/-- A list that a call owns, opened. -/
theorem owns_open {W : World} {M n : Nat} {v : Value} {xs : List Value} (h : W.ownsRow M 3 1 v n xs) (hn : 0 < n) : ∃ g cap sp, v = .slice (some ⟨g, 0, none⟩) n cap ∧ M ≤ g ∧ n ≤ cap ∧ cap ≤ maxLen ∧ Row W g (xs ++ sp) 3 ∧ xs.length = n ∧ sp.length = cap - n := by
  rcases h.2 with ⟨_, h0⟩ | ⟨g, cap, cur, hv, hg, hh, hc, hx, hs, ht⟩
  · omega
  · have h1 : xs.length = n := by simpa using h.1
    refine ⟨g, cap, cur.toList.drop n, hv, hg, hc, hx, ?_, h1, by simp [hs]⟩
    rw [← ht, Nat.mul_one, List.take_append_drop]
    unfold Row
    rw [hh]
theorem owns_shut {W : World} {M n g cap : Nat} {xs sp : List Value} (hg : M ≤ g) (hc : n ≤ cap) (hx : cap ≤ maxLen) (r : Row W g (xs ++ sp) 3) (h1 : xs.length = n) (h2 : sp.length = cap - n) : W.ownsRow M 3 1 (.slice (some ⟨g, 0, none⟩) n cap) n xs := by
  refine ⟨by simpa using h1, .inr ⟨g, cap, (xs ++ sp).toArray, rfl, hg, r, hc, hx, by simp; omega, ?_⟩⟩
  rw [Nat.mul_one, List.take_left' h1]

set_option maxRecDepth 100000 in
set_option maxHeartbeats 8000000 in
theorem refText_any (a : Nat) (ha : a < 2 ^ 256) (w : World) :
    Calls Tryd.prog 40 #[.agg (vQ (dgs a 4)).toArray] w fun e w' => e = .returned (.string ⟨(decDigits a).toArray⟩) ∧ Below w.heap.size w w' := by
  have HDA : Hid (∀ w, _) := digits_any a ha
  have HLA : Hid (blen a ≤ 256) := blen_le a 256 ha
  have HND : Hid (∀ t, nDigits (a / 2 ^ t) ≤ 78) := fun t => nd_few _ (Nat.lt_of_le_of_lt (Nat.div_le_self _ _) ha)
  obtain ⟨ca, Ha⟩ : ∃ x, Wc x a := ⟨_, rfl⟩
  rw [← show ca = vQ (dgs a 4) from Ha] at HDA ⊢
  clear ha
  have hb1 : Below w.heap.size w (w.alloc (Obj.cells ca.toArray 24)) := (Below.refl _ _).alloc (Nat.le_refl _) _
  have r0 : Row (w.alloc (Obj.cells ca.toArray 24)) w.heap.size ca 24 := Row.new w ca _
  have hLa : (blen a : Int) ≤ 256 := by have := HLA.out; omega
  go_enter Tryd.func40, Tryd.ntmps40
  go_wp2_with (refine wpList_load_w rfl 24 (.tmp 1) rfl w.heap.size 0 rfl ca _ r0.all Tryd.underlying24 rfl Ha.info ?_; simp only [Act.put, List.setIfInBounds_toArray, List.set_cons_zero, List.set_cons_succ])
  refine (HDA.out _).mono ?_
  rintro e W0 ⟨N, hN, rN, rfl, hB⟩
  replace hb1 := hb1.trans (hB.mono hb1.size)
  have hNM := Row.lt rN
  have hwM := hb1.size
  clear hB r0 HDA hN
  go_wp2_with fail
  go_loopw [4, 5, 6, 7, 8] (fun dv iv _ _ _ wr => ∃ t : Nat, t ≤ blen a ∧ iv = .int .i64 ((t : Int) - 1) ∧ Below w.heap.size w wr ∧ Row wr N (vI (bts a 256)) 3 ∧ Hid (wr.ownsRow W0.heap.size 3 1 dv (nDigits (a / 2 ^ t)) (vI (dts (a / 2 ^ t) (nDigits (a / 2 ^ t)))))) (fun _ iv _ _ _ _ => (intOf iv + 1).toNat)
  case atStart =>
    refine ⟨blen a, Nat.le_refl _, rfl, hb1.alloc hb1.size _, rN.alloc _, ?_⟩
    rw [Nat.div_eq_of_lt (blen_lt a), Lib.nDigits_small (by decide)]
    exact owns_shut (sp := []) (Nat.le_refl _) (Nat.le_refl _) (by decide) (Row.new' rfl rfl) rfl rfl
  case round =>
    obtain ⟨t, ht, rfl, hb, rN, hO⟩ := hrel
    by_cases h0 : 0 < t
    · obtain ⟨i, rfl⟩ : ∃ i, t = i + 1 := ⟨t - 1, by omega⟩
      have ei : (((i + 1 : Nat) : Int) - 1) = (i : Int) := by omega
      rw [ei]
      have hi : i < 256 := by have := HLA.out; omega
      have hil : (i : Int) < (blen a : Int) := by omega
      have hbt := bt_lt a i
      have hus := half_step a i
      have g1 := rN.cell i _ (vI_get _ i (by rw [bts_length]; exact hi))
      rw [bts_getD _ _ _ hi] at g1
      have hn78 := HND.out (i + 1)
      obtain ⟨v, hv⟩ : ∃ v, v = a / 2 ^ (i + 1) := ⟨_, rfl⟩
      rw [← hv] at hO hus hn78
      have hn0 := Lib.nDigits_pos v
      have HM : Hid (cy v (bt a i) (nDigits v) ≠ 0 → _ ∧ _) := nd_more v (bt a i) hbt
      have HS : Hid (cy v (bt a i) (nDigits v) = 0 → _) := nd_same v (bt a i)
      rw [← hus] at HM HS
      obtain ⟨u, hu⟩ : ∃ u, u = a / 2 ^ i := ⟨_, rfl⟩
      rw [← hu] at hus HM HS
      obtain ⟨b, eb⟩ : ∃ b, b = bt a i := ⟨_, rfl⟩
      rw [← eb] at g1 hbt hus HM HS
      obtain ⟨n, hn⟩ : ∃ n, n = nDigits v := ⟨_, rfl⟩
      rw [← hn] at hO hn78 hn0 HM HS
      have HU : Hid (u = 2 * v + b ∧ u = a / 2 ^ i) := ⟨hus, hu⟩
      obtain ⟨g, cap, sp, e2, hg, hc, hx, rg, hl, hsp⟩ := owns_open hO.out hn0
      subst e2
      clear hO hv hus hu hn eb h0 ei hl
      go_wp2
      go_loopw [6, 7, 8] (fun cv kv _ wx => ∃ k : Nat, k ≤ n ∧ kv = .int .i64 (k : Int) ∧ cv = .int .i64 ((cy v b k : Nat) : Int) ∧ Below w.heap.size w wx ∧ Row wx N (vI (bts a 256)) 3 ∧ Row wx g (vI (mix v u k n) ++ sp) 3) (fun _ kv _ _ => n - (intOf kv).toNat)
      case atStart => exact ⟨0, by omega, rfl, by rw [cy_zero], hb, rN, by rw [mix_zero]; exact rg⟩
      case round =>
        obtain ⟨k, hk, rfl, rfl, hb, rN, rg⟩ := hrel
        by_cases hlt : k < n
        · have gk := rg.cell k _ ((List.getElem?_append_left (by rw [vI_length, mix_length v u k n hk]; exact hlt)).trans (vI_get _ k (by rw [mix_length v u k n hk]; exact hlt)))
          rw [mix_getD v u k n hlt] at gk
          have gf := rg.thaw k
          have q' : (k : Int) < (n : Int) := by omega
          have hd := dt_lt v k
          have hcy := cy_le v b k hbt
          have hD := cy_digit v b k
          have hS := cy_succ v b k
          rw [← HU.out.1] at hD
          obtain ⟨d, ed⟩ : ∃ d, d = dt v k := ⟨_, rfl⟩
          obtain ⟨c, ec⟩ : ∃ c, c = cy v b k := ⟨_, rfl⟩
          rw [← ed] at gk hd hD hS
          rw [← ec] at hcy hD hS ⊢
          obtain ⟨D, eD⟩ : ∃ D, D = dt u k := ⟨_, rfl⟩
          obtain ⟨C, eC⟩ : ∃ C, C = cy v b (k + 1) := ⟨_, rfl⟩
          rw [← eD] at hD
          rw [← eC] at hS
          obtain ⟨s0, es0⟩ : ∃ s0, s0 = 2 * d := ⟨_, rfl⟩
          obtain ⟨s1, es1⟩ : ∃ s1, s1 = s0 + c := ⟨_, rfl⟩
          have e1 : 2 * (d : Int) = (s0 : Int) := by omega
          have e2 : (s0 : Int) + (c : Int) = (s1 : Int) := by omega
          have e3 : (s1 : Int) % 10 = (D : Int) := by omega
          have e4 : (s1 : Int) / 10 = (C : Int) := by omega
          have l0 : (s0 : Int) ≤ 18 := by omega
          have l1 : (s1 : Int) ≤ 19 := by omega
          have HE : Hid (D = dt u k ∧ C = cy v b (k + 1)) := ⟨eD, eC⟩
          clear hd hcy hD hS ed ec eD eC es0 es1 hk
          go_wp2
          refine ⟨⟨k + 1, hlt, by go_num, by rw [← HE.out.2], Below.setCell hb (by have := hwM; have := hg; simp; omega) _, rN.set_other _ _ _ (by omega), ?_⟩, by simp [intOf]; omega⟩
          have h2 := rg.set k (.int .i64 (D : Int))
          rw [List.set_append_left _ _ (by rw [vI_length, mix_length v u k n (by omega)]; exact hlt), vI_set, HE.out.1, mix_set v u k n hlt, ← HE.out.1] at h2
          exact h2
        · obtain rfl : k = n := by omega
          have q' : ¬ (k : Int) < (k : Int) := by omega
          rw [mix_all] at rg
          have own := owns_shut (M := W0.heap.size) (n := k) (cap := cap) hg hc hx rg (by rw [vI_length, dts_length]) hsp
          by_cases hz : cy v b k = 0
          · rw [hz]
            have HO : Hid _ := own
            clear hlt hk own
            go_wp2
            exact ⟨⟨i, by omega, rfl, hb, rN, by rw [← HU.out.2, HS.out hz]; exact HO.out⟩, by simp [intOf]⟩
          · have hm := HM.out hz
            have h1 : 0 < cy v b k := by omega
            obtain ⟨y, ey⟩ : ∃ y, y = cy v b k := ⟨_, rfl⟩
            rw [← ey] at hm h1 ⊢
            have hy : (0 : Int) < (y : Int) := by omega
            have hMx : W0.heap.size ≤ wr.heap.size := Nat.le_trans hg (Nat.le_of_lt (Row.lt rg))
            have HO : Hid _ := own
            have HMM : Hid (nDigits u = k + 1 ∧ dt u k = y) := hm
            clear own hm ey hz hlt hk h1
            go_wp2_with (refine wpList_append_int rfl (.tmp 47) (.tmp 49) rfl wr wr W0.heap.size _ k y (dts u k) HO.out rfl rfl (by omega) hMx (Below.refl _ _) ?_; intro v7 W7 ho7 hb7; have HO7 : Hid _ := ho7; clear ho7; simp only [Act.put, List.setIfInBounds_toArray, List.set_cons_zero, List.set_cons_succ])
            refine ⟨⟨i, by omega, rfl, hb.trans (hb7.mono hwM), rN.below hb7 hNM, ?_⟩, by simp [intOf]⟩
            rw [← HU.out.2, HMM.out.1, dts_succ, HMM.out.2]
            exact HO7.out
    · obtain rfl : t = 0 := by omega
      rw [show (((0 : Nat) : Int) - 1) = -1 from rfl]
      rw [Nat.pow_zero, Nat.div_one] at hO
      have hn78 := HND.out 0
      rw [Nat.pow_zero, Nat.div_one] at hn78
      have hn0 := Lib.nDigits_pos a
      have HT : Hid ((decDigits a).map UInt8.toNat = tx a (nDigits a)) := tx_text a
      have HTL : Hid ((decDigits a).length = nDigits a) := Lib.decDigits_length a
      obtain ⟨n, hn⟩ : ∃ n, n = nDigits a := ⟨_, rfl⟩
      rw [← hn] at hO hn78 hn0 HT HTL
      obtain ⟨g, cap, sp, e2, hg, hc, hx, rg, hl, hsp⟩ := owns_open hO.out hn0
      subst e2
      have hgl := Row.lt rg
      clear hO h0 ht hl hn rN
      go_wp2_with (refine wpList_make_u rfl 44 (.tmp 52) (.tmp 52) rfl 5 n _ _ rfl rfl rfl rfl (by omega) Tryd.underlying44 info_all_u8 ?_; simp only [Act.put, List.setIfInBounds_toArray, List.set_cons_zero, List.set_cons_succ])
      obtain ⟨B, hBe⟩ : ∃ B, B = wr.heap.size := ⟨_, rfl⟩
      rw [← hBe] at hgl ⊢
      go_loopw [10] (fun kv wx => ∃ k : Nat, k ≤ n ∧ kv = .int .i64 (k : Int) ∧ Below w.heap.size w wx ∧ Row wx g (vI (dts a n) ++ sp) 3 ∧ Row wx B (vU (List.replicate (n - k) 0 ++ tx a k)) 5) (fun kv _ => n - (intOf kv).toNat)
      case atStart =>
        refine ⟨0, by omega, rfl, hb.alloc hb.size _, rg.alloc _, ?_⟩
        rw [Nat.sub_zero, show tx a 0 = [] from rfl, List.append_nil]
        exact Row.new' hBe rfl
      case round =>
        clear hb rg hBe
        obtain ⟨k, hk, rfl, hb, rg, rB⟩ := hrel
        by_cases hlt : k < n
        · have gk := rg.cell k _ ((List.getElem?_append_left (by rw [vI_length, dts_length]; exact hlt)).trans (vI_get _ k (by rw [dts_length]; exact hlt)))
          rw [dts_getD a n k hlt] at gk
          have q' : (k : Int) < (n : Int) := by omega
          have hd := dt_lt a k
          have hlen : (List.replicate (n - k) 0 ++ tx a k).length = n := by rw [List.length_append, List.length_replicate, tx_length]; omega
          obtain ⟨m, em⟩ : ∃ m, m = n - 1 - k := ⟨_, rfl⟩
          have gB := rB.cell m _ (vU_get _ m (by rw [hlen]; omega))
          have gf := rB.thaw m
          obtain ⟨d, ed⟩ : ∃ d, d = dt a k := ⟨_, rfl⟩
          rw [← ed] at gk hd
          obtain ⟨m1, em1⟩ : ∃ m1, m1 = n - 1 := ⟨_, rfl⟩
          obtain ⟨z, ez⟩ : ∃ z, z = 48 + d := ⟨_, rfl⟩
          have e1 : (n : Int) - 1 = (m1 : Int) := by omega
          have e2 : (m1 : Int) - (k : Int) = (m : Int) := by omega
          have e3 : 48 + (d : Int) = (z : Int) := by omega
          have lz : (z : Int) ≤ 57 := by omega
          have e4 : IntKind.u8.wrap (z : Int) = (z : Int) := by rw [IntKind.wrap_u8]; omega
          have lm : (m : Int) < (n : Int) := by omega
          have lm1 : (m1 : Int) ≤ 77 := by omega
          generalize (List.replicate (n - k) 0 ++ tx a k).getD m 0 = old at gB
          have HE : Hid (m = n - 1 - k ∧ z = 48 + dt a k) := ⟨em, by rw [ez, ed]⟩
          clear hd em em1 ez ed hk hlen
          go_wp2
          refine ⟨⟨k + 1, hlt, by go_num, Below.setCell hb (by have := hwM; simp; omega) _, rg.set_other _ _ _ (by omega), ?_⟩, by simp [intOf]; omega⟩
          have h2 := rB.set m (.int .u8 (z : Int))
          rw [vU_set, HE.out.1, HE.out.2, tx_fill a k n hlt, ← HE.out.2, ← HE.out.1] at h2
          exact h2
        · obtain rfl : k = n := by omega
          have q' : ¬ (k : Int) < (k : Int) := by omega
          rw [Nat.sub_self, List.replicate_zero, List.nil_append] at rB
          have hcv : (convert 44 9 (.slice (some ⟨B, 0, none⟩) k k)).run Tryd.prog wr = .ok (.string ⟨(decDigits a).toArray⟩) wr := by
            have h := run_convert_bytes_back (P := Tryd.prog) wr 44 9 5 ⟨B, 0, none⟩ k (decDigits a) Tryd.underlying44 Tryd.underlying5 Tryd.underlying9 (fun j hj => by
              rw [Lib.add_plain]
              have h2 := rB.cell j _ (vU_get _ j (by rw [tx_length, ← HTL.out]; exact hj))
              rw [← HT.out] at h2
              rw [show 0 + j = j by omega, h2]
              simp [hj])
            rw [HTL.out] at h
            exact h
          clear hlt hk rB rg
          go_wp2
          go_ret
          exact ⟨rfl, hb⟩

end Go.Proofs.YtehccmlbnfhhmaaDoor
