/-
  sparse: the law's known.
-/
import Derived.Test.YtfdgdmehgbmnkaaDoorSpT
import Derived.Test.YtfdgdmehgbmnkaaDoorSpL
import Derived.Test.YtfdgdmehgbmnkaaDoorShM
namespace Go.Proofs.YtfdgdmehgbmnkaaDoor
open Go Go.RowKit
open Sha

theorem chain_255 : Nat.beq (chain 255 (H65 3 (H65 2 0 5) (H65 2 1 6))) (H65 2 0 5) = false := by decide +kernel
theorem T1_eq : Tr.nil.put zd (lowD 5#8) 256 = .one zd (lowD 5#8) := by kernel_rfl
abbrev tL : Tr := .one zd (lowD 5#8)
abbrev tR : Tr := .one (lowD 1#8) (lowD 6#8)
theorem T2_eq : tL.put (lowD 1#8) (lowD 6#8) 256 = spn tL tR 255 := by kernel_rfl
theorem T3_eq : (spn tL tR 255).put (lowD 1#8) zd 256 = tL := by kernel_rfl
theorem one_Dn : Dn tL.dg (H65 2 0 5) := Dn.dig 2#8 Dn.zero (Dn.low 5#8)
theorem oneR_Dn : Dn tR.dg (H65 2 1 6) := Dn.dig 2#8 (Dn.low 1#8) (Dn.low 6#8)
theorem spn_Dn : ∀ n, Dn (spn tL tR n).dg (chain n (H65 3 (H65 2 0 5) (H65 2 1 6)))
  | 0 => by
    have := Dn.dig 3#8 one_Dn oneR_Dn
    rw [show (spn tL tR 0).dg = dig ([3#8] ++ (tL.dg ++ tR.dg)) from Tr.dg_two _ _]
    exact this
  | n + 1 => by
    have := Dn.dig 3#8 (spn_Dn n) Dn.zero
    rw [show (spn tL tR (n + 1)).dg = dig ([3#8] ++ ((spn tL tR n).dg ++ Tr.nil.dg)) from Tr.dg_two _ _]
    exact this
theorem ne_of_beqS {X Y : Nat} (h : Nat.beq X Y = false) : X ≠ Y := fun e => by rw [e, Nat.beq_refl] at h; cases h
theorem two_ne_any {n : Nat} {X Y : Nat} (h : Dn (spn tL tR n).dg X) (k : Dn tL.dg Y) (hb : Nat.beq X Y = false) : (spn tL tR n).dg ≠ tL.dg := Dn.ne h k (ne_of_beqS hb)
theorem two_ne_one : (spn tL tR 255).dg ≠ tL.dg := two_ne_any (spn_Dn 255) one_Dn chain_255
theorem tL_fit (_n : Nat) : tL.fit 0 (bitOf (lowD 1#8)) := ⟨rfl, rfl, fun i hi => absurd hi (Nat.not_lt_zero i)⟩
theorem fit_ofT {t T : Tr} (e : t = T) {n : Nat} {g : Nat → Bool} (h : t.fit n g) : T.fit n g := e ▸ h
structure BxS (p : Prop) : Prop where
  out : p
theorem fit_256 {t T : Tr} (e : t = T) {n : Nat} {g : Nat → Bool} (hn : n = 0) (h : BxS (t.fit n g)) (g' : Nat → Bool) : T.fit 0 g' := by
  subst hn
  subst e
  exact Tr.fit_0 h.out
theorem put_fitG (f : Nat) (hf : f ≤ 256) (u v : List (BitVec 8)) (hu : u.length = 32) (hv : v.length = 32) (t : Tr) (h : t.fit (256 - f) (bitOf u)) : BxS ((t.put u v f).fit (256 - f) (bitOf u)) := ⟨Tr.put_fit hu hv f t hf h⟩
theorem spn_fit (T : Tr) (e : tL.put (lowD 1#8) (lowD 6#8) 256 = T) (g : Nat → Bool) : T.fit 0 g := fit_256 e (Nat.sub_self 256) (put_fitG 256 (Nat.le_refl _) (lowD 1#8) (lowD 6#8) rfl rfl tL (tL_fit 0)) g
/-- What stands while known goes on: the map, some rows. -/
def Kn (w W : World) (b : Nat) (t : Tr) (L : List (Nat × List Value × TypeId)) : Prop := MapAt W b t ∧ (∀ r ∈ L, r.1 ≠ b ∧ Row W r.1 r.2.1 r.2.2) ∧ Below w.heap.size w W ∧ w.heap.size ≤ b
theorem Kn.be {w W X : World} {b : Nat} {t : Tr} {L : List (Nat × List Value × TypeId)} (h : Kn w W b t L) (k : Below W.heap.size W X) : Kn w X b t L :=
  ⟨h.1.be k, fun r hr => ⟨(h.2.1 r hr).1, Row.below (h.2.1 r hr).2 k (h.2.1 r hr).2.lt⟩, h.2.2.1.trans (k.mono h.2.2.1.size), h.2.2.2⟩
theorem Kn.turn {w W X : World} {b : Nat} {t t' : Tr} {L : List (Nat × List Value × TypeId)} (h : Kn w W b t L) (h1 : MapAt X b t') (h2 : KpR b W X) (h3 : Below b W X) : Kn w X b t' L :=
  ⟨h1, fun r hr => ⟨(h.2.1 r hr).1, h2 _ _ _ (h.2.1 r hr).1 (h.2.1 r hr).2⟩, h.2.2.1.trans (h3.mono h.2.2.2), h.2.2.2⟩
theorem Kn.add {w W : World} {b : Nat} {t : Tr} {L : List (Nat × List Value × TypeId)} (h : Kn w W b t L) (cs : Array Value) (vs : List Value) (ty : TypeId) (n : Nat) (hv : vs.length = n) (hc : cs.size = n) : Kn w ((W.alloc (Obj.cells cs ty)).setCells W.heap.size 0 vs) b t ((W.heap.size, vs, ty) :: L) := by
  have k : Below W.heap.size W ((W.alloc (Obj.cells cs ty)).setCells W.heap.size 0 vs) := below_setCells ((Below.refl _ _).alloc (Nat.le_refl _) _) (Nat.le_refl _) _
  have h' := h.be k
  refine ⟨h'.1, fun r hr => ?_, h'.2.2.1, h'.2.2.2⟩
  rcases List.mem_cons.1 hr with rfl | hr
  · exact ⟨Nat.ne_of_gt h.1.lt, (Row.new' (w := W) (o := cs) (cs := cs.toList) rfl (by simp)).over (by rw [hv, Array.length_toList, hc])⟩
  · exact h'.2.1 r hr
theorem Kn.row {w W : World} {b : Nat} {t : Tr} {L : List (Nat × List Value × TypeId)} (h : Kn w W b t L) (p : Nat) (cs : List Value) (ty : TypeId) (hr : (p, cs, ty) ∈ L) : Row W p cs ty := (h.2.1 _ hr).2
theorem root_d (t : Tr) (b : Nat) (w : World) (h : MapAt w b t) (d : List (BitVec 8)) (hd : t.dg = d) : Calls Tryd.prog 17 #[pt b] w fun e w' => e = .returned (.agg (vB d).toArray) ∧ Below w.heap.size w w' := by rw [← hd]; exact root_s t b w h
theorem leaf_5 (w : World) (hK : Tab w 3) (d : List (BitVec 8)) (hd : tL.dg = d) : Calls Tryd.prog 25 #[.agg (vB zd).toArray, .agg (vB (lowD 5#8)).toArray] w fun e w' => e = .returned (.tuple #[.agg (vB d).toArray, .int .i64 0]) ∧ Below w.heap.size w w' := by
  have h := leaf_s zd (lowD 5#8) rfl rfl w hK
  rw [show sgl zd (lowD 5#8) = tL by unfold sgl; rw [if_neg (by decide)], if_neg (show ¬ lowD 5#8 = zd by decide), hd] at h
  exact h
theorem len_b (t : Tr) (b : Nat) (w : World) (h : MapAt w b t) : Calls Tryd.prog 16 #[pt b] w fun e w' => e = .returned (.int .i64 (t.size : Int)) ∧ Below w.heap.size w w' := (len_s t b w h).mono (by rintro e X ⟨rfl, rfl⟩; exact ⟨rfl, Below.refl _ _⟩)
theorem info_dz : (Tryd.prog.info? 29).map (·.size) = some (vB zd).length := by kernel_rfl
theorem built_0S : Tryd.prog.built 29 [] = some (vB zd).toArray := by kernel_rfl
section
variable {o : Oper} {a : Act} {w : World} {K : Act → World → Prop} {Q : Exit → Act → World → Prop}
theorem wp_zeroS (ho : o.op = .build 29 #[]) (h : K (a.put o.dst (.agg (vB zd).toArray)) w) : Oper.wp Tryd.prog o a w K Q := by
  have hr := run_build (P := Tryd.prog) w 29 #[] _ built_0S
  unfold Oper.wp execOp
  simp only [ho, List.map_toArray, List.map_nil, Sem.run_bind, hr, Result.andThen_ok, Sem.run_pure, Oper.upon_value]
  exact h
theorem wp_eqlS (x y : Operand) (yt : TypeId) (ho : o.op = .binOp .eql 29 x y yt) (l r : List (BitVec 8)) (hl : l.length = 32) (hr : r.length = 32) (hx : a.eval x = .agg (vB l).toArray) (hy : a.eval y = .agg (vB r).toArray) (B : Bool) (hB : decide (l = r) = B)
    (h : K (a.put o.dst (.bool B)) w) : Oper.wp Tryd.prog o a w K Q := by
  subst hB
  unfold Oper.wp execOp
  simp only [ho, hx, hy, Sem.run_bind, run_eqGuard_agg w .eql 29 x y _ _ guard_dig, Result.andThen_ok, run_eql_vB w 29 5 32 Tryd.underlying29 Tryd.underlying5 info_u8 l r hl hr, Sem.run_pure, Oper.upon_value]
  exact h
theorem wp_prf1 {x : Operand} (ho : o.op = .fieldAddr 48 x 1) (B : Nat) (hx : a.eval x = .pointer (some ⟨B, 0, none⟩)) (h : K (a.put o.dst (.pointer (some ⟨B, 1, none⟩))) w) : Oper.wp Tryd.prog o a w K Q := by
  unfold Oper.wp execOp
  simp only [ho, hx]
  go_simp
  exact h
end
theorem MapAt.below {w w' : World} {b : Nat} {t : Tr} (h : MapAt w b t) (k : Below w.heap.size w w') : MapAt w' b t := h.be k
set_option maxRecDepth 100000 in
set_option maxHeartbeats 4000000 in

theorem known_any (w : World) (hK : Tab w 3) : Calls Tryd.prog 8 #[] w fun e w' => e = .returned (.bool true) ∧ Below w.heap.size w w' := by
  obtain ⟨b, hb⟩ : ∃ b, b = w.heap.size := ⟨_, rfl⟩
  have HKL : Hid (∀ W, Below w.heap.size w W → Tab W 3) := fun W hB => hK.below hB hK.lt
  have HGB : Hid (3 < b) := by show _ < _; rw [hb]; exact hK.lt
  have HNW : Hid (Calls Tryd.prog 9 #[] w fun e w' => e = .returned (pt b) ∧ Kn w w' b .nil []) := by
    show Calls _ _ _ _ _
    rw [hb]
    exact (new_s w).mono (by rintro e X ⟨rfl, h1, h2⟩; exact ⟨rfl, h1, (fun r hr => by cases hr), h2, Nat.le_refl _⟩)
  obtain ⟨d1, hd1⟩ : ∃ d, d = tL.dg := ⟨_, rfl⟩
  obtain ⟨t2, ht2⟩ : ∃ t, t = spn tL tR 255 := ⟨_, rfl⟩
  obtain ⟨d2, hd2⟩ : ∃ d, d = t2.dg := ⟨_, rfl⟩
  have HD1 : Hid (tL.dg = d1) := hd1.symm
  have HT2 : Hid (t2 = spn tL tR 255) := ht2
  have HD2 : Hid (t2.dg = d2) := hd2.symm
  have HNE : Hid ((!decide (d2 = d1)) = true) := by show _ = _; rw [hd2, hd1, ht2]; simpa using two_ne_one
  have HS_d1 : Hid ((vB d1).toArray.size = 32) := by show _ = _; rw [List.size_toArray, vB_length, hd1]; exact Tr.dg_len _
  have HS_d2 : Hid ((vB d2).toArray.size = 32) := by show _ = _; rw [List.size_toArray, vB_length, hd2]; exact Tr.dg_len _
  have HS_zd : Hid ((vB zd).toArray.size = 32) := by show _ = _; rfl
  clear hK hb hd1 ht2 hd2
  go_enter Tryd.func8, Tryd.ntmps8
  go_upto_region 4 with (go_at_call 9; refine Calls.mono HNW.out ?_; rintro e X0 ⟨rfl, q⟩; have HX0 : Hid (Kn w X0 b .nil []) := q; clear q)
  go_upto_region 5 with (first
    | (go_at_call 17; refine Calls.mono (root_d (.nil) b _ HX0.out.1 zd rfl) ?_; rintro e X1 ⟨rfl, q⟩; have HX1 : Hid (Kn w X1 b (.nil) []) := HX0.out.be q; clear q)
    | (refine wpList_store_mid rfl 29 (.tmp 2) (.tmp 13) rfl X1.heap.size 0 (vB (zd)).toArray rfl rfl ((Row.new' (w := X1) (cs := vB (List.replicate 32 0#8)) rfl rfl).there 0 _ (by rw [HS_zd.out]; exact Nat.le_refl _)) (by rw [HS_zd.out]; exact info_dig) (all_oneCell_toArray (vB_one _)) ?_; simp only [Act.put]))
  obtain ⟨p2, hp2⟩ : ∃ b, b = X1.heap.size := ⟨_, rfl⟩
  obtain ⟨V1, hV1⟩ : ∃ Y, Y = (X1.alloc (Obj.cells #[.int .u8 0, .int .u8 0, .int .u8 0, .int .u8 0, .int .u8 0, .int .u8 0, .int .u8 0, .int .u8 0, .int .u8 0, .int .u8 0, .int .u8 0, .int .u8 0, .int .u8 0, .int .u8 0, .int .u8 0, .int .u8 0, .int .u8 0, .int .u8 0, .int .u8 0, .int .u8 0, .int .u8 0, .int .u8 0, .int .u8 0, .int .u8 0, .int .u8 0, .int .u8 0, .int .u8 0, .int .u8 0, .int .u8 0, .int .u8 0, .int .u8 0, .int .u8 0] 29)).setCells X1.heap.size 0 (vB zd) := ⟨_, rfl⟩
  have HV1 : Hid (Kn w V1 b (Tr.nil) ((p2, vB zd, 29) :: [])) := by rw [hV1, hp2]; exact Kn.add HX1.out _ _ _ 32 HS_zd.out (by kernel_rfl)
  rw [← hV1, ← hp2]
  clear hV1 hp2 HX1

  go_upto_region 6 with (first
    | (go_at_call 29; refine Calls.mono (low_any 5#8 _) ?_; rintro e X2 ⟨rfl, q⟩; have HX2 : Hid (Kn w X2 b (Tr.nil) [(p2, vB zd, 29)]) := HV1.out.be q; clear q)
    | (go_at_call 11; refine Calls.mono (mput_any b .nil zd (lowD 5#8) rfl rfl _ HX2.out.1 (fun _ => false) trivial (by decide) HGB.out (HKL.out _ HX2.out.2.2.1)) ?_; rintro e X3 ⟨rfl, q1, q2, q3⟩; rw [T1_eq] at q1; have HX3 : Hid (Kn w X3 b tL [(p2, vB zd, 29)]) := HX2.out.turn q1 q2 q3; clear q1 q2 q3 HX2))
  go_upto_region 7 with (first
    | (go_at_call 17; refine Calls.mono (root_d (tL) b _ HX3.out.1 d1 HD1.out) ?_; rintro e X4 ⟨rfl, q⟩; have HX4 : Hid (Kn w X4 b (tL) [(p2, vB zd, 29)]) := HX3.out.be q; clear q)
    | (refine wpList_store_mid rfl 29 (.tmp 3) (.tmp 19) rfl X4.heap.size 0 (vB (d1)).toArray rfl rfl ((Row.new' (w := X4) (cs := vB (List.replicate 32 0#8)) rfl rfl).there 0 _ (by rw [HS_d1.out]; exact Nat.le_refl _)) (by rw [HS_d1.out]; exact info_dig) (all_oneCell_toArray (vB_one _)) ?_; simp only [Act.put]))
  obtain ⟨p3, hp3⟩ : ∃ b, b = X4.heap.size := ⟨_, rfl⟩
  obtain ⟨V4, hV4⟩ : ∃ Y, Y = (X4.alloc (Obj.cells #[.int .u8 0, .int .u8 0, .int .u8 0, .int .u8 0, .int .u8 0, .int .u8 0, .int .u8 0, .int .u8 0, .int .u8 0, .int .u8 0, .int .u8 0, .int .u8 0, .int .u8 0, .int .u8 0, .int .u8 0, .int .u8 0, .int .u8 0, .int .u8 0, .int .u8 0, .int .u8 0, .int .u8 0, .int .u8 0, .int .u8 0, .int .u8 0, .int .u8 0, .int .u8 0, .int .u8 0, .int .u8 0, .int .u8 0, .int .u8 0, .int .u8 0, .int .u8 0] 29)).setCells X4.heap.size 0 (vB d1) := ⟨_, rfl⟩
  have HV4 : Hid (Kn w V4 b (tL) ((p3, vB d1, 29) :: [(p2, vB zd, 29)])) := by rw [hV4, hp3]; exact Kn.add HX4.out _ _ _ 32 HS_d1.out (by kernel_rfl)
  rw [← hV4, ← hp3]
  clear hV4 hp3 HX4

  go_upto_region 8 with (first
    | (go_at_call 29; refine Calls.mono (low_any 5#8 _) ?_; rintro e X5 ⟨rfl, q⟩; have HX5 : Hid (Kn w X5 b (tL) [(p3, vB d1, 29), (p2, vB zd, 29)]) := HV4.out.be q; clear q)
    | (go_at_call 25; refine Calls.mono (leaf_5 _ (HKL.out _ HX5.out.2.2.1) d1 HD1.out) ?_; rintro e X6 ⟨rfl, q⟩; have HX6 : Hid (Kn w X6 b tL [(p3, vB d1, 29), (p2, vB zd, 29)]) := HX5.out.be q; clear q)
    | (refine wpList_store_mid rfl 29 (.tmp 4) (.tmp 24) rfl X6.heap.size 0 (vB (d1)).toArray rfl rfl ((Row.new' (w := X6) (cs := vB (List.replicate 32 0#8)) rfl rfl).there 0 _ (by rw [HS_d1.out]; exact Nat.le_refl _)) (by rw [HS_d1.out]; exact info_dig) (all_oneCell_toArray (vB_one _)) ?_; simp only [Act.put]))
  obtain ⟨p4, hp4⟩ : ∃ b, b = X6.heap.size := ⟨_, rfl⟩
  obtain ⟨V6, hV6⟩ : ∃ Y, Y = (X6.alloc (Obj.cells #[.int .u8 0, .int .u8 0, .int .u8 0, .int .u8 0, .int .u8 0, .int .u8 0, .int .u8 0, .int .u8 0, .int .u8 0, .int .u8 0, .int .u8 0, .int .u8 0, .int .u8 0, .int .u8 0, .int .u8 0, .int .u8 0, .int .u8 0, .int .u8 0, .int .u8 0, .int .u8 0, .int .u8 0, .int .u8 0, .int .u8 0, .int .u8 0, .int .u8 0, .int .u8 0, .int .u8 0, .int .u8 0, .int .u8 0, .int .u8 0, .int .u8 0, .int .u8 0] 29)).setCells X6.heap.size 0 (vB d1) := ⟨_, rfl⟩
  have HV6 : Hid (Kn w V6 b (tL) ((p4, vB d1, 29) :: [(p3, vB d1, 29), (p2, vB zd, 29)])) := by rw [hV6, hp4]; exact Kn.add HX6.out _ _ _ 32 HS_d1.out (by kernel_rfl)
  rw [← hV6, ← hp4]
  clear hV6 hp4 HX6

  go_upto_region 9 with (first
    | (go_at_call 29; refine Calls.mono (low_any 1#8 _) ?_; rintro e X7 ⟨rfl, q⟩; have HX7 : Hid (Kn w X7 b (tL) [(p4, vB d1, 29), (p3, vB d1, 29), (p2, vB zd, 29)]) := HV6.out.be q; clear q)
    | (go_at_call 29; refine Calls.mono (low_any 6#8 _) ?_; rintro e X8 ⟨rfl, q⟩; have HX8 : Hid (Kn w X8 b (tL) [(p4, vB d1, 29), (p3, vB d1, 29), (p2, vB zd, 29)]) := HX7.out.be q; clear q)
    | (go_at_call 11; refine Calls.mono (mput_any b tL (lowD 1#8) (lowD 6#8) rfl rfl _ HX8.out.1 (bitOf (lowD 1#8)) (tL_fit 0) (by decide) HGB.out (HKL.out _ HX8.out.2.2.1)) ?_; rintro e X9 ⟨rfl, q1, q2, q3⟩; rw [T2_eq, ← HT2.out] at q1; have HX9 : Hid (Kn w X9 b t2 [(p4, vB d1, 29), (p3, vB d1, 29), (p2, vB zd, 29)]) := HX8.out.turn q1 q2 q3; clear q1 q2 q3 HX8))
  go_upto_region 10 with (first
    | (go_at_call 17; refine Calls.mono (root_d (t2) b _ HX9.out.1 d2 HD2.out) ?_; rintro e Y0 ⟨rfl, q⟩; have HY0 : Hid (Kn w Y0 b (t2) [(p4, vB d1, 29), (p3, vB d1, 29), (p2, vB zd, 29)]) := HX9.out.be q; clear q)
    | (refine wpList_store_mid rfl 29 (.tmp 6) (.tmp 31) rfl Y0.heap.size 0 (vB (d2)).toArray rfl rfl ((Row.new' (w := Y0) (cs := vB (List.replicate 32 0#8)) rfl rfl).there 0 _ (by rw [HS_d2.out]; exact Nat.le_refl _)) (by rw [HS_d2.out]; exact info_dig) (all_oneCell_toArray (vB_one _)) ?_; simp only [Act.put]))
  obtain ⟨p6, hp6⟩ : ∃ b, b = Y0.heap.size := ⟨_, rfl⟩
  obtain ⟨W0, hW0⟩ : ∃ Y, Y = (Y0.alloc (Obj.cells #[.int .u8 0, .int .u8 0, .int .u8 0, .int .u8 0, .int .u8 0, .int .u8 0, .int .u8 0, .int .u8 0, .int .u8 0, .int .u8 0, .int .u8 0, .int .u8 0, .int .u8 0, .int .u8 0, .int .u8 0, .int .u8 0, .int .u8 0, .int .u8 0, .int .u8 0, .int .u8 0, .int .u8 0, .int .u8 0, .int .u8 0, .int .u8 0, .int .u8 0, .int .u8 0, .int .u8 0, .int .u8 0, .int .u8 0, .int .u8 0, .int .u8 0, .int .u8 0] 29)).setCells Y0.heap.size 0 (vB d2) := ⟨_, rfl⟩
  have HW0 : Hid (Kn w W0 b (t2) ((p6, vB d2, 29) :: [(p4, vB d1, 29), (p3, vB d1, 29), (p2, vB zd, 29)])) := by rw [hW0, hp6]; exact Kn.add HY0.out _ _ _ 32 HS_d2.out (by kernel_rfl)
  rw [← hW0, ← hp6]
  clear hW0 hp6 HY0

  go_upto_region 11 with (first
    | (go_at_call 29; refine Calls.mono (low_any 2#8 _) ?_; rintro e Y1 ⟨rfl, q⟩; have HY1 : Hid (Kn w Y1 b (t2) [(p6, vB d2, 29), (p4, vB d1, 29), (p3, vB d1, 29), (p2, vB zd, 29)]) := HW0.out.be q; clear q)
    | (refine wpList_plain rfl fun _ hK => wp_build_d (.tmp 34) rfl (lowD 2#8) rfl rfl (hK _ _ ?_); have HY2 : Hid (Kn w (Y1.alloc (Obj.cells (vB (lowD 2#8)).toArray 29)) b t2 [(p6, vB d2, 29), (p4, vB d1, 29), (p3, vB d1, 29), (p2, vB zd, 29)]) := HY1.out.be ((Below.refl _ _).alloc (Nat.le_refl _) _); have RY2 : Hid (Row (Y1.alloc (Obj.cells (vB (lowD 2#8)).toArray 29)) Y1.heap.size (vB (lowD 2#8)) 29) := Row.new' rfl rfl; simp only [Act.put, List.setIfInBounds_toArray, List.set_cons_zero, List.set_cons_succ])
    | (go_at_call 21; refine Calls.mono (prove_known tL tR (by decide) b _ (by rw [← HT2.out]; exact HY2.out.1) _ RY2.out) ?_; rintro e Y3 ⟨va, g, cp, rfl, qv, q⟩; have HY3 : Hid (Kn w Y3 b t2 [(p6, vB d2, 29), (p4, vB d1, 29), (p3, vB d1, 29), (p2, vB zd, 29)]) := HY2.out.be q; have HVA : Hid (va.oneCell' = true) := qv; clear q qv)
    | (refine wpList_store_mid rfl 48 (.tmp 7) (.tmp 37) rfl Y3.heap.size 0 #[va, .slice (some ⟨g, 0, none⟩) 2 cp] rfl rfl ((Row.new' (w := Y3) (cs := [.slice none 0 0, .slice none 0 0]) rfl rfl).there 0 2 (Nat.le_refl _)) info_pr (all_oneCell_toArray (cs := [va, .slice (some ⟨g, 0, none⟩) 2 cp]) (fun v hv => by rcases List.mem_cons.1 hv with rfl | hv; exact HVA.out; obtain rfl := List.mem_singleton.1 hv; rfl)) ?_; simp only [Act.put]))
  obtain ⟨p7, hp7⟩ : ∃ b, b = Y3.heap.size := ⟨_, rfl⟩
  obtain ⟨W3, hW3⟩ : ∃ Y, Y = (Y3.alloc (Obj.cells #[.slice none 0 0, .slice none 0 0] 48)).setCells Y3.heap.size 0 ([va, .slice (some ⟨g, 0, none⟩) 2 cp]) := ⟨_, rfl⟩
  have HW3 : Hid (Kn w W3 b (t2) ((p7, [va, .slice (some ⟨g, 0, none⟩) 2 cp], 48) :: [(p6, vB d2, 29), (p4, vB d1, 29), (p3, vB d1, 29), (p2, vB zd, 29)])) := by rw [hW3, hp7]; exact Kn.add HY3.out _ _ _ 2 rfl (by kernel_rfl)
  rw [← hW3, ← hp7]
  clear hW3 hp7 HY3

  go_upto_region 12 with (first
    | (go_at_call 29; refine Calls.mono (low_any 1#8 _) ?_; rintro e Z1 ⟨rfl, q⟩; have HZ1 : Hid (Kn w Z1 b (t2) [(p7, [va, .slice (some ⟨g, 0, none⟩) 2 cp], 48), (p6, vB d2, 29), (p4, vB d1, 29), (p3, vB d1, 29), (p2, vB zd, 29)]) := HW3.out.be q; clear q)
    | (go_at_call 11; refine Calls.mono (mput_any b t2 (lowD 1#8) zd rfl rfl _ HZ1.out.1 (fun _ => false) (spn_fit t2 (T2_eq.trans HT2.out.symm) _) (by rw [HT2.out, spn_size]; decide) HGB.out (HKL.out _ HZ1.out.2.2.1)) ?_; rintro e Z2 ⟨rfl, q1, q2, q3⟩; rw [HT2.out, T3_eq] at q1; have HZ2 : Hid (Kn w Z2 b tL [(p7, [va, .slice (some ⟨g, 0, none⟩) 2 cp], 48), (p6, vB d2, 29), (p4, vB d1, 29), (p3, vB d1, 29), (p2, vB zd, 29)]) := HZ1.out.turn q1 q2 q3; clear q1 q2 q3 HZ1))
  have r2 := HZ2.out.row p2 (vB zd) 29 (by simp)
  have r3 := HZ2.out.row p3 (vB d1) 29 (by simp)
  have r4 := HZ2.out.row p4 (vB d1) 29 (by simp)
  have r6 := HZ2.out.row p6 (vB d2) 29 (by simp)
  have r7 := HZ2.out.row p7 [va, .slice (some ⟨g, 0, none⟩) 2 cp] 48 (by simp)
  have hM := HZ2.out.1
  have HBW : Hid (Below w.heap.size w Z2) := HZ2.out.2.2.1
  have hb1 := Below.refl Z2.heap.size Z2
  have HI1 : Hid ((Tryd.prog.info? 29).map (·.size) = some (vB d1).length) := by show _ = _; rw [show (vB d1).length = 32 from HS_d1.out]; exact info_dig
  have HI2 : Hid ((Tryd.prog.info? 29).map (·.size) = some (vB d2).length) := by show _ = _; rw [show (vB d2).length = 32 from HS_d2.out]; exact info_dig
  have HL1 : Hid (d1.length = 32) := by have := HS_d1.out; rw [List.size_toArray, vB_length] at this; exact this
  have HL2 : Hid (d2.length = 32) := by have := HS_d2.out; rw [List.size_toArray, vB_length] at this; exact this
  clear HZ2 HKL HGB
  refine wp_named fun a0 ha0 => ?_
  have hsz : a0.tmps.size = 81 := by rw [ha0]; rfl
  have zs1 : a0.eval (.tmp 1) = .pointer (some ⟨b, 0, none⟩) := by rw [ha0]; rfl
  have zs2 : a0.eval (.tmp 2) = .pointer (some ⟨p2, 0, none⟩) := by rw [ha0]; rfl
  have zs3 : a0.eval (.tmp 3) = .pointer (some ⟨p3, 0, none⟩) := by rw [ha0]; rfl
  have zs4 : a0.eval (.tmp 4) = .pointer (some ⟨p4, 0, none⟩) := by rw [ha0]; rfl
  have zs5 : a0.eval (.tmp 5) = .int .i64 0 := by rw [ha0]; rfl
  have zs6 : a0.eval (.tmp 6) = .pointer (some ⟨p6, 0, none⟩) := by rw [ha0]; rfl
  have zs7 : a0.eval (.tmp 7) = .pointer (some ⟨p7, 0, none⟩) := by rw [ha0]; rfl
  have zs8 : a0.eval (.tmp 8) = .int .i64 0 := by rw [ha0]; rfl
  obtain ⟨D, hD⟩ : ∃ D : List (Tmp × SP), D = [(43, SP.is (.agg (vB zd).toArray)), (44, SP.is (.agg (vB zd).toArray)), (45, SP.is (.bool true)), (46, SP.is (.bool true)), (47, SP.is (.agg (vB d1).toArray)), (48, SP.is (.agg (vB d1).toArray)), (49, SP.is (.bool true)), (50, SP.is (.bool true)), (51, SP.is (.bool true)), (52, SP.is (.int .i64 0)), (53, SP.is (.bool true)), (54, SP.is (.bool true)), (55, SP.is (.bool true)), (56, SP.is (.agg (vB d2).toArray)), (57, SP.is (.agg (vB d1).toArray)), (58, SP.is (.bool true)), (59, SP.is (.bool true)), (60, SP.is (.bool true)), (61, SP.is (.int .i64 0)), (62, SP.is (.bool true)), (63, SP.is (.bool true)), (64, SP.is (.bool true)), (65, SP.is (.pointer (some ⟨p7, 1, none⟩))), (66, SP.is (.slice (some ⟨g, 0, none⟩) 2 cp)), (67, SP.is (.int .i64 ((2 : Nat) : Int))), (68, SP.is (.bool true)), (69, SP.is (.bool true)), (70, SP.is (.bool true)), (71, SP.is (.pointer (some ⟨b, 0, none⟩))), (72, SP.is (.agg (vB d1).toArray)), (73, SP.is (.agg (vB d1).toArray)), (74, SP.is (.bool true)), (75, SP.is (.bool true)), (76, SP.is (.bool true)), (77, SP.is (.pointer (some ⟨b, 0, none⟩))), (78, SP.is (.int .i64 ((1 : Nat) : Int))), (79, SP.is (.bool true)), (80, SP.is (.bool true)), (0, SP.is (.bool true))] := ⟨_, rfl⟩
  refine wp_region_down (by kernel_rfl) (fun listed ac W => listed.size = 39 ∧ Fp D a0 listed ac W ∧ Below Z2.heap.size Z2 W ∧ Row W p2 ((vB zd)) 29 ∧ Row W p3 ((vB d1)) 29 ∧ Row W p4 ((vB d1)) 29 ∧ Row W p6 ((vB d2)) 29 ∧ Row W p7 ([va, .slice (some ⟨g, 0, none⟩) 2 cp]) 48 ∧ MapAt W b tL) ?_ ?_ ?_
  · exact ⟨by simp, Fp.start D a0 _ _, Below.drew hb1, Row.drew r2, Row.drew r3, Row.drew r4, Row.drew r6, Row.drew r7, hM.below (Below.drew (Below.refl _ _))⟩
  · clear ha0 hb1 r2 r3 r4 r6 r7 hM 
    intro listed ac W k hI hdn hk
    obtain ⟨hl, hF, hb1, r2, r3, r4, r6, r7, hM⟩ := hI
    have hk1 : k < 39 := List.mem_range.1 (List.mem_filter.1 hk).1
    have hl2 : ∀ j, (listed.setIfInBounds j true).size = 39 := fun j => by rw [Array.size_setIfInBounds]; exact hl
    rcases (show k = 0 ∨ k = 1 ∨ k = 2 ∨ k = 3 ∨ k = 4 ∨ k = 5 ∨ k = 6 ∨ k = 7 ∨ k = 8 ∨ k = 9 ∨ k = 10 ∨ k = 11 ∨ k = 12 ∨ k = 13 ∨ k = 14 ∨ k = 15 ∨ k = 16 ∨ k = 17 ∨ k = 18 ∨ k = 19 ∨ k = 20 ∨ k = 21 ∨ k = 22 ∨ k = 23 ∨ k = 24 ∨ k = 25 ∨ k = 26 ∨ k = 27 ∨ k = 28 ∨ k = 29 ∨ k = 30 ∨ k = 31 ∨ k = 32 ∨ k = 33 ∨ k = 34 ∨ k = 35 ∨ k = 36 ∨ k = 37 ∨ k = 38 by omega) with rfl | rfl | rfl | rfl | rfl | rfl | rfl | rfl | rfl | rfl | rfl | rfl | rfl | rfl | rfl | rfl | rfl | rfl | rfl | rfl | rfl | rfl | rfl | rfl | rfl | rfl | rfl | rfl | rfl | rfl | rfl | rfl | rfl | rfl | rfl | rfl | rfl | rfl | rfl
    · have hk3 := hk
      exact wpOp_plain rfl rfl (wp_load_mid 29 (.tmp 2) rfl p2 0 ((hF.keep 2 (by rw [hD]; rfl)).trans zs2) ((vB zd)) _ r2.all Tryd.underlying29 rfl info_dz ⟨hl2 0, (hF.put 0 43 (SP.is (.agg (vB zd).toArray)) (.agg (vB zd).toArray) (by rw [hD]; rfl) rfl (by rw [hD]; rfl) (by rw [hsz]; decide) (by rw [hl]; decide)), hb1, r2, r3, r4, r6, r7, hM⟩)
    · have hk3 := hk
      exact wpOp_plain rfl rfl (wp_zeroS rfl ⟨hl2 1, (hF.put 1 44 (SP.is (.agg (vB zd).toArray)) (.agg (vB zd).toArray) (by rw [hD]; rfl) rfl (by rw [hD]; rfl) (by rw [hsz]; decide) (by rw [hl]; decide)), hb1, r2, r3, r4, r6, r7, hM⟩)
    · have hk3 := hk
      have e1 := (hF.done 0 (43, SP.is (.agg (vB zd).toArray)) (by rw [hD]; rfl) (ready_dep hk 0 (by kernel_rfl)))
      have e2 := (hF.done 1 (44, SP.is (.agg (vB zd).toArray)) (by rw [hD]; rfl) (ready_dep hk 1 (by kernel_rfl)))
      exact wpOp_plain rfl rfl (wp_eqlS (.tmp 43) (.tmp 44) _ rfl zd zd rfl rfl e1 e2 true (decide_eq_true rfl) ⟨hl2 2, (hF.put 2 45 (SP.is (.bool true)) (.bool true) (by rw [hD]; rfl) rfl (by rw [hD]; rfl) (by rw [hsz]; decide) (by rw [hl]; decide)), hb1, r2, r3, r4, r6, r7, hM⟩)
    · have hk3 := hk
      exact wpOp_plain rfl rfl (wp_move_v (ac.eval (.tmp 45)) rfl rfl ⟨hl2 3, (hF.put 3 46 (SP.is (.bool true)) (ac.eval (.tmp 45)) (by rw [hD]; rfl) ((hF.done 2 (45, SP.is (.bool true)) (by rw [hD]; rfl) (ready_dep hk 2 (by kernel_rfl)))) (by rw [hD]; rfl) (by rw [hsz]; decide) (by rw [hl]; decide)), hb1, r2, r3, r4, r6, r7, hM⟩)
    · have hk3 := hk
      exact wpOp_wanted rfl (wanted_g (g := 3) (b := true) rfl rfl (hF.done 3 (46, SP.is (.bool true)) (by rw [hD]; rfl) (ready_dep hk 3 (by kernel_rfl))) (by rw [hF.size, hsz]; decide)) (wp_load_mid 29 (.tmp 3) rfl p3 0 ((hF.keep 3 (by rw [hD]; rfl)).trans zs3) ((vB d1)) _ r3.all Tryd.underlying29 rfl HI1.out ⟨hl2 4, (hF.put 4 47 (SP.is (.agg (vB d1).toArray)) (.agg (vB d1).toArray) (by rw [hD]; rfl) rfl (by rw [hD]; rfl) (by rw [hsz]; decide) (by rw [hl]; decide)), hb1, r2, r3, r4, r6, r7, hM⟩)
    · have hk3 := hk
      exact wpOp_wanted rfl (wanted_g (g := 3) (b := true) rfl rfl (hF.done 3 (46, SP.is (.bool true)) (by rw [hD]; rfl) (ready_dep hk 3 (by kernel_rfl))) (by rw [hF.size, hsz]; decide)) (wp_load_mid 29 (.tmp 4) rfl p4 0 ((hF.keep 4 (by rw [hD]; rfl)).trans zs4) ((vB d1)) _ r4.all Tryd.underlying29 rfl HI1.out ⟨hl2 5, (hF.put 5 48 (SP.is (.agg (vB d1).toArray)) (.agg (vB d1).toArray) (by rw [hD]; rfl) rfl (by rw [hD]; rfl) (by rw [hsz]; decide) (by rw [hl]; decide)), hb1, r2, r3, r4, r6, r7, hM⟩)
    · have hk3 := hk
      have e1 := (hF.done 4 (47, SP.is (.agg (vB d1).toArray)) (by rw [hD]; rfl) (ready_dep hk 4 (by kernel_rfl)))
      have e2 := (hF.done 5 (48, SP.is (.agg (vB d1).toArray)) (by rw [hD]; rfl) (ready_dep hk 5 (by kernel_rfl)))
      exact wpOp_wanted rfl (wanted_g (g := 3) (b := true) rfl rfl (hF.done 3 (46, SP.is (.bool true)) (by rw [hD]; rfl) (ready_dep hk 3 (by kernel_rfl))) (by rw [hF.size, hsz]; decide)) (wp_eqlS (.tmp 47) (.tmp 48) _ rfl d1 d1 HL1.out HL1.out e1 e2 true (decide_eq_true rfl) ⟨hl2 6, (hF.put 6 49 (SP.is (.bool true)) (.bool true) (by rw [hD]; rfl) rfl (by rw [hD]; rfl) (by rw [hsz]; decide) (by rw [hl]; decide)), hb1, r2, r3, r4, r6, r7, hM⟩)
    · have hk3 := hk
      have e1 := (hF.done 3 (46, SP.is (.bool true)) (by rw [hD]; rfl) (ready_dep hk 3 (by kernel_rfl)))
      have e2 := (hF.done 6 (49, SP.is (.bool true)) (by rw [hD]; rfl) (ready_dep hk 6 (by kernel_rfl)))
      exact wpOp_plain rfl rfl (wp_pick_v (.bool true) rfl e1 e2 ⟨hl2 7, (hF.put 7 50 (SP.is (.bool true)) (.bool true) (by rw [hD]; rfl) rfl (by rw [hD]; rfl) (by rw [hsz]; decide) (by rw [hl]; decide)), hb1, r2, r3, r4, r6, r7, hM⟩)
    · have hk3 := hk
      exact wpOp_plain rfl rfl (wp_move_v (ac.eval (.tmp 50)) rfl rfl ⟨hl2 8, (hF.put 8 51 (SP.is (.bool true)) (ac.eval (.tmp 50)) (by rw [hD]; rfl) ((hF.done 7 (50, SP.is (.bool true)) (by rw [hD]; rfl) (ready_dep hk 7 (by kernel_rfl)))) (by rw [hD]; rfl) (by rw [hsz]; decide) (by rw [hl]; decide)), hb1, r2, r3, r4, r6, r7, hM⟩)
    · have hk3 := hk
      exact wpOp_wanted rfl (wanted_g (g := 8) (b := true) rfl rfl (hF.done 8 (51, SP.is (.bool true)) (by rw [hD]; rfl) (ready_dep hk 8 (by kernel_rfl))) (by rw [hF.size, hsz]; decide)) (wp_move_v (ac.eval (.tmp 5)) rfl rfl ⟨hl2 9, (hF.put 9 52 (SP.is (.int .i64 0)) (ac.eval (.tmp 5)) (by rw [hD]; rfl) (((hF.keep 5 (by rw [hD]; rfl)).trans zs5)) (by rw [hD]; rfl) (by rw [hsz]; decide) (by rw [hl]; decide)), hb1, r2, r3, r4, r6, r7, hM⟩)
    · have hk3 := hk
      have e1 := (hF.done 9 (52, SP.is (.int .i64 0)) (by rw [hD]; rfl) (ready_dep hk 9 (by kernel_rfl)))
      exact wpOp_wanted rfl (wanted_g (g := 8) (b := true) rfl rfl (hF.done 8 (51, SP.is (.bool true)) (by rw [hD]; rfl) (ready_dep hk 8 (by kernel_rfl))) (by rw [hF.size, hsz]; decide)) (wp_eqint_v (n := 0) rfl e1 rfl rfl ⟨hl2 10, (hF.put 10 53 (SP.is (.bool true)) (.bool true) (by rw [hD]; rfl) rfl (by rw [hD]; rfl) (by rw [hsz]; decide) (by rw [hl]; decide)), hb1, r2, r3, r4, r6, r7, hM⟩)
    · have hk3 := hk
      have e1 := (hF.done 8 (51, SP.is (.bool true)) (by rw [hD]; rfl) (ready_dep hk 8 (by kernel_rfl)))
      have e2 := (hF.done 10 (53, SP.is (.bool true)) (by rw [hD]; rfl) (ready_dep hk 10 (by kernel_rfl)))
      exact wpOp_plain rfl rfl (wp_pick_v (.bool true) rfl e1 e2 ⟨hl2 11, (hF.put 11 54 (SP.is (.bool true)) (.bool true) (by rw [hD]; rfl) rfl (by rw [hD]; rfl) (by rw [hsz]; decide) (by rw [hl]; decide)), hb1, r2, r3, r4, r6, r7, hM⟩)
    · have hk3 := hk
      exact wpOp_plain rfl rfl (wp_move_v (ac.eval (.tmp 54)) rfl rfl ⟨hl2 12, (hF.put 12 55 (SP.is (.bool true)) (ac.eval (.tmp 54)) (by rw [hD]; rfl) ((hF.done 11 (54, SP.is (.bool true)) (by rw [hD]; rfl) (ready_dep hk 11 (by kernel_rfl)))) (by rw [hD]; rfl) (by rw [hsz]; decide) (by rw [hl]; decide)), hb1, r2, r3, r4, r6, r7, hM⟩)
    · have hk3 := hk
      exact wpOp_wanted rfl (wanted_g (g := 12) (b := true) rfl rfl (hF.done 12 (55, SP.is (.bool true)) (by rw [hD]; rfl) (ready_dep hk 12 (by kernel_rfl))) (by rw [hF.size, hsz]; decide)) (wp_load_mid 29 (.tmp 6) rfl p6 0 ((hF.keep 6 (by rw [hD]; rfl)).trans zs6) ((vB d2)) _ r6.all Tryd.underlying29 rfl HI2.out ⟨hl2 13, (hF.put 13 56 (SP.is (.agg (vB d2).toArray)) (.agg (vB d2).toArray) (by rw [hD]; rfl) rfl (by rw [hD]; rfl) (by rw [hsz]; decide) (by rw [hl]; decide)), hb1, r2, r3, r4, r6, r7, hM⟩)
    · have hk3 := hk
      exact wpOp_wanted rfl (wanted_g (g := 12) (b := true) rfl rfl (hF.done 12 (55, SP.is (.bool true)) (by rw [hD]; rfl) (ready_dep hk 12 (by kernel_rfl))) (by rw [hF.size, hsz]; decide)) (wp_load_mid 29 (.tmp 3) rfl p3 0 ((hF.keep 3 (by rw [hD]; rfl)).trans zs3) ((vB d1)) _ r3.all Tryd.underlying29 rfl HI1.out ⟨hl2 14, (hF.put 14 57 (SP.is (.agg (vB d1).toArray)) (.agg (vB d1).toArray) (by rw [hD]; rfl) rfl (by rw [hD]; rfl) (by rw [hsz]; decide) (by rw [hl]; decide)), hb1, r2, r3, r4, r6, r7, hM⟩)
    · have hk3 := hk
      have e1 := (hF.done 13 (56, SP.is (.agg (vB d2).toArray)) (by rw [hD]; rfl) (ready_dep hk 13 (by kernel_rfl)))
      have e2 := (hF.done 14 (57, SP.is (.agg (vB d1).toArray)) (by rw [hD]; rfl) (ready_dep hk 14 (by kernel_rfl)))
      exact wpOp_wanted rfl (wanted_g (g := 12) (b := true) rfl rfl (hF.done 12 (55, SP.is (.bool true)) (by rw [hD]; rfl) (ready_dep hk 12 (by kernel_rfl))) (by rw [hF.size, hsz]; decide)) (wp_neq_d 29 (.tmp 56) (.tmp 57) _ rfl 5 32 d2 d1 e1 e2 Tryd.underlying29 Tryd.underlying5 info_u8 HL2.out HL1.out guard_dig true HNE.out ⟨hl2 15, (hF.put 15 58 (SP.is (.bool true)) (.bool true) (by rw [hD]; rfl) rfl (by rw [hD]; rfl) (by rw [hsz]; decide) (by rw [hl]; decide)), hb1, r2, r3, r4, r6, r7, hM⟩)
    · have hk3 := hk
      have e1 := (hF.done 12 (55, SP.is (.bool true)) (by rw [hD]; rfl) (ready_dep hk 12 (by kernel_rfl)))
      have e2 := (hF.done 15 (58, SP.is (.bool true)) (by rw [hD]; rfl) (ready_dep hk 15 (by kernel_rfl)))
      exact wpOp_plain rfl rfl (wp_pick_v (.bool true) rfl e1 e2 ⟨hl2 16, (hF.put 16 59 (SP.is (.bool true)) (.bool true) (by rw [hD]; rfl) rfl (by rw [hD]; rfl) (by rw [hsz]; decide) (by rw [hl]; decide)), hb1, r2, r3, r4, r6, r7, hM⟩)
    · have hk3 := hk
      exact wpOp_plain rfl rfl (wp_move_v (ac.eval (.tmp 59)) rfl rfl ⟨hl2 17, (hF.put 17 60 (SP.is (.bool true)) (ac.eval (.tmp 59)) (by rw [hD]; rfl) ((hF.done 16 (59, SP.is (.bool true)) (by rw [hD]; rfl) (ready_dep hk 16 (by kernel_rfl)))) (by rw [hD]; rfl) (by rw [hsz]; decide) (by rw [hl]; decide)), hb1, r2, r3, r4, r6, r7, hM⟩)
    · have hk3 := hk
      exact wpOp_wanted rfl (wanted_g (g := 17) (b := true) rfl rfl (hF.done 17 (60, SP.is (.bool true)) (by rw [hD]; rfl) (ready_dep hk 17 (by kernel_rfl))) (by rw [hF.size, hsz]; decide)) (wp_move_v (ac.eval (.tmp 8)) rfl rfl ⟨hl2 18, (hF.put 18 61 (SP.is (.int .i64 0)) (ac.eval (.tmp 8)) (by rw [hD]; rfl) (((hF.keep 8 (by rw [hD]; rfl)).trans zs8)) (by rw [hD]; rfl) (by rw [hsz]; decide) (by rw [hl]; decide)), hb1, r2, r3, r4, r6, r7, hM⟩)
    · have hk3 := hk
      have e1 := (hF.done 18 (61, SP.is (.int .i64 0)) (by rw [hD]; rfl) (ready_dep hk 18 (by kernel_rfl)))
      exact wpOp_wanted rfl (wanted_g (g := 17) (b := true) rfl rfl (hF.done 17 (60, SP.is (.bool true)) (by rw [hD]; rfl) (ready_dep hk 17 (by kernel_rfl))) (by rw [hF.size, hsz]; decide)) (wp_eqint_v (n := 0) rfl e1 rfl rfl ⟨hl2 19, (hF.put 19 62 (SP.is (.bool true)) (.bool true) (by rw [hD]; rfl) rfl (by rw [hD]; rfl) (by rw [hsz]; decide) (by rw [hl]; decide)), hb1, r2, r3, r4, r6, r7, hM⟩)
    · have hk3 := hk
      have e1 := (hF.done 17 (60, SP.is (.bool true)) (by rw [hD]; rfl) (ready_dep hk 17 (by kernel_rfl)))
      have e2 := (hF.done 19 (62, SP.is (.bool true)) (by rw [hD]; rfl) (ready_dep hk 19 (by kernel_rfl)))
      exact wpOp_plain rfl rfl (wp_pick_v (.bool true) rfl e1 e2 ⟨hl2 20, (hF.put 20 63 (SP.is (.bool true)) (.bool true) (by rw [hD]; rfl) rfl (by rw [hD]; rfl) (by rw [hsz]; decide) (by rw [hl]; decide)), hb1, r2, r3, r4, r6, r7, hM⟩)
    · have hk3 := hk
      exact wpOp_plain rfl rfl (wp_move_v (ac.eval (.tmp 63)) rfl rfl ⟨hl2 21, (hF.put 21 64 (SP.is (.bool true)) (ac.eval (.tmp 63)) (by rw [hD]; rfl) ((hF.done 20 (63, SP.is (.bool true)) (by rw [hD]; rfl) (ready_dep hk 20 (by kernel_rfl)))) (by rw [hD]; rfl) (by rw [hsz]; decide) (by rw [hl]; decide)), hb1, r2, r3, r4, r6, r7, hM⟩)
    · have hk3 := hk
      exact wpOp_wanted rfl (wanted_g (g := 21) (b := true) rfl rfl (hF.done 21 (64, SP.is (.bool true)) (by rw [hD]; rfl) (ready_dep hk 21 (by kernel_rfl))) (by rw [hF.size, hsz]; decide)) (wp_prf1 rfl p7 ((hF.keep 7 (by rw [hD]; rfl)).trans zs7) ⟨hl2 22, (hF.put 22 65 (SP.is (.pointer (some ⟨p7, 1, none⟩))) (.pointer (some ⟨p7, 1, none⟩)) (by rw [hD]; rfl) rfl (by rw [hD]; rfl) (by rw [hsz]; decide) (by rw [hl]; decide)), hb1, r2, r3, r4, r6, r7, hM⟩)
    · have hk3 := hk
      have e1 := (hF.done 22 (65, SP.is (.pointer (some ⟨p7, 1, none⟩))) (by rw [hD]; rfl) (ready_dep hk 22 (by kernel_rfl)))
      exact wpOp_wanted rfl (wanted_g (g := 21) (b := true) rfl rfl (hF.done 21 (64, SP.is (.bool true)) (by rw [hD]; rfl) (ready_dep hk 21 (by kernel_rfl))) (by rw [hF.size, hsz]; decide)) (wp_ldV p7 1 (.slice (some ⟨g, 0, none⟩) 2 cp) rfl e1 (ld_D _ _ _ _ (r7.cell 1 _ rfl)) ⟨hl2 23, (hF.put 23 66 (SP.is (.slice (some ⟨g, 0, none⟩) 2 cp)) (.slice (some ⟨g, 0, none⟩) 2 cp) (by rw [hD]; rfl) rfl (by rw [hD]; rfl) (by rw [hsz]; decide) (by rw [hl]; decide)), hb1, r2, r3, r4, r6, r7, hM⟩)
    · have hk3 := hk
      have e1 := (hF.done 23 (66, SP.is (.slice (some ⟨g, 0, none⟩) 2 cp)) (by rw [hD]; rfl) (ready_dep hk 23 (by kernel_rfl)))
      exact wpOp_wanted rfl (wanted_g (g := 21) (b := true) rfl rfl (hF.done 21 (64, SP.is (.bool true)) (by rw [hD]; rfl) (ready_dep hk 21 (by kernel_rfl))) (by rw [hF.size, hsz]; decide)) (wp_len_s 30 29 (some ⟨g, 0, none⟩) 2 cp rfl Tryd.underlying30 e1 ⟨hl2 24, (hF.put 24 67 (SP.is (.int .i64 ((2 : Nat) : Int))) (.int .i64 ((2 : Nat) : Int)) (by rw [hD]; rfl) rfl (by rw [hD]; rfl) (by rw [hsz]; decide) (by rw [hl]; decide)), hb1, r2, r3, r4, r6, r7, hM⟩)
    · have hk3 := hk
      have e1 := (hF.done 24 (67, SP.is (.int .i64 ((2 : Nat) : Int))) (by rw [hD]; rfl) (ready_dep hk 24 (by kernel_rfl)))
      exact wpOp_wanted rfl (wanted_g (g := 21) (b := true) rfl rfl (hF.done 21 (64, SP.is (.bool true)) (by rw [hD]; rfl) (ready_dep hk 21 (by kernel_rfl))) (by rw [hF.size, hsz]; decide)) (wp_eqint_v (n := 2) rfl e1 rfl rfl ⟨hl2 25, (hF.put 25 68 (SP.is (.bool true)) (.bool true) (by rw [hD]; rfl) rfl (by rw [hD]; rfl) (by rw [hsz]; decide) (by rw [hl]; decide)), hb1, r2, r3, r4, r6, r7, hM⟩)
    · have hk3 := hk
      have e1 := (hF.done 21 (64, SP.is (.bool true)) (by rw [hD]; rfl) (ready_dep hk 21 (by kernel_rfl)))
      have e2 := (hF.done 25 (68, SP.is (.bool true)) (by rw [hD]; rfl) (ready_dep hk 25 (by kernel_rfl)))
      exact wpOp_plain rfl rfl (wp_pick_v (.bool true) rfl e1 e2 ⟨hl2 26, (hF.put 26 69 (SP.is (.bool true)) (.bool true) (by rw [hD]; rfl) rfl (by rw [hD]; rfl) (by rw [hsz]; decide) (by rw [hl]; decide)), hb1, r2, r3, r4, r6, r7, hM⟩)
    · have hk3 := hk
      exact wpOp_plain rfl rfl (wp_move_v (ac.eval (.tmp 69)) rfl rfl ⟨hl2 27, (hF.put 27 70 (SP.is (.bool true)) (ac.eval (.tmp 69)) (by rw [hD]; rfl) ((hF.done 26 (69, SP.is (.bool true)) (by rw [hD]; rfl) (ready_dep hk 26 (by kernel_rfl)))) (by rw [hD]; rfl) (by rw [hsz]; decide) (by rw [hl]; decide)), hb1, r2, r3, r4, r6, r7, hM⟩)
    · have hk3 := hk
      exact wpOp_wanted rfl (wanted_g (g := 27) (b := true) rfl rfl (hF.done 27 (70, SP.is (.bool true)) (by rw [hD]; rfl) (ready_dep hk 27 (by kernel_rfl))) (by rw [hF.size, hsz]; decide)) (wp_move_v (ac.eval (.tmp 1)) rfl rfl ⟨hl2 28, (hF.put 28 71 (SP.is (.pointer (some ⟨b, 0, none⟩))) (ac.eval (.tmp 1)) (by rw [hD]; rfl) (((hF.keep 1 (by rw [hD]; rfl)).trans zs1)) (by rw [hD]; rfl) (by rw [hsz]; decide) (by rw [hl]; decide)), hb1, r2, r3, r4, r6, r7, hM⟩)
    · have hk3 := hk
      have ea := (hF.done 28 (71, SP.is (.pointer (some ⟨b, 0, none⟩))) (by rw [hD]; rfl) (ready_dep hk 28 (by kernel_rfl)))
      refine wpOp_wanted rfl (wanted_g (g := 27) (b := true) rfl rfl (hF.done 27 (70, SP.is (.bool true)) (by rw [hD]; rfl) (ready_dep hk 27 (by kernel_rfl))) (by rw [hF.size, hsz]; decide)) (wp_fcall_v 17 #[pt b] rfl rfl (by show [ac.eval (.tmp 71)] = _; rw [show ac.eval (.tmp 71) = _ from ea]) (by go_simp) ((root_d tL b W hM d1 HD1.out).mono ?_))
      rintro e W2 ⟨rfl, hB⟩
      exact ⟨_, rfl, hl2 29, ((hF.world hB).put 29 72 (SP.is (.agg (vB d1).toArray)) (.agg (vB d1).toArray) (by rw [hD]; rfl) rfl (by rw [hD]; rfl) (by rw [hsz]; decide) (by rw [hl]; decide)), hb1.trans (hB.mono hb1.size), Row.below r2 hB (Row.lt r2), Row.below r3 hB (Row.lt r3), Row.below r4 hB (Row.lt r4), Row.below r6 hB (Row.lt r6), Row.below r7 hB (Row.lt r7), hM.below hB⟩
    · have hk3 := hk
      exact wpOp_wanted rfl (wanted_g (g := 27) (b := true) rfl rfl (hF.done 27 (70, SP.is (.bool true)) (by rw [hD]; rfl) (ready_dep hk 27 (by kernel_rfl))) (by rw [hF.size, hsz]; decide)) (wp_load_mid 29 (.tmp 3) rfl p3 0 ((hF.keep 3 (by rw [hD]; rfl)).trans zs3) ((vB d1)) _ r3.all Tryd.underlying29 rfl HI1.out ⟨hl2 30, (hF.put 30 73 (SP.is (.agg (vB d1).toArray)) (.agg (vB d1).toArray) (by rw [hD]; rfl) rfl (by rw [hD]; rfl) (by rw [hsz]; decide) (by rw [hl]; decide)), hb1, r2, r3, r4, r6, r7, hM⟩)
    · have hk3 := hk
      have e1 := (hF.done 29 (72, SP.is (.agg (vB d1).toArray)) (by rw [hD]; rfl) (ready_dep hk 29 (by kernel_rfl)))
      have e2 := (hF.done 30 (73, SP.is (.agg (vB d1).toArray)) (by rw [hD]; rfl) (ready_dep hk 30 (by kernel_rfl)))
      exact wpOp_wanted rfl (wanted_g (g := 27) (b := true) rfl rfl (hF.done 27 (70, SP.is (.bool true)) (by rw [hD]; rfl) (ready_dep hk 27 (by kernel_rfl))) (by rw [hF.size, hsz]; decide)) (wp_eqlS (.tmp 72) (.tmp 73) _ rfl d1 d1 HL1.out HL1.out e1 e2 true (decide_eq_true rfl) ⟨hl2 31, (hF.put 31 74 (SP.is (.bool true)) (.bool true) (by rw [hD]; rfl) rfl (by rw [hD]; rfl) (by rw [hsz]; decide) (by rw [hl]; decide)), hb1, r2, r3, r4, r6, r7, hM⟩)
    · have hk3 := hk
      have e1 := (hF.done 27 (70, SP.is (.bool true)) (by rw [hD]; rfl) (ready_dep hk 27 (by kernel_rfl)))
      have e2 := (hF.done 31 (74, SP.is (.bool true)) (by rw [hD]; rfl) (ready_dep hk 31 (by kernel_rfl)))
      exact wpOp_plain rfl rfl (wp_pick_v (.bool true) rfl e1 e2 ⟨hl2 32, (hF.put 32 75 (SP.is (.bool true)) (.bool true) (by rw [hD]; rfl) rfl (by rw [hD]; rfl) (by rw [hsz]; decide) (by rw [hl]; decide)), hb1, r2, r3, r4, r6, r7, hM⟩)
    · have hk3 := hk
      exact wpOp_plain rfl rfl (wp_move_v (ac.eval (.tmp 75)) rfl rfl ⟨hl2 33, (hF.put 33 76 (SP.is (.bool true)) (ac.eval (.tmp 75)) (by rw [hD]; rfl) ((hF.done 32 (75, SP.is (.bool true)) (by rw [hD]; rfl) (ready_dep hk 32 (by kernel_rfl)))) (by rw [hD]; rfl) (by rw [hsz]; decide) (by rw [hl]; decide)), hb1, r2, r3, r4, r6, r7, hM⟩)
    · have hk3 := hk
      exact wpOp_wanted rfl (wanted_g (g := 33) (b := true) rfl rfl (hF.done 33 (76, SP.is (.bool true)) (by rw [hD]; rfl) (ready_dep hk 33 (by kernel_rfl))) (by rw [hF.size, hsz]; decide)) (wp_move_v (ac.eval (.tmp 1)) rfl rfl ⟨hl2 34, (hF.put 34 77 (SP.is (.pointer (some ⟨b, 0, none⟩))) (ac.eval (.tmp 1)) (by rw [hD]; rfl) (((hF.keep 1 (by rw [hD]; rfl)).trans zs1)) (by rw [hD]; rfl) (by rw [hsz]; decide) (by rw [hl]; decide)), hb1, r2, r3, r4, r6, r7, hM⟩)
    · have hk3 := hk
      have ea := (hF.done 34 (77, SP.is (.pointer (some ⟨b, 0, none⟩))) (by rw [hD]; rfl) (ready_dep hk 34 (by kernel_rfl)))
      refine wpOp_wanted rfl (wanted_g (g := 33) (b := true) rfl rfl (hF.done 33 (76, SP.is (.bool true)) (by rw [hD]; rfl) (ready_dep hk 33 (by kernel_rfl))) (by rw [hF.size, hsz]; decide)) (wp_fcall_v 16 #[pt b] rfl rfl (by show [ac.eval (.tmp 77)] = _; rw [show ac.eval (.tmp 77) = _ from ea]) (by go_simp) ((len_b tL b W hM).mono ?_))
      rintro e W2 ⟨rfl, hB⟩
      exact ⟨_, rfl, hl2 35, ((hF.world hB).put 35 78 (SP.is (.int .i64 ((1 : Nat) : Int))) (.int .i64 ((1 : Nat) : Int)) (by rw [hD]; rfl) rfl (by rw [hD]; rfl) (by rw [hsz]; decide) (by rw [hl]; decide)), hb1.trans (hB.mono hb1.size), Row.below r2 hB (Row.lt r2), Row.below r3 hB (Row.lt r3), Row.below r4 hB (Row.lt r4), Row.below r6 hB (Row.lt r6), Row.below r7 hB (Row.lt r7), hM.below hB⟩
    · have hk3 := hk
      have e1 := (hF.done 35 (78, SP.is (.int .i64 ((1 : Nat) : Int))) (by rw [hD]; rfl) (ready_dep hk 35 (by kernel_rfl)))
      exact wpOp_wanted rfl (wanted_g (g := 33) (b := true) rfl rfl (hF.done 33 (76, SP.is (.bool true)) (by rw [hD]; rfl) (ready_dep hk 33 (by kernel_rfl))) (by rw [hF.size, hsz]; decide)) (wp_eqint_v (n := 1) rfl e1 rfl rfl ⟨hl2 36, (hF.put 36 79 (SP.is (.bool true)) (.bool true) (by rw [hD]; rfl) rfl (by rw [hD]; rfl) (by rw [hsz]; decide) (by rw [hl]; decide)), hb1, r2, r3, r4, r6, r7, hM⟩)
    · have hk3 := hk
      have e1 := (hF.done 33 (76, SP.is (.bool true)) (by rw [hD]; rfl) (ready_dep hk 33 (by kernel_rfl)))
      have e2 := (hF.done 36 (79, SP.is (.bool true)) (by rw [hD]; rfl) (ready_dep hk 36 (by kernel_rfl)))
      exact wpOp_plain rfl rfl (wp_pick_v (.bool true) rfl e1 e2 ⟨hl2 37, (hF.put 37 80 (SP.is (.bool true)) (.bool true) (by rw [hD]; rfl) rfl (by rw [hD]; rfl) (by rw [hsz]; decide) (by rw [hl]; decide)), hb1, r2, r3, r4, r6, r7, hM⟩)
    · have hk3 := hk
      exact wpOp_plain rfl rfl (wp_assign_v (ac.eval (.tmp 80)) rfl rfl ⟨hl2 38, (hF.put 38 0 (SP.is (.bool true)) (ac.eval (.tmp 80)) (by rw [hD]; rfl) ((hF.done 37 (80, SP.is (.bool true)) (by rw [hD]; rfl) (ready_dep hk 37 (by kernel_rfl)))) (by rw [hD]; rfl) (by rw [hsz]; decide) (by rw [hl]; decide)), hb1, r2, r3, r4, r6, r7, hM⟩)
  · clear hb1 r2 r3 r4 r6 r7 hM 
    intro listed ac W hI hr
    obtain ⟨hl, hF, hb1, r2, r3, r4, r6, r7, hM⟩ := hI
    have hall := all_listed (by kernel_rfl) hl hr
    have h43 : ac.eval (.tmp 43) = .agg (vB zd).toArray := hF.done 0 (43, SP.is (.agg (vB zd).toArray)) (by rw [hD]; rfl) (hall 0 (by decide))
    have h44 : ac.eval (.tmp 44) = .agg (vB zd).toArray := hF.done 1 (44, SP.is (.agg (vB zd).toArray)) (by rw [hD]; rfl) (hall 1 (by decide))
    have h45 : ac.eval (.tmp 45) = .bool true := hF.done 2 (45, SP.is (.bool true)) (by rw [hD]; rfl) (hall 2 (by decide))
    have h46 : ac.eval (.tmp 46) = .bool true := hF.done 3 (46, SP.is (.bool true)) (by rw [hD]; rfl) (hall 3 (by decide))
    have h47 : ac.eval (.tmp 47) = .agg (vB d1).toArray := hF.done 4 (47, SP.is (.agg (vB d1).toArray)) (by rw [hD]; rfl) (hall 4 (by decide))
    have h48 : ac.eval (.tmp 48) = .agg (vB d1).toArray := hF.done 5 (48, SP.is (.agg (vB d1).toArray)) (by rw [hD]; rfl) (hall 5 (by decide))
    have h49 : ac.eval (.tmp 49) = .bool true := hF.done 6 (49, SP.is (.bool true)) (by rw [hD]; rfl) (hall 6 (by decide))
    have h50 : ac.eval (.tmp 50) = .bool true := hF.done 7 (50, SP.is (.bool true)) (by rw [hD]; rfl) (hall 7 (by decide))
    have h51 : ac.eval (.tmp 51) = .bool true := hF.done 8 (51, SP.is (.bool true)) (by rw [hD]; rfl) (hall 8 (by decide))
    have h52 : ac.eval (.tmp 52) = .int .i64 0 := hF.done 9 (52, SP.is (.int .i64 0)) (by rw [hD]; rfl) (hall 9 (by decide))
    have h53 : ac.eval (.tmp 53) = .bool true := hF.done 10 (53, SP.is (.bool true)) (by rw [hD]; rfl) (hall 10 (by decide))
    have h54 : ac.eval (.tmp 54) = .bool true := hF.done 11 (54, SP.is (.bool true)) (by rw [hD]; rfl) (hall 11 (by decide))
    have h55 : ac.eval (.tmp 55) = .bool true := hF.done 12 (55, SP.is (.bool true)) (by rw [hD]; rfl) (hall 12 (by decide))
    have h56 : ac.eval (.tmp 56) = .agg (vB d2).toArray := hF.done 13 (56, SP.is (.agg (vB d2).toArray)) (by rw [hD]; rfl) (hall 13 (by decide))
    have h57 : ac.eval (.tmp 57) = .agg (vB d1).toArray := hF.done 14 (57, SP.is (.agg (vB d1).toArray)) (by rw [hD]; rfl) (hall 14 (by decide))
    have h58 : ac.eval (.tmp 58) = .bool true := hF.done 15 (58, SP.is (.bool true)) (by rw [hD]; rfl) (hall 15 (by decide))
    have h59 : ac.eval (.tmp 59) = .bool true := hF.done 16 (59, SP.is (.bool true)) (by rw [hD]; rfl) (hall 16 (by decide))
    have h60 : ac.eval (.tmp 60) = .bool true := hF.done 17 (60, SP.is (.bool true)) (by rw [hD]; rfl) (hall 17 (by decide))
    have h61 : ac.eval (.tmp 61) = .int .i64 0 := hF.done 18 (61, SP.is (.int .i64 0)) (by rw [hD]; rfl) (hall 18 (by decide))
    have h62 : ac.eval (.tmp 62) = .bool true := hF.done 19 (62, SP.is (.bool true)) (by rw [hD]; rfl) (hall 19 (by decide))
    have h63 : ac.eval (.tmp 63) = .bool true := hF.done 20 (63, SP.is (.bool true)) (by rw [hD]; rfl) (hall 20 (by decide))
    have h64 : ac.eval (.tmp 64) = .bool true := hF.done 21 (64, SP.is (.bool true)) (by rw [hD]; rfl) (hall 21 (by decide))
    have h65 : ac.eval (.tmp 65) = .pointer (some ⟨p7, 1, none⟩) := hF.done 22 (65, SP.is (.pointer (some ⟨p7, 1, none⟩))) (by rw [hD]; rfl) (hall 22 (by decide))
    have h66 : ac.eval (.tmp 66) = .slice (some ⟨g, 0, none⟩) 2 cp := hF.done 23 (66, SP.is (.slice (some ⟨g, 0, none⟩) 2 cp)) (by rw [hD]; rfl) (hall 23 (by decide))
    have h67 : ac.eval (.tmp 67) = .int .i64 ((2 : Nat) : Int) := hF.done 24 (67, SP.is (.int .i64 ((2 : Nat) : Int))) (by rw [hD]; rfl) (hall 24 (by decide))
    have h68 : ac.eval (.tmp 68) = .bool true := hF.done 25 (68, SP.is (.bool true)) (by rw [hD]; rfl) (hall 25 (by decide))
    have h69 : ac.eval (.tmp 69) = .bool true := hF.done 26 (69, SP.is (.bool true)) (by rw [hD]; rfl) (hall 26 (by decide))
    have h70 : ac.eval (.tmp 70) = .bool true := hF.done 27 (70, SP.is (.bool true)) (by rw [hD]; rfl) (hall 27 (by decide))
    have h71 : ac.eval (.tmp 71) = .pointer (some ⟨b, 0, none⟩) := hF.done 28 (71, SP.is (.pointer (some ⟨b, 0, none⟩))) (by rw [hD]; rfl) (hall 28 (by decide))
    have h72 : ac.eval (.tmp 72) = .agg (vB d1).toArray := hF.done 29 (72, SP.is (.agg (vB d1).toArray)) (by rw [hD]; rfl) (hall 29 (by decide))
    have h73 : ac.eval (.tmp 73) = .agg (vB d1).toArray := hF.done 30 (73, SP.is (.agg (vB d1).toArray)) (by rw [hD]; rfl) (hall 30 (by decide))
    have h74 : ac.eval (.tmp 74) = .bool true := hF.done 31 (74, SP.is (.bool true)) (by rw [hD]; rfl) (hall 31 (by decide))
    have h75 : ac.eval (.tmp 75) = .bool true := hF.done 32 (75, SP.is (.bool true)) (by rw [hD]; rfl) (hall 32 (by decide))
    have h76 : ac.eval (.tmp 76) = .bool true := hF.done 33 (76, SP.is (.bool true)) (by rw [hD]; rfl) (hall 33 (by decide))
    have h77 : ac.eval (.tmp 77) = .pointer (some ⟨b, 0, none⟩) := hF.done 34 (77, SP.is (.pointer (some ⟨b, 0, none⟩))) (by rw [hD]; rfl) (hall 34 (by decide))
    have h78 : ac.eval (.tmp 78) = .int .i64 ((1 : Nat) : Int) := hF.done 35 (78, SP.is (.int .i64 ((1 : Nat) : Int))) (by rw [hD]; rfl) (hall 35 (by decide))
    have h79 : ac.eval (.tmp 79) = .bool true := hF.done 36 (79, SP.is (.bool true)) (by rw [hD]; rfl) (hall 36 (by decide))
    have h80 : ac.eval (.tmp 80) = .bool true := hF.done 37 (80, SP.is (.bool true)) (by rw [hD]; rfl) (hall 37 (by decide))
    have h0 : ac.eval (.tmp 0) = .bool true := hF.done 38 (0, SP.is (.bool true)) (by rw [hD]; rfl) (hall 38 (by decide))
    have ea := hF.lay [(43, .agg (vB zd).toArray), (44, .agg (vB zd).toArray), (45, .bool true), (46, .bool true), (47, .agg (vB d1).toArray), (48, .agg (vB d1).toArray), (49, .bool true), (50, .bool true), (51, .bool true), (52, .int .i64 0), (53, .bool true), (54, .bool true), (55, .bool true), (56, .agg (vB d2).toArray), (57, .agg (vB d1).toArray), (58, .bool true), (59, .bool true), (60, .bool true), (61, .int .i64 0), (62, .bool true), (63, .bool true), (64, .bool true), (65, .pointer (some ⟨p7, 1, none⟩)), (66, .slice (some ⟨g, 0, none⟩) 2 cp), (67, .int .i64 ((2 : Nat) : Int)), (68, .bool true), (69, .bool true), (70, .bool true), (71, .pointer (some ⟨b, 0, none⟩)), (72, .agg (vB d1).toArray), (73, .agg (vB d1).toArray), (74, .bool true), (75, .bool true), (76, .bool true), (77, .pointer (some ⟨b, 0, none⟩)), (78, .int .i64 ((1 : Nat) : Int)), (79, .bool true), (80, .bool true), (0, .bool true)] (by rw [hD, hsz]; rfl) (by simp only [List.forall_mem_cons, List.not_mem_nil, false_implies, implies_true, and_true]; exact ⟨h43, h44, h45, h46, h47, h48, h49, h50, h51, h52, h53, h54, h55, h56, h57, h58, h59, h60, h61, h62, h63, h64, h65, h66, h67, h68, h69, h70, h71, h72, h73, h74, h75, h76, h77, h78, h79, h80, h0⟩)
    rw [ha0] at ea
    simp only [List.foldl_cons, List.foldl_nil, List.setIfInBounds_toArray, List.set_cons_zero, List.set_cons_succ] at ea
    clear hF hall hr hl hD  zs1 zs2 zs3 zs4 zs5 zs6 zs7 zs8 ha0 hsz h43 h44 h45 h46 h47 h48 h49 h50 h51 h52 h53 h54 h55 h56 h57 h58 h59 h60 h61 h62 h63 h64 h65 h66 h67 h68 h69 h70 h71 h72 h73 h74 h75 h76 h77 h78 h79 h80 h0
    subst ea
    go_wp2_with fail
    go_ret
    exact ⟨rfl, HBW.out.trans (hb1.mono HBW.out.size)⟩

end Go.Proofs.YtfdgdmehgbmnkaaDoor
