/-
  sparse: the map.
-/
import Derived.Test.YtfdgdmehgbmnkaaDoorSpI
namespace Go.Proofs.YtfdgdmehgbmnkaaDoor
open Go Go.RowKit
open Sha

def MapAt (w : World) (b : Nat) (t : Tr) : Prop := ∃ q, Row w b [q] 81 ∧ NodeAt w t q
theorem MapAt.be {w w' : World} {b : Nat} {t : Tr} (h : MapAt w b t) (k : Below w.heap.size w w') : MapAt w' b t := by
  obtain ⟨q, r, n⟩ := h
  exact ⟨q, Row.below r k r.lt, NodeAt.be k _ _ n⟩
theorem MapAt.lt {w : World} {b : Nat} {t : Tr} (h : MapAt w b t) : b < w.heap.size := by
  obtain ⟨q, r, _⟩ := h
  exact r.lt
theorem row_ne {w : World} {b b' : Nat} {cs cs' : List Value} {t t' : TypeId} (h : Row w b cs t) (h' : Row w b' cs' t') (ht : t ≠ t') : b ≠ b' := by
  rintro rfl
  unfold Row at h h'
  rw [h] at h'
  have e := Option.some.inj h'
  injection e with _ e2
  exact ht e2
theorem NodeAt.set {W : World} {b : Nat} {x : Value} (hb : Row W b [x] 81) (y : Value) : ∀ (t : Tr) (p : Value), NodeAt W t p → NodeAt (W.setCell ⟨b, 0, none⟩ y) t p
  | .nil, _, h => h
  | .one _ _, _, ⟨h1, h2, b', h3, h4⟩ => ⟨h1, h2, b', h3, Row.set_other h4 _ _ _ (row_ne h4 hb (by decide))⟩
  | .two l r, _, ⟨b', pl, pr, h1, h2, h3, h4⟩ => ⟨b', pl, pr, h1, Row.set_other h2 _ _ _ (row_ne h2 hb (by decide)), NodeAt.set hb y l pl h3, NodeAt.set hb y r pr h4⟩
theorem below_setC {B : Nat} {a w : World} (h : Below B a w) {b : Nat} (hb : B ≤ b) (v : Value) : Below B a (w.setCell ⟨b, 0, none⟩ v) := below_setCells (o := 0) h hb [v]
/-- Rows but that of one block stand. -/
def KpR (b : Nat) (w W : World) : Prop := ∀ x cs t, x ≠ b → Row w x cs t → Row W x cs t
theorem KpR.refl (b : Nat) (w : World) : KpR b w w := fun _ _ _ _ h => h
theorem KpR.below {b : Nat} {w W X : World} (h : KpR b w W) (k : Below W.heap.size W X) : KpR b w X := fun x cs t hx r => Row.below (h x cs t hx r) k (h x cs t hx r).lt
theorem KpR.set {b : Nat} {w W : World} (h : KpR b w W) (v : Value) : KpR b w (W.setCell ⟨b, 0, none⟩ v) := fun x cs t hx r => Row.set_other (h x cs t hx r) _ _ _ hx
def MR (W : World) (b : Nat) (q : Value) (t T : Tr) (done : Bool) : Prop := if done = true then MapAt W b T else Row W b [q] 81 ∧ NodeAt W t q
section
variable {W X : World} {b : Nat} {q : Value} {t T : Tr} {d : Bool}
theorem MR.no (h : MR W b q t T d) (hn : ¬ d = true) : Row W b [q] 81 ∧ NodeAt W t q := by unfold MR at h; rwa [if_neg hn] at h
theorem MR.yes (h : MR W b q t T d) (hn : d = true) : MapAt W b T := by unfold MR at h; rwa [if_pos hn] at h
theorem MR.start (hn : ¬ d = true) (h : Row W b [q] 81 ∧ NodeAt W t q) : MR W b q t T d := by unfold MR; rwa [if_neg hn]
theorem MR.done (hd : d = true) {x : Value} (h : Row W b [x] 81) (hn : NodeAt W T x) : MR W b q t T d := by unfold MR; rw [if_pos hd]; exact ⟨x, h, hn⟩
theorem MR.below (h : MR W b q t T d) (k : Below W.heap.size W X) : MR X b q t T d := by
  unfold MR at h ⊢
  split
  · rename_i hd
    rw [if_pos hd] at h
    exact h.be k
  · rename_i hd
    rw [if_neg hd] at h
    exact ⟨Row.below h.1 k h.1.lt, NodeAt.be k _ _ h.2⟩
end
/-- A node, and no more. -/
def SP.no (T : Tr) : SP := ⟨fun W v => NodeAt W T v, fun _ _ _ hB h => NodeAt.be hB _ _ h⟩
theorem node_oneS {t : Tr} {p : Value} {w : World} (h : NodeAt w t p) : p.cells = #[p] ∧ p.oneCell' = true := by
  rcases node_ptr h with ⟨_, rfl⟩ | ⟨_, b, rfl⟩ <;> exact ⟨rfl, rfl⟩
theorem built_b {u v : List (BitVec 8)} (hu : u.length = 32) (hv : v.length = 32) : Tryd.prog.built 59 [(0, .agg (vB u).toArray), (1, .agg (vB v).toArray)] = some (vB (u ++ v)).toArray := by
  have hz : ∃ places : List (Nat × Nat), (∀ parts, Tryd.prog.built 59 parts = Instr.fill (places.toArray[·]?) (vB (zd ++ zd)).toArray parts) ∧ places.toArray[0]? = some (0, 32) ∧ places.toArray[1]? = some (32, 32) :=
    ⟨[(0, 32), (32, 32)], fun _ => by kernel_rfl, rfl, rfl⟩
  obtain ⟨places, h, h0, h1⟩ := hz
  have e0 : (vB (zd ++ zd)).take 0 ++ vB u ++ (vB (zd ++ zd)).drop (0 + 32) = vB (u ++ zd) := by
    rw [vB_append, vB_append]
    exact splice3 (A := []) (x := vB zd) (B := vB zd) (y := vB u) (n := 0) (m := 0 + 32) rfl (by rw [vB_length]; rfl)
  have e1 : (vB (u ++ zd)).take 32 ++ vB v ++ (vB (u ++ zd)).drop (32 + 32) = vB (u ++ v) := by
    rw [vB_append, vB_append]
    have := splice3 (A := vB u) (x := vB zd) (B := []) (y := vB v) (n := 32) (m := 32 + 32) (by rw [vB_length, hu]) (by rw [vB_length, vB_length, hu]; rfl)
    rwa [List.append_nil, List.append_nil] at this
  rw [h, fill_at _ 0 0 32 h0 _ (vB u) rfl (by rw [vB_length, hu]) _ (by rw [vB_length]; decide), e0,
    fill_at _ 1 32 32 h1 _ (vB v) rfl (by rw [vB_length, hv]) _ (by rw [vB_length, List.length_append, hu]; decide), e1]
  rfl
section
variable {o : Oper} {a : Act} {w : World} {K : Act → World → Prop} {Q : Exit → Act → World → Prop}
theorem wp_nilS {x : Operand} (ho : o.op = .nilCheck x) (B : Nat) (hx : a.eval x = .pointer (some ⟨B, 0, none⟩)) (h : K (a.put o.dst (.pointer (some ⟨B, 0, none⟩))) w) : Oper.wp Tryd.prog o a w K Q := by
  unfold Oper.wp execOp
  simp only [ho, hx]
  go_simp
  exact h
theorem wp_mf0 {x : Operand} (ho : o.op = .fieldAddr 81 x 0) (B : Nat) (hx : a.eval x = .pointer (some ⟨B, 0, none⟩)) (h : K (a.put o.dst (.pointer (some ⟨B, 0, none⟩))) w) : Oper.wp Tryd.prog o a w K Q := by
  unfold Oper.wp execOp
  simp only [ho, hx]
  go_simp
  exact h
theorem ld_ptrS (w : World) (b f : Nat) (v : Value) (h : w.cell? ⟨b, f, none⟩ = some v) : (loadVar 79 ⟨b, f, none⟩).run Tryd.prog w = .ok v w := by
  simp [loadVar, isAgg, run_underlying Tryd.underlying79, h]
theorem wp_ldp {x : Operand} (b f : Nat) (v : Value) (ho : o.op = .load 79 x) (hx : a.eval x = .pointer (some ⟨b, f, none⟩)) (hc : w.cell? ⟨b, f, none⟩ = some v) (h : K (a.put o.dst v) w) : Oper.wp Tryd.prog o a w K Q := by
  unfold Oper.wp execOp
  simp only [ho, hx, Instr.loadAt, Instr.sureAddr, Sem.run_bind, Sem.run_pure, Result.andThen_ok, ld_ptrS w b f v hc, Oper.upon_value]
  exact h
theorem wp_buildB {x y : Operand} (ho : o.op = .build 59 #[(0, x), (1, y)]) {u v : List (BitVec 8)} (hu : u.length = 32) (hv : v.length = 32) (hx : a.eval x = .agg (vB u).toArray) (hy : a.eval y = .agg (vB v).toArray) (h : K (a.put o.dst (.agg (vB (u ++ v)).toArray)) w) : Oper.wp Tryd.prog o a w K Q := by
  have hr := run_build (P := Tryd.prog) w 59 #[(0, .agg (vB u).toArray), (1, .agg (vB v).toArray)] _ (built_b hu hv)
  unfold Oper.wp execOp
  simp only [ho, List.map_toArray, List.map_cons, List.map_nil, hx, hy, Sem.run_bind, hr, Result.andThen_ok, Sem.run_pure, Oper.upon_value]
  exact h
theorem wp_stp (x y : Operand) (ho : o.op = .store 79 x y) (b : Nat) (v : Value) {z : Value} {t : TypeId} (hx : a.eval x = .pointer (some ⟨b, 0, none⟩)) (hy : a.eval y = v) (hv : v.cells = #[v] ∧ v.oneCell' = true) (r : Row w b [z] t)
    (h : K (a.put o.dst undef) (w.setCell ⟨b, 0, none⟩ v)) : Oper.wp Tryd.prog o a w K Q := by
  have ht := r.there 0 1 (Nat.le_refl _)
  have hi : (Tryd.prog.info? 79).map (·.size) = some 1 := by kernel_rfl
  have hr : (storeVar 79 ⟨b, 0, none⟩ v).run Tryd.prog w = .ok () (w.setCell ⟨b, 0, none⟩ v) := by
    have := run_storeCells_cells (P := Tryd.prog) b 0 [v] 0 w (fun j hj => by simpa using (ht j (by simpa using hj)).1) (fun j hj => by simpa using (ht j (by simpa using hj)).2) (fun u hu => by simp at hu; rw [hu]; exact hv.2)
    cases hq : Tryd.prog.info? 79 with
    | none => simp [hq] at hi
    | some ie =>
      have hs : ie.size = 1 := by simpa [hq] using hi
      simp only [Nat.add_zero, World.setCells] at this
      simp [storeVar, sizeOf, typeInfo, hq, hs, hv.1, this]
  unfold Oper.wp execOp
  simp only [ho, hx, hy, Instr.storeAt, Instr.sureAddr, Sem.run_bind, Sem.run_pure, Result.andThen_ok, hr]
  exact h
end
theorem Tr.fit_0 {t : Tr} {g g' : Nat → Bool} (h : t.fit 0 g) : t.fit 0 g' := Tr.fit_of t 0 _ _ (fun i hi => absurd hi (Nat.not_lt_zero i)) h

set_option maxRecDepth 100000 in
set_option maxHeartbeats 4000000 in
theorem mput_any (b : Nat) (t : Tr) (u v : List (BitVec 8)) (hu : u.length = 32) (hv : v.length = 32) (w : World) (hM : MapAt w b t) (g : Nat → Bool) (hfit : t.fit 0 g) (hsz : t.size + 1 < 4611686018427387904) (hG : 3 < b) (hK : Tab w 3) :
    Calls Tryd.prog 11 #[pt b, .agg (vB u).toArray, .agg (vB v).toArray] w fun e w' => e = .returned (.tuple #[]) ∧ MapAt w' b (t.put u v 256) ∧ KpR b w w' ∧ Below b w w' := by
  obtain ⟨T, hT⟩ : ∃ T, T = t.put u v 256 := ⟨_, rfl⟩
  have HBW : Hid (b < w.heap.size) := hM.lt
  obtain ⟨q, rM, hn⟩ := hM
  have HIU : Hid ((Tryd.prog.info? 29).map (·.size) = some (vB u).length) := by show _ = _; rw [vB_length, hu]; exact info_dig
  have HIV : Hid ((Tryd.prog.info? 29).map (·.size) = some (vB v).length) := by show _ = _; rw [vB_length, hv]; exact info_dig
  have HUL : Hid (u.length = 32) := hu
  have HVL : Hid (v.length = 32) := hv
  have HP : Hid (∀ W, NodeAt W t q → Below b w W → Calls Tryd.prog 39 #[q, .agg (vB (u ++ v)).toArray, .int .i64 0] W fun e w' => ∃ q2, e = .returned q2 ∧ NodeAt w' T q2 ∧ Below W.heap.size W w') := fun W h1 h2 => by
    rw [hT]
    exact put_any u v hu hv 256 t q W (Nat.le_refl _) (Tr.fit_0 hfit) h1 hsz (hK.below h2 hG)
  have b1 : Below w.heap.size w ((w.alloc (Obj.cells (vB u).toArray 29)).alloc (Obj.cells (vB v).toArray 29)) := ((Below.refl _ _).alloc (Nat.le_refl _) _).alloc (by simp) _
  have hb1 : Below b w ((w.alloc (Obj.cells (vB u).toArray 29)).alloc (Obj.cells (vB v).toArray 29)) := b1.mono (Nat.le_of_lt HBW.out)
  have r4 : Row ((w.alloc (Obj.cells (vB u).toArray 29)).alloc (Obj.cells (vB v).toArray 29)) w.heap.size (vB u) 29 := (Row.new w (vB u) _).alloc _
  have r5 : Row ((w.alloc (Obj.cells (vB u).toArray 29)).alloc (Obj.cells (vB v).toArray 29)) (w.heap.size + 1) (vB v) 29 := Row.new' (by simp) rfl
  have k0 : KpR b w ((w.alloc (Obj.cells (vB u).toArray 29)).alloc (Obj.cells (vB v).toArray 29)) := (KpR.refl b w).below b1
  have m0 : Row ((w.alloc (Obj.cells (vB u).toArray 29)).alloc (Obj.cells (vB v).toArray 29)) b [q] 81 ∧ NodeAt ((w.alloc (Obj.cells (vB u).toArray 29)).alloc (Obj.cells (vB v).toArray 29)) t q := ⟨Row.below rM b1 HBW.out, NodeAt.be b1 _ _ hn⟩
  have HRES : Hid (T = t.put u v 256) := hT
  clear hT hu hv hK hG hfit hsz rM hn b1
  go_enter Tryd.func11, Tryd.ntmps11
  go_upto_region 2 with fail
  generalize ((w.alloc (Obj.cells (vB u).toArray 29)).alloc (Obj.cells (vB v).toArray 29)) = W0 at *
  have m0d : Row W0.drew b [q] 81 ∧ NodeAt W0.drew t q := ⟨Row.drew m0.1, NodeAt.be (Below.drew (Below.refl _ _)) _ _ m0.2⟩
  refine wp_named fun a0 ha0 => ?_
  have hsz : a0.tmps.size = 19 := by rw [ha0]; rfl
  have zs0 : a0.eval (.tmp 0) = .pointer (some ⟨b, 0, none⟩) := by rw [ha0]; rfl
  have zs4 : a0.eval (.tmp 4) = .pointer (some ⟨w.heap.size, 0, none⟩) := by rw [ha0]; rfl
  have zs5 : a0.eval (.tmp 5) = .pointer (some ⟨w.heap.size + 1, 0, none⟩) := by rw [ha0]; rfl
  obtain ⟨D, hD⟩ : ∃ D : List (Tmp × SP), D = [(8, SP.is (.pointer (some ⟨b, 0, none⟩))), (9, SP.is (.pointer (some ⟨b, 0, none⟩))), (10, SP.is (.pointer (some ⟨b, 0, none⟩))), (11, SP.is (.pointer (some ⟨b, 0, none⟩))), (12, SP.is (q)), (13, SP.is (.agg (vB u).toArray)), (14, SP.is (.agg (vB v).toArray)), (15, SP.is (.agg (vB (u ++ v)).toArray)), (16, SP.no T), (17, SP.is (.pointer (some ⟨b, 0, none⟩))), (18, SP.is (.pointer (some ⟨b, 0, none⟩))), (1000, SP.any)] := ⟨_, rfl⟩
  refine wp_region_down (by kernel_rfl) (fun listed ac W => listed.size = 12 ∧ Fp D a0 listed ac W ∧ Below b w W ∧ Row W w.heap.size ((vB u)) 29 ∧ Row W ((w.heap.size + 1)) ((vB v)) 29 ∧ MR W b q t T (listed.getD 11 false) ∧ KpR b w W) ?_ ?_ ?_
  · exact ⟨by simp, Fp.start D a0 _ _, Below.drew hb1, Row.drew r4, Row.drew r5, MR.start (fun h => start_no h) m0d, k0.below (Below.drew (Below.refl _ _))⟩
  · clear ha0 hb1 r4 r5 m0 k0 
    intro listed ac W k hI hdn hk
    obtain ⟨hl, hF, hb1, r4, r5, m0, k0⟩ := hI
    have hk1 : k < 12 := List.mem_range.1 (List.mem_filter.1 hk).1
    have hl2 : ∀ j, (listed.setIfInBounds j true).size = 12 := fun j => by rw [Array.size_setIfInBounds]; exact hl
    rcases (show k = 0 ∨ k = 1 ∨ k = 2 ∨ k = 3 ∨ k = 4 ∨ k = 5 ∨ k = 6 ∨ k = 7 ∨ k = 8 ∨ k = 9 ∨ k = 10 ∨ k = 11 by omega) with rfl | rfl | rfl | rfl | rfl | rfl | rfl | rfl | rfl | rfl | rfl | rfl
    · have hk3 := hk
      exact wpOp_plain rfl rfl (wp_move_v (ac.eval (.tmp 0)) rfl rfl ⟨hl2 0, (hF.put 0 8 (SP.is (.pointer (some ⟨b, 0, none⟩))) (ac.eval (.tmp 0)) (by rw [hD]; rfl) (((hF.keep 0 (by rw [hD]; rfl)).trans zs0)) (by rw [hD]; rfl) (by rw [hsz]; decide) (by rw [hl]; decide)), hb1, r4, r5, (by rw [getD_set _ _ _ (by decide)]; exact m0), k0⟩)
    · have hk3 := hk
      exact wpOp_plain rfl rfl (wp_move_v (ac.eval (.tmp 0)) rfl rfl ⟨hl2 1, (hF.put 1 9 (SP.is (.pointer (some ⟨b, 0, none⟩))) (ac.eval (.tmp 0)) (by rw [hD]; rfl) (((hF.keep 0 (by rw [hD]; rfl)).trans zs0)) (by rw [hD]; rfl) (by rw [hsz]; decide) (by rw [hl]; decide)), hb1, r4, r5, (by rw [getD_set _ _ _ (by decide)]; exact m0), k0⟩)
    · have hk3 := hk
      have e := (hF.done 1 (9, SP.is (.pointer (some ⟨b, 0, none⟩))) (by rw [hD]; rfl) (ready_dep hk 1 (by kernel_rfl)))
      exact wpOp_plain rfl rfl (wp_nilS rfl b e ⟨hl2 2, (hF.put 2 10 (SP.is (.pointer (some ⟨b, 0, none⟩))) (.pointer (some ⟨b, 0, none⟩)) (by rw [hD]; rfl) rfl (by rw [hD]; rfl) (by rw [hsz]; decide) (by rw [hl]; decide)), hb1, r4, r5, (by rw [getD_set _ _ _ (by decide)]; exact m0), k0⟩)
    · have hk3 := hk
      have e := (hF.done 2 (10, SP.is (.pointer (some ⟨b, 0, none⟩))) (by rw [hD]; rfl) (ready_dep hk 2 (by kernel_rfl)))
      exact wpOp_plain rfl rfl (wp_mf0 rfl b e ⟨hl2 3, (hF.put 3 11 (SP.is (.pointer (some ⟨b, 0, none⟩))) (.pointer (some ⟨b, 0, none⟩)) (by rw [hD]; rfl) rfl (by rw [hD]; rfl) (by rw [hsz]; decide) (by rw [hl]; decide)), hb1, r4, r5, (by rw [getD_set _ _ _ (by decide)]; exact m0), k0⟩)
    · have hk3 := hk
      have hno : ¬ listed.getD 11 false = true := fun h => not_yet hk (hdn 11 h 4 (by kernel_rfl))
      have e := (hF.done 3 (11, SP.is (.pointer (some ⟨b, 0, none⟩))) (by rw [hD]; rfl) (ready_dep hk 3 (by kernel_rfl)))
      exact wpOp_plain rfl rfl (wp_ldp b 0 q rfl e ((m0.no hno).1.cell 0 q rfl) ⟨hl2 4, (hF.put 4 12 (SP.is (q)) q (by rw [hD]; rfl) rfl (by rw [hD]; rfl) (by rw [hsz]; decide) (by rw [hl]; decide)), hb1, r4, r5, (by rw [getD_set _ _ _ (by decide)]; exact m0), k0⟩)
    · have hk3 := hk
      exact wpOp_plain rfl rfl (wp_load_mid 29 (.tmp 4) rfl w.heap.size 0 ((hF.keep 4 (by rw [hD]; rfl)).trans zs4) ((vB u)) _ r4.all Tryd.underlying29 rfl HIU.out ⟨hl2 5, (hF.put 5 13 (SP.is (.agg (vB u).toArray)) (.agg (vB u).toArray) (by rw [hD]; rfl) rfl (by rw [hD]; rfl) (by rw [hsz]; decide) (by rw [hl]; decide)), hb1, r4, r5, (by rw [getD_set _ _ _ (by decide)]; exact m0), k0⟩)
    · have hk3 := hk
      exact wpOp_plain rfl rfl (wp_load_mid 29 (.tmp 5) rfl ((w.heap.size + 1)) 0 ((hF.keep 5 (by rw [hD]; rfl)).trans zs5) ((vB v)) _ r5.all Tryd.underlying29 rfl HIV.out ⟨hl2 6, (hF.put 6 14 (SP.is (.agg (vB v).toArray)) (.agg (vB v).toArray) (by rw [hD]; rfl) rfl (by rw [hD]; rfl) (by rw [hsz]; decide) (by rw [hl]; decide)), hb1, r4, r5, (by rw [getD_set _ _ _ (by decide)]; exact m0), k0⟩)
    · have hk3 := hk
      have e1 := (hF.done 5 (13, SP.is (.agg (vB u).toArray)) (by rw [hD]; rfl) (ready_dep hk 5 (by kernel_rfl)))
      have e2 := (hF.done 6 (14, SP.is (.agg (vB v).toArray)) (by rw [hD]; rfl) (ready_dep hk 6 (by kernel_rfl)))
      exact wpOp_plain rfl rfl (wp_buildB rfl HUL.out HVL.out e1 e2 ⟨hl2 7, (hF.put 7 15 (SP.is (.agg (vB (u ++ v)).toArray)) (.agg (vB (u ++ v)).toArray) (by rw [hD]; rfl) rfl (by rw [hD]; rfl) (by rw [hsz]; decide) (by rw [hl]; decide)), hb1, r4, r5, (by rw [getD_set _ _ _ (by decide)]; exact m0), k0⟩)
    · have hk3 := hk
      have ea := (hF.done 4 (12, SP.is (q)) (by rw [hD]; rfl) (ready_dep hk 4 (by kernel_rfl)))
      have eb := (hF.done 7 (15, SP.is (.agg (vB (u ++ v)).toArray)) (by rw [hD]; rfl) (ready_dep hk 7 (by kernel_rfl)))
      refine wpOp_plain rfl rfl (wp_fcall_v 39 #[q, .agg (vB (u ++ v)).toArray, .int .i64 0] rfl rfl (by show [ac.eval (.tmp 12), ac.eval (.tmp 15), ac.eval (.const (.int .i64 0))] = _; rw [show ac.eval (.tmp 12) = _ from ea, show ac.eval (.tmp 15) = _ from eb]; rfl) (by go_simp) ((HP.out W (m0.no (fun h => not_yet hk (hdn 11 h 8 (by kernel_rfl)))).2 hb1).mono ?_))
      rintro e W2 ⟨q2, rfl, hn2, hB⟩
      exact ⟨_, rfl, hl2 8, ((hF.world hB).put 8 16 (SP.no T) q2 (by rw [hD]; rfl) hn2 (by rw [hD]; rfl) (by rw [hsz]; decide) (by rw [hl]; decide)), hb1.trans (hB.mono (Nat.le_trans (Nat.le_of_lt HBW.out) hb1.size)), Row.below r4 hB (Row.lt r4), Row.below r5 hB (Row.lt r5), (by rw [getD_set _ _ _ (by decide)]; exact m0.below hB), k0.below hB⟩
    · have hk3 := hk
      have e := (hF.done 0 (8, SP.is (.pointer (some ⟨b, 0, none⟩))) (by rw [hD]; rfl) (ready_dep hk 0 (by kernel_rfl)))
      exact wpOp_plain rfl rfl (wp_nilS rfl b e ⟨hl2 9, (hF.put 9 17 (SP.is (.pointer (some ⟨b, 0, none⟩))) (.pointer (some ⟨b, 0, none⟩)) (by rw [hD]; rfl) rfl (by rw [hD]; rfl) (by rw [hsz]; decide) (by rw [hl]; decide)), hb1, r4, r5, (by rw [getD_set _ _ _ (by decide)]; exact m0), k0⟩)
    · have hk3 := hk
      have e := (hF.done 9 (17, SP.is (.pointer (some ⟨b, 0, none⟩))) (by rw [hD]; rfl) (ready_dep hk 9 (by kernel_rfl)))
      exact wpOp_plain rfl rfl (wp_mf0 rfl b e ⟨hl2 10, (hF.put 10 18 (SP.is (.pointer (some ⟨b, 0, none⟩))) (.pointer (some ⟨b, 0, none⟩)) (by rw [hD]; rfl) rfl (by rw [hD]; rfl) (by rw [hsz]; decide) (by rw [hl]; decide)), hb1, r4, r5, (by rw [getD_set _ _ _ (by decide)]; exact m0), k0⟩)
    · have hk3 := hk
      have hno : ¬ listed.getD 11 false = true := not_yet hk
      have e18 : ac.eval (.tmp 18) = .pointer (some ⟨b, 0, none⟩) := (hF.done 10 (18, SP.is (.pointer (some ⟨b, 0, none⟩))) (by rw [hD]; rfl) (ready_dep hk 10 (by kernel_rfl)))
      obtain ⟨v16, e16⟩ : ∃ x, ac.eval (.tmp 16) = x := ⟨_, rfl⟩
      have h16 : NodeAt W T v16 := e16 ▸ (hF.done 8 (16, SP.no T) (by rw [hD]; rfl) (ready_dep hk 8 (by kernel_rfl)))
      have rM := (m0.no hno).1
      have hT : Fp D a0 listed ac (W.setCell ⟨b, 0, none⟩ v16) := hF.turn (by rw [hD]; simp only [List.forall_mem_cons, List.not_mem_nil, false_implies, implies_true, and_true]; exact ⟨fun _ h => h, fun _ h => h, fun _ h => h, fun _ h => h, fun _ h => h, fun _ h => h, fun _ h => h, fun _ h => h, fun _ h => NodeAt.set rM v16 _ _ h, fun _ h => h, fun _ h => h, fun _ h => h⟩)
      exact wpOp_plain rfl rfl (wp_stp (.tmp 18) (.tmp 16) rfl b v16 e18 e16 (node_oneS h16) rM ⟨hl2 11, (hT.skip 11 1000 (by rw [hD]; rfl) (by rw [hl]; decide)), below_setC hb1 (Nat.le_refl _) _, Row.set_other r4 _ _ _ (by have := HBW.out; omega), Row.set_other r5 _ _ _ (by have := HBW.out; omega), MR.done (getD_same (by rw [hl]; decide)) (rM.set 0 v16) (NodeAt.set rM v16 _ _ h16), k0.set v16⟩)
  · clear hb1 r4 r5 m0 k0 
    intro listed ac W hI hr
    obtain ⟨hl, hF, hb1, r4, r5, m0, k0⟩ := hI
    have hall := all_listed (by kernel_rfl) hl hr
    have h8 : ac.eval (.tmp 8) = .pointer (some ⟨b, 0, none⟩) := hF.done 0 (8, SP.is (.pointer (some ⟨b, 0, none⟩))) (by rw [hD]; rfl) (hall 0 (by decide))
    have h9 : ac.eval (.tmp 9) = .pointer (some ⟨b, 0, none⟩) := hF.done 1 (9, SP.is (.pointer (some ⟨b, 0, none⟩))) (by rw [hD]; rfl) (hall 1 (by decide))
    have h10 : ac.eval (.tmp 10) = .pointer (some ⟨b, 0, none⟩) := hF.done 2 (10, SP.is (.pointer (some ⟨b, 0, none⟩))) (by rw [hD]; rfl) (hall 2 (by decide))
    have h11 : ac.eval (.tmp 11) = .pointer (some ⟨b, 0, none⟩) := hF.done 3 (11, SP.is (.pointer (some ⟨b, 0, none⟩))) (by rw [hD]; rfl) (hall 3 (by decide))
    have h12 : ac.eval (.tmp 12) = q := hF.done 4 (12, SP.is (q)) (by rw [hD]; rfl) (hall 4 (by decide))
    have h13 : ac.eval (.tmp 13) = .agg (vB u).toArray := hF.done 5 (13, SP.is (.agg (vB u).toArray)) (by rw [hD]; rfl) (hall 5 (by decide))
    have h14 : ac.eval (.tmp 14) = .agg (vB v).toArray := hF.done 6 (14, SP.is (.agg (vB v).toArray)) (by rw [hD]; rfl) (hall 6 (by decide))
    have h15 : ac.eval (.tmp 15) = .agg (vB (u ++ v)).toArray := hF.done 7 (15, SP.is (.agg (vB (u ++ v)).toArray)) (by rw [hD]; rfl) (hall 7 (by decide))
    obtain ⟨x16, h16⟩ : ∃ x, ac.eval (.tmp 16) = x := ⟨_, rfl⟩
    have h17 : ac.eval (.tmp 17) = .pointer (some ⟨b, 0, none⟩) := hF.done 9 (17, SP.is (.pointer (some ⟨b, 0, none⟩))) (by rw [hD]; rfl) (hall 9 (by decide))
    have h18 : ac.eval (.tmp 18) = .pointer (some ⟨b, 0, none⟩) := hF.done 10 (18, SP.is (.pointer (some ⟨b, 0, none⟩))) (by rw [hD]; rfl) (hall 10 (by decide))
    have ea := hF.lay [(8, .pointer (some ⟨b, 0, none⟩)), (9, .pointer (some ⟨b, 0, none⟩)), (10, .pointer (some ⟨b, 0, none⟩)), (11, .pointer (some ⟨b, 0, none⟩)), (12, q), (13, .agg (vB u).toArray), (14, .agg (vB v).toArray), (15, .agg (vB (u ++ v)).toArray), (16, x16), (17, .pointer (some ⟨b, 0, none⟩)), (18, .pointer (some ⟨b, 0, none⟩))] (by rw [hD, hsz]; rfl) (by simp only [List.forall_mem_cons, List.not_mem_nil, false_implies, implies_true, and_true]; exact ⟨h8, h9, h10, h11, h12, h13, h14, h15, h16, h17, h18⟩)
    rw [ha0] at ea
    simp only [List.foldl_cons, List.foldl_nil, List.setIfInBounds_toArray, List.set_cons_zero, List.set_cons_succ] at ea
    replace m0 := m0.yes (hall 11 (by decide))
    clear hF hall hr hl hD  zs0 zs4 zs5 ha0 hsz h8 h9 h10 h11 h12 h13 h14 h15 h16 h17 h18
    subst ea
    go_wp2_with fail
    exact bodyPost_end (results_none rfl _ _ _) rfl ⟨rfl, by rw [← HRES.out]; exact m0, k0, hb1⟩

end Go.Proofs.YtfdgdmehgbmnkaaDoor
