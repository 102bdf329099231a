/-
  the ladder: Post.
-/
import Derived.Test.YtfdbjcdcfmnicaaLaH
import Derived.Deep.CutRange
import Derived.BigQuiet
namespace Go.Proofs.Ytfdbjcdcfmnicaa
open Go Go.RowKit
open Sha

theorem Ld.below {w w' : World} {p : Nat} {v : Value} {B : Int} {st : La} (h : Ld w p v B st) (k : Below w.heap.size w w') : Ld w' p v B st := h.be k
def SP.nwL (R : List Value) : SP := ⟨fun W v => ∃ M, v = .slice (some ⟨M, 0, none⟩) 1 1 ∧ Row W M R tP, fun _ _ _ hB h => by obtain ⟨M, e, r⟩ := h; exact ⟨M, e, Row.below r hB r.lt⟩⟩
def La.newP (st : La) (c : Cm) (ad : List (BitVec 8)) (now : Int) : Pn := ⟨st.given + 1, c, ad, now, now + st.win, 0⟩
def La.post (st : La) (c : Cm) (ad : List (BitVec 8)) (inbox now : Int) : La × Int × Int :=
  if (tmB now && decide (st.last ≤ now)) = false then (st, 0, 168)
  else if 4611686018427387904 - st.win < now then (st, 0, 168)
  else if folB c st.top = false then (st, 0, 161)
  else if inbox < c.n then (st, 0, 162)
  else if 32 ≤ st.pend.length then (st, 0, 163)
  else ({ st with last := now, given := st.given + 1, pend := st.pend ++ [st.newP c ad now] }, st.given + 1, 0)
theorem La.post_ok {B : Int} {st : La} (h : st.Ok B) {c : Cm} {ad : List (BitVec 8)} {now : Int} (h0 : 0 ≤ now) (h1 : now ≤ 4611686018427387904) (hc : c.Wf) (hm : c.May) (ha : ad.length = 20) (hl : st.pend.length < 32) (hB : 0 ≤ B) : La.Ok (B + 1) { st with last := now, given := st.given + 1, pend := st.pend ++ [st.newP c ad now] } := by
  have hg := h.g0
  have hg1 := h.g1
  refine ⟨h.w1, h.w2, h0, h1, by show 0 ≤ st.given + 1; omega, by show st.given + 1 ≤ B + 1; omega, h.cf, h.cm, fun p hp => ?_, fun p hp => ?_, fun p hp => ?_, by show (st.pend ++ [st.newP c ad now]).length ≤ 32; rw [List.length_append, List.length_singleton]; omega⟩
  · rcases List.mem_append.1 hp with q | q
    · exact h.pw p q
    · obtain rfl := List.mem_singleton.1 q; exact ⟨hc, ha⟩
  · rcases List.mem_append.1 hp with q | q
    · exact h.pm p q
    · obtain rfl := List.mem_singleton.1 q; exact hm
  · rcases List.mem_append.1 hp with q | q
    · have := h.pd p q; exact ⟨this.1, by omega⟩
    · obtain rfl := List.mem_singleton.1 q; exact ⟨Int.le_refl _, by show (0 : Int) ≤ B + 1; omega⟩
theorem fill_oneL (s : Nat) (hs : 0 < s) (c cells : Array Value) (hc : c.size = s) (hn : cells.size = s) : Instr.fill (fun i => some (i * s, s)) cells [(0, .agg c)] = some c := by
  obtain ⟨r, hr, hsz, hk⟩ := Great.fill_dense (s := s) hs [.agg c] 0 cells (fun v hv => by obtain rfl := List.mem_singleton.1 hv; exact hc) (by simp; omega)
  have hr' : Instr.fill (fun i => some (i * s, s)) cells [(0, .agg c)] = some r := hr
  rw [hr']
  congr 1
  apply Array.ext_getElem?
  intro k
  rw [hk k]
  by_cases hlt : k < s
  · rw [if_pos (by simp; omega), Nat.div_eq_of_lt hlt, Nat.mod_eq_of_lt hlt]
    rfl
  · rw [if_neg (by simp; omega), Array.getElem?_eq_none (by omega), Array.getElem?_eq_none (by omega)]
section
variable {Q : Exit → Act → World → Prop} {o : Oper} {a : Act} {w : World} {K : Act → World → Prop}
theorem wp_bPn (x : Operand) (ho : o.op = .buildSlice tPs 1 #[(0, x)]) (L : List Value) (hL : L.length = 90) (hx : a.eval x = .agg L.toArray)
    (h : ∀ X, Row X w.heap.size L tP → Below w.heap.size w X → K (a.put o.dst (.slice (some ⟨w.heap.size, 0, none⟩) 1 1)) X) : Oper.wp Try.prog o a w K Q := by
  obtain ⟨ie, z, h1, h2, h3, _, h4⟩ := info_PO
  refine wp_buildSlice tPs tP 1 _ ho L.toArray ie z Try.underlying42 h1 h2 (by rw [h3]; omega) (by rw [h3]; omega) ?_ (h _ (Row.new' rfl rfl) ((Below.refl _ _).alloc (Nat.le_refl _) _))
  rw [show (Array.map (fun (p : Nat × Operand) => match p with | (i, x) => (i, a.eval x)) #[(0, x)]).toList = [(0, a.eval x)] by simp, hx, h3]
  exact fill_oneL 90 (by decide) _ _ (by simp [hL]) (by simp)
theorem wp_nilL {x : Operand} (ho : o.op = .nilCheck x) (B : Nat) (hx : a.eval x = .pointer (some ⟨B, 0, none⟩)) (h : K (a.put o.dst (.pointer (some ⟨B, 0, none⟩))) w) : Oper.wp Try.prog o a w K Q := by
  unfold Oper.wp execOp
  simp only [ho, hx]
  go_simp
  exact h
theorem wp_fL4 {x : Operand} (ho : o.op = .fieldAddr tL x 4) (B : Nat) (hx : a.eval x = .pointer (some ⟨B, 0, none⟩)) (h : K (a.put o.dst (.pointer (some ⟨B, 69, none⟩))) w) : Oper.wp Try.prog o a w K Q := by
  unfold Oper.wp execOp
  simp only [ho, hx]
  go_simp
  exact h
theorem wp_fL2 {x : Operand} (ho : o.op = .fieldAddr tL x 2) (B : Nat) (hx : a.eval x = .pointer (some ⟨B, 0, none⟩)) (h : K (a.put o.dst (.pointer (some ⟨B, 2, none⟩))) w) : Oper.wp Try.prog o a w K Q := by
  unfold Oper.wp execOp
  simp only [ho, hx]
  go_simp
  exact h
theorem wp_fL0 {x : Operand} (ho : o.op = .fieldAddr tL x 0) (B : Nat) (hx : a.eval x = .pointer (some ⟨B, 0, none⟩)) (h : K (a.put o.dst (.pointer (some ⟨B, 0, none⟩))) w) : Oper.wp Try.prog o a w K Q := by
  unfold Oper.wp execOp
  simp only [ho, hx]
  go_simp
  exact h
theorem ld_Ps (w : World) (b f : Nat) (v : Value) (h : w.cell? ⟨b, f, none⟩ = some v) : (loadVar tPs ⟨b, f, none⟩).run Try.prog w = .ok v w := by
  simp [loadVar, isAgg, run_underlying Try.underlying42, h]
theorem ld_int (w : World) (b f : Nat) (v : Value) (h : w.cell? ⟨b, f, none⟩ = some v) : (loadVar 3 ⟨b, f, none⟩).run Try.prog w = .ok v w := by
  simp [loadVar, isAgg, run_underlying Try.underlying3, h]
theorem wp_ld1 {ty : TypeId} {x : Operand} (b f : Nat) (v : Value) (ho : o.op = .load ty x) (hx : a.eval x = .pointer (some ⟨b, f, none⟩)) (hr : (loadVar ty ⟨b, f, none⟩).run Try.prog w = .ok v w) (h : K (a.put o.dst v) w) : Oper.wp Try.prog o a w K Q := by
  unfold Oper.wp execOp
  simp only [ho, hx, Instr.loadAt, Instr.sureAddr, Sem.run_bind, Sem.run_pure, Result.andThen_ok, hr, Oper.upon_value]
  exact h
theorem wp_addI {x y : Operand} {t yt : TypeId} (ho : o.op = .binOp .add t x y yt) (ht : t = 3) (u z r : Int) (hx : a.eval x = .int .i64 u) (hy : a.eval y = .int .i64 z) (hr : IntKind.i64.wrap (u + z) = r) (h : K (a.put o.dst (.int .i64 r)) w) : Oper.wp Try.prog o a w K Q := by
  subst ht
  unfold Oper.wp execOp
  simp only [ho, hx, hy]
  simp [go_sem, hr]
  exact h
theorem wp_notL {x : Operand} {t : TypeId} (ho : o.op = .unOp .not t x) (b : Bool) (hx : a.eval x = .bool b) (h : K (a.put o.dst (.bool (!b))) w) : Oper.wp Try.prog o a w K Q := by
  unfold Oper.wp execOp
  simp only [ho, hx]
  simp [go_sem]
  exact h
theorem wp_blt (ty : TypeId) (parts : Array (Nat × Operand)) (ho : o.op = .build ty parts) (vals : List (Nat × Value)) (hv : (parts.toList.map fun (p : Nat × Operand) => match p with | (i, x) => (i, a.eval x)) = vals) (L : List Value) (hr : Try.prog.built ty vals = some L.toArray) (h : K (a.put o.dst (.agg L.toArray)) w) : Oper.wp Try.prog o a w K Q := by
  have hr := run_build (P := Try.prog) w ty vals.toArray _ hr
  have hv2 : (parts.map fun (p : Nat × Operand) => match p with | (i, x) => (i, a.eval x)) = vals.toArray := by
    apply Array.toList_inj.1
    rw [Array.toList_map]
    exact hv
  unfold Oper.wp execOp
  simp only [ho, hv2, Sem.run_bind, hr, Result.andThen_ok, Sem.run_pure, Oper.upon_value]
  exact h
theorem wp_set1L (ty : TypeId) (x y : Operand) (ho : o.op = .store ty x y)
    (b i : Nat) (v : Value) (cs : List Value) (t : TypeId) (hx : a.eval x = .pointer (some ⟨b, i, none⟩)) (hy : a.eval y = v) (hcs : v.cells = #[v]) (r : Row w b cs t) (hl : i < cs.length) (hi : (Try.prog.info? ty).map (·.size) = some 1) (h1 : v.oneCell' = true)
    (h : ∀ X, Row X b (cs.set i v) t → Gro (· = b) w X → K (a.put o.dst undef) X) : Oper.wp Try.prog o a w K Q := by
  have ht := r.there i 1 (by omega)
  have hr : (storeVar ty ⟨b, i, none⟩ v).run Try.prog w = .ok () (w.setCell ⟨b, i, none⟩ v) := by
    have := run_storeCells_cells (P := Try.prog) b i [v] 0 w (fun j hj => by simpa using (ht j (by simpa using hj)).1) (fun j hj => by simpa using (ht j (by simpa using hj)).2) (fun u hu => by simp at hu; rw [hu]; exact h1)
    cases hq : Try.prog.info? ty with
    | none => simp [hq] at hi
    | some ie =>
      have hs : ie.size = 1 := by simpa [hq] using hi
      simp only [Nat.add_zero, World.setCells] at this
      simp [storeVar, sizeOf, typeInfo, hq, hcs, hs, this]
  unfold Oper.wp execOp
  simp only [ho, hx, hy, Instr.storeAt, Instr.sureAddr, Sem.run_bind, Sem.run_pure, Result.andThen_ok, hr]
  exact h _ (r.set i v) ((Gro.refl _ _).set b i v rfl)
end
theorem Lo.gb {w w' : World} {v u : Value} {e : TypeId} {s n : Nat} {xs : List Value} (h : Lo w e s v n xs) (k : w.grownBy w' u.ownBlock) (hR : ∀ g, v.ownBlock = some g → some g ≠ u.ownBlock) : Lo w' e s v n xs := Lo.block h fun g e => k.block g (Lo.lt h g e) (hR g e)
set_option maxRecDepth 100000 in
set_option maxHeartbeats 4000000 in
theorem post_any {w : World} {p : Nat} {v : Value} {B : Int} {st : La} (h : Ld w p v B st) (hB : 0 ≤ B) (hB2 : B < 4611686018427387904) (c : Cm) (hc : c.Wf) (ad : List (BitVec 8)) (had : ad.length = 20) (inbox now : Int) (Lc : List Value) (hLc : Lc = c.cells) (st' : La) (N E : Int) (hr : st.post c ad inbox now = (st', N, E)) :
    Calls Try.prog 23 #[.pointer (some ⟨p, 0, none⟩), .agg Lc.toArray, .agg (vB ad).toArray, .int .i64 inbox, .int .i64 now] w fun e w' => e = .returned (.tuple #[.int .i64 N, .int .i64 E]) ∧ Tn w w' p v (B + 1) st' := by
  have HLD : Hid (Ld w p v B st) := h
  have HB1 : Hid (B ≤ B + 1) := by show _ ≤ _; omega
  obtain ⟨T, hT⟩ : ∃ T, T = (tmB now && decide (st.last ≤ now)) := ⟨_, rfl⟩
  have HGO : Hid (∀ X, Below w.heap.size w X → Calls Try.prog 69 #[.pointer (some ⟨p, 0, none⟩), .int .i64 now] X fun e w' => e = .returned (.bool T) ∧ w' = X) := fun X k => by rw [hT]; exact goesOn_any now X p st.last (h.be k).c1
  have HC0 : Hid (∀ X, Below w.heap.size w X → X.cell? ⟨p, 0, none⟩ = some (.int .i64 st.win)) := fun X k => (h.be k).c0
  unfold La.post at hr
  rw [← hT] at hr
  cases T with
  | false =>
    rw [if_pos rfl] at hr
    obtain ⟨k1, k2⟩ := Prod.mk.inj hr
    obtain ⟨k3, k4⟩ := Prod.mk.inj k2
    clear hr k2
    subst k1 k3 k4
    clear hT h hB hB2 hc had hLc
    go_enter Try.func23, Try.ntmps23
    go_wp2_with (first
      | (refine wpList_bxG tC rfl (.tmp 1) rfl Lc rfl ?_; intro X1 q1 q2 q3; have R1 : Hid (Row X1 w.heap.size Lc tC) := q1; have B1 : Hid (Below w.heap.size w X1) := q2; clear q1 q2 q3; simp only [Act.put, List.setIfInBounds_toArray, List.set_cons_zero, List.set_cons_succ])
      | (refine wpList_bxG tAd rfl (.tmp 2) rfl (vB ad) rfl ?_; intro V q1 q2 q3; have R2 : Hid (Row V X1.heap.size (vB ad) tAd) := q1; have B2 : Hid (Below w.heap.size w V) := B1.out.trans (q2.mono B1.out.size); have R12 : Hid (Row V w.heap.size Lc tC) := Row.below R1.out q2 R1.out.lt; clear q1 q2 q3; simp only [Act.put, List.setIfInBounds_toArray, List.set_cons_zero, List.set_cons_succ])
      | (go_at_call 69; refine Calls.mono (HGO.out _ B2.out) ?_; rintro e X ⟨rfl, hq⟩; obtain rfl := hq.symm; clear hq))
    go_ret2
    exact ⟨rfl, (Tn.same HLD.out B2.out).mono HB1.out⟩
  | true =>
  rw [if_neg (by decide)] at hr
  have hsub : IntKind.i64.wrap (4611686018427387904 - st.win) = 4611686018427387904 - st.win := by rw [IntKind.wrap_i64]; have := h.ok.w1; have := h.ok.w2; omega
  by_cases hwn : 4611686018427387904 - st.win < now
  · rw [if_pos hwn] at hr
    obtain ⟨k1, k2⟩ := Prod.mk.inj hr
    obtain ⟨k3, k4⟩ := Prod.mk.inj k2
    clear hr k2
    subst k1 k3 k4
    clear hT h hB hB2 hc had hLc
    go_enter Try.func23, Try.ntmps23
    go_wp2_with (first
      | (refine wpList_bxG tC rfl (.tmp 1) rfl Lc rfl ?_; intro X1 q1 q2 q3; have R1 : Hid (Row X1 w.heap.size Lc tC) := q1; have B1 : Hid (Below w.heap.size w X1) := q2; clear q1 q2 q3; simp only [Act.put, List.setIfInBounds_toArray, List.set_cons_zero, List.set_cons_succ])
      | (refine wpList_bxG tAd rfl (.tmp 2) rfl (vB ad) rfl ?_; intro V q1 q2 q3; have R2 : Hid (Row V X1.heap.size (vB ad) tAd) := q1; have B2 : Hid (Below w.heap.size w V) := B1.out.trans (q2.mono B1.out.size); have R12 : Hid (Row V w.heap.size Lc tC) := Row.below R1.out q2 R1.out.lt; have c0 := HC0.out V B2.out; clear q1 q2 q3; simp only [Act.put, List.setIfInBounds_toArray, List.set_cons_zero, List.set_cons_succ])
      | (go_at_call 69; refine Calls.mono (HGO.out _ B2.out) ?_; rintro e X ⟨rfl, hq⟩; obtain rfl := hq.symm; clear hq))
    go_ret2
    exact ⟨rfl, (Tn.same HLD.out B2.out).mono HB1.out⟩
  · rw [if_neg hwn] at hr
    have htm : 0 ≤ now ∧ now ≤ 4611686018427387904 := by
      have := hT.symm
      unfold tmB at this
      simp only [Bool.and_eq_true, decide_eq_true_eq] at this
      exact this.1
    obtain ⟨F, hF⟩ : ∃ F, F = folB c st.top := ⟨_, rfl⟩
    obtain ⟨M, hM⟩ : ∃ M, M = st.top.cells := ⟨_, rfl⟩
    have HTOP0 : Hid (∀ X, Below w.heap.size w X → Calls Try.prog 66 #[.pointer (some ⟨p, 0, none⟩)] X fun e w' => e = .returned (.agg M.toArray) ∧ Below X.heap.size X w') := fun X k => by rw [hM]; exact top_any (h.be k) _ rfl
    have HFOL : Hid (∀ X, Calls Try.prog 70 #[.agg Lc.toArray, .agg M.toArray] X fun e w' => e = .returned (.bool F) ∧ Below X.heap.size X w') := fun X => by rw [hF]; exact follows_any c st.top hc (La.top_wf h.ok).1 (La.top_wf h.ok).2 Lc M hLc hM X
    have HIC : Hid ((Try.prog.info? tC).map (·.size) = some Lc.length) := by show _ = _; rw [hLc]; exact Cm.info hc
    rw [← hF] at hr
    obtain ⟨Av, cv, hv, _, _, _⟩ := h.form
    obtain ⟨n, hn⟩ : ∃ n, n = st.pend.length := ⟨_, rfl⟩
    rw [← hn] at hv
    have HC69 : Hid (∀ X, Below w.heap.size w X → X.cell? ⟨p, 69, none⟩ = some (.slice Av n cv)) := fun X k => by rw [← hv]; exact (h.be k).c69
    have HHN : Hid (n = st.pend.length) := hn
    have HHV : Hid (v = .slice Av n cv) := hv
    have HHC : Hid (c.Wf ∧ ad.length = 20 ∧ 0 ≤ B ∧ B < 4611686018427387904 ∧ 0 ≤ now ∧ now ≤ 4611686018427387904) := ⟨hc, had, hB, hB2, htm.1, htm.2⟩
    have HHL : Hid (Lc = c.cells) := hLc
    have HHF : Hid (F = folB c st.top) := hF
    have HHR : Hid ((if F = false then (st, 0, 161) else if inbox < c.n then (st, 0, 162) else if 32 ≤ st.pend.length then (st, 0, 163) else ({ st with last := now, given := st.given + 1, pend := st.pend ++ [st.newP c ad now] }, st.given + 1, 0)) = (st', N, E)) := hr
    clear hr hT h hB hB2 hc had hLc htm hF hM hv hn
    go_enter Try.func23, Try.ntmps23
    go_upto_region 5 with (first
      | (refine wpList_bxG tC rfl (.tmp 1) rfl Lc rfl ?_; intro X1 q1 q2 q3; have R1 : Hid (Row X1 w.heap.size Lc tC) := q1; have B1 : Hid (Below w.heap.size w X1) := q2; clear q1 q2 q3; simp only [Act.put, List.setIfInBounds_toArray, List.set_cons_zero, List.set_cons_succ])
      | (refine wpList_bxG tAd rfl (.tmp 2) rfl (vB ad) rfl ?_; intro V q1 q2 q3; have R2 : Hid (Row V X1.heap.size (vB ad) tAd) := q1; have B2 : Hid (Below w.heap.size w V) := B1.out.trans (q2.mono B1.out.size); have R12 : Hid (Row V w.heap.size Lc tC) := Row.below R1.out q2 R1.out.lt; have c0 := HC0.out V B2.out; clear q1 q2 q3; simp only [Act.put, List.setIfInBounds_toArray, List.set_cons_zero, List.set_cons_succ])
      | (go_at_call 69; refine Calls.mono (HGO.out _ B2.out) ?_; rintro e X ⟨rfl, hq⟩; obtain rfl := hq.symm; clear hq))
    have HTOP : Hid (∀ X, Below V.heap.size V X → Calls Try.prog 66 #[.pointer (some ⟨p, 0, none⟩)] X fun e w' => e = .returned (.agg M.toArray) ∧ Below X.heap.size X w') := fun X k => HTOP0.out X (B2.out.trans (k.mono B2.out.size))
    obtain ⟨bC, hbC⟩ : ∃ b, b = w.heap.size := ⟨_, rfl⟩
    obtain ⟨bA, hbA⟩ : ∃ b, b = X1.heap.size := ⟨_, rfl⟩
    rw [← hbC] at R12 ⊢
    rw [← hbA] at R2 ⊢
    have HBC : Hid (bC = w.heap.size ∧ w.heap.size ≤ bA ∧ bC ≠ bA) := by
      refine ⟨hbC, by rw [hbA]; exact B1.out.size, ?_⟩
      rw [hbC, hbA]
      have := R1.out.lt
      omega
    have hb1 := Below.refl V.heap.size V
    have rC := R12.out
    clear hbC hbA R1 R12 HTOP0
    refine wp_named fun a0 ha0 => ?_
    have hsz : a0.tmps.size = 85 := by rw [ha0]; rfl
    have zs0 : a0.eval (.tmp 0) = .pointer (some ⟨p, 0, none⟩) := by rw [ha0]; rfl
    have zs6 : a0.eval (.tmp 6) = .pointer (some ⟨bC, 0, none⟩) := by rw [ha0]; rfl
    obtain ⟨D, hD⟩ : ∃ D : List (Tmp × SP), D = [(30, SP.is (.agg Lc.toArray)), (31, SP.is (.pointer (some ⟨p, 0, none⟩))), (32, SP.is (.agg M.toArray)), (33, SP.is (.bool F)), (34, SP.is (.bool (!F))), (29, SP.is (.bool (!F)))] := ⟨_, rfl⟩
    refine wp_region_down (by kernel_rfl) (fun listed ac W => listed.size = 6 ∧ Fp D a0 listed ac W ∧ Below V.heap.size V W ∧ Row W bC Lc tC) ?_ ?_ ?_
    · exact ⟨by simp, Fp.start D a0 _ _, Below.drew hb1, Row.drew rC⟩
    · clear ha0 hb1 rC 
      intro listed ac W k hI hdn hk
      obtain ⟨hl, hF, hb1, rC⟩ := hI
      have hk1 : k < 6 := List.mem_range.1 (List.mem_filter.1 hk).1
      have hl2 : ∀ j, (listed.setIfInBounds j true).size = 6 := fun j => by rw [Array.size_setIfInBounds]; exact hl
      rcases (show k = 0 ∨ k = 1 ∨ k = 2 ∨ k = 3 ∨ k = 4 ∨ k = 5 by omega) with rfl | rfl | rfl | rfl | rfl | rfl
      · have hk3 := hk
        exact wpOp_plain rfl rfl (wp_load_mid tC (.tmp 6) rfl bC 0 ((hF.keep 6 (by rw [hD]; rfl)).trans zs6) Lc _ rC.all Try.underlying25 rfl HIC.out ⟨hl2 0, (hF.put 0 30 (SP.is (.agg Lc.toArray)) (.agg Lc.toArray) (by rw [hD]; rfl) rfl (by rw [hD]; rfl) (by rw [hsz]; decide) (by rw [hl]; decide)), hb1, rC⟩)
      · have hk3 := hk
        exact wpOp_plain rfl rfl (wp_move_v (ac.eval (.tmp 0)) rfl rfl ⟨hl2 1, (hF.put 1 31 (SP.is (.pointer (some ⟨p, 0, none⟩))) (ac.eval (.tmp 0)) (by rw [hD]; rfl) (((hF.keep 0 (by rw [hD]; rfl)).trans zs0)) (by rw [hD]; rfl) (by rw [hsz]; decide) (by rw [hl]; decide)), hb1, rC⟩)
      · have hk3 := hk
        have ea := (hF.done 1 (31, SP.is (.pointer (some ⟨p, 0, none⟩))) (by rw [hD]; rfl) (ready_dep hk 1 (by kernel_rfl)))
        refine wpOp_plain rfl rfl (wp_fcall_v 66 #[.pointer (some ⟨p, 0, none⟩)] rfl rfl (by show [ac.eval (.tmp 31)] = _; rw [show ac.eval (.tmp 31) = _ from ea]) (by go_simp) ((HTOP.out W hb1).mono ?_))
        rintro e W2 ⟨rfl, hB⟩
        exact ⟨_, rfl, hl2 2, ((hF.world hB).put 2 32 (SP.is (.agg M.toArray)) (.agg M.toArray) (by rw [hD]; rfl) rfl (by rw [hD]; rfl) (by rw [hsz]; decide) (by rw [hl]; decide)), hb1.trans (hB.mono hb1.size), Row.below rC hB (Row.lt rC)⟩
      · have hk3 := hk
        have ea := (hF.done 0 (30, SP.is (.agg Lc.toArray)) (by rw [hD]; rfl) (ready_dep hk 0 (by kernel_rfl)))
        have eb := (hF.done 2 (32, SP.is (.agg M.toArray)) (by rw [hD]; rfl) (ready_dep hk 2 (by kernel_rfl)))
        refine wpOp_plain rfl rfl (wp_fcall_v 70 #[.agg Lc.toArray, .agg M.toArray] rfl rfl (by show [ac.eval (.tmp 30), ac.eval (.tmp 32)] = _; rw [show ac.eval (.tmp 30) = _ from ea, show ac.eval (.tmp 32) = _ from eb]) (by go_simp) ((HFOL.out W).mono ?_))
        rintro e W2 ⟨rfl, hB⟩
        exact ⟨_, rfl, hl2 3, ((hF.world hB).put 3 33 (SP.is (.bool F)) (.bool F) (by rw [hD]; rfl) rfl (by rw [hD]; rfl) (by rw [hsz]; decide) (by rw [hl]; decide)), hb1.trans (hB.mono hb1.size), Row.below rC hB (Row.lt rC)⟩
      · have hk3 := hk
        have ea := (hF.done 3 (33, SP.is (.bool F)) (by rw [hD]; rfl) (ready_dep hk 3 (by kernel_rfl)))
        exact wpOp_plain rfl rfl (wp_notL rfl F ea ⟨hl2 4, (hF.put 4 34 (SP.is (.bool (!F))) (.bool (!F)) (by rw [hD]; rfl) rfl (by rw [hD]; rfl) (by rw [hsz]; decide) (by rw [hl]; decide)), hb1, rC⟩)
      · have hk3 := hk
        exact wpOp_plain rfl rfl (wp_assign_v (ac.eval (.tmp 34)) rfl rfl ⟨hl2 5, (hF.put 5 29 (SP.is (.bool (!F))) (ac.eval (.tmp 34)) (by rw [hD]; rfl) ((hF.done 4 (34, SP.is (.bool (!F))) (by rw [hD]; rfl) (ready_dep hk 4 (by kernel_rfl)))) (by rw [hD]; rfl) (by rw [hsz]; decide) (by rw [hl]; decide)), hb1, rC⟩)
    · clear hb1 rC 
      intro listed ac W hI hr
      obtain ⟨hl, hF, hb1, rC⟩ := hI
      have hall := all_listed (by kernel_rfl) hl hr
      have h30 : ac.eval (.tmp 30) = .agg Lc.toArray := hF.done 0 (30, SP.is (.agg Lc.toArray)) (by rw [hD]; rfl) (hall 0 (by decide))
      have h31 : ac.eval (.tmp 31) = .pointer (some ⟨p, 0, none⟩) := hF.done 1 (31, SP.is (.pointer (some ⟨p, 0, none⟩))) (by rw [hD]; rfl) (hall 1 (by decide))
      have h32 : ac.eval (.tmp 32) = .agg M.toArray := hF.done 2 (32, SP.is (.agg M.toArray)) (by rw [hD]; rfl) (hall 2 (by decide))
      have h33 : ac.eval (.tmp 33) = .bool F := hF.done 3 (33, SP.is (.bool F)) (by rw [hD]; rfl) (hall 3 (by decide))
      have h34 : ac.eval (.tmp 34) = .bool (!F) := hF.done 4 (34, SP.is (.bool (!F))) (by rw [hD]; rfl) (hall 4 (by decide))
      have h29 : ac.eval (.tmp 29) = .bool (!F) := hF.done 5 (29, SP.is (.bool (!F))) (by rw [hD]; rfl) (hall 5 (by decide))
      have ea := hF.lay [(30, .agg Lc.toArray), (31, .pointer (some ⟨p, 0, none⟩)), (32, .agg M.toArray), (33, .bool F), (34, .bool (!F)), (29, .bool (!F))] (by rw [hD, hsz]; rfl) (by simp only [List.forall_mem_cons, List.not_mem_nil, false_implies, implies_true, and_true]; exact ⟨h30, h31, h32, h33, h34, h29⟩)
      rw [ha0] at ea
      simp only [List.foldl_cons, List.foldl_nil, List.setIfInBounds_toArray, List.set_cons_zero, List.set_cons_succ] at ea
      clear hF hall hr hl hD  zs0 zs6 ha0 hsz h30 h31 h32 h33 h34 h29
      subst ea
      have hW : Below w.heap.size w W := B2.out.trans (hb1.mono B2.out.size)
      have HBW : Hid (Below w.heap.size w W) := hW
      have HRC : Hid (Row W bC c.cells tC) := by have := rC; rw [HHL.out] at this; exact this
      have HRA : Hid (Row W bA (vB ad) tAd) := Row.below R2.out hb1 R2.out.lt
      have c0n := HRC.out.cell 0 _ (Cm.at_n c)
      have c69 := HC69.out W hW
      have HIC2 : Hid ((Try.prog.info? tC).map (·.size) = some c.cells.length) := Cm.info HHC.out.1
      clear hW rC hb1 R2 B1 B2 HTOP HFOL HGO HC0 HC69
      cases F with
      | false =>
        have hr := HHR.out
        rw [if_pos rfl] at hr
        obtain ⟨k1, k2⟩ := Prod.mk.inj hr
        obtain ⟨k3, k4⟩ := Prod.mk.inj k2
        clear hr k2 HHR
        subst k1 k3 k4
        go_wp2
        go_ret2
        exact ⟨rfl, (Tn.same HLD.out HBW.out).mono HB1.out⟩
      | true =>
      by_cases h162 : inbox < c.n
      · have hr := HHR.out
        rw [if_neg (by decide), if_pos h162] at hr
        obtain ⟨k1, k2⟩ := Prod.mk.inj hr
        obtain ⟨k3, k4⟩ := Prod.mk.inj k2
        clear hr k2 HHR
        subst k1 k3 k4
        go_wp2
        go_ret2
        exact ⟨rfl, (Tn.same HLD.out HBW.out).mono HB1.out⟩
      by_cases h163 : 32 ≤ n
      · have hr := HHR.out
        rw [if_neg (by decide), if_neg h162, if_pos (by rw [← HHN.out]; exact h163)] at hr
        obtain ⟨k1, k2⟩ := Prod.mk.inj hr
        obtain ⟨k3, k4⟩ := Prod.mk.inj k2
        clear hr k2 HHR
        subst k1 k3 k4
        have h32 : (32 : Int) ≤ (n : Int) := by omega
        go_wp2
        go_ret2
        exact ⟨rfl, (Tn.same HLD.out HBW.out).mono HB1.out⟩
      have hr := HHR.out
      rw [if_neg (by decide), if_neg h162, if_neg (by rw [← HHN.out]; exact h163)] at hr
      obtain ⟨hs', k2⟩ := Prod.mk.inj hr
      obtain ⟨k3, k4⟩ := Prod.mk.inj k2
      clear hr k2 HHR
      subst k3 k4
      have h32 : ¬ ((32 : Int) ≤ (n : Int)) := by omega
      obtain ⟨st1, hst1⟩ : ∃ st1, st1 = ({ st with last := now, given := st.given + 1 } : La) := ⟨_, rfl⟩
      have hadd : IntKind.i64.wrap (st.given + 1) = st.given + 1 := by rw [IntKind.wrap_i64]; have := HLD.out.ok.g0; have := HLD.out.ok.g1; have := HHC.out.2.2.2.1; omega
      obtain ⟨dl, hdl⟩ : ∃ dl, dl = now + st.win := ⟨_, rfl⟩
      have HSUM : Hid (IntKind.i64.wrap (now + st1.win) = dl) := by show _ = _; rw [hst1, hdl]; show IntKind.i64.wrap (now + st.win) = _; rw [IntKind.wrap_i64]; have := HLD.out.ok.w1; have := HLD.out.ok.w2; have := HHC.out.2.2.2.2; omega
      have HST1 : Hid (st1 = ({ st with last := now, given := st.given + 1 } : La)) := hst1
      have HDL : Hid (dl = now + st.win) := hdl
      have hPend : n < 32 := by omega
      have HMAY : Hid c.May := by
        have := HHF.out.symm
        unfold folB at this
        simp only [Bool.and_eq_true] at this
        exact (mayB_iff c).1 this.1.1.1
      have HOK1 : Hid (st1.Ok (B + 1)) := by
        show La.Ok _ _
        rw [hst1]
        have h := HLD.out.ok
        have g0 := h.g0
        have g1 := h.g1
        exact ⟨h.w1, h.w2, HHC.out.2.2.2.2.1, HHC.out.2.2.2.2.2, by show 0 ≤ st.given + 1; omega, by show st.given + 1 ≤ B + 1; omega, h.cf, h.cm, h.pw, h.pm, fun q hq => ⟨(h.pd q hq).1, by have := (h.pd q hq).2; omega⟩, h.pl⟩
      have HOK2 : Hid (La.Ok (B + 1) st') := by
        show La.Ok _ _
        rw [← hs']
        exact La.post_ok HLD.out.ok HHC.out.2.2.2.2.1 HHC.out.2.2.2.2.2 HHC.out.1 HMAY.out HHC.out.2.1 (by rw [← HHN.out]; exact hPend) HHC.out.2.2.1
      have HS' : Hid (st' = { st1 with pend := st1.pend ++ [st.newP c ad now] }) := by show _ = _; rw [hst1, ← hs']
      have HP1 : Hid (st1.pend = st.pend) := by show _ = _; rw [hst1]
      obtain ⟨R8, hR8⟩ : ∃ R8, R8 = (st.newP c ad now).cells := ⟨_, rfl⟩
      have HR8 : Hid (R8 = (st.newP c ad now).cells) := hR8
      have HNW : Hid (st.newP c ad now).Wf := ⟨HHC.out.1, HHC.out.2.1⟩
      have HBL : Hid (Try.prog.built tP [(0, .int .i64 st1.given), (1, .agg c.cells.toArray), (2, .agg (vB ad).toArray), (3, .int .i64 now), (4, .int .i64 dl)] = some R8.toArray) := by show _ = _; rw [hR8, hst1, hdl]; exact built_pn (st.newP c ad now) HNW.out rfl
      have HL8 : Hid (R8.length = 90) := by show _ = _; rw [hR8]; exact Pn.len HNW.out
      have HO8 : Hid (∀ u ∈ R8, u.oneCell' = true) := by rw [hR8]; exact Pn.one _
      have HNM : Hid (n ≤ 1000000) := by show _ ≤ _; omega
      have HOWN : Hid (∀ W, Ld W p (.slice Av n cv) (B + 1) st1 → Lo W tP 90 (.slice Av n cv) n (pcs st1.pend)) := fun W q => by have := q.own; rw [HP1.out, ← HHN.out, ← HP1.out] at this; exact this
      have HIA : Hid ((Try.prog.info? tAd).map (·.size) = some (vB ad).length) := by show _ = _; rw [vB_length, HHC.out.2.1]; exact info_A
      clear hs' hst1 hdl hR8 hPend
      have HLW : Hid (Ld W p v B st) := HLD.out.be HBW.out
      go_upto_region 13 with (first
        | (refine wpList_st1 rfl 3 (.tmp 50) (.tmp 48) rfl p 1 (.int .i64 now) (st.cells v) tL rfl rfl rfl HLW.out.row (by rw [La.len HLW.out.ok]; decide) info_int rfl ?_; intro Y1 q1 q2; have RY1 : Hid (Row Y1 p (La.cells { st with last := now } v) tL) := q1; have GY1 : Hid (Gro (· = p) W Y1) := q2; have c2 : Y1.cell? ⟨p, 2, none⟩ = some (.int .i64 st.given) := q1.cell 2 _ rfl; clear q1 q2 c0n c69)
        | (refine wpList_st1 rfl 3 (.tmp 57) (.tmp 55) rfl p 2 (.int .i64 (st.given + 1)) (La.cells { st with last := now } v) tL rfl rfl rfl RY1.out (by show 2 < (st.cells v).length; rw [La.len HLW.out.ok]; decide) info_int rfl ?_; intro V8 q1 q2; have RY2 : Hid (Row V8 p (La.cells ({ st with last := now, given := st.given + 1 } : La) v) tL) := q1; have GY2 : Hid (Gro (· = p) W V8) := GY1.out.trans q2; clear q1 q2 c2))
      have hLd : Ld V8 p (.slice Av n cv) (B + 1) st1 := by
        refine ⟨by rw [HST1.out, ← HHV.out]; exact RY2.out, ?_, HOK1.out⟩
        rw [← HHV.out, HP1.out]
        exact HLW.out.own.gro GY2.out (fun g eg q => HLW.out.own.ne HLW.out.row (by decide) g eg q)
      have hFr : Gro (Tb p (.slice Av n cv)) w V8 := (Gro.of_below HBW.out : Gro (Tb p (.slice Av n cv)) w W).trans (GY2.out.mono (fun g e => .inl e))
      have hpl := HLD.out.row.lt
      have rC : Row V8 bC c.cells tC := GY2.out.row HRC.out (fun e => by have := HBC.out.1; omega)
      have rA : Row V8 bA (vB ad) tAd := GY2.out.row HRA.out (fun e => by have := HBC.out.2.1; omega)
      have hb1 := Below.refl V8.heap.size V8
      clear RY1 RY2 GY1 GY2 HRC HRA hpl HLW
      refine wp_named fun a0 ha0 => ?_
      have hsz : a0.tmps.size = 85 := by rw [ha0]; rfl
      have zs0 : a0.eval (.tmp 0) = .pointer (some ⟨p, 0, none⟩) := by rw [ha0]; rfl
      have zs4 : a0.eval (.tmp 4) = .int .i64 now := by rw [ha0]; rfl
      have zs6 : a0.eval (.tmp 6) = .pointer (some ⟨bC, 0, none⟩) := by rw [ha0]; rfl
      have zs7 : a0.eval (.tmp 7) = .pointer (some ⟨bA, 0, none⟩) := by rw [ha0]; rfl
      obtain ⟨D, hD⟩ : ∃ D : List (Tmp × SP), D = [(58, SP.is (.pointer (some ⟨p, 0, none⟩))), (59, SP.is (.pointer (some ⟨p, 0, none⟩))), (60, SP.is (.pointer (some ⟨p, 0, none⟩))), (61, SP.is (.pointer (some ⟨p, 69, none⟩))), (62, SP.is (.slice Av n cv)), (63, SP.is (.pointer (some ⟨p, 0, none⟩))), (64, SP.is (.pointer (some ⟨p, 0, none⟩))), (65, SP.is (.pointer (some ⟨p, 2, none⟩))), (66, SP.is (.int .i64 st1.given)), (67, SP.is (.agg c.cells.toArray)), (68, SP.is (.agg (vB ad).toArray)), (69, SP.is (.int .i64 now)), (70, SP.is (.int .i64 now)), (71, SP.is (.pointer (some ⟨p, 0, none⟩))), (72, SP.is (.pointer (some ⟨p, 0, none⟩))), (73, SP.is (.pointer (some ⟨p, 0, none⟩))), (74, SP.is (.int .i64 st1.win)), (75, SP.is (.int .i64 dl)), (76, SP.is (.agg R8.toArray)), (77, SP.any), (78, SP.any), (79, SP.is (.pointer (some ⟨p, 0, none⟩))), (80, SP.is (.pointer (some ⟨p, 69, none⟩))), (1000, SP.any)] := ⟨_, rfl⟩
      refine wp_region_then (by kernel_rfl) 20 (by decide) (by kernel_rfl) (fun listed ac W => Fp D a0 listed ac W ∧ Below V8.heap.size V8 W ∧ Row W bC c.cells tC ∧ Row W bA ((vB ad)) tAd ∧ Ld W p (.slice Av n cv) (B + 1) st1 ∧ Gro (Tb p (.slice Av n cv)) w W ∧ (listed.getD 19 false = true → (SP.nwL R8).P W (ac.eval (.tmp 77)))) (fun listed ac W => ∃ A7 c7, Fp D a0 listed ac W ∧ ac.eval (.tmp 78) = .slice A7 (n + 1) c7 ∧ Row W p (st1.cells (if listed.getD 23 false = true then .slice A7 (n + 1) c7 else .slice Av n cv)) tL ∧ Lo W tP 90 (.slice A7 (n + 1) c7) (n + 1) (pcs st1.pend ++ R8) ∧ Gro (Tb p (.slice Av n cv)) w W ∧ Nv w (.slice Av n cv) (.slice A7 (n + 1) c7)) ?_ ?_ ?_ ?_ ?_
      · exact ⟨Fp.start D a0 _ _, Below.drew hb1, Row.drew rC, Row.drew rA, hLd.below (Below.drew (Below.refl _ _)), hFr.below (Below.drew (Below.refl _ _)), (fun h => (start_no h).elim)⟩
      · clear ha0 hb1 rC rA hLd hFr
        intro listed ac W k hl hI hdn hk hne hnl
        replace hl : listed.size = 24 := hl
        obtain ⟨hF, hb1, rC, rA, hLd, hFr, ti19⟩ := hI
        have hk1 : k < 24 := List.mem_range.1 (List.mem_filter.1 hk).1
        rcases (show k = 0 ∨ k = 1 ∨ k = 2 ∨ k = 3 ∨ k = 4 ∨ k = 5 ∨ k = 6 ∨ k = 7 ∨ k = 8 ∨ k = 9 ∨ k = 10 ∨ k = 11 ∨ k = 12 ∨ k = 13 ∨ k = 14 ∨ k = 15 ∨ k = 16 ∨ k = 17 ∨ k = 18 ∨ k = 19 ∨ k = 20 ∨ k = 21 ∨ k = 22 ∨ k = 23 by omega) with rfl | rfl | rfl | rfl | rfl | rfl | rfl | rfl | rfl | rfl | rfl | rfl | rfl | rfl | rfl | rfl | rfl | rfl | rfl | rfl | rfl | rfl | rfl | rfl
        · have hk3 := hk
          exact wpOp_plain rfl rfl (wp_move_v (ac.eval (.tmp 0)) rfl rfl ⟨(hF.put 0 58 (SP.is (.pointer (some ⟨p, 0, none⟩))) (ac.eval (.tmp 0)) (by rw [hD]; rfl) (((hF.keep 0 (by rw [hD]; rfl)).trans zs0)) (by rw [hD]; rfl) (by rw [hsz]; decide) (by rw [hl]; decide)), hb1, rC, rA, hLd, hFr, (fun h1 => by change (SP.nwL R8).P _ ((ac.put (some 58) _).eval (.tmp 77)); rw [eval_put_other ac _ (by decide)]; exact ti19 (by rwa [getD_set _ _ _ (by decide)] at h1))⟩)
        · have hk3 := hk
          exact wpOp_plain rfl rfl (wp_move_v (ac.eval (.tmp 0)) rfl rfl ⟨(hF.put 1 59 (SP.is (.pointer (some ⟨p, 0, none⟩))) (ac.eval (.tmp 0)) (by rw [hD]; rfl) (((hF.keep 0 (by rw [hD]; rfl)).trans zs0)) (by rw [hD]; rfl) (by rw [hsz]; decide) (by rw [hl]; decide)), hb1, rC, rA, hLd, hFr, (fun h1 => by change (SP.nwL R8).P _ ((ac.put (some 59) _).eval (.tmp 77)); rw [eval_put_other ac _ (by decide)]; exact ti19 (by rwa [getD_set _ _ _ (by decide)] at h1))⟩)
        · have hk3 := hk
          have e0 := (hF.done 1 (59, SP.is (.pointer (some ⟨p, 0, none⟩))) (by rw [hD]; rfl) (ready_dep hk 1 (by kernel_rfl)))
          exact wpOp_plain rfl rfl (wp_nilL rfl p e0 ⟨(hF.put 2 60 (SP.is (.pointer (some ⟨p, 0, none⟩))) (.pointer (some ⟨p, 0, none⟩)) (by rw [hD]; rfl) rfl (by rw [hD]; rfl) (by rw [hsz]; decide) (by rw [hl]; decide)), hb1, rC, rA, hLd, hFr, (fun h1 => by change (SP.nwL R8).P _ ((ac.put (some 60) _).eval (.tmp 77)); rw [eval_put_other ac _ (by decide)]; exact ti19 (by rwa [getD_set _ _ _ (by decide)] at h1))⟩)
        · have hk3 := hk
          have e0 := (hF.done 2 (60, SP.is (.pointer (some ⟨p, 0, none⟩))) (by rw [hD]; rfl) (ready_dep hk 2 (by kernel_rfl)))
          exact wpOp_plain rfl rfl (wp_fL4 rfl p e0 ⟨(hF.put 3 61 (SP.is (.pointer (some ⟨p, 69, none⟩))) (.pointer (some ⟨p, 69, none⟩)) (by rw [hD]; rfl) rfl (by rw [hD]; rfl) (by rw [hsz]; decide) (by rw [hl]; decide)), hb1, rC, rA, hLd, hFr, (fun h1 => by change (SP.nwL R8).P _ ((ac.put (some 61) _).eval (.tmp 77)); rw [eval_put_other ac _ (by decide)]; exact ti19 (by rwa [getD_set _ _ _ (by decide)] at h1))⟩)
        · have hk3 := hk
          have e0 := (hF.done 3 (61, SP.is (.pointer (some ⟨p, 69, none⟩))) (by rw [hD]; rfl) (ready_dep hk 3 (by kernel_rfl)))
          exact wpOp_plain rfl rfl (wp_ld1 p 69 (.slice Av n cv) rfl e0 (ld_Ps W p 69 _ hLd.c69) ⟨(hF.put 4 62 (SP.is (.slice Av n cv)) (.slice Av n cv) (by rw [hD]; rfl) rfl (by rw [hD]; rfl) (by rw [hsz]; decide) (by rw [hl]; decide)), hb1, rC, rA, hLd, hFr, (fun h1 => by change (SP.nwL R8).P _ ((ac.put (some 62) _).eval (.tmp 77)); rw [eval_put_other ac _ (by decide)]; exact ti19 (by rwa [getD_set _ _ _ (by decide)] at h1))⟩)
        · have hk3 := hk
          exact wpOp_plain rfl rfl (wp_move_v (ac.eval (.tmp 0)) rfl rfl ⟨(hF.put 5 63 (SP.is (.pointer (some ⟨p, 0, none⟩))) (ac.eval (.tmp 0)) (by rw [hD]; rfl) (((hF.keep 0 (by rw [hD]; rfl)).trans zs0)) (by rw [hD]; rfl) (by rw [hsz]; decide) (by rw [hl]; decide)), hb1, rC, rA, hLd, hFr, (fun h1 => by change (SP.nwL R8).P _ ((ac.put (some 63) _).eval (.tmp 77)); rw [eval_put_other ac _ (by decide)]; exact ti19 (by rwa [getD_set _ _ _ (by decide)] at h1))⟩)
        · have hk3 := hk
          have e0 := (hF.done 5 (63, SP.is (.pointer (some ⟨p, 0, none⟩))) (by rw [hD]; rfl) (ready_dep hk 5 (by kernel_rfl)))
          exact wpOp_plain rfl rfl (wp_nilL rfl p e0 ⟨(hF.put 6 64 (SP.is (.pointer (some ⟨p, 0, none⟩))) (.pointer (some ⟨p, 0, none⟩)) (by rw [hD]; rfl) rfl (by rw [hD]; rfl) (by rw [hsz]; decide) (by rw [hl]; decide)), hb1, rC, rA, hLd, hFr, (fun h1 => by change (SP.nwL R8).P _ ((ac.put (some 64) _).eval (.tmp 77)); rw [eval_put_other ac _ (by decide)]; exact ti19 (by rwa [getD_set _ _ _ (by decide)] at h1))⟩)
        · have hk3 := hk
          have e0 := (hF.done 6 (64, SP.is (.pointer (some ⟨p, 0, none⟩))) (by rw [hD]; rfl) (ready_dep hk 6 (by kernel_rfl)))
          exact wpOp_plain rfl rfl (wp_fL2 rfl p e0 ⟨(hF.put 7 65 (SP.is (.pointer (some ⟨p, 2, none⟩))) (.pointer (some ⟨p, 2, none⟩)) (by rw [hD]; rfl) rfl (by rw [hD]; rfl) (by rw [hsz]; decide) (by rw [hl]; decide)), hb1, rC, rA, hLd, hFr, (fun h1 => by change (SP.nwL R8).P _ ((ac.put (some 65) _).eval (.tmp 77)); rw [eval_put_other ac _ (by decide)]; exact ti19 (by rwa [getD_set _ _ _ (by decide)] at h1))⟩)
        · have hk3 := hk
          have e0 := (hF.done 7 (65, SP.is (.pointer (some ⟨p, 2, none⟩))) (by rw [hD]; rfl) (ready_dep hk 7 (by kernel_rfl)))
          exact wpOp_plain rfl rfl (wp_ld1 p 2 (.int .i64 st1.given) rfl e0 (ld_int W p 2 _ hLd.c2) ⟨(hF.put 8 66 (SP.is (.int .i64 st1.given)) (.int .i64 st1.given) (by rw [hD]; rfl) rfl (by rw [hD]; rfl) (by rw [hsz]; decide) (by rw [hl]; decide)), hb1, rC, rA, hLd, hFr, (fun h1 => by change (SP.nwL R8).P _ ((ac.put (some 66) _).eval (.tmp 77)); rw [eval_put_other ac _ (by decide)]; exact ti19 (by rwa [getD_set _ _ _ (by decide)] at h1))⟩)
        · have hk3 := hk
          have e0 := ((hF.keep 6 (by rw [hD]; rfl)).trans zs6)
          exact wpOp_plain rfl rfl (wp_load_mid tC (.tmp 6) rfl bC 0 e0 c.cells _ rC.all Try.underlying25 rfl HIC2.out ⟨(hF.put 9 67 (SP.is (.agg c.cells.toArray)) (.agg c.cells.toArray) (by rw [hD]; rfl) rfl (by rw [hD]; rfl) (by rw [hsz]; decide) (by rw [hl]; decide)), hb1, rC, rA, hLd, hFr, (fun h1 => by change (SP.nwL R8).P _ ((ac.put (some 67) _).eval (.tmp 77)); rw [eval_put_other ac _ (by decide)]; exact ti19 (by rwa [getD_set _ _ _ (by decide)] at h1))⟩)
        · have hk3 := hk
          have e0 := ((hF.keep 7 (by rw [hD]; rfl)).trans zs7)
          exact wpOp_plain rfl rfl (wp_load_mid tAd (.tmp 7) rfl bA 0 e0 (vB ad) _ rA.all Try.underlying51 rfl HIA.out ⟨(hF.put 10 68 (SP.is (.agg (vB ad).toArray)) (.agg (vB ad).toArray) (by rw [hD]; rfl) rfl (by rw [hD]; rfl) (by rw [hsz]; decide) (by rw [hl]; decide)), hb1, rC, rA, hLd, hFr, (fun h1 => by change (SP.nwL R8).P _ ((ac.put (some 68) _).eval (.tmp 77)); rw [eval_put_other ac _ (by decide)]; exact ti19 (by rwa [getD_set _ _ _ (by decide)] at h1))⟩)
        · have hk3 := hk
          exact wpOp_plain rfl rfl (wp_move_v (ac.eval (.tmp 4)) rfl rfl ⟨(hF.put 11 69 (SP.is (.int .i64 now)) (ac.eval (.tmp 4)) (by rw [hD]; rfl) (((hF.keep 4 (by rw [hD]; rfl)).trans zs4)) (by rw [hD]; rfl) (by rw [hsz]; decide) (by rw [hl]; decide)), hb1, rC, rA, hLd, hFr, (fun h1 => by change (SP.nwL R8).P _ ((ac.put (some 69) _).eval (.tmp 77)); rw [eval_put_other ac _ (by decide)]; exact ti19 (by rwa [getD_set _ _ _ (by decide)] at h1))⟩)
        · have hk3 := hk
          exact wpOp_plain rfl rfl (wp_move_v (ac.eval (.tmp 4)) rfl rfl ⟨(hF.put 12 70 (SP.is (.int .i64 now)) (ac.eval (.tmp 4)) (by rw [hD]; rfl) (((hF.keep 4 (by rw [hD]; rfl)).trans zs4)) (by rw [hD]; rfl) (by rw [hsz]; decide) (by rw [hl]; decide)), hb1, rC, rA, hLd, hFr, (fun h1 => by change (SP.nwL R8).P _ ((ac.put (some 70) _).eval (.tmp 77)); rw [eval_put_other ac _ (by decide)]; exact ti19 (by rwa [getD_set _ _ _ (by decide)] at h1))⟩)
        · have hk3 := hk
          exact wpOp_plain rfl rfl (wp_move_v (ac.eval (.tmp 0)) rfl rfl ⟨(hF.put 13 71 (SP.is (.pointer (some ⟨p, 0, none⟩))) (ac.eval (.tmp 0)) (by rw [hD]; rfl) (((hF.keep 0 (by rw [hD]; rfl)).trans zs0)) (by rw [hD]; rfl) (by rw [hsz]; decide) (by rw [hl]; decide)), hb1, rC, rA, hLd, hFr, (fun h1 => by change (SP.nwL R8).P _ ((ac.put (some 71) _).eval (.tmp 77)); rw [eval_put_other ac _ (by decide)]; exact ti19 (by rwa [getD_set _ _ _ (by decide)] at h1))⟩)
        · have hk3 := hk
          have e0 := (hF.done 13 (71, SP.is (.pointer (some ⟨p, 0, none⟩))) (by rw [hD]; rfl) (ready_dep hk 13 (by kernel_rfl)))
          exact wpOp_plain rfl rfl (wp_nilL rfl p e0 ⟨(hF.put 14 72 (SP.is (.pointer (some ⟨p, 0, none⟩))) (.pointer (some ⟨p, 0, none⟩)) (by rw [hD]; rfl) rfl (by rw [hD]; rfl) (by rw [hsz]; decide) (by rw [hl]; decide)), hb1, rC, rA, hLd, hFr, (fun h1 => by change (SP.nwL R8).P _ ((ac.put (some 72) _).eval (.tmp 77)); rw [eval_put_other ac _ (by decide)]; exact ti19 (by rwa [getD_set _ _ _ (by decide)] at h1))⟩)
        · have hk3 := hk
          have e0 := (hF.done 14 (72, SP.is (.pointer (some ⟨p, 0, none⟩))) (by rw [hD]; rfl) (ready_dep hk 14 (by kernel_rfl)))
          exact wpOp_plain rfl rfl (wp_fL0 rfl p e0 ⟨(hF.put 15 73 (SP.is (.pointer (some ⟨p, 0, none⟩))) (.pointer (some ⟨p, 0, none⟩)) (by rw [hD]; rfl) rfl (by rw [hD]; rfl) (by rw [hsz]; decide) (by rw [hl]; decide)), hb1, rC, rA, hLd, hFr, (fun h1 => by change (SP.nwL R8).P _ ((ac.put (some 73) _).eval (.tmp 77)); rw [eval_put_other ac _ (by decide)]; exact ti19 (by rwa [getD_set _ _ _ (by decide)] at h1))⟩)
        · have hk3 := hk
          have e0 := (hF.done 15 (73, SP.is (.pointer (some ⟨p, 0, none⟩))) (by rw [hD]; rfl) (ready_dep hk 15 (by kernel_rfl)))
          exact wpOp_plain rfl rfl (wp_ld1 p 0 (.int .i64 st1.win) rfl e0 (ld_int W p 0 _ hLd.c0) ⟨(hF.put 16 74 (SP.is (.int .i64 st1.win)) (.int .i64 st1.win) (by rw [hD]; rfl) rfl (by rw [hD]; rfl) (by rw [hsz]; decide) (by rw [hl]; decide)), hb1, rC, rA, hLd, hFr, (fun h1 => by change (SP.nwL R8).P _ ((ac.put (some 74) _).eval (.tmp 77)); rw [eval_put_other ac _ (by decide)]; exact ti19 (by rwa [getD_set _ _ _ (by decide)] at h1))⟩)
        · have hk3 := hk
          have e0 := (hF.done 12 (70, SP.is (.int .i64 now)) (by rw [hD]; rfl) (ready_dep hk 12 (by kernel_rfl)))
          have e1 := (hF.done 16 (74, SP.is (.int .i64 st1.win)) (by rw [hD]; rfl) (ready_dep hk 16 (by kernel_rfl)))
          exact wpOp_plain rfl rfl (wp_addI rfl rfl now st1.win dl e0 e1 HSUM.out ⟨(hF.put 17 75 (SP.is (.int .i64 dl)) (.int .i64 dl) (by rw [hD]; rfl) rfl (by rw [hD]; rfl) (by rw [hsz]; decide) (by rw [hl]; decide)), hb1, rC, rA, hLd, hFr, (fun h1 => by change (SP.nwL R8).P _ ((ac.put (some 75) _).eval (.tmp 77)); rw [eval_put_other ac _ (by decide)]; exact ti19 (by rwa [getD_set _ _ _ (by decide)] at h1))⟩)
        · have hk3 := hk
          have e66 := (hF.done 8 (66, SP.is (.int .i64 st1.given)) (by rw [hD]; rfl) (ready_dep hk 8 (by kernel_rfl)))
          have e67 := (hF.done 9 (67, SP.is (.agg c.cells.toArray)) (by rw [hD]; rfl) (ready_dep hk 9 (by kernel_rfl)))
          have e68 := (hF.done 10 (68, SP.is (.agg (vB ad).toArray)) (by rw [hD]; rfl) (ready_dep hk 10 (by kernel_rfl)))
          have e69 := (hF.done 11 (69, SP.is (.int .i64 now)) (by rw [hD]; rfl) (ready_dep hk 11 (by kernel_rfl)))
          have e75 := (hF.done 17 (75, SP.is (.int .i64 dl)) (by rw [hD]; rfl) (ready_dep hk 17 (by kernel_rfl)))
          exact wpOp_plain rfl rfl (wp_blt tP _ rfl [(0, .int .i64 st1.given), (1, .agg c.cells.toArray), (2, .agg (vB ad).toArray), (3, .int .i64 now), (4, .int .i64 dl)] (by show [(0, ac.eval (.tmp 66)), (1, ac.eval (.tmp 67)), (2, ac.eval (.tmp 68)), (3, ac.eval (.tmp 69)), (4, ac.eval (.tmp 75))] = _; rw [show ac.eval (.tmp 66) = _ from e66, show ac.eval (.tmp 67) = _ from e67, show ac.eval (.tmp 68) = _ from e68, show ac.eval (.tmp 69) = _ from e69, show ac.eval (.tmp 75) = _ from e75]) R8 HBL.out ⟨(hF.put 18 76 (SP.is (.agg R8.toArray)) (.agg R8.toArray) (by rw [hD]; rfl) rfl (by rw [hD]; rfl) (by rw [hsz]; decide) (by rw [hl]; decide)), hb1, rC, rA, hLd, hFr, (fun h1 => by change (SP.nwL R8).P _ ((ac.put (some 76) _).eval (.tmp 77)); rw [eval_put_other ac _ (by decide)]; exact ti19 (by rwa [getD_set _ _ _ (by decide)] at h1))⟩)
        · have hk3 := hk
          have e0 := (hF.done 18 (76, SP.is (.agg R8.toArray)) (by rw [hD]; rfl) (ready_dep hk 18 (by kernel_rfl)))
          refine wpOp_plain rfl rfl (wp_bPn (.tmp 76) rfl R8 HL8.out e0 ?_)
          intro W2 q hB
          exact ⟨((hF.world hB).put 19 77 (SP.any) (.slice (some ⟨W.heap.size, 0, none⟩) 1 1) (by rw [hD]; rfl) trivial (by rw [hD]; rfl) (by rw [hsz]; decide) (by rw [hl]; decide)), hb1.trans (hB.mono hb1.size), Row.below rC hB (Row.lt rC), Row.below rA hB (Row.lt rA), hLd.below hB, hFr.below hB, (fun _ => by change (SP.nwL R8).P _ ((ac.put (some 77) _).eval (.tmp 77)); rw [eval_put_same ac _ (by rw [hF.size, hsz]; decide)]; exact ⟨_, rfl, q⟩)⟩
        · exact absurd rfl hne
        · have hk3 := hk
          have e0 := (hF.done 0 (58, SP.is (.pointer (some ⟨p, 0, none⟩))) (by rw [hD]; rfl) (ready_dep hk 0 (by kernel_rfl)))
          exact wpOp_plain rfl rfl (wp_nilL rfl p e0 ⟨(hF.put 21 79 (SP.is (.pointer (some ⟨p, 0, none⟩))) (.pointer (some ⟨p, 0, none⟩)) (by rw [hD]; rfl) rfl (by rw [hD]; rfl) (by rw [hsz]; decide) (by rw [hl]; decide)), hb1, rC, rA, hLd, hFr, (fun h1 => by change (SP.nwL R8).P _ ((ac.put (some 79) _).eval (.tmp 77)); rw [eval_put_other ac _ (by decide)]; exact ti19 (by rwa [getD_set _ _ _ (by decide)] at h1))⟩)
        · have hk3 := hk
          have e0 := (hF.done 21 (79, SP.is (.pointer (some ⟨p, 0, none⟩))) (by rw [hD]; rfl) (ready_dep hk 21 (by kernel_rfl)))
          exact wpOp_plain rfl rfl (wp_fL4 rfl p e0 ⟨(hF.put 22 80 (SP.is (.pointer (some ⟨p, 69, none⟩))) (.pointer (some ⟨p, 69, none⟩)) (by rw [hD]; rfl) rfl (by rw [hD]; rfl) (by rw [hsz]; decide) (by rw [hl]; decide)), hb1, rC, rA, hLd, hFr, (fun h1 => by change (SP.nwL R8).P _ ((ac.put (some 80) _).eval (.tmp 77)); rw [eval_put_other ac _ (by decide)]; exact ti19 (by rwa [getD_set _ _ _ (by decide)] at h1))⟩)
        · exact absurd (ready_dep hk 20 (by kernel_rfl)) hnl
      · clear ha0 hb1 rC rA hLd hFr
        intro listed ac W hl hI hdn hk
        replace hl : listed.size = 24 := hl
        obtain ⟨hF, hb1, rC, rA, hLd, hFr, ti19⟩ := hI
        have e62 := (hF.done 4 (62, SP.is (.slice Av n cv)) (by rw [hD]; rfl) (ready_dep hk 4 (by kernel_rfl)))
        obtain ⟨M, e77, q1⟩ := (ti19 (ready_dep hk 19 (by kernel_rfl)))
        have hno23 : ¬ listed.getD 23 false = true := fun h => not_yet hk (hdn 23 h 20 (by kernel_rfl))
        refine wpOp_plain rfl rfl (wp_appLo tPs tP 90 136 Try.underlying42 info_PO (by decide) (by decide) (.tmp 62) (.tmp 77) rfl (.slice Av n cv) n (pcs st1.pend) R8 e62 (HOWN.out W hLd) M HL8.out e77 q1.all HO8.out HNM.out ?_)
        intro v5 W2 p1 p2 p3
        obtain ⟨A7, c7, e7, _, _⟩ := Lo.form p1
        subst e7
        have hT : Fp D a0 listed ac W2 := hF.turn (by rw [hD]; simp only [List.forall_mem_cons, List.not_mem_nil, false_implies, implies_true, and_true]; exact ⟨fun _ h => h, fun _ h => h, fun _ h => h, fun _ h => h, fun _ h => h, fun _ h => h, fun _ h => h, fun _ h => h, fun _ h => h, fun _ h => h, fun _ h => h, fun _ h => h, fun _ h => h, fun _ h => h, fun _ h => h, fun _ h => h, fun _ h => h, fun _ h => h, fun _ h => h, fun _ h => h, fun _ h => h, fun _ h => h, fun _ h => h, fun _ h => h⟩)
        exact ⟨A7, c7, (hT.put 20 78 SP.any _ (by rw [hD]; rfl) trivial (by rw [hD]; rfl) (by rw [hsz]; decide) (by rw [hl]; decide)), (eval_put_same ac _ (by rw [hF.size, hsz]; decide)), (by rw [getD_set _ _ _ (by decide), if_neg hno23]; exact row_gb hLd.row p2 (some_ne (Lo.ne (HOWN.out W hLd) hLd.row (by decide)))), p1, (hFr.grown p2 (fun g eg => .inl (.inr eg))), (p3.imp id (fun q g eg => Nat.le_trans hFr.size (q g eg)))⟩
      · clear ha0 hb1 rC rA hLd hFr
        intro listed ac W k hl hJ hdn hk hne hyl
        replace hl : listed.size = 24 := hl
        obtain ⟨A7, c7, hF, hJ1, hJ2, hJ3, hJ4, hJ5⟩ := hJ
        have hk1 : k < 24 := List.mem_range.1 (List.mem_filter.1 hk).1
        rcases (show k = 0 ∨ k = 1 ∨ k = 2 ∨ k = 3 ∨ k = 4 ∨ k = 5 ∨ k = 6 ∨ k = 7 ∨ k = 8 ∨ k = 9 ∨ k = 10 ∨ k = 11 ∨ k = 12 ∨ k = 13 ∨ k = 14 ∨ k = 15 ∨ k = 16 ∨ k = 17 ∨ k = 18 ∨ k = 19 ∨ k = 20 ∨ k = 21 ∨ k = 22 ∨ k = 23 by omega) with rfl | rfl | rfl | rfl | rfl | rfl | rfl | rfl | rfl | rfl | rfl | rfl | rfl | rfl | rfl | rfl | rfl | rfl | rfl | rfl | rfl | rfl | rfl | rfl
        · have hk3 := hk
          exact wpOp_plain rfl rfl (wp_move_v (ac.eval (.tmp 0)) rfl rfl ⟨A7, c7, (hF.put 0 58 (SP.is (.pointer (some ⟨p, 0, none⟩))) (ac.eval (.tmp 0)) (by rw [hD]; rfl) (((hF.keep 0 (by rw [hD]; rfl)).trans zs0)) (by rw [hD]; rfl) (by rw [hsz]; decide) (by rw [hl]; decide)), (eval_put_other ac _ (by decide)).trans (hJ1), (by rw [getD_set _ _ _ (by decide)]; exact hJ2), hJ3, hJ4, hJ5⟩)
        · exact absurd (hdn 2 (hdn 3 (hdn 4 (hdn 20 hyl 4 (by kernel_rfl)) 3 (by kernel_rfl)) 2 (by kernel_rfl)) 1 (by kernel_rfl)) (not_yet hk)
        · exact absurd (hdn 3 (hdn 4 (hdn 20 hyl 4 (by kernel_rfl)) 3 (by kernel_rfl)) 2 (by kernel_rfl)) (not_yet hk)
        · exact absurd (hdn 4 (hdn 20 hyl 4 (by kernel_rfl)) 3 (by kernel_rfl)) (not_yet hk)
        · exact absurd (hdn 20 hyl 4 (by kernel_rfl)) (not_yet hk)
        · exact absurd (hdn 6 (hdn 7 (hdn 8 (hdn 18 (hdn 19 (hdn 20 hyl 19 (by kernel_rfl)) 18 (by kernel_rfl)) 8 (by kernel_rfl)) 7 (by kernel_rfl)) 6 (by kernel_rfl)) 5 (by kernel_rfl)) (not_yet hk)
        · exact absurd (hdn 7 (hdn 8 (hdn 18 (hdn 19 (hdn 20 hyl 19 (by kernel_rfl)) 18 (by kernel_rfl)) 8 (by kernel_rfl)) 7 (by kernel_rfl)) 6 (by kernel_rfl)) (not_yet hk)
        · exact absurd (hdn 8 (hdn 18 (hdn 19 (hdn 20 hyl 19 (by kernel_rfl)) 18 (by kernel_rfl)) 8 (by kernel_rfl)) 7 (by kernel_rfl)) (not_yet hk)
        · exact absurd (hdn 18 (hdn 19 (hdn 20 hyl 19 (by kernel_rfl)) 18 (by kernel_rfl)) 8 (by kernel_rfl)) (not_yet hk)
        · exact absurd (hdn 18 (hdn 19 (hdn 20 hyl 19 (by kernel_rfl)) 18 (by kernel_rfl)) 9 (by kernel_rfl)) (not_yet hk)
        · exact absurd (hdn 18 (hdn 19 (hdn 20 hyl 19 (by kernel_rfl)) 18 (by kernel_rfl)) 10 (by kernel_rfl)) (not_yet hk)
        · exact absurd (hdn 18 (hdn 19 (hdn 20 hyl 19 (by kernel_rfl)) 18 (by kernel_rfl)) 11 (by kernel_rfl)) (not_yet hk)
        · exact absurd (hdn 17 (hdn 18 (hdn 19 (hdn 20 hyl 19 (by kernel_rfl)) 18 (by kernel_rfl)) 17 (by kernel_rfl)) 12 (by kernel_rfl)) (not_yet hk)
        · exact absurd (hdn 14 (hdn 15 (hdn 16 (hdn 17 (hdn 18 (hdn 19 (hdn 20 hyl 19 (by kernel_rfl)) 18 (by kernel_rfl)) 17 (by kernel_rfl)) 16 (by kernel_rfl)) 15 (by kernel_rfl)) 14 (by kernel_rfl)) 13 (by kernel_rfl)) (not_yet hk)
        · exact absurd (hdn 15 (hdn 16 (hdn 17 (hdn 18 (hdn 19 (hdn 20 hyl 19 (by kernel_rfl)) 18 (by kernel_rfl)) 17 (by kernel_rfl)) 16 (by kernel_rfl)) 15 (by kernel_rfl)) 14 (by kernel_rfl)) (not_yet hk)
        · exact absurd (hdn 16 (hdn 17 (hdn 18 (hdn 19 (hdn 20 hyl 19 (by kernel_rfl)) 18 (by kernel_rfl)) 17 (by kernel_rfl)) 16 (by kernel_rfl)) 15 (by kernel_rfl)) (not_yet hk)
        · exact absurd (hdn 17 (hdn 18 (hdn 19 (hdn 20 hyl 19 (by kernel_rfl)) 18 (by kernel_rfl)) 17 (by kernel_rfl)) 16 (by kernel_rfl)) (not_yet hk)
        · exact absurd (hdn 18 (hdn 19 (hdn 20 hyl 19 (by kernel_rfl)) 18 (by kernel_rfl)) 17 (by kernel_rfl)) (not_yet hk)
        · exact absurd (hdn 19 (hdn 20 hyl 19 (by kernel_rfl)) 18 (by kernel_rfl)) (not_yet hk)
        · exact absurd (hdn 20 hyl 19 (by kernel_rfl)) (not_yet hk)
        · exact absurd rfl hne
        · have hk3 := hk
          have e0 := (hF.done 0 (58, SP.is (.pointer (some ⟨p, 0, none⟩))) (by rw [hD]; rfl) (ready_dep hk 0 (by kernel_rfl)))
          exact wpOp_plain rfl rfl (wp_nilL rfl p e0 ⟨A7, c7, (hF.put 21 79 (SP.is (.pointer (some ⟨p, 0, none⟩))) (.pointer (some ⟨p, 0, none⟩)) (by rw [hD]; rfl) rfl (by rw [hD]; rfl) (by rw [hsz]; decide) (by rw [hl]; decide)), (eval_put_other ac _ (by decide)).trans (hJ1), (by rw [getD_set _ _ _ (by decide)]; exact hJ2), hJ3, hJ4, hJ5⟩)
        · have hk3 := hk
          have e0 := (hF.done 21 (79, SP.is (.pointer (some ⟨p, 0, none⟩))) (by rw [hD]; rfl) (ready_dep hk 21 (by kernel_rfl)))
          exact wpOp_plain rfl rfl (wp_fL4 rfl p e0 ⟨A7, c7, (hF.put 22 80 (SP.is (.pointer (some ⟨p, 69, none⟩))) (.pointer (some ⟨p, 69, none⟩)) (by rw [hD]; rfl) rfl (by rw [hD]; rfl) (by rw [hsz]; decide) (by rw [hl]; decide)), (eval_put_other ac _ (by decide)).trans (hJ1), (by rw [getD_set _ _ _ (by decide)]; exact hJ2), hJ3, hJ4, hJ5⟩)
        · have hk3 := hk
          have e80 := (hF.done 22 (80, SP.is (.pointer (some ⟨p, 69, none⟩))) (by rw [hD]; rfl) (ready_dep hk 22 (by kernel_rfl)))
          rw [if_neg (not_yet hk)] at hJ2
          refine wpOp_plain rfl rfl (wp_set1L tPs (.tmp 80) (.tmp 78) rfl p 69 (.slice A7 (n + 1) c7) (st1.cells (.slice Av n cv)) tL e80 hJ1 rfl hJ2 (by rw [La.len HOK1.out]; decide) info_Ps rfl ?_)
          intro W2 p1 p2
          have hT : Fp D a0 listed ac W2 := hF.turn (by rw [hD]; simp only [List.forall_mem_cons, List.not_mem_nil, false_implies, implies_true, and_true]; exact ⟨fun _ h => h, fun _ h => h, fun _ h => h, fun _ h => h, fun _ h => h, fun _ h => h, fun _ h => h, fun _ h => h, fun _ h => h, fun _ h => h, fun _ h => h, fun _ h => h, fun _ h => h, fun _ h => h, fun _ h => h, fun _ h => h, fun _ h => h, fun _ h => h, fun _ h => h, fun _ h => h, fun _ h => h, fun _ h => h, fun _ h => h, fun _ h => h⟩)
          exact ⟨A7, c7, (hT.skip 23 1000 (by rw [hD]; rfl) (by rw [hl]; decide)), hJ1, (by rw [if_pos (getD_same (by rw [hl]; decide))]; rw [La.set_v HOK1.out] at p1; exact p1), (hJ3.gro p2 (fun g eg q => hJ3.ne hJ2 (by decide) g eg q)), (Gro.trans hJ4 (Gro.mono p2 (fun g q => .inl q))), hJ5⟩
      · clear hb1 rC rA hLd hFr
        intro listed ac W hl hJ hr
        replace hl : listed.size = 24 := hl
        obtain ⟨A7, c7, hF, hJ1, hJ2, hJ3, hJ4, hJ5⟩ := hJ
        have hall := all_listed (by kernel_rfl) hl hr
        rw [if_pos (hall 23 (by decide))] at hJ2
        have h58 : ac.eval (.tmp 58) = .pointer (some ⟨p, 0, none⟩) := hF.done 0 (58, SP.is (.pointer (some ⟨p, 0, none⟩))) (by rw [hD]; rfl) (hall 0 (by decide))
        have h59 : ac.eval (.tmp 59) = .pointer (some ⟨p, 0, none⟩) := hF.done 1 (59, SP.is (.pointer (some ⟨p, 0, none⟩))) (by rw [hD]; rfl) (hall 1 (by decide))
        have h60 : ac.eval (.tmp 60) = .pointer (some ⟨p, 0, none⟩) := hF.done 2 (60, SP.is (.pointer (some ⟨p, 0, none⟩))) (by rw [hD]; rfl) (hall 2 (by decide))
        have h61 : ac.eval (.tmp 61) = .pointer (some ⟨p, 69, none⟩) := hF.done 3 (61, SP.is (.pointer (some ⟨p, 69, none⟩))) (by rw [hD]; rfl) (hall 3 (by decide))
        have h62 : ac.eval (.tmp 62) = .slice Av n cv := hF.done 4 (62, SP.is (.slice Av n cv)) (by rw [hD]; rfl) (hall 4 (by decide))
        have h63 : ac.eval (.tmp 63) = .pointer (some ⟨p, 0, none⟩) := hF.done 5 (63, SP.is (.pointer (some ⟨p, 0, none⟩))) (by rw [hD]; rfl) (hall 5 (by decide))
        have h64 : ac.eval (.tmp 64) = .pointer (some ⟨p, 0, none⟩) := hF.done 6 (64, SP.is (.pointer (some ⟨p, 0, none⟩))) (by rw [hD]; rfl) (hall 6 (by decide))
        have h65 : ac.eval (.tmp 65) = .pointer (some ⟨p, 2, none⟩) := hF.done 7 (65, SP.is (.pointer (some ⟨p, 2, none⟩))) (by rw [hD]; rfl) (hall 7 (by decide))
        have h66 : ac.eval (.tmp 66) = .int .i64 st1.given := hF.done 8 (66, SP.is (.int .i64 st1.given)) (by rw [hD]; rfl) (hall 8 (by decide))
        have h67 : ac.eval (.tmp 67) = .agg c.cells.toArray := hF.done 9 (67, SP.is (.agg c.cells.toArray)) (by rw [hD]; rfl) (hall 9 (by decide))
        have h68 : ac.eval (.tmp 68) = .agg (vB ad).toArray := hF.done 10 (68, SP.is (.agg (vB ad).toArray)) (by rw [hD]; rfl) (hall 10 (by decide))
        have h69 : ac.eval (.tmp 69) = .int .i64 now := hF.done 11 (69, SP.is (.int .i64 now)) (by rw [hD]; rfl) (hall 11 (by decide))
        have h70 : ac.eval (.tmp 70) = .int .i64 now := hF.done 12 (70, SP.is (.int .i64 now)) (by rw [hD]; rfl) (hall 12 (by decide))
        have h71 : ac.eval (.tmp 71) = .pointer (some ⟨p, 0, none⟩) := hF.done 13 (71, SP.is (.pointer (some ⟨p, 0, none⟩))) (by rw [hD]; rfl) (hall 13 (by decide))
        have h72 : ac.eval (.tmp 72) = .pointer (some ⟨p, 0, none⟩) := hF.done 14 (72, SP.is (.pointer (some ⟨p, 0, none⟩))) (by rw [hD]; rfl) (hall 14 (by decide))
        have h73 : ac.eval (.tmp 73) = .pointer (some ⟨p, 0, none⟩) := hF.done 15 (73, SP.is (.pointer (some ⟨p, 0, none⟩))) (by rw [hD]; rfl) (hall 15 (by decide))
        have h74 : ac.eval (.tmp 74) = .int .i64 st1.win := hF.done 16 (74, SP.is (.int .i64 st1.win)) (by rw [hD]; rfl) (hall 16 (by decide))
        have h75 : ac.eval (.tmp 75) = .int .i64 dl := hF.done 17 (75, SP.is (.int .i64 dl)) (by rw [hD]; rfl) (hall 17 (by decide))
        have h76 : ac.eval (.tmp 76) = .agg R8.toArray := hF.done 18 (76, SP.is (.agg R8.toArray)) (by rw [hD]; rfl) (hall 18 (by decide))
        obtain ⟨x77, h77⟩ : ∃ x, ac.eval (.tmp 77) = x := ⟨_, rfl⟩
        have h79 : ac.eval (.tmp 79) = .pointer (some ⟨p, 0, none⟩) := hF.done 21 (79, SP.is (.pointer (some ⟨p, 0, none⟩))) (by rw [hD]; rfl) (hall 21 (by decide))
        have h80 : ac.eval (.tmp 80) = .pointer (some ⟨p, 69, none⟩) := hF.done 22 (80, SP.is (.pointer (some ⟨p, 69, none⟩))) (by rw [hD]; rfl) (hall 22 (by decide))
        have ea := hF.lay [(58, .pointer (some ⟨p, 0, none⟩)), (59, .pointer (some ⟨p, 0, none⟩)), (60, .pointer (some ⟨p, 0, none⟩)), (61, .pointer (some ⟨p, 69, none⟩)), (62, .slice Av n cv), (63, .pointer (some ⟨p, 0, none⟩)), (64, .pointer (some ⟨p, 0, none⟩)), (65, .pointer (some ⟨p, 2, none⟩)), (66, .int .i64 st1.given), (67, .agg c.cells.toArray), (68, .agg (vB ad).toArray), (69, .int .i64 now), (70, .int .i64 now), (71, .pointer (some ⟨p, 0, none⟩)), (72, .pointer (some ⟨p, 0, none⟩)), (73, .pointer (some ⟨p, 0, none⟩)), (74, .int .i64 st1.win), (75, .int .i64 dl), (76, .agg R8.toArray), (77, x77), (78, .slice A7 (n + 1) c7), (79, .pointer (some ⟨p, 0, none⟩)), (80, .pointer (some ⟨p, 69, none⟩))] (by rw [hD, hsz]; rfl) (by simp only [List.forall_mem_cons, List.not_mem_nil, false_implies, implies_true, and_true]; exact ⟨h58, h59, h60, h61, h62, h63, h64, h65, h66, h67, h68, h69, h70, h71, h72, h73, h74, h75, h76, h77, hJ1, h79, h80⟩)
        rw [ha0] at ea
        simp only [List.foldl_cons, List.foldl_nil] at ea
        clear hF hall hr hl hD zs0 zs4 zs6 zs7 ha0 hsz h58 h59 h60 h61 h62 h63 h64 h65 h66 h67 h68 h69 h70 h71 h72 h73 h74 h75 h76 h77 hJ1 h79 h80
        subst ea
        have HJ2 : Hid (Row W p (st1.cells (.slice A7 (n + 1) c7)) tL) := hJ2
        have HJ3 : Hid (Lo W tP 90 (.slice A7 (n + 1) c7) (n + 1) (pcs st1.pend ++ R8)) := hJ3
        have HJ4 : Hid (Gro (Tb p (.slice Av n cv)) w W) := hJ4
        have HJ5 : Hid (Nv w (.slice Av n cv) (.slice A7 (n + 1) c7)) := hJ5
        have c2 : W.cell? ⟨p, 2, none⟩ = some (.int .i64 st1.given) := hJ2.cell 2 _ rfl
        have e2 : Hid (st1.given = st.given + 1) := by show _ = _; rw [HST1.out]
        clear hJ2 hJ3 hJ4 hJ5
        go_wp2
        go_ret2
        refine ⟨by rw [← e2.out]; rfl, .slice A7 (n + 1) c7, ⟨?_, ?_, HOK2.out⟩, by rw [HHV.out]; exact HJ4.out, by rw [HHV.out]; exact HJ5.out⟩
        · rw [HS'.out]; exact HJ2.out
        · rw [HS'.out]
          show Lo W tP 90 _ (st1.pend ++ [st.newP c ad now]).length (pcs (st1.pend ++ [st.newP c ad now]))
          rw [List.length_append, List.length_singleton, pcs_app, HP1.out, ← HHN.out, ← HP1.out]
          have : pcs [st.newP c ad now] = R8 := by rw [HR8.out]; unfold pcs; simp
          rw [this]
          exact HJ3.out

end Go.Proofs.Ytfdbjcdcfmnicaa
