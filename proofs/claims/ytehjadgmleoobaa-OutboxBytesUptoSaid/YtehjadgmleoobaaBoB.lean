/-
  the law's book of bytes: its state; keeps.
-/
import Derived.Test.YtehjadgmleoobaaBoA
import Derived.Test.YtehjadgmleoobaaObD
import Derived.Test.YtehjadgmleoobaaTRl
namespace Go.Proofs.Ytehjadgmleoobaa
open Go Go.RowKit
open Sha

/-- The cells of a book: what stands in its row, its two lists of bytes. -/
def bkc (rl rw : Value) : List Value := [rl, rw, .slice none 0 0, .slice none 0 0]
/-- A book of bytes, made behind w0. -/
structure Bbk (w0 w : World) (B : Nat) (rl rw vl vw : Value) (us ws : List Value) (ds es : List (List (BitVec 8))) : Prop where
  row : Row w B (bkc rl rw) 28
  ll : Lw w 29 1 vl ds.length us
  lw : Lw w 29 1 vw es.length ws
  lne : ∀ g, vl.ownBlock = some g → vw.ownBlock ≠ some g
  eu : ∀ (i : Nat) (d : List (BitVec 8)), ds[i]? = some d → ∃ u, us[i]? = some u ∧ Bw w u d
  ew : ∀ (i : Nat) (d : List (BitVec 8)), es[i]? = some d → ∃ u, ws[i]? = some u ∧ Bw w u d
  au : ∀ (i j : Nat) (u v : Value), i < j → us[i]? = some u → us[j]? = some v → ∀ g, u.ownBlock = some g → v.ownBlock ≠ some g
  b0 : w0.heap.size ≤ B
  l0 : ∀ g, vl.ownBlock = some g → w0.heap.size ≤ g
  z0 : ∀ g, vw.ownBlock = some g → w0.heap.size ≤ g
  u0 : ∀ u ∈ us, ∀ g, u.ownBlock = some g → w0.heap.size ≤ g
  be : Below w0.heap.size w0 w
section
variable {w0 w w' : World} {B : Nat} {rl rw vl vw : Value} {us ws : List Value} {ds es : List (List (BitVec 8))}
theorem Bbk.below (h : Bbk w0 w B rl rw vl vw us ws ds es) (k : Below w.heap.size w w') : Bbk w0 w' B rl rw vl vw us ws ds es :=
  ⟨Row.below h.row k h.row.lt, Lw.be h.ll k, Lw.be h.lw k, h.lne, fun i d hd => by obtain ⟨u, q1, q2⟩ := h.eu i d hd; exact ⟨u, q1, Bw.be q2 k⟩, fun i d hd => by obtain ⟨u, q1, q2⟩ := h.ew i d hd; exact ⟨u, q1, Bw.be q2 k⟩, h.au, h.b0, h.l0, h.z0, h.u0, h.be.trans (k.mono h.be.size)⟩
theorem bkc_one (rl rw : Value) : (bkc rl rw).length = 4 := rfl
/-- The row written over. -/
theorem Bbk.lay (h : Bbk w0 w B rl rw vl vw us ws ds es) (i : Nat) (v rl' rw' : Value) (hc : (bkc rl rw).set i v = bkc rl' rw') {X : World} (hr : Row X B ((bkc rl rw).set i v) 28) (G : Gro (· = B) w X) : Bbk w0 X B rl' rw' vl vw us ws ds es := by
  rw [hc] at hr
  refine ⟨hr, Lw.gro h.ll G (Lw.ne h.ll h.row (by decide)), Lw.gro h.lw G (Lw.ne h.lw h.row (by decide)), h.lne, fun i d hd => ?_, fun i d hd => ?_, h.au, h.b0, h.l0, h.z0, h.u0, h.be.trans (G.to_below h.be.size (fun g q => by rw [q]; exact h.b0))⟩
  · obtain ⟨u, q1, q2⟩ := h.eu i d hd
    exact ⟨u, q1, Bw.gro q2 G (Bw.ne q2 h.row (by decide))⟩
  · obtain ⟨u, q1, q2⟩ := h.ew i d hd
    exact ⟨u, q1, Bw.gro q2 G (Bw.ne q2 h.row (by decide))⟩
theorem bl_ne2 {w : World} {u v : Value} {d : List (BitVec 8)} {n : Nat} {xs : List Value} (h : Bw w u d) (k : Lw w 29 1 v n xs) : ∀ g, u.ownBlock = some g → some g ≠ v.ownBlock := bl_ne h k (by decide)
theorem snoc_get {α : Type} (l : List α) (x y : α) (i : Nat) (h : (l ++ [x])[i]? = some y) : l[i]? = some y ∨ (i = l.length ∧ y = x) := by
  by_cases hi : i < l.length
  · rw [List.getElem?_append_left hi] at h; exact .inl h
  · have hl := (List.getElem?_eq_some_iff.1 h).1
    rw [List.length_append, List.length_singleton] at hl
    have e : i = l.length := by omega
    subst e
    rw [List.getElem?_append_right (Nat.le_refl _), Nat.sub_self] at h
    exact .inr ⟨rfl, by simpa using h.symm⟩
/-- One more among the answers. -/
theorem Bbk.addU (h : Bbk w0 w B rl rw vl vw us ws ds es) (u : Value) (d : List (BitVec 8)) (hu : Bw w u d) (hf : ∀ v ∈ us, ∀ g, v.ownBlock = some g → u.ownBlock ≠ some g) (hu0 : ∀ g, u.ownBlock = some g → w0.heap.size ≤ g) (v' : Value) (L : Lw w' 29 1 v' (ds.length + 1) (us ++ [u])) (G : w.grownBy w' vl.ownBlock) (O : v'.ownBlock = vl.ownBlock ∨ v'.ownBlock = some w.heap.size) : Bbk w0 w' B rl rw v' vw (us ++ [u]) ws (ds ++ [d]) es := by
  have put : ∀ u d, Bw w u d → Bw w' u d := fun u d q => Bw.block q (fun g e => G.block g (Bw.lt q g e) (bl_ne2 q h.ll g e))
  have hul : us.length = ds.length := by have := Lw.len h.ll; omega
  refine ⟨row_gb h.row G (some_ne (Lw.ne h.ll h.row (by decide))), by rw [List.length_append, List.length_singleton]; exact L, Lw.gb h.lw G (fun g e q => h.lne g q.symm e), fun g e => ?_, fun i d' hd => ?_, fun i d' hd => ?_, fun i j a b hij ha hb g e => ?_, h.b0, fun g e => ?_, h.z0, fun x hx g e => ?_, ?_⟩
  · rcases O with O | O
    · exact h.lne g (by rw [← O]; exact e)
    · rw [O] at e; cases e
      intro q
      exact absurd (Lw.lt h.lw _ q) (Nat.lt_irrefl _)
  · rcases snoc_get ds d d' i hd with q | ⟨q, rfl⟩
    · obtain ⟨x, q1, q2⟩ := h.eu i d' q
      exact ⟨x, by rw [List.getElem?_append_left ((List.getElem?_eq_some_iff.1 q1).1)]; exact q1, put x d' q2⟩
    · subst q
      exact ⟨u, by rw [List.getElem?_append_right (by omega), hul, Nat.sub_self]; rfl, put u d' hu⟩
  · obtain ⟨x, q1, q2⟩ := h.ew i d' hd
    exact ⟨x, q1, put x d' q2⟩
  · rcases snoc_get us u a i ha with qa | ⟨qa, _⟩
    · rcases snoc_get us u b j hb with qb | ⟨_, rfl⟩
      · exact h.au i j a b hij qa qb g e
      · exact hf a (List.mem_of_getElem? qa) g e
    · have := (List.getElem?_eq_some_iff.1 hb).1
      rw [List.length_append, List.length_singleton] at this
      omega
  · rcases O with O | O
    · exact h.l0 g (by rw [← O]; exact e)
    · rw [O] at e; cases e; exact h.be.size
  · rcases List.mem_append.1 hx with q | q
    · exact h.u0 x q g e
    · obtain rfl := List.mem_singleton.1 q
      exact hu0 g e
  · exact below_gb h.be G h.l0
/-- One more among what they must be. -/
theorem Bbk.addW (h : Bbk w0 w B rl rw vl vw us ws ds es) (u : Value) (d : List (BitVec 8)) (hu : Bw w u d) (v' : Value) (L : Lw w' 29 1 v' (es.length + 1) (ws ++ [u])) (G : w.grownBy w' vw.ownBlock) (O : v'.ownBlock = vw.ownBlock ∨ v'.ownBlock = some w.heap.size) : Bbk w0 w' B rl rw vl v' us (ws ++ [u]) ds (es ++ [d]) := by
  have put : ∀ u d, Bw w u d → Bw w' u d := fun u d q => Bw.block q (fun g e => G.block g (Bw.lt q g e) (bl_ne2 q h.lw g e))
  have hul : ws.length = es.length := by have := Lw.len h.lw; omega
  refine ⟨row_gb h.row G (some_ne (Lw.ne h.lw h.row (by decide))), Lw.gb h.ll G (fun g e q => h.lne g e q.symm), by rw [List.length_append, List.length_singleton]; exact L, fun g e q => ?_, fun i d' hd => ?_, fun i d' hd => ?_, h.au, h.b0, h.l0, fun g e => ?_, h.u0, ?_⟩
  · rcases O with O | O
    · exact h.lne g e (by rw [← O]; exact q)
    · rw [O] at q; cases q
      exact absurd (Lw.lt h.ll _ e) (Nat.lt_irrefl _)
  · obtain ⟨x, q1, q2⟩ := h.eu i d' hd
    exact ⟨x, q1, put x d' q2⟩
  · rcases snoc_get es d d' i hd with q | ⟨q, rfl⟩
    · obtain ⟨x, q1, q2⟩ := h.ew i d' q
      exact ⟨x, by rw [List.getElem?_append_left ((List.getElem?_eq_some_iff.1 q1).1)]; exact q1, put x d' q2⟩
    · subst q
      exact ⟨u, by rw [List.getElem?_append_right (by omega), hul, Nat.sub_self]; rfl, put u d' hu⟩
  · rcases O with O | O
    · exact h.z0 g (by rw [← O]; exact e)
    · rw [O] at e; cases e; exact h.be.size
  · exact below_gb h.be G h.z0
end
theorem info_sls : (Try.prog.info? 23).map (·.size) = some 1 := by kernel_rfl
/-- A slot that holds a list of one list. -/
def SP.onl (n : Nat) (d : List (BitVec 8)) : SP := ⟨fun W v => ∃ M N, v = .slice (some ⟨M, 0, none⟩) 1 1 ∧ Row W M [.slice (some ⟨N, 0, none⟩) n n] 29 ∧ Row W N (vB d) 5, fun _ _ _ hB ⟨M, N, e, r1, r2⟩ => ⟨M, N, e, Row.below r1 hB r1.lt, Row.below r2 hB r2.lt⟩⟩
theorem bw_row {W : World} {N : Nat} {d : List (BitVec 8)} (h : Row W N (vB d) 5) (n : Nat) (hn : n = d.length) (hm : n ≤ maxLen) : Bw W (.slice (some ⟨N, 0, none⟩) n n) d := by
  subst hn
  exact ⟨by rw [vB_length, Nat.mul_one], .inr ⟨N, d.length, (vB d).toArray, rfl, Nat.zero_le _, h, Nat.le_refl _, hm, by simp [vB_length], by rw [Nat.mul_one]; exact List.take_of_length_le (by simp [vB_length])⟩⟩
section
variable {Q : Exit → Act → World → Prop} {o : Oper} {a : Act} {w : World} {K : Act → World → Prop}
theorem wp_buildOne (t e : TypeId) (hu : Try.prog.underlying t = some (.slice e)) (hi : ∃ ie z, Try.prog.info? e = some ie ∧ ie.zero = some z ∧ ie.size = 1 ∧ z.cells.size = 1) (x : Operand) (ho : o.op = .buildSlice t 1 #[(0, x)]) (v : Value) (hv : v.cells = #[v]) (hx : a.eval x = v)
    (h : ∀ X, Row X w.heap.size [v] e → Below w.heap.size w X → K (a.put o.dst (.slice (some ⟨w.heap.size, 0, none⟩) 1 1)) X) : Oper.wp Try.prog o a w K Q := by
  obtain ⟨ie, z, h1, h2, h3, h4⟩ := hi
  refine wp_buildSlice t e 1 _ ho #[v] ie z hu h1 h2 (by rw [h3]; omega) (by rw [h3]; omega) ?_ (h _ (Row.new' rfl rfl) ((Below.refl _ _).alloc (Nat.le_refl _) _))
  rw [show (Array.map (fun (p : Nat × Operand) => match p with | (i, x) => (i, a.eval x)) #[(0, x)]).toList = [(0, a.eval x)] by simp, hx, h3]
  exact fill_cell _ hv _ (by simp)
theorem wp_nilc {x : Operand} (ho : o.op = .nilCheck x) (B : Nat) (hx : a.eval x = .pointer (some ⟨B, 0, none⟩)) (h : K (a.put o.dst (.pointer (some ⟨B, 0, none⟩))) w) : Oper.wp Try.prog o a w K Q := by
  unfold Oper.wp execOp
  simp only [ho, hx]
  go_simp
  exact h
theorem wp_fb_0 {x : Operand} (ho : o.op = .fieldAddr 28 x 0) (B : Nat) (hx : a.eval x = .pointer (some ⟨B, 0, none⟩)) (h : K (a.put o.dst (.pointer (some ⟨B, 0, none⟩))) w) : Oper.wp Try.prog o a w K Q := by
  unfold Oper.wp execOp
  simp only [ho, hx]
  go_simp
  exact h
theorem wp_fb_1 {x : Operand} (ho : o.op = .fieldAddr 28 x 1) (B : Nat) (hx : a.eval x = .pointer (some ⟨B, 0, none⟩)) (h : K (a.put o.dst (.pointer (some ⟨B, 1, none⟩))) w) : Oper.wp Try.prog o a w K Q := by
  unfold Oper.wp execOp
  simp only [ho, hx]
  go_simp
  exact h
theorem ld_sls (w : World) (b f : Nat) (v : Value) (h : w.cell? ⟨b, f, none⟩ = some v) : (loadVar 23 ⟨b, f, none⟩).run Try.prog w = .ok v w := by
  simp [loadVar, isAgg, run_underlying Try.underlying23, h]
theorem ld_sl (w : World) (b f : Nat) (v : Value) (h : w.cell? ⟨b, f, none⟩ = some v) : (loadVar 29 ⟨b, f, none⟩).run Try.prog w = .ok v w := by
  simp [loadVar, isAgg, run_underlying Try.underlying29, h]
theorem wp_set1 (ty : TypeId) (x y : Operand) (ho : o.op = .store ty x y)
    (b i : Nat) (v : Value) (cs : List Value) (t : TypeId) (hx : a.eval x = .pointer (some ⟨b, i, none⟩)) (hy : a.eval y = v) (hcs : v.cells = #[v]) (r : Row w b cs t) (hl : i < cs.length) (hi : (Try.prog.info? ty).map (·.size) = some 1) (h1 : v.oneCell' = true)
    (h : ∀ X, Row X b (cs.set i v) t → Gro (· = b) w X → K (a.put o.dst undef) X) : Oper.wp Try.prog o a w K Q := by
  have ht := r.there i 1 (by omega)
  have hr : (storeVar ty ⟨b, i, none⟩ v).run Try.prog w = .ok () (w.setCell ⟨b, i, none⟩ v) := by
    have := run_storeCells_cells (P := Try.prog) b i [v] 0 w (fun j hj => by simpa using (ht j (by simpa using hj)).1) (fun j hj => by simpa using (ht j (by simpa using hj)).2) (fun u hu => by simp at hu; rw [hu]; exact h1)
    cases hq : Try.prog.info? ty with
    | none => simp [hq] at hi
    | some ie =>
      have hs : ie.size = 1 := by simpa [hq] using hi
      simp only [Nat.add_zero, World.setCells] at this
      simp [storeVar, sizeOf, typeInfo, hq, hcs, hs, this]
  unfold Oper.wp execOp
  simp only [ho, hx, hy, Instr.storeAt, Instr.sureAddr, Sem.run_bind, Sem.run_pure, Result.andThen_ok, hr]
  exact h _ (r.set i v) ((Gro.refl _ _).set b i v rfl)
end
set_option maxRecDepth 100000 in
set_option maxHeartbeats 4000000 in
theorem keeps_ok (w0 : World) (B : Nat) (vl vw : Value) (us ws : List Value) (ds : List (List (BitVec 8))) (hm2 : ds.length ≤ 1000000) (d : List (BitVec 8)) (A1 A2 : Option Addr) (n c1 c2 : Nat) (hn : n = d.length) (hn2 : n ≤ 1000000) (w : World) (h1 : Bw w (.slice A1 n c1) d) (hf : ∀ v ∈ us, ∀ g, v.ownBlock = some g → (Value.slice A1 n c1).ownBlock ≠ some g) (hu0 : ∀ g, (Value.slice A1 n c1).ownBlock = some g → w0.heap.size ≤ g) (h2 : Bw w (.slice A2 n c2) d) (hb : Bbk w0 w B vl vw vl vw us ws ds ds) :
    Calls Try.prog 7 #[.pointer (some ⟨B, 0, none⟩), .slice A1 n c1, .slice A2 n c2] w fun e w' => e = .returned (.tuple #[]) ∧ ∃ vl' vw' x, Bbk w0 w' B vl' vw' vl' vw' (us ++ [.slice A1 n c1]) (ws ++ [x]) (ds ++ [d]) (ds ++ [d]) ∧ Gro (fun g => g = B ∨ vl.ownBlock = some g ∨ vw.ownBlock = some g) w w' ∧ (∀ g, vl'.ownBlock = some g → vl.ownBlock = some g ∨ w.heap.size ≤ g) ∧ (∀ g, vw'.ownBlock = some g → vw.ownBlock = some g ∨ w.heap.size ≤ g) := by
  obtain ⟨m, hm⟩ : ∃ m, m = ds.length := ⟨_, rfl⟩
  obtain ⟨Al, cl, el, _, _⟩ := Lw.form hb.ll
  obtain ⟨Aw, cw, ew, _, _⟩ := Lw.form hb.lw
  rw [← hm] at el ew
  subst el ew
  have HM : Hid (m ≤ 1000000) := by rw [hm]; exact hm2
  have HME : Hid (m = ds.length) := hm
  have HN : Hid (n = d.length) := hn
  have HMX : Hid (n ≤ maxLen) := by show _ ≤ _; unfold maxLen; omega
  have HB : Hid (Bbk w0 w B (.slice Al m cl) (.slice Aw m cw) (.slice Al m cl) (.slice Aw m cw) us ws ds ds) := hb
  have H1 : Hid (Bw w (.slice A1 n c1) d) := h1
  have H2 : Hid (Bw w (.slice A2 n c2) d) := h2
  have HF : Hid (∀ v ∈ us, ∀ g, v.ownBlock = some g → (Value.slice A1 n c1).ownBlock ≠ some g) := hf
  have HU0 : Hid (∀ g, (Value.slice A1 n c1).ownBlock = some g → w0.heap.size ≤ g) := hu0
  have c0 : w.cell? ⟨B, 0, none⟩ = some (.slice Al m cl) := hb.row.cell 0 _ rfl
  clear hm hm2 hn h1 h2 hf hu0 hb
  go_enter Try.func7, Try.ntmps7
  go_upto_region 1 with (first
    | (refine wpList_buildOne 23 29 Try.underlying23 info_sl4 rfl (.tmp 11) rfl (.slice A1 n c1) rfl rfl ?_; intro X1 q1 q2 q3; have R1 : Hid (Row X1 w.heap.size [.slice A1 n c1] 29) := q1; have D1 : Hid (Below w.heap.size w X1) := q2; clear q1 q2 q3; simp only [Act.put, List.setIfInBounds_toArray, List.set_cons_zero, List.set_cons_succ])
    | (refine wpList_appL 23 29 1 24 Try.underlying23 info_sl (by decide) (by decide) rfl (.tmp 10) (.tmp 12) rfl (.slice Al m cl) m us [.slice A1 n c1] rfl (by have := (HB.out.below D1.out).ll; rwa [← HME.out] at this) w.heap.size rfl rfl R1.out.all (fun u hu => by obtain rfl := List.mem_singleton.1 hu; rfl) HM.out ?_; intro v5 X5 q1 q2 q3; have B5 : Hid (Bbk w0 X5 B (.slice Al m cl) (.slice Aw m cw) v5 (.slice Aw m cw) (us ++ [.slice A1 n c1]) ws (ds ++ [d]) ds) := (HB.out.below D1.out).addU _ d (Bw.be H1.out D1.out) HF.out HU0.out v5 (by rw [← HME.out]; exact q1) q2 q3; have S5 : Hid (Bw X5 (.slice A2 n c2) d) := (fun q => Bw.block q (fun g e => q2.block g (Bw.lt q g e) (bl_ne2 q (HB.out.below D1.out).ll g e))) (Bw.be H2.out D1.out); have G5 : Hid (Gro (fun g => g = B ∨ (Value.slice Al m cl).ownBlock = some g ∨ (Value.slice Aw m cw).ownBlock = some g) w X5) := Gro.grown (Gro.of_below D1.out) q2 (fun g e => .inl (.inr (.inl e))); obtain ⟨A5, c5, e5, _, _⟩ := Lw.form q1; subst e5; have O5 : Hid (∀ g, (Value.slice A5 (m + 1) c5).ownBlock = some g → (Value.slice Al m cl).ownBlock = some g ∨ w.heap.size ≤ g) := (fun g e => by rcases q3 with q3 | q3; exact .inl (by rw [← q3]; exact e); rw [q3] at e; cases e; exact .inr D1.out.size); clear q1 q2 q3; simp only [Act.put, List.setIfInBounds_toArray, List.set_cons_zero, List.set_cons_succ])
    | (refine wpList_set1 rfl 23 (.tmp 15) (.tmp 13) rfl B 0 (.slice A5 (m + 1) c5) (bkc (.slice Al m cl) (.slice Aw m cw)) 28 rfl rfl rfl B5.out.row (Nat.succ_pos _) info_sls rfl ?_; intro X6 q1 q2 q3; have B6 : Hid (Bbk w0 X6 B (.slice A5 (m + 1) c5) (.slice Aw m cw) (.slice A5 (m + 1) c5) (.slice Aw m cw) (us ++ [.slice A1 n c1]) ws (ds ++ [d]) ds) := B5.out.lay 0 _ _ _ rfl q1 q2; have S6 : Hid (Bw X6 (.slice A2 n c2) d) := Bw.gro S5.out q2 (Bw.ne S5.out B5.out.row (by decide)); have G6 : Hid (Gro (fun g => g = B ∨ (Value.slice Al m cl).ownBlock = some g ∨ (Value.slice Aw m cw).ownBlock = some g) w X6) := Gro.trans G5.out (Gro.mono q2 (fun g q => .inl q)); clear q1 q2 q3; simp only [Act.put]))
  have hBo := B6.out
  have hFr := G6.out
  have hb1 := Below.refl X6.heap.size X6
  have HOW : Hid (∀ W, Below X6.heap.size X6 W → Calls Try.prog 9 #[.slice A2 n c2] W fun e w' => e = .returned (.slice (some ⟨W.heap.size, 0, none⟩) n n) ∧ Row w' W.heap.size (vB d) 5 ∧ Below W.heap.size W w') := fun W k => own11_any A2 n c2 d HN.out.symm (by omega) W (Bw.sl (Bw.be S6.out k))
  clear c0 B5 B6 S5 S6 R1 D1 HB H1 H2 HF HU0 G5 G6
  go_wp2_with fail
  refine wp_named fun a0 ha0 => ?_
  have hsz : a0.tmps.size = 27 := by rw [ha0]; rfl
  have zs0 : a0.eval (.tmp 0) = .pointer (some ⟨B, 0, none⟩) := by rw [ha0]; rfl
  have zs2 : a0.eval (.tmp 2) = .slice A2 n c2 := by rw [ha0]; rfl
  obtain ⟨D, hD⟩ : ∃ D : List (Tmp × SP), D = [(16, SP.is (.pointer (some ⟨B, 0, none⟩))), (17, SP.is (.pointer (some ⟨B, 0, none⟩))), (18, SP.is (.pointer (some ⟨B, 0, none⟩))), (19, SP.is (.pointer (some ⟨B, 1, none⟩))), (20, SP.is (.slice Aw m cw)), (21, SP.is (.slice A2 n c2)), (22, SP.any), (23, SP.any), (24, SP.any), (25, SP.is (.pointer (some ⟨B, 0, none⟩))), (26, SP.is (.pointer (some ⟨B, 1, none⟩))), (1000, SP.any)] := ⟨_, rfl⟩
  refine wp_region_then (by kernel_rfl) 8 (by decide) (by kernel_rfl) (fun listed ac W => Fp D a0 listed ac W ∧ Below X6.heap.size X6 W ∧ Bbk w0 W B (.slice A5 (m + 1) c5) (.slice Aw m cw) (.slice A5 (m + 1) c5) (.slice Aw m cw) (us ++ [.slice A1 n c1]) ws (ds ++ [d]) ds ∧ Gro (fun g => g = B ∨ (Value.slice Al m cl).ownBlock = some g ∨ (Value.slice Aw m cw).ownBlock = some g) w W ∧ (listed.getD 6 false = true → (SP.new n n (vB d) 5).P W (ac.eval (.tmp 22))) ∧ (listed.getD 7 false = true → (SP.onl n d).P W (ac.eval (.tmp 23)))) (fun listed ac W => ∃ A7 c7 x5, Fp D a0 listed ac W ∧ ac.eval (.tmp 24) = .slice A7 (m + 1) c7 ∧ Bbk w0 W B (.slice A5 (m + 1) c5) (if listed.getD 11 false = true then .slice A7 (m + 1) c7 else .slice Aw m cw) (.slice A5 (m + 1) c5) (.slice A7 (m + 1) c7) (us ++ [.slice A1 n c1]) (ws ++ [x5]) (ds ++ [d]) (ds ++ [d]) ∧ Gro (fun g => g = B ∨ (Value.slice Al m cl).ownBlock = some g ∨ (Value.slice Aw m cw).ownBlock = some g) w W ∧ (∀ g, (Value.slice A7 (m + 1) c7).ownBlock = some g → (Value.slice Aw m cw).ownBlock = some g ∨ w.heap.size ≤ g)) ?_ ?_ ?_ ?_ ?_
  · exact ⟨Fp.start D a0 _ _, Below.drew hb1, hBo.below (Below.drew (Below.refl _ _)), hFr.below (Below.drew (Below.refl _ _)), (fun h => (start_no h).elim), (fun h => (start_no h).elim)⟩
  · clear ha0 hb1 hBo hFr
    intro listed ac W k hl hI hdn hk hne hnl
    replace hl : listed.size = 12 := hl
    obtain ⟨hF, hb1, hBo, hFr, ti6, ti7⟩ := hI
    have hk1 : k < 12 := List.mem_range.1 (List.mem_filter.1 hk).1
    rcases (show k = 0 ∨ k = 1 ∨ k = 2 ∨ k = 3 ∨ k = 4 ∨ k = 5 ∨ k = 6 ∨ k = 7 ∨ k = 8 ∨ k = 9 ∨ k = 10 ∨ k = 11 by omega) with rfl | rfl | rfl | rfl | rfl | rfl | rfl | rfl | rfl | rfl | rfl | rfl
    · have hk3 := hk
      exact wpOp_plain rfl rfl (wp_move_v (ac.eval (.tmp 0)) rfl rfl ⟨(hF.put 0 16 (SP.is (.pointer (some ⟨B, 0, none⟩))) (ac.eval (.tmp 0)) (by rw [hD]; rfl) (((hF.keep 0 (by rw [hD]; rfl)).trans zs0)) (by rw [hD]; rfl) (by rw [hsz]; decide) (by rw [hl]; decide)), hb1, hBo, hFr, (fun h1 => by change (SP.new n n (vB d) 5).P _ ((ac.put (some 16) _).eval (.tmp 22)); rw [eval_put_other ac _ (by decide)]; exact ti6 (by rwa [getD_set _ _ _ (by decide)] at h1)), (fun h1 => by change (SP.onl n d).P _ ((ac.put (some 16) _).eval (.tmp 23)); rw [eval_put_other ac _ (by decide)]; exact ti7 (by rwa [getD_set _ _ _ (by decide)] at h1))⟩)
    · have hk3 := hk
      exact wpOp_plain rfl rfl (wp_move_v (ac.eval (.tmp 0)) rfl rfl ⟨(hF.put 1 17 (SP.is (.pointer (some ⟨B, 0, none⟩))) (ac.eval (.tmp 0)) (by rw [hD]; rfl) (((hF.keep 0 (by rw [hD]; rfl)).trans zs0)) (by rw [hD]; rfl) (by rw [hsz]; decide) (by rw [hl]; decide)), hb1, hBo, hFr, (fun h1 => by change (SP.new n n (vB d) 5).P _ ((ac.put (some 17) _).eval (.tmp 22)); rw [eval_put_other ac _ (by decide)]; exact ti6 (by rwa [getD_set _ _ _ (by decide)] at h1)), (fun h1 => by change (SP.onl n d).P _ ((ac.put (some 17) _).eval (.tmp 23)); rw [eval_put_other ac _ (by decide)]; exact ti7 (by rwa [getD_set _ _ _ (by decide)] at h1))⟩)
    · have hk3 := hk
      have e := (hF.done 1 (17, SP.is (.pointer (some ⟨B, 0, none⟩))) (by rw [hD]; rfl) (ready_dep hk 1 (by kernel_rfl)))
      exact wpOp_plain rfl rfl (wp_nilc rfl B e ⟨(hF.put 2 18 (SP.is (.pointer (some ⟨B, 0, none⟩))) (.pointer (some ⟨B, 0, none⟩)) (by rw [hD]; rfl) rfl (by rw [hD]; rfl) (by rw [hsz]; decide) (by rw [hl]; decide)), hb1, hBo, hFr, (fun h1 => by change (SP.new n n (vB d) 5).P _ ((ac.put (some 18) _).eval (.tmp 22)); rw [eval_put_other ac _ (by decide)]; exact ti6 (by rwa [getD_set _ _ _ (by decide)] at h1)), (fun h1 => by change (SP.onl n d).P _ ((ac.put (some 18) _).eval (.tmp 23)); rw [eval_put_other ac _ (by decide)]; exact ti7 (by rwa [getD_set _ _ _ (by decide)] at h1))⟩)
    · have hk3 := hk
      have e := (hF.done 2 (18, SP.is (.pointer (some ⟨B, 0, none⟩))) (by rw [hD]; rfl) (ready_dep hk 2 (by kernel_rfl)))
      exact wpOp_plain rfl rfl (wp_fb_1 rfl B e ⟨(hF.put 3 19 (SP.is (.pointer (some ⟨B, 1, none⟩))) (.pointer (some ⟨B, 1, none⟩)) (by rw [hD]; rfl) rfl (by rw [hD]; rfl) (by rw [hsz]; decide) (by rw [hl]; decide)), hb1, hBo, hFr, (fun h1 => by change (SP.new n n (vB d) 5).P _ ((ac.put (some 19) _).eval (.tmp 22)); rw [eval_put_other ac _ (by decide)]; exact ti6 (by rwa [getD_set _ _ _ (by decide)] at h1)), (fun h1 => by change (SP.onl n d).P _ ((ac.put (some 19) _).eval (.tmp 23)); rw [eval_put_other ac _ (by decide)]; exact ti7 (by rwa [getD_set _ _ _ (by decide)] at h1))⟩)
    · have hk3 := hk
      have e := (hF.done 3 (19, SP.is (.pointer (some ⟨B, 1, none⟩))) (by rw [hD]; rfl) (ready_dep hk 3 (by kernel_rfl)))
      exact wpOp_plain rfl rfl (wp_load_1 B 1 (.slice Aw m cw) rfl e (ld_sls W B 1 _ (hBo.row.cell 1 _ rfl)) ⟨(hF.put 4 20 (SP.is (.slice Aw m cw)) (.slice Aw m cw) (by rw [hD]; rfl) rfl (by rw [hD]; rfl) (by rw [hsz]; decide) (by rw [hl]; decide)), hb1, hBo, hFr, (fun h1 => by change (SP.new n n (vB d) 5).P _ ((ac.put (some 20) _).eval (.tmp 22)); rw [eval_put_other ac _ (by decide)]; exact ti6 (by rwa [getD_set _ _ _ (by decide)] at h1)), (fun h1 => by change (SP.onl n d).P _ ((ac.put (some 20) _).eval (.tmp 23)); rw [eval_put_other ac _ (by decide)]; exact ti7 (by rwa [getD_set _ _ _ (by decide)] at h1))⟩)
    · have hk3 := hk
      exact wpOp_plain rfl rfl (wp_move_v (ac.eval (.tmp 2)) rfl rfl ⟨(hF.put 5 21 (SP.is (.slice A2 n c2)) (ac.eval (.tmp 2)) (by rw [hD]; rfl) (((hF.keep 2 (by rw [hD]; rfl)).trans zs2)) (by rw [hD]; rfl) (by rw [hsz]; decide) (by rw [hl]; decide)), hb1, hBo, hFr, (fun h1 => by change (SP.new n n (vB d) 5).P _ ((ac.put (some 21) _).eval (.tmp 22)); rw [eval_put_other ac _ (by decide)]; exact ti6 (by rwa [getD_set _ _ _ (by decide)] at h1)), (fun h1 => by change (SP.onl n d).P _ ((ac.put (some 21) _).eval (.tmp 23)); rw [eval_put_other ac _ (by decide)]; exact ti7 (by rwa [getD_set _ _ _ (by decide)] at h1))⟩)
    · have hk3 := hk
      have e := (hF.done 5 (21, SP.is (.slice A2 n c2)) (by rw [hD]; rfl) (ready_dep hk 5 (by kernel_rfl)))
      refine wpOp_plain rfl rfl (wp_fcall_v 9 #[.slice A2 n c2] rfl rfl (by show [ac.eval (.tmp 21)] = _; rw [show ac.eval (.tmp 21) = _ from e]) (by go_simp) ((HOW.out W hb1).mono ?_))
      rintro e W2 ⟨rfl, hR, hB⟩
      exact ⟨_, rfl, ((hF.world hB).put 6 22 (SP.any) (.slice (some ⟨W.heap.size, 0, none⟩) n n) (by rw [hD]; rfl) trivial (by rw [hD]; rfl) (by rw [hsz]; decide) (by rw [hl]; decide)), hb1.trans (hB.mono hb1.size), hBo.below hB, hFr.below hB, (fun _ => by change (SP.new n n (vB d) 5).P _ ((ac.put (some 22) _).eval (.tmp 22)); rw [eval_put_same ac _ (by rw [hF.size, hsz]; decide)]; exact ⟨_, rfl, hR⟩), (fun h1 => by change (SP.onl n d).P _ ((ac.put (some 22) _).eval (.tmp 23)); rw [eval_put_other ac _ (by decide)]; exact (SP.onl n d).st _ _ _ hB (ti7 (by rwa [getD_set _ _ _ (by decide)] at h1)))⟩
    · have hk3 := hk
      obtain ⟨N, e22, r22⟩ := (ti6 (ready_dep hk 6 (by kernel_rfl)))
      refine wpOp_plain rfl rfl (wp_buildOne 23 29 Try.underlying23 info_sl4 (.tmp 22) rfl (.slice (some ⟨N, 0, none⟩) n n) rfl e22 ?_)
      intro W2 q hB
      exact ⟨((hF.world hB).put 7 23 (SP.any) (.slice (some ⟨W.heap.size, 0, none⟩) 1 1) (by rw [hD]; rfl) trivial (by rw [hD]; rfl) (by rw [hsz]; decide) (by rw [hl]; decide)), hb1.trans (hB.mono hb1.size), hBo.below hB, hFr.below hB, (fun h1 => by change (SP.new n n (vB d) 5).P _ ((ac.put (some 23) _).eval (.tmp 22)); rw [eval_put_other ac _ (by decide)]; exact (SP.new n n (vB d) 5).st _ _ _ hB (ti6 (by rwa [getD_set _ _ _ (by decide)] at h1))), (fun _ => by change (SP.onl n d).P _ ((ac.put (some 23) _).eval (.tmp 23)); rw [eval_put_same ac _ (by rw [hF.size, hsz]; decide)]; exact ⟨_, N, rfl, q, Row.below r22 hB r22.lt⟩)⟩
    · exact absurd rfl hne
    · have hk3 := hk
      have e := (hF.done 0 (16, SP.is (.pointer (some ⟨B, 0, none⟩))) (by rw [hD]; rfl) (ready_dep hk 0 (by kernel_rfl)))
      exact wpOp_plain rfl rfl (wp_nilc rfl B e ⟨(hF.put 9 25 (SP.is (.pointer (some ⟨B, 0, none⟩))) (.pointer (some ⟨B, 0, none⟩)) (by rw [hD]; rfl) rfl (by rw [hD]; rfl) (by rw [hsz]; decide) (by rw [hl]; decide)), hb1, hBo, hFr, (fun h1 => by change (SP.new n n (vB d) 5).P _ ((ac.put (some 25) _).eval (.tmp 22)); rw [eval_put_other ac _ (by decide)]; exact ti6 (by rwa [getD_set _ _ _ (by decide)] at h1)), (fun h1 => by change (SP.onl n d).P _ ((ac.put (some 25) _).eval (.tmp 23)); rw [eval_put_other ac _ (by decide)]; exact ti7 (by rwa [getD_set _ _ _ (by decide)] at h1))⟩)
    · have hk3 := hk
      have e := (hF.done 9 (25, SP.is (.pointer (some ⟨B, 0, none⟩))) (by rw [hD]; rfl) (ready_dep hk 9 (by kernel_rfl)))
      exact wpOp_plain rfl rfl (wp_fb_1 rfl B e ⟨(hF.put 10 26 (SP.is (.pointer (some ⟨B, 1, none⟩))) (.pointer (some ⟨B, 1, none⟩)) (by rw [hD]; rfl) rfl (by rw [hD]; rfl) (by rw [hsz]; decide) (by rw [hl]; decide)), hb1, hBo, hFr, (fun h1 => by change (SP.new n n (vB d) 5).P _ ((ac.put (some 26) _).eval (.tmp 22)); rw [eval_put_other ac _ (by decide)]; exact ti6 (by rwa [getD_set _ _ _ (by decide)] at h1)), (fun h1 => by change (SP.onl n d).P _ ((ac.put (some 26) _).eval (.tmp 23)); rw [eval_put_other ac _ (by decide)]; exact ti7 (by rwa [getD_set _ _ _ (by decide)] at h1))⟩)
    · exact absurd (ready_dep hk 8 (by kernel_rfl)) hnl
  · clear ha0 hb1 hBo hFr
    intro listed ac W hl hI hdn hk
    replace hl : listed.size = 12 := hl
    obtain ⟨hF, hb1, hBo, hFr, ti6, ti7⟩ := hI
    have e20 := (hF.done 4 (20, SP.is (.slice Aw m cw)) (by rw [hD]; rfl) (ready_dep hk 4 (by kernel_rfl)))
    obtain ⟨M, N, e23, q1, q2⟩ := (ti7 (ready_dep hk 7 (by kernel_rfl)))
    have hno11 : ¬ listed.getD 11 false = true := fun h => not_yet hk (hdn 11 h 8 (by kernel_rfl))
    refine wpOp_plain rfl rfl (wp_appL 23 29 1 24 Try.underlying23 info_sl (by decide) (by decide) (.tmp 20) (.tmp 23) rfl (.slice Aw m cw) m ws [.slice (some ⟨N, 0, none⟩) n n] e20 (by have q := hBo.lw; rwa [← HME.out] at q) M rfl e23 q1.all (fun u hu => by obtain rfl := List.mem_singleton.1 hu; rfl) HM.out ?_)
    intro v5 W2 p1 p2 p3
    obtain ⟨A7, c7, e7, _, _⟩ := Lw.form p1
    subst e7
    have hT : Fp D a0 listed ac W2 := hF.turn (by rw [hD]; simp only [List.forall_mem_cons, List.not_mem_nil, false_implies, implies_true, and_true]; exact ⟨fun _ h => h, fun _ h => h, fun _ h => h, fun _ h => h, fun _ h => h, fun _ h => h, fun _ h => h, fun _ h => h, fun _ h => h, fun _ h => h, fun _ h => h, fun _ h => h⟩)
    exact ⟨A7, c7, (.slice (some ⟨N, 0, none⟩) n n), (hT.put 8 24 SP.any _ (by rw [hD]; rfl) trivial (by rw [hD]; rfl) (by rw [hsz]; decide) (by rw [hl]; decide)), (eval_put_same ac _ (by rw [hF.size, hsz]; decide)), (by rw [getD_set _ _ _ (by decide), if_neg hno11]; exact hBo.addW _ d (bw_row q2 n HN.out HMX.out) _ (by rw [← HME.out]; exact p1) p2 p3), (hFr.grown p2 (fun g e => .inl (.inr (.inr e)))), (fun g e => by rcases p3 with p3 | p3; exact .inl (by rw [← p3]; exact e); rw [p3] at e; cases e; exact .inr hFr.size)⟩
  · clear ha0 hb1 hBo hFr
    intro listed ac W k hl hJ hdn hk hne hyl
    replace hl : listed.size = 12 := hl
    obtain ⟨A7, c7, x5, hF, hJ1, hJ2, hJ3, hJ4⟩ := hJ
    have hk1 : k < 12 := List.mem_range.1 (List.mem_filter.1 hk).1
    rcases (show k = 0 ∨ k = 1 ∨ k = 2 ∨ k = 3 ∨ k = 4 ∨ k = 5 ∨ k = 6 ∨ k = 7 ∨ k = 8 ∨ k = 9 ∨ k = 10 ∨ k = 11 by omega) with rfl | rfl | rfl | rfl | rfl | rfl | rfl | rfl | rfl | rfl | rfl | rfl
    · have hk3 := hk
      exact wpOp_plain rfl rfl (wp_move_v (ac.eval (.tmp 0)) rfl rfl ⟨A7, c7, x5, (hF.put 0 16 (SP.is (.pointer (some ⟨B, 0, none⟩))) (ac.eval (.tmp 0)) (by rw [hD]; rfl) (((hF.keep 0 (by rw [hD]; rfl)).trans zs0)) (by rw [hD]; rfl) (by rw [hsz]; decide) (by rw [hl]; decide)), (eval_put_other ac _ (by decide)).trans (hJ1), (by rw [getD_set _ _ _ (by decide)]; exact hJ2), hJ3, hJ4⟩)
    · exact absurd (hdn 2 (hdn 3 (hdn 4 (hdn 8 hyl 4 (by kernel_rfl)) 3 (by kernel_rfl)) 2 (by kernel_rfl)) 1 (by kernel_rfl)) (not_yet hk)
    · exact absurd (hdn 3 (hdn 4 (hdn 8 hyl 4 (by kernel_rfl)) 3 (by kernel_rfl)) 2 (by kernel_rfl)) (not_yet hk)
    · exact absurd (hdn 4 (hdn 8 hyl 4 (by kernel_rfl)) 3 (by kernel_rfl)) (not_yet hk)
    · exact absurd (hdn 8 hyl 4 (by kernel_rfl)) (not_yet hk)
    · exact absurd (hdn 6 (hdn 7 (hdn 8 hyl 7 (by kernel_rfl)) 6 (by kernel_rfl)) 5 (by kernel_rfl)) (not_yet hk)
    · exact absurd (hdn 7 (hdn 8 hyl 7 (by kernel_rfl)) 6 (by kernel_rfl)) (not_yet hk)
    · exact absurd (hdn 8 hyl 7 (by kernel_rfl)) (not_yet hk)
    · exact absurd rfl hne
    · have hk3 := hk
      have e := (hF.done 0 (16, SP.is (.pointer (some ⟨B, 0, none⟩))) (by rw [hD]; rfl) (ready_dep hk 0 (by kernel_rfl)))
      exact wpOp_plain rfl rfl (wp_nilc rfl B e ⟨A7, c7, x5, (hF.put 9 25 (SP.is (.pointer (some ⟨B, 0, none⟩))) (.pointer (some ⟨B, 0, none⟩)) (by rw [hD]; rfl) rfl (by rw [hD]; rfl) (by rw [hsz]; decide) (by rw [hl]; decide)), (eval_put_other ac _ (by decide)).trans (hJ1), (by rw [getD_set _ _ _ (by decide)]; exact hJ2), hJ3, hJ4⟩)
    · have hk3 := hk
      have e := (hF.done 9 (25, SP.is (.pointer (some ⟨B, 0, none⟩))) (by rw [hD]; rfl) (ready_dep hk 9 (by kernel_rfl)))
      exact wpOp_plain rfl rfl (wp_fb_1 rfl B e ⟨A7, c7, x5, (hF.put 10 26 (SP.is (.pointer (some ⟨B, 1, none⟩))) (.pointer (some ⟨B, 1, none⟩)) (by rw [hD]; rfl) rfl (by rw [hD]; rfl) (by rw [hsz]; decide) (by rw [hl]; decide)), (eval_put_other ac _ (by decide)).trans (hJ1), (by rw [getD_set _ _ _ (by decide)]; exact hJ2), hJ3, hJ4⟩)
    · have hk3 := hk
      have e26 := (hF.done 10 (26, SP.is (.pointer (some ⟨B, 1, none⟩))) (by rw [hD]; rfl) (ready_dep hk 10 (by kernel_rfl)))
      rw [if_neg (not_yet hk)] at hJ2
      refine wpOp_plain rfl rfl (wp_set1 23 (.tmp 26) (.tmp 24) rfl B 1 (.slice A7 (m + 1) c7) (bkc (.slice A5 (m + 1) c5) (.slice Aw m cw)) 28 e26 hJ1 rfl hJ2.row (by rw [bkc_one]; decide) info_sls rfl ?_)
      intro W2 p1 p2
      have hT : Fp D a0 listed ac W2 := hF.turn (by rw [hD]; simp only [List.forall_mem_cons, List.not_mem_nil, false_implies, implies_true, and_true]; exact ⟨fun _ h => h, fun _ h => h, fun _ h => h, fun _ h => h, fun _ h => h, fun _ h => h, fun _ h => h, fun _ h => h, fun _ h => h, fun _ h => h, fun _ h => h, fun _ h => h⟩)
      exact ⟨A7, c7, x5, (hT.skip 11 1000 (by rw [hD]; rfl) (by rw [hl]; decide)), hJ1, (by rw [if_pos (getD_same (by rw [hl]; decide))]; exact hJ2.lay 1 _ _ _ rfl p1 p2), (Gro.trans hJ3 (Gro.mono p2 (fun g q => .inl q))), hJ4⟩
  · clear hb1 hBo hFr
    intro listed ac W hl hJ hr
    replace hl : listed.size = 12 := hl
    obtain ⟨A7, c7, x5, hF, hJ1, hJ2, hJ3, hJ4⟩ := hJ
    have hall := all_listed (by kernel_rfl) hl hr
    rw [if_pos (hall 11 (by decide))] at hJ2
    have h16 : ac.eval (.tmp 16) = .pointer (some ⟨B, 0, none⟩) := hF.done 0 (16, SP.is (.pointer (some ⟨B, 0, none⟩))) (by rw [hD]; rfl) (hall 0 (by decide))
    have h17 : ac.eval (.tmp 17) = .pointer (some ⟨B, 0, none⟩) := hF.done 1 (17, SP.is (.pointer (some ⟨B, 0, none⟩))) (by rw [hD]; rfl) (hall 1 (by decide))
    have h18 : ac.eval (.tmp 18) = .pointer (some ⟨B, 0, none⟩) := hF.done 2 (18, SP.is (.pointer (some ⟨B, 0, none⟩))) (by rw [hD]; rfl) (hall 2 (by decide))
    have h19 : ac.eval (.tmp 19) = .pointer (some ⟨B, 1, none⟩) := hF.done 3 (19, SP.is (.pointer (some ⟨B, 1, none⟩))) (by rw [hD]; rfl) (hall 3 (by decide))
    have h20 : ac.eval (.tmp 20) = .slice Aw m cw := hF.done 4 (20, SP.is (.slice Aw m cw)) (by rw [hD]; rfl) (hall 4 (by decide))
    have h21 : ac.eval (.tmp 21) = .slice A2 n c2 := hF.done 5 (21, SP.is (.slice A2 n c2)) (by rw [hD]; rfl) (hall 5 (by decide))
    obtain ⟨x22, h22⟩ : ∃ x, ac.eval (.tmp 22) = x := ⟨_, rfl⟩
    obtain ⟨x23, h23⟩ : ∃ x, ac.eval (.tmp 23) = x := ⟨_, rfl⟩
    have h25 : ac.eval (.tmp 25) = .pointer (some ⟨B, 0, none⟩) := hF.done 9 (25, SP.is (.pointer (some ⟨B, 0, none⟩))) (by rw [hD]; rfl) (hall 9 (by decide))
    have h26 : ac.eval (.tmp 26) = .pointer (some ⟨B, 1, none⟩) := hF.done 10 (26, SP.is (.pointer (some ⟨B, 1, none⟩))) (by rw [hD]; rfl) (hall 10 (by decide))
    have ea := hF.lay [(16, .pointer (some ⟨B, 0, none⟩)), (17, .pointer (some ⟨B, 0, none⟩)), (18, .pointer (some ⟨B, 0, none⟩)), (19, .pointer (some ⟨B, 1, none⟩)), (20, .slice Aw m cw), (21, .slice A2 n c2), (22, x22), (23, x23), (24, .slice A7 (m + 1) c7), (25, .pointer (some ⟨B, 0, none⟩)), (26, .pointer (some ⟨B, 1, none⟩))] (by rw [hD, hsz]; rfl) (by simp only [List.forall_mem_cons, List.not_mem_nil, false_implies, implies_true, and_true]; exact ⟨h16, h17, h18, h19, h20, h21, h22, h23, hJ1, h25, h26⟩)
    rw [ha0] at ea
    simp only [List.foldl_cons, List.foldl_nil, List.setIfInBounds_toArray, List.set_cons_zero, List.set_cons_succ] at ea
    clear hF hall hr hl hD zs0 zs2 ha0 hsz h16 h17 h18 h19 h20 h21 h22 h23 hJ1 h25 h26
    subst ea
    have HBF : Hid (Bbk w0 W B (.slice A5 (m + 1) c5) (.slice A7 (m + 1) c7) (.slice A5 (m + 1) c5) (.slice A7 (m + 1) c7) (us ++ [.slice A1 n c1]) (ws ++ [x5]) (ds ++ [d]) (ds ++ [d])) := hJ2
    have HFF : Hid (Gro (fun g => g = B ∨ (Value.slice Al m cl).ownBlock = some g ∨ (Value.slice Aw m cw).ownBlock = some g) w W) := hJ3
    have HO7 : Hid (∀ g, (Value.slice A7 (m + 1) c7).ownBlock = some g → (Value.slice Aw m cw).ownBlock = some g ∨ w.heap.size ≤ g) := hJ4
    clear hJ2 HOW hJ3 hJ4
    go_wp2
    refine bodyPost_end (results_none rfl _ _ _) rfl ?_
    exact ⟨rfl, _, _, _, HBF.out, HFF.out, O5.out, HO7.out⟩

end Go.Proofs.Ytehjadgmleoobaa
