/-
  the inbox: a box's Add.
-/
import Derived.Test.YtknabkoddickaaaGreatDoorIbD
import Derived.Test.YtknabkoddickaaaGreatDoorTRl
namespace Go.Proofs.YtknabkoddickaaaGreatDoor
open Go Go.RowKit
open Sha

/-- A Body of one's own. -/
structure Nb (V : Nat) (W : World) (A : Option Addr) (n c : Nat) (d : List (BitVec 8)) : Prop where
  bw : Bw W (.slice A n c) d
  nil : A = none → c = 0
  fr : Fresh V (.slice A n c)
theorem Nb.below {V : Nat} {W W' : World} {A : Option Addr} {n c : Nat} {d : List (BitVec 8)} (h : Nb V W A n c d) (k : Below W.heap.size W W') : Nb V W' A n c d := ⟨Bw.be h.bw k, h.nil, h.fr⟩
theorem Nb.gro {V b : Nat} {W W' : World} {A : Option Addr} {n c : Nat} {d : List (BitVec 8)} {cs : List Value} {t : TypeId} (h : Nb V W A n c d) (r : Row W b cs t) (ht : t ≠ 5) (k : Gro (· = b) W W') : Nb V W' A n c d := ⟨Bw.gro h.bw k (Bw.ne h.bw r ht), h.nil, h.fr⟩
theorem Nb.set {V b : Nat} {W : World} {A : Option Addr} {n c : Nat} {d : List (BitVec 8)} {cs : List Value} (h : Nb V W A n c d) (r : Row W b cs 84) (vs : List Value) : Nb V (W.setCells b 0 vs) A n c d := h.gro r (by decide) (gro_over (Gro.refl _ _) b 0 vs rfl)
def SP.nb (V n : Nat) (e : Ev) (dd : List (BitVec 8)) : SP := ⟨fun W v => ∃ A c, v = .tuple #[.agg (e.cells (.slice A n c) ++ vB dd).toArray, .int .i64 0] ∧ Nb V W A n c e.d, fun _ _ _ hB h => by obtain ⟨A, c, q, k⟩ := h; exact ⟨A, c, q, k.below hB⟩⟩
def SP.na (V n : Nat) (e : Ev) (dd : List (BitVec 8)) : SP := ⟨fun W v => ∃ A c, v = .agg (e.cells (.slice A n c) ++ vB dd).toArray ∧ Nb V W A n c e.d, fun _ _ _ hB h => by obtain ⟨A, c, q, k⟩ := h; exact ⟨A, c, q, k.below hB⟩⟩
theorem Bx.below {w0 w w' : World} {p : Nat} {v : Value} {es : List Ev} (h : Bx w0 w p v es) (k : Below w.heap.size w w') : Bx w0 w' p v es := h.keep k
/-- The entries of a box, its own cell aside. -/
structure Bxo (w0 w : World) (v : Value) (es : List Ev) : Prop where
  own : ∃ cs, Lw w 84 81 v es.length cs ∧ ∀ (i : Nat) (e : Ev), es[i]? = some e → ∃ A c, (∀ j u, (e.cells (.slice A e.d.length c) ++ vB (lk es (i + 1)))[j]? = some u → cs[i * 81 + j]? = some u) ∧ Bw w (.slice A e.d.length c) e.d ∧ (A = none → c = 0) ∧ Fresh w0.heap.size (.slice A e.d.length c)
  v0 : ∀ g, v.ownBlock = some g → w0.heap.size ≤ g
  be : Below w0.heap.size w0 w
  ok : ∀ e ∈ es, e.Wf ∧ e.May
theorem Bxo.bx {w0 w : World} {p : Nat} {v : Value} {es : List Ev} (h : Bxo w0 w v es) (r : Row w p [v] 66) (hp : w0.heap.size ≤ p) : Bx w0 w p v es := ⟨r, h.own, hp, h.v0, h.be, h.ok⟩
theorem Bxo.set {w0 w w' : World} {p : Nat} {v u : Value} {es : List Ev} (h : Bxo w0 w v es) (r : Row w p [u] 66) (k : Gro (· = p) w w') (hp : w0.heap.size ≤ p) : Bxo w0 w' v es := by
  obtain ⟨cs, h1, h2⟩ := h.own
  refine ⟨⟨cs, Lw.gro h1 k (Lw.ne h1 r (by decide)), fun i e he => ?_⟩, h.v0, h.be.trans (k.to_below h.be.size (fun g eg => by rw [eg]; exact hp)), h.ok⟩
  obtain ⟨A, c, q1, q2, q3, q4⟩ := h2 i e he
  exact ⟨A, c, q1, Bw.gro q2 k (Bw.ne q2 r (by decide)), q3, q4⟩
theorem lbl_ne {w : World} {u v : Value} {d : List (BitVec 8)} {n : Nat} {xs : List Value} (h : Bw w u d) (k : Lw w 84 81 v n xs) : ∀ g, u.ownBlock = some g → some g ≠ v.ownBlock := fun g e1 e2 => by
  rcases h.2 with ⟨h1, _⟩ | ⟨g', cap, cur, hv, _, hh, _⟩
  · rw [h1] at e1; cases e1
  · rw [hv] at e1
    obtain rfl : g' = g := by simpa [Value.ownBlock] using e1
    rcases k.2 with ⟨k1, _⟩ | ⟨g2, cap2, cur2, kv, _, kh, _⟩
    · rw [k1] at e2; cases e2
    · rw [kv] at e2
      obtain rfl : g' = g2 := by simpa [Value.ownBlock] using e2
      have := hh.symm.trans kh
      simp only [Option.some.injEq, Obj.cells.injEq] at this
      exact absurd this.2.1 (by decide)
/-- One more row. -/
theorem Bxo.grow {w0 w w' : World} {p n N c : Nat} {v v' : Value} {es : List Ev} {e : Ev} {A : Option Addr} {cs R8 : List Value} {dd : List (BitVec 8)} (h : Bx w0 w p v es) (hl : Lw w 84 81 v es.length cs)
    (hc : ∀ (i : Nat) (e : Ev), es[i]? = some e → ∃ A c, (∀ j u, (e.cells (.slice A e.d.length c) ++ vB (lk es (i + 1)))[j]? = some u → cs[i * 81 + j]? = some u) ∧ Bw w (.slice A e.d.length c) e.d ∧ (A = none → c = 0) ∧ Fresh w0.heap.size (.slice A e.d.length c)) (hN : N = es.length)
    (hb : Nb w0.heap.size w A n c e.d) (hR : R8 = e.cells (.slice A n c) ++ vB dd) (hw : e.Wf ∧ e.May ∧ e.d.length = n) (hd : dd = nx (lk es es.length) e) (p1 : Lw w' 84 81 v' (N + 1) (cs ++ R8)) (p2 : w.grownBy w' v.ownBlock) (p3 : v'.ownBlock = v.ownBlock ∨ v'.ownBlock = some w.heap.size) : Bxo w0 w' v' (es ++ [e]) := by
  subst hN hR
  have hcl : cs.length = es.length * 81 := Lw.len hl
  have put : ∀ u d, Bw w u d → Bw w' u d := fun u d hu => Bw.block hu (fun g eg => p2.block g (Bw.lt hu g eg) (lbl_ne hu hl g eg))
  refine ⟨⟨_, by rw [List.length_append, List.length_singleton]; exact p1, fun i e' he => ?_⟩, fun g eg => ?_, below_gb h.be p2 h.v0, fun x hx => ?_⟩
  · by_cases hi : i < es.length
    · rw [List.getElem?_append_left hi] at he
      obtain ⟨A1, c1, q1, q2, q3, q4⟩ := hc i e' he
      refine ⟨A1, c1, fun j u hj => ?_, put _ _ q2, q3, q4⟩
      rw [lk_app _ _ _ (by omega)] at hj
      have := q1 j u hj
      rw [List.getElem?_append_left ((List.getElem?_eq_some_iff.1 this).1)]
      exact this
    · have hi2 : i = es.length := by
        have := (List.getElem?_eq_some_iff.1 he).1
        rw [List.length_append, List.length_singleton] at this
        omega
      subst hi2
      rw [List.getElem?_append_right (Nat.le_refl _), Nat.sub_self] at he
      obtain rfl : e = e' := by simpa using he
      have e1 : lk (es ++ [e]) (es.length + 1) = dd := by
        rw [hd, lk_succ _ es.length e (by rw [List.getElem?_append_right (Nat.le_refl _), Nat.sub_self]; rfl), lk_app _ _ _ (Nat.le_refl _)]
      refine ⟨A, c, fun j u hj => ?_, by rw [hw.2.2]; exact put _ _ hb.bw, hb.nil, by rw [hw.2.2]; exact hb.fr⟩
      rw [e1, hw.2.2] at hj
      rw [List.getElem?_append_right (by omega), hcl, Nat.add_sub_cancel_left]
      exact hj
  · rcases p3 with q | q
    · exact h.v0 g (by rw [← q]; exact eg)
    · rw [q] at eg; cases eg; exact h.be.size
  · rcases List.mem_append.1 hx with q | q
    · exact h.ok x q
    · obtain rfl := List.mem_singleton.1 q
      exact ⟨hw.1, hw.2.1⟩
theorem info_rowAll : (Tryz.prog.info? 84).map (fun i => (i.size, i.bytes)) = some (81, 168) := by kernel_rfl
theorem info_rowZ : ((Tryz.prog.info? 84).bind (·.zero)).map (·.cells.size) = some 81 := by kernel_rfl
theorem info_rowO : ∃ ie z, Tryz.prog.info? 84 = some ie ∧ ie.zero = some z ∧ ie.size = 81 ∧ ie.bytes = 168 ∧ z.cells.size = 81 := by
  have i1 := info_rowAll
  have i2 := info_rowZ
  cases hi : Tryz.prog.info? 84 with
  | none => rw [hi] at i1; cases i1
  | some ie =>
    rw [hi] at i1 i2
    simp only [Option.map_some, Option.some.injEq, Prod.mk.injEq, Option.bind_some] at i1 i2
    cases hz : ie.zero with
    | none => rw [hz] at i2; cases i2
    | some z => rw [hz] at i2; exact ⟨ie, z, rfl, hz, i1.1, i1.2, by simpa using i2⟩
theorem info_rws : (Tryz.prog.info? 64).map (·.size) = some 1 := by kernel_rfl
theorem fill_oneI (s : Nat) (hs : 0 < s) (c cells : Array Value) (hc : c.size = s) (hn : cells.size = s) : Instr.fill (fun i => some (i * s, s)) cells [(0, .agg c)] = some c := by
  obtain ⟨r, hr, hsz, hk⟩ := Great.fill_dense (s := s) hs [.agg c] 0 cells (fun v hv => by obtain rfl := List.mem_singleton.1 hv; exact hc) (by simp; omega)
  have hr' : Instr.fill (fun i => some (i * s, s)) cells [(0, .agg c)] = some r := hr
  rw [hr']
  congr 1
  apply Array.ext_getElem?
  intro k
  rw [hk k]
  by_cases hlt : k < s
  · rw [if_pos (by simp; omega), Nat.div_eq_of_lt hlt, Nat.mod_eq_of_lt hlt]
    rfl
  · rw [if_neg (by simp; omega), Array.getElem?_eq_none (by omega), Array.getElem?_eq_none (by omega)]
section
variable {Q : Exit → Act → World → Prop} {o : Oper} {a : Act} {w : World} {K : Act → World → Prop}
theorem wp_allocRw (ho : o.op = .alloc 84) (h : K (a.put o.dst (.pointer (some ⟨w.heap.size, 0, none⟩))) (w.alloc (.cells zR.toArray 84))) : Oper.wp Tryz.prog o a w K Q := by
  unfold Oper.wp execOp
  simp only [ho]
  go_simp
  exact h
theorem wp_bRow (x : Operand) (ho : o.op = .buildSlice 64 1 #[(0, x)]) (L : List Value) (hL : L.length = 81) (hx : a.eval x = .agg L.toArray)
    (h : ∀ X, Row X w.heap.size L 84 → Below w.heap.size w X → K (a.put o.dst (.slice (some ⟨w.heap.size, 0, none⟩) 1 1)) X) : Oper.wp Tryz.prog o a w K Q := by
  obtain ⟨ie, z, h1, h2, h3, _, h4⟩ := info_rowO
  refine wp_buildSlice 64 84 1 _ ho L.toArray ie z Tryz.underlying64 h1 h2 (by rw [h3]; omega) (by rw [h3]; omega) ?_ (h _ (Row.new' rfl rfl) ((Below.refl _ _).alloc (Nat.le_refl _) _))
  rw [show (Array.map (fun (p : Nat × Operand) => match p with | (i, x) => (i, a.eval x)) #[(0, x)]).toList = [(0, a.eval x)] by simp, hx, h3]
  exact fill_oneI 81 (by decide) _ _ (by simp [hL]) (by simp)
theorem wp_nilcI {x : Operand} (ho : o.op = .nilCheck x) (B : Nat) (hx : a.eval x = .pointer (some ⟨B, 0, none⟩)) (h : K (a.put o.dst (.pointer (some ⟨B, 0, none⟩))) w) : Oper.wp Tryz.prog o a w K Q := by
  unfold Oper.wp execOp
  simp only [ho, hx]
  go_simp
  exact h
theorem wp_fbx {x : Operand} (ho : o.op = .fieldAddr 66 x 0) (B : Nat) (hx : a.eval x = .pointer (some ⟨B, 0, none⟩)) (h : K (a.put o.dst (.pointer (some ⟨B, 0, none⟩))) w) : Oper.wp Tryz.prog o a w K Q := by
  unfold Oper.wp execOp
  simp only [ho, hx]
  go_simp
  exact h
theorem ld_rows (w : World) (b f : Nat) (v : Value) (h : w.cell? ⟨b, f, none⟩ = some v) : (loadVar 64 ⟨b, f, none⟩).run Tryz.prog w = .ok v w := by
  simp [loadVar, isAgg, run_underlying Tryz.underlying64, h]
theorem wp_load_1I {ty : TypeId} {x : Operand} (b f : Nat) (v : Value) (ho : o.op = .load ty x) (hx : a.eval x = .pointer (some ⟨b, f, none⟩)) (hr : (loadVar ty ⟨b, f, none⟩).run Tryz.prog w = .ok v w) (h : K (a.put o.dst v) w) : Oper.wp Tryz.prog o a w K Q := by
  unfold Oper.wp execOp
  simp only [ho, hx, Instr.loadAt, Instr.sureAddr, Sem.run_bind, Sem.run_pure, Result.andThen_ok, hr, Oper.upon_value]
  exact h
theorem wp_set1I (ty : TypeId) (x y : Operand) (ho : o.op = .store ty x y)
    (b i : Nat) (v : Value) (cs : List Value) (t : TypeId) (hx : a.eval x = .pointer (some ⟨b, i, none⟩)) (hy : a.eval y = v) (hcs : v.cells = #[v]) (r : Row w b cs t) (hl : i < cs.length) (hi : (Tryz.prog.info? ty).map (·.size) = some 1) (h1 : v.oneCell' = true)
    (h : ∀ X, Row X b (cs.set i v) t → Gro (· = b) w X → K (a.put o.dst undef) X) : Oper.wp Tryz.prog o a w K Q := by
  have ht := r.there i 1 (by omega)
  have hr : (storeVar ty ⟨b, i, none⟩ v).run Tryz.prog w = .ok () (w.setCell ⟨b, i, none⟩ v) := by
    have := run_storeCells_cells (P := Tryz.prog) b i [v] 0 w (fun j hj => by simpa using (ht j (by simpa using hj)).1) (fun j hj => by simpa using (ht j (by simpa using hj)).2) (fun u hu => by simp at hu; rw [hu]; exact h1)
    cases hq : Tryz.prog.info? ty with
    | none => simp [hq] at hi
    | some ie =>
      have hs : ie.size = 1 := by simpa [hq] using hi
      simp only [Nat.add_zero, World.setCells] at this
      simp [storeVar, sizeOf, typeInfo, hq, hcs, hs, this]
  unfold Oper.wp execOp
  simp only [ho, hx, hy, Instr.storeAt, Instr.sureAddr, Sem.run_bind, Sem.run_pure, Result.andThen_ok, hr]
  exact h _ (r.set i v) ((Gro.refl _ _).set b i v rfl)
end
set_option maxRecDepth 100000 in
set_option maxHeartbeats 8000000 in
theorem add_ok (w0 : World) (p : Nat) (v : Value) (es : List Ev) (hes : es.length ≤ 1000000) (e : Ev) (hw : e.Wf) (hm : e.May) (ht : ¬ e.tm < ltm es es.length) (A : Option Addr) (n cap : Nat) (hn : e.d.length = n) (hnil : A = none → cap = 0) (L : List Value) (hL : L = e.cells (.slice A n cap)) (w : World) (hb : Bx w0 w p v es) (hK : Tab w 1) (hS : SlAt w (.slice A n cap) e.d) :
    Calls Tryz.prog 19 #[.pointer (some ⟨p, 0, none⟩), .agg L.toArray] w fun r w' => r = .returned (.tuple #[.int .i64 (es.length : Int), .int .i64 0]) ∧ ∃ v', Bx w0 w' p v' (es ++ [e]) ∧ Gro (fun g => g = p ∨ v.ownBlock = some g) w w' ∧ (v'.ownBlock = v.ownBlock ∨ ∃ g, v'.ownBlock = some g ∧ w.heap.size ≤ g) := by
  obtain ⟨Av, cv, hv⟩ := hb.form
  subst hv
  obtain ⟨N, hN⟩ : ∃ N, N = es.length := ⟨_, rfl⟩
  obtain ⟨dd, hdd⟩ : ∃ d, d = nx (lk es es.length) e := ⟨_, rfl⟩
  have HDD : Hid (dd = nx (lk es es.length) e) := hdd
  have HDL : Hid (dd.length = 32) := by rw [hdd]; exact dig_length _
  have HW : Hid e.Wf := hw
  have HWM : Hid (e.Wf ∧ e.May ∧ e.d.length = n) := ⟨hw, hm, hn⟩
  have HI : Hid ((Tryz.prog.info? 46).map (·.size) = some L.length) := by rw [hL]; exact Ev.info hw _
  obtain ⟨R, hR, hRo, hRc⟩ := last_any hb es.length (Nat.le_refl _) hes
  have HLA0 : Hid (∀ X, Below w.heap.size w X → Calls Tryz.prog 40 #[.pointer (some ⟨p, 0, none⟩), .int .i64 (N : Int)] X fun r w' => r = .returned (.agg R.toArray) ∧ Below X.heap.size X w') := by rw [hN]; exact hRc
  have HNU0 : Hid (∀ X, Below w.heap.size w X → Calls Tryz.prog 41 #[.agg R.toArray, .int .i64 (N : Int), .agg L.toArray] X fun r w' => ∃ A' c', r = .returned (.tuple #[.agg (e.cells (.slice A' n c') ++ vB dd).toArray, .int .i64 0]) ∧ Bw w' (.slice A' n c') e.d ∧ (A' = none → c' = 0) ∧ Fresh X.heap.size (.slice A' n c') ∧ Below X.heap.size X w') := fun X k => numbered_ok e hw hm (lk es es.length) dd hdd A n cap hn hnil L hL R _ hR ht N (by omega) X (hK.below k hK.lt) (hS.be k)
  have HNE : Hid (N = es.length) := hN
  have HNM : Hid (N ≤ 1000000) := by show _ ≤ _; omega
  have HB : Hid (Bx w0 w p (.slice Av N cv) es) := by rw [hN]; exact hb
  have HP0 : Hid (w0.heap.size ≤ p) := hb.b0
  rw [← hN]
  clear hN hdd hw hm hn hnil hL hb hK hS hR hRo hRc ht hes
  have c0 := HB.out.row.cell 0 _ rfl
  go_enter Tryz.func19, Tryz.ntmps19
  go_upto_region 1 with (refine wpList_boxG 46 rfl (.tmp 1) rfl L rfl ?_; intro V q1 q2 q3; have R1 : Hid (Row V w.heap.size L 46) := q1; have B1 : Hid (Below w.heap.size w V) := q2; clear q1 q2 q3; simp only [Act.put, List.setIfInBounds_toArray, List.set_cons_zero, List.set_cons_succ])
  obtain ⟨be, hbe⟩ : ∃ b, b = w.heap.size := ⟨_, rfl⟩
  rw [← hbe] at R1 ⊢
  clear hbe c0
  have B2 : Hid (Bx w0 V p (.slice Av N cv) es) := HB.out.keep B1.out
  have c1 := B2.out.row.cell 0 _ rfl
  go_upto_region 4 with fail
  have HLA : Hid (∀ X, Below V.heap.size V X → Calls Tryz.prog 40 #[.pointer (some ⟨p, 0, none⟩), .int .i64 (N : Int)] X fun r w' => r = .returned (.agg R.toArray) ∧ Below X.heap.size X w') := fun X k => HLA0.out X (B1.out.trans (k.mono B1.out.size))
  have HNU : Hid (∀ X, Below V.heap.size V X → Calls Tryz.prog 41 #[.agg R.toArray, .int .i64 (N : Int), .agg L.toArray] X fun r w' => ∃ A' c', r = .returned (.tuple #[.agg (e.cells (.slice A' n c') ++ vB dd).toArray, .int .i64 0]) ∧ Bw w' (.slice A' n c') e.d ∧ (A' = none → c' = 0) ∧ Fresh X.heap.size (.slice A' n c') ∧ Below X.heap.size X w') := fun X k => HNU0.out X (B1.out.trans (k.mono B1.out.size))
  have hb1 := Below.refl V.heap.size V
  have rL := R1.out
  have hbeV := rL.lt
  clear R1 HLA0 HNU0 c1
  refine wp_named fun a0 ha0 => ?_
  have hsz : a0.tmps.size = 39 := by rw [ha0]; rfl
  have zs0 : a0.eval (.tmp 0) = .pointer (some ⟨p, 0, none⟩) := by rw [ha0]; rfl
  have zs3 : a0.eval (.tmp 3) = .pointer (some ⟨be, 0, none⟩) := by rw [ha0]; rfl
  have zs6 : a0.eval (.tmp 6) = .int .i64 (N : Int) := by rw [ha0]; rfl
  obtain ⟨D, hD⟩ : ∃ D : List (Tmp × SP), D = [(17, SP.is (.pointer (some ⟨p, 0, none⟩))), (18, SP.is (.int .i64 (N : Int))), (19, SP.is (.agg R.toArray)), (20, SP.is (.int .i64 (N : Int))), (21, SP.is (.agg L.toArray)), (22, SP.nb V.heap.size n e dd), (16, SP.nb V.heap.size n e dd), (23, SP.na V.heap.size n e dd), (24, SP.is (.int .i64 0)), (7, SP.any), (1000, SP.any), (8, SP.is (.int .i64 0))] := ⟨_, rfl⟩
  refine wp_region_down (by kernel_rfl) (fun listed ac W => ∃ (N7 : Nat), listed.size = 12 ∧ Fp D a0 listed ac W ∧ Below V.heap.size V W ∧ Row W be L 46 ∧ (listed.getD 9 false = true → ¬ listed.getD 10 false = true → ac.eval (.tmp 7) = .pointer (some ⟨N7, 0, none⟩) ∧ V.heap.size - 1 < N7 ∧ Row W N7 zR 84) ∧ (listed.getD 10 false = true → ac.eval (.tmp 7) = .pointer (some ⟨N7, 0, none⟩) ∧ V.heap.size - 1 < N7 ∧ ∃ A c, Row W N7 (e.cells (.slice A n c) ++ vB dd) 84 ∧ Nb V.heap.size W A n c e.d)) ?_ ?_ ?_
  · exact ⟨0, by simp, Fp.start D a0 _ _, Below.drew hb1, Row.drew rL, (fun h _ => (start_no h).elim), (fun h => (start_no h).elim)⟩
  · clear ha0 hb1 rL 
    intro listed ac W k hI hdn hk
    obtain ⟨N7, hl, hF, hb1, rL, ax9, ay9⟩ := hI
    have hk1 : k < 12 := List.mem_range.1 (List.mem_filter.1 hk).1
    have hl2 : ∀ j, (listed.setIfInBounds j true).size = 12 := fun j => by rw [Array.size_setIfInBounds]; exact hl
    rcases (show k = 0 ∨ k = 1 ∨ k = 2 ∨ k = 3 ∨ k = 4 ∨ k = 5 ∨ k = 6 ∨ k = 7 ∨ k = 8 ∨ k = 9 ∨ k = 10 ∨ k = 11 by omega) with rfl | rfl | rfl | rfl | rfl | rfl | rfl | rfl | rfl | rfl | rfl | rfl
    · have hk3 := hk
      have hnsx : ¬ listed.getD 10 false = true := fun h => not_yet hk (hdn 10 h 0 (by kernel_rfl))
      exact wpOp_plain rfl rfl (wp_move_v (ac.eval (.tmp 0)) rfl rfl ⟨N7, hl2 0, (hF.put 0 17 (SP.is (.pointer (some ⟨p, 0, none⟩))) (ac.eval (.tmp 0)) (by rw [hD]; rfl) (((hF.keep 0 (by rw [hD]; rfl)).trans zs0)) (by rw [hD]; rfl) (by rw [hsz]; decide) (by rw [hl]; decide)), hb1, rL, (fun h1 h2 => ⟨(eval_put_other ac _ (by decide)).trans ((ax9 (by rwa [getD_set _ _ _ (by decide)] at h1) (by rwa [getD_set _ _ _ (by decide)] at h2)).1), (ax9 (by rwa [getD_set _ _ _ (by decide)] at h1) (by rwa [getD_set _ _ _ (by decide)] at h2)).2.1, (ax9 (by rwa [getD_set _ _ _ (by decide)] at h1) (by rwa [getD_set _ _ _ (by decide)] at h2)).2.2⟩), (fun h => absurd (by rwa [getD_set _ _ _ (by decide)] at h) hnsx)⟩)
    · have hk3 := hk
      have hnsx : ¬ listed.getD 10 false = true := fun h => not_yet hk (hdn 10 h 1 (by kernel_rfl))
      exact wpOp_plain rfl rfl (wp_move_v (ac.eval (.tmp 6)) rfl rfl ⟨N7, hl2 1, (hF.put 1 18 (SP.is (.int .i64 (N : Int))) (ac.eval (.tmp 6)) (by rw [hD]; rfl) (((hF.keep 6 (by rw [hD]; rfl)).trans zs6)) (by rw [hD]; rfl) (by rw [hsz]; decide) (by rw [hl]; decide)), hb1, rL, (fun h1 h2 => ⟨(eval_put_other ac _ (by decide)).trans ((ax9 (by rwa [getD_set _ _ _ (by decide)] at h1) (by rwa [getD_set _ _ _ (by decide)] at h2)).1), (ax9 (by rwa [getD_set _ _ _ (by decide)] at h1) (by rwa [getD_set _ _ _ (by decide)] at h2)).2.1, (ax9 (by rwa [getD_set _ _ _ (by decide)] at h1) (by rwa [getD_set _ _ _ (by decide)] at h2)).2.2⟩), (fun h => absurd (by rwa [getD_set _ _ _ (by decide)] at h) hnsx)⟩)
    · have hk3 := hk
      have hnsx : ¬ listed.getD 10 false = true := fun h => not_yet hk (hdn 10 h 2 (by kernel_rfl))
      have ea := (hF.done 0 (17, SP.is (.pointer (some ⟨p, 0, none⟩))) (by rw [hD]; rfl) (ready_dep hk 0 (by kernel_rfl)))
      have eb := (hF.done 1 (18, SP.is (.int .i64 (N : Int))) (by rw [hD]; rfl) (ready_dep hk 1 (by kernel_rfl)))
      refine wpOp_plain rfl rfl (wp_fcall_v 40 #[.pointer (some ⟨p, 0, none⟩), .int .i64 (N : Int)] rfl rfl (by show [ac.eval (.tmp 17), ac.eval (.tmp 18)] = _; rw [show ac.eval (.tmp 17) = _ from ea, show ac.eval (.tmp 18) = _ from eb]) (by go_simp) ((HLA.out W hb1).mono ?_))
      rintro e W2 ⟨rfl, hB⟩
      exact ⟨_, rfl, N7, hl2 2, ((hF.world hB).put 2 19 (SP.is (.agg R.toArray)) (.agg R.toArray) (by rw [hD]; rfl) rfl (by rw [hD]; rfl) (by rw [hsz]; decide) (by rw [hl]; decide)), hb1.trans (hB.mono hb1.size), Row.below rL hB (Row.lt rL), (fun h1 h2 => ⟨(eval_put_other ac _ (by decide)).trans ((ax9 (by rwa [getD_set _ _ _ (by decide)] at h1) (by rwa [getD_set _ _ _ (by decide)] at h2)).1), (ax9 (by rwa [getD_set _ _ _ (by decide)] at h1) (by rwa [getD_set _ _ _ (by decide)] at h2)).2.1, Row.below (ax9 (by rwa [getD_set _ _ _ (by decide)] at h1) (by rwa [getD_set _ _ _ (by decide)] at h2)).2.2 hB (Row.lt (ax9 (by rwa [getD_set _ _ _ (by decide)] at h1) (by rwa [getD_set _ _ _ (by decide)] at h2)).2.2)⟩), (fun h => absurd (by rwa [getD_set _ _ _ (by decide)] at h) hnsx)⟩
    · have hk3 := hk
      have hnsx : ¬ listed.getD 10 false = true := fun h => not_yet hk (hdn 10 h 3 (by kernel_rfl))
      exact wpOp_plain rfl rfl (wp_move_v (ac.eval (.tmp 6)) rfl rfl ⟨N7, hl2 3, (hF.put 3 20 (SP.is (.int .i64 (N : Int))) (ac.eval (.tmp 6)) (by rw [hD]; rfl) (((hF.keep 6 (by rw [hD]; rfl)).trans zs6)) (by rw [hD]; rfl) (by rw [hsz]; decide) (by rw [hl]; decide)), hb1, rL, (fun h1 h2 => ⟨(eval_put_other ac _ (by decide)).trans ((ax9 (by rwa [getD_set _ _ _ (by decide)] at h1) (by rwa [getD_set _ _ _ (by decide)] at h2)).1), (ax9 (by rwa [getD_set _ _ _ (by decide)] at h1) (by rwa [getD_set _ _ _ (by decide)] at h2)).2.1, (ax9 (by rwa [getD_set _ _ _ (by decide)] at h1) (by rwa [getD_set _ _ _ (by decide)] at h2)).2.2⟩), (fun h => absurd (by rwa [getD_set _ _ _ (by decide)] at h) hnsx)⟩)
    · have hk3 := hk
      have hnsx : ¬ listed.getD 10 false = true := fun h => not_yet hk (hdn 10 h 4 (by kernel_rfl))
      exact wpOp_plain rfl rfl (wp_load_mid 46 (.tmp 3) rfl be 0 ((hF.keep 3 (by rw [hD]; rfl)).trans zs3) L _ rL.all Tryz.underlying46 rfl HI.out ⟨N7, hl2 4, (hF.put 4 21 (SP.is (.agg L.toArray)) (.agg L.toArray) (by rw [hD]; rfl) rfl (by rw [hD]; rfl) (by rw [hsz]; decide) (by rw [hl]; decide)), hb1, rL, (fun h1 h2 => ⟨(eval_put_other ac _ (by decide)).trans ((ax9 (by rwa [getD_set _ _ _ (by decide)] at h1) (by rwa [getD_set _ _ _ (by decide)] at h2)).1), (ax9 (by rwa [getD_set _ _ _ (by decide)] at h1) (by rwa [getD_set _ _ _ (by decide)] at h2)).2.1, (ax9 (by rwa [getD_set _ _ _ (by decide)] at h1) (by rwa [getD_set _ _ _ (by decide)] at h2)).2.2⟩), (fun h => absurd (by rwa [getD_set _ _ _ (by decide)] at h) hnsx)⟩)
    · have hk3 := hk
      have hnsx : ¬ listed.getD 10 false = true := fun h => not_yet hk (hdn 10 h 5 (by kernel_rfl))
      have ea := (hF.done 2 (19, SP.is (.agg R.toArray)) (by rw [hD]; rfl) (ready_dep hk 2 (by kernel_rfl)))
      have eb := (hF.done 3 (20, SP.is (.int .i64 (N : Int))) (by rw [hD]; rfl) (ready_dep hk 3 (by kernel_rfl)))
      have ec := (hF.done 4 (21, SP.is (.agg L.toArray)) (by rw [hD]; rfl) (ready_dep hk 4 (by kernel_rfl)))
      refine wpOp_plain rfl rfl (wp_fcall_v 41 #[.agg R.toArray, .int .i64 (N : Int), .agg L.toArray] rfl rfl (by show [ac.eval (.tmp 19), ac.eval (.tmp 20), ac.eval (.tmp 21)] = _; rw [show ac.eval (.tmp 19) = _ from ea, show ac.eval (.tmp 20) = _ from eb, show ac.eval (.tmp 21) = _ from ec]) (by go_simp) ((HNU.out W hb1).mono ?_))
      rintro e W2 ⟨A', c', rfl, h7, h8, h9, hB⟩
      exact ⟨_, rfl, N7, hl2 5, ((hF.world hB).put 5 22 (SP.nb V.heap.size n e dd) (.tuple #[.agg (e.cells (.slice A' n c') ++ vB dd).toArray, .int .i64 0]) (by rw [hD]; rfl) (⟨A', c', rfl, h7, h8, h9.more hb1.size⟩) (by rw [hD]; rfl) (by rw [hsz]; decide) (by rw [hl]; decide)), hb1.trans (hB.mono hb1.size), Row.below rL hB (Row.lt rL), (fun h1 h2 => ⟨(eval_put_other ac _ (by decide)).trans ((ax9 (by rwa [getD_set _ _ _ (by decide)] at h1) (by rwa [getD_set _ _ _ (by decide)] at h2)).1), (ax9 (by rwa [getD_set _ _ _ (by decide)] at h1) (by rwa [getD_set _ _ _ (by decide)] at h2)).2.1, Row.below (ax9 (by rwa [getD_set _ _ _ (by decide)] at h1) (by rwa [getD_set _ _ _ (by decide)] at h2)).2.2 hB (Row.lt (ax9 (by rwa [getD_set _ _ _ (by decide)] at h1) (by rwa [getD_set _ _ _ (by decide)] at h2)).2.2)⟩), (fun h => absurd (by rwa [getD_set _ _ _ (by decide)] at h) hnsx)⟩
    · have hk3 := hk
      have hnsx : ¬ listed.getD 10 false = true := fun h => not_yet hk (hdn 10 h 6 (by kernel_rfl))
      exact wpOp_plain rfl rfl (wp_move_v (ac.eval (.tmp 22)) rfl rfl ⟨N7, hl2 6, (hF.put 6 16 (SP.nb V.heap.size n e dd) (ac.eval (.tmp 22)) (by rw [hD]; rfl) ((hF.done 5 (22, SP.nb V.heap.size n e dd) (by rw [hD]; rfl) (ready_dep hk 5 (by kernel_rfl)))) (by rw [hD]; rfl) (by rw [hsz]; decide) (by rw [hl]; decide)), hb1, rL, (fun h1 h2 => ⟨(eval_put_other ac _ (by decide)).trans ((ax9 (by rwa [getD_set _ _ _ (by decide)] at h1) (by rwa [getD_set _ _ _ (by decide)] at h2)).1), (ax9 (by rwa [getD_set _ _ _ (by decide)] at h1) (by rwa [getD_set _ _ _ (by decide)] at h2)).2.1, (ax9 (by rwa [getD_set _ _ _ (by decide)] at h1) (by rwa [getD_set _ _ _ (by decide)] at h2)).2.2⟩), (fun h => absurd (by rwa [getD_set _ _ _ (by decide)] at h) hnsx)⟩)
    · have hk3 := hk
      have hnsx : ¬ listed.getD 10 false = true := fun h => not_yet hk (hdn 10 h 7 (by kernel_rfl))
      obtain ⟨A, c, e9, hR⟩ := (hF.done 6 (16, SP.nb V.heap.size n e dd) (by rw [hD]; rfl) (ready_dep hk 6 (by kernel_rfl)))
      exact wpOp_plain rfl rfl (wp_extract (.tmp 16) 0 rfl _ e9 (.agg (e.cells (.slice A n c) ++ vB dd).toArray) rfl ⟨N7, hl2 7, (hF.put 7 23 (SP.na V.heap.size n e dd) (.agg (e.cells (.slice A n c) ++ vB dd).toArray) (by rw [hD]; rfl) (⟨A, c, rfl, hR⟩) (by rw [hD]; rfl) (by rw [hsz]; decide) (by rw [hl]; decide)), hb1, rL, (fun h1 h2 => ⟨(eval_put_other ac _ (by decide)).trans ((ax9 (by rwa [getD_set _ _ _ (by decide)] at h1) (by rwa [getD_set _ _ _ (by decide)] at h2)).1), (ax9 (by rwa [getD_set _ _ _ (by decide)] at h1) (by rwa [getD_set _ _ _ (by decide)] at h2)).2.1, (ax9 (by rwa [getD_set _ _ _ (by decide)] at h1) (by rwa [getD_set _ _ _ (by decide)] at h2)).2.2⟩), (fun h => absurd (by rwa [getD_set _ _ _ (by decide)] at h) hnsx)⟩)
    · have hk3 := hk
      obtain ⟨A, c, e9, hR⟩ := (hF.done 6 (16, SP.nb V.heap.size n e dd) (by rw [hD]; rfl) (ready_dep hk 6 (by kernel_rfl)))
      exact wpOp_plain rfl rfl (wp_extract (.tmp 16) 1 rfl _ e9 (.int .i64 0) rfl ⟨N7, hl2 8, (hF.put 8 24 (SP.is (.int .i64 0)) (.int .i64 0) (by rw [hD]; rfl) rfl (by rw [hD]; rfl) (by rw [hsz]; decide) (by rw [hl]; decide)), hb1, rL, (fun h1 h2 => ⟨(eval_put_other ac _ (by decide)).trans ((ax9 (by rwa [getD_set _ _ _ (by decide)] at h1) (by rwa [getD_set _ _ _ (by decide)] at h2)).1), (ax9 (by rwa [getD_set _ _ _ (by decide)] at h1) (by rwa [getD_set _ _ _ (by decide)] at h2)).2.1, (ax9 (by rwa [getD_set _ _ _ (by decide)] at h1) (by rwa [getD_set _ _ _ (by decide)] at h2)).2.2⟩), (fun h => ⟨(eval_put_other ac _ (by decide)).trans ((ay9 (by rwa [getD_set _ _ _ (by decide)] at h)).1), (ay9 (by rwa [getD_set _ _ _ (by decide)] at h)).2⟩)⟩)
    · have hk3 := hk
      have hnsx : ¬ listed.getD 10 false = true := fun h => not_yet hk (hdn 10 h 9 (by kernel_rfl))
      have hsm : V.heap.size - 1 < W.heap.size := (by have := hb1.size; have := Row.lt rL; omega)
      have hB : Below W.heap.size W (W.alloc (.cells zR.toArray 84)) := (Below.refl _ _).alloc (Nat.le_refl _) _
      exact wpOp_plain rfl rfl (wp_allocRw rfl ⟨W.heap.size, hl2 9, ((hF.world hB).put 9 7 (SP.any) (.pointer (some ⟨W.heap.size, 0, none⟩)) (by rw [hD]; rfl) trivial (by rw [hD]; rfl) (by rw [hsz]; decide) (by rw [hl]; decide)), hb1.alloc hb1.size _, Row.alloc rL _, (fun _ _ => ⟨eval_put_same ac _ (by rw [hF.size, hsz]; decide), hsm, Row.new' rfl rfl⟩), (fun h => absurd (by rwa [getD_set _ _ _ (by decide)] at h) hnsx)⟩)
    · have hk3 := hk
      obtain ⟨A, c, e9, hR⟩ := (hF.done 7 (23, SP.na V.heap.size n e dd) (by rw [hD]; rfl) (ready_dep hk 7 (by kernel_rfl)))
      have hal := ready_dep hk 9 (by kernel_rfl)
      obtain ⟨e1, m1, y2⟩ := ax9 hal (not_yet hk)
      have T := y2.there 0 (e.cells (.slice A n c) ++ vB dd).toArray.size (by rw [List.size_toArray, rw_len _ _ (Ev.len HW.out _) HDL.out, zR_len]; decide)
      have hT : Fp D a0 listed ac (W.setCells N7 0 (e.cells (.slice A n c) ++ vB dd)) := hF.turn (by rw [hD]; simp only [List.forall_mem_cons, List.not_mem_nil, false_implies, implies_true, and_true]; exact ⟨fun _ h => h, fun _ h => h, fun _ h => h, fun _ h => h, fun _ h => h, fun _ h => by obtain ⟨A, c, e9, h9⟩ := h; exact ⟨A, c, e9, h9.set y2 _⟩, fun _ h => by obtain ⟨A, c, e9, h9⟩ := h; exact ⟨A, c, e9, h9.set y2 _⟩, fun _ h => by obtain ⟨A, c, e9, h9⟩ := h; exact ⟨A, c, e9, h9.set y2 _⟩, fun _ h => h, fun _ h => h, fun _ h => h, fun _ h => h⟩)
      exact wpOp_plain rfl rfl (wp_store_mid 84 (.tmp 7) (.tmp 23) rfl N7 0 (e.cells (.slice A n c) ++ vB dd).toArray e1 e9 T (by rw [List.size_toArray, rw_len _ _ (Ev.len HW.out _) HDL.out]; exact info_row) (rw_one _ _ (Ev.one e _ _ _)) ⟨N7, hl2 10, (hT.skip 10 1000 (by rw [hD]; rfl) (by rw [hl]; decide)), below_setCells hb1 (by omega) _, Row.setCells_other rL _ _ _ (by omega), (fun _ h => absurd (getD_same (by rw [hl]; decide)) h), (fun _ => ⟨e1, m1, ⟨A, c, y2.over (by rw [rw_len _ _ (Ev.len HW.out _) HDL.out, zR_len]), hR.set y2 _⟩⟩)⟩)
    · have hk3 := hk
      exact wpOp_plain rfl rfl (wp_assign_v (ac.eval (.tmp 24)) rfl rfl ⟨N7, hl2 11, (hF.put 11 8 (SP.is (.int .i64 0)) (ac.eval (.tmp 24)) (by rw [hD]; rfl) ((hF.done 8 (24, SP.is (.int .i64 0)) (by rw [hD]; rfl) (ready_dep hk 8 (by kernel_rfl)))) (by rw [hD]; rfl) (by rw [hsz]; decide) (by rw [hl]; decide)), hb1, rL, (fun h1 h2 => ⟨(eval_put_other ac _ (by decide)).trans ((ax9 (by rwa [getD_set _ _ _ (by decide)] at h1) (by rwa [getD_set _ _ _ (by decide)] at h2)).1), (ax9 (by rwa [getD_set _ _ _ (by decide)] at h1) (by rwa [getD_set _ _ _ (by decide)] at h2)).2.1, (ax9 (by rwa [getD_set _ _ _ (by decide)] at h1) (by rwa [getD_set _ _ _ (by decide)] at h2)).2.2⟩), (fun h => ⟨(eval_put_other ac _ (by decide)).trans ((ay9 (by rwa [getD_set _ _ _ (by decide)] at h)).1), (ay9 (by rwa [getD_set _ _ _ (by decide)] at h)).2⟩)⟩)
  · clear hb1 rL 
    intro listed ac W hI hr
    obtain ⟨N7, hl, hF, hb1, rL, ax9, ay9⟩ := hI
    have hall := all_listed (by kernel_rfl) hl hr
    obtain ⟨ea7, m7, p7⟩ := ay9 (hall 10 (by decide))
    have h17 : ac.eval (.tmp 17) = .pointer (some ⟨p, 0, none⟩) := hF.done 0 (17, SP.is (.pointer (some ⟨p, 0, none⟩))) (by rw [hD]; rfl) (hall 0 (by decide))
    have h18 : ac.eval (.tmp 18) = .int .i64 (N : Int) := hF.done 1 (18, SP.is (.int .i64 (N : Int))) (by rw [hD]; rfl) (hall 1 (by decide))
    have h19 : ac.eval (.tmp 19) = .agg R.toArray := hF.done 2 (19, SP.is (.agg R.toArray)) (by rw [hD]; rfl) (hall 2 (by decide))
    have h20 : ac.eval (.tmp 20) = .int .i64 (N : Int) := hF.done 3 (20, SP.is (.int .i64 (N : Int))) (by rw [hD]; rfl) (hall 3 (by decide))
    have h21 : ac.eval (.tmp 21) = .agg L.toArray := hF.done 4 (21, SP.is (.agg L.toArray)) (by rw [hD]; rfl) (hall 4 (by decide))
    obtain ⟨x22, h22⟩ : ∃ x, ac.eval (.tmp 22) = x := ⟨_, rfl⟩
    obtain ⟨x16, h16⟩ : ∃ x, ac.eval (.tmp 16) = x := ⟨_, rfl⟩
    obtain ⟨x23, h23⟩ : ∃ x, ac.eval (.tmp 23) = x := ⟨_, rfl⟩
    have h24 : ac.eval (.tmp 24) = .int .i64 0 := hF.done 8 (24, SP.is (.int .i64 0)) (by rw [hD]; rfl) (hall 8 (by decide))
    have h8 : ac.eval (.tmp 8) = .int .i64 0 := hF.done 11 (8, SP.is (.int .i64 0)) (by rw [hD]; rfl) (hall 11 (by decide))
    have ea := hF.lay [(17, .pointer (some ⟨p, 0, none⟩)), (18, .int .i64 (N : Int)), (19, .agg R.toArray), (20, .int .i64 (N : Int)), (21, .agg L.toArray), (22, x22), (16, x16), (23, x23), (24, .int .i64 0), (7, .pointer (some ⟨N7, 0, none⟩)), (8, .int .i64 0)] (by rw [hD, hsz]; rfl) (by simp only [List.forall_mem_cons, List.not_mem_nil, false_implies, implies_true, and_true]; exact ⟨h17, h18, h19, h20, h21, h22, h16, h23, h24, ea7, h8⟩)
    rw [ha0] at ea
    simp only [List.foldl_cons, List.foldl_nil, List.setIfInBounds_toArray, List.set_cons_zero, List.set_cons_succ] at ea
    clear hF hall hr hl hD ax9 ay9 zs0 zs3 zs6 ha0 hsz h17 h18 h19 h20 h21 h22 h16 h23 h24 ea7 h8
    subst ea
    obtain ⟨A9, c9, r7, hR9⟩ := p7
    obtain ⟨R8, hR8⟩ : ∃ R8, R8 = e.cells (.slice A9 n c9) ++ vB dd := ⟨_, rfl⟩
    have HR8 : Hid (R8 = e.cells (.slice A9 n c9) ++ vB dd) := hR8
    have HL8 : Hid (R8.length = 81) := by show _ = _; rw [hR8]; exact rw_len _ _ (Ev.len HW.out _) HDL.out
    have HI8 : Hid ((Tryz.prog.info? 84).map (·.size) = some R8.length) := by show _ = _; rw [HL8.out]; exact info_row
    have HO8 : Hid (∀ u ∈ R8, u.oneCell' = true) := by
      intro u hu
      rw [hR8] at hu
      rcases List.mem_append.1 hu with q | q
      · exact Ev.one e _ _ _ u q
      · exact vB_one _ u q
    rw [← hR8] at r7
    have RQ : Hid (Row W N7 R8 84) := r7
    have NQ : Hid (Nb w0.heap.size W A9 n c9 e.d) := ⟨hR9.bw, hR9.nil, hR9.fr.more B2.out.be.size⟩
    have BQ : Hid (Bx w0 W p (.slice Av N cv) es) := B2.out.keep hb1
    have GQ : Hid (Gro (fun g => g = p ∨ (Value.slice Av N cv).ownBlock = some g) w W) := Gro.of_below (B1.out.trans (hb1.mono B1.out.size))
    clear hbeV hR8 r7 hR9 rL hb1 m7 B1 B2 HLA HNU HB
    go_upto_region 7 with fail
    obtain ⟨V8, hV8⟩ : ∃ V8, V8 = W := ⟨_, rfl⟩
    subst hV8
    have hb1 := Below.refl V8.heap.size V8
    have rR := RQ.out
    have hBo := BQ.out
    have hNb := NQ.out
    have hFr := GQ.out
    clear RQ BQ NQ GQ
    refine wp_named fun a0 ha0 => ?_
    have hsz : a0.tmps.size = 39 := by rw [ha0]; rfl
    have zs0 : a0.eval (.tmp 0) = .pointer (some ⟨p, 0, none⟩) := by rw [ha0]; rfl
    have zs7 : a0.eval (.tmp 7) = .pointer (some ⟨N7, 0, none⟩) := by rw [ha0]; rfl
    obtain ⟨D, hD⟩ : ∃ D : List (Tmp × SP), D = [(28, SP.is (.pointer (some ⟨p, 0, none⟩))), (29, SP.is (.pointer (some ⟨p, 0, none⟩))), (30, SP.is (.pointer (some ⟨p, 0, none⟩))), (31, SP.is (.pointer (some ⟨p, 0, none⟩))), (32, SP.is (.slice Av N cv)), (33, SP.is (.agg R8.toArray)), (34, SP.any), (35, SP.any), (36, SP.is (.pointer (some ⟨p, 0, none⟩))), (37, SP.is (.pointer (some ⟨p, 0, none⟩))), (1000, SP.any)] := ⟨_, rfl⟩
    refine wp_region_then (by kernel_rfl) 7 (by decide) (by kernel_rfl) (fun listed ac W => Fp D a0 listed ac W ∧ Below V8.heap.size V8 W ∧ Row W N7 R8 84 ∧ Bx w0 W p (.slice Av N cv) es ∧ Nb w0.heap.size W A9 n c9 e.d ∧ Gro (fun g => g = p ∨ (Value.slice Av N cv).ownBlock = some g) w W ∧ (listed.getD 6 false = true → (SP.new 1 1 R8 84).P W (ac.eval (.tmp 34)))) (fun listed ac W => ∃ A7 c7, Fp D a0 listed ac W ∧ ac.eval (.tmp 35) = .slice A7 (N + 1) c7 ∧ Row W p [if listed.getD 10 false = true then .slice A7 (N + 1) c7 else .slice Av N cv] 66 ∧ Bxo w0 W (.slice A7 (N + 1) c7) (es ++ [e]) ∧ Gro (fun g => g = p ∨ (Value.slice Av N cv).ownBlock = some g) w W ∧ ((Value.slice A7 (N + 1) c7).ownBlock = (Value.slice Av N cv : Value).ownBlock ∨ ∃ g, (Value.slice A7 (N + 1) c7).ownBlock = some g ∧ w.heap.size ≤ g)) ?_ ?_ ?_ ?_ ?_
    · exact ⟨Fp.start D a0 _ _, Below.drew hb1, Row.drew rR, hBo.below (Below.drew (Below.refl _ _)), hNb.below (Below.drew (Below.refl _ _)), hFr.below (Below.drew (Below.refl _ _)), (fun h => (start_no h).elim)⟩
    · clear ha0 hb1 rR hBo hNb hFr
      intro listed ac W k hl hI hdn hk hne hnl
      replace hl : listed.size = 11 := hl
      obtain ⟨hF, hb1, rR, hBo, hNb, hFr, ti6⟩ := hI
      have hk1 : k < 11 := List.mem_range.1 (List.mem_filter.1 hk).1
      rcases (show k = 0 ∨ k = 1 ∨ k = 2 ∨ k = 3 ∨ k = 4 ∨ k = 5 ∨ k = 6 ∨ k = 7 ∨ k = 8 ∨ k = 9 ∨ k = 10 by omega) with rfl | rfl | rfl | rfl | rfl | rfl | rfl | rfl | rfl | rfl | rfl
      · have hk3 := hk
        exact wpOp_plain rfl rfl (wp_move_v (ac.eval (.tmp 0)) rfl rfl ⟨(hF.put 0 28 (SP.is (.pointer (some ⟨p, 0, none⟩))) (ac.eval (.tmp 0)) (by rw [hD]; rfl) (((hF.keep 0 (by rw [hD]; rfl)).trans zs0)) (by rw [hD]; rfl) (by rw [hsz]; decide) (by rw [hl]; decide)), hb1, rR, hBo, hNb, hFr, (fun h1 => by change (SP.new 1 1 R8 84).P _ ((ac.put (some 28) _).eval (.tmp 34)); rw [eval_put_other ac _ (by decide)]; exact ti6 (by rwa [getD_set _ _ _ (by decide)] at h1))⟩)
      · have hk3 := hk
        exact wpOp_plain rfl rfl (wp_move_v (ac.eval (.tmp 0)) rfl rfl ⟨(hF.put 1 29 (SP.is (.pointer (some ⟨p, 0, none⟩))) (ac.eval (.tmp 0)) (by rw [hD]; rfl) (((hF.keep 0 (by rw [hD]; rfl)).trans zs0)) (by rw [hD]; rfl) (by rw [hsz]; decide) (by rw [hl]; decide)), hb1, rR, hBo, hNb, hFr, (fun h1 => by change (SP.new 1 1 R8 84).P _ ((ac.put (some 29) _).eval (.tmp 34)); rw [eval_put_other ac _ (by decide)]; exact ti6 (by rwa [getD_set _ _ _ (by decide)] at h1))⟩)
      · have hk3 := hk
        have e0 := (hF.done 1 (29, SP.is (.pointer (some ⟨p, 0, none⟩))) (by rw [hD]; rfl) (ready_dep hk 1 (by kernel_rfl)))
        exact wpOp_plain rfl rfl (wp_nilcI rfl p e0 ⟨(hF.put 2 30 (SP.is (.pointer (some ⟨p, 0, none⟩))) (.pointer (some ⟨p, 0, none⟩)) (by rw [hD]; rfl) rfl (by rw [hD]; rfl) (by rw [hsz]; decide) (by rw [hl]; decide)), hb1, rR, hBo, hNb, hFr, (fun h1 => by change (SP.new 1 1 R8 84).P _ ((ac.put (some 30) _).eval (.tmp 34)); rw [eval_put_other ac _ (by decide)]; exact ti6 (by rwa [getD_set _ _ _ (by decide)] at h1))⟩)
      · have hk3 := hk
        have e0 := (hF.done 2 (30, SP.is (.pointer (some ⟨p, 0, none⟩))) (by rw [hD]; rfl) (ready_dep hk 2 (by kernel_rfl)))
        exact wpOp_plain rfl rfl (wp_fbx rfl p e0 ⟨(hF.put 3 31 (SP.is (.pointer (some ⟨p, 0, none⟩))) (.pointer (some ⟨p, 0, none⟩)) (by rw [hD]; rfl) rfl (by rw [hD]; rfl) (by rw [hsz]; decide) (by rw [hl]; decide)), hb1, rR, hBo, hNb, hFr, (fun h1 => by change (SP.new 1 1 R8 84).P _ ((ac.put (some 31) _).eval (.tmp 34)); rw [eval_put_other ac _ (by decide)]; exact ti6 (by rwa [getD_set _ _ _ (by decide)] at h1))⟩)
      · have hk3 := hk
        have e0 := (hF.done 3 (31, SP.is (.pointer (some ⟨p, 0, none⟩))) (by rw [hD]; rfl) (ready_dep hk 3 (by kernel_rfl)))
        exact wpOp_plain rfl rfl (wp_load_1I p 0 (.slice Av N cv) rfl e0 (ld_rows W p 0 _ (hBo.row.cell 0 _ rfl)) ⟨(hF.put 4 32 (SP.is (.slice Av N cv)) (.slice Av N cv) (by rw [hD]; rfl) rfl (by rw [hD]; rfl) (by rw [hsz]; decide) (by rw [hl]; decide)), hb1, rR, hBo, hNb, hFr, (fun h1 => by change (SP.new 1 1 R8 84).P _ ((ac.put (some 32) _).eval (.tmp 34)); rw [eval_put_other ac _ (by decide)]; exact ti6 (by rwa [getD_set _ _ _ (by decide)] at h1))⟩)
      · have hk3 := hk
        have e0 := ((hF.keep 7 (by rw [hD]; rfl)).trans zs7)
        exact wpOp_plain rfl rfl (wp_load_mid 84 (.tmp 7) rfl N7 0 e0 R8 _ rR.all Tryz.underlying84 rfl HI8.out ⟨(hF.put 5 33 (SP.is (.agg R8.toArray)) (.agg R8.toArray) (by rw [hD]; rfl) rfl (by rw [hD]; rfl) (by rw [hsz]; decide) (by rw [hl]; decide)), hb1, rR, hBo, hNb, hFr, (fun h1 => by change (SP.new 1 1 R8 84).P _ ((ac.put (some 33) _).eval (.tmp 34)); rw [eval_put_other ac _ (by decide)]; exact ti6 (by rwa [getD_set _ _ _ (by decide)] at h1))⟩)
      · have hk3 := hk
        have e33 := (hF.done 5 (33, SP.is (.agg R8.toArray)) (by rw [hD]; rfl) (ready_dep hk 5 (by kernel_rfl)))
        refine wpOp_plain rfl rfl (wp_bRow (.tmp 33) rfl R8 HL8.out e33 ?_)
        intro W2 q hB
        exact ⟨((hF.world hB).put 6 34 (SP.any) (.slice (some ⟨W.heap.size, 0, none⟩) 1 1) (by rw [hD]; rfl) trivial (by rw [hD]; rfl) (by rw [hsz]; decide) (by rw [hl]; decide)), hb1.trans (hB.mono hb1.size), Row.below rR hB (Row.lt rR), hBo.below hB, hNb.below hB, hFr.below hB, (fun _ => by change (SP.new 1 1 R8 84).P _ ((ac.put (some 34) _).eval (.tmp 34)); rw [eval_put_same ac _ (by rw [hF.size, hsz]; decide)]; exact ⟨_, rfl, q⟩)⟩
      · exact absurd rfl hne
      · have hk3 := hk
        have e0 := (hF.done 0 (28, SP.is (.pointer (some ⟨p, 0, none⟩))) (by rw [hD]; rfl) (ready_dep hk 0 (by kernel_rfl)))
        exact wpOp_plain rfl rfl (wp_nilcI rfl p e0 ⟨(hF.put 8 36 (SP.is (.pointer (some ⟨p, 0, none⟩))) (.pointer (some ⟨p, 0, none⟩)) (by rw [hD]; rfl) rfl (by rw [hD]; rfl) (by rw [hsz]; decide) (by rw [hl]; decide)), hb1, rR, hBo, hNb, hFr, (fun h1 => by change (SP.new 1 1 R8 84).P _ ((ac.put (some 36) _).eval (.tmp 34)); rw [eval_put_other ac _ (by decide)]; exact ti6 (by rwa [getD_set _ _ _ (by decide)] at h1))⟩)
      · have hk3 := hk
        have e0 := (hF.done 8 (36, SP.is (.pointer (some ⟨p, 0, none⟩))) (by rw [hD]; rfl) (ready_dep hk 8 (by kernel_rfl)))
        exact wpOp_plain rfl rfl (wp_fbx rfl p e0 ⟨(hF.put 9 37 (SP.is (.pointer (some ⟨p, 0, none⟩))) (.pointer (some ⟨p, 0, none⟩)) (by rw [hD]; rfl) rfl (by rw [hD]; rfl) (by rw [hsz]; decide) (by rw [hl]; decide)), hb1, rR, hBo, hNb, hFr, (fun h1 => by change (SP.new 1 1 R8 84).P _ ((ac.put (some 37) _).eval (.tmp 34)); rw [eval_put_other ac _ (by decide)]; exact ti6 (by rwa [getD_set _ _ _ (by decide)] at h1))⟩)
      · exact absurd (ready_dep hk 7 (by kernel_rfl)) hnl
    · clear ha0 hb1 rR hBo hNb hFr
      intro listed ac W hl hI hdn hk
      replace hl : listed.size = 11 := hl
      obtain ⟨hF, hb1, rR, hBo, hNb, hFr, ti6⟩ := hI
      have e32 := (hF.done 4 (32, SP.is (.slice Av N cv)) (by rw [hD]; rfl) (ready_dep hk 4 (by kernel_rfl)))
      obtain ⟨M, e34, q1⟩ := (ti6 (ready_dep hk 6 (by kernel_rfl)))
      have hno10 : ¬ listed.getD 10 false = true := fun h => not_yet hk (hdn 10 h 7 (by kernel_rfl))
      obtain ⟨cs, hLw, hcs⟩ := hBo.own
      refine wpOp_plain rfl rfl (wp_appL 64 84 81 168 Tryz.underlying64 info_rowO (by decide) (by decide) (.tmp 32) (.tmp 34) rfl (.slice Av N cv) N cs R8 e32 (by rw [HNE.out]; rw [HNE.out] at hLw; exact hLw) M HL8.out e34 q1.all HO8.out HNM.out ?_)
      intro v5 W2 p1 p2 p3
      obtain ⟨A7, c7, e7, _, _⟩ := Lw.form p1
      subst e7
      have hT : Fp D a0 listed ac W2 := hF.turn (by rw [hD]; simp only [List.forall_mem_cons, List.not_mem_nil, false_implies, implies_true, and_true]; exact ⟨fun _ h => h, fun _ h => h, fun _ h => h, fun _ h => h, fun _ h => h, fun _ h => h, fun _ h => h, fun _ h => h, fun _ h => h, fun _ h => h, fun _ h => h⟩)
      exact ⟨A7, c7, (hT.put 7 35 SP.any _ (by rw [hD]; rfl) trivial (by rw [hD]; rfl) (by rw [hsz]; decide) (by rw [hl]; decide)), (eval_put_same ac _ (by rw [hF.size, hsz]; decide)), (by rw [getD_set _ _ _ (by decide), if_neg hno10]; exact row_gb hBo.row p2 (some_ne (Lw.ne hLw hBo.row (by decide)))), (Bxo.grow hBo hLw hcs HNE.out hNb HR8.out HWM.out HDD.out p1 p2 p3), (hFr.grown p2 (fun g eg => .inl (.inr eg))), (p3.imp id (fun eg => ⟨_, eg, hFr.size⟩))⟩
    · clear ha0 hb1 rR hBo hNb hFr
      intro listed ac W k hl hJ hdn hk hne hyl
      replace hl : listed.size = 11 := hl
      obtain ⟨A7, c7, hF, hJ1, hJ2, hJ3, hJ4, hJ5⟩ := hJ
      have hk1 : k < 11 := List.mem_range.1 (List.mem_filter.1 hk).1
      rcases (show k = 0 ∨ k = 1 ∨ k = 2 ∨ k = 3 ∨ k = 4 ∨ k = 5 ∨ k = 6 ∨ k = 7 ∨ k = 8 ∨ k = 9 ∨ k = 10 by omega) with rfl | rfl | rfl | rfl | rfl | rfl | rfl | rfl | rfl | rfl | rfl
      · have hk3 := hk
        exact wpOp_plain rfl rfl (wp_move_v (ac.eval (.tmp 0)) rfl rfl ⟨A7, c7, (hF.put 0 28 (SP.is (.pointer (some ⟨p, 0, none⟩))) (ac.eval (.tmp 0)) (by rw [hD]; rfl) (((hF.keep 0 (by rw [hD]; rfl)).trans zs0)) (by rw [hD]; rfl) (by rw [hsz]; decide) (by rw [hl]; decide)), (eval_put_other ac _ (by decide)).trans (hJ1), (by rw [getD_set _ _ _ (by decide)]; exact hJ2), hJ3, hJ4, hJ5⟩)
      · exact absurd (hdn 2 (hdn 3 (hdn 4 (hdn 7 hyl 4 (by kernel_rfl)) 3 (by kernel_rfl)) 2 (by kernel_rfl)) 1 (by kernel_rfl)) (not_yet hk)
      · exact absurd (hdn 3 (hdn 4 (hdn 7 hyl 4 (by kernel_rfl)) 3 (by kernel_rfl)) 2 (by kernel_rfl)) (not_yet hk)
      · exact absurd (hdn 4 (hdn 7 hyl 4 (by kernel_rfl)) 3 (by kernel_rfl)) (not_yet hk)
      · exact absurd (hdn 7 hyl 4 (by kernel_rfl)) (not_yet hk)
      · exact absurd (hdn 6 (hdn 7 hyl 6 (by kernel_rfl)) 5 (by kernel_rfl)) (not_yet hk)
      · exact absurd (hdn 7 hyl 6 (by kernel_rfl)) (not_yet hk)
      · exact absurd rfl hne
      · have hk3 := hk
        have e0 := (hF.done 0 (28, SP.is (.pointer (some ⟨p, 0, none⟩))) (by rw [hD]; rfl) (ready_dep hk 0 (by kernel_rfl)))
        exact wpOp_plain rfl rfl (wp_nilcI rfl p e0 ⟨A7, c7, (hF.put 8 36 (SP.is (.pointer (some ⟨p, 0, none⟩))) (.pointer (some ⟨p, 0, none⟩)) (by rw [hD]; rfl) rfl (by rw [hD]; rfl) (by rw [hsz]; decide) (by rw [hl]; decide)), (eval_put_other ac _ (by decide)).trans (hJ1), (by rw [getD_set _ _ _ (by decide)]; exact hJ2), hJ3, hJ4, hJ5⟩)
      · have hk3 := hk
        have e0 := (hF.done 8 (36, SP.is (.pointer (some ⟨p, 0, none⟩))) (by rw [hD]; rfl) (ready_dep hk 8 (by kernel_rfl)))
        exact wpOp_plain rfl rfl (wp_fbx rfl p e0 ⟨A7, c7, (hF.put 9 37 (SP.is (.pointer (some ⟨p, 0, none⟩))) (.pointer (some ⟨p, 0, none⟩)) (by rw [hD]; rfl) rfl (by rw [hD]; rfl) (by rw [hsz]; decide) (by rw [hl]; decide)), (eval_put_other ac _ (by decide)).trans (hJ1), (by rw [getD_set _ _ _ (by decide)]; exact hJ2), hJ3, hJ4, hJ5⟩)
      · have hk3 := hk
        have e37 := (hF.done 9 (37, SP.is (.pointer (some ⟨p, 0, none⟩))) (by rw [hD]; rfl) (ready_dep hk 9 (by kernel_rfl)))
        rw [if_neg (not_yet hk)] at hJ2
        refine wpOp_plain rfl rfl (wp_set1I 64 (.tmp 37) (.tmp 35) rfl p 0 (.slice A7 (N + 1) c7) [.slice Av N cv] 66 e37 hJ1 rfl hJ2 (Nat.succ_pos _) info_rws rfl ?_)
        intro W2 p1 p2
        have hT : Fp D a0 listed ac W2 := hF.turn (by rw [hD]; simp only [List.forall_mem_cons, List.not_mem_nil, false_implies, implies_true, and_true]; exact ⟨fun _ h => h, fun _ h => h, fun _ h => h, fun _ h => h, fun _ h => h, fun _ h => h, fun _ h => h, fun _ h => h, fun _ h => h, fun _ h => h, fun _ h => h⟩)
        exact ⟨A7, c7, (hT.skip 10 1000 (by rw [hD]; rfl) (by rw [hl]; decide)), hJ1, (by rw [if_pos (getD_same (by rw [hl]; decide))]; exact p1), (hJ3.set hJ2 p2 HP0.out), (Gro.trans hJ4 (Gro.mono p2 (fun g q => .inl q))), hJ5⟩
    · clear hb1 rR hBo hNb hFr
      intro listed ac W hl hJ hr
      replace hl : listed.size = 11 := hl
      obtain ⟨A7, c7, hF, hJ1, hJ2, hJ3, hJ4, hJ5⟩ := hJ
      have hall := all_listed (by kernel_rfl) hl hr
      rw [if_pos (hall 10 (by decide))] at hJ2
      have h28 : ac.eval (.tmp 28) = .pointer (some ⟨p, 0, none⟩) := hF.done 0 (28, SP.is (.pointer (some ⟨p, 0, none⟩))) (by rw [hD]; rfl) (hall 0 (by decide))
      have h29 : ac.eval (.tmp 29) = .pointer (some ⟨p, 0, none⟩) := hF.done 1 (29, SP.is (.pointer (some ⟨p, 0, none⟩))) (by rw [hD]; rfl) (hall 1 (by decide))
      have h30 : ac.eval (.tmp 30) = .pointer (some ⟨p, 0, none⟩) := hF.done 2 (30, SP.is (.pointer (some ⟨p, 0, none⟩))) (by rw [hD]; rfl) (hall 2 (by decide))
      have h31 : ac.eval (.tmp 31) = .pointer (some ⟨p, 0, none⟩) := hF.done 3 (31, SP.is (.pointer (some ⟨p, 0, none⟩))) (by rw [hD]; rfl) (hall 3 (by decide))
      have h32 : ac.eval (.tmp 32) = .slice Av N cv := hF.done 4 (32, SP.is (.slice Av N cv)) (by rw [hD]; rfl) (hall 4 (by decide))
      have h33 : ac.eval (.tmp 33) = .agg R8.toArray := hF.done 5 (33, SP.is (.agg R8.toArray)) (by rw [hD]; rfl) (hall 5 (by decide))
      obtain ⟨x34, h34⟩ : ∃ x, ac.eval (.tmp 34) = x := ⟨_, rfl⟩
      have h36 : ac.eval (.tmp 36) = .pointer (some ⟨p, 0, none⟩) := hF.done 8 (36, SP.is (.pointer (some ⟨p, 0, none⟩))) (by rw [hD]; rfl) (hall 8 (by decide))
      have h37 : ac.eval (.tmp 37) = .pointer (some ⟨p, 0, none⟩) := hF.done 9 (37, SP.is (.pointer (some ⟨p, 0, none⟩))) (by rw [hD]; rfl) (hall 9 (by decide))
      have ea := hF.lay [(28, .pointer (some ⟨p, 0, none⟩)), (29, .pointer (some ⟨p, 0, none⟩)), (30, .pointer (some ⟨p, 0, none⟩)), (31, .pointer (some ⟨p, 0, none⟩)), (32, .slice Av N cv), (33, .agg R8.toArray), (34, x34), (35, .slice A7 (N + 1) c7), (36, .pointer (some ⟨p, 0, none⟩)), (37, .pointer (some ⟨p, 0, none⟩))] (by rw [hD, hsz]; rfl) (by simp only [List.forall_mem_cons, List.not_mem_nil, false_implies, implies_true, and_true]; exact ⟨h28, h29, h30, h31, h32, h33, h34, hJ1, h36, h37⟩)
      rw [ha0] at ea
      simp only [List.foldl_cons, List.foldl_nil, List.setIfInBounds_toArray, List.set_cons_zero, List.set_cons_succ] at ea
      clear hF hall hr hl hD zs0 zs7 ha0 hsz h28 h29 h30 h31 h32 h33 h34 hJ1 h36 h37
      subst ea
      have HJ2 : Hid (Row W p [.slice A7 (N + 1) c7] 66) := hJ2
      have HJ3 : Hid (Bxo w0 W (.slice A7 (N + 1) c7) (es ++ [e])) := hJ3
      have HJ4 : Hid (Gro (fun g => g = p ∨ (Value.slice Av N cv).ownBlock = some g) w W) := hJ4
      have HJ5 : Hid _ := hJ5
      clear hJ2 hJ3 hJ4 hJ5
      go_wp2
      go_ret2
      exact ⟨rfl, _, HJ3.out.bx HJ2.out HP0.out, HJ4.out, HJ5.out⟩

end Go.Proofs.YtknabkoddickaaaGreatDoor
