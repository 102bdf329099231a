/-
  the law's book of bytes: laws towards still.
-/
import Derived.Test.YtehjadgmleoobaaBoB
import Derived.Test.YtehjadgmleoobaaRqF
import Derived.Maps.AppendAt
namespace Go.Proofs.Ytehjadgmleoobaa
open Go Go.RowKit
open Sha

theorem run_append_old {P : Program} (w : World) (base : Nat) (t ty e : TypeId) (i : TypeInfo) (z : Value) (size bytes : Nat) (ht : P.underlying t = some (.slice e)) (hi : P.info? e = some i) (hz : i.zero = some z)
    (hsize : i.size = size) (hby : i.bytes = bytes) (hzs : z.cells.size = size) (hsz : 0 < size)
    (v : Value) (n : Nat) (xs : List Value) (hown : w.ownsRow base e size v n xs)
    (a : Addr) (m c : Nat) (news : List Value) (hl : news.length = m * size) (hnews : ∀ j u, news[j]? = some u → w.cell? (a.add j) = some u) (h1 : ∀ u ∈ news, u.oneCell' = true)
    (h63 : n + m ≤ maxLen) (hbytes : (n + m) * bytes ≤ 140737488355328) (hbase : base ≤ w.heap.size) :
    ∃ v' w', (Builtin.append_ #[t, t] ty #[v, .slice (some a) m c]).run P w = .ok v' w' ∧ w'.ownsRow base e size v' (n + m) (xs ++ news) ∧ w.grownBy w' v.ownBlock ∧
      (v'.ownBlock = v.ownBlock ∨ v'.ownBlock = some w.heap.size) ∧ w'.ownsRow base e size v n xs := by
  obtain ⟨v', w', hr, q2, q3, _, q5⟩ := run_append_own_at (P := P) w base t ty e i z size bytes ht hi hz hsize hby hzs hsz v n xs hown a m c news hl hnews h1 h63 hbytes hbase
  refine ⟨v', w', hr, q2, q3, q5, ?_⟩
  subst hsize
  subst hby
  have hsmall : n + m ≤ 9223372036854775807 := by simp only [maxLen] at h63; omega
  rcases hown.2 with ⟨rfl, rfl⟩ | ⟨g, cap, cur, rfl, hbg, hg, hnc, hcm, hcs, htake⟩
  · exact ⟨hown.1, .inl ⟨rfl, rfl⟩⟩
  · have hgl : g < w.heap.size := (Array.getElem?_eq_some_iff.1 hg).1
    by_cases hroom : n + m ≤ cap
    · have hfit : n * i.size + news.length ≤ cur.size := by rw [hl, hcs, ← Nat.add_mul]; exact Nat.mul_le_mul_right _ hroom
      have hr2 := run_append_room (P := P) w t ty e i ht hi g n cap cur hg a m c news hl hnews h1 hroom hfit
      have e2 := hr.symm.trans hr2
      simp only [Result.ok.injEq] at e2
      obtain ⟨rfl, rfl⟩ := e2
      refine ⟨hown.1, .inr ⟨g, cap, _, rfl, hbg, setRow_heap w g cur _ e _ hg, hnc, hcm, ?_, ?_⟩⟩
      · simp only [List.size_toArray, List.length_append, List.length_take, List.length_drop, Array.length_toList]
        omega
      · rw [htake]
        simp only [List.append_assoc]
        rw [List.take_append_of_le_length (by rw [hown.1]; exact Nat.le_refl _), List.take_of_length_le (by rw [hown.1]; exact Nat.le_refl _)]
    · have holds : ∀ j u, xs[j]? = some u → w.cell? ((⟨g, 0, none⟩ : Addr).add j) = some u := hown.cells (g := g) rfl
      have hr2 := run_append_grow (P := P) w t ty e i z ht hi hz ⟨g, 0, none⟩ n cap xs hown.1 holds a m c news hl hnews (by omega) (by omega) (growslice_fits (by omega) hbytes)
      have e2 := hr.symm.trans hr2
      simp only [Result.ok.injEq] at e2
      obtain ⟨rfl, rfl⟩ := e2
      exact ⟨hown.1, .inr ⟨g, cap, cur, rfl, hbg, (Below.heap_alloc w.drew _ g hgl).trans hg, hnc, hcm, hcs, htake⟩⟩
section
variable {P : Program} {Q : Exit → Act → World → Prop} {o : Oper} {a : Act} {w : World} {K : Act → World → Prop}
theorem wp_ixs (T e : TypeId) {x y : Operand} (ho : o.op = .indexAddr T x y) (b f n c t s : Nat) (hx : a.eval x = .slice (some ⟨b, f, none⟩) n c) (hy : a.eval y = .int .i64 (t : Int)) (ht : t < n)
    (hu : P.underlying T = some (.slice e)) (hs : (P.info? e).map (·.size) = some s) (h : K (a.put o.dst (.pointer (some ⟨b, f + t * s, none⟩))) w) : Oper.wp P o a w K Q := by
  refine wp_pure (v := .pointer (some ⟨b, f + t * s, none⟩)) ?_ h
  have hr : (Instr.indexAt T (.slice (some ⟨b, f, none⟩) n c) (.int .i64 (t : Int))).run P w = .ok (.pointer (some ⟨b, f + t * s, none⟩)) w := by
    cases hi : P.info? e with
    | none => rw [hi] at hs; cases hs
    | some ie =>
      rw [hi] at hs
      have h4 : ie.size = s := by simpa using hs
      simp [Instr.indexAt, run_underlying hu, asIntOf, ht, sizeOf, typeInfo, hi, h4, Addr.add_mid]
  unfold execOp
  simp only [ho, hx, hy, Sem.run_bind, hr, Result.andThen_ok]
  rfl
end
section
variable {Q : Exit → Act → World → Prop} {o : Oper} {a : Act} {w : World} {K : Act → World → Prop}
theorem wp_convs {x : Operand} (ho : o.op = .convert 29 9 x) (d : List (BitVec 8)) (v : Value) (hx : a.eval x = v) (hv : SlAt w v d) (h : K (a.put o.dst (.string (str d))) w) : Oper.wp Try.prog o a w K Q := by
  have hr := run_convert_sl (P := Try.prog) w 29 5 9 Try.underlying29 Try.underlying5 Try.underlying9 v d hv
  unfold Oper.wp execOp
  simp only [ho, hx, Sem.run_bind, hr, Result.andThen_ok, Sem.run_pure, Oper.upon_value]
  exact h
theorem wp_neqs {x y : Operand} {t yt : TypeId} (ho : o.op = .binOp .neq t x y yt) (d : List (BitVec 8)) (hx : a.eval x = .string (str d)) (hy : a.eval y = .string (str d)) (h : K (a.put o.dst (.bool false)) w) : Oper.wp Try.prog o a w K Q := by
  unfold Oper.wp execOp
  simp only [ho, hx, hy]
  simp [go_sem]
  exact h
theorem wp_setb (x y : Operand) (ho : o.op = .store 5 x y) (b i : Nat) (z : Int) (cs : List Value) (t : TypeId) (hx : a.eval x = .pointer (some ⟨b, i, none⟩)) (hy : a.eval y = .int .u8 z) (r : Row w b cs t) (hl : i < cs.length)
    (h : ∀ X, X = w.setCell ⟨b, i, none⟩ (.int .u8 z) → K (a.put o.dst undef) X) : Oper.wp Try.prog o a w K Q := by
  have ht := r.there i 1 (by omega)
  have hr : (storeVar 5 ⟨b, i, none⟩ (.int .u8 z)).run Try.prog w = .ok () (w.setCell ⟨b, i, none⟩ (.int .u8 z)) := by
    have := run_storeCells_cells (P := Try.prog) b i [.int .u8 z] 0 w (fun j hj => by simpa using (ht j (by simpa using hj)).1) (fun j hj => by simpa using (ht j (by simpa using hj)).2) (fun u hu => by simp at hu; rw [hu]; rfl)
    have hi := info_u8
    cases hq : Try.prog.info? 5 with
    | none => simp [hq] at hi
    | some ie =>
      have hs : ie.size = 1 := by simpa [hq] using hi
      simp only [Nat.add_zero, World.setCells] at this
      simp [storeVar, sizeOf, typeInfo, hq, Value.cells, hs, this]
  unfold Oper.wp execOp
  simp only [ho, hx, hy, Instr.storeAt, Instr.sureAddr, Sem.run_bind, Sem.run_pure, Result.andThen_ok, hr]
  exact h _ rfl
end
theorem bw_row2 {w : World} {g n cap : Nat} {d : List (BitVec 8)} (h : Bw w (.slice (some ⟨g, 0, none⟩) n cap) d) : ∃ cur : List Value, Row w g cur 5 ∧ cur.length = cap ∧ n ≤ cap ∧ cap ≤ maxLen ∧ cur.take n = vB d ∧ d.length = n := by
  rcases h.2 with ⟨q, _⟩ | ⟨g', cap', cur, q, _, hh, hc, hm, hs, ht⟩
  · cases q
  · simp only [Value.slice.injEq, Option.some.injEq, Addr.mk.injEq] at q
    obtain ⟨⟨rfl, _, _⟩, hn, rfl⟩ := q
    refine ⟨cur.toList, by unfold Row; rw [hh], by simpa using hs, by omega, hm, ?_, by omega⟩
    rw [← ht, Nat.mul_one, hn]
theorem bw_of {w : World} {g n cap : Nat} {d : List (BitVec 8)} {cur : List Value} (r : Row w g cur 5) (h1 : cur.length = cap) (h2 : n ≤ cap) (h3 : cap ≤ maxLen) (h4 : cur.take n = vB d) (h5 : d.length = n) : Bw w (.slice (some ⟨g, 0, none⟩) n cap) d := by
  subst h5
  exact ⟨by rw [vB_length, Nat.mul_one], .inr ⟨g, cap, cur.toArray, rfl, Nat.zero_le _, r, h2, h3, by simp [h1], by rw [Nat.mul_one]; exact h4⟩⟩
theorem Bw.setAt {w : World} {g n cap : Nat} {d : List (BitVec 8)} (h : Bw w (.slice (some ⟨g, 0, none⟩) n cap) d) (k : Nat) (_hk : k < n) (x : BitVec 8) : Bw (w.setCell ⟨g, k, none⟩ (.int .u8 (c x))) (.slice (some ⟨g, 0, none⟩) n cap) (d.set k x) := by
  obtain ⟨cur, r, h1, h2, h3, h4, h5⟩ := bw_row2 h
  refine bw_of (r.set k _) (by rw [List.length_set]; exact h1) h2 h3 ?_ (by rw [List.length_set]; exact h5)
  rw [← vB_set, ← h4, List.take_set]
/-- A list whose memory begins another one's. -/
theorem Bw.front {w w' : World} {g n cap m cap' : Nat} {d e : List (BitVec 8)} (h : Bw w (.slice (some ⟨g, 0, none⟩) n cap) d) (k : Bw w (.slice (some ⟨g, 0, none⟩) m cap') e) (k' : Bw w' (.slice (some ⟨g, 0, none⟩) m cap') e) (hn : n ≤ m) (hd : e.take n = d) : Bw w' (.slice (some ⟨g, 0, none⟩) n cap) d := by
  obtain ⟨cur, r, h1, h2, h3, _, h5⟩ := bw_row2 h
  obtain ⟨cur1, r1, k1, _, _, _, _⟩ := bw_row2 k
  obtain ⟨cur2, r2, q1, _, _, q4, _⟩ := bw_row2 k'
  have ec : cap' = cap := by
    have := r.symm.trans r1
    simp only [Option.some.injEq, Obj.cells.injEq] at this
    have e2 : cur = cur1 := by simpa using this.1
    rw [← k1, ← h1, e2]
  refine bw_of r2 (by rw [q1, ec]) h2 h3 ?_ h5
  rw [← hd]
  have : cur2.take n = (cur2.take m).take n := by rw [List.take_take, Nat.min_eq_left hn]
  rw [this, q4]
  unfold vB
  rw [List.map_take]
/-- A book whose answers are written over. -/
structure Bm (w0 w : World) (B : Nat) (rw vl : Value) (us : List Value) (ds : List (List (BitVec 8))) : Prop where
  row : Row w B (bkc vl rw) 28
  ll : Lw w 29 1 vl ds.length us
  eu : ∀ (i : Nat) (d : List (BitVec 8)), ds[i]? = some d → ∃ u, us[i]? = some u ∧ Bw w u d
  au : ∀ (i j : Nat) (u v : Value), i < j → us[i]? = some u → us[j]? = some v → ∀ g, u.ownBlock = some g → v.ownBlock ≠ some g
  b0 : w0.heap.size ≤ B
  l0 : ∀ g, vl.ownBlock = some g → w0.heap.size ≤ g
  u0 : ∀ u ∈ us, ∀ g, u.ownBlock = some g → w0.heap.size ≤ g
  be : Below w0.heap.size w0 w
section
variable {w0 w w' : World} {B : Nat} {rl rw vl vw : Value} {us ws : List Value} {ds es : List (List (BitVec 8))}
theorem Bbk.bm (h : Bbk w0 w B vl rw vl vw us ws ds es) : Bm w0 w B rw vl us ds := ⟨h.row, h.ll, h.eu, h.au, h.b0, h.l0, h.u0, h.be⟩
theorem Bm.below (h : Bm w0 w B rw vl us ds) (k : Below w.heap.size w w') : Bm w0 w' B rw vl us ds :=
  ⟨Row.below h.row k h.row.lt, Lw.be h.ll k, fun i d hd => by obtain ⟨u, q1, q2⟩ := h.eu i d hd; exact ⟨u, q1, Bw.be q2 k⟩, h.au, h.b0, h.l0, h.u0, h.be.trans (k.mono h.be.size)⟩
theorem Bm.apart (h : Bm w0 w B rw vl us ds) (i j : Nat) (u v : Value) (hij : i ≠ j) (hu : us[i]? = some u) (hv : us[j]? = some v) : ∀ g, u.ownBlock = some g → v.ownBlock ≠ some g := fun g e q => by
  rcases Nat.lt_or_gt_of_ne hij with k | k
  · exact h.au i j u v k hu hv g e q
  · exact h.au j i v u k hv hu g q e
theorem Bm.get (h : Bm w0 w B rw vl us ds) (i : Nat) (d : List (BitVec 8)) (u : Value) (hd : ds[i]? = some d) (hu : us[i]? = some u) : Bw w u d := by
  obtain ⟨u', q1, q2⟩ := h.eu i d hd
  rw [hu] at q1
  obtain rfl := Option.some.inj q1
  exact q2
/-- A byte written over. -/
theorem Bm.mark (h : Bm w0 w B rw vl us ds) (i : Nat) (d : List (BitVec 8)) (g n cap : Nat) (hd : ds[i]? = some d) (hu : us[i]? = some (.slice (some ⟨g, 0, none⟩) n cap)) (k : Nat) (hk : k < n) (x : BitVec 8) : Bm w0 (w.setCell ⟨g, k, none⟩ (.int .u8 (c x))) B rw vl us (ds.set i (d.set k x)) := by
  have hb := h.get i d _ hd hu
  have G : Gro (· = g) w (w.setCell ⟨g, k, none⟩ (.int .u8 (c x))) := (Gro.refl _ _).set g k _ rfl
  refine ⟨G.row h.row (fun e => Bw.ne hb h.row (by decide) g rfl e.symm), by rw [List.length_set]; exact Lw.gro h.ll G (fun g' e q => bl_ne hb h.ll (by decide) g rfl (by rw [q] at e; exact e.symm)), fun j e he => ?_, h.au, h.b0, h.l0, h.u0, h.be.trans (G.to_below h.be.size (fun j q => by rw [q]; exact h.u0 _ (List.mem_of_getElem? hu) g rfl))⟩
  by_cases hij : i = j
  · subst hij
    rw [List.getElem?_set_self (List.getElem?_eq_some_iff.1 hd).1] at he
    obtain rfl := Option.some.inj he
    exact ⟨_, hu, hb.setAt k hk x⟩
  · rw [List.getElem?_set_ne hij] at he
    obtain ⟨u, q1, q2⟩ := h.eu j e he
    exact ⟨u, q1, Bw.gro q2 G (fun g' e1 e2 => h.apart i j _ u hij hu q1 g rfl (by rw [← e2]; exact e1))⟩
end
/-- So many of the answers bear their owners' marks. -/
structure Mk (ds es : List (List (BitVec 8))) (t : Nat) : Prop where
  len : es.length = ds.length
  each : ∀ (i : Nat) (d e : List (BitVec 8)), ds[i]? = some d → es[i]? = some e → e.length = d.length ∧ (i < t → e = bms i d.length)
theorem Mk.start (ds : List (List (BitVec 8))) : Mk ds ds 0 := ⟨rfl, fun i d e hd he => by rw [hd] at he; obtain rfl := Option.some.inj he; exact ⟨rfl, fun h => by omega⟩⟩
theorem Mk.set {ds es : List (List (BitVec 8))} {t : Nat} (h : Mk ds es t) (e : List (BitVec 8)) (he : es[t]? = some e) (k : Nat) (x : BitVec 8) : Mk ds (es.set t (e.set k x)) t :=
  ⟨by rw [List.length_set]; exact h.len, fun i d e' hd he' => by
    by_cases hij : t = i
    · subst hij
      rw [List.getElem?_set_self (List.getElem?_eq_some_iff.1 he).1] at he'
      obtain rfl := Option.some.inj he'
      exact ⟨by rw [List.length_set]; exact (h.each t d e hd he).1, fun q => by omega⟩
    · rw [List.getElem?_set_ne hij] at he'
      exact h.each i d e' hd he'⟩
theorem Mk.next {ds es : List (List (BitVec 8))} {t : Nat} (h : Mk ds es t) (e : List (BitVec 8)) (he : es[t]? = some e) (hm : ∀ q, q < e.length → e.getD q 0 = bmk t q) : Mk ds es (t + 1) :=
  ⟨h.len, fun i d e' hd he' => by
    refine ⟨(h.each i d e' hd he').1, fun q => ?_⟩
    by_cases hij : i = t
    · subst hij
      rw [he] at he'
      obtain rfl := Option.some.inj he'
      have hl := (h.each i d e hd he).1
      rw [← hl]
      apply List.ext_getElem (by rw [bms_len])
      intro j h1 h2
      have := hm j h1
      rw [List.getD_eq_getElem?_getD, List.getElem?_eq_getElem h1] at this
      simpa [bms] using this
    · exact (h.each i d e' hd he').2 (by omega)⟩
/-- The answers grown: so many. -/
structure Gs (w0 : World) (N0 : Nat) (w : World) (B : Nat) (rw vl : Value) (us : List Value) (es : List (List (BitVec 8))) (vg : Value) (t : Nat) (gs : List Value) : Prop where
  bm : Bm w0 w B rw vl us es
  lg : Lw w 29 1 vg t gs
  g0 : ∀ g, vg.ownBlock = some g → N0 ≤ g
  each : ∀ (i : Nat) (e : List (BitVec 8)), i < t → es[i]? = some e → ∃ v, gs[i]? = some v ∧ Bw w v (bms i (e.length + 16))
  blk : ∀ (i : Nat) (v : Value), gs[i]? = some v → ∀ g, v.ownBlock = some g → N0 ≤ g ∨ ∃ u, us[i]? = some u ∧ u.ownBlock = some g
  ult : ∀ u ∈ us, ∀ g, u.ownBlock = some g → g < N0
  vlt : ∀ g, vl.ownBlock = some g → g < N0
  le : w0.heap.size ≤ N0
  sz : N0 ≤ w.heap.size
/-- The one that grows. -/
structure Gv (N0 : Nat) (w : World) (us gs : List Value) (t m s : Nat) (u v : Value) : Prop where
  bw : Bw w v (bms t (m + s))
  blk : ∀ g, v.ownBlock = some g → N0 ≤ g ∨ u.ownBlock = some g
  ap : ∀ x ∈ gs, ∀ g, x.ownBlock = some g → v.ownBlock ≠ some g
section
variable {w0 w w' : World} {N0 B : Nat} {rw vl vg : Value} {us gs : List Value} {es : List (List (BitVec 8))} {t m s : Nat} {u v : Value}
theorem Gs.below (h : Gs w0 N0 w B rw vl us es vg t gs) (k : Below w.heap.size w w') : Gs w0 N0 w' B rw vl us es vg t gs :=
  ⟨h.bm.below k, Lw.be h.lg k, h.g0, fun i e hi he => by obtain ⟨v, q1, q2⟩ := h.each i e hi he; exact ⟨v, q1, Bw.be q2 k⟩, h.blk, h.ult, h.vlt, h.le, Nat.le_trans h.sz k.size⟩
theorem Gv.below (h : Gv N0 w us gs t m s u v) (k : Below w.heap.size w w') : Gv N0 w' us gs t m s u v := ⟨Bw.be h.bw k, h.blk, h.ap⟩
/-- One byte more. -/
theorem Gs.grow (h : Gs w0 N0 w B rw vl us es vg t gs) (k : Gv N0 w us gs t m s u v) (e : List (BitVec 8)) (he : es[t]? = some e) (hem : e = bms t m) (hu : us[t]? = some u) (v' : Value) (q1 : Bw w' v' (bms t (m + s + 1))) (q2 : w.grownBy w' v.ownBlock) (q3 : v'.ownBlock = v.ownBlock ∨ v'.ownBlock = some w.heap.size) (q4 : Bw w' v (bms t (m + s))) : Gs w0 N0 w' B rw vl us es vg t gs ∧ Gv N0 w' us gs t m (s + 1) u v' := by
  have hbu := h.bm.get t e u he hu
  have hrv : ∀ g, v.ownBlock = some g → w0.heap.size ≤ g := fun g q => by
    rcases k.blk g q with h1 | h1
    · exact Nat.le_trans h.le h1
    · exact h.bm.u0 u (List.mem_of_getElem? hu) g h1
  have put : ∀ x d, Bw w x d → (∀ g, x.ownBlock = some g → v.ownBlock ≠ some g) → Bw w' x d := fun x d q hn => Bw.block q (fun g e1 => q2.block g (Bw.lt q g e1) (fun e2 => hn g e1 e2.symm))
  refine ⟨⟨⟨row_gb h.bm.row q2 (some_ne (Bw.ne k.bw h.bm.row (by decide))), Lw.gb h.bm.ll q2 (fun g e1 e2 => bl_ne k.bw h.bm.ll (by decide) g e2.symm e1.symm), fun i d hd => ?_, h.bm.au, h.bm.b0, h.bm.l0, h.bm.u0, below_gb h.bm.be q2 hrv⟩, Lw.gb h.lg q2 (fun g e1 e2 => bl_ne k.bw h.lg (by decide) g e2.symm e1.symm), h.g0, fun i d hi hd => ?_, h.blk, h.ult, h.vlt, h.le, Nat.le_trans h.sz q2.size⟩, ⟨q1, fun g q => ?_, fun x hx g q q' => ?_⟩⟩
  · by_cases hit : i = t
    · subst hit
      rw [he] at hd
      obtain rfl := Option.some.inj hd
      refine ⟨u, hu, ?_⟩
      -- the answer itself: apart from what grows, or its front
      by_cases hb : ∃ g, u.ownBlock = some g ∧ v.ownBlock = some g
      · obtain ⟨g, hg1, hg2⟩ := hb
        obtain ⟨Au, cu, eu, _, _⟩ := Bw.form hbu
        obtain ⟨Av, cv, ev, _, _⟩ := Bw.form k.bw
        rw [bms_len] at ev
        subst eu ev
        have ha1 : Au = some ⟨g, 0, none⟩ := by
          rcases hbu.2 with ⟨q, _⟩ | ⟨g', c', cur, q, _⟩
          · rw [q] at hg1; cases hg1
          · simp only [Value.slice.injEq] at q
            rw [q.1] at hg1 ⊢
            have : g' = g := by simpa [Value.ownBlock] using hg1
            rw [this]
        have ha2 : Av = some ⟨g, 0, none⟩ := by
          rcases k.bw.2 with ⟨q, _⟩ | ⟨g', c', cur, q, _⟩
          · rw [q] at hg2; cases hg2
          · simp only [Value.slice.injEq] at q
            rw [q.1] at hg2 ⊢
            have : g' = g := by simpa [Value.ownBlock] using hg2
            rw [this]
        subst ha1 ha2
        have hel : e.length = m := by rw [hem, bms_len]
        refine Bw.front hbu k.bw q4 (by omega) ?_
        rw [hem, bms_len]
        unfold bms
        rw [← List.map_take, List.take_range, Nat.min_eq_left (by omega)]
      · exact put u e hbu (fun g e1 e2 => hb ⟨g, e1, e2⟩)
    · obtain ⟨x, p1, p2⟩ := h.bm.eu i d hd
      refine ⟨x, p1, put x d p2 (fun g e1 e2 => ?_)⟩
      rcases k.blk g e2 with h1 | h1
      · have := h.ult x (List.mem_of_getElem? p1) g e1
        omega
      · exact h.bm.apart i t x u hit p1 hu g e1 h1
  · obtain ⟨x, p1, p2⟩ := h.each i d hi hd
    exact ⟨x, p1, put x _ p2 (fun g e1 => k.ap x (List.mem_of_getElem? p1) g e1)⟩
  · rcases q3 with q3 | q3
    · exact k.blk g (by rw [← q3]; exact q)
    · rw [q3] at q; cases q; exact .inl h.sz
  · rcases q3 with q3 | q3
    · exact k.ap x hx g q (by rw [← q3]; exact q')
    · rw [q3] at q'; cases q'
      obtain ⟨i, hi, hxi⟩ := List.mem_iff_getElem.1 hx
      have hgi : gs[i]? = some x := by rw [List.getElem?_eq_getElem hi, hxi]
      have hit : i < t := by have := Lw.len h.lg; omega
      have hie : i < es.length := by have := (List.getElem?_eq_some_iff.1 he).1; omega
      obtain ⟨x', p1, p2⟩ := h.each i _ hit (List.getElem?_eq_getElem hie)
      rw [hgi] at p1
      obtain rfl := Option.some.inj p1
      exact absurd (Bw.lt p2 _ q) (Nat.lt_irrefl _)
/-- One more has grown. -/
theorem Gs.more (h : Gs w0 N0 w B rw vl us es vg t gs) (k : Gv N0 w us gs t m 16 u v) (e : List (BitVec 8)) (he : es[t]? = some e) (hem : e = bms t m) (hu : us[t]? = some u) (v' : Value) (q1 : Lw w' 29 1 v' (t + 1) (gs ++ [v])) (q2 : w.grownBy w' vg.ownBlock) (q3 : v'.ownBlock = vg.ownBlock ∨ v'.ownBlock = some w.heap.size) : Gs w0 N0 w' B rw vl us es v' (t + 1) (gs ++ [v]) := by
  have put : ∀ x d, Bw w x d → Bw w' x d := fun x d q => Bw.block q (fun g e1 => q2.block g (Bw.lt q g e1) (bl_ne q h.lg (by decide) g e1))
  have hgl : gs.length = t := by have := Lw.len h.lg; omega
  refine ⟨⟨row_gb h.bm.row q2 (some_ne (Lw.ne h.lg h.bm.row (by decide))), Lw.gb h.bm.ll q2 (fun g e1 e2 => by have h1 := h.vlt g e1; have h2 := h.g0 g e2.symm; omega), fun i d hd => ?_, h.bm.au, h.bm.b0, h.bm.l0, h.bm.u0, below_gb h.bm.be q2 (fun g q => Nat.le_trans h.le (h.g0 g q))⟩, q1, fun g q => ?_, fun i d hi hd => ?_, fun i x hx g q => ?_, h.ult, h.vlt, h.le, Nat.le_trans h.sz q2.size⟩
  · obtain ⟨x, p1, p2⟩ := h.bm.eu i d hd
    exact ⟨x, p1, put x d p2⟩
  · rcases q3 with q3 | q3
    · exact h.g0 g (by rw [← q3]; exact q)
    · rw [q3] at q; cases q; exact h.sz
  · by_cases hit : i < t
    · obtain ⟨x, p1, p2⟩ := h.each i d hit hd
      exact ⟨x, by rw [List.getElem?_append_left (by omega)]; exact p1, put x _ p2⟩
    · obtain rfl : i = t := by omega
      rw [he] at hd
      obtain rfl := Option.some.inj hd
      exact ⟨v, by rw [List.getElem?_append_right (by omega), hgl, Nat.sub_self]; rfl, put v _ (by rw [hem, bms_len]; exact k.bw)⟩
  · rcases snoc_get gs v x i hx with p | ⟨p, rfl⟩
    · exact h.blk i x p g q
    · rw [p, hgl]
      rcases k.blk g q with r | r
      · exact .inl r
      · exact .inr ⟨u, hu, r⟩
end
section
variable {ops : Array Oper} {rest : List Oper} {op : Oper} {a : Act} {w : World} {Q : Exit → Act → World → Prop}
/-- append of one byte; the old list stays. -/
theorem wpList_appByte (hgd : op.guard = none) (s x : Operand) (ho : op.op = .call { callee := .builtin .append, args := #[s, x], argTypes := #[29, 29] }) (v : Value) (d : List (BitVec 8)) (y : BitVec 8) (hs : a.eval s = v) (hown : Bw w v d)
    (g2 : Nat) (hx : a.eval x = .slice (some ⟨g2, 0, none⟩) 1 1) (hX : Row w g2 [.int .u8 (c y)] 5) (hk : d.length ≤ 100000000)
    (h : ∀ v' w', Bw w' v' (d ++ [y]) → w.grownBy w' v.ownBlock → (v'.ownBlock = v.ownBlock ∨ v'.ownBlock = some w.heap.size) → Bw w' v d → wpList Try.prog ops Q rest (a.put op.dst v') w') : wpList Try.prog ops Q (op :: rest) a w :=
  wpList_plain hgd fun _ hK => by
    obtain ⟨ie, z, i1, i2, i3, i5, i4⟩ := info_u8open
    obtain ⟨v', w', hr, q2, q3, q5, q6⟩ := run_append_old (P := Try.prog) w 0 29 op.type 5 ie z 1 1 Try.underlying29 i1 i2 i3 i5 i4 (by decide) v d.length (vB d) hown ⟨g2, 0, none⟩ 1 1 [.int .u8 (c y)] rfl (fun j u hj => by rw [Addr.add_mid]; exact hX.all j u hj) (fun u hu => by obtain rfl := List.mem_singleton.1 hu; rfl) (by unfold maxLen; omega) (by omega) (Nat.zero_le _)
    unfold Oper.wp execOp
    simp only [ho, resolve, invoke, builtin, Sem.run_bind, Sem.run_pure, Result.andThen_ok, List.map_toArray, List.map_cons, List.map_nil, hs, hx, hr]
    refine hK _ _ (h v' w' ?_ q3 q5 q6)
    have e : vB (d ++ [y]) = vB d ++ [.int .u8 (c y)] := by simp [vB]
    unfold Bw
    rw [List.length_append, List.length_singleton, e]
    exact q2
end

end Go.Proofs.Ytehjadgmleoobaa
