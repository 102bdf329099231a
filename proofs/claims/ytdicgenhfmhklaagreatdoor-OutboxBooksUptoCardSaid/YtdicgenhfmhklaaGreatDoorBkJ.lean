/-
  OutboxBooks: the law's book of paths: laws towards stillPaths.
-/
import Derived.Test.YtdicgenhfmhklaaGreatDoorBkI
import Derived.Test.YtdicgenhfmhklaaGreatDoorTOwn0
import Derived.Maps.AppendAt
namespace Go.Proofs.YtdicgenhfmhklaaGreatDoor
open Go Go.RowKit
open Sha

theorem run_append_oldP {P : Program} (w : World) (base : Nat) (t ty e : TypeId) (i : TypeInfo) (z : Value) (size bytes : Nat) (ht : P.underlying t = some (.slice e)) (hi : P.info? e = some i) (hz : i.zero = some z)
    (hsize : i.size = size) (hby : i.bytes = bytes) (hzs : z.cells.size = size) (hsz : 0 < size)
    (v : Value) (n : Nat) (xs : List Value) (hown : w.ownsRow base e size v n xs)
    (a : Addr) (m c : Nat) (news : List Value) (hl : news.length = m * size) (hnews : ∀ j u, news[j]? = some u → w.cell? (a.add j) = some u) (h1 : ∀ u ∈ news, u.oneCell' = true)
    (h63 : n + m ≤ maxLen) (hbytes : (n + m) * bytes ≤ 140737488355328) (hbase : base ≤ w.heap.size) :
    ∃ v' w', (Builtin.append_ #[t, t] ty #[v, .slice (some a) m c]).run P w = .ok v' w' ∧ w'.ownsRow base e size v' (n + m) (xs ++ news) ∧ w.grownBy w' v.ownBlock ∧
      (v'.ownBlock = v.ownBlock ∨ v'.ownBlock = some w.heap.size) ∧ w'.ownsRow base e size v n xs := by
  obtain ⟨v', w', hr, q2, q3, _, q5⟩ := run_append_own_at (P := P) w base t ty e i z size bytes ht hi hz hsize hby hzs hsz v n xs hown a m c news hl hnews h1 h63 hbytes hbase
  refine ⟨v', w', hr, q2, q3, q5, ?_⟩
  subst hsize
  subst hby
  have hsmall : n + m ≤ 9223372036854775807 := by simp only [maxLen] at h63; omega
  rcases hown.2 with ⟨rfl, rfl⟩ | ⟨g, cap, cur, rfl, hbg, hg, hnc, hcm, hcs, htake⟩
  · exact ⟨hown.1, .inl ⟨rfl, rfl⟩⟩
  · have hgl : g < w.heap.size := (Array.getElem?_eq_some_iff.1 hg).1
    by_cases hroom : n + m ≤ cap
    · have hfit : n * i.size + news.length ≤ cur.size := by rw [hl, hcs, ← Nat.add_mul]; exact Nat.mul_le_mul_right _ hroom
      have hr2 := run_append_room (P := P) w t ty e i ht hi g n cap cur hg a m c news hl hnews h1 hroom hfit
      have e2 := hr.symm.trans hr2
      simp only [Result.ok.injEq] at e2
      obtain ⟨rfl, rfl⟩ := e2
      refine ⟨hown.1, .inr ⟨g, cap, _, rfl, hbg, setRow_heap w g cur _ e _ hg, hnc, hcm, ?_, ?_⟩⟩
      · simp only [List.size_toArray, List.length_append, List.length_take, List.length_drop, Array.length_toList]
        omega
      · rw [htake]
        simp only [List.append_assoc]
        rw [List.take_append_of_le_length (by rw [hown.1]; exact Nat.le_refl _), List.take_of_length_le (by rw [hown.1]; exact Nat.le_refl _)]
    · have holds : ∀ j u, xs[j]? = some u → w.cell? ((⟨g, 0, none⟩ : Addr).add j) = some u := hown.cells (g := g) rfl
      have hr2 := run_append_grow (P := P) w t ty e i z ht hi hz ⟨g, 0, none⟩ n cap xs hown.1 holds a m c news hl hnews (by omega) (by omega) (growslice_fits (by omega) hbytes)
      have e2 := hr.symm.trans hr2
      simp only [Result.ok.injEq] at e2
      obtain ⟨rfl, rfl⟩ := e2
      exact ⟨hown.1, .inr ⟨g, cap, cur, rfl, hbg, (Below.heap_alloc w.drew _ g hgl).trans hg, hnc, hcm, hcs, htake⟩⟩
/-- A path that bears its owner's marks. -/
def pms (i n : Nat) : List (List (BitVec 8)) := List.replicate n (mk4 i)
theorem pms_len (i n : Nat) : (pms i n).length = n := by simp [pms]
theorem pms_32 {i n : Nat} : ∀ x ∈ pms i n, x.length = 32 := fun x hx => by rw [(List.mem_replicate.1 hx).2]; rfl
theorem pms_snoc (i n : Nat) : pms i n ++ [mk4 i] = pms i (n + 1) := by simp [pms, List.replicate_succ']
theorem gro_setsP (w : World) (g o : Nat) (vs : List Value) : Gro (· = g) w (w.setCells g o vs) := by
  have h := gro_over (Gro.refl (· = g) w) g o vs rfl
  exact h
theorem fl_take {d : List (List (BitVec 8))} (h : ∀ y ∈ d, y.length = 32) (n : Nat) : (d.flatMap vB).take (n * 32) = (d.take n).flatMap vB := by
  induction d generalizing n with
  | nil => simp
  | cons x d ih =>
    have hx := h x (List.mem_cons_self ..)
    cases n with
    | zero => simp
    | succ n =>
      rw [List.take_succ_cons, List.flatMap_cons, List.flatMap_cons, List.take_append, vB_length, hx, List.take_of_length_le (by rw [vB_length, hx]; omega), show (n + 1) * 32 - 32 = n * 32 by omega, ih (fun y hy => h y (List.mem_cons_of_mem _ hy))]
theorem fl_drop {d : List (List (BitVec 8))} (h : ∀ y ∈ d, y.length = 32) (n : Nat) : (d.flatMap vB).drop (n * 32) = (d.drop n).flatMap vB := by
  induction d generalizing n with
  | nil => simp
  | cons x d ih =>
    have hx := h x (List.mem_cons_self ..)
    cases n with
    | zero => simp
    | succ n =>
      rw [List.drop_succ_cons, List.flatMap_cons, List.drop_append, vB_length, hx, List.drop_of_length_le (by rw [vB_length, hx]; omega), show (n + 1) * 32 - 32 = n * 32 by omega, ih (fun y hy => h y (List.mem_cons_of_mem _ hy)), List.nil_append]
theorem fl_set {d : List (List (BitVec 8))} (h : ∀ y ∈ d, y.length = 32) (k : Nat) (hk : k < d.length) (x : List (BitVec 8)) : (d.set k x).flatMap vB = (d.flatMap vB).take (k * 32) ++ vB x ++ (d.flatMap vB).drop (k * 32 + 32) := by
  rw [show k * 32 + 32 = (k + 1) * 32 by omega, fl_take h, fl_drop h, List.set_eq_take_append_cons_drop, if_pos hk, List.flatMap_append, List.flatMap_cons, List.append_assoc]
theorem pw_row2 {w : World} {g n cap : Nat} {d : List (List (BitVec 8))} (h : Pw w (.slice (some ⟨g, 0, none⟩) n cap) d) : ∃ cur : List Value, Row w g cur 44 ∧ cur.length = cap * 32 ∧ n ≤ cap ∧ cap ≤ maxLen ∧ cur.take (n * 32) = d.flatMap vB ∧ d.length = n := by
  rcases h.2 with ⟨q, _⟩ | ⟨g', cap', cur, q, _, hh, hc, hm, hs, ht⟩
  · cases q
  · simp only [Value.slice.injEq, Option.some.injEq, Addr.mk.injEq] at q
    obtain ⟨⟨rfl, _, _⟩, hn, rfl⟩ := q
    refine ⟨cur.toList, by unfold Row; rw [hh], by simpa using hs, by omega, hm, ?_, by omega⟩
    rw [hn]; exact ht
theorem pw_of {w : World} {g n cap : Nat} {d : List (List (BitVec 8))} {cur : List Value} (r : Row w g cur 44) (h1 : cur.length = cap * 32) (h2 : n ≤ cap) (h3 : cap ≤ maxLen) (h4 : cur.take (n * 32) = d.flatMap vB) (h5 : d.length = n) : Pw w (.slice (some ⟨g, 0, none⟩) n cap) d := by
  subst h5
  exact ⟨by rw [← h4, List.length_take, h1]; omega, .inr ⟨g, cap, cur.toArray, rfl, Nat.zero_le _, r, h2, h3, by simp [h1], h4⟩⟩
theorem Pw.setAt {w : World} {g n cap : Nat} {d : List (List (BitVec 8))} (h : Pw w (.slice (some ⟨g, 0, none⟩) n cap) d) (k : Nat) (hk : k < n) (x : List (BitVec 8)) (hx : x.length = 32) (h32 : ∀ y ∈ d, y.length = 32) : Pw (w.setCells g (k * 32) (vB x)) (.slice (some ⟨g, 0, none⟩) n cap) (d.set k x) := by
  obtain ⟨_, _, _, _, _, _, h5⟩ := pw_row2 h
  subst h5
  have q := Ow.set h k hk (vB x) (by rw [vB_length, hx])
  unfold Pw
  rw [List.length_set, fl_set h32 k hk x]
  exact q
/-- A list whose memory begins another one's. -/
theorem Pw.front {w w' : World} {g n cap m cap' : Nat} {d e : List (List (BitVec 8))} (h : Pw w (.slice (some ⟨g, 0, none⟩) n cap) d) (k : Pw w (.slice (some ⟨g, 0, none⟩) m cap') e) (k' : Pw w' (.slice (some ⟨g, 0, none⟩) m cap') e) (hn : n ≤ m) (h32 : ∀ x ∈ e, x.length = 32) (hd : e.take n = d) : Pw w' (.slice (some ⟨g, 0, none⟩) n cap) d := by
  obtain ⟨cur, r, h1, h2, h3, _, h5⟩ := pw_row2 h
  obtain ⟨cur1, r1, k1, _, _, _, _⟩ := pw_row2 k
  obtain ⟨cur2, r2, q1, _, _, q4, _⟩ := pw_row2 k'
  have ec : cap' = cap := by
    have := r.symm.trans r1
    simp only [Option.some.injEq, Obj.cells.injEq] at this
    have e2 : cur = cur1 := by simpa using this.1
    rw [← e2, h1] at k1
    omega
  refine pw_of r2 (by rw [q1, ec]) h2 h3 ?_ h5
  rw [← hd, ← fl_take h32 n, ← q4, List.take_take, Nat.min_eq_left (Nat.mul_le_mul_right 32 hn)]
/-- A book whose answers are written over. -/
structure Pm (w0 w : World) (B : Nat) (rw vl : Value) (us : List Value) (ds : List (List (List (BitVec 8)))) : Prop where
  row : Row w B (bkp vl rw) 30
  ll : Lw w 64 1 vl ds.length us
  eu : ∀ (i : Nat) (d : List (List (BitVec 8))), ds[i]? = some d → ∃ u, us[i]? = some u ∧ Pw w u d
  au : ∀ (i j : Nat) (u v : Value), i < j → us[i]? = some u → us[j]? = some v → ∀ g, u.ownBlock = some g → v.ownBlock ≠ some g
  b0 : w0.heap.size ≤ B
  l0 : ∀ g, vl.ownBlock = some g → w0.heap.size ≤ g
  u0 : ∀ u ∈ us, ∀ g, u.ownBlock = some g → w0.heap.size ≤ g
  be : Below w0.heap.size w0 w
section
variable {w0 w w' : World} {B : Nat} {rl rw vl vw : Value} {us ws : List Value} {ds es : List (List (List (BitVec 8)))}
theorem Pbk.pm (h : Pbk w0 w B vl rw vl vw us ws ds es) : Pm w0 w B rw vl us ds := ⟨h.row, h.ll, h.eu, h.au, h.b0, h.l0, h.u0, h.be⟩
theorem Pm.below (h : Pm w0 w B rw vl us ds) (k : Below w.heap.size w w') : Pm w0 w' B rw vl us ds :=
  ⟨Row.below h.row k h.row.lt, Lw.be h.ll k, fun i d hd => by obtain ⟨u, q1, q2⟩ := h.eu i d hd; exact ⟨u, q1, Pw.be q2 k⟩, h.au, h.b0, h.l0, h.u0, h.be.trans (k.mono h.be.size)⟩
theorem Pm.apart (h : Pm w0 w B rw vl us ds) (i j : Nat) (u v : Value) (hij : i ≠ j) (hu : us[i]? = some u) (hv : us[j]? = some v) : ∀ g, u.ownBlock = some g → v.ownBlock ≠ some g := fun g e q => by
  rcases Nat.lt_or_gt_of_ne hij with k | k
  · exact h.au i j u v k hu hv g e q
  · exact h.au j i v u k hv hu g q e
theorem Pm.get (h : Pm w0 w B rw vl us ds) (i : Nat) (d : List (List (BitVec 8))) (u : Value) (hd : ds[i]? = some d) (hu : us[i]? = some u) : Pw w u d := by
  obtain ⟨u', q1, q2⟩ := h.eu i d hd
  rw [hu] at q1
  obtain rfl := Option.some.inj q1
  exact q2
/-- A digest written over. -/
theorem Pm.mark (h : Pm w0 w B rw vl us ds) (i : Nat) (d : List (List (BitVec 8))) (g n cap : Nat) (hd : ds[i]? = some d) (hu : us[i]? = some (.slice (some ⟨g, 0, none⟩) n cap)) (k : Nat) (hk : k < n) (x : List (BitVec 8)) (hx : x.length = 32) (h32 : ∀ y ∈ d, y.length = 32) : Pm w0 (w.setCells g (k * 32) (vB x)) B rw vl us (ds.set i (d.set k x)) := by
  have hb := h.get i d _ hd hu
  have G : Gro (· = g) w (w.setCells g (k * 32) (vB x)) := gro_setsP w g (k * 32) (vB x)
  refine ⟨G.row h.row (fun e => Pw.ne hb h.row (by decide) g rfl e.symm), by rw [List.length_set]; exact Lw.gro h.ll G (fun g' e q => pl_ne hb h.ll (by decide) g rfl (by rw [q] at e; exact e.symm)), fun j e he => ?_, h.au, h.b0, h.l0, h.u0, h.be.trans (G.to_below h.be.size (fun j q => by rw [q]; exact h.u0 _ (List.mem_of_getElem? hu) g rfl))⟩
  by_cases hij : i = j
  · subst hij
    rw [List.getElem?_set_self (List.getElem?_eq_some_iff.1 hd).1] at he
    obtain rfl := Option.some.inj he
    exact ⟨_, hu, Pw.setAt hb k hk x hx h32⟩
  · rw [List.getElem?_set_ne hij] at he
    obtain ⟨u, q1, q2⟩ := h.eu j e he
    exact ⟨u, q1, Pw.gro q2 G (fun g' e1 e2 => h.apart i j _ u hij hu q1 g rfl (by rw [← e2]; exact e1))⟩
end
/-- So many of the answers bear their owners' marks. -/
structure PMk (ds es : List (List (List (BitVec 8)))) (t : Nat) : Prop where
  len : es.length = ds.length
  each : ∀ (i : Nat) (d e : List (List (BitVec 8))), ds[i]? = some d → es[i]? = some e → e.length = d.length ∧ (i < t → e = pms i d.length)
  p32 : ∀ e ∈ es, ∀ x ∈ e, x.length = 32
theorem PMk.start (ds : List (List (List (BitVec 8)))) (h32 : ∀ e ∈ ds, ∀ x ∈ e, x.length = 32) : PMk ds ds 0 := ⟨rfl, fun i d e hd he => by rw [hd] at he; obtain rfl := Option.some.inj he; exact ⟨rfl, fun h => by omega⟩, h32⟩
theorem PMk.set {ds es : List (List (List (BitVec 8)))} {t : Nat} (h : PMk ds es t) (e : List (List (BitVec 8))) (he : es[t]? = some e) (k : Nat) (x : List (BitVec 8)) (hx : x.length = 32) : PMk ds (es.set t (e.set k x)) t :=
  ⟨by rw [List.length_set]; exact h.len, fun i d e' hd he' => by
    by_cases hij : t = i
    · subst hij
      rw [List.getElem?_set_self (List.getElem?_eq_some_iff.1 he).1] at he'
      obtain rfl := Option.some.inj he'
      exact ⟨by rw [List.length_set]; exact (h.each t d e hd he).1, fun q => by omega⟩
    · rw [List.getElem?_set_ne hij] at he'
      exact h.each i d e' hd he', fun e' he' y hy => by
    rcases List.mem_or_eq_of_mem_set he' with q | q
    · exact h.p32 e' q y hy
    · subst q
      rcases List.mem_or_eq_of_mem_set hy with r | r
      · exact h.p32 e (List.mem_of_getElem? he) y r
      · rw [r]; exact hx⟩
theorem PMk.next {ds es : List (List (List (BitVec 8)))} {t : Nat} (h : PMk ds es t) (e : List (List (BitVec 8))) (he : es[t]? = some e) (hm : ∀ q, q < e.length → e.getD q [] = mk4 t) : PMk ds es (t + 1) :=
  ⟨h.len, fun i d e' hd he' => by
    refine ⟨(h.each i d e' hd he').1, fun q => ?_⟩
    by_cases hij : i = t
    · subst hij
      rw [he] at he'
      obtain rfl := Option.some.inj he'
      have hl := (h.each i d e hd he).1
      rw [← hl]
      apply List.ext_getElem (by rw [pms_len])
      intro j h1 h2
      have := hm j h1
      rw [List.getD_eq_getElem?_getD, List.getElem?_eq_getElem h1] at this
      simpa [pms] using this
    · exact (h.each i d e' hd he').2 (by omega), h.p32⟩
/-- The answers grown: so many. -/
structure PGs (w0 : World) (N0 : Nat) (w : World) (B : Nat) (rw vl : Value) (us : List Value) (es : List (List (List (BitVec 8)))) (vg : Value) (t : Nat) (gs : List Value) : Prop where
  bm : Pm w0 w B rw vl us es
  lg : Lw w 64 1 vg t gs
  g0 : ∀ g, vg.ownBlock = some g → N0 ≤ g
  each : ∀ (i : Nat) (e : List (List (BitVec 8))), i < t → es[i]? = some e → ∃ v, gs[i]? = some v ∧ Pw w v (pms i (e.length + 9))
  blk : ∀ (i : Nat) (v : Value), gs[i]? = some v → ∀ g, v.ownBlock = some g → N0 ≤ g ∨ ∃ u, us[i]? = some u ∧ u.ownBlock = some g
  ult : ∀ u ∈ us, ∀ g, u.ownBlock = some g → g < N0
  vlt : ∀ g, vl.ownBlock = some g → g < N0
  le : w0.heap.size ≤ N0
  sz : N0 ≤ w.heap.size
/-- The one that grows. -/
structure PGv (N0 : Nat) (w : World) (us gs : List Value) (t m s : Nat) (u v : Value) : Prop where
  bw : Pw w v (pms t (m + s))
  blk : ∀ g, v.ownBlock = some g → N0 ≤ g ∨ u.ownBlock = some g
  ap : ∀ x ∈ gs, ∀ g, x.ownBlock = some g → v.ownBlock ≠ some g
section
variable {w0 w w' : World} {N0 B : Nat} {rw vl vg : Value} {us gs : List Value} {es : List (List (List (BitVec 8)))} {t m s : Nat} {u v : Value}
theorem PGs.below (h : PGs w0 N0 w B rw vl us es vg t gs) (k : Below w.heap.size w w') : PGs w0 N0 w' B rw vl us es vg t gs :=
  ⟨h.bm.below k, Lw.be h.lg k, h.g0, fun i e hi he => by obtain ⟨v, q1, q2⟩ := h.each i e hi he; exact ⟨v, q1, Pw.be q2 k⟩, h.blk, h.ult, h.vlt, h.le, Nat.le_trans h.sz k.size⟩
theorem PGv.below (h : PGv N0 w us gs t m s u v) (k : Below w.heap.size w w') : PGv N0 w' us gs t m s u v := ⟨Pw.be h.bw k, h.blk, h.ap⟩
/-- One digest more. -/
theorem PGs.grow (h : PGs w0 N0 w B rw vl us es vg t gs) (k : PGv N0 w us gs t m s u v) (e : List (List (BitVec 8))) (he : es[t]? = some e) (hem : e = pms t m) (hu : us[t]? = some u) (v' : Value) (q1 : Pw w' v' (pms t (m + s + 1))) (q2 : w.grownBy w' v.ownBlock) (q3 : v'.ownBlock = v.ownBlock ∨ v'.ownBlock = some w.heap.size) (q4 : Pw w' v (pms t (m + s))) : PGs w0 N0 w' B rw vl us es vg t gs ∧ PGv N0 w' us gs t m (s + 1) u v' := by
  have hbu := h.bm.get t e u he hu
  have hrv : ∀ g, v.ownBlock = some g → w0.heap.size ≤ g := fun g q => by
    rcases k.blk g q with h1 | h1
    · exact Nat.le_trans h.le h1
    · exact h.bm.u0 u (List.mem_of_getElem? hu) g h1
  have put : ∀ x d, Pw w x d → (∀ g, x.ownBlock = some g → v.ownBlock ≠ some g) → Pw w' x d := fun x d q hn => Pw.block q (fun g e1 => q2.block g (Pw.lt q g e1) (fun e2 => hn g e1 e2.symm))
  refine ⟨⟨⟨row_gb h.bm.row q2 (some_ne (Pw.ne k.bw h.bm.row (by decide))), Lw.gb h.bm.ll q2 (fun g e1 e2 => pl_ne k.bw h.bm.ll (by decide) g e2.symm e1.symm), fun i d hd => ?_, h.bm.au, h.bm.b0, h.bm.l0, h.bm.u0, below_gb h.bm.be q2 hrv⟩, Lw.gb h.lg q2 (fun g e1 e2 => pl_ne k.bw h.lg (by decide) g e2.symm e1.symm), h.g0, fun i d hi hd => ?_, h.blk, h.ult, h.vlt, h.le, Nat.le_trans h.sz q2.size⟩, ⟨q1, fun g q => ?_, fun x hx g q q' => ?_⟩⟩
  · by_cases hit : i = t
    · subst hit
      rw [he] at hd
      obtain rfl := Option.some.inj hd
      refine ⟨u, hu, ?_⟩
      -- the answer itself: apart from what grows, or its front
      by_cases hb : ∃ g, u.ownBlock = some g ∧ v.ownBlock = some g
      · obtain ⟨g, hg1, hg2⟩ := hb
        obtain ⟨Au, cu, eu, _, _⟩ := Pw.form hbu
        obtain ⟨Av, cv, ev, _, _⟩ := Pw.form k.bw
        rw [pms_len] at ev
        subst eu ev
        have ha1 : Au = some ⟨g, 0, none⟩ := by
          rcases hbu.2 with ⟨q, _⟩ | ⟨g', c', cur, q, _⟩
          · rw [q] at hg1; cases hg1
          · simp only [Value.slice.injEq] at q
            rw [q.1] at hg1 ⊢
            have : g' = g := by simpa [Value.ownBlock] using hg1
            rw [this]
        have ha2 : Av = some ⟨g, 0, none⟩ := by
          rcases k.bw.2 with ⟨q, _⟩ | ⟨g', c', cur, q, _⟩
          · rw [q] at hg2; cases hg2
          · simp only [Value.slice.injEq] at q
            rw [q.1] at hg2 ⊢
            have : g' = g := by simpa [Value.ownBlock] using hg2
            rw [this]
        subst ha1 ha2
        have hel : e.length = m := by rw [hem, pms_len]
        exact Pw.front hbu k.bw q4 (by omega) pms_32 (by rw [hem, pms_len]; unfold pms; rw [List.take_replicate, Nat.min_eq_left (by omega)])
      · exact put u e hbu (fun g e1 e2 => hb ⟨g, e1, e2⟩)
    · obtain ⟨x, p1, p2⟩ := h.bm.eu i d hd
      refine ⟨x, p1, put x d p2 (fun g e1 e2 => ?_)⟩
      rcases k.blk g e2 with h1 | h1
      · have := h.ult x (List.mem_of_getElem? p1) g e1
        omega
      · exact h.bm.apart i t x u hit p1 hu g e1 h1
  · obtain ⟨x, p1, p2⟩ := h.each i d hi hd
    exact ⟨x, p1, put x _ p2 (fun g e1 => k.ap x (List.mem_of_getElem? p1) g e1)⟩
  · rcases q3 with q3 | q3
    · exact k.blk g (by rw [← q3]; exact q)
    · rw [q3] at q; cases q; exact .inl h.sz
  · rcases q3 with q3 | q3
    · exact k.ap x hx g q (by rw [← q3]; exact q')
    · rw [q3] at q'; cases q'
      obtain ⟨i, hi, hxi⟩ := List.mem_iff_getElem.1 hx
      have hgi : gs[i]? = some x := by rw [List.getElem?_eq_getElem hi, hxi]
      have hit : i < t := by have := Lw.len h.lg; omega
      have hie : i < es.length := by have := (List.getElem?_eq_some_iff.1 he).1; omega
      obtain ⟨x', p1, p2⟩ := h.each i _ hit (List.getElem?_eq_getElem hie)
      rw [hgi] at p1
      obtain rfl := Option.some.inj p1
      exact absurd (Pw.lt p2 _ q) (Nat.lt_irrefl _)
/-- One more has grown. -/
theorem PGs.more (h : PGs w0 N0 w B rw vl us es vg t gs) (k : PGv N0 w us gs t m 9 u v) (e : List (List (BitVec 8))) (he : es[t]? = some e) (hem : e = pms t m) (hu : us[t]? = some u) (v' : Value) (q1 : Lw w' 64 1 v' (t + 1) (gs ++ [v])) (q2 : w.grownBy w' vg.ownBlock) (q3 : v'.ownBlock = vg.ownBlock ∨ v'.ownBlock = some w.heap.size) : PGs w0 N0 w' B rw vl us es v' (t + 1) (gs ++ [v]) := by
  have put : ∀ x d, Pw w x d → Pw w' x d := fun x d q => Pw.block q (fun g e1 => q2.block g (Pw.lt q g e1) (pl_ne q h.lg (by decide) g e1))
  have hgl : gs.length = t := by have := Lw.len h.lg; omega
  refine ⟨⟨row_gb h.bm.row q2 (some_ne (Lw.ne h.lg h.bm.row (by decide))), Lw.gb h.bm.ll q2 (fun g e1 e2 => by have h1 := h.vlt g e1; have h2 := h.g0 g e2.symm; omega), fun i d hd => ?_, h.bm.au, h.bm.b0, h.bm.l0, h.bm.u0, below_gb h.bm.be q2 (fun g q => Nat.le_trans h.le (h.g0 g q))⟩, q1, fun g q => ?_, fun i d hi hd => ?_, fun i x hx g q => ?_, h.ult, h.vlt, h.le, Nat.le_trans h.sz q2.size⟩
  · obtain ⟨x, p1, p2⟩ := h.bm.eu i d hd
    exact ⟨x, p1, put x d p2⟩
  · rcases q3 with q3 | q3
    · exact h.g0 g (by rw [← q3]; exact q)
    · rw [q3] at q; cases q; exact h.sz
  · by_cases hit : i < t
    · obtain ⟨x, p1, p2⟩ := h.each i d hit hd
      exact ⟨x, by rw [List.getElem?_append_left (by omega)]; exact p1, put x _ p2⟩
    · obtain rfl : i = t := by omega
      rw [he] at hd
      obtain rfl := Option.some.inj hd
      exact ⟨v, by rw [List.getElem?_append_right (by omega), hgl, Nat.sub_self]; rfl, put v _ (by rw [hem, pms_len]; exact k.bw)⟩
  · rcases snoc_getP gs v x i hx with p | ⟨p, rfl⟩
    · exact h.blk i x p g q
    · rw [p, hgl]
      rcases k.blk g q with r | r
      · exact .inl r
      · exact .inr ⟨u, hu, r⟩
end
section
variable {ops : Array Oper} {rest : List Oper} {op : Oper} {a : Act} {w : World} {Q : Exit → Act → World → Prop}
/-- append of one digest; the old list stays. -/
theorem wpList_appDig (hgd : op.guard = none) (s x : Operand) (ho : op.op = .call { callee := .builtin .append, args := #[s, x], argTypes := #[64, 64] }) (v : Value) (d : List (List (BitVec 8))) (y : List (BitVec 8)) (hy : y.length = 32) (hs : a.eval s = v) (hown : Pw w v d)
    (g2 : Nat) (hx : a.eval x = .slice (some ⟨g2, 0, none⟩) 1 1) (hX : Row w g2 (vB y) 44) (hk : d.length ≤ 100000000)
    (h : ∀ v' w', Pw w' v' (d ++ [y]) → w.grownBy w' v.ownBlock → (v'.ownBlock = v.ownBlock ∨ v'.ownBlock = some w.heap.size) → Pw w' v d → wpList Tryz.prog ops Q rest (a.put op.dst v') w') : wpList Tryz.prog ops Q (op :: rest) a w :=
  wpList_plain hgd fun _ hK => by
    obtain ⟨ie, z, i1, i2, i3, i5, i4⟩ := info_d_open
    obtain ⟨v', w', hr, q2, q3, q5, q6⟩ := run_append_oldP (P := Tryz.prog) w 0 64 op.type 44 ie z 32 32 Tryz.underlying64 i1 i2 i3 i5 i4 (by decide) v d.length (d.flatMap vB) hown ⟨g2, 0, none⟩ 1 1 (vB y) (by rw [vB_length, hy]) (fun j u hj => by rw [Addr.add_mid]; exact hX.all j u hj) (vB_one y) (by unfold maxLen; omega) (by omega) (Nat.zero_le _)
    unfold Oper.wp execOp
    simp only [ho, resolve, invoke, builtin, Sem.run_bind, Sem.run_pure, Result.andThen_ok, List.map_toArray, List.map_cons, List.map_nil, hs, hx, hr]
    refine hK _ _ (h v' w' ?_ q3 q5 q6)
    have e : (d ++ [y]).flatMap vB = d.flatMap vB ++ vB y := by simp
    unfold Pw
    rw [List.length_append, List.length_singleton, e]
    exact q2
end

end Go.Proofs.YtdicgenhfmhklaaGreatDoor
