/-
  Lists of digests that are their owner's: written over, grown; what stays.
-/
import Derived.Test.YtdicgenhfmhklaaGreatDoorTLp

namespace Go.Proofs.YtdicgenhfmhklaaGreatDoor
open Go Go.RowKit
open Sha

section
variable {P : Program} {Q : Exit → Act → World → Prop} {o : Oper} {a : Act} {w : World} {K : Act → World → Prop}
theorem wp_slice_upto (t e : TypeId) (x z : Operand) (b f n cap k s : Nat) (ho : o.op = .slice t x none (some z) none) (hx : a.eval x = .slice (some ⟨b, f, none⟩) n cap) (hz : a.eval z = .int .i64 (k : Int)) (hk : k ≤ cap)
    (hu : P.underlying t = some (.slice e)) (hs : (P.info? e).map (·.size) = some s) (h : K (a.put o.dst (.slice (some ⟨b, f, none⟩) k cap)) w) : Oper.wp P o a w K Q := by
  cases hq : P.info? e with
  | none => simp [hq] at hs
  | some i =>
    have hr : (Instr.sliceAt t (.slice (some ⟨b, f, none⟩) n cap) none (some (.int .i64 (k : Int))) none).run P w = .ok (.slice (some ⟨b, f, none⟩) k cap) w := by
      simp [Instr.sliceAt, Instr.slice, run_underlying hu, Instr.sliceBounds, Instr.sliceBound, asIntOf, sizeOf, typeInfo, hq, hk, Addr.add_mid]
    unfold Oper.wp execOp
    simp only [ho, hx, hz, Option.map_some, Option.map_none, Sem.run_bind, hr, Result.andThen_ok, Sem.run_pure, Oper.upon_value]
    exact h
end
section
variable {ops : Array Oper} {rest : List Oper} {op : Oper} {a : Act} {w : World} {Q : Exit → Act → World → Prop}
theorem wpList_slice_upto (hw : Region.wanted op (yielded ops a.tmps) = true) (t e : TypeId) (x z : Operand) (b f n cap k s : Nat) (ho : op.op = .slice t x none (some z) none) (hx : a.eval x = .slice (some ⟨b, f, none⟩) n cap) (hz : a.eval z = .int .i64 (k : Int)) (hk : k ≤ cap)
    (hu : Tryz.prog.underlying t = some (.slice e)) (hs : (Tryz.prog.info? e).map (·.size) = some s) (h : wpList Tryz.prog ops Q rest (a.put op.dst (.slice (some ⟨b, f, none⟩) k cap)) w) : wpList Tryz.prog ops Q (op :: rest) a w :=
  BigFrame.wpList_want hw fun _ hK => wp_slice_upto t e x z b f n cap k s ho hx hz hk hu hs (hK _ _ h)
end

theorem marks9_get (ds : List (List (BitVec 8))) (t : Nat) (h : t < 9) : (ds ++ List.replicate 9 m77).getD (ds.length + t) [] = m77 := by
  rw [List.getD_eq_getElem?_getD, List.getElem?_append_right (by omega), List.getElem?_replicate, if_pos (by omega)]; rfl
theorem marks9_each (ds : List (List (BitVec 8))) (h : ∀ d ∈ ds, d.length = 32) : ∀ d ∈ ds ++ List.replicate 9 m77, d.length = 32 := fun d hd => by
  rcases List.mem_append.1 hd with hd | hd
  · exact h d hd
  · rw [(List.mem_replicate.1 hd).2]; rfl

end Go.Proofs.YtdicgenhfmhklaaGreatDoor

namespace Go.Proofs.YtdicgenhfmhklaaGreatDoor
open Go Go.RowKit
open Sha

/-- All but some blocks stay. -/
structure GroT (R : Nat → Prop) (w w' : World) : Prop where
  os : w'.os = w.os
  tape : w'.tape = w.tape
  output : w'.output = w.output
  size : w.heap.size ≤ w'.heap.size
  block : ∀ k, k < w.heap.size → ¬ R k → w'.heap[k]? = w.heap[k]?
section
variable {R : Nat → Prop} {a b c : World}
theorem GroT.refl (R : Nat → Prop) (w : World) : GroT R w w := ⟨rfl, rfl, rfl, Nat.le_refl _, fun _ _ _ => rfl⟩
theorem GroT.trans (h : GroT R a b) (k : GroT R b c) : GroT R a c :=
  ⟨k.os.trans h.os, k.tape.trans h.tape, k.output.trans h.output, Nat.le_trans h.size k.size, fun i hi hn => (k.block i (Nat.lt_of_lt_of_le hi h.size) hn).trans (h.block i hi hn)⟩
theorem GroT.below (h : GroT R a b) (k : Below b.heap.size b c) : GroT R a c :=
  ⟨k.os.trans h.os, k.tape.trans h.tape, k.output.trans h.output, Nat.le_trans h.size k.size, fun i hi hn => (k.block i (Nat.lt_of_lt_of_le hi h.size)).trans (h.block i hi hn)⟩
/-- A block that stays out, or is a new one, is changed. -/
theorem GroT.grown {row : Option Nat} (h : GroT R a b) (k : b.grownBy c row) (hr : ∀ g, row = some g → R g ∨ a.heap.size ≤ g) : GroT R a c :=
  ⟨k.os.trans h.os, k.tape.trans h.tape, k.output.trans h.output, Nat.le_trans h.size k.size, fun i hi hn => (k.block i (Nat.lt_of_lt_of_le hi h.size) (fun e => by
    rcases hr i e.symm with q | q
    · exact hn q
    · omega)).trans (h.block i hi hn)⟩
theorem heap_setsT (w : World) (g o : Nat) (vs : List Value) (k : Nat) (h : k ≠ g) : (w.setCells g o vs).heap[k]? = w.heap[k]? := by
  induction vs generalizing w o with
  | nil => rfl
  | cons v r ih => exact (ih (w.setCell ⟨g, o, none⟩ v) (o + 1)).trans (Below.heap_setCell _ _ _ _ h)
theorem GroT.sets (h : GroT R a b) (g o : Nat) (vs : List Value) (hr : R g) : GroT R a (b.setCells g o vs) := by
  have k := below_setCells (Below.refl 0 b) (b := g) (o := o) (Nat.zero_le _) vs
  exact ⟨k.os.trans h.os, k.tape.trans h.tape, k.output.trans h.output, Nat.le_trans h.size k.size, fun i hi hn => (heap_setsT b g o vs i (fun e => hn (e ▸ hr))).trans (h.block i hi hn)⟩
theorem GroT.to_below {N : Nat} (h : GroT R a b) (hN : N ≤ a.heap.size) (hR : ∀ k, R k → N ≤ k) : Below N a b :=
  ⟨h.os, h.tape, h.output, h.size, fun k hk => h.block k (Nat.lt_of_lt_of_le hk hN) (fun q => by have := hR k q; omega)⟩
end

/-- Two lists that lie in unlike blocks. -/
def Ap (v u : Value) : Prop := ∀ g, v.ownBlock = some g → u.ownBlock ≠ some g
theorem Ap.symm {v u : Value} (h : Ap v u) : Ap u v := fun g h1 h2 => h g h2 h1
abbrev Ow (w : World) (v : Value) (n : Nat) (xs : List Value) : Prop := w.ownsRow 0 44 32 v n xs
section
variable {w w' : World} {v : Value} {n : Nat} {xs : List Value}
theorem Ow.lt (h : Ow w v n xs) : ∀ g, v.ownBlock = some g → g < w.heap.size := fun g e => (World.ownsRow.lt h g e).2
theorem Ow.block (h : Ow w v n xs) (k : ∀ g, v.ownBlock = some g → w'.heap[g]? = w.heap[g]?) : Ow w' v n xs := by
  obtain ⟨h1, h2⟩ := h
  refine ⟨h1, ?_⟩
  rcases h2 with h2 | ⟨g, cap, cur, hv, hg, hh, r⟩
  · exact .inl h2
  · exact .inr ⟨g, cap, cur, hv, hg, (k g (by rw [hv]; rfl)).trans hh, r⟩
theorem Ow.be (h : Ow w v n xs) (k : Below w.heap.size w w') : Ow w' v n xs := h.block fun g e => k.block g (h.lt g e)
theorem Ow.gro {R : Nat → Prop} (h : Ow w v n xs) (k : GroT R w w') (hR : ∀ g, v.ownBlock = some g → ¬ R g) : Ow w' v n xs := h.block fun g e => k.block g (h.lt g e) (hR g e)
theorem Ow.grown {row : Option Nat} (h : Ow w v n xs) (k : w.grownBy w' row) (hR : ∀ g, v.ownBlock = some g → some g ≠ row) : Ow w' v n xs := h.block fun g e => k.block g (h.lt g e) (hR g e)
/-- What stands in a place is written over. -/
theorem Ow.set {g cap : Nat} (h : Ow w (.slice (some ⟨g, 0, none⟩) n cap) n xs) (t : Nat) (ht : t < n) (ys : List Value) (hy : ys.length = 32) :
    Ow (w.setCells g (t * 32) ys) (.slice (some ⟨g, 0, none⟩) n cap) n (xs.take (t * 32) ++ ys ++ xs.drop (t * 32 + 32)) := by
  obtain ⟨h1, h2⟩ := h
  rcases h2 with ⟨h2, _⟩ | ⟨g', cap', cur, hv, hg, hh, r1, r2, r3, r4⟩
  · cases h2
  · simp only [Value.slice.injEq, Option.some.injEq, Addr.mk.injEq] at hv
    obtain ⟨⟨rfl, _⟩, _, rfl⟩ := hv
    have q : Row w g cur.toList 44 := by unfold Row; rw [hh]
    have hl : cur.toList.length = cap * 32 := by rw [Array.length_toList, r3]
    have q2 := Row.setCells (t * 32) ys q (by rw [hl, hy]; omega)
    refine ⟨?_, .inr ⟨g, cap, (cur.toList.take (t * 32) ++ ys ++ cur.toList.drop (t * 32 + ys.length)).toArray, rfl, hg, q2, r1, r2, ?_, ?_⟩⟩
    · simp only [List.length_append, List.length_take, List.length_drop, h1, hy]; omega
    · simp only [List.size_toArray, List.length_append, List.length_take, List.length_drop, hl, hy]; omega
    · rw [← r4, hy]
      simp only [List.take_append, List.length_take, List.length_append, hl, hy, List.take_take, List.drop_take]
      rw [show min (n * 32) (t * 32) = t * 32 by omega, show min (t * 32) (n * 32) = t * 32 by omega, show min (t * 32) (cap * 32) = t * 32 by omega, show n * 32 - (t * 32 + 32) = n * 32 - (t * 32 + 32) from rfl]
      rw [List.take_of_length_le (l := ys) (by omega)]
theorem Ow.set_other (h : Ow w v n xs) {g o : Nat} {ys : List Value} (hR : ∀ k, v.ownBlock = some k → k ≠ g) : Ow (w.setCells g o ys) v n xs := h.block fun k e => heap_setsT w g o ys k (hR k e)
theorem Ow.there {g cap : Nat} (h : Ow w (.slice (some ⟨g, 0, none⟩) n cap) n xs) (t : Nat) (ht : t < n) : w.there g (t * 32) 32 := by
  obtain ⟨h1, h2⟩ := h
  rcases h2 with ⟨h2, _⟩ | ⟨g', cap', cur, hv, hg, hh, r1, r2, r3, r4⟩
  · cases h2
  · simp only [Value.slice.injEq, Option.some.injEq, Addr.mk.injEq] at hv
    obtain ⟨⟨rfl, _⟩, _, rfl⟩ := hv
    have q : Row w g cur.toList 44 := by unfold Row; rw [hh]
    exact q.there _ _ (by rw [Array.length_toList, r3]; omega)
theorem Ow.open (h : Ow w v n xs) (hn : 0 < n) : ∃ g cap, v = .slice (some ⟨g, 0, none⟩) n cap := by
  rcases h.2 with ⟨_, h2⟩ | ⟨g, cap, cur, hv, _⟩
  · omega
  · exact ⟨g, cap, hv⟩
theorem Ow.form (h : Ow w v n xs) : ∃ A cap, v = .slice A n cap ∧ n ≤ cap := by
  rcases h.2 with ⟨h1, h2⟩ | ⟨g, cap, cur, hv, _, _, hc, _⟩
  · exact ⟨none, 0, by rw [h1, h2], by omega⟩
  · exact ⟨_, cap, hv, hc⟩
theorem Ow.pat {ds : List (List (BitVec 8))} (h : Ow w v ds.length (vB ds.flatten)) (h32 : ∀ d ∈ ds, d.length = 32) : PAt w v ds := PAt.of_own (by rw [fl_flatten]; exact h) h32
end
theorem GroT.ow {R : Nat → Prop} {a b : World} {v : Value} {n : Nat} {xs : List Value} (h : GroT R a b) (k : Ow a v n xs) (hR : ∀ g, v.ownBlock = some g → ¬ R g) : Ow b v n xs := k.gro h hR

/-- append onto a list that is owned; the list as it was told stays. -/
theorem run_append_still {P : Program} (w : World) (base : Nat) (t ty e : TypeId) (i : TypeInfo) (z : Value) (size bytes : Nat) (ht : P.underlying t = some (.slice e)) (hi : P.info? e = some i) (hz : i.zero = some z)
    (hsize : i.size = size) (hby : i.bytes = bytes) (hzs : z.cells.size = size) (hsz : 0 < size)
    (v : Value) (n : Nat) (xs : List Value) (hown : w.ownsRow base e size v n xs)
    (a : Addr) (m c : Nat) (news : List Value) (hl : news.length = m * size) (hnews : ∀ j u, news[j]? = some u → w.cell? (a.add j) = some u) (h1 : ∀ u ∈ news, u.oneCell' = true)
    (h63 : n + m ≤ maxLen) (hbytes : (n + m) * bytes ≤ 140737488355328) (hbase : base ≤ w.heap.size) :
    ∃ v' w', (Builtin.append_ #[t, t] ty #[v, .slice (some a) m c]).run P w = .ok v' w' ∧ w'.ownsRow base e size v' (n + m) (xs ++ news) ∧ w.grownBy w' v.ownBlock ∧
      (v'.ownBlock = v.ownBlock ∨ v'.ownBlock = some w.heap.size) ∧ w'.ownsRow base e size v n xs := by
  obtain ⟨v', w', hr, q2, q3, _, q5⟩ := run_append_own_at (P := P) w base t ty e i z size bytes ht hi hz hsize hby hzs hsz v n xs hown a m c news hl hnews h1 h63 hbytes hbase
  refine ⟨v', w', hr, q2, q3, q5, ?_⟩
  subst hsize
  subst hby
  have hsmall : n + m ≤ 9223372036854775807 := by simp only [maxLen] at h63; omega
  rcases hown.2 with ⟨rfl, rfl⟩ | ⟨g, cap, cur, rfl, hbg, hg, hnc, hcm, hcs, htake⟩
  · exact ⟨hown.1, .inl ⟨rfl, rfl⟩⟩
  · have hgl : g < w.heap.size := (Array.getElem?_eq_some_iff.1 hg).1
    by_cases hroom : n + m ≤ cap
    · have hfit : n * i.size + news.length ≤ cur.size := by rw [hl, hcs, ← Nat.add_mul]; exact Nat.mul_le_mul_right _ hroom
      have hr2 := run_append_room (P := P) w t ty e i ht hi g n cap cur hg a m c news hl hnews h1 hroom hfit
      have e2 := hr.symm.trans hr2
      simp only [Result.ok.injEq] at e2
      obtain ⟨rfl, rfl⟩ := e2
      refine ⟨hown.1, .inr ⟨g, cap, _, rfl, hbg, setRow_heap w g cur _ e _ hg, hnc, hcm, ?_, ?_⟩⟩
      · simp only [List.size_toArray, List.length_append, List.length_take, List.length_drop, Array.length_toList]
        omega
      · rw [htake]
        simp only [List.append_assoc]
        rw [List.take_append_of_le_length (by rw [hown.1]; exact Nat.le_refl _), List.take_of_length_le (by rw [hown.1]; exact Nat.le_refl _)]
    · have holds : ∀ j u, xs[j]? = some u → w.cell? ((⟨g, 0, none⟩ : Addr).add j) = some u := hown.cells (g := g) rfl
      have hr2 := run_append_grow (P := P) w t ty e i z ht hi hz ⟨g, 0, none⟩ n cap xs hown.1 holds a m c news hl hnews (by omega) (by omega) (growslice_fits (by omega) hbytes)
      have e2 := hr.symm.trans hr2
      simp only [Result.ok.injEq] at e2
      obtain ⟨rfl, rfl⟩ := e2
      exact ⟨hown.1, .inr ⟨g, cap, cur, rfl, hbg, (Below.heap_alloc w.drew _ g hgl).trans hg, hnc, hcm, hcs, htake⟩⟩
section
variable {ops : Array Oper} {rest : List Oper} {o : Oper} {a : Act} {w : World} {Q : Exit → Act → World → Prop}
theorem wpList_append_still (hgd : o.guard = none) (s x : Operand) (ho : o.op = .call { callee := .builtin .append, args := #[s, x], argTypes := #[64, 64] }) (N n : Nat) (v : Value) (l : List Value) (r : List (BitVec 8)) (hr0 : r.length = 32)
    (hs : a.eval s = v) (hown : Ow w v n l) (hx : a.eval x = .slice (some ⟨N, 0, none⟩) 1 1) (hN : Row w N (vB r) 44) (hk : (n + 1) * 32 ≤ 140737488355328)
    (h : ∀ v' w', Ow w' v' (n + 1) (l ++ vB r) → w.grownBy w' v.ownBlock → (v'.ownBlock = v.ownBlock ∨ v'.ownBlock = some w.heap.size) → Ow w' v n l → wpList Tryz.prog ops Q rest (a.put o.dst v') w') : wpList Tryz.prog ops Q (o :: rest) a w := by
  obtain ⟨ie, z, h1, h2, h3, h5, h4⟩ := info_d_open
  have hcell := hN.all
  obtain ⟨v', w', hr, q2, q3, q4, q5⟩ := run_append_still (P := Tryz.prog) w 0 64 o.type 44 ie z 32 32 Tryz.underlying64 h1 h2 h3 h5 h4 (by decide) v n l hown ⟨N, 0, none⟩ 1 1 (vB r) (by rw [vB_length, hr0])
    (fun j u hj => by rw [Addr.add_mid]; exact hcell j u hj) (vB_one r) (by unfold maxLen; omega) hk (Nat.zero_le _)
  refine wpList_plain hgd fun K hK => ?_
  unfold Oper.wp execOp
  simp only [ho, resolve, invoke, builtin, Sem.run_bind, Sem.run_pure, Result.andThen_ok, List.map_toArray, List.map_cons, List.map_nil, hs, hx, hr]
  exact hK _ _ (h v' w' q2 q3 q4 q5)
end

/-- A mark's bytes, so many times. -/
def rp (m : List (BitVec 8)) (t : Nat) : List (BitVec 8) := (List.replicate t m).flatten
theorem rp_len (m : List (BitVec 8)) (h : m.length = 32) (t : Nat) : (rp m t).length = t * 32 := by
  unfold rp
  rw [flatten_len _ (fun d hd => by rw [(List.mem_replicate.1 hd).2]; exact h), List.length_replicate]
theorem rp_more (m : List (BitVec 8)) (t : Nat) : rp m (t + 1) = rp m t ++ m := by
  unfold rp; rw [List.replicate_succ', List.flatten_append]; simp
/-- The first t are marks, the rest is as it was. -/
def half (m : List (BitVec 8)) (xs : List Value) (t : Nat) : List Value := vB (rp m t) ++ xs.drop (t * 32)
theorem half_zero (m : List (BitVec 8)) (xs : List Value) : half m xs 0 = xs := by simp [half, rp, vB]
theorem half_all (m : List (BitVec 8)) (xs : List Value) (n : Nat) (h : xs.length = n * 32) : half m xs n = vB (rp m n) := by
  unfold half; rw [List.drop_of_length_le (by omega), List.append_nil]
theorem half_step (m : List (BitVec 8)) (hm : m.length = 32) (xs : List Value) (t : Nat) : (half m xs t).take (t * 32) ++ vB m ++ (half m xs t).drop (t * 32 + 32) = half m xs (t + 1) := by
  have hl : (vB (rp m t)).length = t * 32 := by rw [vB_length, rp_len m hm]
  unfold half
  rw [List.take_append_of_le_length (by omega), List.take_of_length_le (by omega), List.drop_append, List.drop_of_length_le (by omega), List.nil_append, hl, List.drop_drop, rp_more, vB_append]
  rw [show t * 32 + (t * 32 + 32 - t * 32) = (t + 1) * 32 by omega]

end Go.Proofs.YtdicgenhfmhklaaGreatDoor
