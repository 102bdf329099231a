/-
  slices.Clone of digests; bits.OnesCount; Front and Resume.
-/
import Derived.Test.YtbfahgdienppoaaGreatDoorTLp
import Derived.Test.YtbfahgdienppoaaGreatDoorTLs
import Derived.Test.YtbfahgdienppoaaGreatDoorTDg
import Derived.Shelf.Lays7
import Derived.Shelf.Spec.TrailingZeros
import Derived.Test.YtbfahgdienppoaaGreatDoorTChkO

namespace Go.Proofs.YtbfahgdienppoaaGreatDoor
open Go Go.RowKit
open Sha

section
variable {P : Program} {Q : Exit → Act → World → Prop} {o : Oper} {a : Act} {w : World} {K : Act → World → Prop}
theorem wp_slice_upto (t e : TypeId) (x z : Operand) (b f n cap k s : Nat) (ho : o.op = .slice t x none (some z) none) (hx : a.eval x = .slice (some ⟨b, f, none⟩) n cap) (hz : a.eval z = .int .i64 (k : Int)) (hk : k ≤ cap)
    (hu : P.underlying t = some (.slice e)) (hs : (P.info? e).map (·.size) = some s) (h : K (a.put o.dst (.slice (some ⟨b, f, none⟩) k cap)) w) : Oper.wp P o a w K Q := by
  cases hq : P.info? e with
  | none => simp [hq] at hs
  | some i =>
    have hr : (Instr.sliceAt t (.slice (some ⟨b, f, none⟩) n cap) none (some (.int .i64 (k : Int))) none).run P w = .ok (.slice (some ⟨b, f, none⟩) k cap) w := by
      simp [Instr.sliceAt, Instr.slice, run_underlying hu, Instr.sliceBounds, Instr.sliceBound, asIntOf, sizeOf, typeInfo, hq, hk, Addr.add_mid]
    unfold Oper.wp execOp
    simp only [ho, hx, hz, Option.map_some, Option.map_none, Sem.run_bind, hr, Result.andThen_ok, Sem.run_pure, Oper.upon_value]
    exact h
end
section
variable {ops : Array Oper} {rest : List Oper} {op : Oper} {a : Act} {w : World} {Q : Exit → Act → World → Prop}
theorem wpList_slice_upto (hw : Region.wanted op (yielded ops a.tmps) = true) (t e : TypeId) (x z : Operand) (b f n cap k s : Nat) (ho : op.op = .slice t x none (some z) none) (hx : a.eval x = .slice (some ⟨b, f, none⟩) n cap) (hz : a.eval z = .int .i64 (k : Int)) (hk : k ≤ cap)
    (hu : Tryz.prog.underlying t = some (.slice e)) (hs : (Tryz.prog.info? e).map (·.size) = some s) (h : wpList Tryz.prog ops Q rest (a.put op.dst (.slice (some ⟨b, f, none⟩) k cap)) w) : wpList Tryz.prog ops Q (op :: rest) a w :=
  BigFrame.wpList_want hw fun _ hK => wp_slice_upto t e x z b f n cap k s ho hx hz hk hu hs (hK _ _ h)
end

theorem marks9_get (ds : List (List (BitVec 8))) (t : Nat) (h : t < 9) : (ds ++ List.replicate 9 m77).getD (ds.length + t) [] = m77 := by
  rw [List.getD_eq_getElem?_getD, List.getElem?_append_right (by omega), List.getElem?_replicate, if_pos (by omega)]; rfl
theorem marks9_each (ds : List (List (BitVec 8))) (h : ∀ d ∈ ds, d.length = 32) : ∀ d ∈ ds ++ List.replicate 9 m77, d.length = 32 := fun d hd => by
  rcases List.mem_append.1 hd with hd | hd
  · exact h d hd
  · rw [(List.mem_replicate.1 hd).2]; rfl

end Go.Proofs.YtbfahgdienppoaaGreatDoor

namespace Go.Proofs.YtbfahgdienppoaaGreatDoor
open Go Go.RowKit
open Sha

/-- All but some blocks stay. -/
structure GroT (R : Nat → Prop) (w w' : World) : Prop where
  os : w'.os = w.os
  tape : w'.tape = w.tape
  output : w'.output = w.output
  size : w.heap.size ≤ w'.heap.size
  block : ∀ k, k < w.heap.size → ¬ R k → w'.heap[k]? = w.heap[k]?
section
variable {R : Nat → Prop} {a b c : World}
theorem GroT.refl (R : Nat → Prop) (w : World) : GroT R w w := ⟨rfl, rfl, rfl, Nat.le_refl _, fun _ _ _ => rfl⟩
theorem GroT.trans (h : GroT R a b) (k : GroT R b c) : GroT R a c :=
  ⟨k.os.trans h.os, k.tape.trans h.tape, k.output.trans h.output, Nat.le_trans h.size k.size, fun i hi hn => (k.block i (Nat.lt_of_lt_of_le hi h.size) hn).trans (h.block i hi hn)⟩
theorem GroT.below (h : GroT R a b) (k : Below b.heap.size b c) : GroT R a c :=
  ⟨k.os.trans h.os, k.tape.trans h.tape, k.output.trans h.output, Nat.le_trans h.size k.size, fun i hi hn => (k.block i (Nat.lt_of_lt_of_le hi h.size)).trans (h.block i hi hn)⟩
/-- A block that stays out, or is a new one, is changed. -/
theorem GroT.grown {row : Option Nat} (h : GroT R a b) (k : b.grownBy c row) (hr : ∀ g, row = some g → R g ∨ a.heap.size ≤ g) : GroT R a c :=
  ⟨k.os.trans h.os, k.tape.trans h.tape, k.output.trans h.output, Nat.le_trans h.size k.size, fun i hi hn => (k.block i (Nat.lt_of_lt_of_le hi h.size) (fun e => by
    rcases hr i e.symm with q | q
    · exact hn q
    · omega)).trans (h.block i hi hn)⟩
theorem heap_setsT (w : World) (g o : Nat) (vs : List Value) (k : Nat) (h : k ≠ g) : (w.setCells g o vs).heap[k]? = w.heap[k]? := by
  induction vs generalizing w o with
  | nil => rfl
  | cons v r ih => exact (ih (w.setCell ⟨g, o, none⟩ v) (o + 1)).trans (Below.heap_setCell _ _ _ _ h)
theorem GroT.sets (h : GroT R a b) (g o : Nat) (vs : List Value) (hr : R g) : GroT R a (b.setCells g o vs) := by
  have k := below_setCells (Below.refl 0 b) (b := g) (o := o) (Nat.zero_le _) vs
  exact ⟨k.os.trans h.os, k.tape.trans h.tape, k.output.trans h.output, Nat.le_trans h.size k.size, fun i hi hn => (heap_setsT b g o vs i (fun e => hn (e ▸ hr))).trans (h.block i hi hn)⟩
theorem GroT.to_below {N : Nat} (h : GroT R a b) (hN : N ≤ a.heap.size) (hR : ∀ k, R k → N ≤ k) : Below N a b :=
  ⟨h.os, h.tape, h.output, h.size, fun k hk => h.block k (Nat.lt_of_lt_of_le hk hN) (fun q => by have := hR k q; omega)⟩
end

/-- Two lists that lie in unlike blocks. -/
def Ap (v u : Value) : Prop := ∀ g, v.ownBlock = some g → u.ownBlock ≠ some g
theorem Ap.symm {v u : Value} (h : Ap v u) : Ap u v := fun g h1 h2 => h g h2 h1
abbrev Ow (w : World) (v : Value) (n : Nat) (xs : List Value) : Prop := w.ownsRow 0 53 32 v n xs
section
variable {w w' : World} {v : Value} {n : Nat} {xs : List Value}
theorem Ow.lt (h : Ow w v n xs) : ∀ g, v.ownBlock = some g → g < w.heap.size := fun g e => (World.ownsRow.lt h g e).2
theorem Ow.block (h : Ow w v n xs) (k : ∀ g, v.ownBlock = some g → w'.heap[g]? = w.heap[g]?) : Ow w' v n xs := by
  obtain ⟨h1, h2⟩ := h
  refine ⟨h1, ?_⟩
  rcases h2 with h2 | ⟨g, cap, cur, hv, hg, hh, r⟩
  · exact .inl h2
  · exact .inr ⟨g, cap, cur, hv, hg, (k g (by rw [hv]; rfl)).trans hh, r⟩
theorem Ow.be (h : Ow w v n xs) (k : Below w.heap.size w w') : Ow w' v n xs := h.block fun g e => k.block g (h.lt g e)
theorem Ow.gro {R : Nat → Prop} (h : Ow w v n xs) (k : GroT R w w') (hR : ∀ g, v.ownBlock = some g → ¬ R g) : Ow w' v n xs := h.block fun g e => k.block g (h.lt g e) (hR g e)
theorem Ow.grown {row : Option Nat} (h : Ow w v n xs) (k : w.grownBy w' row) (hR : ∀ g, v.ownBlock = some g → some g ≠ row) : Ow w' v n xs := h.block fun g e => k.block g (h.lt g e) (hR g e)
/-- What stands in a place is written over. -/
theorem Ow.set {g cap : Nat} (h : Ow w (.slice (some ⟨g, 0, none⟩) n cap) n xs) (t : Nat) (ht : t < n) (ys : List Value) (hy : ys.length = 32) :
    Ow (w.setCells g (t * 32) ys) (.slice (some ⟨g, 0, none⟩) n cap) n (xs.take (t * 32) ++ ys ++ xs.drop (t * 32 + 32)) := by
  obtain ⟨h1, h2⟩ := h
  rcases h2 with ⟨h2, _⟩ | ⟨g', cap', cur, hv, hg, hh, r1, r2, r3, r4⟩
  · cases h2
  · simp only [Value.slice.injEq, Option.some.injEq, Addr.mk.injEq] at hv
    obtain ⟨⟨rfl, _⟩, _, rfl⟩ := hv
    have q : Row w g cur.toList 53 := by unfold Row; rw [hh]
    have hl : cur.toList.length = cap * 32 := by rw [Array.length_toList, r3]
    have q2 := Row.setCells (t * 32) ys q (by rw [hl, hy]; omega)
    refine ⟨?_, .inr ⟨g, cap, (cur.toList.take (t * 32) ++ ys ++ cur.toList.drop (t * 32 + ys.length)).toArray, rfl, hg, q2, r1, r2, ?_, ?_⟩⟩
    · simp only [List.length_append, List.length_take, List.length_drop, h1, hy]; omega
    · simp only [List.size_toArray, List.length_append, List.length_take, List.length_drop, hl, hy]; omega
    · rw [← r4, hy]
      simp only [List.take_append, List.length_take, List.length_append, hl, hy, List.take_take, List.drop_take]
      rw [show min (n * 32) (t * 32) = t * 32 by omega, show min (t * 32) (n * 32) = t * 32 by omega, show min (t * 32) (cap * 32) = t * 32 by omega, show n * 32 - (t * 32 + 32) = n * 32 - (t * 32 + 32) from rfl]
      rw [List.take_of_length_le (l := ys) (by omega)]
theorem Ow.set_other (h : Ow w v n xs) {g o : Nat} {ys : List Value} (hR : ∀ k, v.ownBlock = some k → k ≠ g) : Ow (w.setCells g o ys) v n xs := h.block fun k e => heap_setsT w g o ys k (hR k e)
theorem Ow.there {g cap : Nat} (h : Ow w (.slice (some ⟨g, 0, none⟩) n cap) n xs) (t : Nat) (ht : t < n) : w.there g (t * 32) 32 := by
  obtain ⟨h1, h2⟩ := h
  rcases h2 with ⟨h2, _⟩ | ⟨g', cap', cur, hv, hg, hh, r1, r2, r3, r4⟩
  · cases h2
  · simp only [Value.slice.injEq, Option.some.injEq, Addr.mk.injEq] at hv
    obtain ⟨⟨rfl, _⟩, _, rfl⟩ := hv
    have q : Row w g cur.toList 53 := by unfold Row; rw [hh]
    exact q.there _ _ (by rw [Array.length_toList, r3]; omega)
theorem Ow.open (h : Ow w v n xs) (hn : 0 < n) : ∃ g cap, v = .slice (some ⟨g, 0, none⟩) n cap := by
  rcases h.2 with ⟨_, h2⟩ | ⟨g, cap, cur, hv, _⟩
  · omega
  · exact ⟨g, cap, hv⟩
theorem Ow.form (h : Ow w v n xs) : ∃ A cap, v = .slice A n cap ∧ n ≤ cap := by
  rcases h.2 with ⟨h1, h2⟩ | ⟨g, cap, cur, hv, _, _, hc, _⟩
  · exact ⟨none, 0, by rw [h1, h2], by omega⟩
  · exact ⟨_, cap, hv, hc⟩
theorem Ow.pat {ds : List (List (BitVec 8))} (h : Ow w v ds.length (vB ds.flatten)) (h32 : ∀ d ∈ ds, d.length = 32) : PAt w v ds := PAt.of_own (by rw [fl_flatten]; exact h) h32
end
theorem GroT.ow {R : Nat → Prop} {a b : World} {v : Value} {n : Nat} {xs : List Value} (h : GroT R a b) (k : Ow a v n xs) (hR : ∀ g, v.ownBlock = some g → ¬ R g) : Ow b v n xs := k.gro h hR

/-- append onto a list that is owned; the list as it was told stays. -/
theorem run_append_still {P : Program} (w : World) (base : Nat) (t ty e : TypeId) (i : TypeInfo) (z : Value) (size bytes : Nat) (ht : P.underlying t = some (.slice e)) (hi : P.info? e = some i) (hz : i.zero = some z)
    (hsize : i.size = size) (hby : i.bytes = bytes) (hzs : z.cells.size = size) (hsz : 0 < size)
    (v : Value) (n : Nat) (xs : List Value) (hown : w.ownsRow base e size v n xs)
    (a : Addr) (m c : Nat) (news : List Value) (hl : news.length = m * size) (hnews : ∀ j u, news[j]? = some u → w.cell? (a.add j) = some u) (h1 : ∀ u ∈ news, u.oneCell' = true)
    (h63 : n + m ≤ maxLen) (hbytes : (n + m) * bytes ≤ 140737488355328) (hbase : base ≤ w.heap.size) :
    ∃ v' w', (Builtin.append_ #[t, t] ty #[v, .slice (some a) m c]).run P w = .ok v' w' ∧ w'.ownsRow base e size v' (n + m) (xs ++ news) ∧ w.grownBy w' v.ownBlock ∧
      (v'.ownBlock = v.ownBlock ∨ v'.ownBlock = some w.heap.size) ∧ w'.ownsRow base e size v n xs := by
  obtain ⟨v', w', hr, q2, q3, _, q5⟩ := run_append_own_at (P := P) w base t ty e i z size bytes ht hi hz hsize hby hzs hsz v n xs hown a m c news hl hnews h1 h63 hbytes hbase
  refine ⟨v', w', hr, q2, q3, q5, ?_⟩
  subst hsize
  subst hby
  have hsmall : n + m ≤ 9223372036854775807 := by simp only [maxLen] at h63; omega
  rcases hown.2 with ⟨rfl, rfl⟩ | ⟨g, cap, cur, rfl, hbg, hg, hnc, hcm, hcs, htake⟩
  · exact ⟨hown.1, .inl ⟨rfl, rfl⟩⟩
  · have hgl : g < w.heap.size := (Array.getElem?_eq_some_iff.1 hg).1
    by_cases hroom : n + m ≤ cap
    · have hfit : n * i.size + news.length ≤ cur.size := by rw [hl, hcs, ← Nat.add_mul]; exact Nat.mul_le_mul_right _ hroom
      have hr2 := run_append_room (P := P) w t ty e i ht hi g n cap cur hg a m c news hl hnews h1 hroom hfit
      have e2 := hr.symm.trans hr2
      simp only [Result.ok.injEq] at e2
      obtain ⟨rfl, rfl⟩ := e2
      refine ⟨hown.1, .inr ⟨g, cap, _, rfl, hbg, setRow_heap w g cur _ e _ hg, hnc, hcm, ?_, ?_⟩⟩
      · simp only [List.size_toArray, List.length_append, List.length_take, List.length_drop, Array.length_toList]
        omega
      · rw [htake]
        simp only [List.append_assoc]
        rw [List.take_append_of_le_length (by rw [hown.1]; exact Nat.le_refl _), List.take_of_length_le (by rw [hown.1]; exact Nat.le_refl _)]
    · have holds : ∀ j u, xs[j]? = some u → w.cell? ((⟨g, 0, none⟩ : Addr).add j) = some u := hown.cells (g := g) rfl
      have hr2 := run_append_grow (P := P) w t ty e i z ht hi hz ⟨g, 0, none⟩ n cap xs hown.1 holds a m c news hl hnews (by omega) (by omega) (growslice_fits (by omega) hbytes)
      have e2 := hr.symm.trans hr2
      simp only [Result.ok.injEq] at e2
      obtain ⟨rfl, rfl⟩ := e2
      exact ⟨hown.1, .inr ⟨g, cap, cur, rfl, hbg, (Below.heap_alloc w.drew _ g hgl).trans hg, hnc, hcm, hcs, htake⟩⟩
section
variable {ops : Array Oper} {rest : List Oper} {o : Oper} {a : Act} {w : World} {Q : Exit → Act → World → Prop}
theorem wpList_append_still (hgd : o.guard = none) (s x : Operand) (ho : o.op = .call { callee := .builtin .append, args := #[s, x], argTypes := #[63, 63] }) (N n : Nat) (v : Value) (l : List Value) (r : List (BitVec 8)) (hr0 : r.length = 32)
    (hs : a.eval s = v) (hown : Ow w v n l) (hx : a.eval x = .slice (some ⟨N, 0, none⟩) 1 1) (hN : Row w N (vB r) 53) (hk : (n + 1) * 32 ≤ 140737488355328)
    (h : ∀ v' w', Ow w' v' (n + 1) (l ++ vB r) → w.grownBy w' v.ownBlock → (v'.ownBlock = v.ownBlock ∨ v'.ownBlock = some w.heap.size) → Ow w' v n l → wpList Tryz.prog ops Q rest (a.put o.dst v') w') : wpList Tryz.prog ops Q (o :: rest) a w := by
  obtain ⟨ie, z, h1, h2, h3, h5, h4⟩ := info_d_open
  have hcell := hN.all
  obtain ⟨v', w', hr, q2, q3, q4, q5⟩ := run_append_still (P := Tryz.prog) w 0 63 o.type 53 ie z 32 32 Tryz.underlying63 h1 h2 h3 h5 h4 (by decide) v n l hown ⟨N, 0, none⟩ 1 1 (vB r) (by rw [vB_length, hr0])
    (fun j u hj => by rw [Addr.add_mid]; exact hcell j u hj) (vB_one r) (by unfold maxLen; omega) hk (Nat.zero_le _)
  refine wpList_plain hgd fun K hK => ?_
  unfold Oper.wp execOp
  simp only [ho, resolve, invoke, builtin, Sem.run_bind, Sem.run_pure, Result.andThen_ok, List.map_toArray, List.map_cons, List.map_nil, hs, hx, hr]
  exact hK _ _ (h v' w' q2 q3 q4 q5)
end

/-- A mark's bytes, so many times. -/
def rp (m : List (BitVec 8)) (t : Nat) : List (BitVec 8) := (List.replicate t m).flatten
theorem rp_len (m : List (BitVec 8)) (h : m.length = 32) (t : Nat) : (rp m t).length = t * 32 := by
  unfold rp
  rw [flatten_len _ (fun d hd => by rw [(List.mem_replicate.1 hd).2]; exact h), List.length_replicate]
theorem rp_more (m : List (BitVec 8)) (t : Nat) : rp m (t + 1) = rp m t ++ m := by
  unfold rp; rw [List.replicate_succ', List.flatten_append]; simp
/-- The first t are marks, the rest is as it was. -/
def half (m : List (BitVec 8)) (xs : List Value) (t : Nat) : List Value := vB (rp m t) ++ xs.drop (t * 32)
theorem half_zero (m : List (BitVec 8)) (xs : List Value) : half m xs 0 = xs := by simp [half, rp, vB]
theorem half_all (m : List (BitVec 8)) (xs : List Value) (n : Nat) (h : xs.length = n * 32) : half m xs n = vB (rp m n) := by
  unfold half; rw [List.drop_of_length_le (by omega), List.append_nil]
theorem half_step (m : List (BitVec 8)) (hm : m.length = 32) (xs : List Value) (t : Nat) : (half m xs t).take (t * 32) ++ vB m ++ (half m xs t).drop (t * 32 + 32) = half m xs (t + 1) := by
  have hl : (vB (rp m t)).length = t * 32 := by rw [vB_length, rp_len m hm]
  unfold half
  rw [List.take_append_of_le_length (by omega), List.take_of_length_le (by omega), List.drop_append, List.drop_of_length_le (by omega), List.nil_append, hl, List.drop_drop, rp_more, vB_append]
  rw [show t * 32 + (t * 32 + 32 - t * 32) = (t + 1) * 32 by omega]

end Go.Proofs.YtbfahgdienppoaaGreatDoor

namespace Go.Proofs.YtbfahgdienppoaaGreatDoor
open Go Go.RowKit
open Sha

/-- Two parts together. -/
def nd (l r : List (BitVec 8)) : List (BitVec 8) := dig ([1#8] ++ (l ++ r))

theorem fpart_two_pow (n j : Nat) (h2 : 2 ≤ n) (hn : n < 4611686018427387904) (ha : 2 ^ j < n) (hb : n ≤ 2 * 2 ^ j) : fpart n = 2 ^ j := by
  have hf := fpart_bounds n h2 hn
  have hp : fpart n = 2 ^ (Lib.bitLen (n - 1) - 1) := rfl
  generalize Lib.bitLen (n - 1) - 1 = i at hp
  rw [hp] at hf ⊢
  rcases Nat.lt_trichotomy i j with h | h | h
  · exfalso
    have : 2 * 2 ^ i ≤ 2 ^ j := by
      rw [Nat.mul_comm, ← Nat.pow_succ]; exact Nat.pow_le_pow_right (by decide) h
    omega
  · rw [h]
  · exfalso
    have : 2 * 2 ^ j ≤ 2 ^ i := by
      rw [Nat.mul_comm, ← Nat.pow_succ]; exact Nat.pow_le_pow_right (by decide) h
    omega

/-- A part of two halves, of which the left one is whole. -/
theorem rt_two (k : Nat) (x y : List (List (BitVec 8))) (hx : x.length = 2 ^ k) (h1 : 1 ≤ y.length) (hy : y.length ≤ 2 ^ k) (hl : (x ++ y).length < 4611686018427387904) : rt (x ++ y) = nd (rt x) (rt y) := by
  have hp : 1 ≤ 2 ^ k := Nat.pow_pos (by decide)
  have hxy : (x ++ y).length = 2 ^ k + y.length := by rw [List.length_append, hx]
  have hf : fpart (x ++ y).length = 2 ^ k := fpart_two_pow _ k (by omega) hl (by omega) (by omega)
  rw [rt_many (x ++ y) (by omega) hl, hf, ← hx, List.take_left', List.drop_left'] <;> first | rfl | skip

/-- The frontier at a level: m parts of 2^k leaves, as few as can be. -/
def fr (k m : Nat) (ps : List (List (BitVec 8))) : List (List (BitVec 8)) :=
  if _h : m = 0 then [] else if m % 2 = 1 then fr (k + 1) (m / 2) (ps.take ((m - 1) * 2 ^ k)) ++ [rt (ps.drop ((m - 1) * 2 ^ k))] else fr (k + 1) (m / 2) ps
termination_by m
decreasing_by all_goals omega
theorem fr_zero (k : Nat) (ps : List (List (BitVec 8))) : fr k 0 ps = [] := by rw [fr, dif_pos rfl]
theorem fr_odd (k m : Nat) (ps : List (List (BitVec 8))) (h : m % 2 = 1) : fr k m ps = fr (k + 1) (m / 2) (ps.take ((m - 1) * 2 ^ k)) ++ [rt (ps.drop ((m - 1) * 2 ^ k))] := by
  rw [fr, dif_neg (by omega), if_pos h]
theorem fr_even (k m : Nat) (ps : List (List (BitVec 8))) (h : m % 2 = 0) (h0 : m ≠ 0) : fr k m ps = fr (k + 1) (m / 2) ps := by
  rw [fr, dif_neg h0, if_neg (by omega)]

theorem half_pow (k m : Nat) (h : m % 2 = 1) : (m - 1) * 2 ^ k = m / 2 * 2 ^ (k + 1) := by
  rw [Nat.pow_succ, show m - 1 = m / 2 * 2 by omega, Nat.mul_assoc, Nat.mul_comm 2 (2 ^ k)]
theorem even_pow (k m : Nat) (h : m % 2 = 0) : m * 2 ^ k = m / 2 * 2 ^ (k + 1) := by
  rw [Nat.pow_succ, show m = m / 2 * 2 by omega, Nat.mul_div_cancel _ (by decide), Nat.mul_assoc, Nat.mul_comm 2 (2 ^ k)]
theorem odd_rest (k m : Nat) (ps : List (List (BitVec 8))) (h : m % 2 = 1) (hl : ps.length = m * 2 ^ k) : (ps.take ((m - 1) * 2 ^ k)).length = m / 2 * 2 ^ (k + 1) ∧ (ps.drop ((m - 1) * 2 ^ k)).length = 2 ^ k := by
  have e : m * 2 ^ k = (m - 1) * 2 ^ k + 2 ^ k := by
    rw [show m * 2 ^ k = ((m - 1) + 1) * 2 ^ k by rw [Nat.sub_add_cancel (by omega)], Nat.add_mul, Nat.one_mul]
  rw [← half_pow k m h]
  generalize (m - 1) * 2 ^ k = a at *
  exact ⟨by rw [List.length_take, hl, e]; exact Nat.min_eq_left (Nat.le_add_right _ _), by rw [List.length_drop, hl, e]; exact Nat.add_sub_cancel_left _ _⟩

theorem fr_fold (m : Nat) : ∀ (k : Nat) (ps y : List (List (BitVec 8))), ps.length = m * 2 ^ k → 1 ≤ y.length → y.length ≤ 2 ^ k → (ps ++ y).length < 4611686018427387904 → (fr k m ps).foldr nd (rt y) = rt (ps ++ y) := by
  induction m using Nat.strongRecOn with
  | ind m ih =>
    intro k ps y hl h1 hy hs
    by_cases h0 : m = 0
    · subst h0
      rw [Nat.zero_mul] at hl
      rw [fr_zero, List.length_eq_zero_iff.1 hl]
      rfl
    · by_cases ho : m % 2 = 1
      · obtain ⟨e1, e2⟩ := odd_rest k m ps ho hl
        have e3 := List.take_append_drop ((m - 1) * 2 ^ k) ps
        rw [fr_odd k m ps ho, List.foldr_append]
        generalize ps.take ((m - 1) * 2 ^ k) = A at *
        generalize ps.drop ((m - 1) * 2 ^ k) = x at *
        subst e3
        have hs' : (x ++ y).length < 4611686018427387904 := by
          rw [List.length_append, List.length_append] at hs
          rw [List.length_append]; omega
        rw [List.append_assoc] at hs ⊢
        show List.foldr nd (nd (rt x) (rt y)) _ = _
        rw [← rt_two k x y e2 h1 hy hs']
        exact ih (m / 2) (by omega) (k + 1) A (x ++ y) e1 (by rw [List.length_append]; omega) (by rw [List.length_append, Nat.pow_succ]; omega) hs
      · rw [fr_even k m ps (by omega) h0]
        exact ih (m / 2) (by omega) (k + 1) ps y (by rw [hl]; exact even_pow k m (by omega)) h1 (by rw [Nat.pow_succ]; omega) hs

/-- The root of a frontier. -/
theorem fr_root (m : Nat) : ∀ (k : Nat) (ps : List (List (BitVec 8))), 1 ≤ m → ps.length = m * 2 ^ k → ps.length < 4611686018427387904 → ∃ F z, fr k m ps = F ++ [z] ∧ F.foldr nd z = rt ps := by
  induction m using Nat.strongRecOn with
  | ind m ih =>
    intro k ps h1 hl hs
    by_cases ho : m % 2 = 1
    · obtain ⟨e1, e2⟩ := odd_rest k m ps ho hl
      have e3 := List.take_append_drop ((m - 1) * 2 ^ k) ps
      refine ⟨_, _, fr_odd k m ps ho, ?_⟩
      generalize ps.take ((m - 1) * 2 ^ k) = A at *
      generalize ps.drop ((m - 1) * 2 ^ k) = x at *
      subst e3
      have hp : 1 ≤ 2 ^ k := Nat.pow_pos (by decide)
      exact fr_fold (m / 2) (k + 1) A x e1 (by omega) (by rw [Nat.pow_succ]; omega) hs
    · rw [fr_even k m ps (by omega) (by omega)]
      exact ih (m / 2) (by omega) (k + 1) ps (by omega) (by rw [hl]; exact even_pow k m (by omega)) hs

/-- How many bits of 1 stand at a number's end. -/
def t1 (m : Nat) : Nat := if _h : m % 2 = 1 then t1 (m / 2) + 1 else 0
termination_by m
decreasing_by omega
theorem t1_odd (m : Nat) (h : m % 2 = 1) : t1 m = t1 (m / 2) + 1 := by rw [t1, dif_pos h]
theorem t1_even (m : Nat) (h : m % 2 = 0) : t1 m = 0 := by rw [t1, dif_neg (by omega)]

/-- A part that is added, with so many carries. -/
def addF : Nat → List (List (BitVec 8)) → List (BitVec 8) → List (List (BitVec 8))
  | 0, F, p => F ++ [p]
  | t + 1, F, p => addF t F.dropLast (nd (F.getLastD []) p)
theorem fr_add (m : Nat) : ∀ (k : Nat) (ps x : List (List (BitVec 8))), ps.length = m * 2 ^ k → x.length = 2 ^ k → (ps ++ x).length < 4611686018427387904 → addF (t1 m) (fr k m ps) (rt x) = fr k (m + 1) (ps ++ x) := by
  induction m using Nat.strongRecOn with
  | ind m ih =>
    intro k ps x hl hx hs
    have hp : 1 ≤ 2 ^ k := Nat.pow_pos (by decide)
    by_cases ho : m % 2 = 1
    · obtain ⟨e1, e2⟩ := odd_rest k m ps ho hl
      have e3 := List.take_append_drop ((m - 1) * 2 ^ k) ps
      rw [fr_odd k m ps ho, t1_odd m ho, fr_even k (m + 1) _ (by omega) (by omega)]
      generalize ps.take ((m - 1) * 2 ^ k) = A at *
      generalize ps.drop ((m - 1) * 2 ^ k) = y at *
      subst e3
      have hs' : (y ++ x).length < 4611686018427387904 := by
        rw [List.length_append, List.length_append] at hs
        rw [List.length_append]; omega
      rw [addF, List.dropLast_concat, List.getLastD_concat, ← rt_two k y x e2 (by omega) (by omega) hs', show (m + 1) / 2 = m / 2 + 1 by omega, List.append_assoc]
      exact ih (m / 2) (by omega) (k + 1) A (y ++ x) e1 (by rw [List.length_append, Nat.pow_succ]; omega) (by rw [← List.append_assoc]; exact hs)
    · rw [t1_even m (by omega), fr_odd k (m + 1) _ (by omega), show (m + 1) / 2 = m / 2 by omega, show m + 1 - 1 = m by omega, ← hl, List.take_left', List.drop_left', addF]
      · by_cases h0 : m = 0
        · subst h0
          rw [fr_zero, Nat.zero_div, fr_zero]
        · rw [fr_even k m ps (by omega) h0]
      all_goals rfl

/-- The frontier's digests. -/
theorem fr_dl (m : Nat) : ∀ (k : Nat) (ps : List (List (BitVec 8))), ∀ d ∈ fr k m ps, d.length = 32 := by
  induction m using Nat.strongRecOn with
  | ind m ih =>
    intro k ps d hd
    by_cases h0 : m = 0
    · subst h0; rw [fr_zero] at hd; cases hd
    · by_cases ho : m % 2 = 1
      · rw [fr_odd k m ps ho] at hd
        rcases List.mem_append.1 hd with h | h
        · exact ih (m / 2) (by omega) _ _ d h
        · rw [List.mem_singleton.1 h]; exact rt_length _
      · rw [fr_even k m ps (by omega) h0] at hd
        exact ih (m / 2) (by omega) _ _ d hd
/-- How many bits of 1 a number has. -/
def pc (m : Nat) : Nat := if _h : m = 0 then 0 else m % 2 + pc (m / 2)
termination_by m
decreasing_by omega
theorem fr_len (m : Nat) : ∀ (k : Nat) (ps : List (List (BitVec 8))), (fr k m ps).length = pc m := by
  induction m using Nat.strongRecOn with
  | ind m ih =>
    intro k ps
    by_cases h0 : m = 0
    · subst h0; rw [fr_zero, pc, dif_pos rfl]; rfl
    · rw [pc, dif_neg h0]
      by_cases ho : m % 2 = 1
      · rw [fr_odd k m ps ho, List.length_append, ih (m / 2) (by omega), ho]
        simp; omega
      · rw [fr_even k m ps (by omega) h0, ih (m / 2) (by omega), show m % 2 = 0 by omega, Nat.zero_add]
/-- So many carries there are parts for. -/
theorem t1_le (m : Nat) : t1 m ≤ pc m := by
  induction m using Nat.strongRecOn with
  | ind m ih =>
    by_cases ho : m % 2 = 1
    · rw [t1_odd m ho, pc, dif_neg (by omega), ho]
      have := ih (m / 2) (by omega)
      omega
    · rw [t1_even m (by omega)]; exact Nat.zero_le _

end Go.Proofs.YtbfahgdienppoaaGreatDoor

namespace Go.Proofs.YtbfahgdienppoaaGreatDoor
open Go Go.RowKit
open Sha

/-- A mark as a digest. -/
def md (m : BitVec 8) : List (BitVec 8) := m :: List.replicate 31 0#8
theorem dl_md (m : BitVec 8) : Dl (md m) := rfl
theorem built_md (k : Int) (cs : List Value) (h : cs = [.int .u8 k, .int .u8 0, .int .u8 0, .int .u8 0, .int .u8 0, .int .u8 0, .int .u8 0, .int .u8 0, .int .u8 0, .int .u8 0, .int .u8 0, .int .u8 0, .int .u8 0, .int .u8 0, .int .u8 0, .int .u8 0, .int .u8 0, .int .u8 0, .int .u8 0, .int .u8 0, .int .u8 0, .int .u8 0, .int .u8 0, .int .u8 0, .int .u8 0, .int .u8 0, .int .u8 0, .int .u8 0, .int .u8 0, .int .u8 0, .int .u8 0, .int .u8 0]) : Tryz.prog.built 53 [(0, .int .u8 k)] = some cs.toArray := by
  subst h
  kernel_rfl
theorem wp_buildx {o : Oper} {a : Act} {w : World} {K : Act → World → Prop} {Q : Exit → Act → World → Prop} (x : Operand) (m : BitVec 8) (ho : o.op = .build 53 #[(0, x)]) (hx : a.eval x = .int .u8 (c m)) (h : K (a.put o.dst (.agg (vB (md m)).toArray)) w) : Oper.wp Tryz.prog o a w K Q := by
  have e : ((#[(0, x)] : Array (Nat × Operand)).map fun (i, x) => (i, a.eval x)).toList = [(0, .int .u8 (c m))] := by simp [hx]
  have hb : Tryz.prog.built 53 [(0, .int .u8 (c m))] = some (vB (md m)).toArray := built_md (c m) _ rfl
  refine wp_build _ _ ho (by rw [e, hb]; rfl) ?_
  rw [e, hb]; exact h
section
variable {ops : Array Oper} {rest : List Oper} {op : Oper} {a : Act} {w : World} {Q : Exit → Act → World → Prop}
theorem wpList_buildx (hw : Region.wanted op (yielded ops a.tmps) = true) (x : Operand) (m : BitVec 8) (mm : List (BitVec 8)) (hm : mm = md m) (ho : op.op = .build 53 #[(0, x)]) (hx : a.eval x = .int .u8 (c m))
    (h : wpList Tryz.prog ops Q rest (a.put op.dst (.agg (vB mm).toArray)) w) : wpList Tryz.prog ops Q (op :: rest) a w := by
  subst hm
  exact BigFrame.wpList_want hw fun _ hK => wp_buildx x m ho hx (hK _ _ h)
theorem wpList_build_dd (hw : Region.wanted op (yielded ops a.tmps) = true) (x : Operand) (ho : op.op = .buildSlice 63 1 #[(0, x)]) (r : List (BitVec 8)) (hr : Dl r) (hx : a.eval x = .agg (vB r).toArray)
    (h : wpList Tryz.prog ops Q rest (a.put op.dst (.slice (some ⟨w.heap.size, 0, none⟩) 1 1)) (w.alloc (.cells (vB r).toArray 53))) : wpList Tryz.prog ops Q (op :: rest) a w :=
  BigFrame.wpList_want hw fun _ hK => wp_build_d x ho r hr hx (hK _ _ h)
end

/-- A list that was made here. -/
def FreshT (N : Nat) (v : Value) : Prop := ∀ g, v.ownBlock = some g → N ≤ g
theorem FreshT.more {N M : Nat} {v : Value} (h : FreshT M v) (k : N ≤ M) : FreshT N v := fun g e => Nat.le_trans k (h g e)
theorem fresh_of {w : World} {N n : Nat} {v : Value} {xs : List Value} (h : w.ownsRow N 53 32 v n xs) : FreshT N v := own_block h
theorem ow_of {w : World} {N n : Nat} {v : Value} {xs : List Value} (h : w.ownsRow N 53 32 v n xs) : Ow w v n xs := own_less h (Nat.zero_le _)

end Go.Proofs.YtbfahgdienppoaaGreatDoor

namespace Go.Proofs.YtbfahgdienppoaaGreatDoor
open Go Go.Shelf Go.RowKit
def lays27_ren : Go.Shelf.Ren := ⟨fun | 27 => 47 | 28 => 78 | 29 => 79 | n => n, fun | 0 => 0 | 3 => 3 | 4 => 4 | 5 => 5 | 22 => 35 | 25 => 113 | 27 => 152 | 53 => 52 | 54 => 169 | n => n, fun | 0 => 0 | 1 => 1 | n => n⟩
theorem lays27 : Go.Proofs.Lays7.n27 Tryz.prog lays27_ren := {
  mixed := by kernel_rfl
  f27 := Tryz.func47.trans (congrArg some (by kernel_rfl))
  f28 := Tryz.func78.trans (congrArg some (by kernel_rfl))
  f29 := Tryz.func79.trans (congrArg some (by kernel_rfl))
  t0 := by kernel_rfl
  a0 := fun _ => by kernel_rfl
  z0 := fun _ => by kernel_rfl
  v0 := fun _ => by kernel_rfl
  i0 := by kernel_rfl
  t3 := Tryz.underlying3
  a3 := Tryz.isAgg3
  z3 := Tryz.sizeOf3
  v3 := Tryz.zeroValue3
  i3 := by kernel_rfl
  t4 := Tryz.underlying4
  a4 := Tryz.isAgg4
  z4 := Tryz.sizeOf4
  v4 := Tryz.zeroValue4
  i4 := by kernel_rfl
  t5 := Tryz.underlying5
  a5 := Tryz.isAgg5
  z5 := Tryz.sizeOf5
  v5 := Tryz.zeroValue5
  i5 := by kernel_rfl
  t22 := Tryz.underlying35
  a22 := Tryz.isAgg35
  z22 := Tryz.sizeOf35
  v22 := Tryz.zeroValue35
  i22 := by kernel_rfl
  t25 := Tryz.underlying113
  a25 := Tryz.isAgg113
  z25 := Tryz.sizeOf113
  v25 := Tryz.zeroValue113
  i25 := by kernel_rfl
  t27 := Tryz.underlying152
  a27 := Tryz.isAgg152
  z27 := Tryz.sizeOf152
  v27 := Tryz.zeroValue152
  i27 := by kernel_rfl
  t53 := Tryz.underlying52
  a53 := Tryz.isAgg52
  z53 := Tryz.sizeOf52
  v53 := Tryz.zeroValue52
  i53 := by kernel_rfl
  t54 := Tryz.underlying169
  a54 := Tryz.isAgg169
  z54 := Tryz.sizeOf169
  g0 := by kernel_rfl
  g1 := by kernel_rfl }
theorem ctz_t1 : ∀ (f m : Nat), m + 1 < 2 ^ f → Lib.ctzFrom f (2 ^ f - 1 - m) = t1 m
  | 0, m, h => by simp at h
  | f + 1, m, h => by
    have e : 2 ^ (f + 1) = 2 * 2 ^ f := by rw [Nat.pow_succ, Nat.mul_comm]
    rw [e] at h ⊢
    generalize hp : 2 ^ f = p at *
    by_cases ho : m % 2 = 1
    · rw [Lib.ctzFrom, if_neg (by omega), t1_odd m ho, show (2 * p - 1 - m) / 2 = p - 1 - m / 2 by omega, ← hp, ctz_t1 f (m / 2) (by rw [hp]; omega), Nat.add_comm]
    · rw [Lib.ctzFrom, if_pos (by omega), t1_even m (by omega)]
theorem tz_any (m : Nat) (hm : m < 1099511627777) (w : World) (hT : TabAt 1 Lib.deBruijn64tab w) :
    Calls Tryz.prog 47 #[.int .u64 ((18446744073709551615 - m : Nat) : Int)] w fun e w' => e = .returned (.int .i64 (t1 m : Int)) ∧ w' = w := by
  have h := Any7.bits_TrailingZeros lays27 (18446744073709551615 - m) (by omega) w (fun _ => hT)
  have e : Lib.ctz 64 (18446744073709551615 - m) = t1 m := by
    unfold Lib.ctz
    rw [if_neg (by omega)]
    exact ctz_t1 64 m (by omega)
  rw [e] at h
  exact h

end Go.Proofs.YtbfahgdienppoaaGreatDoor

namespace Go.Proofs.YtbfahgdienppoaaGreatDoor
open Go Go.RowKit
open Sha

abbrev tL : TypeId := 110
theorem run_load_ds (w : World) (b f : Nat) (v : Value) (h : w.cell? ⟨b, f, none⟩ = some v) : (loadVar 63 ⟨b, f, none⟩).run Tryz.prog w = .ok v w := by
  simp [loadVar, isAgg, run_underlying Tryz.underlying63, h]
section
variable {P : Program} {o : Oper} {a : Act} {w : World} {K : Act → World → Prop} {Q : Exit → Act → World → Prop}
theorem wp_nilck {x : Operand} (b f : Nat) (ho : o.op = .nilCheck x) (hx : a.eval x = .pointer (some ⟨b, f, none⟩)) (h : K (a.put o.dst (.pointer (some ⟨b, f, none⟩))) w) : Oper.wp P o a w K Q := by
  obtain ⟨dst, op, ty, pos, after, guard⟩ := o
  simp only at ho
  subst ho
  unfold Oper.wp execOp
  simp only [hx]
  go_simp
  exact h
theorem wp_lf1 {x : Operand} (b : Nat) (ho : o.op = .fieldAddr tL x 1) (hx : a.eval x = .pointer (some ⟨b, 0, none⟩)) (h : K (a.put o.dst (.pointer (some ⟨b, 1, none⟩))) w) : Oper.wp Tryz.prog o a w K Q := by
  obtain ⟨dst, op, ty, pos, after, guard⟩ := o
  simp only at ho
  subst ho
  unfold Oper.wp execOp
  simp only [hx]
  go_simp
  exact h
theorem wp_subc_v {x : Operand} {m : Nat} (t yt : TypeId) (ho : o.op = .binOp .sub t x (.const (.int .i64 1)) yt) (hx : a.eval x = .int .i64 (m : Int)) (hle : 1 ≤ m) (hm : m < 4611686018427387904) (h : K (a.put o.dst (.int .i64 ((m - 1 : Nat) : Int))) w) : Oper.wp P o a w K Q :=
  wp_sub_v t yt ho hx rfl hle hm h
end
theorem flat_len (F : List (List (BitVec 8))) (h : ∀ d ∈ F, d.length = 32) : F.flatten.length = F.length * 32 := by
  induction F with
  | nil => rfl
  | cons d r ih => rw [List.flatten_cons, List.length_append, ih (fun x hx => h x (List.mem_cons_of_mem _ hx)), h d List.mem_cons_self, List.length_cons]; omega
theorem flat_at (F : List (List (BitVec 8))) (h : ∀ d ∈ F, d.length = 32) (k : Nat) (hk : k < F.length) (j : Nat) (hj : j < 32) : F.flatten[k * 32 + j]? = (F.getD k [])[j]? := by
  induction F generalizing k with
  | nil => simp at hk
  | cons d r ih =>
    have hd := h d List.mem_cons_self
    rw [List.flatten_cons]
    cases k with
    | zero => rw [List.getElem?_append_left (by omega)]; simp
    | succ k =>
      rw [List.getElem?_append_right (by omega), show (k + 1) * 32 + j - d.length = k * 32 + j by omega, ih (fun x hx => h x (List.mem_cons_of_mem _ hx)) k (by simpa using hk)]
      simp
/-- A digest of a list that is owned. -/
theorem Ow.at {w : World} {g n cap : Nat} {F : List (List (BitVec 8))} (h : Ow w (.slice (some ⟨g, 0, none⟩) n cap) n (vB F.flatten)) (hn : F.length = n) (h32 : ∀ d ∈ F, d.length = 32) (k : Nat) (hk : k < n) : w.rangeAt g (k * 32) (vB (F.getD k [])) := by
  have hc := World.ownsRow.cells (g := g) h rfl
  intro j v hj
  have hm : F.getD k [] ∈ F := by rw [List.getD_eq_getElem?_getD, List.getElem?_eq_getElem (by omega)]; exact List.getElem_mem _
  have hjl : j < 32 := by
    have := (List.getElem?_eq_some_iff.1 hj).1
    rw [vB_length, h32 _ hm] at this; exact this
  have := hc (k * 32 + j) v (by
    unfold vB at hj ⊢
    rw [List.getElem?_map] at hj ⊢
    rw [flat_at F h32 k (by omega) j hjl]; exact hj)
  rwa [Addr.add_mid, Nat.zero_add] at this
/-- The first of a list that is owned. -/
theorem Ow.cut {w : World} {g n cap : Nat} {F G : List (List (BitVec 8))} {z : List (BitVec 8)} (h : Ow w (.slice (some ⟨g, 0, none⟩) (n + 1) cap) (n + 1) (vB F.flatten)) (hF : F = G ++ [z]) (hn : G.length = n) (h32 : ∀ d ∈ F, d.length = 32) : Ow w (.slice (some ⟨g, 0, none⟩) n cap) n (vB G.flatten) := by
  subst hF
  have hG : G.flatten.length = n * 32 := by rw [flat_len G (fun d hd => h32 d (List.mem_append_left _ hd)), hn]
  obtain ⟨h1, h2⟩ := h
  refine ⟨by rw [vB_length, hG], ?_⟩
  rcases h2 with ⟨h2, _⟩ | ⟨g', cap', cur, hv, hg, hh, r1, r2, r3, r4⟩
  · cases h2
  · simp only [Value.slice.injEq, Option.some.injEq, Addr.mk.injEq] at hv
    obtain ⟨⟨rfl, _⟩, _, rfl⟩ := hv
    refine .inr ⟨g, cap, cur, rfl, hg, hh, by omega, r2, r3, ?_⟩
    have e : cur.toList.take (n * 32) = (cur.toList.take ((n + 1) * 32)).take (n * 32) := by rw [List.take_take, Nat.min_eq_left (by omega)]
    rw [e, r4, List.flatten_append]
    unfold vB
    rw [List.map_append, List.take_append_of_le_length (by rw [List.length_map, hG]; exact Nat.le_refl _), List.take_of_length_le (by rw [List.length_map, hG]; exact Nat.le_refl _)]

/-- A log of m leaves with a frontier. -/
structure Lg (w : World) (P m : Nat) (v : Value) (F : List (List (BitVec 8))) : Prop where
  row : Row w P [.int .i64 (m : Int), v] tL
  own : Ow w v F.length (vB F.flatten)
  dl : ∀ d ∈ F, d.length = 32
theorem Lg.be {w w' : World} {P m : Nat} {v : Value} {F : List (List (BitVec 8))} (h : Lg w P m v F) (k : Below w.heap.size w w') : Lg w' P m v F := ⟨Row.below h.row k h.row.lt, h.own.be k, h.dl⟩
theorem Lg.gro {R : Nat → Prop} {w w' : World} {P m : Nat} {v : Value} {F : List (List (BitVec 8))} (h : Lg w P m v F) (k : GroT R w w') (h1 : ¬ R P) (h2 : ∀ g, v.ownBlock = some g → ¬ R g) : Lg w' P m v F := ⟨(k.block P h.row.lt h1).trans h.row, h.own.gro k h2, h.dl⟩
theorem Lg.ne {w : World} {P m : Nat} {v : Value} {F : List (List (BitVec 8))} (h : Lg w P m v F) : ∀ g, v.ownBlock = some g → g ≠ P := fun g e q => by
  subst q
  rcases h.own.2 with ⟨h1, _⟩ | ⟨g', cap, cur, hv, _, hh, _⟩
  · rw [h1] at e; simp [Value.ownBlock] at e
  · rw [hv] at e
    simp only [Value.ownBlock, Option.some.injEq] at e
    subst e
    have := h.row.symm.trans hh
    simp only [Option.some.injEq, Obj.cells.injEq] at this
    exact absurd this.2.1 (by decide)
/-- The first blocks of a world. -/
def upto (w : World) (n : Nat) : World := { w with heap := w.heap.extract 0 n }
theorem upto_size (w : World) (n : Nat) (h : n ≤ w.heap.size) : (upto w n).heap.size = n := by
  unfold upto; simp; omega
theorem upto_below (w : World) (n : Nat) (h : n ≤ w.heap.size) : Below n (upto w n) w :=
  ⟨rfl, rfl, rfl, by rw [upto_size w n h]; exact h, fun k hk => by unfold upto; simp [Array.getElem?_extract]; omega⟩

set_option maxRecDepth 100000 in
theorem lnew_any (w : World) : Calls Tryz.prog 73 #[] w fun e w' => e = .returned (.pointer (some ⟨w.heap.size, 0, none⟩)) ∧ Lg w' w.heap.size 0 (.slice none 0 0) [] ∧ Below w.heap.size w w' := by
  go_enter Tryz.func73, Tryz.ntmps73
  go_wp2
  go_ret
  exact ⟨rfl, ⟨Row.new' rfl rfl, ⟨rfl, .inl ⟨rfl, rfl⟩⟩, fun d hd => nomatch hd⟩, (Below.refl _ _).alloc (Nat.le_refl _) _⟩
set_option maxRecDepth 100000 in
theorem lsize_any (P m : Nat) (v : Value) (w : World) (h : Row w P [.int .i64 (m : Int), v] tL) : Calls Tryz.prog 24 #[.pointer (some ⟨P, 0, none⟩)] w fun e w' => e = .returned (.int .i64 (m : Int)) ∧ w' = w := by
  have g0 := h.cell 0 _ rfl
  clear h
  go_enter Tryz.func24, Tryz.ntmps24
  go_wp2
  go_ret
  exact ⟨rfl, rfl⟩

end Go.Proofs.YtbfahgdienppoaaGreatDoor

namespace Go.Proofs.YtbfahgdienppoaaGreatDoor
open Go Go.RowKit
open Sha

theorem dnil_eq (w : World) : (binOp .eql 63 (.slice none 0 0) (.slice none 0 0)).run Tryz.prog w = .ok (.bool true) w := by
  have h1 : ∀ d, (Op.equalIn (d + 1) 63 (.slice none 0 0) (.slice none 0 0)).run Tryz.prog w = .ok true w := fun d => by simp [Op.equalIn, run_underlying Tryz.underlying63]
  have h2 : (Op.equal 63 (.slice none 0 0) (.slice none 0 0)).run Tryz.prog w = .ok true w := h1 9999
  simp only [binOp]
  simp [h2]
theorem dsome_eq (a : Addr) (n c : Nat) (w : World) : (binOp .eql 63 (.slice (some a) n c) (.slice none 0 0)).run Tryz.prog w = .ok (.bool false) w := by
  have h1 : ∀ d, (Op.equalIn (d + 1) 63 (.slice (some a) n c) (.slice none 0 0)).run Tryz.prog w = .ok false w := fun d => by simp [Op.equalIn, run_underlying Tryz.underlying63]
  have h2 : (Op.equal 63 (.slice (some a) n c) (.slice none 0 0)).run Tryz.prog w = .ok false w := h1 9999
  simp only [binOp]
  simp [h2]
section
variable {ops : Array Oper} {rest : List Oper} {o : Oper} {a : Act} {w : World} {Q : Exit → Act → World → Prop}
/-- append of digests onto digests that are owned. -/
theorem wpList_appd (hgd : o.guard = none) (s x : Operand) (ho : o.op = .call { callee := .builtin .append, args := #[s, x], argTypes := #[63, 63] }) (n : Nat) (v : Value) (l : List Value) (hs : a.eval s = v) (hown : Ow w v n l)
    (g m cap : Nat) (news : List Value) (hl : news.length = m * 32) (hx : a.eval x = .slice (some ⟨g, 0, none⟩) m cap) (hr : w.rangeAt g 0 news) (h1c : ∀ u ∈ news, u.oneCell' = true) (hk : (n + m) * 32 ≤ 140737488355328)
    (h : ∀ v' w', Ow w' v' (n + m) (l ++ news) → w.grownBy w' v.ownBlock → (v'.ownBlock = v.ownBlock ∨ v'.ownBlock = some w.heap.size) → wpList Tryz.prog ops Q rest (a.put o.dst v') w') : wpList Tryz.prog ops Q (o :: rest) a w := by
  obtain ⟨ie, z, h1, h2, h3, h5, h4⟩ := info_d_open
  obtain ⟨v', w', hr', q2, q3, _, q5⟩ := run_append_own_at (P := Tryz.prog) w 0 63 o.type 53 ie z 32 32 Tryz.underlying63 h1 h2 h3 h5 h4 (by decide) v n l hown ⟨g, 0, none⟩ m cap news hl
    (fun j u hj => by rw [Addr.add_mid]; exact hr j u hj) h1c (by unfold maxLen; omega) hk (Nat.zero_le _)
  refine wpList_plain hgd fun K hK => ?_
  unfold Oper.wp execOp
  simp only [ho, resolve, invoke, builtin, Sem.run_bind, Sem.run_pure, Result.andThen_ok, List.map_toArray, List.map_cons, List.map_nil, hs, hx, hr']
  exact hK _ _ (h v' w' q2 q3 q5)
end
theorem ow_empty (w : World) : Ow (w.alloc (Obj.cells #[] 53)) (.slice (some ⟨w.heap.size, 0, none⟩) 0 0) 0 [] :=
  ⟨rfl, .inr ⟨w.heap.size, 0, #[], rfl, Nat.zero_le _, (Row.new' rfl rfl : Row _ _ [] _), Nat.le_refl _, by unfold maxLen; omega, rfl, rfl⟩⟩
theorem Ow.all {w : World} {g n cap : Nat} {xs : List Value} (h : Ow w (.slice (some ⟨g, 0, none⟩) n cap) n xs) : w.rangeAt g 0 xs := fun j v hj => by
  have := World.ownsRow.cells (g := g) h rfl j v hj
  rwa [Addr.add_mid] at this
set_option maxRecDepth 100000 in
set_option maxHeartbeats 1000000 in
theorem dclone_any (n : Nat) (hn : n ≤ 100) (v : Value) (xs : List Value) (hx : ∀ u ∈ xs, u.oneCell' = true) (w : World) (h : Ow w v n xs) :
    Calls Tryz.prog 80 #[v] w fun e w' => ∃ v', e = .returned v' ∧ Ow w' v' n xs ∧ FreshT w.heap.size v' ∧ Below w.heap.size w w' := by
  have hl := h.1
  rcases h.2 with ⟨rfl, rfl⟩ | ⟨g, cap, cur, rfl, hg, hh, r⟩
  · have hq := dnil_eq
    obtain rfl : xs = [] := List.length_eq_zero_iff.1 (by simpa using hl)
    clear h hl hx
    go_enter Tryz.func80, Tryz.ntmps80
    go_wp2
    go_ret
    exact ⟨_, rfl, ⟨rfl, .inl ⟨rfl, rfl⟩⟩, fun g e => by simp [Value.ownBlock] at e, Below.refl _ _⟩
  · have hq := dsome_eq ⟨g, 0, none⟩ n cap
    have hB : Below w.heap.size w (w.alloc (Obj.cells #[] 53)) := (Below.refl _ _).alloc (Nat.le_refl _) _
    have HR : Hid ((w.alloc (Obj.cells #[] 53)).rangeAt g 0 xs) := (h.be hB).all
    have HL : Hid (xs.length = n * 32) := hl
    have HX : Hid (∀ u ∈ xs, u.oneCell' = true) := hx
    have HK : Hid ((0 + n) * 32 ≤ 140737488355328) := by show _ ≤ _; omega
    have HB : Hid (Below w.heap.size w _) := hB
    clear h hl hx hh r hB hn
    go_enter Tryz.func80, Tryz.ntmps80
    go_wp2_with (refine wpList_appd rfl _ (.tmp 6) rfl 0 (.slice (some ⟨w.heap.size, 0, none⟩) 0 0) [] rfl (ow_empty w) g n cap xs HL.out rfl HR.out HX.out HK.out ?_; intro v' w' q1 q2 q3; rw [Nat.zero_add, List.nil_append] at q1; obtain ⟨Ax, cx, ex, _⟩ := Ow.form q1; subst ex; have Q1 : Hid (Ow _ _ _ _) := q1; have Q2 : Hid _ := q2; have Q3 : Hid _ := q3; clear q1 q2 q3; simp only [Act.put, List.setIfInBounds_toArray, List.set_cons_zero, List.set_cons_succ])
    go_ret
    refine ⟨Value.slice Ax n cx, rfl, Q1.out, fun k e => ?_, HB.out.grown Q2.out (by simp) (fun k hk => by simp [Value.ownBlock] at hk; omega)⟩
    rcases Q3.out with q | q
    · rw [e] at q; simp [Value.ownBlock] at q; omega
    · rw [e] at q; simp at q; omega

theorem pop_pc : ∀ (f m : Nat), m < 2 ^ f → Lib.popAux f m = pc m
  | 0, m, h => by
    have : m = 0 := by simpa using h
    subst this
    rw [pc, dif_pos rfl]; rfl
  | f + 1, m, h => by
    rw [Nat.pow_succ] at h
    rw [Lib.popAux, pop_pc f (m / 2) (by omega)]
    by_cases h0 : m = 0
    · subst h0
      have e : pc 0 = 0 := by rw [pc, dif_pos rfl]
      rw [Nat.zero_div, e]
    · conv => rhs; rw [pc, dif_neg h0]
set_option maxRecDepth 100000 in
set_option maxHeartbeats 1000000 in
theorem ones64_c (m : Nat) (hm : m < 261) (w : World) :
    Calls Tryz.prog 102 #[.int .u64 (m : Int)] w fun e w' => e = .returned (.int .i64 (Lib.onesCount m : Int)) ∧ w' = w := by
  go_enter Tryz.func102, Tryz.ntmps102
  go_wp2
  go_ret
  refine ⟨congrArg (fun z => Ending.returned (Value.int .i64 z)) (?_ : _ = _), rfl⟩
  clear w
  revert hm
  revert m
  decide +kernel
theorem ones64_any (m : Nat) (hm : m < 261) (w : World) :
    Calls Tryz.prog 102 #[.int .u64 (m : Int)] w fun e w' => e = .returned (.int .i64 (pc m : Int)) ∧ w' = w := by
  have h := ones64_c m hm w
  rw [show Lib.onesCount m = pc m from pop_pc 64 m (by omega)] at h
  exact h
set_option maxRecDepth 100000 in
set_option maxHeartbeats 1000000 in
theorem ones_any (m : Nat) (hm : m < 261) (w : World) :
    Calls Tryz.prog 93 #[.int .u64 (m : Int)] w fun e w' => e = .returned (.int .i64 (pc m : Int)) ∧ w' = w := by
  have HO : Hid _ := ones64_any m hm w
  clear hm
  generalize pc m = k at *
  go_enter Tryz.func93, Tryz.ntmps93
  go_wp2_with (go_at_call 102; refine Calls.mono HO.out ?_; rintro e W ⟨rfl, rfl⟩)
  go_ret
  exact ⟨rfl, rfl⟩

theorem vB_ones (F : List (List (BitVec 8))) : ∀ u ∈ vB F.flatten, u.oneCell' = true := vB_one _
set_option maxRecDepth 100000 in
theorem lfront_any (P m : Nat) (v : Value) (F : List (List (BitVec 8))) (hn : F.length ≤ 100) (w : World) (h : Lg w P m v F) :
    Calls Tryz.prog 50 #[.pointer (some ⟨P, 0, none⟩)] w fun e w' => ∃ v', e = .returned v' ∧ Ow w' v' F.length (vB F.flatten) ∧ FreshT w.heap.size v' ∧ Below w.heap.size w w' := by
  have g1 := h.row.cell 1 _ rfl
  have HC : Hid _ := dclone_any F.length hn v (vB F.flatten) (vB_ones F) w h.own
  clear h hn
  go_enter Tryz.func50, Tryz.ntmps50
  go_wp2_with fail
  refine Calls.mono HC.out ?_
  rintro e W ⟨v', rfl, h1, h2, h3⟩
  obtain ⟨Ax, cx, ex, _⟩ := Ow.form h1
  subst ex
  have H1 : Hid (Ow _ _ _ _) := h1
  have H2 : Hid (FreshT _ _) := h2
  have H3 : Hid (Below _ _ _) := h3
  clear h1 h2 h3 HC g1
  go_wp2_with fail
  go_ret
  exact ⟨.slice Ax F.length cx, rfl, H1.out, H2.out, H3.out⟩
set_option maxRecDepth 100000 in
set_option maxHeartbeats 1000000 in
theorem lresume_any (m : Nat) (hm : m < 261) (v : Value) (F : List (List (BitVec 8))) (hF : F.length = pc m) (h32 : ∀ d ∈ F, d.length = 32) (hn : F.length ≤ 100) (w : World) (h : Ow w v F.length (vB F.flatten)) :
    Calls Tryz.prog 75 #[.int .i64 (m : Int), v] w fun e w' => ∃ P v', e = .returned (.tuple #[.pointer (some ⟨P, 0, none⟩), .int .i64 0]) ∧ Lg w' P m v' F ∧ w.heap.size ≤ P ∧ FreshT w.heap.size v' ∧ Below w.heap.size w w' := by
  have HO : Hid _ := ones_any m hm w
  rw [← hF] at HO
  have HC : Hid _ := dclone_any F.length hn v (vB F.flatten) (vB_ones F) w h
  have H32 : Hid (∀ d ∈ F, d.length = 32) := h32
  have c1 : ¬ (m : Int) < 0 := by omega
  have c2 : ¬ (1099511627776 : Int) < (m : Int) := by omega
  obtain ⟨A, cap, rfl, _⟩ := h.form
  have hwr : IntKind.u64.wrap (m : Int) = (m : Int) := by rw [IntKind.wrap_u64]; omega
  clear h hF h32 hn
  go_enter Tryz.func75, Tryz.ntmps75
  go_wp2_with (go_at_call 93; refine Calls.mono HO.out ?_; rintro e W ⟨rfl, hqq⟩; obtain rfl := hqq.symm)
  refine Calls.mono HC.out ?_
  rintro e W ⟨v', rfl, h1, h2, h3⟩
  obtain ⟨Ax, cx, ex, _⟩ := Ow.form h1
  subst ex
  have H1 : Hid (Ow _ _ _ _) := h1
  have H2 : Hid (FreshT _ _) := h2
  have H3 : Hid (Below w.heap.size w W) := h3
  clear h1 h2 h3 HC
  go_wp2_with fail
  go_ret2
  have b : Below W.heap.size W (W.alloc (Obj.cells #[.int .i64 (m : Int), .slice Ax F.length cx] tL)) := (Below.refl _ _).alloc (Nat.le_refl _) _
  exact ⟨W.heap.size, .slice Ax F.length cx, rfl, ⟨Row.new' rfl rfl, H1.out.be b, H32.out⟩, H3.out.size, H2.out, H3.out.trans (b.mono H3.out.size)⟩

end Go.Proofs.YtbfahgdienppoaaGreatDoor
