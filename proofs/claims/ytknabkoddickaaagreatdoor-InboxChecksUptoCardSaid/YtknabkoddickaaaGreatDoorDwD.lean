/-
  the document's writer: Wide, Writer.
-/
import Derived.Test.YtknabkoddickaaaGreatDoorXSeeB
import Derived.Test.YtknabkoddickaaaGreatDoorXFm
import Derived.Test.YtknabkoddickaaaGreatDoorLeA
import Derived.Test.YtknabkoddickaaaGreatDoorLtH
import Derived.Test.YtknabkoddickaaaGreatDoorLeD
import Derived.Test.YtknabkoddickaaaGreatDoorXOwn
import Derived.Test.YtknabkoddickaaaGreatDoorXSee
import Derived.Test.YtknabkoddickaaaGreatDoorXShut
import Derived.BigQuiet
import Derived.Test.YtknabkoddickaaaGreatDoorLws

namespace Go.Proofs.YtknabkoddickaaaGreatDoor
open Go Go.RowKit
open Sha

theorem bits_in : ∀ m x : Nat, x < 2 ^ m → m ≤ 64 → x ≠ 0 → 2 ^ (Lib.bitLen x - 1) ≤ x ∧ x < 2 ^ Lib.bitLen x ∧ 1 ≤ Lib.bitLen x
  | 0, x, h, _, h0 => by simp at h; omega
  | m + 1, x, h, hm, h0 => by
    have h64 : x < 2 ^ 64 := Nat.lt_of_lt_of_le h (Nat.pow_le_pow_right (by decide) hm)
    have e := Lib.bitLen_half x h0 h64
    by_cases h1 : x / 2 = 0
    · have hx : x = 1 := by omega
      subst hx
      decide
    · have h2 : x / 2 < 2 ^ m := by rw [Nat.pow_succ] at h; omega
      obtain ⟨i1, i2, i3⟩ := bits_in m (x / 2) h2 (by omega) h1
      rw [e]
      have e1 : 1 + Lib.bitLen (x / 2) - 1 = (Lib.bitLen (x / 2) - 1) + 1 := by omega
      rw [e1, Nat.pow_succ, show 1 + Lib.bitLen (x / 2) = Lib.bitLen (x / 2) + 1 by omega, Nat.pow_succ]
      exact ⟨by omega, by omega, by omega⟩
theorem bl_in (x : Nat) (h : x < 18446744073709551616) (h0 : x ≠ 0) : 1 ≤ bl x ∧ bl x ≤ 8 ∧ 256 ^ (bl x - 1) ≤ x ∧ x < 256 ^ bl x := by
  obtain ⟨i1, i2, i3⟩ := bits_in 64 x h (Nat.le_refl _) h0
  have h8 : bl x ≤ 8 := bl_le x
  have e1 : ∀ m, (256 : Nat) ^ m = 2 ^ (8 * m) := fun m => by rw [Nat.pow_mul]
  have hb : 1 ≤ bl x := by unfold bl; omega
  refine ⟨hb, h8, ?_, ?_⟩
  · rw [e1]
    exact Nat.le_trans (Nat.pow_le_pow_right (by decide) (by unfold bl; omega)) i1
  · rw [e1]
    exact Nat.lt_of_lt_of_le i2 (Nat.pow_le_pow_right (by decide) (by unfold bl; omega))
/-- The first byte is no nought. -/
theorem nb_top (a b c d : Nat) (ha : a < 18446744073709551616) (hb : b < 18446744073709551616) (hc : c < 18446744073709551616) (hd : d < 18446744073709551616) (h : 0 < nb a b c d) : (fb [a, b, c, d] (nb a b c d - 1)).toNat ≠ 0 := by
  have key : ∀ (x J m : Nat), x < 18446744073709551616 → x ≠ 0 → m = 8 * J + bl x → [a, b, c, d].getD J 0 = x → (fb [a, b, c, d] (m - 1)).toNat ≠ 0 := fun x J m hx h0 hm hg => by
    obtain ⟨q1, q2, q3, q4⟩ := bl_in x hx h0
    unfold fb
    rw [BitVec.toNat_ofNat, show (m - 1) / 8 = J by omega, hg, show (m - 1) % 8 * 8 = 8 * (bl x - 1) by omega, Nat.pow_mul, show (2 : Nat) ^ 8 = 256 from rfl]
    have hp : 0 < (256 : Nat) ^ (bl x - 1) := Nat.pow_pos (by decide)
    have e1 : (256 : Nat) ^ bl x = 256 ^ (bl x - 1) * 256 := by rw [← Nat.pow_succ]; congr 1; omega
    have h1 : 1 ≤ x / 256 ^ (bl x - 1) := (Nat.le_div_iff_mul_le hp).2 (by omega)
    have h2 : x / 256 ^ (bl x - 1) < 256 := Nat.div_lt_of_lt_mul (by rw [← e1]; exact q4)
    rw [Nat.mod_eq_of_lt h2]
    omega
  have hnb := h
  unfold nb at hnb ⊢
  by_cases h3 : d ≠ 0
  · rw [if_pos h3]; exact key d 3 _ hd h3 (by omega) rfl
  rw [if_neg h3] at hnb ⊢
  by_cases h2 : c ≠ 0
  · rw [if_pos h2]; exact key c 2 _ hc h2 (by omega) rfl
  rw [if_neg h2] at hnb ⊢
  by_cases h1 : b ≠ 0
  · rw [if_pos h1]; exact key b 1 _ hb h1 (by omega) rfl
  rw [if_neg h1] at hnb ⊢
  by_cases h0 : a ≠ 0
  · rw [if_pos h0]; exact key a 0 _ ha h0 (by omega) rfl
  · rw [if_neg h0] at hnb; omega
end Go.Proofs.YtknabkoddickaaaGreatDoor

namespace Go.Proofs.YtknabkoddickaaaGreatDoor
open Go Go.RowKit
open Sha

theorem info_Wd (am : List Nat) (h : am.length = 4) : (Tryz.prog.info? 43).map (·.size) = some (vQ am).length := by rw [vQ_len, h]; kernel_rfl
section
variable {P : Program} {ops : Array Oper} {rest : List Oper} {op : Oper} {a : Act} {w : World} {Q : Exit → Act → World → Prop}
theorem wpList_storeL (hgd : op.guard = none) (ty : TypeId) (x y : Operand) (ho : op.op = .store ty x y) (b : Nat) (L M : List Value) (t : TypeId) (hx : a.eval x = .pointer (some ⟨b, 0, none⟩)) (hy : a.eval y = .agg L.toArray) (r : Row w b M t) (hl : L.length = M.length) (hi : (P.info? ty).map (·.size) = some L.length) (h1 : L.toArray.all (·.oneCell') = true)
    (h : ∀ X, X = w.setCells b 0 L → Row X b L t → wpList P ops Q rest (a.put op.dst undef) X) : wpList P ops Q (op :: rest) a w :=
  wpList_store_mid hgd ty x y ho b 0 L.toArray hx hy (r.there 0 _ (by rw [List.size_toArray, hl, Nat.zero_add]; exact Nat.le_refl _)) (by rw [hi, List.size_toArray]) h1 (h _ rfl (r.over hl))
theorem wpList_boxG (ty : TypeId) (hgd : op.guard = none) (x : Operand) (ho : op.op = .box ty x) (L : List Value) (hx : a.eval x = .agg L.toArray) (h : ∀ X, Row X w.heap.size L ty → Below w.heap.size w X → X.heap.size = w.heap.size + 1 → wpList P ops Q rest (a.put op.dst (.pointer (some ⟨w.heap.size, 0, none⟩))) X) : wpList P ops Q (op :: rest) a w :=
  wpList_plain hgd fun _ hK => by
    unfold Oper.wp execOp
    simp only [ho, hx]
    go_simp
    exact hK _ _ (h _ (Row.new' rfl rfl) ((Below.refl _ _).alloc (Nat.le_refl _) _) (by simp))
theorem wpList_set1 (hgd : op.guard = none) (ty : TypeId) (x y : Operand) (ho : op.op = .store ty x y)
    (b i : Nat) (v : Value) (cs : List Value) (t : TypeId) (hx : a.eval x = .pointer (some ⟨b, i, none⟩)) (hy : a.eval y = v) (hcs : v.cells = #[v]) (r : Row w b cs t) (hl : i < cs.length) (hi : (Tryz.prog.info? ty).map (·.size) = some 1) (h1 : v.oneCell' = true)
    (h : ∀ X, Row X b (cs.set i v) t → Gro (· = b) w X → X.heap.size = w.heap.size → wpList Tryz.prog ops Q rest (a.put op.dst undef) X) : wpList Tryz.prog ops Q (op :: rest) a w :=
  wpList_store1 hgd ty x y ho b i v hx hy hcs (r.there i 1 (by omega)) hi h1 (h _ (r.set i v) ((Gro.refl _ _).set b i v rfl) (by simp))
theorem gro_over {R : Nat → Prop} {w W : World} (h : Gro R w W) (b o : Nat) (vs : List Value) (hb : R b) : Gro R w (W.setCells b o vs) := by
  have q := below_setCells (Below.refl 0 W) (b := b) (o := o) (Nat.zero_le _) vs
  exact ⟨q.os.trans h.os, q.tape.trans h.tape, q.output.trans h.output, Nat.le_trans h.size q.size, fun k hk hn => (heap_sets W b o vs k (fun e => hn (e ▸ hb))).trans (h.block k hk hn)⟩
/-- Part of a struct, stored. -/
theorem wpList_storeM (hgd : op.guard = none) (ty : TypeId) (x y : Operand) (ho : op.op = .store ty x y) (b o : Nat) (vs cs : List Value) (t : TypeId) (hx : a.eval x = .pointer (some ⟨b, o, none⟩)) (hy : a.eval y = .agg vs.toArray) (r : Row w b cs t) (hl : o + vs.length ≤ cs.length) (hi : (Tryz.prog.info? ty).map (·.size) = some vs.length) (h1 : vs.toArray.all (·.oneCell') = true)
    (h : ∀ X, Row X b (cs.take o ++ vs ++ cs.drop (o + vs.length)) t → Gro (· = b) w X → wpList Tryz.prog ops Q rest (a.put op.dst undef) X) : wpList Tryz.prog ops Q (op :: rest) a w :=
  wpList_store_mid hgd ty x y ho b o vs.toArray hx hy (r.there o _ (by rw [List.size_toArray]; exact hl)) (by rw [hi, List.size_toArray]) h1 (h _ (Row.setCells o vs r hl) (gro_over (Gro.refl _ _) b o vs rfl))
end
end Go.Proofs.YtknabkoddickaaaGreatDoor

namespace Go.Proofs.YtknabkoddickaaaGreatDoor
open Go Go.RowKit
open Sha

theorem lt_bits : ∀ f x : Nat, x < 2 ^ f → x < 2 ^ Lib.bitLenAux f x
  | 0, x, h => by simpa [Lib.bitLenAux] using h
  | f + 1, x, h => by
    simp only [Lib.bitLenAux]
    by_cases h0 : x = 0
    · subst h0; simp
    · rw [if_neg h0]
      have h1 : x / 2 < 2 ^ f := by rw [Nat.pow_succ] at h; omega
      have := lt_bits f (x / 2) h1
      rw [Nat.add_comm 1, Nat.pow_succ]
      omega
theorem lt_bl (x : Nat) (h : x < 18446744073709551616) (t : Nat) (ht : bl x ≤ t) : x / 2 ^ (t * 8) = 0 := by
  apply Nat.div_eq_of_lt
  have h1 : x < 2 ^ Lib.bitLen x := lt_bits 64 x h
  refine Nat.lt_of_lt_of_le h1 (Nat.pow_le_pow_right (by decide) ?_)
  unfold bl at ht
  omega
theorem fb_zero (a b c d : Nat) (ha : a < 18446744073709551616) (hb : b < 18446744073709551616) (hc : c < 18446744073709551616) (hd : d < 18446744073709551616) (i : Nat) (hi : nb a b c d ≤ i) (h32 : i < 32) : fb [a, b, c, d] i = 0#8 := by
  unfold fb
  have key : [a, b, c, d].getD (i / 8) 0 / 2 ^ (i % 8 * 8) = 0 := by
    unfold nb at hi
    rcases (show i / 8 = 0 ∨ i / 8 = 1 ∨ i / 8 = 2 ∨ i / 8 = 3 by omega) with e | e | e | e
    · rw [e]; show a / _ = 0
      by_cases h3 : d ≠ 0
      · rw [if_pos h3] at hi; omega
      · rw [if_neg h3] at hi
        by_cases h2 : c ≠ 0
        · rw [if_pos h2] at hi; omega
        · rw [if_neg h2] at hi
          by_cases h1 : b ≠ 0
          · rw [if_pos h1] at hi; omega
          · rw [if_neg h1] at hi
            by_cases h0 : a ≠ 0
            · rw [if_pos h0] at hi; exact lt_bl a ha _ (by omega)
            · rw [Classical.not_not.1 h0, Nat.zero_div]
    · rw [e]; show b / _ = 0
      by_cases h3 : d ≠ 0
      · rw [if_pos h3] at hi; omega
      · rw [if_neg h3] at hi
        by_cases h2 : c ≠ 0
        · rw [if_pos h2] at hi; omega
        · rw [if_neg h2] at hi
          by_cases h1 : b ≠ 0
          · rw [if_pos h1] at hi; exact lt_bl b hb _ (by omega)
          · rw [Classical.not_not.1 h1, Nat.zero_div]
    · rw [e]; show c / _ = 0
      by_cases h3 : d ≠ 0
      · rw [if_pos h3] at hi; omega
      · rw [if_neg h3] at hi
        by_cases h2 : c ≠ 0
        · rw [if_pos h2] at hi; exact lt_bl c hc _ (by omega)
        · rw [Classical.not_not.1 h2, Nat.zero_div]
    · rw [e]; show d / _ = 0
      by_cases h3 : d ≠ 0
      · rw [if_pos h3] at hi; exact lt_bl d hd _ (by omega)
      · rw [Classical.not_not.1 h3, Nat.zero_div]
  rw [key]
/-- The lowest N bytes of a number, the highest first. -/
def pb (l : List Nat) (N : Nat) : List (BitVec 8) := (List.range N).map fun j => fb l (N - 1 - j)
theorem pb_len (l : List Nat) (N : Nat) : (pb l N).length = N := by simp [pb]
theorem pb_get (l : List Nat) (N i : Nat) (h : i < N) : (pb l N)[i]? = some (fb l (N - 1 - i)) := by
  unfold pb
  rw [List.getElem?_map, List.getElem?_range h]
  rfl
theorem pb_drop (l : List Nat) (N k : Nat) (h : k ≤ N) : (pb l N).drop (N - k) = pb l k := by
  apply List.ext_getElem?
  intro i
  rw [List.getElem?_drop]
  by_cases hi : i < k
  · rw [pb_get l N _ (by omega), pb_get l k i hi, show N - 1 - (N - k + i) = k - 1 - i by omega]
  · rw [List.getElem?_eq_none (by rw [pb_len]; omega), List.getElem?_eq_none (by rw [pb_len]; omega)]
section
variable {P : Program} {ops : Array Oper} {rest : List Oper} {op : Oper} {a : Act} {w : World} {Q : Exit → Act → World → Prop}
theorem run_slice_from (w : World) (t e ab ao len cap m : Nat) (l : Int) (hl : l = (m : Int)) (hm : m ≤ len) (hu : P.underlying t = some (.slice e)) (hs : (P.info? e).map (·.size) = some 1) :
    (Instr.sliceAt t (.slice (some ⟨ab, ao, none⟩) len cap) (some (.int .i64 l)) none none).run P w = .ok (.slice (some (if cap = m then ⟨ab, ao, none⟩ else ⟨ab, ao + m, none⟩)) (len - m) (cap - m)) w := by
  cases hq : P.info? e with
  | none => simp [hq] at hs
  | some i =>
    have h1 : i.size = 1 := by simpa [hq] using hs
    subst hl
    by_cases h2 : cap = m <;> simp [Instr.sliceAt, Instr.slice, run_underlying hu, Instr.sliceBounds, Instr.sliceBound, asIntOf, sizeOf, typeInfo, hq, h1, h2, Addr.add_mid, hm]

theorem wpList_slice_from (hgd : op.guard = none) (t : TypeId) (x y : Operand) (ho : op.op = .slice t x (some y) none none) (e ab ao len cap m : Nat) (l : Int) (hx : a.eval x = .slice (some ⟨ab, ao, none⟩) len cap) (hy : a.eval y = .int .i64 l)
    (hl : l = (m : Int)) (hm : m ≤ len) (hc : len ≤ cap) (hu : P.underlying t = some (.slice e)) (hs : (P.info? e).map (·.size) = some 1)
    (h : ∀ A, (m < len → A = (⟨ab, ao + m, none⟩ : Addr)) → wpList P ops Q rest (a.put op.dst (.slice (some A) (len - m) (cap - m))) w) : wpList P ops Q (op :: rest) a w :=
  wpList_plain hgd fun _ hK => by
    unfold Oper.wp execOp
    simp only [ho, hx, hy, Option.map_some, Option.map_none, Sem.run_bind, run_slice_from w t e ab ao len cap m l hl hm hu hs, Result.andThen_ok, Sem.run_pure, Oper.upon_value]
    exact hK _ _ (h _ (fun hlt => by rw [if_neg (by omega)]))
end
set_option maxRecDepth 100000 in
set_option maxHeartbeats 4000000 in
theorem bare_go (g N k : Nat) (d : List (BitVec 8)) (hN : N ≤ 32) (hk : k ≤ N) (hz : ∀ i, i < N - k → d[i]? = some 0#8) (ht : 0 < k → ∃ x : BitVec 8, d[N - k]? = some x ∧ x.toNat ≠ 0) (S : Value) (hS : S = if k = 0 then .slice none 0 0 else .slice (some ⟨g, N - k, none⟩) k k) (w : World) (hr : w.rangeAt g 0 (vB d)) :
    Calls Tryz.prog 145 #[.slice (some ⟨g, 0, none⟩) N N] w fun e w' => e = .returned S ∧ w' = w := by
  have HR : Hid (w.rangeAt g 0 (vB d)) := hr
  have HZ : Hid (∀ i, i < N - k → d[i]? = some 0#8) := hz
  have HT : Hid (0 < k → ∃ x : BitVec 8, d[N - k]? = some x ∧ x.toNat ≠ 0) := ht
  have HS : Hid (S = if k = 0 then .slice none 0 0 else .slice (some ⟨g, N - k, none⟩) k k) := hS
  clear hr hz ht hS
  go_enter Tryz.func145, Tryz.ntmps145
  go_wp2_with fail
  go_loopw [3] (fun v wr => ∃ t : Nat, t ≤ N - k ∧ v = .int .i64 (t : Int) ∧ wr = w) (fun v _ => N - (intOf v).toNat)
  case atStart => exact ⟨0, Nat.zero_le _, rfl, rfl⟩
  case round =>
    obtain ⟨t, htk, rfl, hw⟩ := hrel
    subst hw
    by_cases h1 : t < N - k
    · have c0 : wr.cell? ⟨g, t, none⟩ = some (.int .u8 0) := by
        have q := HR.out t _ (by unfold vB; rw [List.getElem?_map, HZ.out t h1]; rfl)
        rw [Nat.zero_add] at q
        exact q
      have hl : t < N := by omega
      go_wp2
      exact ⟨⟨t + 1, by omega, by go_num, by first | rfl | trivial⟩, by simp [intOf]; omega⟩
    · have et : t = N - k := by omega
      by_cases hk0 : k = 0
      · have hS : S = .slice none 0 0 := by rw [HS.out, if_pos hk0]
        have e4 : (t : Int) = (N : Int) := by omega
        rw [e4]
        clear e4 h1 htk et hk0
        go_wp2
        go_ret
        exact ⟨by rw [hS]; rfl, rfl⟩
      · obtain ⟨x, hx, hx0⟩ := HT.out (by omega)
        have hS : Hid (S = .slice (some ⟨g, t, none⟩) (N - t) (N - t)) := by
          show _ = _
          rw [HS.out, if_neg hk0, et, show N - (N - k) = k by omega]
        have c0 : wr.cell? ⟨g, t, none⟩ = some (.int .u8 ((x.toNat : Nat) : Int)) := by
          rw [← et] at hx
          have q := HR.out t _ (by unfold vB; rw [List.getElem?_map, hx]; rfl)
          rw [Nat.zero_add] at q
          exact q
        obtain ⟨y, hy⟩ : ∃ y, y = x.toNat := ⟨_, rfl⟩
        rw [← hy] at c0 hx0
        have hl : t < N := by omega
        have ey : ((y : Int) != 0) = true := by simp; omega
        clear hx hy et h1 htk hk0
        go_wp2_with (refine wpList_slice_from rfl 44 (.tmp 15) (.tmp 16) rfl 5 g 0 N N t _ rfl rfl rfl (Nat.le_of_lt hl) (Nat.le_refl _) Tryz.underlying44 info_u8 ?_; intro A qA; obtain rfl := qA hl; rw [Nat.zero_add]; simp only [Act.put, List.setIfInBounds_toArray, List.set_cons_zero, List.set_cons_succ])
        go_ret
        exact ⟨by rw [hS.out]; rfl, rfl⟩

end Go.Proofs.YtknabkoddickaaaGreatDoor

namespace Go.Proofs.YtknabkoddickaaaGreatDoor
open Go Go.RowKit
open Sha

/-- N bytes of which t are laid. -/
def gl (l : List Nat) (N t : Nat) : List (BitVec 8) := (List.range N).map fun p => if N ≤ p + t then fb l (N - 1 - p) else 0#8
theorem gl_len (l : List Nat) (N t : Nat) : (gl l N t).length = N := by simp [gl]
theorem gl_zero (l : List Nat) (N : Nat) : gl l N 0 = List.replicate N 0#8 := by
  apply List.ext_getElem (by simp [gl])
  intro p h1 h2
  simp only [gl, List.getElem_map, List.getElem_range, List.getElem_replicate]
  rw [gl_len] at h1
  rw [if_neg (by omega)]
theorem gl_full (l : List Nat) (N : Nat) : gl l N N = pb l N := by
  apply List.ext_getElem (by simp [gl, pb])
  intro p h1 h2
  simp only [gl, pb, List.getElem_map, List.getElem_range]
  rw [if_pos (by omega)]
theorem gl_step (l : List Nat) (N t : Nat) (ht : t < N) : (gl l N t).set (N - 1 - t) (fb l t) = gl l N (t + 1) := by
  apply List.ext_getElem (by simp [gl])
  intro p h1 h2
  simp only [gl, List.getElem_map, List.getElem_range, List.getElem_set]
  rw [gl_len] at h2
  by_cases e : N - 1 - t = p
  · subst e
    rw [if_pos rfl, if_pos (by omega), show N - 1 - (N - 1 - t) = t by omega]
  · rw [if_neg e]
    by_cases e1 : N ≤ p + t
    · rw [if_pos e1, if_pos (by omega)]
    · rw [if_neg e1, if_neg (by omega)]
theorem vB_put (l : List (BitVec 8)) (i : Nat) (x : BitVec 8) : (vB l).set i (.int .u8 (c x)) = vB (l.set i x) := by
  unfold vB
  rw [List.map_set]
theorem range_cut {w : World} {g o : Nat} {d : List (BitVec 8)} (h : w.rangeAt g o (vB d)) (p : Nat) : w.rangeAt g (o + p) (vB (d.drop p)) := fun j v hj => by
  have q := h (p + j) v (by rw [← hj]; unfold vB; rw [List.getElem?_map, List.getElem?_map, List.getElem?_drop])
  rwa [show o + (p + j) = o + p + j by omega] at q
theorem one_bw {w : World} {g k : Nat} (hk : k ≤ 32) (h : Row w g [.int .u8 (k : Int)] 5) : Bw w (.slice (some ⟨g, 0, none⟩) 1 1) [BitVec.ofNat 8 k] :=
  row_bw (d := [BitVec.ofNat 8 k]) (by rw [show vB [BitVec.ofNat 8 k] = [.int .u8 (k : Int)] by unfold vB c; simp; omega]; exact h) (by simp)
theorem fb_num (n t : Nat) (ht : t < 8) (u : Int) (hu : u = ((n / 256 ^ t : Nat) : Int) % 256) : (Value.int .u8 u) = .int .u8 (c (fb [n, 0, 0, 0] t)) := by
  subst hu
  unfold fb c
  rw [Nat.div_eq_of_lt ht, Nat.mod_eq_of_lt ht, BitVec.toNat_ofNat, show (2 : Nat) ^ (t * 8) = 256 ^ t by rw [show (256 : Nat) = 2 ^ 8 by decide, ← Nat.pow_mul, Nat.mul_comm]]
  rfl
theorem nb_small (n : Nat) : nb n 0 0 0 ≤ 8 := by
  have := bl_le n
  unfold nb
  simp only [ne_eq, not_true, if_false]
  split <;> omega
theorem bare_form (m0 m1 m2 m3 N : Nat) (ha : m0 < 18446744073709551616) (hb : m1 < 18446744073709551616) (hc : m2 < 18446744073709551616) (hd : m3 < 18446744073709551616) (hN : N ≤ 32) (hk : nb m0 m1 m2 m3 ≤ N) (g : Nat) (S : Value) (hS : S = if nb m0 m1 m2 m3 = 0 then .slice none 0 0 else .slice (some ⟨g, N - nb m0 m1 m2 m3, none⟩) (nb m0 m1 m2 m3) (nb m0 m1 m2 m3)) (w : World) (hr : w.rangeAt g 0 (vB (pb [m0, m1, m2, m3] N))) :
    Calls Tryz.prog 145 #[.slice (some ⟨g, 0, none⟩) N N] w fun e w' => e = .returned S ∧ w' = w :=
  bare_go g N (nb m0 m1 m2 m3) (pb [m0, m1, m2, m3] N) hN hk (fun i hi => by rw [pb_get _ _ _ (by omega), fb_zero m0 m1 m2 m3 ha hb hc hd _ (by omega) (by omega)]) (fun h0 => ⟨_, by rw [pb_get _ _ _ (by omega)], by rw [show N - 1 - (N - nb m0 m1 m2 m3) = nb m0 m1 m2 m3 - 1 by omega]; exact nb_top m0 m1 m2 m3 ha hb hc hd h0⟩) S hS w hr
theorem bare_sl (l : List Nat) (N k g : Nat) (hk : k ≤ N) (S : Value) (hS : S = if k = 0 then .slice none 0 0 else .slice (some ⟨g, N - k, none⟩) k k) : ∃ A c, S = .slice A k c ∧ (A = none → c = 0) ∧ ∀ w : World, w.rangeAt g 0 (vB (pb l N)) → SlAt w (.slice A k c) (pb l k) := by
  by_cases h0 : k = 0
  · subst h0
    rw [if_pos rfl] at hS
    exact ⟨none, 0, hS, fun _ => rfl, fun _ _ => .inl ⟨rfl, _, _, rfl⟩⟩
  · rw [if_neg h0] at hS
    refine ⟨_, _, hS, (fun h => by cases h), fun w hr => .inr ⟨g, N - k, k, by rw [pb_len], by rw [pb_len]; exact Nat.le_refl _, ?_⟩⟩
    have q := range_cut hr (N - k)
    rw [pb_drop l N k hk, Nat.zero_add] at q
    exact q
section
variable {ops : Array Oper} {rest : List Oper} {op : Oper} {a : Act} {w : World} {Q : Exit → Act → World → Prop}
theorem wpList_allocA8 (hgd : op.guard = none) (ho : op.op = .alloc 181) (h : ∀ X, Row X w.heap.size (vB (List.replicate 8 0#8)) 181 → Below w.heap.size w X → wpList Tryz.prog ops Q rest (a.put op.dst (.pointer (some ⟨w.heap.size, 0, none⟩))) X) : wpList Tryz.prog ops Q (op :: rest) a w :=
  wpList_plain hgd fun _ hK => by
    unfold Oper.wp execOp
    simp only [ho]
    go_simp
    exact hK _ _ (h _ (Row.new' (cs := vB (List.replicate 8 0#8)) rfl rfl) ((Below.refl _ _).alloc (Nat.le_refl _) _))
end
theorem info_u1 : (Tryz.prog.info? 5).map (·.size) = some 1 := by kernel_rfl
theorem u8_open4 : ∃ ie z, Tryz.prog.info? 5 = some ie ∧ ie.zero = some z ∧ ie.size = 1 ∧ z.cells.size = 1 := by
  obtain ⟨ie, z, h1, h2, h3, _, h4⟩ := info_u8open
  exact ⟨ie, z, h1, h2, h3, h4⟩
set_option maxRecDepth 100000 in
set_option maxHeartbeats 4000000 in
theorem number_doc (n : Nat) (hn : n < 9223372036854775808) (w : World) : Calls Tryz.prog 132 #[.int .i64 (n : Int)] w fun e w' => ∃ A c, e = .returned (.slice A (nb n 0 0 0 + 1) c) ∧ Bw w' (.slice A (nb n 0 0 0 + 1) c) (fm [n, 0, 0, 0] (nb n 0 0 0)) ∧ Fresh w.heap.size (.slice A (nb n 0 0 0 + 1) c) ∧ Below w.heap.size w w' := by
  have HN : Hid (n < 9223372036854775808) := hn
  obtain ⟨k, hk⟩ : ∃ k, k = nb n 0 0 0 := ⟨_, rfl⟩
  have hk8 : k ≤ 8 := by rw [hk]; exact nb_small n
  have HK : Hid (k = nb n 0 0 0) := hk
  rw [← hk]
  clear hk
  go_enter Tryz.func132, Tryz.ntmps132
  go_upto_region 2 with (refine wpList_allocA8 rfl rfl ?_; intro X1 q1 q2; have R1 : Hid (Row X1 w.heap.size (vB (List.replicate 8 0#8)) 181) := q1; have B1 : Hid (Below w.heap.size w X1) := q2; clear q1 q2; simp only [Act.put, List.setIfInBounds_toArray, List.set_cons_zero, List.set_cons_succ])
  obtain ⟨b, hb⟩ : ∃ b, b = w.heap.size := ⟨_, rfl⟩
  have HB : Hid (b = w.heap.size) := hb
  rw [← hb] at R1
  rw [← hb]
  clear hb
  go_wp2_with fail
  go_loopw [4, 5] (fun v4 v5 wr => ∃ r t : Nat, r + t = 8 ∧ v4 = .int .i64 ((n / 256 ^ t : Nat) : Int) ∧ v5 = .int .i64 ((r : Int) - 1) ∧ Hid (Row wr b (vB (gl [n, 0, 0, 0] 8 t)) 181) ∧ Hid (Below w.heap.size w wr)) (fun _ v5 _ => (intOf v5 + 1).toNat)
  case atStart => exact ⟨8, 0, rfl, by simp, rfl, by rw [gl_zero]; exact R1, B1⟩
  case round =>
    clear R1 B1
    obtain ⟨r, t, hrt, rfl, rfl, HR, HBE⟩ := hrel
    cases r with
    | zero =>
      have e8 : t = 8 := by omega
      subst e8
      have HRG : Hid (∀ Y, Below wr.heap.size wr Y → Y.rangeAt b 0 (vB (pb [n, 0, 0, 0] 8))) := fun Y hY => by
        have q := HR.out
        rw [gl_full] at q
        exact range_be q.all hY
      obtain ⟨A1, c1, hSe, hnil, hsl⟩ := bare_sl [n, 0, 0, 0] 8 k b hk8 _ rfl
      have HBR : Hid (∀ Y, Below wr.heap.size wr Y → Calls Tryz.prog 145 #[.slice (some ⟨b, 0, none⟩) 8 8] Y fun e w' => e = .returned (.slice A1 k c1) ∧ w' = Y) := fun Y hY => by
        have q := bare_form n 0 0 0 8 (by have := HN.out; omega) (by decide) (by decide) (by decide) (by decide) (by rw [← HK.out]; exact hk8) b _ rfl Y (HRG.out Y hY)
        rw [← HK.out, hSe] at q
        exact q
      have HSL : Hid (∀ Y, Below wr.heap.size wr Y → SlAt Y (.slice A1 k c1) (pb [n, 0, 0, 0] k)) := fun Y hY => hsl Y (HRG.out Y hY)
      have HNL : Hid (A1 = none → c1 = 0) := hnil
      have HK32 : Hid (k ≤ 32) := by show _ ≤ _; omega
      have HKL : Hid (([BitVec.ofNat 8 k] : List (BitVec 8)).length + k ≤ 140737488355328) := by show _ ≤ _; simp; omega
      clear hSe hnil hsl hrt HR
      go_wp2_with (first
        | (refine wpList_slice_all rfl 181 5 8 (.tmp 3) b 0 rfl rfl Tryz.underlying181 info_u1 ?_; simp only [Act.put, List.setIfInBounds_toArray, List.set_cons_zero, List.set_cons_succ])
        | (go_at_call 145; refine Calls.mono (HBR.out wr (Below.refl _ _)) ?_; rintro e X ⟨rfl, hq⟩; obtain rfl := hq.symm)
        | (refine wpList_buildOne 44 5 Tryz.underlying44 u8_open4 rfl (.tmp 24) rfl (.int .u8 (k : Int)) rfl rfl ?_; intro X2 q1 q2 q3; have R2 : Hid (Row X2 wr.heap.size [.int .u8 (k : Int)] 5) := q1; have W2 : Hid (Bw X2 (.slice (some ⟨wr.heap.size, 0, none⟩) 1 1) [BitVec.ofNat 8 k]) := one_bw HK32.out q1; have D2 : Hid (Below wr.heap.size wr X2) := q2; clear q1 q2 q3; simp only [Act.put, List.setIfInBounds_toArray, List.set_cons_zero, List.set_cons_succ])
        | (refine wpList_app rfl (.tmp 26) (.tmp 27) rfl (.slice (some ⟨wr.heap.size, 0, none⟩) 1 1) [BitVec.ofNat 8 k] (pb [n, 0, 0, 0] k) rfl W2.out A1 k c1 (pb_len _ _) rfl (HSL.out X2 D2.out) HNL.out HKL.out ?_; intro v3 X3 q1 q2 q3; have W3 : Hid (Bw X3 v3 ([BitVec.ofNat 8 k] ++ pb [n, 0, 0, 0] k)) := q1; have G3 : Hid (X2.grownBy X3 (Value.slice (some ⟨wr.heap.size, 0, none⟩) 1 1).ownBlock) := q2; have O3 : Hid (v3.ownBlock = (Value.slice (some ⟨wr.heap.size, 0, none⟩) 1 1).ownBlock ∨ v3.ownBlock = some X2.heap.size) := q3; clear q1 q2 q3; simp only [Act.put, List.setIfInBounds_toArray, List.set_cons_zero, List.set_cons_succ]))
      go_ret
      obtain ⟨A3, c3, e3, _, _⟩ := Bw.form W3.out
      have hl3 : ([BitVec.ofNat 8 k] ++ pb [n, 0, 0, 0] k).length = k + 1 := by rw [List.length_append, pb_len]; simp; omega
      rw [hl3] at e3
      subst e3
      refine ⟨A3, c3, rfl, W3.out, ?_, ?_⟩
      · intro g e
        rcases O3.out with h | h
        · rw [h] at e
          simp [Value.ownBlock] at e
          have := HBE.out.size
          omega
        · rw [h] at e; cases e; exact Nat.le_trans HBE.out.size D2.out.size
      · exact below_gb (HBE.out.trans (D2.out.mono HBE.out.size)) G3.out (fun g e => by simp [Value.ownBlock] at e; have := HBE.out.size; omega)
    | succ j =>
      have e1 : (((j + 1 : Nat) : Int) - 1) = (j : Int) := by omega
      rw [e1]
      have hj : j < 8 := by omega
      have ht8 : t < 8 := by omega
      have hjt : j = 8 - 1 - t := by omega
      obtain ⟨xv, hxv⟩ : ∃ xv, xv = n / 256 ^ t := ⟨_, rfl⟩
      have HXV : Hid (xv = n / 256 ^ t) := hxv
      have hxb : xv < 9223372036854775808 := by rw [hxv]; exact Nat.lt_of_le_of_lt (Nat.div_le_self _ _) HN.out
      have HJL : Hid (j < (vB (gl [n, 0, 0, 0] 8 t)).length) := by show _ < _; rw [vB_length, gl_len]; exact hj
      rw [← hxv]
      have HJ : Hid (j + 1 + t = 8 ∧ j = 8 - 1 - t) := ⟨hrt, hjt⟩
      clear e1 hxv hrt hjt
      go_wp2_with (refine wpList_set1 rfl 5 (.tmp 17) (.tmp 16) rfl b j (.int .u8 ((xv : Int) % 256)) (vB (gl [n, 0, 0, 0] 8 t)) 181 rfl rfl rfl HR.out HJL.out info_u1 rfl ?_; intro X2 q1 q2 q3; have R2 : Hid (Row X2 b ((vB (gl [n, 0, 0, 0] 8 t)).set j (.int .u8 ((xv : Int) % 256))) 181) := q1; have G2 : Hid (Gro (· = b) wr X2) := q2; clear q1 q2 q3; simp only [Act.put])
      have R3 : Hid (Row X2 b (vB (gl [n, 0, 0, 0] 8 (t + 1))) 181) := by
        have q := R2.out
        rw [fb_num n t ht8 _ (by rw [← HXV.out]), vB_put, HJ.out.2, gl_step _ 8 t ht8] at q
        exact q
      have B3 : Hid (Below w.heap.size w X2) := HBE.out.trans (G2.out.to_below HBE.out.size (fun g e => by rw [e, HB.out]; exact Nat.le_refl _))
      exact ⟨⟨j, t + 1, by have := HJ.out.1; omega, by rw [Nat.pow_succ, ← Nat.div_div_eq_div_mul, ← HXV.out]; first | rfl | go_num, by first | rfl | go_num, R3, B3⟩, by simp [intOf]⟩

end Go.Proofs.YtknabkoddickaaaGreatDoor

namespace Go.Proofs.YtknabkoddickaaaGreatDoor
open Go Go.RowKit
open Sha

theorem fb_wd (l : List Nat) (i k : Nat) (hk : k < 8) (u : Int) (hu : u = ((l.getD i 0 / 256 ^ k : Nat) : Int) % 256) : (Value.int .u8 u) = .int .u8 (c (fb l (8 * i + k))) := by
  subst hu
  unfold fb c
  rw [show (8 * i + k) / 8 = i by omega, show (8 * i + k) % 8 = k by omega, BitVec.toNat_ofNat, show (2 : Nat) ^ (k * 8) = 256 ^ k by rw [show (256 : Nat) = 2 ^ 8 by decide, ← Nat.pow_mul, Nat.mul_comm]]
  rfl
theorem vQ_at (l : List Nat) (i : Nat) (h : i < l.length) : (vQ l)[i]? = some (.int .u64 ((l.getD i 0 : Nat) : Int)) := by
  unfold vQ
  rw [List.getElem?_map, List.getD_eq_getElem?_getD, List.getElem?_eq_getElem h]
  rfl
set_option maxRecDepth 100000 in
set_option maxHeartbeats 4000000 in
theorem plain_doc (am : List Nat) (ham : am.length = 4) (hq4 : ∀ x ∈ am, x < 18446744073709551616) (L : List Value) (hL : L = vQ am) (w : World) : Calls Tryz.prog 146 #[.agg L.toArray] w fun e w' => ∃ g, e = .returned (.slice (some ⟨g, 0, none⟩) 32 32) ∧ Row w' g (vB (pb am 32)) 5 ∧ w.heap.size ≤ g ∧ Below w.heap.size w w' := by
  have HL : Hid (L = vQ am) := hL
  have HAM : Hid (am.length = 4) := ham
  have HQ : Hid (∀ i, am.getD i 0 < 18446744073709551616) := fun i => by
    rw [List.getD_eq_getElem?_getD]
    cases h : am[i]? with
    | none => simp
    | some x => exact hq4 x (List.mem_of_getElem? h)
  clear hL ham hq4
  go_enter Tryz.func146, Tryz.ntmps146
  go_upto_region 2 with (first
    | (refine wpList_boxG 43 rfl (.tmp 0) rfl L rfl ?_; intro X1 q1 q2 q3; have R1 : Hid (Row X1 w.heap.size (vQ am) 43) := (by rw [← HL.out]; exact q1); have B1 : Hid (Below w.heap.size w X1) := q2; have S1 : Hid (X1.heap.size = w.heap.size + 1) := q3; clear q1 q2 q3; simp only [Act.put, List.setIfInBounds_toArray, List.set_cons_zero, List.set_cons_succ])
    | (refine wpList_make1 rfl _ _ rfl 32 32 32 rfl rfl rfl rfl (by decide) ?_; intro X2 q1 q2 q3; have R2' : Hid (Row X2 X1.heap.size (vB (List.replicate 32 0#8)) 5) := q1; have D2' : Hid (Below X1.heap.size X1 X2) := q2; clear q1 q2 q3; simp only [Act.put, List.setIfInBounds_toArray, List.set_cons_zero, List.set_cons_succ]))
  obtain ⟨bq, hbq⟩ : ∃ b, b = w.heap.size := ⟨_, rfl⟩
  obtain ⟨b, hb⟩ : ∃ b, b = X1.heap.size := ⟨_, rfl⟩
  have D2 : Below X1.heap.size X1 X2 := D2'.out
  have R2 : Hid (Row X2 b (vB (List.replicate 32 0#8)) 5) := by rw [hb]; exact R2'.out
  have RQ : Hid (Row X2 bq (vQ am) 43) := by rw [hbq]; exact Row.below R1.out D2 R1.out.lt
  have B2 : Hid (Below w.heap.size w X2) := B1.out.trans (D2.mono B1.out.size)
  have HBB : Hid (bq < b ∧ w.heap.size ≤ b) := by rw [hbq, hb]; have := S1.out; show _ ∧ _; omega
  rw [← hb, ← hbq]
  clear hbq hb D2 R1 B1 S1 R2' D2'
  go_wp2_with fail
  go_loopw [4] (fun v wr => ∃ i : Nat, i ≤ 4 ∧ v = .int .i64 (i : Int) ∧ Hid (Row wr b (vB (gl am 32 (8 * i))) 5) ∧ Hid (Row wr bq (vQ am) 43) ∧ Hid (Below w.heap.size w wr)) (fun v _ => 4 - (intOf v).toNat)
  case atStart => exact ⟨0, Nat.zero_le _, rfl, by rw [Nat.mul_zero, gl_zero]; exact R2, RQ, B2⟩
  case round =>
    clear R2 RQ B2
    obtain ⟨i, hi, rfl, HR, HRQ, HBE⟩ := hrel
    by_cases h4 : i < 4
    · have ci : wr.cell? ⟨bq, i, none⟩ = some (.int .u64 ((am.getD i 0 : Nat) : Int)) := HRQ.out.cell i _ (vQ_at am i (by rw [HAM.out]; exact h4))
      obtain ⟨x0, hx0⟩ : ∃ x, x = am.getD i 0 := ⟨_, rfl⟩
      have HX0 : Hid (x0 = am.getD i 0) := hx0
      have hxb : x0 < 18446744073709551616 := by rw [hx0]; exact HQ.out i
      rw [← hx0] at ci
      clear hx0
      have W0 : Hid (wr.heap.size = wr.heap.size) := rfl
      go_upto_region 7 with fail
      clear ci
      obtain ⟨w1, hw1⟩ : ∃ w1, w1 = wr := ⟨_, rfl⟩
      go_loopw [5, 6] (fun v5 v6 wz => ∃ k : Nat, k ≤ 8 ∧ v5 = .int .u64 ((x0 / 256 ^ k : Nat) : Int) ∧ v6 = .int .i64 (k : Int) ∧ Hid (Row wz b (vB (gl am 32 (8 * i + k))) 5) ∧ Hid (Row wz bq (vQ am) 43) ∧ Hid (Below w.heap.size w wz)) (fun _ v6 _ => 8 - (intOf v6).toNat)
      case atStart => exact ⟨0, Nat.zero_le _, by simp, rfl, HR, HRQ, HBE⟩
      case round =>
        rename_i wz_ _ _
        clear HR HRQ HBE
        obtain ⟨k, hk, rfl, rfl, HR, HRQ, HBE⟩ := hrel
        by_cases h8 : k < 8
        · obtain ⟨xv, hxv⟩ : ∃ xv, xv = x0 / 256 ^ k := ⟨_, rfl⟩
          have HXV : Hid (xv = x0 / 256 ^ k) := hxv
          have hxvb : xv < 18446744073709551616 := by rw [hxv]; exact Nat.lt_of_le_of_lt (Nat.div_le_self _ _) hxb
          obtain ⟨j, hj⟩ : ∃ j, j = 31 - 8 * i - k := ⟨_, rfl⟩
          have ej : (31 : Int) - 8 * (i : Int) - (k : Int) = (j : Int) := by omega
          have hj32 : j < 32 := by omega
          have HJ : Hid (j = 32 - 1 - (8 * i + k)) := by show _ = _; omega
          have HJL : Hid (j < (vB (gl am 32 (8 * i + k))).length) := by show _ < _; rw [vB_length, gl_len]; exact hj32
          rw [← hxv]
          clear hxv hj
          go_wp2_with (refine wpList_set1 rfl 5 (.tmp 28) (.tmp 27) rfl b j (.int .u8 ((xv : Int) % 256)) (vB (gl am 32 (8 * i + k))) 5 rfl rfl rfl HR.out HJL.out info_u1 rfl ?_; intro X5 q1 q2 q3; have R5 : Hid (Row X5 b ((vB (gl am 32 (8 * i + k))).set j (.int .u8 ((xv : Int) % 256))) 5) := q1; have G5 : Hid (Gro (· = b) _ X5) := q2; clear q1 q2 q3; simp only [Act.put])
          have R6 : Hid (Row X5 b (vB (gl am 32 (8 * i + (k + 1)))) 5) := by
            have q := R5.out
            rw [fb_wd am i k h8 _ (by rw [← HX0.out, ← HXV.out]), vB_put, HJ.out, gl_step _ 32 (8 * i + k) (by omega)] at q
            exact q
          have RQ6 : Hid (Row X5 bq (vQ am) 43) := G5.out.row HRQ.out (by have := HBB.out.1; omega)
          have B6 : Hid (Below w.heap.size w X5) := HBE.out.trans (G5.out.to_below HBE.out.size (fun g e => by rw [e]; exact HBB.out.2))
          exact ⟨⟨k + 1, by omega, by rw [Nat.pow_succ, ← Nat.div_div_eq_div_mul, ← HXV.out]; first | rfl | go_num, by first | rfl | go_num, R6, RQ6, B6⟩, by simp [intOf]; omega⟩
        · have ek : k = 8 := by omega
          subst ek
          go_wp2
          exact ⟨⟨i + 1, by omega, by first | rfl | go_num, by rw [show 8 * (i + 1) = 8 * i + 8 by omega]; exact HR, HRQ, HBE⟩, by simp [intOf]; omega⟩
    · have e4 : i = 4 := by omega
      subst e4
      have HF : Hid (Row wr b (vB (pb am 32)) 5) := by have q := HR.out; rw [show 8 * 4 = 32 by decide, gl_full] at q; exact q
      go_wp2
      go_ret
      exact ⟨b, rfl, HF.out, HBB.out.2, HBE.out⟩

end Go.Proofs.YtknabkoddickaaaGreatDoor

namespace Go.Proofs.YtknabkoddickaaaGreatDoor
open Go Go.RowKit
open Sha

set_option maxRecDepth 100000 in
set_option maxHeartbeats 4000000 in
theorem wide_doc (m0 m1 m2 m3 : Nat) (ha : m0 < 18446744073709551616) (hb : m1 < 18446744073709551616) (hc : m2 < 18446744073709551616) (hd : m3 < 18446744073709551616) (L : List Value) (hL : L = vQ [m0, m1, m2, m3]) (w : World) : Calls Tryz.prog 133 #[.agg L.toArray] w fun e w' => ∃ A c, e = .returned (.slice A (nb m0 m1 m2 m3 + 1) c) ∧ Bw w' (.slice A (nb m0 m1 m2 m3 + 1) c) (fm [m0, m1, m2, m3] (nb m0 m1 m2 m3)) ∧ Fresh w.heap.size (.slice A (nb m0 m1 m2 m3 + 1) c) ∧ Below w.heap.size w w' := by
  have HQ : Hid (m0 < 18446744073709551616 ∧ m1 < 18446744073709551616 ∧ m2 < 18446744073709551616 ∧ m3 < 18446744073709551616) := ⟨ha, hb, hc, hd⟩
  have HPL : Hid (∀ X, Calls Tryz.prog 146 #[.agg L.toArray] X fun e w' => ∃ g, e = .returned (.slice (some ⟨g, 0, none⟩) 32 32) ∧ Row w' g (vB (pb [m0, m1, m2, m3] 32)) 5 ∧ X.heap.size ≤ g ∧ Below X.heap.size X w') := fun X => plain_doc [m0, m1, m2, m3] rfl (fun x hx => by simp at hx; rcases hx with rfl | rfl | rfl | rfl <;> assumption) L hL X
  have HI : Hid ((Tryz.prog.info? 43).map (·.size) = some L.length) := by rw [hL]; exact info_Wd _ rfl
  obtain ⟨k, hk⟩ : ∃ k, k = nb m0 m1 m2 m3 := ⟨_, rfl⟩
  have hk32 : k ≤ 32 := by rw [hk]; exact nb_le _ _ _ _
  have HK : Hid (k = nb m0 m1 m2 m3) := hk
  rw [← hk]
  clear hk ha hb hc hd hL
  go_enter Tryz.func133, Tryz.ntmps133
  go_upto_region 2 with (first
    | (refine wpList_boxG 43 rfl (.tmp 0) rfl L rfl ?_; intro X1 q1 q2 q3; have R1 : Hid (Row X1 w.heap.size L 43) := q1; have B1 : Hid (Below w.heap.size w X1) := q2; clear q1 q2 q3; simp only [Act.put, List.setIfInBounds_toArray, List.set_cons_zero, List.set_cons_succ])
    | (refine wpList_load_w rfl 43 (.tmp 1) rfl w.heap.size 0 rfl L _ R1.out.all Tryz.underlying43 rfl HI.out ?_; simp only [Act.put, List.setIfInBounds_toArray, List.set_cons_zero, List.set_cons_succ])
    | (go_at_call 146; refine Calls.mono (HPL.out X1) ?_; rintro e X2 ⟨b, rfl, q1, q2, q3⟩; have R2 : Hid (Row X2 b (vB (pb [m0, m1, m2, m3] 32)) 5) := q1; have HB0 : Hid (w.heap.size ≤ b) := Nat.le_trans B1.out.size q2; have B2 : Hid (Below w.heap.size w X2) := B1.out.trans (q3.mono B1.out.size); clear q1 q2 q3))
  have HRG : Hid (∀ Y, Below X2.heap.size X2 Y → Y.rangeAt b 0 (vB (pb [m0, m1, m2, m3] 32))) := fun Y hY => range_be R2.out.all hY
  obtain ⟨A1, c1, hSe, hnil, hsl⟩ := bare_sl [m0, m1, m2, m3] 32 k b hk32 _ rfl
  have HBR : Hid (Calls Tryz.prog 145 #[.slice (some ⟨b, 0, none⟩) 32 32] X2 fun e w' => e = .returned (.slice A1 k c1) ∧ w' = X2) := by
    have q := bare_form m0 m1 m2 m3 32 HQ.out.1 HQ.out.2.1 HQ.out.2.2.1 HQ.out.2.2.2 (by decide) (by rw [← HK.out]; exact hk32) b _ rfl X2 (HRG.out X2 (Below.refl _ _))
    rw [← HK.out, hSe] at q
    exact q
  have HSL : Hid (∀ Y, Below X2.heap.size X2 Y → SlAt Y (.slice A1 k c1) (pb [m0, m1, m2, m3] k)) := fun Y hY => hsl Y (HRG.out Y hY)
  have HNL : Hid (A1 = none → c1 = 0) := hnil
  have HK32 : Hid (k ≤ 32) := hk32
  have HKL : Hid (([BitVec.ofNat 8 k] : List (BitVec 8)).length + k ≤ 140737488355328) := by show _ ≤ _; simp; omega
  clear hSe hnil hsl R1 B1
  go_wp2_with (first
    | (go_at_call 145; refine Calls.mono HBR.out ?_; rintro e X ⟨rfl, hq⟩; obtain rfl := hq.symm)
    | (refine wpList_buildOne 44 5 Tryz.underlying44 u8_open4 rfl (.tmp 12) rfl (.int .u8 (k : Int)) rfl rfl ?_; intro X3 q1 q2 q3; have W3 : Hid (Bw X3 (.slice (some ⟨X2.heap.size, 0, none⟩) 1 1) [BitVec.ofNat 8 k]) := one_bw HK32.out q1; have D3 : Hid (Below X2.heap.size X2 X3) := q2; clear q1 q2 q3; simp only [Act.put, List.setIfInBounds_toArray, List.set_cons_zero, List.set_cons_succ])
    | (refine wpList_app rfl (.tmp 14) (.tmp 15) rfl (.slice (some ⟨X2.heap.size, 0, none⟩) 1 1) [BitVec.ofNat 8 k] (pb [m0, m1, m2, m3] k) rfl W3.out A1 k c1 (pb_len _ _) rfl (HSL.out X3 D3.out) HNL.out HKL.out ?_; intro v4 X4 q1 q2 q3; have W4 : Hid (Bw X4 v4 ([BitVec.ofNat 8 k] ++ pb [m0, m1, m2, m3] k)) := q1; have G4 : Hid (X3.grownBy X4 (Value.slice (some ⟨X2.heap.size, 0, none⟩) 1 1).ownBlock) := q2; have O4 : Hid (v4.ownBlock = (Value.slice (some ⟨X2.heap.size, 0, none⟩) 1 1).ownBlock ∨ v4.ownBlock = some X3.heap.size) := q3; clear q1 q2 q3; simp only [Act.put, List.setIfInBounds_toArray, List.set_cons_zero, List.set_cons_succ]))
  go_ret
  obtain ⟨A3, c3, e3, _, _⟩ := Bw.form W4.out
  have hl3 : ([BitVec.ofNat 8 k] ++ pb [m0, m1, m2, m3] k).length = k + 1 := by rw [List.length_append, pb_len]; simp; omega
  rw [hl3] at e3
  subst e3
  refine ⟨A3, c3, rfl, W4.out, ?_, ?_⟩
  · intro g e
    rcases O4.out with h | h
    · rw [h] at e
      simp [Value.ownBlock] at e
      have := B2.out.size
      omega
    · rw [h] at e; cases e; exact Nat.le_trans B2.out.size D3.out.size
  · exact below_gb (B2.out.trans (D3.out.mono B2.out.size)) G4.out (fun g e => by simp [Value.ownBlock] at e; have := B2.out.size; omega)
/-- The document's writer: what was laid, and the fault. -/
structure Dw (w0 w : World) (Dp : Nat) (v : Value) (bs : List (BitVec 8)) (E : Int) : Prop where
  row : Row w Dp [v, .int .i64 E] 147
  bw : Bw w v bs
  fr : Fresh w0.heap.size v
  d0 : w0.heap.size ≤ Dp
  be : Below w0.heap.size w0 w
theorem Dw.keep {w0 w w' : World} {Dp : Nat} {v : Value} {bs : List (BitVec 8)} {E : Int} (h : Dw w0 w Dp v bs E) (k : Below w.heap.size w w') : Dw w0 w' Dp v bs E :=
  ⟨Row.below h.row k h.row.lt, Bw.be h.bw k, h.fr, h.d0, h.be.trans (k.mono h.be.size)⟩
theorem info_sl1 : (Tryz.prog.info? 44).map (·.size) = some 1 := by kernel_rfl
set_option maxRecDepth 100000 in
set_option maxHeartbeats 4000000 in
theorem lay_doc (w0 : World) (Dp : Nat) (v : Value) (bs : List (BitVec 8)) (E : Int) (d : List (BitVec 8)) (A : Option Addr) (n cap : Nat) (hn : d.length = n) (hnil : A = none → cap = 0) (hs : bs.length + n ≤ 4194304) (w : World) (h : Dw w0 w Dp v bs E) (hd : ∀ W, Below w.heap.size w W → SlAt W (.slice A n cap) d) :
    Calls Tryz.prog 131 #[.pointer (some ⟨Dp, 0, none⟩), .slice A n cap] w fun e w' => e = .returned (.tuple #[]) ∧ ∃ v', Dw w0 w' Dp v' (if E = 0 then bs ++ d else bs) E ∧ Gro (fun g => g = Dp ∨ v.ownBlock = some g) w w' := by
  have HH : Hid (Dw w0 w Dp v bs E) := h
  obtain ⟨Av, cv, hv, hvc, _⟩ := Bw.form h.bw
  subst hv
  have c0 := h.row.cell 0 _ rfl
  have c1 := h.row.cell 1 _ rfl
  obtain ⟨N, hN⟩ : ∃ N, N = bs.length := ⟨_, rfl⟩
  have HNN : Hid (N = bs.length) := hN
  rw [← hN] at c0
  by_cases hE : E = 0
  · have HW : Hid (Bw w (.slice Av N cv) bs) := by rw [hN]; exact h.bw
    have HSD : Hid (SlAt w (.slice A n cap) d) := hd w (Below.refl _ _)
    have HNL : Hid (A = none → cap = 0) := hnil
    have HDN : Hid (d.length = n) := hn
    have HKL : Hid (bs.length + n ≤ 140737488355328) := by show _ ≤ _; omega
    have el : ¬ ((4194304 : Int) < (N : Int) + (n : Int)) := by omega
    have hN2 : N ≤ 4194304 := by omega
    have hn2 : n ≤ 4194304 := by omega
    have HR : Hid (Row w Dp [.slice Av N cv, .int .i64 0] 147) := by rw [hN, ← hE]; exact h.row
    subst hE
    clear h hd hnil hn hs hN hvc
    go_enter Tryz.func131, Tryz.ntmps131
    go_wp2_with (first
      | (refine wpList_app rfl (.tmp 25) (.tmp 26) rfl (.slice Av N cv) bs d rfl HW.out A n cap HDN.out rfl HSD.out HNL.out HKL.out ?_; intro v4 X4 q1 q2 q3; have W4 : Hid (Bw X4 v4 (bs ++ d)) := q1; have G4 : Hid (w.grownBy X4 (Value.slice Av N cv).ownBlock) := q2; have O4 : Hid (v4.ownBlock = (Value.slice Av N cv).ownBlock ∨ v4.ownBlock = some w.heap.size) := q3; have R4 : Hid (Row X4 Dp [.slice Av N cv, .int .i64 0] 147) := row_gb HR.out q2 (some_ne (Bw.ne HW.out HR.out (by decide))); clear q1 q2 q3; obtain ⟨A5, c5, e5, _, _⟩ := Bw.form W4.out; subst e5; simp only [Act.put, List.setIfInBounds_toArray, List.set_cons_zero, List.set_cons_succ])
      | (refine wpList_set1 rfl 44 (.tmp 29) (.tmp 27) rfl Dp 0 (.slice A5 (bs ++ d).length c5) [.slice Av N cv, .int .i64 0] 147 rfl rfl rfl R4.out (Nat.succ_pos _) info_sl1 rfl ?_; intro X6 q1 q2 q3; have R6 : Hid (Row X6 Dp [.slice A5 (bs ++ d).length c5, .int .i64 0] 147) := q1; have G6 : Hid (Gro (· = Dp) X4 X6) := q2; clear q1 q2 q3; simp only [Act.put]))
    go_end0
    have hG : Gro (fun g => g = Dp ∨ (Value.slice Av N cv).ownBlock = some g) w X6 := Gro.trans (Gro.grown (Gro.refl _ _) G4.out (fun g e => .inl (.inr e))) (Gro.mono G6.out (fun g e => .inl e))
    refine ⟨rfl, ⟨.slice A5 (bs ++ d).length c5, ⟨R6.out, ?_, ?_, HH.out.d0, ?_⟩⟩, by rw [← HNN.out]; exact hG⟩
    · exact Bw.gro W4.out G6.out (Bw.ne W4.out R4.out (by decide))
    · intro g e
      rcases O4.out with q | q
      · exact HH.out.fr g (by rw [← HNN.out, ← q]; exact e)
      · rw [q] at e; cases e; exact HH.out.be.size
    · refine HH.out.be.trans (hG.to_below HH.out.be.size (fun g q => ?_))
      rcases q with q | q
      · rw [q]; exact HH.out.d0
      · exact HH.out.fr g (by rw [← HNN.out]; exact q)
  · have ex : (E != 0) = true := by simpa using hE
    have HE : Hid (¬ E = 0) := hE
    clear h hd hnil hn hs hN hvc hE
    go_enter Tryz.func131, Tryz.ntmps131
    go_wp2
    refine bodyPost_ret (results_none rfl _ _ _) rfl ?_
    exact ⟨rfl, ⟨_, HH.out⟩, Gro.refl _ _⟩

end Go.Proofs.YtknabkoddickaaaGreatDoor
