/-
  the document's outbox: May, Form, Bytes.
-/
import Derived.Test.YtdicgenhfmhklaaGreatDoorLbW
import Derived.Test.YtdicgenhfmhklaaGreatDoorLws
import Derived.Test.YtdicgenhfmhklaaGreatDoorObA

namespace Go.Proofs.YtdicgenhfmhklaaGreatDoor
open Go Go.RowKit
open Sha

theorem lt_bits : ∀ f x : Nat, x < 2 ^ f → x < 2 ^ Lib.bitLenAux f x
  | 0, x, h => by simpa [Lib.bitLenAux] using h
  | f + 1, x, h => by
    simp only [Lib.bitLenAux]
    by_cases h0 : x = 0
    · subst h0; simp
    · rw [if_neg h0]
      have h1 : x / 2 < 2 ^ f := by rw [Nat.pow_succ] at h; omega
      have := lt_bits f (x / 2) h1
      rw [Nat.add_comm 1, Nat.pow_succ]
      omega
theorem lt_bl (x : Nat) (h : x < 18446744073709551616) (t : Nat) (ht : bl x ≤ t) : x / 2 ^ (t * 8) = 0 := by
  apply Nat.div_eq_of_lt
  have h1 : x < 2 ^ Lib.bitLen x := lt_bits 64 x h
  refine Nat.lt_of_lt_of_le h1 (Nat.pow_le_pow_right (by decide) ?_)
  unfold bl at ht
  omega
theorem fb_zero (a b c d : Nat) (ha : a < 18446744073709551616) (hb : b < 18446744073709551616) (hc : c < 18446744073709551616) (hd : d < 18446744073709551616) (i : Nat) (hi : nb a b c d ≤ i) (h32 : i < 32) : fb [a, b, c, d] i = 0#8 := by
  unfold fb
  have key : [a, b, c, d].getD (i / 8) 0 / 2 ^ (i % 8 * 8) = 0 := by
    unfold nb at hi
    rcases (show i / 8 = 0 ∨ i / 8 = 1 ∨ i / 8 = 2 ∨ i / 8 = 3 by omega) with e | e | e | e
    · rw [e]; show a / _ = 0
      by_cases h3 : d ≠ 0
      · rw [if_pos h3] at hi; omega
      · rw [if_neg h3] at hi
        by_cases h2 : c ≠ 0
        · rw [if_pos h2] at hi; omega
        · rw [if_neg h2] at hi
          by_cases h1 : b ≠ 0
          · rw [if_pos h1] at hi; omega
          · rw [if_neg h1] at hi
            by_cases h0 : a ≠ 0
            · rw [if_pos h0] at hi; exact lt_bl a ha _ (by omega)
            · rw [Classical.not_not.1 h0, Nat.zero_div]
    · rw [e]; show b / _ = 0
      by_cases h3 : d ≠ 0
      · rw [if_pos h3] at hi; omega
      · rw [if_neg h3] at hi
        by_cases h2 : c ≠ 0
        · rw [if_pos h2] at hi; omega
        · rw [if_neg h2] at hi
          by_cases h1 : b ≠ 0
          · rw [if_pos h1] at hi; exact lt_bl b hb _ (by omega)
          · rw [Classical.not_not.1 h1, Nat.zero_div]
    · rw [e]; show c / _ = 0
      by_cases h3 : d ≠ 0
      · rw [if_pos h3] at hi; omega
      · rw [if_neg h3] at hi
        by_cases h2 : c ≠ 0
        · rw [if_pos h2] at hi; exact lt_bl c hc _ (by omega)
        · rw [Classical.not_not.1 h2, Nat.zero_div]
    · rw [e]; show d / _ = 0
      by_cases h3 : d ≠ 0
      · rw [if_pos h3] at hi; exact lt_bl d hd _ (by omega)
      · rw [Classical.not_not.1 h3, Nat.zero_div]
  rw [key]
/-- The lowest N bytes of a number, the highest first. -/
def pb (l : List Nat) (N : Nat) : List (BitVec 8) := (List.range N).map fun j => fb l (N - 1 - j)
theorem pb_len (l : List Nat) (N : Nat) : (pb l N).length = N := by simp [pb]
theorem fm_pb (l : List Nat) (k : Nat) : fm l k = BitVec.ofNat 8 k :: pb l k := rfl
theorem pb_get (l : List Nat) (N i : Nat) (h : i < N) : (pb l N)[i]? = some (fb l (N - 1 - i)) := by
  unfold pb
  rw [List.getElem?_map, List.getElem?_range h]
  rfl
theorem pb_drop (l : List Nat) (N k : Nat) (h : k ≤ N) : (pb l N).drop (N - k) = pb l k := by
  apply List.ext_getElem?
  intro i
  rw [List.getElem?_drop]
  by_cases hi : i < k
  · rw [pb_get l N _ (by omega), pb_get l k i hi, show N - 1 - (N - k + i) = k - 1 - i by omega]
  · rw [List.getElem?_eq_none (by rw [pb_len]; omega), List.getElem?_eq_none (by rw [pb_len]; omega)]
section
variable {P : Program} {ops : Array Oper} {rest : List Oper} {op : Oper} {a : Act} {w : World} {Q : Exit → Act → World → Prop}
theorem run_slice_from (w : World) (t e ab ao len cap m : Nat) (l : Int) (hl : l = (m : Int)) (hm : m ≤ len) (hu : P.underlying t = some (.slice e)) (hs : (P.info? e).map (·.size) = some 1) :
    (Instr.sliceAt t (.slice (some ⟨ab, ao, none⟩) len cap) (some (.int .i64 l)) none none).run P w = .ok (.slice (some (if cap = m then ⟨ab, ao, none⟩ else ⟨ab, ao + m, none⟩)) (len - m) (cap - m)) w := by
  cases hq : P.info? e with
  | none => simp [hq] at hs
  | some i =>
    have h1 : i.size = 1 := by simpa [hq] using hs
    subst hl
    by_cases h2 : cap = m <;> simp [Instr.sliceAt, Instr.slice, run_underlying hu, Instr.sliceBounds, Instr.sliceBound, asIntOf, sizeOf, typeInfo, hq, h1, h2, Addr.add_mid, hm]

theorem wpList_slice_from (hgd : op.guard = none) (t : TypeId) (x y : Operand) (ho : op.op = .slice t x (some y) none none) (e ab ao len cap m : Nat) (l : Int) (hx : a.eval x = .slice (some ⟨ab, ao, none⟩) len cap) (hy : a.eval y = .int .i64 l)
    (hl : l = (m : Int)) (hm : m ≤ len) (hc : len ≤ cap) (hu : P.underlying t = some (.slice e)) (hs : (P.info? e).map (·.size) = some 1)
    (h : ∀ A, (m < len → A = (⟨ab, ao + m, none⟩ : Addr)) → wpList P ops Q rest (a.put op.dst (.slice (some A) (len - m) (cap - m))) w) : wpList P ops Q (op :: rest) a w :=
  wpList_plain hgd fun _ hK => by
    unfold Oper.wp execOp
    simp only [ho, hx, hy, Option.map_some, Option.map_none, Sem.run_bind, run_slice_from w t e ab ao len cap m l hl hm hu hs, Result.andThen_ok, Sem.run_pure, Oper.upon_value]
    exact hK _ _ (h _ (fun hlt => by rw [if_neg (by omega)]))
end
set_option maxRecDepth 100000 in
set_option maxHeartbeats 4000000 in
theorem bare_go (g N k : Nat) (d : List (BitVec 8)) (hN : N ≤ 32) (hk : k ≤ N) (hz : ∀ i, i < N - k → d[i]? = some 0#8) (ht : 0 < k → ∃ x : BitVec 8, d[N - k]? = some x ∧ x.toNat ≠ 0) (S : Value) (hS : S = if k = 0 then .slice none 0 0 else .slice (some ⟨g, N - k, none⟩) k k) (w : World) (hr : w.rangeAt g 0 (vB d)) :
    Calls Tryz.prog 106 #[.slice (some ⟨g, 0, none⟩) N N] w fun e w' => e = .returned S ∧ w' = w := by
  have HR : Hid (w.rangeAt g 0 (vB d)) := hr
  have HZ : Hid (∀ i, i < N - k → d[i]? = some 0#8) := hz
  have HT : Hid (0 < k → ∃ x : BitVec 8, d[N - k]? = some x ∧ x.toNat ≠ 0) := ht
  have HS : Hid (S = if k = 0 then .slice none 0 0 else .slice (some ⟨g, N - k, none⟩) k k) := hS
  clear hr hz ht hS
  go_enter Tryz.func106, Tryz.ntmps106
  go_wp2_with fail
  go_loopw [3] (fun v wr => ∃ t : Nat, t ≤ N - k ∧ v = .int .i64 (t : Int) ∧ wr = w) (fun v _ => N - (intOf v).toNat)
  case atStart => exact ⟨0, Nat.zero_le _, rfl, rfl⟩
  case round =>
    obtain ⟨t, htk, rfl, hw⟩ := hrel
    subst hw
    by_cases h1 : t < N - k
    · have c0 : wr.cell? ⟨g, t, none⟩ = some (.int .u8 0) := by
        have q := HR.out t _ (by unfold vB; rw [List.getElem?_map, HZ.out t h1]; rfl)
        rw [Nat.zero_add] at q
        exact q
      have hl : t < N := by omega
      go_wp2
      exact ⟨⟨t + 1, by omega, by go_num, by first | rfl | trivial⟩, by simp [intOf]; omega⟩
    · have et : t = N - k := by omega
      by_cases hk0 : k = 0
      · have hS : S = .slice none 0 0 := by rw [HS.out, if_pos hk0]
        have e4 : (t : Int) = (N : Int) := by omega
        rw [e4]
        clear e4 h1 htk et hk0
        go_wp2
        go_ret
        exact ⟨by rw [hS]; rfl, rfl⟩
      · obtain ⟨x, hx, hx0⟩ := HT.out (by omega)
        have hS : Hid (S = .slice (some ⟨g, t, none⟩) (N - t) (N - t)) := by
          show _ = _
          rw [HS.out, if_neg hk0, et, show N - (N - k) = k by omega]
        have c0 : wr.cell? ⟨g, t, none⟩ = some (.int .u8 ((x.toNat : Nat) : Int)) := by
          rw [← et] at hx
          have q := HR.out t _ (by unfold vB; rw [List.getElem?_map, hx]; rfl)
          rw [Nat.zero_add] at q
          exact q
        obtain ⟨y, hy⟩ : ∃ y, y = x.toNat := ⟨_, rfl⟩
        rw [← hy] at c0 hx0
        have hl : t < N := by omega
        have ey : ((y : Int) != 0) = true := by simp; omega
        clear hx hy et h1 htk hk0
        go_wp2_with (refine wpList_slice_from rfl 54 (.tmp 15) (.tmp 16) rfl 5 g 0 N N t _ rfl rfl rfl (Nat.le_of_lt hl) (Nat.le_refl _) Tryz.underlying54 info_u8 ?_; intro A qA; obtain rfl := qA hl; rw [Nat.zero_add]; simp only [Act.put, List.setIfInBounds_toArray, List.set_cons_zero, List.set_cons_succ])
        go_ret
        exact ⟨by rw [hS.out]; rfl, rfl⟩

end Go.Proofs.YtdicgenhfmhklaaGreatDoor

namespace Go.Proofs.YtdicgenhfmhklaaGreatDoor
open Go Go.RowKit
open Sha

/-- N bytes of which t are laid. -/
def gl (l : List Nat) (N t : Nat) : List (BitVec 8) := (List.range N).map fun p => if N ≤ p + t then fb l (N - 1 - p) else 0#8
theorem gl_len (l : List Nat) (N t : Nat) : (gl l N t).length = N := by simp [gl]
theorem gl_zero (l : List Nat) (N : Nat) : gl l N 0 = List.replicate N 0#8 := by
  apply List.ext_getElem (by simp [gl])
  intro p h1 h2
  simp only [gl, List.getElem_map, List.getElem_range, List.getElem_replicate]
  rw [gl_len] at h1
  rw [if_neg (by omega)]
theorem gl_full (l : List Nat) (N : Nat) : gl l N N = pb l N := by
  apply List.ext_getElem (by simp [gl, pb])
  intro p h1 h2
  simp only [gl, pb, List.getElem_map, List.getElem_range]
  rw [if_pos (by omega)]
theorem gl_step (l : List Nat) (N t : Nat) (ht : t < N) : (gl l N t).set (N - 1 - t) (fb l t) = gl l N (t + 1) := by
  apply List.ext_getElem (by simp [gl])
  intro p h1 h2
  simp only [gl, List.getElem_map, List.getElem_range, List.getElem_set]
  rw [gl_len] at h2
  by_cases e : N - 1 - t = p
  · subst e
    rw [if_pos rfl, if_pos (by omega), show N - 1 - (N - 1 - t) = t by omega]
  · rw [if_neg e]
    by_cases e1 : N ≤ p + t
    · rw [if_pos e1, if_pos (by omega)]
    · rw [if_neg e1, if_neg (by omega)]
theorem vB_put (l : List (BitVec 8)) (i : Nat) (x : BitVec 8) : (vB l).set i (.int .u8 (c x)) = vB (l.set i x) := by
  unfold vB
  rw [List.map_set]
theorem range_cut {w : World} {g o : Nat} {d : List (BitVec 8)} (h : w.rangeAt g o (vB d)) (p : Nat) : w.rangeAt g (o + p) (vB (d.drop p)) := fun j v hj => by
  have q := h (p + j) v (by rw [← hj]; unfold vB; rw [List.getElem?_map, List.getElem?_map, List.getElem?_drop])
  rwa [show o + (p + j) = o + p + j by omega] at q
theorem one_bw {w : World} {g k : Nat} (hk : k ≤ 32) (h : Row w g [.int .u8 (k : Int)] 5) : Bw w (.slice (some ⟨g, 0, none⟩) 1 1) [BitVec.ofNat 8 k] :=
  row_bw (d := [BitVec.ofNat 8 k]) (by rw [show vB [BitVec.ofNat 8 k] = [.int .u8 (k : Int)] by unfold vB c; simp; omega]; exact h) (by simp)
theorem fb_num (n t : Nat) (ht : t < 8) (u : Int) (hu : u = ((n / 256 ^ t : Nat) : Int) % 256) : (Value.int .u8 u) = .int .u8 (c (fb [n, 0, 0, 0] t)) := by
  subst hu
  unfold fb c
  rw [Nat.div_eq_of_lt ht, Nat.mod_eq_of_lt ht, BitVec.toNat_ofNat, show (2 : Nat) ^ (t * 8) = 256 ^ t by rw [show (256 : Nat) = 2 ^ 8 by decide, ← Nat.pow_mul, Nat.mul_comm]]
  rfl
theorem nb_small (n : Nat) : nb n 0 0 0 ≤ 8 := by
  have := bl_le n
  unfold nb
  simp only [ne_eq, not_true, if_false]
  split <;> omega
theorem bare_form (m0 m1 m2 m3 N : Nat) (ha : m0 < 18446744073709551616) (hb : m1 < 18446744073709551616) (hc : m2 < 18446744073709551616) (hd : m3 < 18446744073709551616) (hN : N ≤ 32) (hk : nb m0 m1 m2 m3 ≤ N) (g : Nat) (S : Value) (hS : S = if nb m0 m1 m2 m3 = 0 then .slice none 0 0 else .slice (some ⟨g, N - nb m0 m1 m2 m3, none⟩) (nb m0 m1 m2 m3) (nb m0 m1 m2 m3)) (w : World) (hr : w.rangeAt g 0 (vB (pb [m0, m1, m2, m3] N))) :
    Calls Tryz.prog 106 #[.slice (some ⟨g, 0, none⟩) N N] w fun e w' => e = .returned S ∧ w' = w :=
  bare_go g N (nb m0 m1 m2 m3) (pb [m0, m1, m2, m3] N) hN hk (fun i hi => by rw [pb_get _ _ _ (by omega), fb_zero m0 m1 m2 m3 ha hb hc hd _ (by omega) (by omega)]) (fun h0 => ⟨_, by rw [pb_get _ _ _ (by omega)], by rw [show N - 1 - (N - nb m0 m1 m2 m3) = nb m0 m1 m2 m3 - 1 by omega]; exact nb_top m0 m1 m2 m3 ha hb hc hd h0⟩) S hS w hr
theorem bare_sl (l : List Nat) (N k g : Nat) (hk : k ≤ N) (S : Value) (hS : S = if k = 0 then .slice none 0 0 else .slice (some ⟨g, N - k, none⟩) k k) : ∃ A c, S = .slice A k c ∧ (A = none → c = 0) ∧ ∀ w : World, w.rangeAt g 0 (vB (pb l N)) → SlAt w (.slice A k c) (pb l k) := by
  by_cases h0 : k = 0
  · subst h0
    rw [if_pos rfl] at hS
    exact ⟨none, 0, hS, fun _ => rfl, fun _ _ => .inl ⟨rfl, _, _, rfl⟩⟩
  · rw [if_neg h0] at hS
    refine ⟨_, _, hS, (fun h => by cases h), fun w hr => .inr ⟨g, N - k, k, by rw [pb_len], by rw [pb_len]; exact Nat.le_refl _, ?_⟩⟩
    have q := range_cut hr (N - k)
    rw [pb_drop l N k hk, Nat.zero_add] at q
    exact q
section
variable {ops : Array Oper} {rest : List Oper} {op : Oper} {a : Act} {w : World} {Q : Exit → Act → World → Prop}
theorem wpList_allocA8 (hgd : op.guard = none) (ho : op.op = .alloc 154) (h : ∀ X, Row X w.heap.size (vB (List.replicate 8 0#8)) 154 → Below w.heap.size w X → wpList Tryz.prog ops Q rest (a.put op.dst (.pointer (some ⟨w.heap.size, 0, none⟩))) X) : wpList Tryz.prog ops Q (op :: rest) a w :=
  wpList_plain hgd fun _ hK => by
    unfold Oper.wp execOp
    simp only [ho]
    go_simp
    exact hK _ _ (h _ (Row.new' (cs := vB (List.replicate 8 0#8)) rfl rfl) ((Below.refl _ _).alloc (Nat.le_refl _) _))
end
theorem info_u1 : (Tryz.prog.info? 5).map (·.size) = some 1 := by kernel_rfl
theorem u8_open4 : ∃ ie z, Tryz.prog.info? 5 = some ie ∧ ie.zero = some z ∧ ie.size = 1 ∧ z.cells.size = 1 := by
  obtain ⟨ie, z, h1, h2, h3, _, h4⟩ := info_u8open
  exact ⟨ie, z, h1, h2, h3, h4⟩
set_option maxRecDepth 100000 in
set_option maxHeartbeats 4000000 in
theorem number_doc (n : Nat) (hn : n < 9223372036854775808) (w : World) : Calls Tryz.prog 92 #[.int .i64 (n : Int)] w fun e w' => ∃ A c, e = .returned (.slice A (nb n 0 0 0 + 1) c) ∧ Bw w' (.slice A (nb n 0 0 0 + 1) c) (fm [n, 0, 0, 0] (nb n 0 0 0)) ∧ Fresh w.heap.size (.slice A (nb n 0 0 0 + 1) c) ∧ Below w.heap.size w w' := by
  have HN : Hid (n < 9223372036854775808) := hn
  obtain ⟨k, hk⟩ : ∃ k, k = nb n 0 0 0 := ⟨_, rfl⟩
  have hk8 : k ≤ 8 := by rw [hk]; exact nb_small n
  have HK : Hid (k = nb n 0 0 0) := hk
  rw [← hk]
  clear hk
  go_enter Tryz.func92, Tryz.ntmps92
  go_upto_region 2 with (refine wpList_allocA8 rfl rfl ?_; intro X1 q1 q2; have R1 : Hid (Row X1 w.heap.size (vB (List.replicate 8 0#8)) 154) := q1; have B1 : Hid (Below w.heap.size w X1) := q2; clear q1 q2; simp only [Act.put, List.setIfInBounds_toArray, List.set_cons_zero, List.set_cons_succ])
  obtain ⟨b, hb⟩ : ∃ b, b = w.heap.size := ⟨_, rfl⟩
  have HB : Hid (b = w.heap.size) := hb
  rw [← hb] at R1
  rw [← hb]
  clear hb
  go_wp2_with fail
  go_loopw [4, 5] (fun v4 v5 wr => ∃ r t : Nat, r + t = 8 ∧ v4 = .int .i64 ((n / 256 ^ t : Nat) : Int) ∧ v5 = .int .i64 ((r : Int) - 1) ∧ Hid (Row wr b (vB (gl [n, 0, 0, 0] 8 t)) 154) ∧ Hid (Below w.heap.size w wr)) (fun _ v5 _ => (intOf v5 + 1).toNat)
  case atStart => exact ⟨8, 0, rfl, by simp, rfl, by rw [gl_zero]; exact R1, B1⟩
  case round =>
    clear R1 B1
    obtain ⟨r, t, hrt, rfl, rfl, HR, HBE⟩ := hrel
    cases r with
    | zero =>
      have e8 : t = 8 := by omega
      subst e8
      have HRG : Hid (∀ Y, Below wr.heap.size wr Y → Y.rangeAt b 0 (vB (pb [n, 0, 0, 0] 8))) := fun Y hY => by
        have q := HR.out
        rw [gl_full] at q
        exact range_be q.all hY
      obtain ⟨A1, c1, hSe, hnil, hsl⟩ := bare_sl [n, 0, 0, 0] 8 k b hk8 _ rfl
      have HBR : Hid (∀ Y, Below wr.heap.size wr Y → Calls Tryz.prog 106 #[.slice (some ⟨b, 0, none⟩) 8 8] Y fun e w' => e = .returned (.slice A1 k c1) ∧ w' = Y) := fun Y hY => by
        have q := bare_form n 0 0 0 8 (by have := HN.out; omega) (by decide) (by decide) (by decide) (by decide) (by rw [← HK.out]; exact hk8) b _ rfl Y (HRG.out Y hY)
        rw [← HK.out, hSe] at q
        exact q
      have HSL : Hid (∀ Y, Below wr.heap.size wr Y → SlAt Y (.slice A1 k c1) (pb [n, 0, 0, 0] k)) := fun Y hY => hsl Y (HRG.out Y hY)
      have HNL : Hid (A1 = none → c1 = 0) := hnil
      have HK32 : Hid (k ≤ 32) := by show _ ≤ _; omega
      have HKL : Hid (([BitVec.ofNat 8 k] : List (BitVec 8)).length + k ≤ 140737488355328) := by show _ ≤ _; simp; omega
      clear hSe hnil hsl hrt HR
      go_wp2_with (first
        | (refine wpList_slice_all rfl 154 5 8 (.tmp 3) b 0 rfl rfl Tryz.underlying154 info_u1 ?_; simp only [Act.put, List.setIfInBounds_toArray, List.set_cons_zero, List.set_cons_succ])
        | (go_at_call 106; refine Calls.mono (HBR.out wr (Below.refl _ _)) ?_; rintro e X ⟨rfl, hq⟩; obtain rfl := hq.symm)
        | (refine wpList_buildOne 54 5 Tryz.underlying54 u8_open4 rfl (.tmp 24) rfl (.int .u8 (k : Int)) rfl rfl ?_; intro X2 q1 q2 q3; have R2 : Hid (Row X2 wr.heap.size [.int .u8 (k : Int)] 5) := q1; have W2 : Hid (Bw X2 (.slice (some ⟨wr.heap.size, 0, none⟩) 1 1) [BitVec.ofNat 8 k]) := one_bw HK32.out q1; have D2 : Hid (Below wr.heap.size wr X2) := q2; clear q1 q2 q3; simp only [Act.put, List.setIfInBounds_toArray, List.set_cons_zero, List.set_cons_succ])
        | (refine wpList_app rfl (.tmp 26) (.tmp 27) rfl (.slice (some ⟨wr.heap.size, 0, none⟩) 1 1) [BitVec.ofNat 8 k] (pb [n, 0, 0, 0] k) rfl W2.out A1 k c1 (pb_len _ _) rfl (HSL.out X2 D2.out) HNL.out HKL.out ?_; intro v3 X3 q1 q2 q3; have W3 : Hid (Bw X3 v3 ([BitVec.ofNat 8 k] ++ pb [n, 0, 0, 0] k)) := q1; have G3 : Hid (X2.grownBy X3 (Value.slice (some ⟨wr.heap.size, 0, none⟩) 1 1).ownBlock) := q2; have O3 : Hid (v3.ownBlock = (Value.slice (some ⟨wr.heap.size, 0, none⟩) 1 1).ownBlock ∨ v3.ownBlock = some X2.heap.size) := q3; clear q1 q2 q3; simp only [Act.put, List.setIfInBounds_toArray, List.set_cons_zero, List.set_cons_succ]))
      go_ret
      obtain ⟨A3, c3, e3, _, _⟩ := Bw.form W3.out
      have hl3 : ([BitVec.ofNat 8 k] ++ pb [n, 0, 0, 0] k).length = k + 1 := by rw [List.length_append, pb_len]; simp; omega
      rw [hl3] at e3
      subst e3
      refine ⟨A3, c3, rfl, W3.out, ?_, ?_⟩
      · intro g e
        rcases O3.out with h | h
        · rw [h] at e
          simp [Value.ownBlock] at e
          have := HBE.out.size
          omega
        · rw [h] at e; cases e; exact Nat.le_trans HBE.out.size D2.out.size
      · exact below_gb (HBE.out.trans (D2.out.mono HBE.out.size)) G3.out (fun g e => by simp [Value.ownBlock] at e; have := HBE.out.size; omega)
    | succ j =>
      have e1 : (((j + 1 : Nat) : Int) - 1) = (j : Int) := by omega
      rw [e1]
      have hj : j < 8 := by omega
      have ht8 : t < 8 := by omega
      have hjt : j = 8 - 1 - t := by omega
      obtain ⟨xv, hxv⟩ : ∃ xv, xv = n / 256 ^ t := ⟨_, rfl⟩
      have HXV : Hid (xv = n / 256 ^ t) := hxv
      have hxb : xv < 9223372036854775808 := by rw [hxv]; exact Nat.lt_of_le_of_lt (Nat.div_le_self _ _) HN.out
      have HJL : Hid (j < (vB (gl [n, 0, 0, 0] 8 t)).length) := by show _ < _; rw [vB_length, gl_len]; exact hj
      rw [← hxv]
      have HJ : Hid (j + 1 + t = 8 ∧ j = 8 - 1 - t) := ⟨hrt, hjt⟩
      clear e1 hxv hrt hjt
      go_wp2_with (refine wpList_set1 rfl 5 (.tmp 17) (.tmp 16) rfl b j (.int .u8 ((xv : Int) % 256)) (vB (gl [n, 0, 0, 0] 8 t)) 154 rfl rfl rfl HR.out HJL.out info_u1 rfl ?_; intro X2 q1 q2 q3; have R2 : Hid (Row X2 b ((vB (gl [n, 0, 0, 0] 8 t)).set j (.int .u8 ((xv : Int) % 256))) 154) := q1; have G2 : Hid (Gro (· = b) wr X2) := q2; clear q1 q2 q3; simp only [Act.put])
      have R3 : Hid (Row X2 b (vB (gl [n, 0, 0, 0] 8 (t + 1))) 154) := by
        have q := R2.out
        rw [fb_num n t ht8 _ (by rw [← HXV.out]), vB_put, HJ.out.2, gl_step _ 8 t ht8] at q
        exact q
      have B3 : Hid (Below w.heap.size w X2) := HBE.out.trans (G2.out.to_below HBE.out.size (fun g e => by rw [e, HB.out]; exact Nat.le_refl _))
      exact ⟨⟨j, t + 1, by have := HJ.out.1; omega, by rw [Nat.pow_succ, ← Nat.div_div_eq_div_mul, ← HXV.out]; first | rfl | go_num, by first | rfl | go_num, R3, B3⟩, by simp [intOf]⟩

end Go.Proofs.YtdicgenhfmhklaaGreatDoor

namespace Go.Proofs.YtdicgenhfmhklaaGreatDoor
open Go Go.RowKit
open Sha

theorem fb_wd (l : List Nat) (i k : Nat) (hk : k < 8) (u : Int) (hu : u = ((l.getD i 0 / 256 ^ k : Nat) : Int) % 256) : (Value.int .u8 u) = .int .u8 (c (fb l (8 * i + k))) := by
  subst hu
  unfold fb c
  rw [show (8 * i + k) / 8 = i by omega, show (8 * i + k) % 8 = k by omega, BitVec.toNat_ofNat, show (2 : Nat) ^ (k * 8) = 256 ^ k by rw [show (256 : Nat) = 2 ^ 8 by decide, ← Nat.pow_mul, Nat.mul_comm]]
  rfl
theorem vQ_at (l : List Nat) (i : Nat) (h : i < l.length) : (vQ l)[i]? = some (.int .u64 ((l.getD i 0 : Nat) : Int)) := by
  unfold vQ
  rw [List.getElem?_map, List.getD_eq_getElem?_getD, List.getElem?_eq_getElem h]
  rfl
set_option maxRecDepth 100000 in
set_option maxHeartbeats 4000000 in
theorem plain_doc (am : List Nat) (ham : am.length = 4) (hq4 : ∀ x ∈ am, x < 18446744073709551616) (L : List Value) (hL : L = vQ am) (w : World) : Calls Tryz.prog 107 #[.agg L.toArray] w fun e w' => ∃ g, e = .returned (.slice (some ⟨g, 0, none⟩) 32 32) ∧ Row w' g (vB (pb am 32)) 5 ∧ w.heap.size ≤ g ∧ Below w.heap.size w w' := by
  have HL : Hid (L = vQ am) := hL
  have HAM : Hid (am.length = 4) := ham
  have HQ : Hid (∀ i, am.getD i 0 < 18446744073709551616) := fun i => by
    rw [List.getD_eq_getElem?_getD]
    cases h : am[i]? with
    | none => simp
    | some x => exact hq4 x (List.mem_of_getElem? h)
  clear hL ham hq4
  go_enter Tryz.func107, Tryz.ntmps107
  go_upto_region 2 with (first
    | (refine wpList_boxG 38 rfl (.tmp 0) rfl L rfl ?_; intro X1 q1 q2 q3; have R1 : Hid (Row X1 w.heap.size (vQ am) 38) := (by rw [← HL.out]; exact q1); have B1 : Hid (Below w.heap.size w X1) := q2; have S1 : Hid (X1.heap.size = w.heap.size + 1) := q3; clear q1 q2 q3; simp only [Act.put, List.setIfInBounds_toArray, List.set_cons_zero, List.set_cons_succ])
    | (refine wpList_make1 rfl _ _ rfl 32 32 32 rfl rfl rfl rfl (by decide) ?_; intro X2 q1 q2 q3; have R2' : Hid (Row X2 X1.heap.size (vB (List.replicate 32 0#8)) 5) := q1; have D2' : Hid (Below X1.heap.size X1 X2) := q2; clear q1 q2 q3; simp only [Act.put, List.setIfInBounds_toArray, List.set_cons_zero, List.set_cons_succ]))
  obtain ⟨bq, hbq⟩ : ∃ b, b = w.heap.size := ⟨_, rfl⟩
  obtain ⟨b, hb⟩ : ∃ b, b = X1.heap.size := ⟨_, rfl⟩
  have D2 : Below X1.heap.size X1 X2 := D2'.out
  have R2 : Hid (Row X2 b (vB (List.replicate 32 0#8)) 5) := by rw [hb]; exact R2'.out
  have RQ : Hid (Row X2 bq (vQ am) 38) := by rw [hbq]; exact Row.below R1.out D2 R1.out.lt
  have B2 : Hid (Below w.heap.size w X2) := B1.out.trans (D2.mono B1.out.size)
  have HBB : Hid (bq < b ∧ w.heap.size ≤ b) := by rw [hbq, hb]; have := S1.out; show _ ∧ _; omega
  rw [← hb, ← hbq]
  clear hbq hb D2 R1 B1 S1 R2' D2'
  go_wp2_with fail
  go_loopw [4] (fun v wr => ∃ i : Nat, i ≤ 4 ∧ v = .int .i64 (i : Int) ∧ Hid (Row wr b (vB (gl am 32 (8 * i))) 5) ∧ Hid (Row wr bq (vQ am) 38) ∧ Hid (Below w.heap.size w wr)) (fun v _ => 4 - (intOf v).toNat)
  case atStart => exact ⟨0, Nat.zero_le _, rfl, by rw [Nat.mul_zero, gl_zero]; exact R2, RQ, B2⟩
  case round =>
    clear R2 RQ B2
    obtain ⟨i, hi, rfl, HR, HRQ, HBE⟩ := hrel
    by_cases h4 : i < 4
    · have ci : wr.cell? ⟨bq, i, none⟩ = some (.int .u64 ((am.getD i 0 : Nat) : Int)) := HRQ.out.cell i _ (vQ_at am i (by rw [HAM.out]; exact h4))
      obtain ⟨x0, hx0⟩ : ∃ x, x = am.getD i 0 := ⟨_, rfl⟩
      have HX0 : Hid (x0 = am.getD i 0) := hx0
      have hxb : x0 < 18446744073709551616 := by rw [hx0]; exact HQ.out i
      rw [← hx0] at ci
      clear hx0
      have W0 : Hid (wr.heap.size = wr.heap.size) := rfl
      go_upto_region 7 with fail
      clear ci
      obtain ⟨w1, hw1⟩ : ∃ w1, w1 = wr := ⟨_, rfl⟩
      go_loopw [5, 6] (fun v5 v6 wz => ∃ k : Nat, k ≤ 8 ∧ v5 = .int .u64 ((x0 / 256 ^ k : Nat) : Int) ∧ v6 = .int .i64 (k : Int) ∧ Hid (Row wz b (vB (gl am 32 (8 * i + k))) 5) ∧ Hid (Row wz bq (vQ am) 38) ∧ Hid (Below w.heap.size w wz)) (fun _ v6 _ => 8 - (intOf v6).toNat)
      case atStart => exact ⟨0, Nat.zero_le _, by simp, rfl, HR, HRQ, HBE⟩
      case round =>
        rename_i wz_ _ _
        clear HR HRQ HBE
        obtain ⟨k, hk, rfl, rfl, HR, HRQ, HBE⟩ := hrel
        by_cases h8 : k < 8
        · obtain ⟨xv, hxv⟩ : ∃ xv, xv = x0 / 256 ^ k := ⟨_, rfl⟩
          have HXV : Hid (xv = x0 / 256 ^ k) := hxv
          have hxvb : xv < 18446744073709551616 := by rw [hxv]; exact Nat.lt_of_le_of_lt (Nat.div_le_self _ _) hxb
          obtain ⟨j, hj⟩ : ∃ j, j = 31 - 8 * i - k := ⟨_, rfl⟩
          have ej : (31 : Int) - 8 * (i : Int) - (k : Int) = (j : Int) := by omega
          have hj32 : j < 32 := by omega
          have HJ : Hid (j = 32 - 1 - (8 * i + k)) := by show _ = _; omega
          have HJL : Hid (j < (vB (gl am 32 (8 * i + k))).length) := by show _ < _; rw [vB_length, gl_len]; exact hj32
          rw [← hxv]
          clear hxv hj
          go_wp2_with (refine wpList_set1 rfl 5 (.tmp 28) (.tmp 27) rfl b j (.int .u8 ((xv : Int) % 256)) (vB (gl am 32 (8 * i + k))) 5 rfl rfl rfl HR.out HJL.out info_u1 rfl ?_; intro X5 q1 q2 q3; have R5 : Hid (Row X5 b ((vB (gl am 32 (8 * i + k))).set j (.int .u8 ((xv : Int) % 256))) 5) := q1; have G5 : Hid (Gro (· = b) _ X5) := q2; clear q1 q2 q3; simp only [Act.put])
          have R6 : Hid (Row X5 b (vB (gl am 32 (8 * i + (k + 1)))) 5) := by
            have q := R5.out
            rw [fb_wd am i k h8 _ (by rw [← HX0.out, ← HXV.out]), vB_put, HJ.out, gl_step _ 32 (8 * i + k) (by omega)] at q
            exact q
          have RQ6 : Hid (Row X5 bq (vQ am) 38) := G5.out.row HRQ.out (by have := HBB.out.1; omega)
          have B6 : Hid (Below w.heap.size w X5) := HBE.out.trans (G5.out.to_below HBE.out.size (fun g e => by rw [e]; exact HBB.out.2))
          exact ⟨⟨k + 1, by omega, by rw [Nat.pow_succ, ← Nat.div_div_eq_div_mul, ← HXV.out]; first | rfl | go_num, by first | rfl | go_num, R6, RQ6, B6⟩, by simp [intOf]; omega⟩
        · have ek : k = 8 := by omega
          subst ek
          go_wp2
          exact ⟨⟨i + 1, by omega, by first | rfl | go_num, by rw [show 8 * (i + 1) = 8 * i + 8 by omega]; exact HR, HRQ, HBE⟩, by simp [intOf]; omega⟩
    · have e4 : i = 4 := by omega
      subst e4
      have HF : Hid (Row wr b (vB (pb am 32)) 5) := by have q := HR.out; rw [show 8 * 4 = 32 by decide, gl_full] at q; exact q
      go_wp2
      go_ret
      exact ⟨b, rfl, HF.out, HBB.out.2, HBE.out⟩

end Go.Proofs.YtdicgenhfmhklaaGreatDoor

namespace Go.Proofs.YtdicgenhfmhklaaGreatDoor
open Go Go.RowKit
open Sha

set_option maxRecDepth 100000 in
set_option maxHeartbeats 4000000 in
theorem wide_doc (m0 m1 m2 m3 : Nat) (ha : m0 < 18446744073709551616) (hb : m1 < 18446744073709551616) (hc : m2 < 18446744073709551616) (hd : m3 < 18446744073709551616) (L : List Value) (hL : L = vQ [m0, m1, m2, m3]) (w : World) : Calls Tryz.prog 93 #[.agg L.toArray] w fun e w' => ∃ A c, e = .returned (.slice A (nb m0 m1 m2 m3 + 1) c) ∧ Bw w' (.slice A (nb m0 m1 m2 m3 + 1) c) (fm [m0, m1, m2, m3] (nb m0 m1 m2 m3)) ∧ Fresh w.heap.size (.slice A (nb m0 m1 m2 m3 + 1) c) ∧ Below w.heap.size w w' := by
  have HQ : Hid (m0 < 18446744073709551616 ∧ m1 < 18446744073709551616 ∧ m2 < 18446744073709551616 ∧ m3 < 18446744073709551616) := ⟨ha, hb, hc, hd⟩
  have HPL : Hid (∀ X, Calls Tryz.prog 107 #[.agg L.toArray] X fun e w' => ∃ g, e = .returned (.slice (some ⟨g, 0, none⟩) 32 32) ∧ Row w' g (vB (pb [m0, m1, m2, m3] 32)) 5 ∧ X.heap.size ≤ g ∧ Below X.heap.size X w') := fun X => plain_doc [m0, m1, m2, m3] rfl (fun x hx => by simp at hx; rcases hx with rfl | rfl | rfl | rfl <;> assumption) L hL X
  have HI : Hid ((Tryz.prog.info? 38).map (·.size) = some L.length) := by rw [hL]; exact info_Wd _ rfl
  obtain ⟨k, hk⟩ : ∃ k, k = nb m0 m1 m2 m3 := ⟨_, rfl⟩
  have hk32 : k ≤ 32 := by rw [hk]; exact nb_le _ _ _ _
  have HK : Hid (k = nb m0 m1 m2 m3) := hk
  rw [← hk]
  clear hk ha hb hc hd hL
  go_enter Tryz.func93, Tryz.ntmps93
  go_upto_region 2 with (first
    | (refine wpList_boxG 38 rfl (.tmp 0) rfl L rfl ?_; intro X1 q1 q2 q3; have R1 : Hid (Row X1 w.heap.size L 38) := q1; have B1 : Hid (Below w.heap.size w X1) := q2; clear q1 q2 q3; simp only [Act.put, List.setIfInBounds_toArray, List.set_cons_zero, List.set_cons_succ])
    | (refine wpList_load_w rfl 38 (.tmp 1) rfl w.heap.size 0 rfl L _ R1.out.all Tryz.underlying38 rfl HI.out ?_; simp only [Act.put, List.setIfInBounds_toArray, List.set_cons_zero, List.set_cons_succ])
    | (go_at_call 107; refine Calls.mono (HPL.out X1) ?_; rintro e X2 ⟨b, rfl, q1, q2, q3⟩; have R2 : Hid (Row X2 b (vB (pb [m0, m1, m2, m3] 32)) 5) := q1; have HB0 : Hid (w.heap.size ≤ b) := Nat.le_trans B1.out.size q2; have B2 : Hid (Below w.heap.size w X2) := B1.out.trans (q3.mono B1.out.size); clear q1 q2 q3))
  have HRG : Hid (∀ Y, Below X2.heap.size X2 Y → Y.rangeAt b 0 (vB (pb [m0, m1, m2, m3] 32))) := fun Y hY => range_be R2.out.all hY
  obtain ⟨A1, c1, hSe, hnil, hsl⟩ := bare_sl [m0, m1, m2, m3] 32 k b hk32 _ rfl
  have HBR : Hid (Calls Tryz.prog 106 #[.slice (some ⟨b, 0, none⟩) 32 32] X2 fun e w' => e = .returned (.slice A1 k c1) ∧ w' = X2) := by
    have q := bare_form m0 m1 m2 m3 32 HQ.out.1 HQ.out.2.1 HQ.out.2.2.1 HQ.out.2.2.2 (by decide) (by rw [← HK.out]; exact hk32) b _ rfl X2 (HRG.out X2 (Below.refl _ _))
    rw [← HK.out, hSe] at q
    exact q
  have HSL : Hid (∀ Y, Below X2.heap.size X2 Y → SlAt Y (.slice A1 k c1) (pb [m0, m1, m2, m3] k)) := fun Y hY => hsl Y (HRG.out Y hY)
  have HNL : Hid (A1 = none → c1 = 0) := hnil
  have HK32 : Hid (k ≤ 32) := hk32
  have HKL : Hid (([BitVec.ofNat 8 k] : List (BitVec 8)).length + k ≤ 140737488355328) := by show _ ≤ _; simp; omega
  clear hSe hnil hsl R1 B1
  go_wp2_with (first
    | (go_at_call 106; refine Calls.mono HBR.out ?_; rintro e X ⟨rfl, hq⟩; obtain rfl := hq.symm)
    | (refine wpList_buildOne 54 5 Tryz.underlying54 u8_open4 rfl (.tmp 12) rfl (.int .u8 (k : Int)) rfl rfl ?_; intro X3 q1 q2 q3; have W3 : Hid (Bw X3 (.slice (some ⟨X2.heap.size, 0, none⟩) 1 1) [BitVec.ofNat 8 k]) := one_bw HK32.out q1; have D3 : Hid (Below X2.heap.size X2 X3) := q2; clear q1 q2 q3; simp only [Act.put, List.setIfInBounds_toArray, List.set_cons_zero, List.set_cons_succ])
    | (refine wpList_app rfl (.tmp 14) (.tmp 15) rfl (.slice (some ⟨X2.heap.size, 0, none⟩) 1 1) [BitVec.ofNat 8 k] (pb [m0, m1, m2, m3] k) rfl W3.out A1 k c1 (pb_len _ _) rfl (HSL.out X3 D3.out) HNL.out HKL.out ?_; intro v4 X4 q1 q2 q3; have W4 : Hid (Bw X4 v4 ([BitVec.ofNat 8 k] ++ pb [m0, m1, m2, m3] k)) := q1; have G4 : Hid (X3.grownBy X4 (Value.slice (some ⟨X2.heap.size, 0, none⟩) 1 1).ownBlock) := q2; have O4 : Hid (v4.ownBlock = (Value.slice (some ⟨X2.heap.size, 0, none⟩) 1 1).ownBlock ∨ v4.ownBlock = some X3.heap.size) := q3; clear q1 q2 q3; simp only [Act.put, List.setIfInBounds_toArray, List.set_cons_zero, List.set_cons_succ]))
  go_ret
  obtain ⟨A3, c3, e3, _, _⟩ := Bw.form W4.out
  have hl3 : ([BitVec.ofNat 8 k] ++ pb [m0, m1, m2, m3] k).length = k + 1 := by rw [List.length_append, pb_len]; simp; omega
  rw [hl3] at e3
  subst e3
  refine ⟨A3, c3, rfl, W4.out, ?_, ?_⟩
  · intro g e
    rcases O4.out with h | h
    · rw [h] at e
      simp [Value.ownBlock] at e
      have := B2.out.size
      omega
    · rw [h] at e; cases e; exact Nat.le_trans B2.out.size D3.out.size
  · exact below_gb (B2.out.trans (D3.out.mono B2.out.size)) G4.out (fun g e => by simp [Value.ownBlock] at e; have := B2.out.size; omega)
/-- The document's writer: what was laid, and the fault. -/
structure Dw (w0 w : World) (Dp : Nat) (v : Value) (bs : List (BitVec 8)) (E : Int) : Prop where
  row : Row w Dp [v, .int .i64 E] 117
  bw : Bw w v bs
  fr : Fresh w0.heap.size v
  d0 : w0.heap.size ≤ Dp
  be : Below w0.heap.size w0 w
theorem Dw.keep {w0 w w' : World} {Dp : Nat} {v : Value} {bs : List (BitVec 8)} {E : Int} (h : Dw w0 w Dp v bs E) (k : Below w.heap.size w w') : Dw w0 w' Dp v bs E :=
  ⟨Row.below h.row k h.row.lt, Bw.be h.bw k, h.fr, h.d0, h.be.trans (k.mono h.be.size)⟩
theorem info_sl1 : (Tryz.prog.info? 54).map (·.size) = some 1 := by kernel_rfl
set_option maxRecDepth 100000 in
set_option maxHeartbeats 4000000 in
theorem lay_doc (w0 : World) (Dp : Nat) (v : Value) (bs : List (BitVec 8)) (E : Int) (d : List (BitVec 8)) (A : Option Addr) (n cap : Nat) (hn : d.length = n) (hnil : A = none → cap = 0) (hs : bs.length + n ≤ 4194304) (w : World) (h : Dw w0 w Dp v bs E) (hd : ∀ W, Below w.heap.size w W → SlAt W (.slice A n cap) d) :
    Calls Tryz.prog 91 #[.pointer (some ⟨Dp, 0, none⟩), .slice A n cap] w fun e w' => e = .returned (.tuple #[]) ∧ ∃ v', Dw w0 w' Dp v' (if E = 0 then bs ++ d else bs) E ∧ Gro (fun g => g = Dp ∨ v.ownBlock = some g) w w' := by
  have HH : Hid (Dw w0 w Dp v bs E) := h
  obtain ⟨Av, cv, hv, hvc, _⟩ := Bw.form h.bw
  subst hv
  have c0 := h.row.cell 0 _ rfl
  have c1 := h.row.cell 1 _ rfl
  obtain ⟨N, hN⟩ : ∃ N, N = bs.length := ⟨_, rfl⟩
  have HNN : Hid (N = bs.length) := hN
  rw [← hN] at c0
  by_cases hE : E = 0
  · have HW : Hid (Bw w (.slice Av N cv) bs) := by rw [hN]; exact h.bw
    have HSD : Hid (SlAt w (.slice A n cap) d) := hd w (Below.refl _ _)
    have HNL : Hid (A = none → cap = 0) := hnil
    have HDN : Hid (d.length = n) := hn
    have HKL : Hid (bs.length + n ≤ 140737488355328) := by show _ ≤ _; omega
    have el : ¬ ((4194304 : Int) < (N : Int) + (n : Int)) := by omega
    have hN2 : N ≤ 4194304 := by omega
    have hn2 : n ≤ 4194304 := by omega
    have HR : Hid (Row w Dp [.slice Av N cv, .int .i64 0] 117) := by rw [hN, ← hE]; exact h.row
    subst hE
    clear h hd hnil hn hs hN hvc
    go_enter Tryz.func91, Tryz.ntmps91
    go_wp2_with (first
      | (refine wpList_app rfl (.tmp 25) (.tmp 26) rfl (.slice Av N cv) bs d rfl HW.out A n cap HDN.out rfl HSD.out HNL.out HKL.out ?_; intro v4 X4 q1 q2 q3; have W4 : Hid (Bw X4 v4 (bs ++ d)) := q1; have G4 : Hid (w.grownBy X4 (Value.slice Av N cv).ownBlock) := q2; have O4 : Hid (v4.ownBlock = (Value.slice Av N cv).ownBlock ∨ v4.ownBlock = some w.heap.size) := q3; have R4 : Hid (Row X4 Dp [.slice Av N cv, .int .i64 0] 117) := row_gb HR.out q2 (some_ne (Bw.ne HW.out HR.out (by decide))); clear q1 q2 q3; obtain ⟨A5, c5, e5, _, _⟩ := Bw.form W4.out; subst e5; simp only [Act.put, List.setIfInBounds_toArray, List.set_cons_zero, List.set_cons_succ])
      | (refine wpList_set1 rfl 54 (.tmp 29) (.tmp 27) rfl Dp 0 (.slice A5 (bs ++ d).length c5) [.slice Av N cv, .int .i64 0] 117 rfl rfl rfl R4.out (Nat.succ_pos _) info_sl1 rfl ?_; intro X6 q1 q2 q3; have R6 : Hid (Row X6 Dp [.slice A5 (bs ++ d).length c5, .int .i64 0] 117) := q1; have G6 : Hid (Gro (· = Dp) X4 X6) := q2; clear q1 q2 q3; simp only [Act.put]))
    go_end0
    have hG : Gro (fun g => g = Dp ∨ (Value.slice Av N cv).ownBlock = some g) w X6 := Gro.trans (Gro.grown (Gro.refl _ _) G4.out (fun g e => .inl (.inr e))) (Gro.mono G6.out (fun g e => .inl e))
    refine ⟨rfl, ⟨.slice A5 (bs ++ d).length c5, ⟨R6.out, ?_, ?_, HH.out.d0, ?_⟩⟩, by rw [← HNN.out]; exact hG⟩
    · exact Bw.gro W4.out G6.out (Bw.ne W4.out R4.out (by decide))
    · intro g e
      rcases O4.out with q | q
      · exact HH.out.fr g (by rw [← HNN.out, ← q]; exact e)
      · rw [q] at e; cases e; exact HH.out.be.size
    · refine HH.out.be.trans (hG.to_below HH.out.be.size (fun g q => ?_))
      rcases q with q | q
      · rw [q]; exact HH.out.d0
      · exact HH.out.fr g (by rw [← HNN.out]; exact q)
  · have ex : (E != 0) = true := by simpa using hE
    have HE : Hid (¬ E = 0) := hE
    clear h hd hnil hn hs hN hvc hE
    go_enter Tryz.func91, Tryz.ntmps91
    go_wp2
    refine bodyPost_ret (results_none rfl _ _ _) rfl ?_
    exact ⟨rfl, ⟨_, HH.out⟩, Gro.refl _ _⟩

end Go.Proofs.YtdicgenhfmhklaaGreatDoor

namespace Go.Proofs.YtdicgenhfmhklaaGreatDoor
open Go Go.RowKit
open Sha

def dB (bs : List (BitVec 8)) (E : Int) (d : List (BitVec 8)) : List (BitVec 8) := if E = 0 then bs ++ d else bs
def dnE (E n : Int) : Int := if E = 0 then (if n < 0 then 32 else 0) else E
def dnB (bs : List (BitVec 8)) (E n : Int) : List (BitVec 8) := if E = 0 ∧ 0 ≤ n then bs ++ nf n else bs
theorem dB_len (bs : List (BitVec 8)) (E : Int) (d : List (BitVec 8)) : (dB bs E d).length ≤ bs.length + d.length := by
  unfold dB
  split
  · rw [List.length_append]; exact Nat.le_refl _
  · omega
theorem dnB_len (bs : List (BitVec 8)) (E n : Int) : (dnB bs E n).length ≤ bs.length + 33 := by
  have := nf_len n
  unfold dnB
  split
  · rw [List.length_append]; omega
  · omega
set_option maxRecDepth 100000 in
set_option maxHeartbeats 4000000 in
theorem dw_byte (w0 : World) (Dp : Nat) (v : Value) (bs : List (BitVec 8)) (E : Int) (hs : bs.length ≤ 1000000) (x : BitVec 8) (y : Int) (hy : y = c x) (w : World) (h : Dw w0 w Dp v bs E) : Calls Tryz.prog 68 #[.pointer (some ⟨Dp, 0, none⟩), .int .u8 y] w fun e w' => e = .returned (.tuple #[]) ∧ ∃ v', Dw w0 w' Dp v' (dB bs E [x]) E := by
  have HH : Hid (Dw w0 w Dp v bs E) := h
  have HY : Hid (y = c x) := hy
  have HS : Hid (bs.length + 1 ≤ 4194304) := by show _ ≤ _; omega
  clear h hy hs
  go_enter Tryz.func68, Tryz.ntmps68
  go_wp2_with (first
    | (refine wpList_buildOne 54 5 Tryz.underlying54 u8_open4 rfl (.tmp 5) rfl (.int .u8 y) rfl rfl ?_; intro X1 q1 q2 q3; have C1 : Hid _ := lay_doc w0 Dp v bs E [x] (some ⟨w.heap.size, 0, none⟩) 1 1 rfl (fun hh => by cases hh) HS.out X1 (HH.out.keep q2) (fun W hW => sl_row (d := [x]) (by have r := Row.below q1 hW q1.lt; rw [HY.out] at r; exact r)); clear q1 q2 q3; simp only [Act.put, List.setIfInBounds_toArray, List.set_cons_zero, List.set_cons_succ])
    | (go_at_call 91; refine Calls.mono C1.out ?_; rintro e X2 ⟨rfl, v2, q, _⟩; have D2 : Hid (Dw w0 X2 Dp v2 (dB bs E [x]) E) := q; clear q))
  go_end0
  exact ⟨rfl, _, D2.out⟩
set_option maxRecDepth 100000 in
set_option maxHeartbeats 4000000 in
theorem dw_address (w0 : World) (Dp : Nat) (v : Value) (bs : List (BitVec 8)) (E : Int) (hs : bs.length ≤ 1000000) (d : List (BitVec 8)) (hd : d.length = 20) (w : World) (h : Dw w0 w Dp v bs E) : Calls Tryz.prog 70 #[.pointer (some ⟨Dp, 0, none⟩), .agg (vB d).toArray] w fun e w' => e = .returned (.tuple #[]) ∧ ∃ v', Dw w0 w' Dp v' (dB bs E d) E := by
  have HH : Hid (Dw w0 w Dp v bs E) := h
  have HD : Hid (d.length = 20) := hd
  have HS : Hid (bs.length + 20 ≤ 4194304) := by show _ ≤ _; omega
  obtain ⟨L, hL⟩ : ∃ L, L = vB d := ⟨_, rfl⟩
  have HL : Hid (L = vB d) := hL
  rw [← hL]
  clear h hd hs hL
  go_enter Tryz.func70, Tryz.ntmps70
  go_wp2_with (first
    | (refine wpList_boxG 35 rfl (.tmp 1) rfl L rfl ?_; intro X1 q1 q2 q3; rw [HL.out] at q1; have C1 : Hid _ := lay_doc w0 Dp v bs E d (some ⟨w.heap.size, 0, none⟩) 20 20 HD.out (fun hh => by cases hh) HS.out X1 (HH.out.keep q2) (fun W hW => by have r := sl_row (Row.below q1 hW q1.lt); rw [HD.out] at r; exact r); clear q1 q2 q3; simp only [Act.put, List.setIfInBounds_toArray, List.set_cons_zero, List.set_cons_succ])
    | (refine wpList_slice_all rfl 35 5 20 (.tmp 3) w.heap.size 0 rfl rfl Tryz.underlying35 info_u1 ?_; simp only [Act.put, List.setIfInBounds_toArray, List.set_cons_zero, List.set_cons_succ])
    | (go_at_call 91; refine Calls.mono C1.out ?_; rintro e X2 ⟨rfl, v2, q, _⟩; have D2 : Hid (Dw w0 X2 Dp v2 (dB bs E d) E) := q; clear q))
  go_end0
  exact ⟨rfl, _, D2.out⟩
set_option maxRecDepth 100000 in
set_option maxHeartbeats 4000000 in
theorem dw_wide (w0 : World) (Dp : Nat) (v : Value) (bs : List (BitVec 8)) (E : Int) (hs : bs.length ≤ 1000000) (am : List Nat) (ham : am.length = 4) (hq4 : ∀ x ∈ am, x < 18446744073709551616) (w : World) (h : Dw w0 w Dp v bs E) : Calls Tryz.prog 71 #[.pointer (some ⟨Dp, 0, none⟩), .agg (vQ am).toArray] w fun e w' => e = .returned (.tuple #[]) ∧ ∃ v', Dw w0 w' Dp v' (dB bs E (wf am)) E := by
  obtain ⟨m0, m1, m2, m3, rfl⟩ : ∃ m0 m1 m2 m3, am = [m0, m1, m2, m3] := by
    rcases am with _ | ⟨m0, _ | ⟨m1, _ | ⟨m2, _ | ⟨m3, _ | ⟨m4, r⟩⟩⟩⟩⟩
    all_goals first | exact ⟨_, _, _, _, rfl⟩ | (simp at ham)
  have HH : Hid (Dw w0 w Dp v bs E) := h
  obtain ⟨L, hL⟩ : ∃ L, L = vQ [m0, m1, m2, m3] := ⟨_, rfl⟩
  obtain ⟨k, hk⟩ : ∃ k, k = nb m0 m1 m2 m3 := ⟨_, rfl⟩
  have HK : Hid (k = nb m0 m1 m2 m3) := hk
  have HS : Hid (bs.length + (k + 1) ≤ 4194304) := by show _ ≤ _; have := nb_le m0 m1 m2 m3; omega
  have HWD : Hid (∀ X, Calls Tryz.prog 93 #[.agg L.toArray] X fun e w' => ∃ A c, e = .returned (.slice A (k + 1) c) ∧ Bw w' (.slice A (k + 1) c) (wf [m0, m1, m2, m3]) ∧ Fresh X.heap.size (.slice A (k + 1) c) ∧ Below X.heap.size X w') := fun X => by rw [hk]; exact wide_doc m0 m1 m2 m3 (hq4 _ (by simp)) (hq4 _ (by simp)) (hq4 _ (by simp)) (hq4 _ (by simp)) L hL X
  have HI : Hid ((Tryz.prog.info? 38).map (·.size) = some L.length) := by rw [hL]; exact info_Wd _ rfl
  have HWL : Hid ((wf [m0, m1, m2, m3]).length = k + 1) := by show _ = _; rw [hk]; exact fm_len _ _
  rw [← hL]
  clear h hs hL hk ham hq4
  go_enter Tryz.func71, Tryz.ntmps71
  go_wp2_with (first
    | (refine wpList_boxG 38 rfl (.tmp 1) rfl L rfl ?_; intro X1 q1 q2 q3; have R1 : Hid (Row X1 w.heap.size L 38) := q1; have D1 : Hid (Dw w0 X1 Dp v bs E) := HH.out.keep q2; clear q1 q2 q3; simp only [Act.put, List.setIfInBounds_toArray, List.set_cons_zero, List.set_cons_succ])
    | (refine wpList_load_w rfl 38 (.tmp 3) rfl w.heap.size 0 rfl L _ R1.out.all Tryz.underlying38 rfl HI.out ?_; simp only [Act.put, List.setIfInBounds_toArray, List.set_cons_zero, List.set_cons_succ])
    | (go_at_call 93; refine Calls.mono (HWD.out X1) ?_; rintro e X2 ⟨A2, c2, rfl, q1, q2, q3⟩; obtain ⟨_, _, e2, _, n2⟩ := Bw.form q1; rw [HWL.out] at e2; simp only [Value.slice.injEq] at e2; obtain ⟨rfl, _, rfl⟩ := e2; have C2 : Hid _ := lay_doc w0 Dp v bs E (wf [m0, m1, m2, m3]) A2 (k + 1) c2 HWL.out n2 HS.out X2 (D1.out.keep q3) (fun W hW => Bw.sl (Bw.be q1 hW)); clear q1 q2 q3 n2)
    | (go_at_call 91; refine Calls.mono C2.out ?_; rintro e X3 ⟨rfl, v3, q, _⟩; have D3 : Hid (Dw w0 X3 Dp v3 (dB bs E (wf [m0, m1, m2, m3])) E) := q; clear q))
  go_end0
  exact ⟨rfl, _, D3.out⟩
set_option maxRecDepth 100000 in
set_option maxHeartbeats 4000000 in
theorem dw_number (w0 : World) (Dp : Nat) (v : Value) (bs : List (BitVec 8)) (E : Int) (hs : bs.length ≤ 1000000) (n : Int) (hn : n < 9223372036854775808) (w : World) (h : Dw w0 w Dp v bs E) : Calls Tryz.prog 69 #[.pointer (some ⟨Dp, 0, none⟩), .int .i64 n] w fun e w' => e = .returned (.tuple #[]) ∧ ∃ v', Dw w0 w' Dp v' (dnB bs E n) (dnE E n) := by
  have HH : Hid (Dw w0 w Dp v bs E) := h
  have c1 := h.row.cell 1 _ rfl
  by_cases hE : E = 0
  · subst hE
    by_cases hn0 : n < 0
    · have HR : Hid (Row w Dp [v, .int .i64 0] 117) := h.row
      have e1 : Hid (dnB bs 0 n = bs ∧ dnE 0 n = 32) := ⟨by unfold dnB; rw [if_neg (by omega)], by unfold dnE; rw [if_pos rfl, if_pos hn0]⟩
      clear h hs hn
      go_enter Tryz.func69, Tryz.ntmps69
      go_wp2_with (refine wpList_set1 rfl 45 (.tmp 13) _ rfl Dp 1 (.int .i64 32) [v, .int .i64 0] 117 rfl rfl rfl HR.out (by decide : 1 < 2) (by kernel_rfl) rfl ?_; intro X6 q1 q2 q3; have R6 : Hid (Row X6 Dp [v, .int .i64 32] 117) := q1; have G6 : Hid (Gro (· = Dp) w X6) := q2; clear q1 q2 q3; simp only [Act.put])
      refine bodyPost_ret (results_none rfl _ _ _) rfl ?_
      refine ⟨rfl, v, ?_⟩
      rw [e1.out.1, e1.out.2]
      exact ⟨R6.out, Bw.gro HH.out.bw G6.out (Bw.ne HH.out.bw HR.out (by decide)), HH.out.fr, HH.out.d0, HH.out.be.trans (G6.out.to_below HH.out.be.size (fun g e => by rw [e]; exact HH.out.d0))⟩
    · obtain ⟨m, rfl⟩ : ∃ m : Nat, n = (m : Int) := ⟨n.toNat, by omega⟩
      obtain ⟨k, hk⟩ : ∃ k, k = nb m 0 0 0 := ⟨_, rfl⟩
      have HND : Hid (∀ X, Calls Tryz.prog 92 #[.int .i64 (m : Int)] X fun e w' => ∃ A c, e = .returned (.slice A (k + 1) c) ∧ Bw w' (.slice A (k + 1) c) (nf (m : Int)) ∧ Fresh X.heap.size (.slice A (k + 1) c) ∧ Below X.heap.size X w') := fun X => by rw [hk]; exact number_doc m (by omega) X
      have HWL : Hid ((nf (m : Int)).length = k + 1) := by show _ = _; rw [hk]; exact fm_len _ _
      have HS : Hid (bs.length + (k + 1) ≤ 4194304) := by show _ ≤ _; have := nb_le m 0 0 0; omega
      have e1 : Hid (dnB bs 0 (m : Int) = dB bs 0 (nf (m : Int)) ∧ dnE 0 (m : Int) = 0) := ⟨by unfold dnB dB; rw [if_pos ⟨rfl, by omega⟩, if_pos rfl], by unfold dnE; rw [if_pos rfl, if_neg hn0]⟩
      clear h hs hn hk
      go_enter Tryz.func69, Tryz.ntmps69
      go_wp2_with (first
        | (go_at_call 92; refine Calls.mono (HND.out w) ?_; rintro e X2 ⟨A2, c2, rfl, q1, q2, q3⟩; obtain ⟨_, _, e2, _, n2⟩ := Bw.form q1; rw [HWL.out] at e2; simp only [Value.slice.injEq] at e2; obtain ⟨rfl, _, rfl⟩ := e2; have C2 : Hid _ := lay_doc w0 Dp v bs 0 (nf (m : Int)) A2 (k + 1) c2 HWL.out n2 HS.out X2 (HH.out.keep q3) (fun W hW => Bw.sl (Bw.be q1 hW)); clear q1 q2 q3 n2)
        | (go_at_call 91; refine Calls.mono C2.out ?_; rintro e X3 ⟨rfl, v3, q, _⟩; have D3 : Hid (Dw w0 X3 Dp v3 (dB bs 0 (nf (m : Int))) 0) := q; clear q))
      first | go_end0 | refine bodyPost_ret (results_none rfl _ _ _) rfl ?_
      exact ⟨rfl, v3, by rw [e1.out.1, e1.out.2]; exact D3.out⟩
  · have ex : (E != 0) = true := by simpa using hE
    have e1 : Hid (dnB bs E n = bs ∧ dnE E n = E) := ⟨by unfold dnB; rw [if_neg (fun q => hE q.1)], by unfold dnE; rw [if_neg hE]⟩
    clear h hs hn hE
    go_enter Tryz.func69, Tryz.ntmps69
    go_wp2
    refine bodyPost_ret (results_none rfl _ _ _) rfl ?_
    exact ⟨rfl, v, by rw [e1.out.1, e1.out.2]; exact HH.out⟩

end Go.Proofs.YtdicgenhfmhklaaGreatDoor

namespace Go.Proofs.YtdicgenhfmhklaaGreatDoor
open Go Go.RowKit
open Sha

set_option maxRecDepth 100000 in
set_option maxHeartbeats 4000000 in
theorem may_doc (ix en tk : Int) (rc : List (BitVec 8)) (am : List Nat) (hto : rc.length = 20) (ham : am.length = 4) (L : List Value) (hL : L = lf ix en tk rc am) (w : World) : Calls Tryz.prog 38 #[.agg L.toArray] w fun e w' => e = .returned (.bool (may ix en tk am)) ∧ Below w.heap.size w w' := by
  have HL : Hid (L = lf ix en tk rc am) := hL
  have HTO : Hid (rc.length = 20) := hto
  have HAM : Hid (am.length = 4) := ham
  have HI : Hid ((Tryz.prog.info? 38).map (·.size) = some (vQ am).length) := info_Wd am ham
  obtain ⟨B, hB⟩ : ∃ B, B = decide (am = (List.replicate 4 0)) := ⟨_, rfl⟩
  have HB : Hid (decide (am = (List.replicate 4 0)) = B) := hB.symm
  have HNO : Hid (¬ (0 ≤ ix ∧ ix < 1099511627776 ∧ 0 ≤ en ∧ en < 1099511627776 ∧ 0 ≤ tk ∧ tk < 64) → may ix en tk am = false) := fun h => decide_eq_false (fun q => h ⟨q.1, q.2.1, q.2.2.1, q.2.2.2.1, q.2.2.2.2.1, q.2.2.2.2.2.1⟩)
  clear hL hto ham
  by_cases hall : 0 ≤ ix ∧ ix < 1099511627776 ∧ 0 ≤ en ∧ en < 1099511627776 ∧ 0 ≤ tk ∧ tk < 64
  · have HY : Hid (may ix en tk am = !B) := by
      show _ = _
      unfold may
      rw [hB]
      cases hd : decide (am = List.replicate 4 0) with
      | true => exact decide_eq_false (fun q => q.2.2.2.2.2.2 (of_decide_eq_true hd))
      | false => exact decide_eq_true ⟨hall.1, hall.2.1, hall.2.2.1, hall.2.2.2.1, hall.2.2.2.2.1, hall.2.2.2.2.2, of_decide_eq_false hd⟩
    obtain ⟨h1, h2, h3, h4, h5, h6⟩ := hall
    clear hB HNO
    go_enter Tryz.func38, Tryz.ntmps38
    go_wp2_with (first
      | (refine wpList_boxG 40 rfl (.tmp 0) rfl L rfl ?_; intro X q1 q2 q3; rw [HL.out] at q1; have c0 := q1.cell 0 _ rfl; have c1 := q1.cell 1 _ rfl; have c2 := q1.cell 2 _ rfl; have RA : Hid (X.rangeAt w.heap.size 23 (vQ am)) := lf_ram HTO.out q1; have B1 : Hid (Below w.heap.size w X) := q2; clear q1 q2 q3; simp only [Act.put, List.setIfInBounds_toArray, List.set_cons_zero, List.set_cons_succ])
      | (refine wpList_load_w rfl 38 (.tmp 32) rfl w.heap.size 23 rfl (vQ am) _ RA.out Tryz.underlying38 rfl HI.out ?_; simp only [Act.put, List.setIfInBounds_toArray, List.set_cons_zero, List.set_cons_succ])
      | (refine wpList_neq_q rfl (.tmp 33) (.tmp 34) _ rfl am (List.replicate 4 0) HAM.out rfl rfl rfl (!B) (congrArg not HB.out) ?_; simp only [Act.put, List.setIfInBounds_toArray, List.set_cons_zero, List.set_cons_succ]))
    go_ret
    exact ⟨by first | (rw [HY.out]; rfl) | rw [HY.out] | simp [HY.out], B1.out⟩
  · have HF : Hid (may ix en tk am = false) := HNO.out hall
    clear hB HNO
    by_cases lix : ¬ 0 ≤ ix
    · clear hall
      go_enter Tryz.func38, Tryz.ntmps38
      go_wp2_with (first
        | (refine wpList_boxG 40 rfl (.tmp 0) rfl L rfl ?_; intro X q1 q2 q3; rw [HL.out] at q1; have c0 := q1.cell 0 _ rfl; have c1 := q1.cell 1 _ rfl; have c2 := q1.cell 2 _ rfl; have RA : Hid (X.rangeAt w.heap.size 23 (vQ am)) := lf_ram HTO.out q1; have B1 : Hid (Below w.heap.size w X) := q2; clear q1 q2 q3; simp only [Act.put, List.setIfInBounds_toArray, List.set_cons_zero, List.set_cons_succ])
        | (refine wpList_load_w rfl 38 (.tmp 32) rfl w.heap.size 23 rfl (vQ am) _ RA.out Tryz.underlying38 rfl HI.out ?_; simp only [Act.put, List.setIfInBounds_toArray, List.set_cons_zero, List.set_cons_succ])
        | (refine wpList_neq_q rfl (.tmp 33) (.tmp 34) _ rfl am (List.replicate 4 0) HAM.out rfl rfl rfl (!B) (congrArg not HB.out) ?_; simp only [Act.put, List.setIfInBounds_toArray, List.set_cons_zero, List.set_cons_succ]))
      go_ret
      exact ⟨by rw [HF.out]; rfl, B1.out⟩
    replace lix := Classical.not_not.1 lix
    by_cases uix : ¬ ix < 1099511627776
    · clear hall
      go_enter Tryz.func38, Tryz.ntmps38
      go_wp2_with (first
        | (refine wpList_boxG 40 rfl (.tmp 0) rfl L rfl ?_; intro X q1 q2 q3; rw [HL.out] at q1; have c0 := q1.cell 0 _ rfl; have c1 := q1.cell 1 _ rfl; have c2 := q1.cell 2 _ rfl; have RA : Hid (X.rangeAt w.heap.size 23 (vQ am)) := lf_ram HTO.out q1; have B1 : Hid (Below w.heap.size w X) := q2; clear q1 q2 q3; simp only [Act.put, List.setIfInBounds_toArray, List.set_cons_zero, List.set_cons_succ])
        | (refine wpList_load_w rfl 38 (.tmp 32) rfl w.heap.size 23 rfl (vQ am) _ RA.out Tryz.underlying38 rfl HI.out ?_; simp only [Act.put, List.setIfInBounds_toArray, List.set_cons_zero, List.set_cons_succ])
        | (refine wpList_neq_q rfl (.tmp 33) (.tmp 34) _ rfl am (List.replicate 4 0) HAM.out rfl rfl rfl (!B) (congrArg not HB.out) ?_; simp only [Act.put, List.setIfInBounds_toArray, List.set_cons_zero, List.set_cons_succ]))
      go_ret
      exact ⟨by rw [HF.out]; rfl, B1.out⟩
    replace uix := Classical.not_not.1 uix
    by_cases len : ¬ 0 ≤ en
    · clear hall
      go_enter Tryz.func38, Tryz.ntmps38
      go_wp2_with (first
        | (refine wpList_boxG 40 rfl (.tmp 0) rfl L rfl ?_; intro X q1 q2 q3; rw [HL.out] at q1; have c0 := q1.cell 0 _ rfl; have c1 := q1.cell 1 _ rfl; have c2 := q1.cell 2 _ rfl; have RA : Hid (X.rangeAt w.heap.size 23 (vQ am)) := lf_ram HTO.out q1; have B1 : Hid (Below w.heap.size w X) := q2; clear q1 q2 q3; simp only [Act.put, List.setIfInBounds_toArray, List.set_cons_zero, List.set_cons_succ])
        | (refine wpList_load_w rfl 38 (.tmp 32) rfl w.heap.size 23 rfl (vQ am) _ RA.out Tryz.underlying38 rfl HI.out ?_; simp only [Act.put, List.setIfInBounds_toArray, List.set_cons_zero, List.set_cons_succ])
        | (refine wpList_neq_q rfl (.tmp 33) (.tmp 34) _ rfl am (List.replicate 4 0) HAM.out rfl rfl rfl (!B) (congrArg not HB.out) ?_; simp only [Act.put, List.setIfInBounds_toArray, List.set_cons_zero, List.set_cons_succ]))
      go_ret
      exact ⟨by rw [HF.out]; rfl, B1.out⟩
    replace len := Classical.not_not.1 len
    by_cases uen : ¬ en < 1099511627776
    · clear hall
      go_enter Tryz.func38, Tryz.ntmps38
      go_wp2_with (first
        | (refine wpList_boxG 40 rfl (.tmp 0) rfl L rfl ?_; intro X q1 q2 q3; rw [HL.out] at q1; have c0 := q1.cell 0 _ rfl; have c1 := q1.cell 1 _ rfl; have c2 := q1.cell 2 _ rfl; have RA : Hid (X.rangeAt w.heap.size 23 (vQ am)) := lf_ram HTO.out q1; have B1 : Hid (Below w.heap.size w X) := q2; clear q1 q2 q3; simp only [Act.put, List.setIfInBounds_toArray, List.set_cons_zero, List.set_cons_succ])
        | (refine wpList_load_w rfl 38 (.tmp 32) rfl w.heap.size 23 rfl (vQ am) _ RA.out Tryz.underlying38 rfl HI.out ?_; simp only [Act.put, List.setIfInBounds_toArray, List.set_cons_zero, List.set_cons_succ])
        | (refine wpList_neq_q rfl (.tmp 33) (.tmp 34) _ rfl am (List.replicate 4 0) HAM.out rfl rfl rfl (!B) (congrArg not HB.out) ?_; simp only [Act.put, List.setIfInBounds_toArray, List.set_cons_zero, List.set_cons_succ]))
      go_ret
      exact ⟨by rw [HF.out]; rfl, B1.out⟩
    replace uen := Classical.not_not.1 uen
    by_cases ltk : ¬ 0 ≤ tk
    · clear hall
      go_enter Tryz.func38, Tryz.ntmps38
      go_wp2_with (first
        | (refine wpList_boxG 40 rfl (.tmp 0) rfl L rfl ?_; intro X q1 q2 q3; rw [HL.out] at q1; have c0 := q1.cell 0 _ rfl; have c1 := q1.cell 1 _ rfl; have c2 := q1.cell 2 _ rfl; have RA : Hid (X.rangeAt w.heap.size 23 (vQ am)) := lf_ram HTO.out q1; have B1 : Hid (Below w.heap.size w X) := q2; clear q1 q2 q3; simp only [Act.put, List.setIfInBounds_toArray, List.set_cons_zero, List.set_cons_succ])
        | (refine wpList_load_w rfl 38 (.tmp 32) rfl w.heap.size 23 rfl (vQ am) _ RA.out Tryz.underlying38 rfl HI.out ?_; simp only [Act.put, List.setIfInBounds_toArray, List.set_cons_zero, List.set_cons_succ])
        | (refine wpList_neq_q rfl (.tmp 33) (.tmp 34) _ rfl am (List.replicate 4 0) HAM.out rfl rfl rfl (!B) (congrArg not HB.out) ?_; simp only [Act.put, List.setIfInBounds_toArray, List.set_cons_zero, List.set_cons_succ]))
      go_ret
      exact ⟨by rw [HF.out]; rfl, B1.out⟩
    replace ltk := Classical.not_not.1 ltk
    by_cases utk : ¬ tk < 64
    · clear hall
      go_enter Tryz.func38, Tryz.ntmps38
      go_wp2_with (first
        | (refine wpList_boxG 40 rfl (.tmp 0) rfl L rfl ?_; intro X q1 q2 q3; rw [HL.out] at q1; have c0 := q1.cell 0 _ rfl; have c1 := q1.cell 1 _ rfl; have c2 := q1.cell 2 _ rfl; have RA : Hid (X.rangeAt w.heap.size 23 (vQ am)) := lf_ram HTO.out q1; have B1 : Hid (Below w.heap.size w X) := q2; clear q1 q2 q3; simp only [Act.put, List.setIfInBounds_toArray, List.set_cons_zero, List.set_cons_succ])
        | (refine wpList_load_w rfl 38 (.tmp 32) rfl w.heap.size 23 rfl (vQ am) _ RA.out Tryz.underlying38 rfl HI.out ?_; simp only [Act.put, List.setIfInBounds_toArray, List.set_cons_zero, List.set_cons_succ])
        | (refine wpList_neq_q rfl (.tmp 33) (.tmp 34) _ rfl am (List.replicate 4 0) HAM.out rfl rfl rfl (!B) (congrArg not HB.out) ?_; simp only [Act.put, List.setIfInBounds_toArray, List.set_cons_zero, List.set_cons_succ]))
      go_ret
      exact ⟨by rw [HF.out]; rfl, B1.out⟩
    replace utk := Classical.not_not.1 utk
    exact absurd ⟨lix, uix, len, uen, ltk, utk⟩ hall
/-- What the document's Form lays, of any values. -/
def fmE1 (ix : Int) : Int := dnE 0 ix
def fmE2 (ix en : Int) : Int := dnE (fmE1 ix) en
def fmE3 (ix en tk : Int) : Int := dnE (fmE2 ix en) tk
def fmB1 (ix : Int) : List (BitVec 8) := dnB (dB [] 0 [76#8]) 0 ix
def fmB2 (ix en : Int) : List (BitVec 8) := dnB (fmB1 ix) (fmE1 ix) en
def fmB3 (ix en tk : Int) : List (BitVec 8) := dnB (fmB2 ix en) (fmE2 ix en) tk
def fmB4 (ix en tk : Int) (rc : List (BitVec 8)) : List (BitVec 8) := dB (fmB3 ix en tk) (fmE3 ix en tk) rc
def formB (ix en tk : Int) (rc : List (BitVec 8)) (am : List Nat) : List (BitVec 8) := dB (fmB4 ix en tk rc) (fmE3 ix en tk) (wf am)
theorem formB_may (ix en tk : Int) (rc : List (BitVec 8)) (am : List Nat) (h : may ix en tk am = true) : formB ix en tk rc am = lfb ix en tk rc am := by
  obtain ⟨h1, _, h3, _, h5, _⟩ := may_in h
  have e1 : fmE1 ix = 0 := by unfold fmE1 dnE; rw [if_pos rfl, if_neg (by omega)]
  have e2 : fmE2 ix en = 0 := by unfold fmE2 dnE; rw [e1, if_pos rfl, if_neg (by omega)]
  have e3 : fmE3 ix en tk = 0 := by unfold fmE3 dnE; rw [e2, if_pos rfl, if_neg (by omega)]
  unfold formB fmB4 fmB3 fmB2 fmB1 dB dnB
  rw [e3, e2, e1, if_pos rfl, if_pos rfl, if_pos rfl, if_pos ⟨rfl, h5⟩, if_pos ⟨rfl, h3⟩, if_pos ⟨rfl, h1⟩]
  rfl
theorem built_dw : Tryz.prog.built 117 [] = some #[.slice none 0 0, .int .i64 0] := by kernel_rfl
set_option maxRecDepth 100000 in
set_option maxHeartbeats 4000000 in
theorem form_doc (ix en tk : Int) (hix : ix < 9223372036854775808) (hen : en < 9223372036854775808) (htk : tk < 9223372036854775808) (rc : List (BitVec 8)) (am : List Nat) (hrc : rc.length = 20) (ham : am.length = 4) (hq4 : ∀ x ∈ am, x < 18446744073709551616) (L : List Value) (hL : L = lf ix en tk rc am) (w : World) : Calls Tryz.prog 49 #[.agg L.toArray] w fun e w' => ∃ v, e = .returned v ∧ Bw w' v (formB ix en tk rc am) ∧ Fresh w.heap.size v ∧ Below w.heap.size w w' := by
  have HBD : Hid (ix < 9223372036854775808 ∧ en < 9223372036854775808 ∧ tk < 9223372036854775808) := ⟨hix, hen, htk⟩
  have HL : Hid (L = lf ix en tk rc am) := hL
  have HTO : Hid (rc.length = 20) := hrc
  have HAM : Hid (am.length = 4) := ham
  have HQ : Hid (∀ x ∈ am, x < 18446744073709551616) := hq4
  have HIA : Hid ((Tryz.prog.info? 35).map (·.size) = some (vB rc).length) := info_Ad rc hrc
  have HIW : Hid ((Tryz.prog.info? 38).map (·.size) = some (vQ am).length) := info_Wd am ham
  have LN : Hid ((dB [] 0 [76#8]).length ≤ 1000000 ∧ (fmB1 ix).length ≤ 1000000 ∧ (fmB2 ix en).length ≤ 1000000 ∧ (fmB3 ix en tk).length ≤ 1000000 ∧ (fmB4 ix en tk rc).length ≤ 1000000) := by
    have a0 := dB_len [] 0 [76#8]
    have a1 := dnB_len (dB [] 0 [76#8]) 0 ix
    have a2 := dnB_len (fmB1 ix) (fmE1 ix) en
    have a3 := dnB_len (fmB2 ix en) (fmE2 ix en) tk
    have a4 := dB_len (fmB3 ix en tk) (fmE3 ix en tk) rc
    have b1 : (fmB1 ix).length ≤ (dB [] 0 [76#8]).length + 33 := a1
    have b2 : (fmB2 ix en).length ≤ (fmB1 ix).length + 33 := a2
    have b3 : (fmB3 ix en tk).length ≤ (fmB2 ix en).length + 33 := a3
    have b4 : (fmB4 ix en tk rc).length ≤ (fmB3 ix en tk).length + rc.length := a4
    simp at a0
    refine ⟨?_, ?_, ?_, ?_, ?_⟩ <;> omega
  clear hix hen htk hL hrc ham hq4
  go_enter Tryz.func49, Tryz.ntmps49
  go_upto_region 1 with (refine wpList_boxG 40 rfl (.tmp 0) rfl L rfl ?_; intro X1 q1 q2 q3; have R1 : Hid (Row X1 w.heap.size (lf ix en tk rc am) 40) := (by rw [← HL.out]; exact q1); have B1 : Hid (Below w.heap.size w X1) := q2; clear q1 q2 q3; simp only [Act.put, List.setIfInBounds_toArray, List.set_cons_zero, List.set_cons_succ])
  go_upto_region 2 with (refine wpList_boxG 117 rfl (.tmp 4) rfl [.slice none 0 0, .int .i64 0] rfl ?_; intro X2 q1 q2 q3; have M2 : Hid (Dw X1 X2 X1.heap.size (.slice none 0 0) [] 0) := ⟨q1, Bw.nil _, (fun g e => by cases e), Nat.le_refl _, q2⟩; clear q1 q2 q3; simp only [Act.put, List.setIfInBounds_toArray, List.set_cons_zero, List.set_cons_succ])
  obtain ⟨b, hb⟩ : ∃ b, b = w.heap.size := ⟨_, rfl⟩
  obtain ⟨P, hP⟩ : ∃ P, P = X1.heap.size := ⟨_, rfl⟩
  have RL : Hid (∀ Y, Below X1.heap.size X1 Y → Row Y b (lf ix en tk rc am) 40) := fun Y k => by rw [hb]; exact Row.below R1.out k R1.out.lt
  rw [← hP] at M2
  rw [← hP, ← hb]
  clear hb hP R1
  go_upto_region 3 with (go_at_call 68; refine Calls.mono (dw_byte X1 P (.slice none 0 0) [] 0 (Nat.zero_le _) 76#8 76 rfl X2 M2.out) ?_; rintro e X3 ⟨rfl, v3, q⟩; have M3 : Hid (Dw X1 X3 P v3 (dB [] 0 [76#8]) 0) := q; have c0 := (RL.out X3 q.be).cell 0 _ rfl; clear q M2)
  go_upto_region 4 with (go_at_call 69; refine Calls.mono (dw_number X1 P v3 (dB [] 0 [76#8]) 0 LN.out.1 ix HBD.out.1 X3 M3.out) ?_; rintro e X4 ⟨rfl, v4, q⟩; have M4 : Hid (Dw X1 X4 P v4 (fmB1 ix) (fmE1 ix)) := q; have c1 := (RL.out X4 q.be).cell 1 _ rfl; clear q M3 c0)
  go_upto_region 5 with (go_at_call 69; refine Calls.mono (dw_number X1 P v4 (fmB1 ix) (fmE1 ix) LN.out.2.1 en HBD.out.2.1 X4 M4.out) ?_; rintro e X5 ⟨rfl, v5, q⟩; have M5 : Hid (Dw X1 X5 P v5 (fmB2 ix en) (fmE2 ix en)) := q; have c2 := (RL.out X5 q.be).cell 2 _ rfl; clear q M4 c1)
  go_upto_region 6 with (go_at_call 69; refine Calls.mono (dw_number X1 P v5 (fmB2 ix en) (fmE2 ix en) LN.out.2.2.1 tk HBD.out.2.2 X5 M5.out) ?_; rintro e X6 ⟨rfl, v6, q⟩; have M6 : Hid (Dw X1 X6 P v6 (fmB3 ix en tk) (fmE3 ix en tk)) := q; have RT : Hid (X6.rangeAt b 3 (vB rc)) := lf_rto (RL.out X6 q.be); clear q M5 c2)
  go_upto_region 7 with (first
    | (refine wpList_load_w rfl 35 (.tmp 21) rfl b 3 rfl (vB rc) _ RT.out Tryz.underlying35 rfl HIA.out ?_; simp only [Act.put, List.setIfInBounds_toArray, List.set_cons_zero, List.set_cons_succ])
    | (go_at_call 70; refine Calls.mono (dw_address X1 P v6 (fmB3 ix en tk) (fmE3 ix en tk) LN.out.2.2.2.1 rc HTO.out X6 M6.out) ?_; rintro e X7 ⟨rfl, v7, q⟩; have M7 : Hid (Dw X1 X7 P v7 (fmB4 ix en tk rc) (fmE3 ix en tk)) := q; have RA : Hid (X7.rangeAt b 23 (vQ am)) := lf_ram HTO.out (RL.out X7 q.be); clear q M6 RT))
  go_upto_region 8 with (first
    | (refine wpList_load_w rfl 38 (.tmp 25) rfl b 23 rfl (vQ am) _ RA.out Tryz.underlying38 rfl HIW.out ?_; simp only [Act.put, List.setIfInBounds_toArray, List.set_cons_zero, List.set_cons_succ])
    | (go_at_call 71; refine Calls.mono (dw_wide X1 P v7 (fmB4 ix en tk rc) (fmE3 ix en tk) LN.out.2.2.2.2 am HAM.out HQ.out X7 M7.out) ?_; rintro e X8 ⟨rfl, v8, q⟩; have M8 : Hid (Dw X1 X8 P v8 (formB ix en tk rc am) (fmE3 ix en tk)) := q; clear q M7 RA))
  obtain ⟨A8, c8, e8, _, _⟩ := Bw.form M8.out.bw
  obtain ⟨n8, hn8⟩ : ∃ n, n = (formB ix en tk rc am).length := ⟨_, rfl⟩
  rw [← hn8] at e8
  subst e8
  have cv := M8.out.row.cell 0 _ rfl
  clear hn8
  go_wp2
  go_ret
  exact ⟨_, rfl, M8.out.bw, M8.out.fr.more B1.out.size, B1.out.trans (M8.out.be.mono B1.out.size)⟩
end Go.Proofs.YtdicgenhfmhklaaGreatDoor
