/-
  the document's writer: Number.
-/
import Derived.Test.YtfommclhnfcioaaLbW
import Derived.Test.YtfommclhnfcioaaLws

namespace Go.Proofs.Ytfommclhnfcioaa
open Go Go.RowKit
open Sha

theorem lt_bits : ∀ f x : Nat, x < 2 ^ f → x < 2 ^ Lib.bitLenAux f x
  | 0, x, h => by simpa [Lib.bitLenAux] using h
  | f + 1, x, h => by
    simp only [Lib.bitLenAux]
    by_cases h0 : x = 0
    · subst h0; simp
    · rw [if_neg h0]
      have h1 : x / 2 < 2 ^ f := by rw [Nat.pow_succ] at h; omega
      have := lt_bits f (x / 2) h1
      rw [Nat.add_comm 1, Nat.pow_succ]
      omega
theorem lt_bl (x : Nat) (h : x < 18446744073709551616) (t : Nat) (ht : bl x ≤ t) : x / 2 ^ (t * 8) = 0 := by
  apply Nat.div_eq_of_lt
  have h1 : x < 2 ^ Lib.bitLen x := lt_bits 64 x h
  refine Nat.lt_of_lt_of_le h1 (Nat.pow_le_pow_right (by decide) ?_)
  unfold bl at ht
  omega
theorem fb_zero (a b c d : Nat) (ha : a < 18446744073709551616) (hb : b < 18446744073709551616) (hc : c < 18446744073709551616) (hd : d < 18446744073709551616) (i : Nat) (hi : nb a b c d ≤ i) (h32 : i < 32) : fb [a, b, c, d] i = 0#8 := by
  unfold fb
  have key : [a, b, c, d].getD (i / 8) 0 / 2 ^ (i % 8 * 8) = 0 := by
    unfold nb at hi
    rcases (show i / 8 = 0 ∨ i / 8 = 1 ∨ i / 8 = 2 ∨ i / 8 = 3 by omega) with e | e | e | e
    · rw [e]; show a / _ = 0
      by_cases h3 : d ≠ 0
      · rw [if_pos h3] at hi; omega
      · rw [if_neg h3] at hi
        by_cases h2 : c ≠ 0
        · rw [if_pos h2] at hi; omega
        · rw [if_neg h2] at hi
          by_cases h1 : b ≠ 0
          · rw [if_pos h1] at hi; omega
          · rw [if_neg h1] at hi
            by_cases h0 : a ≠ 0
            · rw [if_pos h0] at hi; exact lt_bl a ha _ (by omega)
            · rw [Classical.not_not.1 h0, Nat.zero_div]
    · rw [e]; show b / _ = 0
      by_cases h3 : d ≠ 0
      · rw [if_pos h3] at hi; omega
      · rw [if_neg h3] at hi
        by_cases h2 : c ≠ 0
        · rw [if_pos h2] at hi; omega
        · rw [if_neg h2] at hi
          by_cases h1 : b ≠ 0
          · rw [if_pos h1] at hi; exact lt_bl b hb _ (by omega)
          · rw [Classical.not_not.1 h1, Nat.zero_div]
    · rw [e]; show c / _ = 0
      by_cases h3 : d ≠ 0
      · rw [if_pos h3] at hi; omega
      · rw [if_neg h3] at hi
        by_cases h2 : c ≠ 0
        · rw [if_pos h2] at hi; exact lt_bl c hc _ (by omega)
        · rw [Classical.not_not.1 h2, Nat.zero_div]
    · rw [e]; show d / _ = 0
      by_cases h3 : d ≠ 0
      · rw [if_pos h3] at hi; exact lt_bl d hd _ (by omega)
      · rw [Classical.not_not.1 h3, Nat.zero_div]
  rw [key]
/-- The lowest N bytes of a number, the highest first. -/
def pb (l : List Nat) (N : Nat) : List (BitVec 8) := (List.range N).map fun j => fb l (N - 1 - j)
theorem pb_len (l : List Nat) (N : Nat) : (pb l N).length = N := by simp [pb]
theorem fm_pb (l : List Nat) (k : Nat) : fm l k = BitVec.ofNat 8 k :: pb l k := rfl
theorem pb_get (l : List Nat) (N i : Nat) (h : i < N) : (pb l N)[i]? = some (fb l (N - 1 - i)) := by
  unfold pb
  rw [List.getElem?_map, List.getElem?_range h]
  rfl
theorem pb_drop (l : List Nat) (N k : Nat) (h : k ≤ N) : (pb l N).drop (N - k) = pb l k := by
  apply List.ext_getElem?
  intro i
  rw [List.getElem?_drop]
  by_cases hi : i < k
  · rw [pb_get l N _ (by omega), pb_get l k i hi, show N - 1 - (N - k + i) = k - 1 - i by omega]
  · rw [List.getElem?_eq_none (by rw [pb_len]; omega), List.getElem?_eq_none (by rw [pb_len]; omega)]
section
variable {P : Program} {ops : Array Oper} {rest : List Oper} {op : Oper} {a : Act} {w : World} {Q : Exit → Act → World → Prop}
theorem run_slice_from (w : World) (t e ab ao len cap m : Nat) (l : Int) (hl : l = (m : Int)) (hm : m ≤ len) (hu : P.underlying t = some (.slice e)) (hs : (P.info? e).map (·.size) = some 1) :
    (Instr.sliceAt t (.slice (some ⟨ab, ao, none⟩) len cap) (some (.int .i64 l)) none none).run P w = .ok (.slice (some (if cap = m then ⟨ab, ao, none⟩ else ⟨ab, ao + m, none⟩)) (len - m) (cap - m)) w := by
  cases hq : P.info? e with
  | none => simp [hq] at hs
  | some i =>
    have h1 : i.size = 1 := by simpa [hq] using hs
    subst hl
    by_cases h2 : cap = m <;> simp [Instr.sliceAt, Instr.slice, run_underlying hu, Instr.sliceBounds, Instr.sliceBound, asIntOf, sizeOf, typeInfo, hq, h1, h2, Addr.add_mid, hm]

theorem wpList_slice_from (hgd : op.guard = none) (t : TypeId) (x y : Operand) (ho : op.op = .slice t x (some y) none none) (e ab ao len cap m : Nat) (l : Int) (hx : a.eval x = .slice (some ⟨ab, ao, none⟩) len cap) (hy : a.eval y = .int .i64 l)
    (hl : l = (m : Int)) (hm : m ≤ len) (hc : len ≤ cap) (hu : P.underlying t = some (.slice e)) (hs : (P.info? e).map (·.size) = some 1)
    (h : ∀ A, (m < len → A = (⟨ab, ao + m, none⟩ : Addr)) → wpList P ops Q rest (a.put op.dst (.slice (some A) (len - m) (cap - m))) w) : wpList P ops Q (op :: rest) a w :=
  wpList_plain hgd fun _ hK => by
    unfold Oper.wp execOp
    simp only [ho, hx, hy, Option.map_some, Option.map_none, Sem.run_bind, run_slice_from w t e ab ao len cap m l hl hm hu hs, Result.andThen_ok, Sem.run_pure, Oper.upon_value]
    exact hK _ _ (h _ (fun hlt => by rw [if_neg (by omega)]))
end
set_option maxRecDepth 100000 in
set_option maxHeartbeats 4000000 in
theorem bare_go (g N k : Nat) (d : List (BitVec 8)) (hN : N ≤ 32) (hk : k ≤ N) (hz : ∀ i, i < N - k → d[i]? = some 0#8) (ht : 0 < k → ∃ x : BitVec 8, d[N - k]? = some x ∧ x.toNat ≠ 0) (S : Value) (hS : S = if k = 0 then .slice none 0 0 else .slice (some ⟨g, N - k, none⟩) k k) (w : World) (hr : w.rangeAt g 0 (vB d)) :
    Calls Try.prog 96 #[.slice (some ⟨g, 0, none⟩) N N] w fun e w' => e = .returned S ∧ w' = w := by
  have HR : Hid (w.rangeAt g 0 (vB d)) := hr
  have HZ : Hid (∀ i, i < N - k → d[i]? = some 0#8) := hz
  have HT : Hid (0 < k → ∃ x : BitVec 8, d[N - k]? = some x ∧ x.toNat ≠ 0) := ht
  have HS : Hid (S = if k = 0 then .slice none 0 0 else .slice (some ⟨g, N - k, none⟩) k k) := hS
  clear hr hz ht hS
  go_enter Try.func96, Try.ntmps96
  go_wp2_with fail
  go_loopw [3] (fun v wr => ∃ t : Nat, t ≤ N - k ∧ v = .int .i64 (t : Int) ∧ wr = w) (fun v _ => N - (intOf v).toNat)
  case atStart => exact ⟨0, Nat.zero_le _, rfl, rfl⟩
  case round =>
    obtain ⟨t, htk, rfl, hw⟩ := hrel
    subst hw
    by_cases h1 : t < N - k
    · have c0 : wr.cell? ⟨g, t, none⟩ = some (.int .u8 0) := by
        have q := HR.out t _ (by unfold vB; rw [List.getElem?_map, HZ.out t h1]; rfl)
        rw [Nat.zero_add] at q
        exact q
      have hl : t < N := by omega
      go_wp2
      exact ⟨⟨t + 1, by omega, by go_num, by first | rfl | trivial⟩, by simp [intOf]; omega⟩
    · have et : t = N - k := by omega
      by_cases hk0 : k = 0
      · have hS : S = .slice none 0 0 := by rw [HS.out, if_pos hk0]
        have e4 : (t : Int) = (N : Int) := by omega
        rw [e4]
        clear e4 h1 htk et hk0
        go_wp2
        go_ret
        exact ⟨by rw [hS]; rfl, rfl⟩
      · obtain ⟨x, hx, hx0⟩ := HT.out (by omega)
        have hS : Hid (S = .slice (some ⟨g, t, none⟩) (N - t) (N - t)) := by
          show _ = _
          rw [HS.out, if_neg hk0, et, show N - (N - k) = k by omega]
        have c0 : wr.cell? ⟨g, t, none⟩ = some (.int .u8 ((x.toNat : Nat) : Int)) := by
          rw [← et] at hx
          have q := HR.out t _ (by unfold vB; rw [List.getElem?_map, hx]; rfl)
          rw [Nat.zero_add] at q
          exact q
        obtain ⟨y, hy⟩ : ∃ y, y = x.toNat := ⟨_, rfl⟩
        rw [← hy] at c0 hx0
        have hl : t < N := by omega
        have ey : ((y : Int) != 0) = true := by simp; omega
        clear hx hy et h1 htk hk0
        go_wp2_with (refine wpList_slice_from rfl 26 (.tmp 15) (.tmp 16) rfl 5 g 0 N N t _ rfl rfl rfl (Nat.le_of_lt hl) (Nat.le_refl _) Try.underlying26 info_u8 ?_; intro A qA; obtain rfl := qA hl; rw [Nat.zero_add]; simp only [Act.put, List.setIfInBounds_toArray, List.set_cons_zero, List.set_cons_succ])
        go_ret
        exact ⟨by rw [hS.out]; rfl, rfl⟩

end Go.Proofs.Ytfommclhnfcioaa

namespace Go.Proofs.Ytfommclhnfcioaa
open Go Go.RowKit
open Sha

/-- N bytes of which t are laid. -/
def gl (l : List Nat) (N t : Nat) : List (BitVec 8) := (List.range N).map fun p => if N ≤ p + t then fb l (N - 1 - p) else 0#8
theorem gl_len (l : List Nat) (N t : Nat) : (gl l N t).length = N := by simp [gl]
theorem gl_zero (l : List Nat) (N : Nat) : gl l N 0 = List.replicate N 0#8 := by
  apply List.ext_getElem (by simp [gl])
  intro p h1 h2
  simp only [gl, List.getElem_map, List.getElem_range, List.getElem_replicate]
  rw [gl_len] at h1
  rw [if_neg (by omega)]
theorem gl_full (l : List Nat) (N : Nat) : gl l N N = pb l N := by
  apply List.ext_getElem (by simp [gl, pb])
  intro p h1 h2
  simp only [gl, pb, List.getElem_map, List.getElem_range]
  rw [if_pos (by omega)]
theorem gl_step (l : List Nat) (N t : Nat) (ht : t < N) : (gl l N t).set (N - 1 - t) (fb l t) = gl l N (t + 1) := by
  apply List.ext_getElem (by simp [gl])
  intro p h1 h2
  simp only [gl, List.getElem_map, List.getElem_range, List.getElem_set]
  rw [gl_len] at h2
  by_cases e : N - 1 - t = p
  · subst e
    rw [if_pos rfl, if_pos (by omega), show N - 1 - (N - 1 - t) = t by omega]
  · rw [if_neg e]
    by_cases e1 : N ≤ p + t
    · rw [if_pos e1, if_pos (by omega)]
    · rw [if_neg e1, if_neg (by omega)]
theorem vB_put (l : List (BitVec 8)) (i : Nat) (x : BitVec 8) : (vB l).set i (.int .u8 (c x)) = vB (l.set i x) := by
  unfold vB
  rw [List.map_set]
theorem range_cut {w : World} {g o : Nat} {d : List (BitVec 8)} (h : w.rangeAt g o (vB d)) (p : Nat) : w.rangeAt g (o + p) (vB (d.drop p)) := fun j v hj => by
  have q := h (p + j) v (by rw [← hj]; unfold vB; rw [List.getElem?_map, List.getElem?_map, List.getElem?_drop])
  rwa [show o + (p + j) = o + p + j by omega] at q
theorem one_bw {w : World} {g k : Nat} (hk : k ≤ 32) (h : Row w g [.int .u8 (k : Int)] 5) : Bw w (.slice (some ⟨g, 0, none⟩) 1 1) [BitVec.ofNat 8 k] :=
  row_bw (d := [BitVec.ofNat 8 k]) (by rw [show vB [BitVec.ofNat 8 k] = [.int .u8 (k : Int)] by unfold vB c; simp; omega]; exact h) (by simp)
theorem fb_num (n t : Nat) (ht : t < 8) (u : Int) (hu : u = ((n / 256 ^ t : Nat) : Int) % 256) : (Value.int .u8 u) = .int .u8 (c (fb [n, 0, 0, 0] t)) := by
  subst hu
  unfold fb c
  rw [Nat.div_eq_of_lt ht, Nat.mod_eq_of_lt ht, BitVec.toNat_ofNat, show (2 : Nat) ^ (t * 8) = 256 ^ t by rw [show (256 : Nat) = 2 ^ 8 by decide, ← Nat.pow_mul, Nat.mul_comm]]
  rfl
theorem nb_small (n : Nat) : nb n 0 0 0 ≤ 8 := by
  have := bl_le n
  unfold nb
  simp only [ne_eq, not_true, if_false]
  split <;> omega
theorem bare_form (m0 m1 m2 m3 N : Nat) (ha : m0 < 18446744073709551616) (hb : m1 < 18446744073709551616) (hc : m2 < 18446744073709551616) (hd : m3 < 18446744073709551616) (hN : N ≤ 32) (hk : nb m0 m1 m2 m3 ≤ N) (g : Nat) (S : Value) (hS : S = if nb m0 m1 m2 m3 = 0 then .slice none 0 0 else .slice (some ⟨g, N - nb m0 m1 m2 m3, none⟩) (nb m0 m1 m2 m3) (nb m0 m1 m2 m3)) (w : World) (hr : w.rangeAt g 0 (vB (pb [m0, m1, m2, m3] N))) :
    Calls Try.prog 96 #[.slice (some ⟨g, 0, none⟩) N N] w fun e w' => e = .returned S ∧ w' = w :=
  bare_go g N (nb m0 m1 m2 m3) (pb [m0, m1, m2, m3] N) hN hk (fun i hi => by rw [pb_get _ _ _ (by omega), fb_zero m0 m1 m2 m3 ha hb hc hd _ (by omega) (by omega)]) (fun h0 => ⟨_, by rw [pb_get _ _ _ (by omega)], by rw [show N - 1 - (N - nb m0 m1 m2 m3) = nb m0 m1 m2 m3 - 1 by omega]; exact nb_top m0 m1 m2 m3 ha hb hc hd h0⟩) S hS w hr
theorem bare_sl (l : List Nat) (N k g : Nat) (hk : k ≤ N) (S : Value) (hS : S = if k = 0 then .slice none 0 0 else .slice (some ⟨g, N - k, none⟩) k k) : ∃ A c, S = .slice A k c ∧ (A = none → c = 0) ∧ ∀ w : World, w.rangeAt g 0 (vB (pb l N)) → SlAt w (.slice A k c) (pb l k) := by
  by_cases h0 : k = 0
  · subst h0
    rw [if_pos rfl] at hS
    exact ⟨none, 0, hS, fun _ => rfl, fun _ _ => .inl ⟨rfl, _, _, rfl⟩⟩
  · rw [if_neg h0] at hS
    refine ⟨_, _, hS, (fun h => by cases h), fun w hr => .inr ⟨g, N - k, k, by rw [pb_len], by rw [pb_len]; exact Nat.le_refl _, ?_⟩⟩
    have q := range_cut hr (N - k)
    rw [pb_drop l N k hk, Nat.zero_add] at q
    exact q
section
variable {ops : Array Oper} {rest : List Oper} {op : Oper} {a : Act} {w : World} {Q : Exit → Act → World → Prop}
theorem wpList_allocA8 (hgd : op.guard = none) (ho : op.op = .alloc 147) (h : ∀ X, Row X w.heap.size (vB (List.replicate 8 0#8)) 147 → Below w.heap.size w X → wpList Try.prog ops Q rest (a.put op.dst (.pointer (some ⟨w.heap.size, 0, none⟩))) X) : wpList Try.prog ops Q (op :: rest) a w :=
  wpList_plain hgd fun _ hK => by
    unfold Oper.wp execOp
    simp only [ho]
    go_simp
    exact hK _ _ (h _ (Row.new' (cs := vB (List.replicate 8 0#8)) rfl rfl) ((Below.refl _ _).alloc (Nat.le_refl _) _))
end
theorem info_u1 : (Try.prog.info? 5).map (·.size) = some 1 := by kernel_rfl
theorem u8_open4 : ∃ ie z, Try.prog.info? 5 = some ie ∧ ie.zero = some z ∧ ie.size = 1 ∧ z.cells.size = 1 := by
  obtain ⟨ie, z, h1, h2, h3, _, h4⟩ := info_u8open
  exact ⟨ie, z, h1, h2, h3, h4⟩
set_option maxRecDepth 100000 in
set_option maxHeartbeats 4000000 in
theorem number_doc (n : Nat) (hn : n < 9223372036854775808) (w : World) : Calls Try.prog 77 #[.int .i64 (n : Int)] w fun e w' => ∃ A c, e = .returned (.slice A (nb n 0 0 0 + 1) c) ∧ Bw w' (.slice A (nb n 0 0 0 + 1) c) (fm [n, 0, 0, 0] (nb n 0 0 0)) ∧ Fresh w.heap.size (.slice A (nb n 0 0 0 + 1) c) ∧ Below w.heap.size w w' := by
  have HN : Hid (n < 9223372036854775808) := hn
  obtain ⟨k, hk⟩ : ∃ k, k = nb n 0 0 0 := ⟨_, rfl⟩
  have hk8 : k ≤ 8 := by rw [hk]; exact nb_small n
  have HK : Hid (k = nb n 0 0 0) := hk
  rw [← hk]
  clear hk
  go_enter Try.func77, Try.ntmps77
  go_upto_region 2 with (refine wpList_allocA8 rfl rfl ?_; intro X1 q1 q2; have R1 : Hid (Row X1 w.heap.size (vB (List.replicate 8 0#8)) 147) := q1; have B1 : Hid (Below w.heap.size w X1) := q2; clear q1 q2; simp only [Act.put, List.setIfInBounds_toArray, List.set_cons_zero, List.set_cons_succ])
  obtain ⟨b, hb⟩ : ∃ b, b = w.heap.size := ⟨_, rfl⟩
  have HB : Hid (b = w.heap.size) := hb
  rw [← hb] at R1
  rw [← hb]
  clear hb
  go_wp2_with fail
  go_loopw [4, 5] (fun v4 v5 wr => ∃ r t : Nat, r + t = 8 ∧ v4 = .int .i64 ((n / 256 ^ t : Nat) : Int) ∧ v5 = .int .i64 ((r : Int) - 1) ∧ Hid (Row wr b (vB (gl [n, 0, 0, 0] 8 t)) 147) ∧ Hid (Below w.heap.size w wr)) (fun _ v5 _ => (intOf v5 + 1).toNat)
  case atStart => exact ⟨8, 0, rfl, by simp, rfl, by rw [gl_zero]; exact R1, B1⟩
  case round =>
    clear R1 B1
    obtain ⟨r, t, hrt, rfl, rfl, HR, HBE⟩ := hrel
    cases r with
    | zero =>
      have e8 : t = 8 := by omega
      subst e8
      have HRG : Hid (∀ Y, Below wr.heap.size wr Y → Y.rangeAt b 0 (vB (pb [n, 0, 0, 0] 8))) := fun Y hY => by
        have q := HR.out
        rw [gl_full] at q
        exact range_be q.all hY
      obtain ⟨A1, c1, hSe, hnil, hsl⟩ := bare_sl [n, 0, 0, 0] 8 k b hk8 _ rfl
      have HBR : Hid (∀ Y, Below wr.heap.size wr Y → Calls Try.prog 96 #[.slice (some ⟨b, 0, none⟩) 8 8] Y fun e w' => e = .returned (.slice A1 k c1) ∧ w' = Y) := fun Y hY => by
        have q := bare_form n 0 0 0 8 (by have := HN.out; omega) (by decide) (by decide) (by decide) (by decide) (by rw [← HK.out]; exact hk8) b _ rfl Y (HRG.out Y hY)
        rw [← HK.out, hSe] at q
        exact q
      have HSL : Hid (∀ Y, Below wr.heap.size wr Y → SlAt Y (.slice A1 k c1) (pb [n, 0, 0, 0] k)) := fun Y hY => hsl Y (HRG.out Y hY)
      have HNL : Hid (A1 = none → c1 = 0) := hnil
      have HK32 : Hid (k ≤ 32) := by show _ ≤ _; omega
      have HKL : Hid (([BitVec.ofNat 8 k] : List (BitVec 8)).length + k ≤ 140737488355328) := by show _ ≤ _; simp; omega
      clear hSe hnil hsl hrt HR
      go_wp2_with (first
        | (refine wpList_slice_all rfl 147 5 8 (.tmp 3) b 0 rfl rfl Try.underlying147 info_u1 ?_; simp only [Act.put, List.setIfInBounds_toArray, List.set_cons_zero, List.set_cons_succ])
        | (go_at_call 96; refine Calls.mono (HBR.out wr (Below.refl _ _)) ?_; rintro e X ⟨rfl, hq⟩; obtain rfl := hq.symm)
        | (refine wpList_buildOne 26 5 Try.underlying26 u8_open4 rfl (.tmp 24) rfl (.int .u8 (k : Int)) rfl rfl ?_; intro X2 q1 q2 q3; have R2 : Hid (Row X2 wr.heap.size [.int .u8 (k : Int)] 5) := q1; have W2 : Hid (Bw X2 (.slice (some ⟨wr.heap.size, 0, none⟩) 1 1) [BitVec.ofNat 8 k]) := one_bw HK32.out q1; have D2 : Hid (Below wr.heap.size wr X2) := q2; clear q1 q2 q3; simp only [Act.put, List.setIfInBounds_toArray, List.set_cons_zero, List.set_cons_succ])
        | (refine wpList_app rfl (.tmp 26) (.tmp 27) rfl (.slice (some ⟨wr.heap.size, 0, none⟩) 1 1) [BitVec.ofNat 8 k] (pb [n, 0, 0, 0] k) rfl W2.out A1 k c1 (pb_len _ _) rfl (HSL.out X2 D2.out) HNL.out HKL.out ?_; intro v3 X3 q1 q2 q3; have W3 : Hid (Bw X3 v3 ([BitVec.ofNat 8 k] ++ pb [n, 0, 0, 0] k)) := q1; have G3 : Hid (X2.grownBy X3 (Value.slice (some ⟨wr.heap.size, 0, none⟩) 1 1).ownBlock) := q2; have O3 : Hid (v3.ownBlock = (Value.slice (some ⟨wr.heap.size, 0, none⟩) 1 1).ownBlock ∨ v3.ownBlock = some X2.heap.size) := q3; clear q1 q2 q3; simp only [Act.put, List.setIfInBounds_toArray, List.set_cons_zero, List.set_cons_succ]))
      go_ret
      obtain ⟨A3, c3, e3, _, _⟩ := Bw.form W3.out
      have hl3 : ([BitVec.ofNat 8 k] ++ pb [n, 0, 0, 0] k).length = k + 1 := by rw [List.length_append, pb_len]; simp; omega
      rw [hl3] at e3
      subst e3
      refine ⟨A3, c3, rfl, W3.out, ?_, ?_⟩
      · intro g e
        rcases O3.out with h | h
        · rw [h] at e
          simp [Value.ownBlock] at e
          have := HBE.out.size
          omega
        · rw [h] at e; cases e; exact Nat.le_trans HBE.out.size D2.out.size
      · exact below_gb (HBE.out.trans (D2.out.mono HBE.out.size)) G3.out (fun g e => by simp [Value.ownBlock] at e; have := HBE.out.size; omega)
    | succ j =>
      have e1 : (((j + 1 : Nat) : Int) - 1) = (j : Int) := by omega
      rw [e1]
      have hj : j < 8 := by omega
      have ht8 : t < 8 := by omega
      have hjt : j = 8 - 1 - t := by omega
      obtain ⟨xv, hxv⟩ : ∃ xv, xv = n / 256 ^ t := ⟨_, rfl⟩
      have HXV : Hid (xv = n / 256 ^ t) := hxv
      have hxb : xv < 9223372036854775808 := by rw [hxv]; exact Nat.lt_of_le_of_lt (Nat.div_le_self _ _) HN.out
      have HJL : Hid (j < (vB (gl [n, 0, 0, 0] 8 t)).length) := by show _ < _; rw [vB_length, gl_len]; exact hj
      rw [← hxv]
      have HJ : Hid (j + 1 + t = 8 ∧ j = 8 - 1 - t) := ⟨hrt, hjt⟩
      clear e1 hxv hrt hjt
      go_wp2_with (refine wpList_set1 rfl 5 (.tmp 17) (.tmp 16) rfl b j (.int .u8 ((xv : Int) % 256)) (vB (gl [n, 0, 0, 0] 8 t)) 147 rfl rfl rfl HR.out HJL.out info_u1 rfl ?_; intro X2 q1 q2 q3; have R2 : Hid (Row X2 b ((vB (gl [n, 0, 0, 0] 8 t)).set j (.int .u8 ((xv : Int) % 256))) 147) := q1; have G2 : Hid (Gro (· = b) wr X2) := q2; clear q1 q2 q3; simp only [Act.put])
      have R3 : Hid (Row X2 b (vB (gl [n, 0, 0, 0] 8 (t + 1))) 147) := by
        have q := R2.out
        rw [fb_num n t ht8 _ (by rw [← HXV.out]), vB_put, HJ.out.2, gl_step _ 8 t ht8] at q
        exact q
      have B3 : Hid (Below w.heap.size w X2) := HBE.out.trans (G2.out.to_below HBE.out.size (fun g e => by rw [e, HB.out]; exact Nat.le_refl _))
      exact ⟨⟨j, t + 1, by have := HJ.out.1; omega, by rw [Nat.pow_succ, ← Nat.div_div_eq_div_mul, ← HXV.out]; first | rfl | go_num, by first | rfl | go_num, R3, B3⟩, by simp [intOf]⟩

end Go.Proofs.Ytfommclhnfcioaa
