/-
  the outbox: Check, and the document's.
-/
import Derived.Test.YtbfahgdienppoaaGreatDoorObA
import Derived.Test.YtbfahgdienppoaaGreatDoorLws
import Derived.Test.YtbfahgdienppoaaGreatDoorTTxt
import Derived.Test.YtbfahgdienppoaaGreatDoorTChkO
import Derived.Test.YtbfahgdienppoaaGreatDoorObD
import Derived.Test.YtbfahgdienppoaaGreatDoorOcS

namespace Go.Proofs.YtbfahgdienppoaaGreatDoor
open Go Go.RowKit
open Sha

theorem lt_bits : ∀ f x : Nat, x < 2 ^ f → x < 2 ^ Lib.bitLenAux f x
  | 0, x, h => by simpa [Lib.bitLenAux] using h
  | f + 1, x, h => by
    simp only [Lib.bitLenAux]
    by_cases h0 : x = 0
    · subst h0; simp
    · rw [if_neg h0]
      have h1 : x / 2 < 2 ^ f := by rw [Nat.pow_succ] at h; omega
      have := lt_bits f (x / 2) h1
      rw [Nat.add_comm 1, Nat.pow_succ]
      omega
theorem lt_bl (x : Nat) (h : x < 18446744073709551616) (t : Nat) (ht : bl x ≤ t) : x / 2 ^ (t * 8) = 0 := by
  apply Nat.div_eq_of_lt
  have h1 : x < 2 ^ Lib.bitLen x := lt_bits 64 x h
  refine Nat.lt_of_lt_of_le h1 (Nat.pow_le_pow_right (by decide) ?_)
  unfold bl at ht
  omega
theorem fb_zero (a b c d : Nat) (ha : a < 18446744073709551616) (hb : b < 18446744073709551616) (hc : c < 18446744073709551616) (hd : d < 18446744073709551616) (i : Nat) (hi : nb a b c d ≤ i) (h32 : i < 32) : fb [a, b, c, d] i = 0#8 := by
  unfold fb
  have key : [a, b, c, d].getD (i / 8) 0 / 2 ^ (i % 8 * 8) = 0 := by
    unfold nb at hi
    rcases (show i / 8 = 0 ∨ i / 8 = 1 ∨ i / 8 = 2 ∨ i / 8 = 3 by omega) with e | e | e | e
    · rw [e]; show a / _ = 0
      by_cases h3 : d ≠ 0
      · rw [if_pos h3] at hi; omega
      · rw [if_neg h3] at hi
        by_cases h2 : c ≠ 0
        · rw [if_pos h2] at hi; omega
        · rw [if_neg h2] at hi
          by_cases h1 : b ≠ 0
          · rw [if_pos h1] at hi; omega
          · rw [if_neg h1] at hi
            by_cases h0 : a ≠ 0
            · rw [if_pos h0] at hi; exact lt_bl a ha _ (by omega)
            · rw [Classical.not_not.1 h0, Nat.zero_div]
    · rw [e]; show b / _ = 0
      by_cases h3 : d ≠ 0
      · rw [if_pos h3] at hi; omega
      · rw [if_neg h3] at hi
        by_cases h2 : c ≠ 0
        · rw [if_pos h2] at hi; omega
        · rw [if_neg h2] at hi
          by_cases h1 : b ≠ 0
          · rw [if_pos h1] at hi; exact lt_bl b hb _ (by omega)
          · rw [Classical.not_not.1 h1, Nat.zero_div]
    · rw [e]; show c / _ = 0
      by_cases h3 : d ≠ 0
      · rw [if_pos h3] at hi; omega
      · rw [if_neg h3] at hi
        by_cases h2 : c ≠ 0
        · rw [if_pos h2] at hi; exact lt_bl c hc _ (by omega)
        · rw [Classical.not_not.1 h2, Nat.zero_div]
    · rw [e]; show d / _ = 0
      by_cases h3 : d ≠ 0
      · rw [if_pos h3] at hi; exact lt_bl d hd _ (by omega)
      · rw [Classical.not_not.1 h3, Nat.zero_div]
  rw [key]
/-- The lowest N bytes of a number, the highest first. -/
def pb (l : List Nat) (N : Nat) : List (BitVec 8) := (List.range N).map fun j => fb l (N - 1 - j)
theorem pb_len (l : List Nat) (N : Nat) : (pb l N).length = N := by simp [pb]
theorem fm_pb (l : List Nat) (k : Nat) : fm l k = BitVec.ofNat 8 k :: pb l k := rfl
theorem pb_get (l : List Nat) (N i : Nat) (h : i < N) : (pb l N)[i]? = some (fb l (N - 1 - i)) := by
  unfold pb
  rw [List.getElem?_map, List.getElem?_range h]
  rfl
theorem pb_drop (l : List Nat) (N k : Nat) (h : k ≤ N) : (pb l N).drop (N - k) = pb l k := by
  apply List.ext_getElem?
  intro i
  rw [List.getElem?_drop]
  by_cases hi : i < k
  · rw [pb_get l N _ (by omega), pb_get l k i hi, show N - 1 - (N - k + i) = k - 1 - i by omega]
  · rw [List.getElem?_eq_none (by rw [pb_len]; omega), List.getElem?_eq_none (by rw [pb_len]; omega)]
section
variable {P : Program} {ops : Array Oper} {rest : List Oper} {op : Oper} {a : Act} {w : World} {Q : Exit → Act → World → Prop}
theorem run_slice_from (w : World) (t e ab ao len cap m : Nat) (l : Int) (hl : l = (m : Int)) (hm : m ≤ len) (hu : P.underlying t = some (.slice e)) (hs : (P.info? e).map (·.size) = some 1) :
    (Instr.sliceAt t (.slice (some ⟨ab, ao, none⟩) len cap) (some (.int .i64 l)) none none).run P w = .ok (.slice (some (if cap = m then ⟨ab, ao, none⟩ else ⟨ab, ao + m, none⟩)) (len - m) (cap - m)) w := by
  cases hq : P.info? e with
  | none => simp [hq] at hs
  | some i =>
    have h1 : i.size = 1 := by simpa [hq] using hs
    subst hl
    by_cases h2 : cap = m <;> simp [Instr.sliceAt, Instr.slice, run_underlying hu, Instr.sliceBounds, Instr.sliceBound, asIntOf, sizeOf, typeInfo, hq, h1, h2, Addr.add_mid, hm]

theorem wpList_slice_from (hgd : op.guard = none) (t : TypeId) (x y : Operand) (ho : op.op = .slice t x (some y) none none) (e ab ao len cap m : Nat) (l : Int) (hx : a.eval x = .slice (some ⟨ab, ao, none⟩) len cap) (hy : a.eval y = .int .i64 l)
    (hl : l = (m : Int)) (hm : m ≤ len) (hc : len ≤ cap) (hu : P.underlying t = some (.slice e)) (hs : (P.info? e).map (·.size) = some 1)
    (h : ∀ A, (m < len → A = (⟨ab, ao + m, none⟩ : Addr)) → wpList P ops Q rest (a.put op.dst (.slice (some A) (len - m) (cap - m))) w) : wpList P ops Q (op :: rest) a w :=
  wpList_plain hgd fun _ hK => by
    unfold Oper.wp execOp
    simp only [ho, hx, hy, Option.map_some, Option.map_none, Sem.run_bind, run_slice_from w t e ab ao len cap m l hl hm hu hs, Result.andThen_ok, Sem.run_pure, Oper.upon_value]
    exact hK _ _ (h _ (fun hlt => by rw [if_neg (by omega)]))
end
end Go.Proofs.YtbfahgdienppoaaGreatDoor

namespace Go.Proofs.YtbfahgdienppoaaGreatDoor
open Go Go.RowKit
open Sha

/-- N bytes of which t are laid. -/
def gl (l : List Nat) (N t : Nat) : List (BitVec 8) := (List.range N).map fun p => if N ≤ p + t then fb l (N - 1 - p) else 0#8
theorem gl_len (l : List Nat) (N t : Nat) : (gl l N t).length = N := by simp [gl]
theorem gl_zero (l : List Nat) (N : Nat) : gl l N 0 = List.replicate N 0#8 := by
  apply List.ext_getElem (by simp [gl])
  intro p h1 h2
  simp only [gl, List.getElem_map, List.getElem_range, List.getElem_replicate]
  rw [gl_len] at h1
  rw [if_neg (by omega)]
theorem gl_full (l : List Nat) (N : Nat) : gl l N N = pb l N := by
  apply List.ext_getElem (by simp [gl, pb])
  intro p h1 h2
  simp only [gl, pb, List.getElem_map, List.getElem_range]
  rw [if_pos (by omega)]
theorem gl_step (l : List Nat) (N t : Nat) (ht : t < N) : (gl l N t).set (N - 1 - t) (fb l t) = gl l N (t + 1) := by
  apply List.ext_getElem (by simp [gl])
  intro p h1 h2
  simp only [gl, List.getElem_map, List.getElem_range, List.getElem_set]
  rw [gl_len] at h2
  by_cases e : N - 1 - t = p
  · subst e
    rw [if_pos rfl, if_pos (by omega), show N - 1 - (N - 1 - t) = t by omega]
  · rw [if_neg e]
    by_cases e1 : N ≤ p + t
    · rw [if_pos e1, if_pos (by omega)]
    · rw [if_neg e1, if_neg (by omega)]
theorem vB_put (l : List (BitVec 8)) (i : Nat) (x : BitVec 8) : (vB l).set i (.int .u8 (c x)) = vB (l.set i x) := by
  unfold vB
  rw [List.map_set]
theorem range_cut {w : World} {g o : Nat} {d : List (BitVec 8)} (h : w.rangeAt g o (vB d)) (p : Nat) : w.rangeAt g (o + p) (vB (d.drop p)) := fun j v hj => by
  have q := h (p + j) v (by rw [← hj]; unfold vB; rw [List.getElem?_map, List.getElem?_map, List.getElem?_drop])
  rwa [show o + (p + j) = o + p + j by omega] at q
theorem one_bw {w : World} {g k : Nat} (hk : k ≤ 32) (h : Row w g [.int .u8 (k : Int)] 5) : Bw w (.slice (some ⟨g, 0, none⟩) 1 1) [BitVec.ofNat 8 k] :=
  row_bw (d := [BitVec.ofNat 8 k]) (by rw [show vB [BitVec.ofNat 8 k] = [.int .u8 (k : Int)] by unfold vB c; simp; omega]; exact h) (by simp)
theorem fb_num (n t : Nat) (ht : t < 8) (u : Int) (hu : u = ((n / 256 ^ t : Nat) : Int) % 256) : (Value.int .u8 u) = .int .u8 (c (fb [n, 0, 0, 0] t)) := by
  subst hu
  unfold fb c
  rw [Nat.div_eq_of_lt ht, Nat.mod_eq_of_lt ht, BitVec.toNat_ofNat, show (2 : Nat) ^ (t * 8) = 256 ^ t by rw [show (256 : Nat) = 2 ^ 8 by decide, ← Nat.pow_mul, Nat.mul_comm]]
  rfl
theorem nb_small (n : Nat) : nb n 0 0 0 ≤ 8 := by
  have := bl_le n
  unfold nb
  simp only [ne_eq, not_true, if_false]
  split <;> omega
theorem bare_sl (l : List Nat) (N k g : Nat) (hk : k ≤ N) (S : Value) (hS : S = if k = 0 then .slice none 0 0 else .slice (some ⟨g, N - k, none⟩) k k) : ∃ A c, S = .slice A k c ∧ (A = none → c = 0) ∧ ∀ w : World, w.rangeAt g 0 (vB (pb l N)) → SlAt w (.slice A k c) (pb l k) := by
  by_cases h0 : k = 0
  · subst h0
    rw [if_pos rfl] at hS
    exact ⟨none, 0, hS, fun _ => rfl, fun _ _ => .inl ⟨rfl, _, _, rfl⟩⟩
  · rw [if_neg h0] at hS
    refine ⟨_, _, hS, (fun h => by cases h), fun w hr => .inr ⟨g, N - k, k, by rw [pb_len], by rw [pb_len]; exact Nat.le_refl _, ?_⟩⟩
    have q := range_cut hr (N - k)
    rw [pb_drop l N k hk, Nat.zero_add] at q
    exact q
section
variable {ops : Array Oper} {rest : List Oper} {op : Oper} {a : Act} {w : World} {Q : Exit → Act → World → Prop}
end
theorem info_u1 : (Tryz.prog.info? 5).map (·.size) = some 1 := by kernel_rfl
theorem u8_open4 : ∃ ie z, Tryz.prog.info? 5 = some ie ∧ ie.zero = some z ∧ ie.size = 1 ∧ z.cells.size = 1 := by
  obtain ⟨ie, z, h1, h2, h3, _, h4⟩ := info_u8open
  exact ⟨ie, z, h1, h2, h3, h4⟩
end Go.Proofs.YtbfahgdienppoaaGreatDoor

namespace Go.Proofs.YtbfahgdienppoaaGreatDoor
open Go Go.RowKit
open Sha

theorem fb_wd (l : List Nat) (i k : Nat) (hk : k < 8) (u : Int) (hu : u = ((l.getD i 0 / 256 ^ k : Nat) : Int) % 256) : (Value.int .u8 u) = .int .u8 (c (fb l (8 * i + k))) := by
  subst hu
  unfold fb c
  rw [show (8 * i + k) / 8 = i by omega, show (8 * i + k) % 8 = k by omega, BitVec.toNat_ofNat, show (2 : Nat) ^ (k * 8) = 256 ^ k by rw [show (256 : Nat) = 2 ^ 8 by decide, ← Nat.pow_mul, Nat.mul_comm]]
  rfl
theorem vQ_at (l : List Nat) (i : Nat) (h : i < l.length) : (vQ l)[i]? = some (.int .u64 ((l.getD i 0 : Nat) : Int)) := by
  unfold vQ
  rw [List.getElem?_map, List.getD_eq_getElem?_getD, List.getElem?_eq_getElem h]
  rfl
end Go.Proofs.YtbfahgdienppoaaGreatDoor

namespace Go.Proofs.YtbfahgdienppoaaGreatDoor
open Go Go.RowKit
open Sha

theorem info_sl1 : (Tryz.prog.info? 46).map (·.size) = some 1 := by kernel_rfl
end Go.Proofs.YtbfahgdienppoaaGreatDoor

namespace Go.Proofs.YtbfahgdienppoaaGreatDoor
open Go Go.RowKit
open Sha

def dB (bs : List (BitVec 8)) (E : Int) (d : List (BitVec 8)) : List (BitVec 8) := if E = 0 then bs ++ d else bs
def dnE (E n : Int) : Int := if E = 0 then (if n < 0 then 32 else 0) else E
def dnB (bs : List (BitVec 8)) (E n : Int) : List (BitVec 8) := if E = 0 ∧ 0 ≤ n then bs ++ nf n else bs
theorem dB_len (bs : List (BitVec 8)) (E : Int) (d : List (BitVec 8)) : (dB bs E d).length ≤ bs.length + d.length := by
  unfold dB
  split
  · rw [List.length_append]; exact Nat.le_refl _
  · omega
theorem dnB_len (bs : List (BitVec 8)) (E n : Int) : (dnB bs E n).length ≤ bs.length + 33 := by
  have := nf_len n
  unfold dnB
  split
  · rw [List.length_append]; omega
  · omega
end Go.Proofs.YtbfahgdienppoaaGreatDoor

namespace Go.Proofs.YtbfahgdienppoaaGreatDoor
open Go Go.RowKit
open Sha

/-- What the document's Form lays, of any values. -/
def fmE1 (ix : Int) : Int := dnE 0 ix
def fmE2 (ix en : Int) : Int := dnE (fmE1 ix) en
def fmE3 (ix en tk : Int) : Int := dnE (fmE2 ix en) tk
def fmB1 (ix : Int) : List (BitVec 8) := dnB (dB [] 0 [76#8]) 0 ix
def fmB2 (ix en : Int) : List (BitVec 8) := dnB (fmB1 ix) (fmE1 ix) en
def fmB3 (ix en tk : Int) : List (BitVec 8) := dnB (fmB2 ix en) (fmE2 ix en) tk
def fmB4 (ix en tk : Int) (rc : List (BitVec 8)) : List (BitVec 8) := dB (fmB3 ix en tk) (fmE3 ix en tk) rc
def formB (ix en tk : Int) (rc : List (BitVec 8)) (am : List Nat) : List (BitVec 8) := dB (fmB4 ix en tk rc) (fmE3 ix en tk) (wf am)
theorem formB_may (ix en tk : Int) (rc : List (BitVec 8)) (am : List Nat) (h : may ix en tk am = true) : formB ix en tk rc am = lfb ix en tk rc am := by
  obtain ⟨h1, _, h3, _, h5, _⟩ := may_in h
  have e1 : fmE1 ix = 0 := by unfold fmE1 dnE; rw [if_pos rfl, if_neg (by omega)]
  have e2 : fmE2 ix en = 0 := by unfold fmE2 dnE; rw [e1, if_pos rfl, if_neg (by omega)]
  have e3 : fmE3 ix en tk = 0 := by unfold fmE3 dnE; rw [e2, if_pos rfl, if_neg (by omega)]
  unfold formB fmB4 fmB3 fmB2 fmB1 dB dnB
  rw [e3, e2, e1, if_pos rfl, if_pos rfl, if_pos rfl, if_pos ⟨rfl, h5⟩, if_pos ⟨rfl, h3⟩, if_pos ⟨rfl, h1⟩]
  rfl
end Go.Proofs.YtbfahgdienppoaaGreatDoor

namespace Go.Proofs.YtbfahgdienppoaaGreatDoor
open Go Go.RowKit
open Sha

section
variable {ops : Array Oper} {rest : List Oper} {op : Oper} {a : Act} {w : World} {Q : Exit → Act → World → Prop}
theorem wpList_neq_d2 (hw : Region.wanted op (yielded ops a.tmps) = true) (x y : Operand) (yt : TypeId) (ho : op.op = .binOp .neq 53 x y yt) (l r : List (BitVec 8)) (B : Bool) (hB : (!decide (l = r)) = B) (hl : Dl l) (hr : Dl r) (hx : a.eval x = .agg (vB l).toArray) (hy : a.eval y = .agg (vB r).toArray)
    (h : wpList Tryz.prog ops Q rest (a.put op.dst (.bool B)) w) : wpList Tryz.prog ops Q (op :: rest) a w :=
  BigFrame.wpList_want hw fun _ hK => wp_neq_d 53 x y yt ho 5 32 l r hx hy Tryz.underlying53 Tryz.underlying5 info_u8T hl hr guard_dig B hB (hK _ _ h)
end

end Go.Proofs.YtbfahgdienppoaaGreatDoor

namespace Go.Proofs.YtbfahgdienppoaaGreatDoor
open Go Go.RowKit
open Sha

/-- What Check answers. -/
def okc (root : List (BitVec 8)) (n ix en tk : Int) (rc : List (BitVec 8)) (am : List Nat) (ds : List (List (BitVec 8))) : Int :=
  if may ix en tk am = false then 110 else if n < 0 ∨ 1099511627776 < n then 112 else if n ≤ ix then 111 else if ck root n ix (lfb ix en tk rc am) ds = 0 then 0 else 113
theorem slToT {w : World} {v : Value} {d : List (BitVec 8)} (h : SlAt w v d) : SlAtT w v d := h
/-- A slot that holds bytes. -/
def SP.bs (d : List (BitVec 8)) : SP := ⟨fun W v => ∃ A cap, v = .slice A d.length cap ∧ (A = none → cap = 0) ∧ Bw W v d, fun _ _ _ hB ⟨A, c, e, h1, h2⟩ => ⟨A, c, e, h1, Bw.be h2 hB⟩⟩
theorem info_dgk (d : List (BitVec 8)) (h : d.length = 32) : (Tryz.prog.info? 53).map (·.size) = some (vB d).length := by rw [vB_length, h]; kernel_rfl
section
variable {o : Oper} {a : Act} {w : World} {K : Act → World → Prop} {Q : Exit → Act → World → Prop}
theorem wp_fl0 {x : Operand} (b : Nat) (ho : o.op = .fieldAddr 39 x 0) (hx : a.eval x = .pointer (some ⟨b, 0, none⟩)) (h : K (a.put o.dst (.pointer (some ⟨b, 0, none⟩))) w) : Oper.wp Tryz.prog o a w K Q := by
  unfold Oper.wp execOp
  simp only [ho, hx]
  go_simp
  exact h
theorem wp_rii {x : Operand} (ho : o.op = .load 3 x) (b f : Nat) (hx : a.eval x = .pointer (some ⟨b, f, none⟩)) (n : Int) (hc : w.cell? ⟨b, f, none⟩ = some (.int .i64 n)) (h : K (a.put o.dst (.int .i64 n)) w) : Oper.wp Tryz.prog o a w K Q := by
  unfold Oper.wp execOp
  simp only [ho, hx]
  go_simp
  exact h
end
set_option maxRecDepth 100000 in
set_option maxHeartbeats 4000000 in
theorem ocheck_any (root : List (BitVec 8)) (hroot : root.length = 32) (n ix en tk : Int) (rc : List (BitVec 8)) (am : List Nat) (hrc : rc.length = 20) (ham : am.length = 4) (hq4 : ∀ x ∈ am, x < 18446744073709551616) (L : List Value) (hL : L = lf ix en tk rc am) (ds : List (List (BitVec 8))) (PA : Option Addr) (k pc : Nat) (w : World) (hT : Tab w 2) (hp : PAt w (.slice PA k pc) ds) :
    Calls Tryz.prog 21 #[.agg (vB root).toArray, .int .i64 n, .agg L.toArray, (.slice PA k pc)] w fun e w' => e = .returned (.int .i64 (okc root n ix en tk rc am ds)) ∧ Below w.heap.size w w' := by
  have HI : Hid ((Tryz.prog.info? 39).map (·.size) = some L.length) := by rw [hL]; exact info_lf hrc ham
  have HID : Hid ((Tryz.prog.info? 53).map (·.size) = some (vB root).length) := info_dgk root hroot
  have HL0 : Hid (L[0]? = some (.int .i64 ix)) := by rw [hL]; rfl
  obtain ⟨O, hO⟩ : ∃ O, O = okc root n ix en tk rc am ds := ⟨_, rfl⟩
  rw [← hO]
  unfold okc at hO
  cases hm : may ix en tk am with
  | false =>
    rw [if_pos hm] at hO
    subst hO
    have HBY : Hid (∀ X, Calls Tryz.prog 12 #[.agg L.toArray] X fun e w' => e = .returned (.tuple #[.slice none 0 0, .int .i64 110]) ∧ Below X.heap.size X w') := fun X => bytes_no ix en tk rc am hrc ham hm L hL X
    clear hm hq4 hT hp hL hrc ham hroot
    go_enter Tryz.func21, Tryz.ntmps21
    go_upto_region 1 with (first
      | (refine wpList_boxG 53 rfl (.tmp 0) rfl (vB root) rfl ?_; intro X1 q1 q2 q3; have R1 : Hid (Row X1 w.heap.size (vB root) 53) := q1; have B1 : Hid (Below w.heap.size w X1) := q2; clear q1 q2 q3; simp only [Act.put, List.setIfInBounds_toArray, List.set_cons_zero, List.set_cons_succ])
      | (refine wpList_boxG 39 rfl (.tmp 2) rfl L rfl ?_; intro X2 q1 q2 q3; have R2 : Hid (Row X2 X1.heap.size L 39) := q1; have B2 : Hid (Below w.heap.size w X2) := B1.out.trans (q2.mono B1.out.size); have R1b : Hid (Row X2 w.heap.size (vB root) 53) := Row.below R1.out q2 R1.out.lt; clear q1 q2 q3; simp only [Act.put, List.setIfInBounds_toArray, List.set_cons_zero, List.set_cons_succ]))
    obtain ⟨y, hy⟩ : ∃ y, y = X1.heap.size := ⟨_, rfl⟩
    obtain ⟨x, hx⟩ : ∃ x, x = w.heap.size := ⟨_, rfl⟩
    rw [← hy] at R2 ⊢
    rw [← hx] at R1b ⊢
    clear hy hx R1 B1
    go_wp2_with (first
      | (refine wpList_load_w rfl 39 (.tmp 6) rfl y (0) rfl L _ R2.out.all Tryz.underlying39 rfl HI.out ?_; simp only [Act.put, List.setIfInBounds_toArray, List.set_cons_zero, List.set_cons_succ])
      | (go_at_call 12; refine Calls.mono (HBY.out X2) ?_; rintro e X3 ⟨rfl, q⟩; have B3 : Hid (Below w.heap.size w X3) := B2.out.trans (q.mono B2.out.size); clear q))
    go_ret
    exact ⟨rfl, B3.out⟩
  | true =>
    rw [if_neg (by rw [hm]; decide)] at hO
    obtain ⟨T, hTx⟩ : ∃ T, T = lfb ix en tk rc am := ⟨_, rfl⟩
    have hTl : T.length ≤ 153 := by rw [hTx]; exact lfb_len ix en tk rc am hrc
    have HBY : Hid (∀ X, Calls Tryz.prog 12 #[.agg L.toArray] X fun e w' => ∃ A m cap, e = .returned (.tuple #[.slice A m cap, .int .i64 0]) ∧ Bw w' (.slice A m cap) T ∧ Below X.heap.size X w') := fun X => by
      refine (bytes_ok ix en tk rc am hrc ham hq4 hm L hL X).mono ?_
      rintro e w' ⟨A, m, cap, _, q1, q2, _, q3⟩
      exact ⟨A, m, cap, q1, by rw [hTx]; exact q2, q3⟩
    obtain ⟨C, hC⟩ : ∃ C, C = ck root n ix T ds := ⟨_, rfl⟩
    have HCK : Hid (∀ X lv, Below w.heap.size w X → Bw X lv T → Calls Tryz.prog 43 #[.agg (vB root).toArray, .int .i64 n, .int .i64 ix, lv, (.slice PA k pc)] X fun e w' => e = .returned (.int .i64 C) ∧ Below X.heap.size X w') := fun X lv h1 h2 => by
      rw [hC]
      exact check_any n ix root T ds hroot (by omega) _ lv X (hT.below h1 hT.lt) (hp.below h1) (slToT (Bw.sl h2))
    rw [← hTx, ← hC] at hO
    have hmi := may_in hm
    have hix1 : ix < 1099511627776 := hmi.2.1
    clear hTx hC hm hq4 hT hp hL hrc ham hroot hTl hmi
    by_cases h1 : n < 0
    · rw [if_pos (.inl h1)] at hO
      subst hO
      go_enter Tryz.func21, Tryz.ntmps21
      go_upto_region 1 with (first
        | (refine wpList_boxG 53 rfl (.tmp 0) rfl (vB root) rfl ?_; intro X1 q1 q2 q3; have R1 : Hid (Row X1 w.heap.size (vB root) 53) := q1; have B1 : Hid (Below w.heap.size w X1) := q2; clear q1 q2 q3; simp only [Act.put, List.setIfInBounds_toArray, List.set_cons_zero, List.set_cons_succ])
        | (refine wpList_boxG 39 rfl (.tmp 2) rfl L rfl ?_; intro X2 q1 q2 q3; have R2 : Hid (Row X2 X1.heap.size L 39) := q1; have B2 : Hid (Below w.heap.size w X2) := B1.out.trans (q2.mono B1.out.size); have R1b : Hid (Row X2 w.heap.size (vB root) 53) := Row.below R1.out q2 R1.out.lt; clear q1 q2 q3; simp only [Act.put, List.setIfInBounds_toArray, List.set_cons_zero, List.set_cons_succ]))
      obtain ⟨y, hy⟩ : ∃ y, y = X1.heap.size := ⟨_, rfl⟩
      obtain ⟨x, hx⟩ : ∃ x, x = w.heap.size := ⟨_, rfl⟩
      rw [← hy] at R2 ⊢
      rw [← hx] at R1b ⊢
      clear hy hx R1 B1
      go_wp2_with (first
        | (refine wpList_load_w rfl 39 (.tmp 6) rfl y (0) rfl L _ R2.out.all Tryz.underlying39 rfl HI.out ?_; simp only [Act.put, List.setIfInBounds_toArray, List.set_cons_zero, List.set_cons_succ])
        | (go_at_call 12; refine Calls.mono (HBY.out X2) ?_; rintro e X3 ⟨A3, m3, c3, rfl, q1, q2⟩; have W3 : Hid (Bw X3 (.slice A3 m3 c3) T) := q1; have B3 : Hid (Below w.heap.size w X3) := B2.out.trans (q2.mono B2.out.size); have c0 := (Row.below R2.out q2 R2.out.lt).cell 0 _ HL0.out; have R3 : Hid (Row X3 x (vB root) 53) := Row.below R1b.out q2 R1b.out.lt; clear q1 q2)
        | (refine wpList_load_w rfl 53 (.tmp 4) rfl x (0) rfl (vB root) _ R3.out.all Tryz.underlying53 rfl HID.out ?_; simp only [Act.put, List.setIfInBounds_toArray, List.set_cons_zero, List.set_cons_succ])
        | (go_at_call 43; refine Calls.mono (HCK.out X3 _ B3.out W3.out) ?_; rintro e X4 ⟨rfl, q⟩; have B4 : Hid (Below w.heap.size w X4) := B3.out.trans (q.mono B3.out.size); clear q))
      go_ret
      exact ⟨rfl, B3.out⟩
    by_cases h2 : (1099511627776 : Int) < n
    · rw [if_pos (.inr h2)] at hO
      have h2b : ¬ (n ≤ (1099511627776 : Int)) := by omega
      subst hO
      go_enter Tryz.func21, Tryz.ntmps21
      go_upto_region 1 with (first
        | (refine wpList_boxG 53 rfl (.tmp 0) rfl (vB root) rfl ?_; intro X1 q1 q2 q3; have R1 : Hid (Row X1 w.heap.size (vB root) 53) := q1; have B1 : Hid (Below w.heap.size w X1) := q2; clear q1 q2 q3; simp only [Act.put, List.setIfInBounds_toArray, List.set_cons_zero, List.set_cons_succ])
        | (refine wpList_boxG 39 rfl (.tmp 2) rfl L rfl ?_; intro X2 q1 q2 q3; have R2 : Hid (Row X2 X1.heap.size L 39) := q1; have B2 : Hid (Below w.heap.size w X2) := B1.out.trans (q2.mono B1.out.size); have R1b : Hid (Row X2 w.heap.size (vB root) 53) := Row.below R1.out q2 R1.out.lt; clear q1 q2 q3; simp only [Act.put, List.setIfInBounds_toArray, List.set_cons_zero, List.set_cons_succ]))
      obtain ⟨y, hy⟩ : ∃ y, y = X1.heap.size := ⟨_, rfl⟩
      obtain ⟨x, hx⟩ : ∃ x, x = w.heap.size := ⟨_, rfl⟩
      rw [← hy] at R2 ⊢
      rw [← hx] at R1b ⊢
      clear hy hx R1 B1
      go_wp2_with (first
        | (refine wpList_load_w rfl 39 (.tmp 6) rfl y (0) rfl L _ R2.out.all Tryz.underlying39 rfl HI.out ?_; simp only [Act.put, List.setIfInBounds_toArray, List.set_cons_zero, List.set_cons_succ])
        | (go_at_call 12; refine Calls.mono (HBY.out X2) ?_; rintro e X3 ⟨A3, m3, c3, rfl, q1, q2⟩; have W3 : Hid (Bw X3 (.slice A3 m3 c3) T) := q1; have B3 : Hid (Below w.heap.size w X3) := B2.out.trans (q2.mono B2.out.size); have c0 := (Row.below R2.out q2 R2.out.lt).cell 0 _ HL0.out; have R3 : Hid (Row X3 x (vB root) 53) := Row.below R1b.out q2 R1b.out.lt; clear q1 q2)
        | (refine wpList_load_w rfl 53 (.tmp 4) rfl x (0) rfl (vB root) _ R3.out.all Tryz.underlying53 rfl HID.out ?_; simp only [Act.put, List.setIfInBounds_toArray, List.set_cons_zero, List.set_cons_succ])
        | (go_at_call 43; refine Calls.mono (HCK.out X3 _ B3.out W3.out) ?_; rintro e X4 ⟨rfl, q⟩; have B4 : Hid (Below w.heap.size w X4) := B3.out.trans (q.mono B3.out.size); clear q))
      go_ret
      exact ⟨rfl, B3.out⟩
    rw [if_neg (by omega)] at hO
    by_cases h3 : n ≤ ix
    · rw [if_pos h3] at hO
      subst hO
      go_enter Tryz.func21, Tryz.ntmps21
      go_upto_region 1 with (first
        | (refine wpList_boxG 53 rfl (.tmp 0) rfl (vB root) rfl ?_; intro X1 q1 q2 q3; have R1 : Hid (Row X1 w.heap.size (vB root) 53) := q1; have B1 : Hid (Below w.heap.size w X1) := q2; clear q1 q2 q3; simp only [Act.put, List.setIfInBounds_toArray, List.set_cons_zero, List.set_cons_succ])
        | (refine wpList_boxG 39 rfl (.tmp 2) rfl L rfl ?_; intro X2 q1 q2 q3; have R2 : Hid (Row X2 X1.heap.size L 39) := q1; have B2 : Hid (Below w.heap.size w X2) := B1.out.trans (q2.mono B1.out.size); have R1b : Hid (Row X2 w.heap.size (vB root) 53) := Row.below R1.out q2 R1.out.lt; clear q1 q2 q3; simp only [Act.put, List.setIfInBounds_toArray, List.set_cons_zero, List.set_cons_succ]))
      obtain ⟨y, hy⟩ : ∃ y, y = X1.heap.size := ⟨_, rfl⟩
      obtain ⟨x, hx⟩ : ∃ x, x = w.heap.size := ⟨_, rfl⟩
      rw [← hy] at R2 ⊢
      rw [← hx] at R1b ⊢
      clear hy hx R1 B1
      go_wp2_with (first
        | (refine wpList_load_w rfl 39 (.tmp 6) rfl y (0) rfl L _ R2.out.all Tryz.underlying39 rfl HI.out ?_; simp only [Act.put, List.setIfInBounds_toArray, List.set_cons_zero, List.set_cons_succ])
        | (go_at_call 12; refine Calls.mono (HBY.out X2) ?_; rintro e X3 ⟨A3, m3, c3, rfl, q1, q2⟩; have W3 : Hid (Bw X3 (.slice A3 m3 c3) T) := q1; have B3 : Hid (Below w.heap.size w X3) := B2.out.trans (q2.mono B2.out.size); have c0 := (Row.below R2.out q2 R2.out.lt).cell 0 _ HL0.out; have R3 : Hid (Row X3 x (vB root) 53) := Row.below R1b.out q2 R1b.out.lt; clear q1 q2)
        | (refine wpList_load_w rfl 53 (.tmp 4) rfl x (0) rfl (vB root) _ R3.out.all Tryz.underlying53 rfl HID.out ?_; simp only [Act.put, List.setIfInBounds_toArray, List.set_cons_zero, List.set_cons_succ])
        | (go_at_call 43; refine Calls.mono (HCK.out X3 _ B3.out W3.out) ?_; rintro e X4 ⟨rfl, q⟩; have B4 : Hid (Below w.heap.size w X4) := B3.out.trans (q.mono B3.out.size); clear q))
      go_ret
      exact ⟨rfl, B3.out⟩
    rw [if_neg h3] at hO
    by_cases h4 : C = 0
    · rw [if_pos h4] at hO
      subst h4
      subst hO
      go_enter Tryz.func21, Tryz.ntmps21
      go_upto_region 1 with (first
        | (refine wpList_boxG 53 rfl (.tmp 0) rfl (vB root) rfl ?_; intro X1 q1 q2 q3; have R1 : Hid (Row X1 w.heap.size (vB root) 53) := q1; have B1 : Hid (Below w.heap.size w X1) := q2; clear q1 q2 q3; simp only [Act.put, List.setIfInBounds_toArray, List.set_cons_zero, List.set_cons_succ])
        | (refine wpList_boxG 39 rfl (.tmp 2) rfl L rfl ?_; intro X2 q1 q2 q3; have R2 : Hid (Row X2 X1.heap.size L 39) := q1; have B2 : Hid (Below w.heap.size w X2) := B1.out.trans (q2.mono B1.out.size); have R1b : Hid (Row X2 w.heap.size (vB root) 53) := Row.below R1.out q2 R1.out.lt; clear q1 q2 q3; simp only [Act.put, List.setIfInBounds_toArray, List.set_cons_zero, List.set_cons_succ]))
      obtain ⟨y, hy⟩ : ∃ y, y = X1.heap.size := ⟨_, rfl⟩
      obtain ⟨x, hx⟩ : ∃ x, x = w.heap.size := ⟨_, rfl⟩
      rw [← hy] at R2 ⊢
      rw [← hx] at R1b ⊢
      clear hy hx R1 B1
      go_wp2_with (first
        | (refine wpList_load_w rfl 39 (.tmp 6) rfl y (0) rfl L _ R2.out.all Tryz.underlying39 rfl HI.out ?_; simp only [Act.put, List.setIfInBounds_toArray, List.set_cons_zero, List.set_cons_succ])
        | (go_at_call 12; refine Calls.mono (HBY.out X2) ?_; rintro e X3 ⟨A3, m3, c3, rfl, q1, q2⟩; have W3 : Hid (Bw X3 (.slice A3 m3 c3) T) := q1; have B3 : Hid (Below w.heap.size w X3) := B2.out.trans (q2.mono B2.out.size); have c0 := (Row.below R2.out q2 R2.out.lt).cell 0 _ HL0.out; have R3 : Hid (Row X3 x (vB root) 53) := Row.below R1b.out q2 R1b.out.lt; clear q1 q2)
        | (refine wpList_load_w rfl 53 (.tmp 4) rfl x (0) rfl (vB root) _ R3.out.all Tryz.underlying53 rfl HID.out ?_; simp only [Act.put, List.setIfInBounds_toArray, List.set_cons_zero, List.set_cons_succ])
        | (go_at_call 43; refine Calls.mono (HCK.out X3 _ B3.out W3.out) ?_; rintro e X4 ⟨rfl, q⟩; have B4 : Hid (Below w.heap.size w X4) := B3.out.trans (q.mono B3.out.size); clear q))
      go_ret
      exact ⟨rfl, B4.out⟩
    · rw [if_neg h4] at hO
      subst hO
      go_enter Tryz.func21, Tryz.ntmps21
      go_upto_region 1 with (first
        | (refine wpList_boxG 53 rfl (.tmp 0) rfl (vB root) rfl ?_; intro X1 q1 q2 q3; have R1 : Hid (Row X1 w.heap.size (vB root) 53) := q1; have B1 : Hid (Below w.heap.size w X1) := q2; clear q1 q2 q3; simp only [Act.put, List.setIfInBounds_toArray, List.set_cons_zero, List.set_cons_succ])
        | (refine wpList_boxG 39 rfl (.tmp 2) rfl L rfl ?_; intro X2 q1 q2 q3; have R2 : Hid (Row X2 X1.heap.size L 39) := q1; have B2 : Hid (Below w.heap.size w X2) := B1.out.trans (q2.mono B1.out.size); have R1b : Hid (Row X2 w.heap.size (vB root) 53) := Row.below R1.out q2 R1.out.lt; clear q1 q2 q3; simp only [Act.put, List.setIfInBounds_toArray, List.set_cons_zero, List.set_cons_succ]))
      obtain ⟨y, hy⟩ : ∃ y, y = X1.heap.size := ⟨_, rfl⟩
      obtain ⟨x, hx⟩ : ∃ x, x = w.heap.size := ⟨_, rfl⟩
      rw [← hy] at R2 ⊢
      rw [← hx] at R1b ⊢
      clear hy hx R1 B1
      go_wp2_with (first
        | (refine wpList_load_w rfl 39 (.tmp 6) rfl y (0) rfl L _ R2.out.all Tryz.underlying39 rfl HI.out ?_; simp only [Act.put, List.setIfInBounds_toArray, List.set_cons_zero, List.set_cons_succ])
        | (go_at_call 12; refine Calls.mono (HBY.out X2) ?_; rintro e X3 ⟨A3, m3, c3, rfl, q1, q2⟩; have W3 : Hid (Bw X3 (.slice A3 m3 c3) T) := q1; have B3 : Hid (Below w.heap.size w X3) := B2.out.trans (q2.mono B2.out.size); have c0 := (Row.below R2.out q2 R2.out.lt).cell 0 _ HL0.out; have R3 : Hid (Row X3 x (vB root) 53) := Row.below R1b.out q2 R1b.out.lt; clear q1 q2)
        | (refine wpList_load_w rfl 53 (.tmp 4) rfl x (0) rfl (vB root) _ R3.out.all Tryz.underlying53 rfl HID.out ?_; simp only [Act.put, List.setIfInBounds_toArray, List.set_cons_zero, List.set_cons_succ])
        | (go_at_call 43; refine Calls.mono (HCK.out X3 _ B3.out W3.out) ?_; rintro e X4 ⟨rfl, q⟩; have B4 : Hid (Below w.heap.size w X4) := B3.out.trans (q.mono B3.out.size); clear q))
      go_ret
      exact ⟨rfl, B4.out⟩
end Go.Proofs.YtbfahgdienppoaaGreatDoor
