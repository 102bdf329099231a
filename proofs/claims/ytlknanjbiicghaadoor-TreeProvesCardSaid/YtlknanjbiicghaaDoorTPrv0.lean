/-
  TreeProves: its helpers; a log, the roots so far, and a log that was resumed, side by side.
-/
import Derived.Test.YtlknanjbiicghaaDoorTLog3
import Derived.Test.YtlknanjbiicghaaDoorTGrM
import Derived.Test.YtlknanjbiicghaaDoorTSome
import Derived.Test.YtlknanjbiicghaaDoorTAwk
namespace Go.Proofs.YtlknanjbiicghaaDoor
open Go Go.RowKit
open Sha

/-- Which one. -/
def pk (c n : Int) : Int := (if c < 0 then -(c + 1) else c) % n
theorem pk_range (c n : Int) (hn : 0 < n) : 0 ≤ pk c n ∧ pk c n < n := ⟨Int.emod_nonneg _ (by omega), Int.emod_lt_of_pos _ hn⟩
set_option maxRecDepth 100000 in
theorem pick_any (c n : Int) (hn : 0 < n) (h1 : -9223372036854775808 ≤ c) (h2 : c ≤ 9223372036854775807) (hn2 : n ≤ 9223372036854775807) (w : World) :
    Calls Tryd.prog 8 #[.int .i64 c, .int .i64 n] w fun e w' => e = .returned (.int .i64 (pk c n)) ∧ w' = w := by
  have hn0 : ¬ n = 0 := by omega
  have hn1 : ¬ n = -1 := by omega
  have hr := pk_range c n hn
  by_cases hc : c < 0
  · have e1 : Hid (pk c n = (-(c + 1)) % n) := by show _ = _; unfold pk; rw [if_pos hc]
    have e3 : (-(c + 1)).tmod n = pk c n := by rw [e1.out]; exact Int.tmod_eq_emod_of_nonneg (by omega)
    have e4 : (-1 + -c).tmod n = pk c n := by rw [show -1 + -c = -(c + 1) by omega]; exact e3
    have e5 : (-c + -1).tmod n = pk c n := by rw [show -c + -1 = -(c + 1) by omega]; exact e3
    generalize pk c n = r at *
    go_enter Tryd.func8, Tryd.ntmps8
    go_wp2
    go_ret
    exact ⟨by first | rfl | (simp; omega), rfl⟩
  · have e1 : Hid (pk c n = c % n) := by show _ = _; unfold pk; rw [if_neg hc]
    have e3 : c.tmod n = pk c n := by rw [e1.out]; exact Int.tmod_eq_emod_of_nonneg (by omega)
    generalize pk c n = r at *
    go_enter Tryd.func8, Tryd.ntmps8
    go_wp2
    go_ret
    exact ⟨by first | rfl | (simp; omega), rfl⟩


/-- Leaves that came in. -/
def Lw (w : World) (A : Option Addr) (ps : List (List (BitVec 8))) : Prop := ps = [] ∨ ∃ b o, A = some ⟨b, o, none⟩ ∧ LsAt w b o ps
theorem Lw.below {w w' : World} {A : Option Addr} {ps : List (List (BitVec 8))} (h : Lw w A ps) (k : Below w.heap.size w w') : Lw w' A ps := by
  rcases h with h | ⟨b, o, h1, h2⟩
  · exact .inl h
  · exact .inr ⟨b, o, h1, h2.below k⟩
theorem Lw.take {w : World} {A : Option Addr} {ps : List (List (BitVec 8))} (h : Lw w A ps) (k : Nat) : Lw w A (ps.take k) := by
  rcases h with h | ⟨b, o, h1, h2⟩
  · exact .inl (by subst h; simp)
  · exact .inr ⟨b, o, h1, h2.take k⟩
theorem some260_few (n : Nat) (hn : n ≤ 260) (A : Option Addr) (cap : Nat) (w : World) :
    Calls Tryd.prog 5 #[.slice A n cap, .int .i64 260] w fun e w' => e = .returned (.slice A n cap) ∧ w' = w := by
  have h1 : ¬ (260 : Int) < (n : Int) := by omega
  have h2 : (n : Int) ≤ 260 := by omega
  have h3 : decide ((260 : Int) < (n : Int)) = false := decide_eq_false h1
  go_enter Tryd.func5, Tryd.ntmps5
  go_wp2
  go_ret
  exact ⟨rfl, rfl⟩
theorem some260_many (n : Nat) (hn : 260 < n) (b o cap : Nat) (hc : n ≤ cap) (w : World) :
    Calls Tryd.prog 5 #[.slice (some ⟨b, o, none⟩) n cap, .int .i64 260] w fun e w' => e = .returned (.slice (some ⟨b, o, none⟩) 260 cap) ∧ w' = w := by
  have h1 : (260 : Int) < (n : Int) := by omega
  have h2 : ¬ (n : Int) ≤ 260 := by omega
  have h3 : decide ((260 : Int) < (n : Int)) = true := decide_eq_true h1
  have HC : Hid (260 ≤ cap) := by show _ ≤ _; omega
  clear hc hn
  go_enter Tryd.func5, Tryd.ntmps5
  go_wp2_with (refine wpList_slice_to rfl 22 38 (.tmp 9) (.tmp 10) b o n cap 260 rfl rfl rfl HC.out Tryd.underlying22 info_slb ?_; simp only [Act.put, List.setIfInBounds_toArray, List.set_cons_zero, List.set_cons_succ])
  go_ret
  exact ⟨rfl, rfl⟩
theorem some260 (ps : List (List (BitVec 8))) (n : Nat) (hn : ps.length = n) (A : Option Addr) (cap : Nat) (hc : n ≤ cap) (w : World) (hv : Lw w A ps) :
    Calls Tryd.prog 5 #[.slice A n cap, .int .i64 260] w fun e w' => e = .returned (.slice A (ps.take 260).length cap) ∧ w' = w := by
  by_cases h : n ≤ 260
  · rw [show (ps.take 260).length = n by rw [List.length_take]; omega]
    exact some260_few n h A cap w
  · rcases hv with h0 | ⟨b, o, rfl, _⟩
    · subst h0; simp at hn; omega
    · rw [show (ps.take 260).length = 260 by rw [List.length_take]; omega]
      exact some260_many n (by omega) b o cap hc w

/-- The roots of the first leaves, up to so many. -/
def rs (ps : List (List (BitVec 8))) (k : Nat) : List (List (BitVec 8)) := (List.range k).map fun j => rt (ps.take j)
theorem rs_len (ps : List (List (BitVec 8))) (k : Nat) : (rs ps k).length = k := by simp [rs]
theorem rs_more (ps : List (List (BitVec 8))) (k : Nat) : rs ps (k + 1) = rs ps k ++ [rt (ps.take k)] := by simp [rs, List.range_succ]
theorem rs_dl (ps : List (List (BitVec 8))) (k : Nat) : ∀ d ∈ rs ps k, d.length = 32 := fun d hd => by
  obtain ⟨j, _, rfl⟩ := List.mem_map.1 hd
  exact rt_length _
theorem rs_at (ps : List (List (BitVec 8))) (k j : Nat) (h : j < k) : (rs ps k).getD j [] = rt (ps.take j) := by
  unfold rs
  rw [List.getD_eq_getElem?_getD, List.getElem?_map, List.getElem?_range h]; rfl
theorem rs_flat (ps : List (List (BitVec 8))) (k : Nat) : vB (rs ps (k + 1)).flatten = vB (rs ps k).flatten ++ vB (rt (ps.take k)) := by
  rw [rs_more, List.flatten_append, vB_append]; simp

/-- The frontier of the first i leaves. -/
abbrev fi (ps : List (List (BitVec 8))) (i : Nat) : List (List (BitVec 8)) := fr 0 i (ps.take i)
theorem take_len (ps : List (List (BitVec 8))) (i : Nat) (h : i ≤ ps.length) : (ps.take i).length = i * 2 ^ 0 := by rw [List.length_take]; simp; omega
theorem fi_next (ps : List (List (BitVec 8))) (i : Nat) (h : i < ps.length) (hs : ps.length ≤ 260) : addF (t1 i) (fi ps i) (dig ([0#8] ++ ps.getD i [])) = fi ps (i + 1) := by
  have e : ps.take (i + 1) = ps.take i ++ [ps.getD i []] := by
    rw [List.take_succ_eq_append_getElem h, List.getD_eq_getElem?_getD, List.getElem?_eq_getElem h]; rfl
  have q := fr_add i 0 (ps.take i) [ps.getD i []] (take_len ps i (by omega)) rfl (by rw [List.length_append, List.length_take]; simp; omega)
  rw [rt_one [ps.getD i []] rfl] at q
  unfold fi
  rw [e]
  exact q
theorem fi_root (ps : List (List (BitVec 8))) (i : Nat) (h : i < ps.length) (hs : ps.length ≤ 260) : ∃ G z, fi ps (i + 1) = G ++ [z] ∧ G.foldr nd z = rt (ps.take (i + 1)) :=
  fr_root (i + 1) 0 (ps.take (i + 1)) (by omega) (take_len ps (i + 1) (by omega)) (by rw [List.length_take]; omega)
theorem pc_le (m : Nat) : ∀ k, m < 2 ^ k → pc m ≤ k := by
  induction m using Nat.strongRecOn with
  | ind m ih =>
    intro k hk
    by_cases h0 : m = 0
    · subst h0; rw [pc, dif_pos rfl]; exact Nat.zero_le _
    · cases k with
      | zero => simp at hk; omega
      | succ k =>
        rw [pc, dif_neg h0]
        rw [Nat.pow_succ] at hk
        have := ih (m / 2) (by omega) k (by omega)
        omega
theorem fi_len (ps : List (List (BitVec 8))) (i : Nat) (h : i ≤ 260) : (fi ps i).length = pc i ∧ (fi ps i).length ≤ 100 := by
  have e := fr_len i 0 (ps.take i)
  have := pc_le i 9 (by omega)
  exact ⟨e, by rw [e]; omega⟩
theorem fi_dl (ps : List (List (BitVec 8))) (i : Nat) : ∀ d ∈ fi ps i, d.length = 32 := fr_dl i 0 _

theorem Ow.row_ne {w : World} {v : Value} {n : Nat} {xs : List Value} {b : Nat} {cs : List Value} (h : Ow w v n xs) (r : Row w b cs tL) : ∀ g, v.ownBlock = some g → g ≠ b := fun g e q => by
  subst q
  rcases h.2 with ⟨h1, _⟩ | ⟨g', cap, cur, hv, _, hh, _⟩
  · rw [h1] at e; simp [Value.ownBlock] at e
  · rw [hv] at e
    simp only [Value.ownBlock, Option.some.injEq] at e
    subst e
    have := r.symm.trans hh
    simp only [Option.some.injEq, Obj.cells.injEq] at this
    exact absurd this.2.1 (by decide)

/-- A log of i leaves, k roots, another log. -/
structure Pv (B : Nat) (ps : List (List (BitVec 8))) (w : World) (P : Nat) (vt : Value) (i : Nat) (vr : Value) (k : Nat) (Pu : Nat) (vu : Value) (mu : Nat) (Fu : List (List (BitVec 8))) : Prop where
  t : Lg w P i vt (fi ps i)
  r : Ow w vr k (vB (rs ps k).flatten)
  u : Lg w Pu mu vu Fu
  ft : Fresh B vt
  fr : Fresh B vr
  fu : Fresh B vu
  pt : B ≤ P
  pu : B ≤ Pu
  d1 : Ap vt vr
  d2 : Ap vt vu
  d3 : Ap vr vu
  d4 : P ≠ Pu
section
variable {B : Nat} {ps : List (List (BitVec 8))} {w w' : World} {P : Nat} {vt : Value} {i : Nat} {vr : Value} {k : Nat} {Pu : Nat} {vu : Value} {mu : Nat} {Fu : List (List (BitVec 8))}
theorem Pv.be (h : Pv B ps w P vt i vr k Pu vu mu Fu) (q : Below w.heap.size w w') : Pv B ps w' P vt i vr k Pu vu mu Fu :=
  ⟨h.t.be q, h.r.be q, h.u.be q, h.ft, h.fr, h.fu, h.pt, h.pu, h.d1, h.d2, h.d3, h.d4⟩
theorem lt_old {n : Nat} {v : Value} {xs : List Value} (h : Ow w v n xs) {v2 : Value} (hf : Fresh w.heap.size v2) : Ap v v2 := fun g e e2 => by
  have := h.lt g e; have := hf g e2; omega
/-- Another log is taken in its place. -/
theorem Pv.new (h : Pv B ps w P vt i vr k Pu vu mu Fu) (q : Below w.heap.size w w') {P2 : Nat} {v2 : Value} {m2 : Nat} {F2 : List (List (BitVec 8))} (hl : Lg w' P2 m2 v2 F2) (hp : w.heap.size ≤ P2) (hf : Fresh w.heap.size v2) (hB : B ≤ w.heap.size) : Pv B ps w' P vt i vr k P2 v2 m2 F2 :=
  ⟨h.t.be q, h.r.be q, hl, h.ft, h.fr, hf.more hB, h.pt, Nat.le_trans hB hp, h.d1, lt_old h.t.own hf, lt_old h.r hf, by have := h.t.row.lt; omega⟩
/-- A leaf was added to the first. -/
theorem Pv.addT (h : Pv B ps w P vt i vr k Pu vu mu Fu) (hG : Gro (fun g => g = P ∨ vt.ownBlock = some g) w w') {vt2 : Value} (hl : Lg w' P (i + 1) vt2 (fi ps (i + 1))) (ho : vt2.ownBlock = vt.ownBlock ∨ ∃ g, vt2.ownBlock = some g ∧ w.heap.size ≤ g) (hB : B ≤ w.heap.size) : Pv B ps w' P vt2 (i + 1) vr k Pu vu mu Fu := by
  have ap : ∀ {n : Nat} {v : Value} {xs : List Value}, Ow w v n xs → Ap vt v → Ap vt2 v := fun {n v xs} hv ha g e e2 => by
    rcases ho with q | ⟨g2, q, hg⟩
    · exact ha g (q ▸ e) e2
    · rw [q] at e
      simp only [Option.some.injEq] at e
      have := hv.lt g e2
      omega
  refine ⟨hl, h.r.gro hG (fun g e q => ?_), h.u.gro hG (fun q => ?_) (fun g e q => ?_), fun g e => ?_, h.fr, h.fu, h.pt, h.pu, ap h.r h.d1, ap h.u.own h.d2, h.d3, h.d4⟩
  · rcases q with q | q
    · exact h.r.row_ne h.t.row g e q
    · exact h.d1 g q e
  · rcases q with q | q
    · exact h.d4 q.symm
    · exact h.t.own.row_ne h.u.row Pu q rfl
  · rcases q with q | q
    · exact h.u.own.row_ne h.t.row g e q
    · exact h.d2 g q e
  · rcases ho with q | ⟨g2, q, hg⟩
    · exact h.ft g (q ▸ e)
    · rw [q] at e
      simp only [Option.some.injEq] at e
      omega
/-- A leaf was added to the other. -/
theorem Pv.addU (h : Pv B ps w P vt i vr k Pu vu mu Fu) (hG : Gro (fun g => g = Pu ∨ vu.ownBlock = some g) w w') {vu2 : Value} {m2 : Nat} {F2 : List (List (BitVec 8))} (hl : Lg w' Pu m2 vu2 F2) (ho : vu2.ownBlock = vu.ownBlock ∨ ∃ g, vu2.ownBlock = some g ∧ w.heap.size ≤ g) (hB : B ≤ w.heap.size) : Pv B ps w' P vt i vr k Pu vu2 m2 F2 := by
  have ap : ∀ {n : Nat} {v : Value} {xs : List Value}, Ow w v n xs → Ap v vu → Ap v vu2 := fun {n v xs} hv ha g e e2 => by
    rcases ho with q | ⟨g2, q, hg⟩
    · exact ha g e (q ▸ e2)
    · rw [q] at e2
      simp only [Option.some.injEq] at e2
      have := hv.lt g e
      omega
  refine ⟨h.t.gro hG (fun q => ?_) (fun g e q => ?_), h.r.gro hG (fun g e q => ?_), hl, h.ft, h.fr, fun g e => ?_, h.pt, h.pu, h.d1, ap h.t.own h.d2, ap h.r h.d3, h.d4⟩
  · rcases q with q | q
    · exact h.d4 q
    · exact h.u.own.row_ne h.t.row P q rfl
  · rcases q with q | q
    · exact h.t.own.row_ne h.u.row g e q
    · exact h.d2 g e q
  · rcases q with q | q
    · exact h.r.row_ne h.u.row g e q
    · exact h.d3 g e q
  · rcases ho with q | ⟨g2, q, hg⟩
    · exact h.fu g (q ▸ e)
    · rw [q] at e
      simp only [Option.some.injEq] at e
      omega
/-- A root was appended. -/
theorem Pv.addR (h : Pv B ps w P vt i vr k Pu vu mu Fu) {vr2 : Value} (q1 : Ow w' vr2 (k + 1) (vB (rs ps k).flatten ++ vB (rt (ps.take k)))) (q2 : w.grownBy w' vr.ownBlock) (q3 : vr2.ownBlock = vr.ownBlock ∨ vr2.ownBlock = some w.heap.size) (hB : B ≤ w.heap.size) : Pv B ps w' P vt i vr2 (k + 1) Pu vu mu Fu := by
  have hG : Gro (fun g => vr.ownBlock = some g) w w' := (Gro.refl _ _).grown q2 (fun g e => .inl e)
  have ap : ∀ {n : Nat} {v : Value} {xs : List Value}, Ow w v n xs → Ap v vr → Ap v vr2 := fun {n v xs} hv ha g e e2 => by
    rcases q3 with q | q
    · exact ha g e (q ▸ e2)
    · rw [q] at e2
      simp only [Option.some.injEq] at e2
      have := hv.lt g e
      omega
  refine ⟨h.t.gro hG (fun q => h.r.row_ne h.t.row P q rfl) (fun g e q => h.d1 g e q), by rw [rs_flat]; exact q1, h.u.gro hG (fun q => h.r.row_ne h.u.row Pu q rfl) (fun g e q => h.d3 g q e), h.ft, fun g e => ?_, h.fu, h.pt, h.pu, ap h.t.own h.d1, h.d2, (ap h.u.own h.d3.symm).symm, h.d4⟩
  rcases q3 with q | q
  · exact h.fr g (q ▸ e)
  · rw [q] at e
    simp only [Option.some.injEq] at e
    omega
end
/-- Nothing below B was changed. -/
theorem gro_b {R : Nat → Prop} {B : Nat} {w a b : World} (h : Below B w a) (hB : B ≤ a.heap.size) (k : Gro R a b) (hR : ∀ g, R g → B ≤ g) : Below B w b := h.trans (k.to_below hB hR)

theorem growth_all (ps : List (List (BitVec 8))) (n m : Nat) (hn : ps.length = n) (hs : n ≤ 260) (hm : m ≤ n) (hl : ∀ j, j < ps.length → (ps.getD j []).length < 1152921504606846975) (A : Option Addr) (cap : Nat) (hc : n ≤ cap) (w : World) (hK : Tab w 2) (hv : Lw w A ps) :
    Calls Tryd.prog 14 #[.slice A n cap, .int .i64 (m : Int)] w fun e w' => ∃ v, e = .returned (.tuple #[v, .int .i64 0]) ∧ PAt w' v (gq0 m ps) ∧ Below w.heap.size w w' := by
  by_cases h0 : m = 0
  · subst h0
    refine (grow_zero A n cap w).mono ?_
    rintro e w' ⟨rfl, hB⟩
    exact ⟨_, rfl, ⟨(fun d hd => nomatch hd), none, 0, rfl, Nat.le_refl _, .inl rfl⟩, hB⟩
  · rcases hv with h | ⟨b, o, rfl, h⟩
    · subst h; simp at hn; omega
    · refine (grow_in n m ps hn (by omega) hm (by omega) hl b o cap hc w hK h).mono ?_
      rintro e w' ⟨v, rfl, hO, hB⟩
      refine ⟨v, rfl, ?_, hB⟩
      unfold gq0
      rw [if_neg h0]
      exact PAt.of_own hO (gr_fact n m true ps hn (by omega) hm (by omega)).1
section
variable {P : Program} {ops : Array Oper} {rest : List Oper} {op : Oper} {a : Act} {w : World} {Q : Exit → Act → World → Prop}
theorem wpList_neq_w (hw : Region.wanted op (yielded ops a.tmps) = true) (t : TypeId) (x y : Operand) (yt : TypeId) (ho : op.op = .binOp .neq t x y yt) (e n : Nat) (l : List (BitVec 8)) (hx : a.eval x = .agg (vB l).toArray) (hy : a.eval y = .agg (vB l).toArray)
    (ht : P.underlying t = some (.array n e)) (he : P.underlying e = some (.int .u8)) (hs : (P.info? e).map (·.size) = some 1) (hl : l.length = n) (hm : P.eqGuardType P.depth t = false)
    (h : wpList P ops Q rest (a.put op.dst (.bool false)) w) : wpList P ops Q (op :: rest) a w :=
  BigFrame.wpList_want hw fun _ hK => wp_neq_d t x y yt ho e n l l hx hy ht he hs hl hl hm false (by simp) (hK _ _ h)
end
/-- A digest that was laid into a new block. -/
theorem laid_d (W : World) (d : List (BitVec 8)) (hd : d.length = 32) : ∃ X, X = (W.alloc (Obj.cells #[.int .u8 0, .int .u8 0, .int .u8 0, .int .u8 0, .int .u8 0, .int .u8 0, .int .u8 0, .int .u8 0, .int .u8 0, .int .u8 0, .int .u8 0, .int .u8 0, .int .u8 0, .int .u8 0, .int .u8 0, .int .u8 0, .int .u8 0, .int .u8 0, .int .u8 0, .int .u8 0, .int .u8 0, .int .u8 0, .int .u8 0, .int .u8 0, .int .u8 0, .int .u8 0, .int .u8 0, .int .u8 0, .int .u8 0, .int .u8 0, .int .u8 0, .int .u8 0] 28)).setCells W.heap.size 0 (vB d) ∧ Row X W.heap.size (vB d) 28 ∧ Below W.heap.size W X := by
  refine ⟨_, rfl, ?_, below_setCells ((Below.refl W.heap.size W).alloc (Nat.le_refl _) _) (Nat.le_refl _) _⟩
  exact Row.over (Row.new' (cs := (vB (List.replicate 32 0#8))) rfl rfl) (vs := vB d) (by rw [vB_length, hd]; rfl)

end Go.Proofs.YtlknanjbiicghaaDoor
