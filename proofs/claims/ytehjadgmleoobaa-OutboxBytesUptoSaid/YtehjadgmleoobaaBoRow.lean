/-
  The law OutboxBytes: its row, where what comes in is of no great bulk.
-/
import Derived.Test.YtehjadgmleoobaaBoG
import Derived.Test.YtehjadgmleoobaaRowB
import Derived.Deep.SlicePairs
import Derived.JoinedCond
namespace Go.Proofs.Ytehjadgmleoobaa.obytes
open Go Go.RowKit Go.ChangeShapes Go.WideShapes Go.ChangeAt
open Sha

theorem cellsI : Try.prog.cellsOf 3 = 1 := by kernel_rfl
theorem int_fb {H : Type} {enc : TypeId × Value → H} {W : World} {base : Nat} {held : Bool} {n : Nat} {v : Value} {y : DataW H × List MemPlace} (g : DataW.trod enc Try.prog W base (fun _ => true) held n 3 [v] = some y) : ∃ z, v = .int .i64 z ∧ -9223372036854775808 ≤ z ∧ z ≤ 9223372036854775807 := by
  obtain ⟨z, e, _, wz⟩ := DataW.trod_int Try.underlying3 g
  simp only [List.cons.injEq, and_true] at e
  exact ⟨z, e, bounds_i64 wz⟩
/-- Bytes. -/
theorem cellsSl : Try.prog.cellsOf 29 = 1 := by kernel_rfl
theorem bulk_one {H : Type} (d : DataW H) : 1 ≤ Rows.uptoBulk d := by
  cases d with
  | lit l => cases l <;> simp [Rows.uptoBulk]
  | nil => simp [Rows.uptoBulk]
  | ptr d => simp [Rows.uptoBulk]
  | slice elems spare => simp [Rows.uptoBulk]
  | agg parts => simp [Rows.uptoBulk]
  | iface t d => simp [Rows.uptoBulk]
  | map entries => simp [Rows.uptoBulk]
  | held h => simp [Rows.uptoBulk]
theorem bulk_part {H : Type} {d : DataW H} {l : List (DataW H)} (h : d ∈ l) : Rows.uptoBulk d ≤ Rows.uptoBulkAll l := by
  induction l with
  | nil => cases h
  | cons x r ih =>
    simp only [Rows.uptoBulkAll]
    cases List.mem_cons.1 h with
    | inl e => subst e; omega
    | inr e => have := ih e; omega
theorem bulk_len {H : Type} (l : List (DataW H)) : l.length ≤ Rows.uptoBulkAll l := by
  induction l with
  | nil => simp [Rows.uptoBulkAll]
  | cons x r ih => have := bulk_one x; simp only [Rows.uptoBulkAll, List.length_cons]; omega
theorem bulk_mul {H : Type} (l : List (DataW H)) (h : ∀ d ∈ l, 5 ≤ Rows.uptoBulk d) : l.length * 5 ≤ Rows.uptoBulkAll l := by
  induction l with
  | nil => simp [Rows.uptoBulkAll]
  | cons x r ih =>
    have h1 := h x List.mem_cons_self
    have h2 := ih (fun d hd => h d (List.mem_cons_of_mem _ hd))
    simp only [Rows.uptoBulkAll, List.length_cons]
    omega
theorem bulk_slice {H : Type} (l r : List (DataW H)) : l.length ≤ Rows.uptoBulk (.slice l r) ∧ ∀ d ∈ l, Rows.uptoBulk d ≤ Rows.uptoBulk (.slice l r) := by
  have h1 := bulk_len l
  refine ⟨by simp only [Rows.uptoBulk]; omega, fun d hd => ?_⟩
  have h2 := bulk_part hd
  simp only [Rows.uptoBulk]
  omega
theorem cellsU64 : Try.prog.cellsOf 35 = 1 := by kernel_rfl
theorem cellsWide : Try.prog.cellsOf 37 = 4 := by kernel_rfl
theorem cellsAdr : Try.prog.cellsOf 34 = 20 := by kernel_rfl
theorem parts_l (xs : List Value) (hl : xs.length = 4) (key : ∀ i (h : i < xs.length), ∃ z : Int, xs[i] = .int .u64 z ∧ 0 ≤ z ∧ z ≤ 18446744073709551615) : ∃ l : List Nat, l.length = 4 ∧ (∀ y ∈ l, y < 18446744073709551616) ∧ xs = vQ l := by
  refine ⟨xs.map (fun v => (intOf v).toNat), by simp [hl], fun y hy => ?_, ?_⟩
  · obtain ⟨v, hv, rfl⟩ := List.mem_map.1 hy
    obtain ⟨i, hi, rfl⟩ := List.mem_iff_getElem.1 hv
    obtain ⟨z, hz, z0, z1⟩ := key i hi
    rw [hz]
    simp only [intOf]
    omega
  · unfold vQ
    rw [List.map_map]
    refine List.ext_getElem (by simp) fun i h1 h2 => ?_
    obtain ⟨z, hz, z0, z1⟩ := key i h1
    rw [List.getElem_map, hz]
    simp only [Function.comp_apply, intOf]
    congr 1
    omega
set_option maxRecDepth 100000 in
section
variable {H : Type} {enc : TypeId × Value → H} {W : World} {base : Nat} {held : Bool} {fuel n : Nat} {cs : List Value} {x : DataW H × List MemPlace}
theorem wide_l {sp : Nat → Bool} (hl : cs.length = 4) (h : DataW.trod enc Try.prog W base sp held fuel 37 cs = some x) : ∃ l : List Nat, l.length = 4 ∧ (∀ y ∈ l, y < 18446744073709551616) ∧ cs = vQ l := by
  cases fuel with
  | zero => simp [DataW.trod] at h
  | succ m =>
    rw [DataW.trod_step] at h
    unfold DataW.trodStep at h
    simp only [Try.underlying37] at h
    rw [if_pos (by rw [cellsWide]; exact hl)] at h
    simp only [Option.map_eq_some_iff] at h
    obtain ⟨ys, hy, _⟩ := h
    have each := mapM_each hy
    refine parts_l cs hl (fun i h => ?_)
    obtain ⟨y, hy⟩ := each i (List.mem_range.2 (by omega))
    rw [cellsU64, Nat.mul_one] at hy
    obtain ⟨z, hz, _, wz⟩ := DataW.trod_int Try.underlying35 hy
    have hb := bounds_u64 wz
    refine ⟨z, ?_, hb.1, hb.2⟩
    rw [List.drop_eq_getElem_cons h, List.take_succ_cons, List.take_zero] at hz
    exact (List.cons.inj hz).1
theorem adr_f {cs : List Value} {y : DataW H × List MemPlace} (g : DataW.trod enc Try.prog W base (fun _ => true) held n 34 cs = some y) : ∃ l : List (BitVec 8), l.length = 20 ∧ cs = vB l := by
  cases n with
  | zero => simp [DataW.trod] at g
  | succ m =>
    rw [DataW.trod_step] at g
    unfold DataW.trodStep at g
    simp only [Try.underlying34] at g
    split at g
    · rename_i h2
      rw [cellsAdr] at h2
      simp only [Option.map_eq_some_iff] at g
      obtain ⟨ys, hy, _⟩ := g
      have each := mapM_each hy
      have key : ∀ i (h : i < cs.length), ∃ z, cs[i] = .int .u8 z ∧ 0 ≤ z ∧ z ≤ 255 := fun i h => by
        obtain ⟨y, hy⟩ := each i (List.mem_range.2 (by omega))
        rw [cellsU8, Nat.mul_one] at hy
        obtain ⟨z, hz, _, wz⟩ := DataW.trod_int Try.underlying5 hy
        have hb := bounds_u8 wz
        refine ⟨z, ?_, hb.1, hb.2⟩
        rw [List.drop_eq_getElem_cons h] at hz
        simp only [List.take_succ_cons, List.take_zero, List.cons.injEq, and_true] at hz
        exact hz
      refine ⟨cs.map (fun v => BitVec.ofInt 8 (intOf v)), by simp; omega, ?_⟩
      unfold vB
      rw [List.map_map]
      refine (List.ext_getElem (by simp) fun i h1 h2 => ?_)
      obtain ⟨z, hz, hz0, hz1⟩ := key i h1
      rw [List.getElem_map, hz]
      simp only [Function.comp_apply, intOf]
      unfold c
      rw [BitVec.toNat_ofInt]
      congr 1
      omega
    · cases g
theorem one_take11 (cs : List Value) (k : Nat) (h : k < cs.length) : (cs.drop k).take 1 = [cs.getD k undef] := by
  rw [List.drop_eq_getElem_cons h]
  simp only [List.take_succ_cons, List.take_zero, List.getD_eq_getElem?_getD, List.getElem?_eq_getElem h, Option.getD_some]
theorem cellsLf : Try.prog.cellsOf 39 = 27 := by kernel_rfl
theorem cut3 (cs : List Value) (a b c : Nat) (h : cs.length = a + b + c) : cs = cs.take a ++ ((cs.drop a).take b ++ (cs.drop (a + b)).take c) := by
  have e1 : (cs.drop (a + b)).take c = cs.drop (a + b) := List.take_of_length_le (by rw [List.length_drop]; omega)
  rw [e1, ← List.drop_drop, List.take_append_drop, List.take_append_drop]
theorem leaf_fb {cs : List Value} (hl : cs.length = 27) {y : DataW H × List MemPlace} (g : DataW.trod enc Try.prog W base (fun _ => true) held n 39 cs = some y) : ∃ s : Lfv, s.Ok ∧ 5 ≤ Rows.uptoBulk y.1 ∧ cs = lf s.ix s.en s.tk s.rc s.am := by
  obtain ⟨xs, k, hk, hxy, _, hxl, hff⟩ := DataW.trod_struct Try.underlying39 g
  change ∀ (i : Nat) (f : Field), _ → DataW.trod enc Try.prog W base (fun _ => true) held k f.type ((cs.drop f.offset).take (Try.prog.cellsOf f.type)) = xs[i]? at hff
  obtain ⟨y0, y1, y2, y3, y4, rfl⟩ : ∃ y0 y1 y2 y3 y4, xs = [y0, y1, y2, y3, y4] := by
    match xs, hxl with
    | [y0, y1, y2, y3, y4], _ => exact ⟨y0, y1, y2, y3, y4, rfl⟩
  have g0 := hff 0 _ rfl
  change DataW.trod enc Try.prog W base (fun _ => true) held k 3 ((cs.drop 0).take (Try.prog.cellsOf 3)) = some y0 at g0
  rw [cellsI, one_take11 cs 0 (by omega)] at g0
  obtain ⟨z0, e0, _, u0⟩ := int_fb g0
  have g1 := hff 1 _ rfl
  change DataW.trod enc Try.prog W base (fun _ => true) held k 3 ((cs.drop 1).take (Try.prog.cellsOf 3)) = some y1 at g1
  rw [cellsI, one_take11 cs 1 (by omega)] at g1
  obtain ⟨z1, e1, _, u1⟩ := int_fb g1
  have g2 := hff 2 _ rfl
  change DataW.trod enc Try.prog W base (fun _ => true) held k 3 ((cs.drop 2).take (Try.prog.cellsOf 3)) = some y2 at g2
  rw [cellsI, one_take11 cs 2 (by omega)] at g2
  obtain ⟨z2, e2, _, u2⟩ := int_fb g2
  have g3 := hff 3 _ rfl
  change DataW.trod enc Try.prog W base (fun _ => true) held k 34 ((cs.drop 3).take (Try.prog.cellsOf 34)) = some y3 at g3
  rw [cellsAdr] at g3
  obtain ⟨rc, hrc, e3⟩ := adr_f g3
  have g4 := hff 4 _ rfl
  change DataW.trod enc Try.prog W base (fun _ => true) held k 37 ((cs.drop 23).take (Try.prog.cellsOf 37)) = some y4 at g4
  rw [cellsWide] at g4
  obtain ⟨am, ham, hq, e4⟩ := wide_l (by rw [List.length_take, List.length_drop, hl]; rfl) g4
  refine ⟨⟨z0, z1, z2, rc, am⟩, ⟨by show z0 < _; omega, by show z1 < _; omega, by show z2 < _; omega, hrc, ham, hq⟩, (by rw [hxy]; have := bulk_len (List.map (fun x => x.1) [y0, y1, y2, y3, y4]); simp only [Rows.uptoBulk]; simp only [List.length_map, List.length_cons, List.length_nil] at this; omega), ?_⟩
  have hs : cs = [cs.getD 0 undef] ++ ([cs.getD 1 undef] ++ ([cs.getD 2 undef] ++ ((cs.drop 3).take 20 ++ (cs.drop 23).take 4))) := by
    have c1 := cut3 cs 3 20 4 hl
    have c2 : cs.take 3 = [cs.getD 0 undef] ++ ([cs.getD 1 undef] ++ [cs.getD 2 undef]) := by
      match cs, hl with
      | a :: b :: c :: r, _ => simp
    rw [c2] at c1
    simpa [List.append_assoc] using c1
  rw [hs, e0, e1, e2, e3, e4]
  rfl

theorem bytes_fx {v : Value} {y : DataW H × List MemPlace} (g : DataW.trod enc Try.prog W base (fun _ => true) held n 29 [v] = some y) : ∃ (d : List (BitVec 8)) (A : Option Addr) (cap : Nat), v = .slice A d.length cap ∧ SlAt W (.slice A d.length cap) d ∧ (A = none → cap = 0) ∧ d.length ≤ cap ∧ d.length ≤ Rows.uptoBulk y.1 := by
  rcases open_ints Try.underlying29 Try.underlying5 cellsU8 g with ⟨hcs, hy⟩ | ⟨a', L, C, Z, hcs, _, hl, hm, hz, hy, hcell, hwz⟩
  · simp only [List.cons.injEq, and_true] at hcs
    exact ⟨[], none, 0, hcs, .inl ⟨rfl, _, _, rfl⟩, fun _ => rfl, Nat.zero_le _, Nat.zero_le _⟩
  · simp only [List.cons.injEq, and_true] at hcs
    simp only [if_true] at hz
    obtain ⟨hlen, hsl⟩ := bytes_of (W := W) (A := some a') hl hz hwz (fun h => by cases h) (fun a'' ha c hc => by cases ha; exact hcell c (by rw [hz]; exact hc))
    refine ⟨(Z.take L).map (BitVec.ofInt 8), some a', C, by rw [hlen]; exact hcs, by rw [hlen]; exact hsl, (fun h => by cases h), by rw [hlen]; exact hl, ?_⟩
    rw [hlen, hy]
    refine Nat.le_trans ?_ (bulk_slice _ _).1
    simp only [lits, List.length_map, List.length_take]
    omega
/-- A text that came in. -/
def Tx0 (W : World) (v : Value) (d : List (BitVec 8)) : Prop := ∃ A cap g ao, v = .slice A d.length cap ∧ d.length ≤ cap ∧ ((d = [] ∧ (A = none → cap = 0)) ∨ A = some ⟨g, ao, none⟩) ∧ (0 < d.length → W.rangeAt g ao (vB d))
theorem tx0_of {v : Value} {d : List (BitVec 8)} {A : Option Addr} {cap : Nat} (e : v = .slice A d.length cap) (hc : d.length ≤ cap) (hs : SlAt W (.slice A d.length cap) d) (hn : A = none → cap = 0) : Tx0 W v d := by
  rcases hs with ⟨e0, _⟩ | ⟨ab, ao, cap', e1, _, r⟩
  · exact ⟨A, cap, 0, 0, e, hc, .inl ⟨e0, hn⟩, fun h => by rw [e0] at h; cases h⟩
  · simp only [Value.slice.injEq] at e1
    exact ⟨A, cap, ab, ao, e, hc, .inr e1.1, fun _ => r⟩
theorem leaves_f {v : Value} {y : DataW H × List MemPlace} (g : DataW.trod enc Try.prog W base (fun _ => true) held n 22 [v] = some y) : ∃ (ls : List Lfv) (A : Option Addr) (cap : Nat), v = .slice A ls.length cap ∧ ls.length * 5 ≤ Rows.uptoBulk y.1 ∧ La W A ls := by
  rcases Deep.open_slice Try.underlying22 g with ⟨hcs, _⟩ | ⟨ad, l, c', m, k, D, Pl, hcs, _, hl, hm, hmm, hx, hr⟩
  · simp only [List.cons.injEq, and_true] at hcs
    exact ⟨[], none, 0, hcs, by simp, fun i r h => by simp at h⟩
  · simp only [List.cons.injEq, and_true] at hcs
    simp only [if_true] at hmm
    subst hmm
    have each : ∀ i, i < l → ∃ s : Lfv, (s.Ok ∧ 5 ≤ Rows.uptoBulk (D i)) ∧ ∀ q u, (lf s.ix s.en s.tk s.rc s.am)[q]? = some u → W.cell? (ad.add (i * 27 + q)) = some u := by
      intro i hi
      obtain ⟨cs', h1, h2⟩ := hr i (by omega)
      rw [cellsLf] at h1
      obtain ⟨_, hlen, hcell⟩ := World.cells?_some h1
      obtain ⟨s, hok, h5, e⟩ := leaf_fb (by simpa using hlen) h2
      refine ⟨s, ⟨hok, h5⟩, fun q u hq => ?_⟩
      have hq27 : q < 27 := by have := (List.getElem?_eq_some_iff.1 hq).1; rw [lf_len hok.rc hok.am] at this; exact this
      have e2 := hcell q hq27
      rw [Deep.add_add] at e2
      rw [e2, e]; exact hq
    haveI : Inhabited Lfv := ⟨⟨0, 0, 0, [], []⟩⟩
    obtain ⟨f, hf⟩ := Deep.choose_lt each
    refine ⟨(List.range l).map f, some ad, m, by simp [hcs], ?_, fun i r hr => ?_⟩
    · rw [hx]
      have := bulk_mul ((List.range l).map D) (fun d hd => by obtain ⟨i, hi, rfl⟩ := List.mem_map.1 hd; exact (hf i (List.mem_range.1 hi)).1.2)
      simp only [Rows.uptoBulk, List.length_map, List.length_range] at this ⊢
      omega
    · simp only [List.getElem?_map, Option.map_eq_some_iff] at hr
      obtain ⟨i', hi', rfl⟩ := hr
      have hil : i < l := by have := (List.getElem?_eq_some_iff.1 hi').1; simpa using this
      obtain rfl : i = i' := by rw [List.getElem?_range hil] at hi'; exact Option.some.inj hi'
      obtain ⟨⟨q1, _⟩, q2⟩ := hf i hil
      obtain ⟨b, off, spot⟩ := ad
      obtain ⟨⟨q0, _⟩, q02⟩ := hf 0 (by omega)
      have h1 := q02 0 _ (List.getElem?_eq_getElem (by rw [lf_len q0.rc q0.am]; decide))
      have hspot : spot = none := by simpa [Addr.add] using World.cell?_spot h1
      subst hspot
      refine ⟨q1, b, off, rfl, fun j u hu => ?_⟩
      have := q2 j u hu
      rw [Addr.add_mid, show off + (i * 27 + j) = off + i * 27 + j by omega] at this
      exact this
theorem texts_f {v : Value} {y : DataW H × List MemPlace} (g : DataW.trod enc Try.prog W base (fun _ => true) held n 23 [v] = some y) : ∃ (vs : List Value) (ts : List (List (BitVec 8))) (A : Option Addr) (cap : Nat), v = .slice A ts.length cap ∧ vs.length = ts.length ∧ (A = none → cap = 0) ∧ ts.length ≤ cap ∧ ts.length ≤ Rows.uptoBulk y.1 ∧ (∀ d ∈ ts, d.length ≤ Rows.uptoBulk y.1) ∧ (∀ (i : Nat) (u : Value), vs[i]? = some u → ∃ b o, A = some ⟨b, o, none⟩ ∧ W.cell? ⟨b, o + i, none⟩ = some u) ∧ (∀ (i : Nat) (u : Value) (d : List (BitVec 8)), vs[i]? = some u → ts[i]? = some d → Tx0 W u d) := by
  rcases Deep.open_slice Try.underlying23 g with ⟨hcs, _⟩ | ⟨ad, l, c', m, k, D, Pl, hcs, _, hl, hm, hmm, hx, hr⟩
  · simp only [List.cons.injEq, and_true] at hcs
    exact ⟨[], [], none, 0, hcs, rfl, fun _ => rfl, Nat.le_refl _, Nat.zero_le _, fun d hd => by simp at hd, fun i u h => by simp at h, fun i u d h => by simp at h⟩
  · simp only [List.cons.injEq, and_true] at hcs
    simp only [if_true] at hmm
    subst hmm
    have each : ∀ i, i < l → ∃ p : Value × List (BitVec 8), W.cell? (ad.add i) = some p.1 ∧ Tx0 W p.1 p.2 ∧ p.2.length ≤ Rows.uptoBulk y.1 := by
      intro i hi
      obtain ⟨cs', h1, h2⟩ := hr i (by omega)
      rw [cellsSl] at h1
      obtain ⟨_, hlen, hcell⟩ := World.cells?_some h1
      obtain ⟨u, rfl⟩ : ∃ u, cs' = [u] := by
        match cs', hlen with
        | [u], _ => exact ⟨u, rfl⟩
      have e2 := hcell 0 (by decide)
      rw [Deep.add_add, Nat.mul_one, Nat.add_zero] at e2
      obtain ⟨d, A, cap, q1, q2, q3, q4, q5⟩ := bytes_fx h2
      refine ⟨(u, d), e2, tx0_of q1 q4 q2 q3, Nat.le_trans q5 ?_⟩
      rw [hx]
      exact (bulk_slice _ _).2 _ (List.mem_map.2 ⟨i, List.mem_range.2 hi, rfl⟩)
    haveI : Inhabited (Value × List (BitVec 8)) := ⟨(undef, [])⟩
    obtain ⟨f, hf⟩ := Deep.choose_lt each
    refine ⟨(List.range l).map (fun i => (f i).1), (List.range l).map (fun i => (f i).2), some ad, m, by simp [hcs], by simp, (fun h => by cases h), by simpa using hl, ?_, fun d hd => ?_, fun i u hu => ?_, fun i u d hu hd => ?_⟩
    · rw [hx]
      refine Nat.le_trans ?_ (bulk_slice _ _).1
      simp
    · obtain ⟨i, hi, rfl⟩ := List.mem_map.1 hd
      exact (hf i (List.mem_range.1 hi)).2.2
    · simp only [List.getElem?_map, Option.map_eq_some_iff] at hu
      obtain ⟨i', hi', rfl⟩ := hu
      have hil : i < l := by have := (List.getElem?_eq_some_iff.1 hi').1; simpa using this
      obtain rfl : i = i' := by rw [List.getElem?_range hil] at hi'; exact Option.some.inj hi'
      have h1 := (hf i hil).1
      have hz := (hf 0 (by omega)).1
      obtain ⟨b, off, spot⟩ := ad
      have hspot : spot = none := by simpa [Addr.add] using World.cell?_spot hz
      subst hspot
      rw [Addr.add_mid] at h1
      exact ⟨b, off, rfl, h1⟩
    · simp only [List.getElem?_map, Option.map_eq_some_iff] at hu hd
      obtain ⟨i', hi', rfl⟩ := hu
      obtain ⟨i2, hi2, rfl⟩ := hd
      rw [hi'] at hi2
      obtain rfl := Option.some.inj hi2
      have hil : i < l := by have := (List.getElem?_eq_some_iff.1 hi').1; simpa using this
      obtain rfl : i = i' := by rw [List.getElem?_range hil] at hi'; exact Option.some.inj hi'
      exact (hf i hil).2.1
end
/-- The state at the law's beginning. -/
theorem lp_start {W : World} {vs : List Value} {ts : List (List (BitVec 8))} {A : Option Addr} {cap : Nat} (h1 : vs.length = ts.length) (h2 : A = none → cap = 0) (h3 : ts.length ≤ cap) (h4 : ∀ d ∈ ts, d.length ≤ 1048576) (h5 : ∀ (i : Nat) (u : Value), vs[i]? = some u → ∃ b o, A = some ⟨b, o, none⟩ ∧ W.cell? ⟨b, o + i, none⟩ = some u) (h6 : ∀ (i : Nat) (u : Value) (d : List (BitVec 8)), vs[i]? = some u → ts[i]? = some d → Tx0 W u d)
    (X : World) (B : Nat) (r : Row X B (bkc (.slice none 0 0) (.slice none 0 0)) 28) (hB : W.heap.size ≤ B) (k : Below W.heap.size W X) : Lp W X B 0 ts.length A cap W.heap.size := by
  have ap : ∀ g, g < W.heap.size → Ap B (.slice none 0 0) (.slice none 0 0) g := fun g hg => ⟨by omega, by simp [Value.ownBlock], by simp [Value.ownBlock]⟩
  refine ⟨(.slice none 0 0), (.slice none 0 0), [], [], [], vs, ts, Bbk.start r hB k, rfl, (fun d hd => by simp at hd), (fun u hu => by simp at hu), ⟨h1, fun i v hv => ?_, fun i v d hv hd => ?_⟩, rfl, fun d hd => Nat.le_trans (h4 d hd) (by decide), h3, h2⟩
  · obtain ⟨b, o, q1, q2⟩ := h5 i v hv
    exact ⟨b, o, q1, cell_be q2 k, ap b (World.block_lt_of_cell? W _ q2)⟩
  · obtain ⟨A', cap', g, ao, q1, q2, q3, q4⟩ := h6 i v d hv hd
    exact ⟨A', cap', g, ao, q1, q2, q3, fun e => ⟨range_be (q4 e) k, ap g (range_lt (q4 e) e)⟩⟩
set_option maxRecDepth 100000 in
theorem contract (H : Type) (enc : TypeId × Value → H) (W : World) (base : Nat) (args : Array Value) (ds gs : List (DataW H)) (before : List MemPlace)
    (hval : ∀ (j : Nat) t v, Try.f3.params[j]? = some t → args[j]? = some v → Value.okWide Try.prog W .any base t v)
    (hW : DataW.Whole enc Try.prog Try.f3.params.toList Rows.outboxBytesSpec.vars false W args.toList ds gs before) (hk : Rows.uptoSmall H (ds ++ gs) = true) :
    Calls Try.prog 3 args W fun e W' => ∃ v, e = .returned v ∧ Rows.outboxBytesSpec.post enc Try.prog Try.f3 false true false false W args v W' := by
  have hW' := hW
  obtain ⟨p, q, hA0, hV, rfl, hfz, hnd⟩ := hW
  have hA : DataW.TrodAll enc Try.prog W 0 (fun _ => true) true Try.f3.params.toList args.toList ds p := hA0
  rw [Try.params3] at hA hval
  obtain ⟨v0, vs0, d0, ds0, p0, q0, hargs, rfl, rfl, h0, r0⟩ := trodAll_cons hA
  obtain ⟨v1, vs1, d1, ds1, p1, q1, hargs1, rfl, rfl, h1, r1⟩ := trodAll_cons r0
  obtain ⟨rfl, rfl, rfl⟩ := trodAll_nil r1
  obtain rfl : args = #[v0, v1] := by cases args; simp_all
  obtain ⟨rfl, rfl⟩ := trodVars_none hV
  have hb : Rows.uptoBulk d0 + (Rows.uptoBulk d1 + 0) ≤ 1048576 := by
    have := of_decide_eq_true hk
    simpa only [List.append_nil, Rows.uptoBulkAll] using this
  have k0 := h0
  have k1 := h1
  have lt0 : ∀ x ∈ p0, x.block < W.heap.size := by obtain ⟨m, hm⟩ := k0; exact DataW.trod_lt m _ _ _ hm
  have lt1 : ∀ x ∈ p1, x.block < W.heap.size := by obtain ⟨m, hm⟩ := k1; exact DataW.trod_lt m _ _ _ hm
  obtain ⟨a0, len0, cap0, rfl⟩ := okWide_slice Try.underlying22 (hval 0 22 v0 rfl rfl)
  obtain ⟨a1, len1, cap1, rfl⟩ := okWide_slice Try.underlying23 (hval 1 23 v1 rfl rfl)
  obtain ⟨fuel0, hf0⟩ := h0
  obtain ⟨fuel1, hf1⟩ := h1
  obtain ⟨ls, A0, c0, e0, hn0, la⟩ := leaves_f hf0
  obtain ⟨vs, ts, A1, c1, e1, t1, t2, t3, t4, t5, t6, t7⟩ := texts_f hf1
  simp only [Value.slice.injEq] at e0 e1
  obtain ⟨rfl, rfl, rfl⟩ := e0
  obtain ⟨rfl, rfl, rfl⟩ := e1
  simp only at hn0 t4 t5
  clear hA0
  refine (bytes_walk ls a0 ls.length cap0 rfl (by omega) a1 ts.length cap1 (by omega) W la (lp_start t1 t2 t3 (fun d hd => by have := t5 d hd; omega) t6 t7)).mono fun e W' ⟨he, bel⟩ => ?_
  subst he
  exact ⟨_, rfl, _, _, _, [], _, [], hW', trodAll_mk1 (shut_bool Try.underlying4 _), (trodAll_cons_mk (Below.trod laidOut (by kernel_rfl) (of_decide_eq_true (by kernel_rfl)) k0 bel lt0) (trodAll_cons_mk (Below.trod laidOut (by kernel_rfl) (of_decide_eq_true (by kernel_rfl)) k1 bel lt1) trodAll_mk0)), rfl, bel.frame _, fun h => by cases h⟩

theorem laid_met (os : Os) : laidMet Try.prog Rows.outboxBytesUptoRow.laid (({ World.holding Try.prog os ⟨#[], #[], []⟩ with heap := (World.holding Try.prog os ⟨#[], #[], []⟩).heap } : World).forCall (fun _ _ => 0) ⟨#[], #[.slice none 0 0, .slice none 0 0], []⟩).memory :=
  laidMet_of_run' 8 (by kernel_rfl) (by kernel_rfl)
theorem reads (os : Os) {H : Type} (enc : TypeId × Value → H) : ∃ places, DataW.whole enc Try.prog (({ World.holding Try.prog os ⟨#[], #[], []⟩ with heap := (World.holding Try.prog os ⟨#[], #[], []⟩).heap } : World).forCall (fun _ _ => 0) ⟨#[], #[.slice none 0 0, .slice none 0 0], []⟩).memory Try.f3.params.toList Rows.outboxBytesSpec.vars false (#[.slice none 0 0, .slice none 0 0] : Array Value).toList 8 = some ([.nil, .nil], [], places) :=
  ⟨[], by kernel_rfl⟩
set_option maxRecDepth 100000 in
theorem lifted (os : Os) (started : os.Started) (H : Type) (enc : TypeId × Value → H) (F : Stop.Interp) :
    ReturnsInHanded {} Try.checked os 3 .any ((Rows.OpenSpec.upto Rows.outboxBytesSpec).preRow enc Try.prog Try.f3 Rows.outboxBytesUptoRow.domain false Rows.outboxBytesUptoRow.laid) (((Rows.OpenSpec.upto Rows.outboxBytesSpec).at F).post enc Try.prog Try.f3 false true false false) := by
  obtain ⟨places, hx⟩ := reads os enc
  refine returnsInHanded_of_row (C := Try.checked) (s := Rows.OpenSpec.upto Rows.outboxBytesSpec) own started (by kernel_rfl) Try.func3
    (witness_row_at (enc := enc) (C := Try.checked) false ({ World.holding Try.prog os ⟨#[], #[], []⟩ with heap := (World.holding Try.prog os ⟨#[], #[], []⟩).heap } : World) #[.slice none 0 0, .slice none 0 0] rfl (by kernel_rfl) (by kernel_rfl) (by kernel_rfl)
      (OpenSpec.preRow_of_cond 8 hx (by kernel_rfl) (fun k hk => by cases hk; exact decide_eq_true (by simp [Rows.uptoBulkAll, Rows.uptoBulk])) (by kernel_rfl) (laid_met os))) ?_
  intro W base args ds gs before hval hW _ hc hsz hL _ _
  exact contract H enc W base args ds gs before hval hW (hc _ rfl)

theorem said : Rows.OutboxBytesUptoSaid :=
  OpenClaim.holds_of_cond 3 Try.f3 rfl rfl rfl rfl rfl rfl rfl ⟨rfl, rfl, rfl, rfl, rfl⟩ rfl rfl rfl rfl rfl (by kernel_rfl) Try.func3 (by kernel_rfl)
    (of_decide_eq_true (by kernel_rfl)) (by unfold Func.isWrapper; first | (rw [if_pos (by decide +kernel)]; kernel_rfl) | (rw [if_neg (by decide +kernel)]; exact ⟨rfl, rfl⟩))
    (fun os started H enc _ F => by rw [OpenClaim.pre_eq_preRow]; exact lifted os started H enc F)

end Go.Proofs.Ytehjadgmleoobaa.obytes
