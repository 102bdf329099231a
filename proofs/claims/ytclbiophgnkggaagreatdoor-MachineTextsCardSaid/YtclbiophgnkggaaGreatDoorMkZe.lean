/-
  The law MachineChecks.
-/
import Derived.Test.YtclbiophgnkggaaGreatDoorMkZa
import Derived.Test.YtclbiophgnkggaaGreatDoorMkU
import Derived.Test.YtclbiophgnkggaaGreatDoorMkY

namespace Go.Proofs.YtclbiophgnkggaaGreatDoor
open Go Go.RowKit
open Sha
open Wd

/-- The size of what stands at a place; nought: nothing. -/
def sz (d : List (BitVec 8)) (p : Nat) : Nat := match ri (d.drop p) with | none => 0 | some (_, _, _, s) => s
theorem sz_val {d : List (BitVec 8)} {p : Nat} {x : BitVec 8} {r : List (BitVec 8)} (hx : d.drop p = x :: r) : sz d p = if 28 ≤ x.toNat then 0 else if r.length < ow (oper x.toNat) r then 0 else if (ro (oper x.toNat) (r.take (ow (oper x.toNat) r))).isNone then 0 else 1 + ow (oper x.toNat) r := by
  unfold sz
  rw [hx, ri]
  by_cases h1 : 28 ≤ x.toNat
  · rw [if_pos h1, if_pos h1]
  · rw [if_neg h1, if_neg h1]
    by_cases h2 : r.length < ow (oper x.toNat) r
    · rw [if_pos h2, if_pos h2]
    · rw [if_neg h2, if_neg h2]
      cases hro : ro (oper x.toNat) (r.take (ow (oper x.toNat) r)) with
      | none => rfl
      | some y => rfl
theorem oper_one (c : Nat) (hc : c < 28) (h2 : c ≠ 2) (h4 : c ≠ 4) (h5 : c ≠ 5) (h16 : c ≠ 16) (h14 : c ≠ 14) (h15 : c ≠ 15) : oper c = 0 := by
  have h : ∀ c < 28, (c = 2 ∨ c = 4 ∨ c = 5 ∨ c = 16 ∨ c = 14 ∨ c = 15) ∨ oper c = 0 := by decide
  rcases h c hc with h | h
  · omega
  · exact h
theorem sz_big {d : List (BitVec 8)} {p : Nat} {x : BitVec 8} {r : List (BitVec 8)} (hx : d.drop p = x :: r) (h : 28 ≤ x.toNat) : sz d p = 0 := by rw [sz_val hx, if_pos h]
theorem sz_end {d : List (BitVec 8)} {p : Nat} {x : BitVec 8} {r : List (BitVec 8)} (hx : d.drop p = x :: r) (h : r.length < ow (oper x.toNat) r) : sz d p = 0 := by
  rw [sz_val hx, if_pos h]
  exact ite_self 0
theorem sz_no {d : List (BitVec 8)} {p : Nat} {x : BitVec 8} {r : List (BitVec 8)} (hx : d.drop p = x :: r) (h : ro (oper x.toNat) (r.take (ow (oper x.toNat) r)) = none) : sz d p = 0 := by
  rw [sz_val hx, h]
  simp
theorem sz_yes {d : List (BitVec 8)} {p : Nat} {x : BitVec 8} {r : List (BitVec 8)} (hx : d.drop p = x :: r) (h0 : x.toNat < 28) (h1 : ow (oper x.toNat) r ≤ r.length) (y : Nat × Nat) (h : ro (oper x.toNat) (r.take (ow (oper x.toNat) r)) = some y) : sz d p = 1 + ow (oper x.toNat) r := by
  rw [sz_val hx, h, if_neg (by omega), if_neg (by omega)]
  rfl
theorem take_head (y : BitVec 8) (r : List (BitVec 8)) (k : Nat) (h : 1 ≤ k) : ((y :: r).take k).getD 0 0#8 = y := by
  obtain ⟨k, rfl⟩ : ∃ j, k = j + 1 := ⟨k - 1, by omega⟩
  rfl
theorem szr_no (k : Nat) (hk : k ≠ 0) (b : List (BitVec 8)) (h : (b.getD 0 0#8).toNat < lo k ∨ hi k < (b.getD 0 0#8).toNat) : ro k b = none := by
  unfold ro
  rw [if_neg hk, if_pos h]
theorem szr_yes (k : Nat) (b : List (BitVec 8)) (h : k ≠ 0 → lo k ≤ (b.getD 0 0#8).toNat ∧ (b.getD 0 0#8).toNat ≤ hi k) : ∃ y, ro k b = some y := by
  unfold ro
  split
  · exact ⟨_, rfl⟩
  · rename_i h0
    have := h h0
    rw [if_neg (by omega)]
    split
    · exact ⟨_, rfl⟩
    · split <;> exact ⟨_, rfl⟩
theorem drop_cell {w : World} {g o : Nat} {d : List (BitVec 8)} {p : Nat} {x : BitVec 8} {r : List (BitVec 8)} (hx : d.drop p = x :: r) (hr : w.rangeAt g o (vB d)) : w.cell? ⟨g, o + p, none⟩ = some (.int .u8 ((x.toNat : Nat) : Int)) := by
  have := range_drop hr p
  rw [hx] at this
  exact cons_cell this
theorem drop_next {d : List (BitVec 8)} {p : Nat} {x : BitVec 8} {r : List (BitVec 8)} (hx : d.drop p = x :: r) : d.drop (p + 1) = r := by
  rw [← List.drop_drop, hx]
  rfl
theorem size_any (g o n cap p : Nat) (d : List (BitVec 8)) (hd : d.length = n) (hp : p < n) (hn : n ≤ 1024) (w : World) (hr : w.rangeAt g o (vB d)) : Calls Tryz.prog 24 #[.slice (some ⟨g, o, none⟩) n cap, .int .i64 (p : Int)] w fun e w' => e = .returned (.int .i64 (sz d p : Int)) ∧ w' = w := by
  obtain ⟨x, r, hx⟩ : ∃ x r, d.drop p = x :: r := by
    cases h : d.drop p with
    | nil => have := congrArg List.length h; rw [List.length_drop] at this; simp at this; omega
    | cons x r => exact ⟨x, r, rfl⟩
  have hl : r.length + 1 = n - p := by
    have := congrArg List.length hx
    rw [List.length_drop, List.length_cons] at this
    omega
  have c0 := drop_cell hx hr
  have hxl := x.isLt
  by_cases h28 : 28 ≤ x.toNat
  · rw [sz_big hx h28]
    exact size_big g o n cap p _ hp hn w c0 h28 hxl
  have lt28 : x.toNat < 28 := by omega
  by_cases h2 : x.toNat = 2
  · have ho : oper x.toNat = 1 := by rw [h2]; rfl
    cases r with
    | nil =>
      rw [sz_end hx (by rw [ho]; decide)]
      exact size_push_end g o n cap p _ hp hn w c0 h2 (by simp at hl; omega)
    | cons y r =>
      have c1 := drop_cell (drop_next hx) hr
      have hw : ow (oper x.toNat) (y :: r) = 1 + y.toNat := by rw [ho]; rfl
      have hl' : r.length + 2 = n - p := by simpa using hl
      have hh : ((y :: r).take (ow (oper x.toNat) (y :: r))).getD 0 0#8 = y := take_head y r _ (by rw [hw]; omega)
      by_cases y1 : y.toNat < 1
      · rw [sz_no hx (szr_no _ (by rw [ho]; decide) _ (.inl (by rw [hh, ho]; exact y1)))]
        exact size_push_low g o n cap p _ hp hn w c0 h2 _ (by omega) c1 y1
      by_cases y2 : 32 < y.toNat
      · rw [sz_no hx (szr_no _ (by rw [ho]; decide) _ (.inr (by rw [hh, ho]; exact y2)))]
        exact size_push_high g o n cap p _ hp hn w c0 h2 _ (by omega) c1 y2
      by_cases y3 : n < p + (2 + y.toNat)
      · rw [sz_end hx (by rw [hw, List.length_cons]; omega)]
        exact size_push_cut g o n cap p _ hp hn w c0 h2 _ (by omega) c1 (by omega) (by omega) y3
      · obtain ⟨z, hz⟩ := szr_yes (oper x.toNat) ((y :: r).take (ow (oper x.toNat) (y :: r))) (fun _ => by rw [hh, ho]; exact ⟨by show 1 ≤ _; omega, by show _ ≤ 32; omega⟩)
        rw [sz_yes hx lt28 (by rw [hw, List.length_cons]; omega) z hz, hw, show 1 + (1 + y.toNat) = 2 + y.toNat by omega]
        exact size_push g o n cap p _ hp hn w c0 h2 _ (by omega) c1 (by omega) (by omega) (by omega)
  by_cases h4 : x.toNat = 4
  · have ho : oper x.toNat = 2 := by rw [h4]; rfl
    cases r with
    | nil =>
      rw [sz_end hx (by rw [ho]; decide)]
      exact size_dup_end g o n cap p _ hp hn w c0 h4 (by simp at hl; omega)
    | cons y r =>
      have c1 := drop_cell (drop_next hx) hr
      have hw : ow (oper x.toNat) (y :: r) = 1 := by rw [ho]; rfl
      have hl' : r.length + 2 = n - p := by simpa using hl
      have hyl := y.isLt
      have hh : ((y :: r).take (ow (oper x.toNat) (y :: r))).getD 0 0#8 = y := take_head y r _ (by rw [hw]; omega)
      by_cases y2 : 15 < y.toNat
      · rw [sz_no hx (szr_no _ (by rw [ho]; decide) _ (.inr (by rw [hh, ho]; exact y2)))]
        exact size_dup_no g o n cap p _ hp hn w c0 h4 _ (by omega) c1 y2
      obtain ⟨z, hz⟩ := szr_yes (oper x.toNat) ((y :: r).take (ow (oper x.toNat) (y :: r))) (fun _ => by rw [hh, ho]; exact ⟨by show 0 ≤ _; omega, by show _ ≤ 15; omega⟩)
      rw [sz_yes hx lt28 (by rw [hw, List.length_cons]; omega) z hz, hw]
      exact size_dup g o n cap p _ hp hn w c0 h4 _ (by omega) c1 (by omega)
  by_cases h5 : x.toNat = 5
  · have ho : oper x.toNat = 3 := by rw [h5]; rfl
    cases r with
    | nil =>
      rw [sz_end hx (by rw [ho]; decide)]
      exact size_swap_end g o n cap p _ hp hn w c0 h5 (by simp at hl; omega)
    | cons y r =>
      have c1 := drop_cell (drop_next hx) hr
      have hw : ow (oper x.toNat) (y :: r) = 1 := by rw [ho]; rfl
      have hl' : r.length + 2 = n - p := by simpa using hl
      have hyl := y.isLt
      have hh : ((y :: r).take (ow (oper x.toNat) (y :: r))).getD 0 0#8 = y := take_head y r _ (by rw [hw]; omega)
      by_cases y1 : y.toNat < 1
      · rw [sz_no hx (szr_no _ (by rw [ho]; decide) _ (.inl (by rw [hh, ho]; exact y1)))]
        exact size_swap_low g o n cap p _ hp hn w c0 h5 _ (by omega) c1 y1
      by_cases y2 : 15 < y.toNat
      · rw [sz_no hx (szr_no _ (by rw [ho]; decide) _ (.inr (by rw [hh, ho]; exact y2)))]
        exact size_swap_high g o n cap p _ hp hn w c0 h5 _ (by omega) c1 y2
      obtain ⟨z, hz⟩ := szr_yes (oper x.toNat) ((y :: r).take (ow (oper x.toNat) (y :: r))) (fun _ => by rw [hh, ho]; exact ⟨by show 1 ≤ _; omega, by show _ ≤ 15; omega⟩)
      rw [sz_yes hx lt28 (by rw [hw, List.length_cons]; omega) z hz, hw]
      exact size_swap g o n cap p _ hp hn w c0 h5 _ (by omega) c1 (by omega) (by omega)
  by_cases h16 : x.toNat = 16
  · have ho : oper x.toNat = 4 := by rw [h16]; rfl
    cases r with
    | nil =>
      rw [sz_end hx (by rw [ho]; decide)]
      exact size_arg_end g o n cap p _ hp hn w c0 h16 (by simp at hl; omega)
    | cons y r =>
      have c1 := drop_cell (drop_next hx) hr
      have hw : ow (oper x.toNat) (y :: r) = 1 := by rw [ho]; rfl
      have hl' : r.length + 2 = n - p := by simpa using hl
      have hyl := y.isLt
      have hh : ((y :: r).take (ow (oper x.toNat) (y :: r))).getD 0 0#8 = y := take_head y r _ (by rw [hw]; omega)
      obtain ⟨z, hz⟩ := szr_yes (oper x.toNat) ((y :: r).take (ow (oper x.toNat) (y :: r))) (fun _ => by rw [hh, ho]; exact ⟨by show 0 ≤ _; omega, by show _ ≤ 255; omega⟩)
      rw [sz_yes hx lt28 (by rw [hw, List.length_cons]; omega) z hz, hw]
      exact size_arg g o n cap p _ hp hn w c0 h16 (by omega)
  by_cases h14 : x.toNat = 14
  · have ho : oper x.toNat = 5 := by rw [h14]; rfl
    have hw : ow (oper x.toNat) r = 2 := by rw [ho]; rfl
    by_cases y1 : n < p + 3
    · rw [sz_end hx (by rw [hw]; omega)]
      exact size_j14_end g o n cap p _ hp hn w c0 h14 y1
    · obtain ⟨z, hz⟩ := szr_yes (oper x.toNat) (r.take (ow (oper x.toNat) r)) (fun _ => by rw [ho]; exact ⟨Nat.zero_le _, by show _ ≤ 255; have := ((r.take (ow 5 r)).getD 0 0#8).isLt; omega⟩)
      rw [sz_yes hx lt28 (by rw [hw]; omega) z hz, hw]
      exact size_j14 g o n cap p _ hp hn w c0 h14 (by omega)
  by_cases h15 : x.toNat = 15
  · have ho : oper x.toNat = 5 := by rw [h15]; rfl
    have hw : ow (oper x.toNat) r = 2 := by rw [ho]; rfl
    by_cases y1 : n < p + 3
    · rw [sz_end hx (by rw [hw]; omega)]
      exact size_j15_end g o n cap p _ hp hn w c0 h15 y1
    · obtain ⟨z, hz⟩ := szr_yes (oper x.toNat) (r.take (ow (oper x.toNat) r)) (fun _ => by rw [ho]; exact ⟨Nat.zero_le _, by show _ ≤ 255; have := ((r.take (ow 5 r)).getD 0 0#8).isLt; omega⟩)
      rw [sz_yes hx lt28 (by rw [hw]; omega) z hz, hw]
      exact size_j15 g o n cap p _ hp hn w c0 h15 (by omega)
  have ho : oper x.toNat = 0 := oper_one _ lt28 h2 h4 h5 h16 h14 h15
  obtain ⟨z, hz⟩ := szr_yes (oper x.toNat) (r.take (ow (oper x.toNat) r)) (fun h => absurd ho h)
  rw [sz_yes hx lt28 (by rw [ho]; exact Nat.zero_le _) z hz, ho]
  exact size_one g o n cap p _ hp hn w c0 lt28 h2 h4 h5 h16 h14 h15

end Go.Proofs.YtclbiophgnkggaaGreatDoor

namespace Go.Proofs.YtclbiophgnkggaaGreatDoor
open Go Go.RowKit
open Sha
open Wd

theorem fill_int (k : IntKind) (x : Int) (cells : Array Value) (hn : cells.size = 1) : Instr.fill (fun i => some (i * 1, 1)) cells [(0, .int k x)] = some #[.int k x] := by
  obtain ⟨r, hr, hsz, hk⟩ := Great.fill_dense (s := 1) (by decide) [.int k x] 0 cells (fun v hv => by obtain rfl := List.mem_singleton.1 hv; rfl) (by simp; omega)
  have hr' : Instr.fill (fun i => some (i * 1, 1)) cells [(0, .int k x)] = some r := hr
  rw [hr']
  congr 1
  apply Array.ext_getElem?
  intro j
  rw [hk j]
  by_cases hlt : j < 1
  · obtain rfl : j = 0 := by omega
    rfl
  · rw [if_neg (by simp; omega), Array.getElem?_eq_none (by omega), Array.getElem?_eq_none (by simp; omega)]
theorem info_int_open : ∃ ie z, Tryz.prog.info? 3 = some ie ∧ ie.zero = some z ∧ ie.size = 1 ∧ ie.bytes = 8 ∧ z.cells.size = 1 := by
  have i1 : (Tryz.prog.info? 3).map (fun i => (i.zero, i.size, i.bytes)) = some (some (.int .i64 0), 1, 8) := by kernel_rfl
  cases hi : Tryz.prog.info? 3 with
  | none => rw [hi] at i1; cases i1
  | some ie =>
    rw [hi] at i1
    simp only [Option.map_some, Option.some.injEq, Prod.mk.injEq] at i1
    exact ⟨ie, _, rfl, i1.1, i1.2.1, i1.2.2, rfl⟩
section
variable {ops : Array Oper} {rest : List Oper} {op : Oper} {a : Act} {w : World} {Q : Exit → Act → World → Prop}
theorem wpList_buildInt (hgd : op.guard = none) (x : Operand) (ho : op.op = .buildSlice 29 1 #[(0, x)]) (y : Int) (hx : a.eval x = .int .i64 y)
    (h : ∀ X, Row X w.heap.size [.int .i64 y] 3 → Below w.heap.size w X → X.heap.size = w.heap.size + 1 → wpList Tryz.prog ops Q rest (a.put op.dst (.slice (some ⟨w.heap.size, 0, none⟩) 1 1)) X) : wpList Tryz.prog ops Q (op :: rest) a w := by
  obtain ⟨ie, z, h1, h2, h3, _, h4⟩ := info_int_open
  refine wpList_buildSlice hgd 29 3 1 _ ho #[.int .i64 y] ie z Tryz.underlying29 h1 h2 (by rw [h3]; omega) (by rw [h3]; omega) ?_ (h _ (Row.new' rfl rfl) ((Below.refl _ _).alloc (Nat.le_refl _) _) (by simp))
  rw [show (Array.map (fun (p : Nat × Operand) => match p with | (i, x) => (i, a.eval x)) #[(0, x)]).toList = [(0, a.eval x)] by simp, hx, h3]
  exact fill_int _ _ _ (by simp)
end
theorem sz_none {d : List (BitVec 8)} {p : Nat} (h : ri (d.drop p) = none) : sz d p = 0 := by unfold sz; rw [h]
theorem sz_some {d : List (BitVec 8)} {p c a m s : Nat} (h : ri (d.drop p) = some (c, a, m, s)) : sz d p = s := by unfold sz; rw [h]
theorem vI_app (l : List Nat) (p : Nat) : vI (l ++ [p]) = vI l ++ [.int .i64 (p : Int)] := by unfold vI; rw [List.map_append]; rfl
set_option maxRecDepth 100000 in
set_option maxHeartbeats 4000000 in
theorem places_any (g o n cap : Nat) (d : List (BitVec 8)) (hd : d.length = n) (h1 : n ≤ 1024) (w : World) (hr : w.rangeAt g o (vB d)) : Calls Tryz.prog 8 #[.slice (some ⟨g, o, none⟩) n cap] w fun e w' => ((∃ ls v, pg d (n + 1) 0 = some ls ∧ ls.length ≤ n ∧ e = .returned (.tuple #[v, .bool true]) ∧ Lw w' 3 1 v ls.length (vI (ls.map (·.p)))) ∨ (pg d (n + 1) 0 = none ∧ e = .returned (.tuple #[.slice none 0 0, .bool false]))) ∧ Below w.heap.size w w' := by
  have HR : Hid (w.rangeAt g o (vB d)) := hr
  have HDL : Hid (d.length = n) := hd
  clear hr hd
  go_enter Tryz.func8, Tryz.ntmps8
  go_wp2_with fail
  go_loopw [4, 5] (fun v4 v5 wr => ∃ (p f : Nat) (ls : List Ins) (v : Value), p ≤ n ∧ v = v4 ∧ v5 = .int .i64 (p : Int) ∧ Hid (Lw wr 3 1 v ls.length (vI (ls.map (·.p)))) ∧ Hid (Below w.heap.size w wr) ∧ Hid (∀ g, v.ownBlock = some g → w.heap.size ≤ g) ∧ Hid (ls.length ≤ p) ∧ Hid (n ≤ p + f ∧ pg d (n + 1) 0 = (pg d (f + 1) p).map (ls ++ ·))) (fun _ v5 _ => n - (intOf v5).toNat)
  case atStart => exact ⟨0, n, [], _, Nat.zero_le _, rfl, rfl, Lw.nil _ _ _, Below.refl _ _, (fun g e => by cases e), Nat.le_refl _, by show _ ∧ _; exact ⟨by omega, by simp⟩⟩
  case round =>
    obtain ⟨p, f, ls, v, hpn, hv4, rfl, HL, HB, HO, HLP, HPG⟩ := hrel
    subst hv4
    by_cases hlt : p < n
    · have HSZ : Hid _ := size_any g o n cap p d HDL.out hlt h1 wr (range_be HR.out HB.out)
      obtain ⟨f', rfl⟩ : ∃ f', f = f' + 1 := ⟨f - 1, by have := HPG.out.1; omega⟩
      cases hri : ri (d.drop p) with
      | none =>
        have HNO : Hid (pg d (n + 1) 0 = none) := by
          show _ = _
          rw [HPG.out.2, pg_none (by rw [HDL.out]; exact hlt) hri]
          rfl
        rw [sz_none hri] at HSZ
        clear hri HPG
        go_wp2_with (go_at_call 24; refine Calls.mono HSZ.out ?_; rintro e X1 ⟨rfl, rfl⟩)
        go_ret2
        exact ⟨.inr ⟨HNO.out, rfl⟩, HB.out⟩
      | some y =>
        obtain ⟨c, a, m, z⟩ := y
        have hz := ri_size hri
        have hzn : p + z ≤ n := by have h1 := hz.2.2.2; rw [List.length_drop, HDL.out] at h1; omega
        have hz1 : 1 ≤ z := hz.2.1
        have ez0 : ((z : Int) == 0) = false := by simp; omega
        have hz257 : z ≤ 257 := hz.2.2.1
        have HPG2 : Hid (n ≤ p + z + f' ∧ pg d (n + 1) 0 = (pg d (f' + 1) (p + z)).map ((ls ++ [⟨c, p, a, m⟩]) ++ ·)) := by
          refine ⟨by have := HPG.out.1; omega, ?_⟩
          rw [HPG.out.2, pg_some (by rw [HDL.out]; exact hlt) hri, Option.map_map]
          congr 1
          funext r
          simp
        have HLP2 : Hid ((ls ++ [(⟨c, p, a, m⟩ : Ins)]).length ≤ p + z) := by show _ ≤ _; rw [List.length_append, List.length_singleton]; have := HLP.out; omega
        have HLM : Hid (ls.length ≤ 1000000) := by show _ ≤ _; have := HLP.out; omega
        rw [sz_some hri] at HSZ
        clear hri HPG hz
        go_upto_region 8 with (first
          | (go_at_call 24; refine Calls.mono HSZ.out ?_; rintro e X1 ⟨rfl, rfl⟩)
          | (refine wpList_buildInt rfl (.tmp 17) rfl (p : Int) rfl ?_; intro X2 q1 q2 q3; have R2 : Hid (Row X2 X1.heap.size [.int .i64 (p : Int)] 3) := q1; have B2 : Hid (Below w.heap.size w X2) := HB.out.trans (q2.mono HB.out.size); have L2 : Hid (Lw X2 3 1 v ls.length (vI (ls.map (·.p)))) := Lw.be HL.out q2; clear q1 q2 q3; simp only [Act.put, List.setIfInBounds_toArray, List.set_cons_zero, List.set_cons_succ])
          | (refine wpList_appL 29 3 1 8 Tryz.underlying29 info_int_open (by decide) (by decide) rfl (.tmp 16) (.tmp 18) rfl v ls.length (vI (ls.map (·.p))) [.int .i64 (p : Int)] rfl L2.out X1.heap.size rfl rfl R2.out.all (fun u hu => by obtain rfl := List.mem_singleton.1 hu; rfl) HLM.out ?_; intro v' X3 q1 q2 q3; have L3 : Hid (Lw X3 3 1 v' (ls.length + 1) (vI (ls.map (·.p)) ++ [.int .i64 (p : Int)])) := q1; have B3 : Hid (Below w.heap.size w X3) := below_gb B2.out q2 HO.out; have O3 : Hid (v'.ownBlock = v.ownBlock ∨ v'.ownBlock = some X2.heap.size) := q3; clear q1 q2 q3; simp only [Act.put, List.setIfInBounds_toArray, List.set_cons_zero, List.set_cons_succ]))
        have L4 : Hid (Lw X3 3 1 v' (ls ++ [(⟨c, p, a, m⟩ : Ins)]).length (vI ((ls ++ [(⟨c, p, a, m⟩ : Ins)]).map (·.p)))) := by
          rw [List.length_append, List.length_singleton, List.map_append, List.map_singleton, vI_app]
          exact L3.out
        have O4 : Hid (∀ g, v'.ownBlock = some g → w.heap.size ≤ g) := fun g e => by
          rcases O3.out with h | h
          · exact HO.out g (by rw [← h]; exact e)
          · rw [h] at e; cases e; exact B2.out.size
        clear L3 O3 L2 R2 B2 HL HO
        go_wp2
        exact ⟨⟨p + z, f', _, _, hzn, rfl, by go_num, L4, B3, O4, HLP2, HPG2⟩, by simp [intOf]; omega⟩
    · have epn : p = n := by omega
      have HPS : Hid (pg d (n + 1) 0 = some ls) := by
        show _ = _
        rw [HPG.out.2, pg_end (by rw [HDL.out]; omega)]
        simp
      have HLN : Hid (ls.length ≤ n) := by rw [← epn]; exact HLP.out
      have e4 : (p : Int) = (n : Int) := by omega
      rw [e4]
      clear e4 epn hlt hpn HPG HLP
      go_wp2
      go_ret2
      exact ⟨.inl ⟨ls, _, HPS.out, HLN.out, rfl, HL.out⟩, HB.out⟩
set_option maxRecDepth 100000 in
set_option maxHeartbeats 4000000 in
theorem among_any (g cap : Nat) (xs : List Nat) (x : Nat) (hl : xs.length ≤ 1024) (w : World) (hr : w.rangeAt g 0 (vI xs)) : Calls Tryz.prog 23 #[.slice (some ⟨g, 0, none⟩) xs.length cap, .int .i64 (x : Int)] w fun e w' => e = .returned (.bool (xs.any (· == x))) ∧ w' = w := by
  have HR : Hid (w.rangeAt g 0 (vI xs)) := hr
  obtain ⟨n, hn⟩ : ∃ n, n = xs.length := ⟨_, rfl⟩
  have HN : Hid (n = xs.length) := hn
  rw [← hn] at hl ⊢
  clear hr hn
  go_enter Tryz.func23, Tryz.ntmps23
  go_wp2_with fail
  go_loopw [5] (fun v wr => ∃ t : Nat, t ≤ n ∧ v = .int .i64 (t : Int) ∧ wr = w ∧ Hid ((xs.take t).any (· == x) = false)) (fun v _ => n - (intOf v).toNat)
  case atStart => exact ⟨0, Nat.zero_le _, rfl, rfl, by show _ = _; simp⟩
  case round =>
    obtain ⟨t, ht, rfl, hw, HT⟩ := hrel
    subst hw
    by_cases hlt : t < n
    · obtain ⟨y, hy⟩ : ∃ y, xs[t]? = some y := ⟨_, List.getElem?_eq_getElem (by rw [← HN.out]; exact hlt)⟩
      have c0 : wr.cell? ⟨g, t, none⟩ = some (.int .i64 (y : Int)) := by
        have := HR.out t (.int .i64 (y : Int)) (by unfold vI; rw [List.getElem?_map, hy]; rfl)
        rwa [Nat.zero_add] at this
      by_cases hyx : y = x
      · have HA : Hid (xs.any (· == x) = true) := List.any_eq_true.2 ⟨y, List.mem_of_getElem? hy, by simp [hyx]⟩
        subst hyx
        clear hy
        go_wp2
        go_ret
        exact ⟨by rw [HA.out]; rfl, rfl⟩
      · have HA : Hid ((xs.take (t + 1)).any (· == x) = false) := by
          show _ = _
          rw [List.take_add_one, hy, List.any_append, HT.out]
          simp [hyx]
        have ex : ((y : Int) == (x : Int)) = false := by simp; omega
        clear hy hyx HT
        go_wp2
        exact ⟨⟨t + 1, hlt, by go_num, by first | rfl | trivial, HA⟩, by simp [intOf]; omega⟩
    · have et : t = n := by omega
      have HA : Hid (xs.any (· == x) = false) := by
        have := HT.out
        rwa [et, HN.out, List.take_length] at this
      have e4 : (t : Int) = (n : Int) := by omega
      rw [e4]
      clear e4 et ht hlt HT
      go_wp2
      go_ret
      exact ⟨by rw [HA.out]; rfl, rfl⟩
set_option maxRecDepth 100000 in
set_option maxHeartbeats 4000000 in
theorem target_any (g o n cap p y z : Nat) (hp : p + 2 < n) (hn : n ≤ 1024) (hy : y < 256) (hz : z < 256) (w : World) (c1 : w.cell? ⟨g, o + (p + 1), none⟩ = some (.int .u8 (y : Int))) (c2 : w.cell? ⟨g, o + (p + 2), none⟩ = some (.int .u8 (z : Int))) : Calls Tryz.prog 14 #[.slice (some ⟨g, o, none⟩) n cap, .int .i64 (p : Int)] w fun e w' => e = .returned (.int .i64 ((y * 256 + z : Nat) : Int)) ∧ Below w.heap.size w w' := by
  go_enter Tryz.func14, Tryz.ntmps14
  go_wp2_with fail
  go_quiet (fail)
  go_wp2
  go_ret
  exact ⟨by go_num, ⟨rfl, rfl, rfl, Nat.le_refl _, fun _ _ => rfl⟩⟩

end Go.Proofs.YtclbiophgnkggaaGreatDoor

namespace Go.Proofs.YtclbiophgnkggaaGreatDoor
open Go Go.RowKit
open Sha
open Wd

theorem pg_mem {d : List (BitVec 8)} : ∀ {f p : Nat} {ls : List Ins}, pg d f p = some ls → ∀ x ∈ ls, x.p < d.length ∧ ∃ s, ri (d.drop x.p) = some (x.c, x.a, x.n, s)
  | 0, _, _, h => by cases h
  | f + 1, p, ls, h => by
    by_cases hp : d.length ≤ p
    · rw [pg_end hp] at h
      obtain rfl := Option.some.inj h
      intro x hx
      cases hx
    · cases hri : ri (d.drop p) with
      | none => rw [pg_none (by omega) hri] at h; cases h
      | some y =>
        obtain ⟨c, a, m, z⟩ := y
        rw [pg_some (by omega) hri] at h
        cases hr : pg d f (p + z) with
        | none => rw [hr] at h; cases h
        | some r =>
          rw [hr] at h
          simp only [Option.map_some, Option.some.injEq] at h
          subst h
          intro x hx
          rcases List.mem_cons.1 hx with rfl | hx
          · exact ⟨by show p < _; omega, z, hri⟩
          · exact pg_mem hr x hx
theorem ri_head {b : List (BitVec 8)} {c a n s : Nat} (h : ri b = some (c, a, n, s)) : ∃ x r, b = x :: r ∧ x.toNat = c ∧ ow (oper c) r ≤ r.length ∧ ro (oper c) (r.take (ow (oper c) r)) = some (a, n) := by
  cases b with
  | nil => cases h
  | cons x r =>
    unfold ri at h
    simp only at h
    split at h
    · cases h
    · split at h
      · cases h
      · split at h
        · cases h
        · rename_i h1 h2 _ _ _ h3
          simp only [Option.some.injEq, Prod.mk.injEq] at h
          obtain ⟨rfl, rfl, rfl, rfl⟩ := h
          exact ⟨x, r, rfl, rfl, by omega, h3⟩
theorem ri_jump {b : List (BitVec 8)} {c a n s : Nat} (h : ri b = some (c, a, n, s)) (h5 : oper c = 5) : ∃ x y z r, b = x :: y :: z :: r ∧ x.toNat = c ∧ n = y.toNat * 256 + z.toNat := by
  obtain ⟨x, r, rfl, hx, hl, ho⟩ := ri_head h
  rw [h5] at hl ho
  have hw : ow 5 r = 2 := rfl
  rw [hw] at hl ho
  match r, hl with
  | y :: z :: r, _ =>
    refine ⟨x, y, z, r, rfl, hx, ?_⟩
    unfold ro at ho
    rw [if_neg (by decide)] at ho
    split at ho
    · cases ho
    · rw [if_neg (by decide), if_pos rfl] at ho
      simp only [Option.some.injEq, Prod.mk.injEq] at ho
      exact ho.2.symm
theorem oper5 (c : Nat) (hc : c < 28) : oper c = 5 ↔ c = 14 ∨ c = 15 := by
  have h : ∀ c < 28, oper c = 5 ↔ c = 14 ∨ c = 15 := by decide
  exact h c hc
/-- What Check answers. -/
def ec (d : List (BitVec 8)) : Int := if (chk d).isSome then 0 else 100
theorem ec_len {d : List (BitVec 8)} (h : d.length = 0 ∨ 1024 < d.length) : ec d = 100 := by
  unfold ec chk
  rw [if_pos h]
  rfl
theorem ec_no {d : List (BitVec 8)} (h : chk d = none) : ec d = 100 := by unfold ec; rw [h]; rfl
theorem ec_yes {d : List (BitVec 8)} {ls : List Ins} (h : chk d = some ls) : ec d = 0 := by unfold ec; rw [h]; rfl
theorem ec_pg {d : List (BitVec 8)} {n : Nat} (hd : d.length = n) (h0 : 0 < n) (h1 : n ≤ 1024) (h : pg d (n + 1) 0 = none) : ec d = 100 := by
  refine ec_no ?_
  unfold chk
  rw [if_neg (by omega), hd, h]
theorem ec_led {d : List (BitVec 8)} {n : Nat} (hd : d.length = n) (h0 : 0 < n) (h1 : n ≤ 1024) {ls : List Ins} (h : pg d (n + 1) 0 = some ls) (hl : leads ls = true) : ec d = 0 := by
  refine ec_yes (ls := ls) ?_
  unfold chk
  rw [if_neg (by omega), hd, h]
  exact if_pos hl
theorem ec_not {d : List (BitVec 8)} {n : Nat} (hd : d.length = n) (h0 : 0 < n) (h1 : n ≤ 1024) {ls : List Ins} (h : pg d (n + 1) 0 = some ls) (hl : leads ls = false) : ec d = 100 := by
  refine ec_no ?_
  unfold chk
  rw [if_neg (by omega), hd, h]
  exact if_neg (by rw [hl]; decide)
theorem any_p (ls : List Ins) (m : Nat) : (ls.map (·.p)).any (· == m) = ls.any (fun j => j.p == m) := by rw [List.any_map]; rfl
set_option maxRecDepth 100000 in
set_option maxHeartbeats 4000000 in
theorem refCheck_len (A : Option Addr) (n cap : Nat) (d : List (BitVec 8)) (hd : d.length = n) (h : n = 0 ∨ 1024 < n) (hm : n < 9223372036854775808) (w : World) : Calls Tryz.prog 7 #[.slice A n cap] w fun e w' => e = .returned (.int .i64 (ec d)) ∧ w' = w := by
  have HE : Hid (ec d = 100) := ec_len (by omega)
  clear hd
  rcases h with h | h
  · subst h
    go_enter Tryz.func7, Tryz.ntmps7
    go_wp2
    go_ret
    exact ⟨by rw [HE.out]; rfl, rfl⟩
  · have e1 : ¬ ((n : Int) < 1) := by omega
    have e2 : (1024 : Int) < (n : Int) := by omega
    go_enter Tryz.func7, Tryz.ntmps7
    go_wp2
    go_ret
    exact ⟨by rw [HE.out]; rfl, rfl⟩
set_option maxRecDepth 100000 in
set_option maxHeartbeats 4000000 in
theorem refCheck_in (g o n cap : Nat) (d : List (BitVec 8)) (hd : d.length = n) (h0 : 0 < n) (h1 : n ≤ 1024) (w : World) (hr : w.rangeAt g o (vB d)) : Calls Tryz.prog 7 #[.slice (some ⟨g, o, none⟩) n cap] w fun e w' => e = .returned (.int .i64 (ec d)) ∧ Below w.heap.size w w' := by
  have HR : Hid (w.rangeAt g o (vB d)) := hr
  have HDL : Hid (d.length = n) := hd
  have HP : Hid _ := places_any g o n cap d hd h1 w hr
  have e1 : ¬ ((n : Int) < 1) := by omega
  have e2 : ¬ ((1024 : Int) < (n : Int)) := by omega
  cases hpg : pg d (n + 1) 0 with
  | none =>
    have HE : Hid (ec d = 100) := ec_pg hd h0 h1 hpg
    have HQ : Hid (Calls Tryz.prog 8 #[.slice (some ⟨g, o, none⟩) n cap] w fun e w' => e = .returned (.tuple #[.slice none 0 0, .bool false]) ∧ Below w.heap.size w w') := Calls.mono HP.out (fun e w' ⟨q, b⟩ => by
      rcases q with ⟨ls, v, q, _⟩ | ⟨_, q⟩
      · rw [hpg] at q; cases q
      · exact ⟨q, b⟩)
    clear hr hd hpg HP
    go_enter Tryz.func7, Tryz.ntmps7
    go_wp2_with (go_at_call 8; refine Calls.mono HQ.out ?_; rintro e X ⟨rfl, q⟩; have B : Hid (Below w.heap.size w X) := q; clear q)
    go_ret
    exact ⟨by rw [HE.out]; rfl, B.out⟩
  | some ls =>
    have HM : Hid (∀ x ∈ ls, x.p < d.length ∧ ∃ s, ri (d.drop x.p) = some (x.c, x.a, x.n, s)) := pg_mem hpg
    have HPG : Hid (pg d (n + 1) 0 = some ls) := hpg
    have HQ : Hid (Calls Tryz.prog 8 #[.slice (some ⟨g, o, none⟩) n cap] w fun e w' => ∃ v, e = .returned (.tuple #[v, .bool true]) ∧ Lw w' 3 1 v ls.length (vI (ls.map (·.p))) ∧ ls.length ≤ n ∧ Below w.heap.size w w') := Calls.mono HP.out (fun e w' ⟨q, b⟩ => by
      rcases q with ⟨ls', v, q, q1, q2, q3⟩ | ⟨q, _⟩
      · rw [hpg] at q; obtain rfl := Option.some.inj q; exact ⟨v, q2, q3, q1, b⟩
      · rw [hpg] at q; cases q)
    clear hr hd hpg HP
    go_enter Tryz.func7, Tryz.ntmps7
    go_upto_region 6 with (go_at_call 8; refine Calls.mono HQ.out ?_; rintro e X ⟨v, rfl, q1, q2, q3⟩; obtain ⟨A, cp, rfl, _, _⟩ := Lw.form q1; have L : Hid (Lw X 3 1 (.slice A ls.length cp) ls.length (vI (ls.map (·.p)))) := q1; have hln : ls.length ≤ 1024 := Nat.le_trans q2 h1; have B : Hid (Below w.heap.size w X) := q3; clear q1 q2 q3)
    obtain ⟨N, hN⟩ : ∃ N, N = ls.length := ⟨_, rfl⟩
    have HN : Hid (N = ls.length) := hN
    rw [← hN] at L hln ⊢
    clear hN
    go_wp2_with fail
    go_loopw [5] (fun v wr => ∃ t : Nat, t ≤ N ∧ v = .int .i64 (t : Int) ∧ Hid (Lw wr 3 1 (.slice A N cp) N (vI (ls.map (·.p)))) ∧ Hid (Below w.heap.size w wr) ∧ Hid (ledT ls t = true)) (fun v _ => N - (intOf v).toNat)
    case atStart => exact ⟨0, Nat.zero_le _, rfl, L, B, by show _ = _; unfold ledT; simp⟩
    case round =>
      clear L B
      obtain ⟨t, ht, rfl, L, B, HT⟩ := hrel
      by_cases hlt : t < N
      · obtain ⟨x, hx⟩ : ∃ x, ls[t]? = some x := ⟨_, List.getElem?_eq_getElem (by rw [← HN.out]; exact hlt)⟩
        obtain ⟨gl, cap', e, hcc⟩ := Lw.open L.out (by omega)
        simp only [Value.slice.injEq] at e
        obtain ⟨rfl, _, rfl⟩ := e
        have hRL := Lw.range L.out
        have cl : wr.cell? ⟨gl, t, none⟩ = some (.int .i64 (x.p : Int)) := by
          have := hRL t (.int .i64 (x.p : Int)) (by unfold vI; rw [List.getElem?_map, List.getElem?_map, hx]; rfl)
          rwa [Nat.zero_add] at this
        obtain ⟨hxp, s, hri⟩ := HM.out x (List.mem_of_getElem? hx)
        rw [HDL.out] at hxp
        obtain ⟨b, r, hbr, hbc, _, _⟩ := ri_head hri
        have hRB := range_be HR.out B.out
        have c0 := drop_cell hbr hRB
        rw [hbc] at c0
        have hc28 : x.c < 28 := (ri_size hri).1
        have HX : Hid (ls[t]? = some x) := hx
        by_cases h5 : oper x.c = 5
        · obtain ⟨b0, y, z, r0, hb0, _, hnn⟩ := ri_jump hri h5
          have c1 := drop_cell (drop_next hb0) hRB
          have c2 := drop_cell (drop_next (drop_next hb0)) hRB
          have hl3 : x.p + 2 < n := by
            have := congrArg List.length hb0
            rw [List.length_drop, HDL.out] at this
            simp at this
            omega
          have HTG : Hid _ := target_any g o n cap x.p y.toNat z.toNat hl3 h1 y.isLt z.isLt wr c1 c2
          rw [← hnn] at HTG
          have HAM : Hid (∀ Y, Below wr.heap.size wr Y → Calls Tryz.prog 23 #[.slice (some ⟨gl, 0, none⟩) N cp, .int .i64 (x.n : Int)] Y fun e w' => e = .returned (.bool (ls.any (fun j => j.p == x.n))) ∧ w' = Y) := fun Y hY => by
            have := among_any gl cp (ls.map (·.p)) x.n (by rw [List.length_map, ← HN.out]; exact hln) Y (range_be hRL hY)
            rw [List.length_map, any_p, ← HN.out] at this
            exact this
          obtain ⟨p, hp⟩ : ∃ p, p = x.p := ⟨_, rfl⟩
          obtain ⟨m, hm⟩ : ∃ m, m = x.n := ⟨_, rfl⟩
          obtain ⟨c, hc⟩ : ∃ c, c = x.c := ⟨_, rfl⟩
          have h1415 := (oper5 x.c hc28).1 h5
          rw [← hc] at c0 h1415
          rw [← hp] at c0 cl hxp HTG
          rw [← hm] at HTG HAM
          have HC : Hid (oper x.c = 5) := h5
          have HMM : Hid (m = x.n) := hm
          clear hp hm hc hx hri hbr hbc hb0 hnn c1 c2 hRB hRL h5 hc28 hl3 hcc
          cases hany : ls.any (fun j => j.p == m) with
          | true =>
            have HD : Hid (ledT ls (t + 1) = true) := ledT_more HX.out HT.out (.inr (by rw [← HMM.out]; exact hany))
            rw [hany] at HAM
            clear hany
            rcases h1415 with h | h <;> subst h
            all_goals
              go_wp2_with (first
                | (go_at_call 14; refine Calls.mono HTG.out ?_; rintro e X1 ⟨rfl, q⟩; have BX : Hid (Below wr.heap.size wr X1) := q; clear q)
                | (go_at_call 23; refine Calls.mono (HAM.out X1 BX.out) ?_; rintro e X2 ⟨rfl, rfl⟩))
              exact ⟨⟨t + 1, hlt, by go_num, Lw.be L.out BX.out, B.out.trans (BX.out.mono B.out.size), HD⟩, by simp [intOf]; omega⟩
          | false =>
            have HD : Hid (ec d = 100) := ec_not HDL.out h0 h1 HPG.out (leads_not HX.out HC.out (by rw [← HMM.out]; exact hany))
            rw [hany] at HAM
            clear hany
            rcases h1415 with h | h <;> subst h
            all_goals
              go_wp2_with (first
                | (go_at_call 14; refine Calls.mono HTG.out ?_; rintro e X1 ⟨rfl, q⟩; have BX : Hid (Below wr.heap.size wr X1) := q; clear q)
                | (go_at_call 23; refine Calls.mono (HAM.out X1 BX.out) ?_; rintro e X2 ⟨rfl, rfl⟩))
              go_ret
              exact ⟨by rw [HD.out]; rfl, B.out.trans (BX.out.mono B.out.size)⟩
        · have HD : Hid (ledT ls (t + 1) = true) := ledT_more HX.out HT.out (.inl h5)
          have hno : ¬ (x.c = 14 ∨ x.c = 15) := fun q => h5 ((oper5 x.c hc28).2 q)
          obtain ⟨p, hp⟩ : ∃ p, p = x.p := ⟨_, rfl⟩
          obtain ⟨c, hc⟩ : ∃ c, c = x.c := ⟨_, rfl⟩
          rw [← hc] at c0 hno hc28
          rw [← hp] at c0 cl hxp
          have e14 : ((c : Int) == 14) = false := by simp; omega
          have e15 : ((c : Int) == 15) = false := by simp; omega
          clear hp hc hx hri hbr hbc hRB hRL h5 hcc hno
          go_wp2
          exact ⟨⟨t + 1, hlt, by go_num, L, B, HD⟩, by simp [intOf]; omega⟩
      · have et : t = N := by omega
        have HD : Hid (ec d = 0) := ec_led HDL.out h0 h1 HPG.out (ledT_all (by rw [← HN.out, ← et]; exact HT.out))
        have e4 : (t : Int) = (N : Int) := by omega
        rw [e4]
        clear e4 et ht hlt HT
        go_wp2
        go_ret
        exact ⟨by rw [HD.out]; rfl, B.out⟩
theorem refCheck_any (A : Option Addr) (n cap : Nat) (d : List (BitVec 8)) (hd : d.length = n) (hm : n < 9223372036854775808) (w : World) (hs : SlAt w (.slice A n cap) d) : Calls Tryz.prog 7 #[.slice A n cap] w fun e w' => e = .returned (.int .i64 (ec d)) ∧ Below w.heap.size w w' := by
  by_cases h : n = 0 ∨ 1024 < n
  · exact Calls.mono (refCheck_len A n cap d hd h hm w) (fun e w' ⟨q, b⟩ => ⟨q, by rw [b]; exact Below.refl _ _⟩)
  · rcases hs with ⟨q, _⟩ | ⟨ab, ao, c', hv, _, hr⟩
    · rw [q] at hd; exact absurd (.inl hd.symm) h
    · simp only [Value.slice.injEq] at hv
      obtain ⟨rfl, _, rfl⟩ := hv
      exact refCheck_in ab ao n cap d hd (by omega) (by omega) w hr
end Go.Proofs.YtclbiophgnkggaaGreatDoor

namespace Go.Proofs.YtclbiophgnkggaaGreatDoor
open Go Go.RowKit
open Sha
open Wd

theorem bw_empty (w : World) : Bw (w.alloc (Obj.cells #[] 5)) (.slice (some ⟨w.heap.size, 0, none⟩) 0 0) [] :=
  ⟨rfl, .inr ⟨w.heap.size, 0, #[], rfl, Nat.zero_le _, (Row.new' rfl rfl : Row _ _ [] _), Nat.le_refl _, by unfold maxLen; omega, by simp, by simp; rfl⟩⟩
theorem bw_zero {w : World} {A : Option Addr} {n cap : Nat} {d : List (BitVec 8)} (h : Bw w (.slice A n cap) d) : ∀ ab ao, A = some ⟨ab, ao, none⟩ → ao = 0 := fun ab ao e => by
  subst e
  rcases h.2 with ⟨h1, _⟩ | ⟨g, c, cur, hv, _⟩
  · cases h1
  · simp only [Value.slice.injEq, Option.some.injEq, Addr.mk.injEq] at hv
    exact hv.1.2.1
end Go.Proofs.YtclbiophgnkggaaGreatDoor
