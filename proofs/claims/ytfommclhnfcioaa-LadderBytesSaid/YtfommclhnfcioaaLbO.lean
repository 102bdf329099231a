/-
  LadderBytes: the law's ownedBytes.
-/
import Derived.Test.YtfommclhnfcioaaXMem
import Derived.Laws.BytesArg
import Derived.Test.YtfommclhnfcioaaLbG
import Derived.Test.YtfommclhnfcioaaLaK

namespace Go.Proofs.Ytfommclhnfcioaa
open Go Go.RowKit
open Sha

/-- Bytes as a string. -/
def str (l : List (BitVec 8)) : ByteArray := strOfNums (l.map c)
theorem run_convert_str {P : Program} (w : World) (src e dst : TypeId) (hs : P.underlying src = some (.slice e)) (he : P.underlying e = some (.int .u8)) (hd : P.underlying dst = some .string) (b off cap n : Nat) (l : List (BitVec 8)) (hl : l.length = n)
    (hr : w.rangeAt b off (vB l)) : (convert src dst (.slice (some ⟨b, off, none⟩) n cap)).run P w = .ok (.string (str l)) w :=
  run_convert_bytes_arg w src e hs he b off n cap (l.map c) (by simpa using hl) (fun i hi => hr i _ (by rw [vB_get l i (by omega)]; simp [show i < l.length by omega])) dst hd
theorem run_convert_sl {P : Program} (w : World) (src e dst : TypeId) (hs : P.underlying src = some (.slice e)) (he : P.underlying e = some (.int .u8)) (hd : P.underlying dst = some .string) (v : Value) (d : List (BitVec 8)) (hv : SlAt w v d) :
    (convert src dst v).run P w = .ok (.string (str d)) w := by
  rcases hv with ⟨rfl, A, cap, rfl⟩ | ⟨ab, ao, cap, rfl, _, hr⟩
  · cases A with
    | none =>
      rw [run_convert_bytes_string w src dst e none 0 cap hs he hd]
      simp [Conv.bytesToString]
      rfl
    | some p =>
      have hl : (loadCells p 0).run P w = .ok (([] : List Int).map (Value.int .u8)).toArray w := run_loadCells_list (P := P) w p [] (fun j v hj => by simp at hj)
      rw [run_convert_bytes_string w src dst e _ 0 cap hs he hd, run_bytesToString w _ 0 cap [] hl]
      rfl
  · exact run_convert_str w src e dst hs he hd ab ao cap d.length d rfl hr

end Go.Proofs.Ytfommclhnfcioaa

namespace Go.Proofs.Ytfommclhnfcioaa
open Go Go.RowKit
open Sha

theorem str_toList (l : List (BitVec 8)) : (str l).toList = toU l := by
  rw [ByteArray.toList_eq]
  unfold str toU
  rw [strOfNums_data, List.map_map]
  apply List.map_congr_left
  intro x _
  apply UInt8.toNat_inj.1
  have := x.isLt
  unfold c
  simp only [Function.comp_apply, Int.toNat_natCast, UInt8.toNat_ofNat', UInt8.toNat_ofBitVec]
  omega
theorem str_beq (l r : List (BitVec 8)) : ((str l).toList == (str r).toList) = decide (l = r) := by
  rw [str_toList, str_toList, toU_beq]
section
variable {ops : Array Oper} {rest : List Oper} {op : Oper} {a : Act} {w : World} {Q : Exit → Act → World → Prop}
theorem wpList_conv_s (hw : Region.wanted op (yielded ops a.tmps) = true) (x : Operand) (ho : op.op = .convert 26 9 x) (v : Value) (d : List (BitVec 8)) (hx : a.eval x = v) (hv : SlAt w v d) (h : wpList Try.prog ops Q rest (a.put op.dst (.string (str d))) w) : wpList Try.prog ops Q (op :: rest) a w :=
  BigFrame.wpList_want hw fun _ hK => by
    have hr := run_convert_sl (P := Try.prog) w 26 5 9 Try.underlying26 Try.underlying5 Try.underlying9 v d hv
    unfold Oper.wp execOp
    simp only [ho, hx, Sem.run_bind, hr, Result.andThen_ok, Sem.run_pure, Oper.upon_value]
    exact hK _ _ h
theorem wpList_neq_s (hw : Region.wanted op (yielded ops a.tmps) = true) (x y : Operand) (t yt : TypeId) (ho : op.op = .binOp .neq t x y yt) (l r : List (BitVec 8)) (hx : a.eval x = .string (str l)) (hy : a.eval y = .string (str r)) (B : Bool) (hB : (!decide (l = r)) = B) (h : wpList Try.prog ops Q rest (a.put op.dst (.bool B)) w) : wpList Try.prog ops Q (op :: rest) a w :=
  BigFrame.wpList_want hw fun _ hK => by
    subst hB
    rw [← str_beq] at h
    unfold Oper.wp execOp
    simp only [ho, hx, hy]
    simp [go_sem]
    exact hK _ _ h
end
theorem bw_row2 {w : World} {g n cap : Nat} {d : List (BitVec 8)} (h : Bw w (.slice (some ⟨g, 0, none⟩) n cap) d) : ∃ cur : List Value, Row w g cur 5 ∧ cur.length = cap ∧ n ≤ cap ∧ cap ≤ maxLen ∧ cur.take n = vB d ∧ d.length = n := by
  rcases h.2 with ⟨q, _⟩ | ⟨g', cap', cur, q, _, hh, hc, hm, hs, ht⟩
  · cases q
  · simp only [Value.slice.injEq, Option.some.injEq, Addr.mk.injEq] at q
    obtain ⟨⟨rfl, _, _⟩, hn, rfl⟩ := q
    refine ⟨cur.toList, by unfold Row; rw [hh], by simpa using hs, by omega, hm, ?_, by omega⟩
    rw [← ht, Nat.mul_one, hn]
theorem bw_of {w : World} {g n cap : Nat} {d : List (BitVec 8)} {cur : List Value} (r : Row w g cur 5) (h1 : cur.length = cap) (h2 : n ≤ cap) (h3 : cap ≤ maxLen) (h4 : cur.take n = vB d) (h5 : d.length = n) : Bw w (.slice (some ⟨g, 0, none⟩) n cap) d := by
  subst h5
  exact ⟨by rw [vB_length, Nat.mul_one], .inr ⟨g, cap, cur.toArray, rfl, Nat.zero_le _, r, h2, h3, by simp [h1], by rw [Nat.mul_one]; exact h4⟩⟩
theorem Bw.cellAt {w : World} {G m cf : Nat} {e : List (BitVec 8)} (h : Bw w (.slice (some ⟨G, 0, none⟩) m cf) e) (j : Nat) (y : BitVec 8) (hy : e[j]? = some y) : w.cell? ⟨G, j, none⟩ = some (.int .u8 (c y)) := by
  rcases Bw.sl h with ⟨e0, _⟩ | ⟨ab, ao, cap, e1, _, r⟩
  · rw [e0] at hy; cases hy
  · simp only [Value.slice.injEq, Option.some.injEq, Addr.mk.injEq] at e1
    obtain ⟨⟨rfl, rfl, _⟩, _, _⟩ := e1
    have := r j (.int .u8 (c y)) (by unfold vB; rw [List.getElem?_map, hy]; rfl)
    rwa [Nat.zero_add] at this
theorem vB_setB (d : List (BitVec 8)) (k : Nat) (x : BitVec 8) : vB (d.set k x) = (vB d).set k (.int .u8 (c x)) := by unfold vB; rw [List.map_set]
theorem info_u8b : ∃ ie z, Try.prog.info? 5 = some ie ∧ ie.zero = some z ∧ ie.size = 1 ∧ z.cells.size = 1 := by
  obtain ⟨ie, z, h1, h2, h3, _, h5⟩ := info_u8open
  exact ⟨ie, z, h1, h2, h3, h5⟩
theorem bw_at0 {w : World} {A : Option Addr} {n c : Nat} {d : List (BitVec 8)} (h : Bw w (.slice A n c) d) (h0 : 0 < n) : ∃ g, A = some ⟨g, 0, none⟩ := by
  rcases h.2 with ⟨q, _⟩ | ⟨g, cap, cur, q, _⟩
  · simp only [Value.slice.injEq] at q; omega
  · simp only [Value.slice.injEq] at q; exact ⟨g, q.1⟩
/-- Two lists of bytes, each its own, apart from one another. -/
structure O2 (w0 w : World) (R : Nat → Prop) (va vb : Value) (xa xb : List (BitVec 8)) : Prop where
  a : Bw w va xa
  b : Bw w vb xb
  ap : ∀ g, va.ownBlock = some g → vb.ownBlock ≠ some g
  g : Gro R w0 w
  ra : ∀ g, va.ownBlock = some g → R g ∨ w0.heap.size ≤ g
  rb : ∀ g, vb.ownBlock = some g → R g ∨ w0.heap.size ≤ g
section
variable {w0 w X : World} {R : Nat → Prop} {va vb : Value} {xa xb : List (BitVec 8)}
theorem O2.symm (h : O2 w0 w R va vb xa xb) : O2 w0 w R vb va xb xa := ⟨h.b, h.a, fun g e e2 => h.ap g e2 e, h.g, h.rb, h.ra⟩
theorem O2.be (h : O2 w0 w R va vb xa xb) (k : Below w.heap.size w X) : O2 w0 X R va vb xa xb := ⟨Bw.be h.a k, Bw.be h.b k, h.ap, h.g.below k, h.ra, h.rb⟩
theorem O2.open {A : Option Addr} {n cap : Nat} (h : O2 w0 w R (.slice A n cap) vb xa xb) (h0 : 0 < n) : ∃ g cur, A = some ⟨g, 0, none⟩ ∧ Row w g cur 5 ∧ n ≤ cur.length ∧
    ∀ X k x, k < n → Row X g (cur.set k (.int .u8 (c x))) 5 → Gro (· = g) w X → O2 w0 X R (.slice A n cap) vb (xa.set k x) xb := by
  obtain ⟨g, rfl⟩ := bw_at0 h.a h0
  obtain ⟨cur, r, h1, h2, h3, h4, h5⟩ := bw_row2 h.a
  refine ⟨g, cur, rfl, r, by omega, fun X k x hk rX gX => ⟨?_, ?_, h.ap, ?_, h.ra, h.rb⟩⟩
  · exact bw_of rX (by rw [List.length_set]; exact h1) h2 h3 (by rw [vB_setB, ← h4, List.take_set]) (by rw [List.length_set]; exact h5)
  · exact Bw.gro h.b gX (fun q e e2 => by subst e2; exact h.ap q rfl e)
  · exact h.g.then gX (fun q e => by subst e; exact h.ra q rfl)
theorem O2.grow {v' : Value} {new : List (BitVec 8)} (h : O2 w0 w R va vb xa xb) (q1 : Bw X v' (xa ++ new)) (q2 : w.grownBy X va.ownBlock) (q3 : v'.ownBlock = va.ownBlock ∨ v'.ownBlock = some w.heap.size) : O2 w0 X R v' vb (xa ++ new) xb := by
  refine ⟨q1, Bw.block h.b (fun g e => q2.block g (Bw.lt h.b g e) (fun e2 => h.ap g e2.symm e)), fun g e e2 => ?_, h.g.grown q2 h.ra, fun g e => ?_, h.rb⟩
  · rcases q3 with q | q
    · exact h.ap g (q ▸ e) e2
    · rw [q] at e
      have := Bw.lt h.b g e2
      simp only [Option.some.injEq] at e
      omega
  · rcases q3 with q | q
    · exact h.ra g (q ▸ e)
    · rw [q] at e
      simp only [Option.some.injEq] at e
      exact .inr (by rw [← e]; exact h.g.size)
end
theorem rep_set (n t : Nat) (x : BitVec 8) (l : List (BitVec 8)) (hl : l.length = n) (ht : t < n) : (List.replicate t x ++ l.drop t).set t x = List.replicate (t + 1) x ++ l.drop (t + 1) := by
  rw [List.set_append_right _ _ (by rw [List.length_replicate]; exact Nat.le_refl _), List.length_replicate, Nat.sub_self, List.drop_eq_getElem_cons (by omega), List.set_cons_zero, List.replicate_succ', List.append_assoc]
  rfl

end Go.Proofs.Ytfommclhnfcioaa

namespace Go.Proofs.Ytfommclhnfcioaa
open Go Go.RowKit
open Sha

set_option maxRecDepth 100000 in
set_option maxHeartbeats 4000000 in
theorem ownedB_any (n k : Nat) (hn : n ≤ 1000) (hk : k ≤ 1000) (A B : Option Addr) (ca cb : Nat) (xa xb : List (BitVec 8)) (w : World) (R : Nat → Prop) (h : O2 w w R (.slice A n ca) (.slice B k cb) xa xb) :
    Calls Try.prog 14 #[.slice A n ca, .slice B k cb] w fun e w' => e = .returned (.bool true) ∧ Gro R w w' := by
  have LA : Hid (xa.length = n) := by obtain ⟨_, _, e, _⟩ := Bw.form h.a; simp only [Value.slice.injEq] at e; exact e.2.1.symm
  have LB : Hid (xb.length = k) := by obtain ⟨_, _, e, _⟩ := Bw.form h.b; simp only [Value.slice.injEq] at e; exact e.2.1.symm
  go_enter Try.func14, Try.ntmps14
  go_wp2
  go_loopw [7] (fun i wr => ∃ t : Nat, t ≤ n ∧ i = .int .i64 (t : Int) ∧ O2 w wr R (.slice A n ca) (.slice B k cb) (List.replicate t 11#8 ++ xa.drop t) xb) (fun i _ => n - (intOf i).toNat)
  case atStart => exact ⟨0, Nat.zero_le _, rfl, by rw [List.drop_zero]; exact h⟩
  case round =>
    clear h
    obtain ⟨t, ht, rfl, h⟩ := hrel
    by_cases hlt : t < n
    · obtain ⟨g, cur, rfl, r, hc, hset⟩ := h.open (by omega)
      have RR : Hid (Row wr g cur 5) := r
      have HC : Hid (t < cur.length) := by show _ < _; omega
      have HS : Hid (∀ X, Row X g (cur.set t (.int .u8 11)) 5 → Gro (· = g) wr X → O2 w X R (.slice (some ⟨g, 0, none⟩) n ca) (.slice B k cb) (List.replicate (t + 1) 11#8 ++ xa.drop (t + 1)) xb) := fun X q1 q2 => by
        have := hset X t 11#8 hlt q1 q2
        rwa [rep_set n t 11#8 xa LA.out hlt] at this
      clear h hset hc r
      go_wp2_with (refine wpList_st1 rfl 5 (.tmp 24) (.const (.int .u8 11)) rfl g t (.int .u8 11) cur 5 rfl rfl rfl RR.out HC.out info_u8 rfl ?_; intro X q1 q2; have H1 : Hid _ := HS.out X q1 q2; clear q1 q2)
      exact ⟨⟨t + 1, hlt, by go_num, H1.out⟩, by simp [intOf]; omega⟩
    · obtain rfl : t = n := by omega
      rw [List.drop_eq_nil_of_le (by rw [LA.out]; exact Nat.le_refl _), List.append_nil] at h
      clear hlt ht
      go_wp2
      go_loopw [8] (fun i wr => ∃ s : Nat, s ≤ k ∧ i = .int .i64 (s : Int) ∧ O2 w wr R (.slice A t ca) (.slice B k cb) (List.replicate t 11#8) (List.replicate s 22#8 ++ xb.drop s)) (fun i _ => k - (intOf i).toNat)
      case atStart => exact ⟨0, Nat.zero_le _, rfl, by rw [List.drop_zero]; exact h⟩
      case round =>
        clear h
        obtain ⟨s, hs, rfl, h⟩ := hrel
        by_cases hlt : s < k
        · obtain ⟨g, cur, rfl, r, hc, hset⟩ := h.symm.open (by omega)
          have RR : Hid (Row wr g cur 5) := r
          have HC : Hid (s < cur.length) := by show _ < _; omega
          have HS : Hid (∀ X, Row X g (cur.set s (.int .u8 22)) 5 → Gro (· = g) wr X → O2 w X R (.slice A t ca) (.slice (some ⟨g, 0, none⟩) k cb) (List.replicate t 11#8) (List.replicate (s + 1) 22#8 ++ xb.drop (s + 1))) := fun X q1 q2 => by
            have := (hset X s 22#8 hlt q1 q2).symm
            rwa [rep_set k s 22#8 xb LB.out hlt] at this
          clear h hset hc r
          go_wp2_with (refine wpList_st1 rfl 5 (.tmp 32) (.const (.int .u8 22)) rfl g s (.int .u8 22) cur 5 rfl rfl rfl RR.out HC.out info_u8 rfl ?_; intro X q1 q2; have H1 : Hid _ := HS.out X q1 q2; clear q1 q2)
          exact ⟨⟨s + 1, hlt, by go_num, H1.out⟩, by simp [intOf]; omega⟩
        · obtain rfl : s = k := by omega
          rw [List.drop_eq_nil_of_le (by rw [LB.out]; exact Nat.le_refl _), List.append_nil] at h
          clear hlt hs LA LB
          go_wp2
          go_loopw [0, 9] (fun v i wr => ∃ u : Nat, u ≤ 9 ∧ i = .int .i64 (u : Int) ∧ O2 w wr R v (.slice B s cb) (List.replicate (t + u) 11#8) (List.replicate s 22#8)) (fun _ i _ => 9 - (intOf i).toNat)
          case atStart => exact ⟨0, Nat.zero_le _, rfl, h⟩
          case round =>
            clear h
            obtain ⟨u, hu, rfl, h⟩ := hrel
            obtain ⟨Av, cv, ev, _⟩ := Bw.form h.a
            rw [List.length_replicate] at ev
            subst ev
            by_cases hlt : u < 9
            · have H0 : Hid _ := h
              clear h
              go_wp2_with (first
                | (refine wpList_buildOne 26 5 Try.underlying26 info_u8b rfl (.const (.int .u8 11)) rfl (.int .u8 11) rfl rfl ?_; intro X q1 q2 q3; have RX : Hid (Row X wr.heap.size [.int .u8 11] 5) := q1; have H1 : Hid (O2 w X R (.slice Av (t + u) cv) (.slice B s cb) (List.replicate (t + u) 11#8) (List.replicate s 22#8)) := H0.out.be q2; clear q1 q2 q3; simp only [Act.put, List.setIfInBounds_toArray, List.set_cons_zero, List.set_cons_succ])
                | (refine wpList_app rfl (.tmp 37) (.tmp 38) rfl (.slice Av (t + u) cv) (List.replicate (t + u) 11#8) [11#8] rfl H1.out.a (some ⟨wr.heap.size, 0, none⟩) 1 1 rfl rfl (.inr ⟨wr.heap.size, 0, 1, rfl, Nat.le_refl _, RX.out.all⟩) (fun e => by cases e) (by { rw [List.length_replicate]; omega }) ?_; intro v' X2 q1 q2 q3; have H2 : Hid _ := H1.out.grow q1 q2 q3; clear q1 q2 q3; simp only [Act.put, List.setIfInBounds_toArray, List.set_cons_zero, List.set_cons_succ]))
              refine ⟨⟨u + 1, hlt, by go_num, ?_⟩, by simp [intOf]; omega⟩
              rw [← Nat.add_assoc, List.replicate_succ']
              exact H2.out
            · obtain rfl : u = 9 := by omega
              clear hlt hu
              obtain ⟨t9, ht9⟩ : ∃ x, x = t + 9 := ⟨_, rfl⟩
              rw [← ht9] at h ⊢
              have HT9 : Hid (t9 = t + 9) := ht9
              clear ht9
              go_wp2
              go_loopw [1, 10] (fun v i wr => ∃ u : Nat, u ≤ 9 ∧ i = .int .i64 (u : Int) ∧ O2 w wr R (.slice Av t9 cv) v (List.replicate t9 11#8) (List.replicate (s + u) 22#8)) (fun _ i _ => 9 - (intOf i).toNat)
              case atStart => exact ⟨0, Nat.zero_le _, rfl, h⟩
              case round =>
                clear h
                obtain ⟨u, hu, rfl, h⟩ := hrel
                obtain ⟨Bv, dv, ev, _⟩ := Bw.form h.b
                rw [List.length_replicate] at ev
                subst ev
                by_cases hlt : u < 9
                · have H0 : Hid _ := h.symm
                  clear h
                  go_wp2_with (first
                    | (refine wpList_buildOne 26 5 Try.underlying26 info_u8b rfl (.const (.int .u8 22)) rfl (.int .u8 22) rfl rfl ?_; intro X q1 q2 q3; have RX : Hid (Row X wr.heap.size [.int .u8 22] 5) := q1; have H1 : Hid (O2 w X R (.slice Bv (s + u) dv) (.slice Av t9 cv) (List.replicate (s + u) 22#8) (List.replicate t9 11#8)) := H0.out.be q2; clear q1 q2 q3; simp only [Act.put, List.setIfInBounds_toArray, List.set_cons_zero, List.set_cons_succ])
                    | (refine wpList_app rfl (.tmp 44) (.tmp 45) rfl (.slice Bv (s + u) dv) (List.replicate (s + u) 22#8) [22#8] rfl H1.out.a (some ⟨wr.heap.size, 0, none⟩) 1 1 rfl rfl (.inr ⟨wr.heap.size, 0, 1, rfl, Nat.le_refl _, RX.out.all⟩) (fun e => by cases e) (by { rw [List.length_replicate]; omega }) ?_; intro v' X2 q1 q2 q3; have H2 : Hid _ := (H1.out.grow q1 q2 q3).symm; clear q1 q2 q3; simp only [Act.put, List.setIfInBounds_toArray, List.set_cons_zero, List.set_cons_succ]))
                  refine ⟨⟨u + 1, hlt, by go_num, ?_⟩, by simp [intOf]; omega⟩
                  rw [← Nat.add_assoc, List.replicate_succ']
                  exact H2.out
                · obtain rfl : u = 9 := by omega
                  clear hlt hu
                  obtain ⟨s9, hs9⟩ : ∃ x, x = s + 9 := ⟨_, rfl⟩
                  rw [← hs9] at h ⊢
                  have HS9 : Hid (s9 = s + 9) := hs9
                  clear hs9
                  have H0 : Hid _ := h
                  clear h
                  go_wp2
                  go_loopw [11] (fun i wq => ∃ q : Nat, q ≤ t9 ∧ i = .int .i64 (q : Int) ∧ wq = wr) (fun i _ => t9 - (intOf i).toNat)
                  case atStart => exact ⟨0, Nat.zero_le _, rfl, rfl⟩
                  case round =>
                    obtain ⟨q, hq, rfl, rfl⟩ := hrel
                    by_cases hlt : q < t9
                    · obtain ⟨g, rfl⟩ := bw_at0 H0.out.a (by omega)
                      have cq := Bw.cellAt H0.out.a q 11#8 (by rw [List.getElem?_replicate, if_pos hlt])
                      have cq2 : _ = some (Value.int .u8 11) := cq
                      clear cq
                      have hl2 : q < t + 9 := by have := HT9.out; omega
                      go_wp2
                      exact ⟨⟨q + 1, hlt, by go_num, trivial⟩, by simp [intOf]; omega⟩
                    · obtain rfl : q = t9 := by omega
                      have hl2 : ¬ q < t + 9 := by have := HT9.out; omega
                      have hl3 : ¬ ((q : Int) < (t : Int) + 9) := by omega
                      clear hlt hq
                      go_wp2
                      go_loopw [12] (fun i wq => ∃ y : Nat, y ≤ s9 ∧ i = .int .i64 (y : Int) ∧ wq = wr) (fun i _ => s9 - (intOf i).toNat)
                      case atStart => exact ⟨0, Nat.zero_le _, rfl, rfl⟩
                      case round =>
                        obtain ⟨y, hy, rfl, rfl⟩ := hrel
                        by_cases hlt : y < s9
                        · obtain ⟨g, rfl⟩ := bw_at0 H0.out.b (by omega)
                          have cq := Bw.cellAt H0.out.b y 22#8 (by rw [List.getElem?_replicate, if_pos hlt])
                          have cq2 : _ = some (Value.int .u8 22) := cq
                          clear cq
                          have hl2 : y < s + 9 := by have := HS9.out; omega
                          go_wp2
                          exact ⟨⟨y + 1, hlt, by go_num, trivial⟩, by simp [intOf]; omega⟩
                        · obtain rfl : y = s9 := by omega
                          have hl2 : ¬ y < s + 9 := by have := HS9.out; omega
                          have hl3 : ¬ ((y : Int) < (s : Int) + 9) := by omega
                          clear hlt hy
                          go_wp2
                          go_ret
                          exact ⟨rfl, H0.out.g⟩

end Go.Proofs.Ytfommclhnfcioaa
