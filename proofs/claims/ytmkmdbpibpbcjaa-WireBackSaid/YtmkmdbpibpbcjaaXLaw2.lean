/-
  The law's digest, address.
-/
import Derived.Test.YtmkmdbpibpbcjaaXWb
import Derived.Laws.IdiomCopy

namespace Go.Proofs.Ytmkmdbpibpbcjaa
open Go Go.RowKit
open Sha

/-- Which one. -/
def pk (c n : Int) : Int := (if c < 0 then -(c + 1) else c) % n
theorem pk_range (c n : Int) (hn : 0 < n) : 0 ≤ pk c n ∧ pk c n < n := ⟨Int.emod_nonneg _ (by omega), Int.emod_lt_of_pos _ hn⟩
set_option maxRecDepth 100000 in
theorem pick_any (c n : Int) (hn : 0 < n) (h1 : -9223372036854775808 ≤ c) (h2 : c ≤ 9223372036854775807) (hn2 : n ≤ 9223372036854775807) (w : World) :
    Calls Try.prog 30 #[.int .i64 c, .int .i64 n] w fun e w' => e = .returned (.int .i64 (pk c n)) ∧ w' = w := by
  have hn0 : ¬ n = 0 := by omega
  have hn1 : ¬ n = -1 := by omega
  have hr := pk_range c n hn
  by_cases hc : c < 0
  · have e1 : Hid (pk c n = (-(c + 1)) % n) := by show _ = _; unfold pk; rw [if_pos hc]
    have e3 : (-(c + 1)).tmod n = pk c n := by rw [e1.out]; exact Int.tmod_eq_emod_of_nonneg (by omega)
    have e4 : (-1 + -c).tmod n = pk c n := by rw [show -1 + -c = -(c + 1) by omega]; exact e3
    have e5 : (-c + -1).tmod n = pk c n := by rw [show -c + -1 = -(c + 1) by omega]; exact e3
    generalize pk c n = r at *
    go_enter Try.func30, Try.ntmps30
    go_wp2
    go_ret
    exact ⟨by first | rfl | (simp; omega), rfl⟩
  · have e1 : Hid (pk c n = c % n) := by show _ = _; unfold pk; rw [if_neg hc]
    have e3 : c.tmod n = pk c n := by rw [e1.out]; exact Int.tmod_eq_emod_of_nonneg (by omega)
    generalize pk c n = r at *
    go_enter Try.func30, Try.ntmps30
    go_wp2
    go_ret
    exact ⟨by first | rfl | (simp; omega), rfl⟩

theorem sl_cell {w : World} {A : Option Addr} {n cap : Nat} {d : List (BitVec 8)} (h : SlAt w (.slice A n cap) d) (i : Nat) (hi : i < d.length) : ∃ b o, A = some ⟨b, o, none⟩ ∧ w.cell? ⟨b, o + i, none⟩ = some (.int .u8 (c (d.getD i 0))) := by
  rcases h with ⟨h0, _⟩ | ⟨ab, ao, c', hv, _, hr⟩
  · subst h0; simp at hi
  · simp only [Value.slice.injEq] at hv
    exact ⟨ab, ao, hv.1, hr i _ (vB_get d i hi)⟩
theorem c_inj {x y : BitVec 8} (h : c x = c y) : x = y := by
  unfold c at h
  apply BitVec.eq_of_toNat_eq
  omega

set_option maxRecDepth 100000 in
set_option maxHeartbeats 2000000 in
theorem same_any (d e : List (BitVec 8)) (n m : Nat) (hn : d.length = n) (hm : e.length = m) (hs : n ≤ 4611686018427387904) (hs2 : m ≤ 4611686018427387904) (A B : Option Addr) (ca cb : Nat) (w : World) (h1 : SlAt w (.slice A n ca) d) (h2 : SlAt w (.slice B m cb) e) (R : Bool) (hR : decide (d = e) = R) :
    Calls Try.prog 27 #[.slice A n ca, .slice B m cb] w fun r w' => r = .returned (.bool R) ∧ ∃ q, w' = w.drewN q := by
  by_cases hnm : n = m
  · subst hnm
    have HN : Hid (d.length = n) := hn
    have HM : Hid (e.length = n) := hm
    have H1 : Hid (SlAt w (.slice A n ca) d) := h1
    have H2 : Hid (SlAt w (.slice B n cb) e) := h2
    have HR : Hid (decide (d = e) = R) := hR
    clear hn hm h1 h2 hR
    go_enter Try.func27, Try.ntmps27
    go_wp2
    go_loopw [5] (fun i wr => ∃ t : Nat, t ≤ n ∧ i = .int .i64 (t : Int) ∧ (∃ q, wr = w.drewN q) ∧ Hid (d.take t = e.take t)) (fun i _ => n - (intOf i).toNat)
    case atStart => exact ⟨0, Nat.zero_le _, rfl, ⟨0, rfl⟩, rfl⟩
    case round =>
      obtain ⟨t, ht, rfl, ⟨q, hq⟩, HE⟩ := hrel
      by_cases hlt : t < n
      · have l1 : t < d.length := by rw [HN.out]; exact hlt
        have l2 : t < e.length := by rw [HM.out]; exact hlt
        obtain ⟨b1, o1, rfl, c1⟩ := sl_cell H1.out t l1
        obtain ⟨b2, o2, rfl, c2⟩ := sl_cell H2.out t l2
        have c1' : wr.cell? ⟨b1, o1 + t, none⟩ = some (.int .u8 (c (d.getD t 0))) := by rw [hq]; exact c1
        have c2' : wr.cell? ⟨b2, o2 + t, none⟩ = some (.int .u8 (c (e.getD t 0))) := by rw [hq]; exact c2
        have ED : Hid (d.take (t + 1) = d.take t ++ [d.getD t 0]) := by show _ = _; rw [List.take_succ_eq_append_getElem l1]; simp [l1]
        have EE : Hid (e.take (t + 1) = e.take t ++ [e.getD t 0]) := by show _ = _; rw [List.take_succ_eq_append_getElem l2]; simp [l2]
        have HQ : Hid (wr = w.drewN q) := hq
        have L1 : Hid (t < d.length) := l1
        have L2 : Hid (t < e.length) := l2
        have NE : Hid (d.getD t 0 ≠ e.getD t 0 → decide (d = e) = false) := fun h => by
          apply decide_eq_false
          intro e'; subst e'; exact h rfl
        clear c1 c2 hq l1 l2
        generalize d.getD t 0 = x at *
        generalize e.getD t 0 = y at *
        by_cases hxy : x = y
        · subst hxy
          generalize c x = cx at *
          go_wp2
          go_region
          all_goals
            go_wp2
            exact ⟨⟨t + 1, hlt, by go_num, ⟨q + 1, by rw [HQ.out]; rfl⟩, by show _ = _; rw [ED.out, EE.out, HE.out]⟩, by simp [intOf]; omega⟩
        · have hc : ¬ c x = c y := fun h => hxy (c_inj h)
          obtain rfl : R = false := by rw [← HR.out]; exact NE.out hxy
          clear NE hxy HR
          generalize c x = cx at *
          generalize c y = cy at *
          go_wp2
          go_region
          all_goals
            go_wp2
            go_ret
            exact ⟨rfl, q + 1, by rw [HQ.out]; rfl⟩
      · obtain rfl : t = n := by omega
        have ee : d = e := by
          have := HE.out
          rw [List.take_of_length_le (by rw [HN.out]; exact Nat.le_refl _), List.take_of_length_le (by rw [HM.out]; exact Nat.le_refl _)] at this
          exact this
        have HQ : Hid (wr = w.drewN q) := hq
        obtain rfl : R = true := by rw [← HR.out]; exact decide_eq_true ee
        clear hq ee HR
        go_wp2
        go_ret
        exact ⟨rfl, q, HQ.out⟩
  · have hne : ¬ (n : Int) = (m : Int) := by omega
    have hf : decide (d = e) = false := decide_eq_false (fun h => by subst h; omega)
    obtain rfl : R = false := by rw [← hR]; exact hf
    clear h1 h2 hn hm hf hR
    go_enter Try.func27, Try.ntmps27
    go_wp2
    go_ret
    exact ⟨rfl, 0, rfl⟩

end Go.Proofs.Ytmkmdbpibpbcjaa

namespace Go.Proofs.Ytmkmdbpibpbcjaa
open Go Go.RowKit
open Sha

section
variable {ops : Array Oper} {rest : List Oper} {op : Oper} {a : Act} {w : World} {Q : Exit → Act → World → Prop}
theorem wpList_copyb (hgd : op.guard = none) (x y : Operand) (ho : op.op = .call { callee := .builtin .copy, args := #[x, y], argTypes := #[27, 27] }) (g N n cap : Nat) (A : Option Addr) (d : List (BitVec 8)) (hd : d.length = n)
    (hx : a.eval x = .slice (some ⟨g, 0, none⟩) N N) (hy : a.eval y = .slice A n cap) (hv : SlAt w (.slice A n cap) d) (ht : w.there g 0 (vB (d.take N)).length)
    (h : wpList Try.prog ops Q rest (a.put op.dst (goInt (vB (d.take N)).length)) (w.setCells g 0 (vB (d.take N)))) : wpList Try.prog ops Q (op :: rest) a w := by
  subst hd
  have hl : (vB (d.take N)).length = Nat.min d.length N := by rw [vB_length, List.length_take]; exact Nat.min_comm _ _
  refine wpList_plain hgd fun K hK => ?_
  obtain ⟨dst, op', ty, pos, after, guard⟩ := op
  simp only at hgd ho
  subst hgd; subst ho
  have hr : (Builtin.copy_ #[27, 27] ty #[.slice (some ⟨g, 0, none⟩) N N, .slice A d.length cap]).run Try.prog w = .ok (goInt (vB (d.take N)).length) (w.setCells g 0 (vB (d.take N))) := by
    rcases hv with ⟨h0, A', c', hv⟩ | ⟨ab, ao, c', hv, _, hr⟩
    · subst h0
      have := run_copy_none (P := Try.prog) w 27 27 ty 5 (some ⟨g, 0, none⟩) A N N 0 cap Try.underlying27 info_u8 (by simp)
      simpa [vB, World.setCells] using this
    · simp only [Value.slice.injEq] at hv
      obtain ⟨rfl, _, _⟩ := hv
      obtain ⟨ie, z, hq, _, hi, _, _⟩ := info_u8open
      have hsrc : ∀ j v, (vB (d.take N))[j]? = some v → w.cell? ((⟨ab, ao, none⟩ : Addr).add j) = some v := fun j v hj => by
        rw [Addr.add_mid]
        refine hr j v ?_
        unfold vB at hj ⊢
        rw [List.map_take, List.getElem?_take] at hj
        split at hj
        · exact hj
        · cases hj
      have hld := run_loadCells_list (P := Try.prog) w ⟨ab, ao, none⟩ (vB (d.take N)) hsrc
      have hst := run_storeCells_cells (P := Try.prog) g 0 (vB (d.take N)) 0 w (fun j hj => by simpa using (ht j (by simpa using hj)).1) (fun j hj => by simpa using (ht j (by simpa using hj)).2) (vB_one _)
      simp only [Nat.add_zero] at hst
      simp [Builtin.copy_, run_underlying Try.underlying27, Builtin.lenOf, Builtin.firstCells, sizeOf, typeInfo, hq, hi, ← hl, hld, hst]
  unfold Oper.wp
  rw [BigFrame.execOp_builtin, BigFrame.builtin_copy]
  simp only [List.map_toArray, List.map_cons, List.map_nil, hx, hy, Sem.run_bind, hr, Result.andThen_ok, Sem.run_pure, Oper.upon_value]
  exact hK _ _ h
end
/-- The first N bytes, noughts behind. -/
def dgN (N : Nat) (d : List (BitVec 8)) : List (BitVec 8) := d.take N ++ List.replicate (N - (d.take N).length) 0#8
theorem dgN_len (N : Nat) (d : List (BitVec 8)) : (dgN N d).length = N := by
  unfold dgN; rw [List.length_append, List.length_replicate, List.length_take]; omega
theorem dgN_row (N : Nat) (d : List (BitVec 8)) : (vB (List.replicate N 0#8)).take 0 ++ vB (d.take N) ++ (vB (List.replicate N 0#8)).drop (0 + (vB (d.take N)).length) = vB (dgN N d) := by
  unfold dgN
  rw [vB_length, List.take_zero, List.nil_append]
  unfold vB
  rw [← List.map_drop, List.drop_replicate, ← List.map_append, Nat.zero_add]

def z32 : List Value := vB (List.replicate 32 0#8)
theorem info_a32 : (Try.prog.info? 81).map (·.size) = some 32 := by kernel_rfl
set_option maxRecDepth 100000 in
set_option maxHeartbeats 2000000 in
theorem digest_of (d : List (BitVec 8)) (n : Nat) (hd : d.length = n) (A : Option Addr) (cap : Nat) (w : World) (hv : SlAt w (.slice A n cap) d) :
    Calls Try.prog 44 #[.slice A n cap] w fun e w' => e = .returned (.agg (vB (dgN 32 d)).toArray) ∧ Below w.heap.size w w' := by
  have b1 : Below w.heap.size w (w.alloc (Obj.cells z32.toArray 81)) := (Below.refl _ _).alloc (Nat.le_refl _) _
  have b2 := b1.alloc b1.size (Obj.cells z32.toArray 81)
  have r0 : Row ((w.alloc (Obj.cells z32.toArray 81)).alloc (Obj.cells z32.toArray 81)) w.heap.size z32 81 := (Row.new' rfl rfl).alloc _
  have r1 : Row ((w.alloc (Obj.cells z32.toArray 81)).alloc (Obj.cells z32.toArray 81)) (w.heap.size + 1) z32 81 := Row.new' (by simp) rfl
  have hl : (vB (d.take 32)).length ≤ 32 := by rw [vB_length, List.length_take]; omega
  have T1 := r1.there 0 (vB (d.take 32)).length (by rw [Nat.zero_add]; exact hl)
  have q1 := Row.setCells 0 (vB (d.take 32)) r1 (by rw [Nat.zero_add]; exact hl)
  have q0 := Row.setCells_other r0 (w.heap.size + 1) 0 (vB (d.take 32)) (by omega)
  have qb := below_setCells b2 (b := w.heap.size + 1) (o := 0) (by omega) (vB (d.take 32))
  rw [show z32 = vB (List.replicate 32 0#8) from rfl, dgN_row] at q1
  have HV : Hid _ := hv.be (b2)
  have HD : Hid (d.length = n) := hd
  generalize hcs : vB (dgN 32 d) = cs at *
  have hcl : cs.length = 32 := by rw [← hcs, vB_length, dgN_len]
  have HO : Hid (cs.toArray.all (·.oneCell') = true) := by rw [← hcs]; exact all_oneCell_toArray (vB_one _)
  have HI : Hid ((Try.prog.info? 81).map (·.size) = some cs.length) := by rw [info_a32, hcl]; rfl
  have HI' : Hid ((Try.prog.info? 81).map (·.size) = some cs.toArray.size) := by rw [info_a32, List.size_toArray, hcl]; rfl
  have T0 := q0.there 0 cs.toArray.size (by rw [List.size_toArray, hcl]; decide)
  have nf := q0.over (vs := cs) (by rw [hcl]; rfl)
  have nB := below_setCells qb (b := w.heap.size) (o := 0) (Nat.le_refl _) cs
  have HT1 : Hid _ := T1
  have HT0 : Hid _ := T0
  have Q1 : Hid (Row _ _ cs 81) := q1
  have NF : Hid (Row _ _ cs 81) := nf
  have NB : Hid (Below _ _ _) := nB
  have HL : Hid (cs.length = 32) := hcl
  clear b1 b2 r0 r1 T1 q0 qb T0 nf nB hcl hl hv hd hcs q1
  go_enter Try.func44, Try.ntmps44
  go_wp2_with (first
    | (refine wpList_slice_all rfl 81 5 32 (.tmp 3) (w.heap.size + 1) 0 rfl rfl Try.underlying81 info_u8 ?_; simp only [Act.put, List.setIfInBounds_toArray, List.set_cons_zero, List.set_cons_succ])
    | (refine wpList_copyb rfl (.tmp 4) (.tmp 5) rfl (w.heap.size + 1) 32 n cap A d HD.out rfl rfl HV.out HT1.out ?_; simp only [Act.put, List.setIfInBounds_toArray, List.set_cons_zero, List.set_cons_succ])
    | (refine wpList_load_w rfl 81 (.tmp 3) rfl (w.heap.size + 1) 0 rfl cs _ (Row.all Q1.out) Try.underlying81 rfl HI.out ?_; simp only [Act.put, List.setIfInBounds_toArray, List.set_cons_zero, List.set_cons_succ])
    | (refine wpList_store_mid rfl 81 (.tmp 2) (.tmp 7) rfl w.heap.size 0 cs.toArray rfl rfl HT0.out HI'.out HO.out ?_; simp only [Act.put]))
  exact bodyPost_ret (results_row Try.results44 _ _ w.heap.size 81 cs rfl NF.out Try.underlying81 info_a32 HL.out) rfl ⟨rfl, NB.out⟩

def z20 : List Value := vB (List.replicate 20 0#8)
theorem info_a20 : (Try.prog.info? 85).map (·.size) = some 20 := by kernel_rfl
set_option maxRecDepth 100000 in
set_option maxHeartbeats 2000000 in
theorem address_of (d : List (BitVec 8)) (n : Nat) (hd : d.length = n) (A : Option Addr) (cap : Nat) (w : World) (hv : SlAt w (.slice A n cap) d) :
    Calls Try.prog 47 #[.slice A n cap] w fun e w' => e = .returned (.agg (vB (dgN 20 d)).toArray) ∧ Below w.heap.size w w' := by
  have b1 : Below w.heap.size w (w.alloc (Obj.cells z20.toArray 85)) := (Below.refl _ _).alloc (Nat.le_refl _) _
  have b2 := b1.alloc b1.size (Obj.cells z20.toArray 85)
  have r0 : Row ((w.alloc (Obj.cells z20.toArray 85)).alloc (Obj.cells z20.toArray 85)) w.heap.size z20 85 := (Row.new' rfl rfl).alloc _
  have r1 : Row ((w.alloc (Obj.cells z20.toArray 85)).alloc (Obj.cells z20.toArray 85)) (w.heap.size + 1) z20 85 := Row.new' (by simp) rfl
  have hl : (vB (d.take 20)).length ≤ 20 := by rw [vB_length, List.length_take]; omega
  have T1 := r1.there 0 (vB (d.take 20)).length (by rw [Nat.zero_add]; exact hl)
  have q1 := Row.setCells 0 (vB (d.take 20)) r1 (by rw [Nat.zero_add]; exact hl)
  have q0 := Row.setCells_other r0 (w.heap.size + 1) 0 (vB (d.take 20)) (by omega)
  have qb := below_setCells b2 (b := w.heap.size + 1) (o := 0) (by omega) (vB (d.take 20))
  rw [show z20 = vB (List.replicate 20 0#8) from rfl, dgN_row] at q1
  have HV : Hid _ := hv.be (b2)
  have HD : Hid (d.length = n) := hd
  generalize hcs : vB (dgN 20 d) = cs at *
  have hcl : cs.length = 20 := by rw [← hcs, vB_length, dgN_len]
  have HO : Hid (cs.toArray.all (·.oneCell') = true) := by rw [← hcs]; exact all_oneCell_toArray (vB_one _)
  have HI : Hid ((Try.prog.info? 85).map (·.size) = some cs.length) := by rw [info_a20, hcl]; rfl
  have HI' : Hid ((Try.prog.info? 85).map (·.size) = some cs.toArray.size) := by rw [info_a20, List.size_toArray, hcl]; rfl
  have T0 := q0.there 0 cs.toArray.size (by rw [List.size_toArray, hcl]; decide)
  have nf := q0.over (vs := cs) (by rw [hcl]; rfl)
  have nB := below_setCells qb (b := w.heap.size) (o := 0) (Nat.le_refl _) cs
  have HT1 : Hid _ := T1
  have HT0 : Hid _ := T0
  have Q1 : Hid (Row _ _ cs 85) := q1
  have NF : Hid (Row _ _ cs 85) := nf
  have NB : Hid (Below _ _ _) := nB
  have HL : Hid (cs.length = 20) := hcl
  clear b1 b2 r0 r1 T1 q0 qb T0 nf nB hcl hl hv hd hcs q1
  go_enter Try.func47, Try.ntmps47
  go_wp2_with (first
    | (refine wpList_slice_all rfl 85 5 20 (.tmp 3) (w.heap.size + 1) 0 rfl rfl Try.underlying85 info_u8 ?_; simp only [Act.put, List.setIfInBounds_toArray, List.set_cons_zero, List.set_cons_succ])
    | (refine wpList_copyb rfl (.tmp 4) (.tmp 5) rfl (w.heap.size + 1) 20 n cap A d HD.out rfl rfl HV.out HT1.out ?_; simp only [Act.put, List.setIfInBounds_toArray, List.set_cons_zero, List.set_cons_succ])
    | (refine wpList_load_w rfl 85 (.tmp 3) rfl (w.heap.size + 1) 0 rfl cs _ (Row.all Q1.out) Try.underlying85 rfl HI.out ?_; simp only [Act.put, List.setIfInBounds_toArray, List.set_cons_zero, List.set_cons_succ])
    | (refine wpList_store_mid rfl 85 (.tmp 2) (.tmp 7) rfl w.heap.size 0 cs.toArray rfl rfl HT0.out HI'.out HO.out ?_; simp only [Act.put]))
  exact bodyPost_ret (results_row Try.results47 _ _ w.heap.size 85 cs rfl NF.out Try.underlying85 info_a20 HL.out) rfl ⟨rfl, NB.out⟩

end Go.Proofs.Ytmkmdbpibpbcjaa
