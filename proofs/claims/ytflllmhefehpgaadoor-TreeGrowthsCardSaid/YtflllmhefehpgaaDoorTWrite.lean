/-
  The law's write: the lent leaves become other ones, in the same memory.
-/
import Derived.Test.YtflllmhefehpgaaDoorTLend
import Derived.Deep.RegionLaw
namespace Go.Proofs.YtflllmhefehpgaaDoor
open Go Go.RowKit
open Sha

/-- copy, as one step of a region that draws. -/
theorem stp_copy {P : Program} {ops : Array Oper} {op : Oper} {a : Act} {w : World} {K : Act → World → Prop} {Q : Exit → Act → World → Prop} {E : Prop} (hgd : op.guard = none) (x y : Operand) (dT sT : TypeId) (ho : op.op = .call { callee := .builtin .copy, args := #[x, y], argTypes := #[dT, sT] })
    (elem : TypeId) (b o dLen dCap : Nat) (adr : Addr) (sLen sCap : Nat) (cs : List Value)
    (hx : a.eval x = .slice (some ⟨b, o, none⟩) dLen dCap) (hy : a.eval y = .slice (some adr) sLen sCap)
    (hu : P.underlying dT = some (.slice elem)) (hs : (P.info? elem).map (·.size) = some 1) (hn : cs.length = Nat.min sLen dLen)
    (hsrc : ∀ j v, cs[j]? = some v → w.cell? (adr.add j) = some v) (ht : w.there b o cs.length) (h1 : ∀ v ∈ cs, v.oneCell' = true)
    (h : K (a.put op.dst (goInt cs.length)) (w.setCells b o cs)) : if Region.wanted op (yielded ops a.tmps) = true then Oper.wp P op a w K Q else E := by
  have hw : Region.wanted op (yielded ops a.tmps) = true := by simp [Region.wanted, hgd]
  rw [if_pos hw]
  obtain ⟨dst, op', ty, pos, after, guard⟩ := op
  simp only at hgd ho
  subst hgd; subst ho
  have hr := run_copy_cells (P := P) w dT sT ty elem b o dLen dCap adr sLen sCap cs hu hs hn hsrc (fun j hj => (ht j hj).1) (fun j hj => (ht j hj).2) h1
  unfold Oper.wp
  rw [BigFrame.execOp_builtin, BigFrame.builtin_copy]
  simp only [List.map_toArray, List.map_cons, List.map_nil, hx, hy, Sem.run_bind, hr, Result.andThen_ok, Sem.run_pure, Oper.upon_value]
  exact h
/-- The first ones new, the others old. -/
def mix (rs qs : List (List (BitVec 8))) (n t : Nat) : List (List (BitVec 8)) := (List.range n).map fun i => if i < t then rs.getD i [] else qs.getD i []
theorem mix_get (rs qs : List (List (BitVec 8))) (n t i : Nat) (h : i < n) : (mix rs qs n t).getD i [] = if i < t then rs.getD i [] else qs.getD i [] := by simp [mix, h]
section
variable {w : World} {G : Nat} {ov : Value} {L : List Value} {B : Nat → Nat} {ps qs qs' rs : List (List (BitVec 8))} {n a f m : Nat}
theorem Loan.congr (h : Loan w G ov L B ps qs n a f m) (e : ∀ i, i < a → qs'.getD i [] = qs.getD i []) : Loan w G ov L B ps qs' n a f m :=
  ⟨h.row, h.len, h.own, fun i hi => by rw [e i hi]; exact h.each i hi, h.apart, h.front, h.mark⟩
theorem row_ne {b b' : Nat} {cs cs' : List Value} {t t' : TypeId} (r : Row w b cs t) (r' : Row w b' cs' t') (hne : t ≠ t') : b ≠ b' := fun e => by
  subst e
  have := r.symm.trans r'
  simp only [Option.some.injEq, Obj.cells.injEq] at this
  exact hne this.2.1
/-- One leaf is written over. -/
theorem Loan.write {t : Nat} (h : Loan w G ov L B ps (mix rs qs n t) n n f m) (ht : t < n) (hlen : (rs.getD t []).length = (qs.getD t []).length) :
    Loan (w.setCells (B t) 0 (vB (rs.getD t []))) G ov L B ps (mix rs qs n (t + 1)) n n f m := by
  have rt := (h.each t ht).2
  refine ⟨h.row.setCells_other _ _ _ (row_ne h.row rt (by decide)), h.len, ⟨h.own.1, ?_⟩, fun i hi => ⟨(h.each i hi).1, ?_⟩, h.apart, h.front, fun j h1 h2 => ?_⟩
  · rcases h.own.2 with h3 | ⟨g, cap, cur, hv, hN, hh, r'⟩
    · exact .inl h3
    · have q : Row w g cur.toList 22 := by unfold Row; rw [hh]
      have q2 := q.setCells_other (B t) 0 (vB (rs.getD t [])) (row_ne q rt (by decide))
      unfold Row at q2
      exact .inr ⟨g, cap, cur, hv, hN, q2, r'⟩
  · by_cases e : i = t
    · subst e
      rw [mix_get _ _ _ _ _ hi, if_neg (by omega)] at rt
      rw [mix_get _ _ _ _ _ hi, if_pos (by omega)]
      have := Row.setCells 0 (vB (rs.getD i [])) rt (by simp only [vB_length, List.length_append]; omega)
      rw [show (vB (qs.getD i [] ++ marks70)).take 0 ++ vB (rs.getD i []) ++ (vB (qs.getD i [] ++ marks70)).drop (0 + (vB (rs.getD i [])).length) = vB (rs.getD i [] ++ marks70) by
        rw [List.take_zero, List.nil_append, Nat.zero_add, vB_length, hlen, vB_append, vB_append, List.drop_append_of_le_length (by rw [vB_length]; exact Nat.le_refl _), List.drop_eq_nil_of_le (by rw [vB_length]; exact Nat.le_refl _), List.nil_append]] at this
      exact this
    · have e2 : (mix rs qs n (t + 1)).getD i [] = (mix rs qs n t).getD i [] := by
        rw [mix_get _ _ _ _ _ hi, mix_get _ _ _ _ _ hi]
        by_cases h1 : i < t
        · rw [if_pos h1, if_pos (by omega)]
        · rw [if_neg h1, if_neg (by omega)]
      rw [e2]
      refine (h.each i hi).2.setCells_other _ _ _ ?_
      rcases Nat.lt_or_gt_of_ne e with h1 | h1
      · exact h.apart i t h1 ht
      · exact (h.apart t i h1 hi).symm
  · obtain ⟨M, e1, e2, e3⟩ := h.mark j h1 h2
    exact ⟨M, e1, e2.setCells_other _ _ _ (e3 t ht).symm, e3⟩
end

set_option maxRecDepth 100000 in
set_option maxHeartbeats 4000000 in
theorem lwrite_any (ps qs rs : List (List (BitVec 8))) (n : Nat) (hs : n ≤ 1048576) (hl : ∀ i, i < n → (ps.getD i []).length ≤ 140737488351232) (hq : ∀ i, i < n → (qs.getD i []).length = (ps.getD i []).length) (hr : ∀ i, i < n → (rs.getD i []).length = (ps.getD i []).length)
    (N G g : Nat) (ov : Value) (L : List Value) (B : Nat → Nat) (w0 w : World) (hb : Below N w0 w) (hNG : N ≤ G) (hgB : ∀ i j, i < n → j < n → B i ≠ g + 1 + j) (h : Loan w G ov L B ps qs n n n 9) (tw : Tw w g rs n n) :
    Calls Tryd.prog 18 #[.agg (lo (.slice (some ⟨G, 0, none⟩) (n + 9) (n + 9)) ov n).toArray, .slice (some ⟨g, 0, none⟩) n n] w fun e w' => e = .returned (.tuple #[]) ∧ Loan w' G ov L B ps rs n n n 9 ∧ Below N w0 w' ∧ w.heap.size ≤ w'.heap.size ∧ (∀ b cs t, Row w b cs t → t ≠ 5 → Row w' b cs t) := by
  obtain ⟨Ao, co, eo⟩ := own_form h.own
  subst eo
  have hB0 : Below w.heap.size w (w.alloc (.cells (lo (.slice (some ⟨G, 0, none⟩) (n + 9) (n + 9)) (.slice Ao n co) n).toArray 35)) := (Below.refl _ _).alloc (Nat.le_refl _) _
  have rS : Row (w.alloc (.cells (lo (.slice (some ⟨G, 0, none⟩) (n + 9) (n + 9)) (.slice Ao n co) n).toArray 35)) w.heap.size (lo (.slice (some ⟨G, 0, none⟩) (n + 9) (n + 9)) (.slice Ao n co) n) 35 := Row.new' rfl rfl
  have h1 := (h.below hB0).congr (qs' := mix rs qs n 0) (fun i hi => by rw [mix_get _ _ _ _ _ hi, if_neg (by omega)])
  have t1 : Tw (w.alloc (.cells (lo (.slice (some ⟨G, 0, none⟩) (n + 9) (n + 9)) (.slice Ao n co) n).toArray 35)) g rs n n := ⟨Row.below tw.row hB0 tw.row.lt, fun i hi => Row.below (tw.each i hi) hB0 (tw.each i hi).lt⟩
  have o1 : ∀ b cs t, Row w b cs t → t ≠ 5 → Row (w.alloc (.cells (lo (.slice (some ⟨G, 0, none⟩) (n + 9) (n + 9)) (.slice Ao n co) n).toArray 35)) b cs t := fun b cs t r _ => Row.below r hB0 r.lt
  have hb1 : Below N w0 (w.alloc (.cells (lo (.slice (some ⟨G, 0, none⟩) (n + 9) (n + 9)) (.slice Ao n co) n).toArray 35)) := hb.alloc (by have := h.row.lt; omega) _
  have z1 : w.heap.size ≤ (w.alloc (.cells (lo (.slice (some ⟨G, 0, none⟩) (n + 9) (n + 9)) (.slice Ao n co) n).toArray 35)).heap.size := hB0.size
  obtain ⟨X, hX⟩ : ∃ X, X = w.alloc (.cells (lo (.slice (some ⟨G, 0, none⟩) (n + 9) (n + 9)) (.slice Ao n co) n).toArray 35) := ⟨_, rfl⟩
  rw [← hX] at rS h1 t1 o1 hb1 z1
  have HL : Hid (∀ i, i < n → (ps.getD i []).length ≤ 140737488351232) := hl
  have HQ : Hid (∀ i, i < n → (qs.getD i []).length = (ps.getD i []).length) := hq
  have HR : Hid (∀ i, i < n → (rs.getD i []).length = (ps.getD i []).length) := hr
  have HGB : Hid (∀ i j, i < n → j < n → B i ≠ g + 1 + j) := hgB
  have HNG : Hid (N ≤ G) := hNG
  clear hB0 hb h tw hl hq hr hgB hNG
  go_enter Tryd.func18, Tryd.ntmps18
  go_wp2_with fail
  rw [← hX]
  clear hX
  go_loopw [4] (fun i wr => ∃ t : Nat, t ≤ n ∧ i = .int .i64 (t : Int) ∧ Below N w0 wr ∧ w.heap.size ≤ wr.heap.size ∧ Row wr w.heap.size (lo (.slice (some ⟨G, 0, none⟩) (n + 9) (n + 9)) (.slice Ao n co) n) 35 ∧ Tw wr g rs n n ∧ Loan wr G (.slice Ao n co) L B ps (mix rs qs n t) n n n 9 ∧ Hid (∀ b cs t, Row w b cs t → t ≠ 5 → Row wr b cs t))
    (fun i _ => n - (intOf i).toNat)
  case atStart => exact ⟨0, by omega, rfl, hb1, z1, rS, t1, h1, o1⟩
  case round =>
    clear hb1 z1 rS t1 h1 o1
    obtain ⟨t, ht, rfl, hb, hz, rS, tw, h, ho⟩ := hrel
    by_cases hlt : t < n
    · have rT := tw.each t hlt
      have rB := (h.each t hlt).2
      have gT := tw.row.cell t (Value.slice (some ⟨g + 1 + t, 0, none⟩) (rs.getD t []).length (rs.getD t []).length) (by rw [List.getElem?_append_left (by rw [twv_len]; exact hlt)]; exact twv_get _ _ _ _ hlt)
      have gS := rS.cell 1 _ rfl
      have hN1 := HR.out t hlt
      have hN2 := HQ.out t hlt
      have hN3 := HL.out t hlt
      have nl := h.drew.write hlt (hN1.trans hN2.symm)
      have gb := HGB.out t
      obtain ⟨g1, eA, gO⟩ : ∃ g1, Ao = some ⟨g1, 0, none⟩ ∧ wr.cell? ⟨g1, t, none⟩ = some (Value.slice (some ⟨B t, 0, none⟩) ((ps.getD t []).length + 70) ((ps.getD t []).length + 70)) := by
        rcases h.own.2 with ⟨_, h0⟩ | ⟨g1, cap, cur, hv, _, hh, _, _, _, hta⟩
        · omega
        · simp only [Value.slice.injEq] at hv
          refine ⟨g1, hv.1, ?_⟩
          have q : Row wr g1 cur.toList 22 := by unfold Row; rw [hh]
          refine q.cell t _ ?_
          have e : (owv B ps n)[t]? = some (Value.slice (some ⟨B t, 0, none⟩) ((ps.getD t []).length + 70) ((ps.getD t []).length + 70)) := by simp [owv, hlt]
          rw [← hta, List.getElem?_take_of_lt (by omega)] at e
          exact e
      subst eA
      have hbB : N ≤ B t := by have := (h.each t hlt).1; have := HNG.out; omega
      rw [mix_get _ _ _ _ _ hlt, if_neg (by omega)] at rB
      have hrl : (rs.getD t []).length = (ps.getD t []).length := hN1
      have HTW : Hid (Tw wr g rs n n) := tw
      have HRS : Hid (Row wr w.heap.size _ _) := rS
      have HNL : Hid (Loan _ _ _ _ _ _ _ _ _ _ _) := nl
      have HRB : Hid (Row wr (B t) _ _) := rB
      have HRT : Hid (Row wr (g + 1 + t) _ _) := rT
      have HGBT : Hid (∀ j, j < n → B t ≠ g + 1 + j) := fun j hj => gb j hlt hj
      rw [hN1] at gT
      obtain ⟨r, er⟩ : ∃ r, r = rs.getD t [] := ⟨_, rfl⟩
      obtain ⟨q, eq⟩ : ∃ q, q = qs.getD t [] := ⟨_, rfl⟩
      obtain ⟨K, eK⟩ : ∃ K, K = (ps.getD t []).length := ⟨_, rfl⟩
      obtain ⟨b, eb⟩ : ∃ b, b = B t := ⟨_, rfl⟩
      rw [← er, ← eb] at HNL
      rw [← eb] at HGBT hbB
      rw [← er] at HRT
      rw [← eq, ← eb] at HRB
      rw [← eK] at gT
      rw [← eK, ← eb] at gO
      have HRL : Hid (r.length = K) := by show _ = _; rw [er, eK]; exact hN1
      have HQL : Hid (q.length = K) := by show _ = _; rw [eq, eK]; exact hN2
      have hK : K ≤ 140737488351232 := by rw [eK]; exact hN3
      have BK : Hid (Below N w0 wr) := hb
      have HZ : Hid (w.heap.size ≤ wr.heap.size) := hz
      clear tw rS h rT rB nl gb hN1 hN2 hN3 hrl er eq eK eb hb hz
      go_wp2_with fail
      go_region_law (refine stp_copy rfl (.tmp 15) (.tmp 19) 22 22 rfl 5 b 0 (K + 70) (K + 70) ⟨g + 1 + t, 0, none⟩ K K (vB r) (by simp [Act.eval]) (by simp [Act.eval]) Tryd.underlying22 info_u8 (by rw [vB_length, HRL.out]; exact (Nat.min_eq_left (by omega)).symm) (fun j v hj => by rw [Addr.add_mid]; exact HRT.out.all j v hj) (Row.there HRB.out 0 _ (by simp only [vB_length, List.length_append]; rw [HRL.out, HQL.out]; omega)) (vB_one _) ?_)
      all_goals
        go_wp2
        exact ⟨⟨t + 1, hlt, by go_num, below_setCells (Below.drew BK.out) hbB _, by rw [size_setCells]; exact HZ.out, Row.setCells_other (Row.drew HRS.out) _ _ _ (row_ne HRS.out HRB.out (by decide)), ⟨Row.setCells_other (Row.drew HTW.out.row) _ _ _ (row_ne HTW.out.row HRB.out (by decide)), fun j hj => Row.setCells_other (Row.drew (HTW.out.each j hj)) _ _ _ (HGBT.out j hj).symm⟩, HNL.out, fun b cs t' r' hne => Row.setCells_other (Row.drew (ho.out b cs t' r' hne)) _ _ _ (row_ne (ho.out b cs t' r' hne) HRB.out hne)⟩, by simp [intOf]; omega⟩
    · obtain rfl : t = n := by omega
      have h2 := h.congr (qs' := rs) (fun i hi => by rw [mix_get _ _ _ _ _ hi, if_pos hi])
      clear h
      go_wp2
      refine bodyPost_end (results_none rfl _ _ _) rfl ?_
      exact ⟨rfl, h2, hb, hz, ho.out⟩

end Go.Proofs.YtflllmhefehpgaaDoor
