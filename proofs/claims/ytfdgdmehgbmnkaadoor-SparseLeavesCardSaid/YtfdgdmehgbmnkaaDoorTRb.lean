/-
  Appends of bytes; made bytes; the digest of bits as numbers: what stage 1's texts have, with fewer imports.
-/
import Derived.Test.YtfdgdmehgbmnkaaDoorTDg
import Derived.Laws.AppendOwnNone
namespace Go.Proofs.YtfdgdmehgbmnkaaDoor
open Go Go.RowKit
open Sha

namespace Sha
/-- What waits behind the whole bytes of n bits. -/
def btail (d : List (BitVec 8)) (n : Nat) : List (BitVec 8) :=
  if n % 8 = 0 then hwait (d.take (n / 8)) else (hwait (d.take (n / 8))).set (n / 8 % 64) (d.getD (n / 8) 0 &&& ~~~(255#8 >>> (n % 8)))
def dbits (d : List (BitVec 8)) (n : Nat) : List (BitVec 8) := (fin (hst (d.take (n / 8))) (btail d n) n).bytes
theorem btail_length (d : List (BitVec 8)) (n : Nat) : (btail d n).length = 64 := by
  unfold btail; split
  · exact hwait_length _
  · rw [List.length_set, hwait_length]
theorem dbits_length (d : List (BitVec 8)) (n : Nat) : (dbits d n).length = 32 := St.bytes_length _
/-- Of whole bytes it is their digest. -/
theorem dbits_whole (d : List (BitVec 8)) (n : Nat) (h : n % 8 = 0) (hn : n / 8 ≤ d.length) : dbits d n = dig (d.take (n / 8)) := by
  unfold dbits dig btail
  rw [if_pos h, List.length_take, show 8 * min (n / 8) d.length = n by omega]
end Sha
theorem results_row_tmp {P : Program} {fn : Func} {p q : Tmp} {ty : TypeId} {n : Nat} {e : TypeId} (h : fn.results = #[.cell p ty, .tmp q]) (tmps : Array Value) (w : World) (g : Nat) (t : TypeId) (cs : List Value) (v : Value)
    (hp : tmps.getD p undef = .pointer (some ⟨g, 0, none⟩)) (hv : tmps.getD q undef = v) (hg : Row w g cs t) (hu : P.underlying ty = some (.array n e)) (hi : (P.info? ty).map (·.size) = some n) (hl : cs.length = n) :
    (results fn tmps).run P w = .ok (.tuple #[.agg cs.toArray, v]) w := by
  have hp' : tmps[p]?.getD undef = .pointer (some ⟨g, 0, none⟩) := by simpa using hp
  have hv' : tmps[q]?.getD undef = v := by simpa using hv
  have hr := run_loadVar_row (P := P) w g t ty cs.toArray (0, 0) (.array n e) hg hu rfl (by simp [hi, hl])
  simp [results, h, hp', hv', asAddr, hr]

theorem info_all_u8 : (Tryd.prog.info? 5).map (fun i => (i.zero, i.size, i.bytes)) = some (some (.int .u8 0), 1, 1) := by kernel_rfl

theorem made_bytes (n : Nat) : madeCells (Value.int IntKind.u8 0).cells (n * 1) = (vB (List.replicate n 0#8)).toArray := by
  apply Array.ext'
  rw [show (Value.int IntKind.u8 0).cells = #[Value.int IntKind.u8 0] from rfl, toList_madeCells_one]
  simp [vB, c]

section
variable {P : Program} {ops : Array Oper} {rest : List Oper} {op : Oper} {a : Act} {w : World} {Q : Exit → Act → World → Prop}
/-- make of n bytes. -/
theorem wpList_make1 (hgd : op.guard = none) (t : TypeId) (x y : Operand) (ho : op.op = .makeSlice t x y) (e : TypeId) (n : Nat) (l l' : Int) (hl : l = (n : Int)) (hl' : l' = (n : Int)) (hx : a.eval x = .int .i64 l) (hy : a.eval y = .int .i64 l') (hn : n ≤ 281474976710656)
    (hu : P.underlying t = some (.slice e)) (hi : (P.info? e).map (fun i => (i.zero, i.size, i.bytes)) = some (some (.int .u8 0), 1, 1))
    (h : wpList P ops Q rest (a.put op.dst (.slice (some ⟨w.heap.size, 0, none⟩) n n)) (w.alloc (.cells (vB (List.replicate n 0#8)).toArray e))) : wpList P ops Q (op :: rest) a w :=
  wpList_plain hgd fun _ hK => by
    subst hl; subst hl'
    obtain ⟨i, hi0, hz, hs, hb⟩ := info_parts hi
    have hr := run_make (P := P) w t e i (.int .u8 0) hu hi0 hz .i64 .i64 (n : Int) (n : Int) (by omega) (by omega) (by rw [hb]; omega) (by omega)
    rw [hs, Int.toNat_natCast, made_bytes] at hr
    unfold Oper.wp execOp
    simp only [ho, hx, hy, Sem.run_bind, hr, Result.andThen_ok, Sem.run_pure, Oper.upon_value]
    exact hK _ _ h
theorem wpList_neq_same (hw : Region.wanted op (yielded ops a.tmps) = true) (t : TypeId) (x y : Operand) (yt : TypeId) (ho : op.op = .binOp .neq t x y yt) (e n : Nat) (l : List (BitVec 8)) (hx : a.eval x = .agg (vB l).toArray) (hy : a.eval y = .agg (vB l).toArray)
    (ht : P.underlying t = some (.array n e)) (he : P.underlying e = some (.int .u8)) (hs : (P.info? e).map (·.size) = some 1) (hl : l.length = n) (hm : P.eqGuardType P.depth t = false)
    (h : wpList P ops Q rest (a.put op.dst (.bool false)) w) : wpList P ops Q (op :: rest) a w :=
  BigFrame.wpList_want hw fun _ hK => by
    have hsz : ∀ w, (sizeOf e).run P w = .ok 1 w := by
      intro w
      cases hq : P.info? e with
      | none => simp [hq] at hs
      | some i => have h1 : i.size = 1 := by simpa [hq] using hs
                  simp [sizeOf, typeInfo, hq, h1]
    have hr : (binOp .neq t (.agg (vB l).toArray) (.agg (vB l).toArray)).run P w = .ok (.bool false) w := by
      rw [vB_cell, run_neq_struct, run_equalIn_bytes w 9998 t e n ht he hsz (toU l) (toU l) (by rw [toU_length, hl]) (by rw [toU_length, hl])]
      simp
    unfold Oper.wp execOp
    simp only [ho, hx, hy, Sem.run_bind, run_eqGuard_agg w .neq t x y _ _ hm, Result.andThen_ok, hr, Sem.run_pure, Oper.upon_value]
    exact hK _ _ h
/-- copy of bytes into a row as long. -/
theorem wpList_copy_sl (hgd : op.guard = none) (x y : Operand) (dT sT : TypeId) (ho : op.op = .call { callee := .builtin .copy, args := #[x, y], argTypes := #[dT, sT] }) (elem : TypeId) (g n cap : Nat) (v : Value) (d : List (BitVec 8)) (hn : d.length ≤ n)
    (hx : a.eval x = .slice (some ⟨g, 0, none⟩) n cap) (hy : a.eval y = v) (hv : SlAt w v d) (hu : P.underlying dT = some (.slice elem)) (hs : (P.info? elem).map (·.size) = some 1) (ht : w.there g 0 d.length)
    (h : wpList P ops Q rest (a.put op.dst (goInt d.length)) (w.setCells g 0 (vB d))) : wpList P ops Q (op :: rest) a w := by
  rcases hv with ⟨rfl, A, c', rfl⟩ | ⟨ab, ao, c', rfl, hc, hr⟩
  · refine wpList_plain hgd fun _ hK => ?_
    obtain ⟨dst, op', ty, pos, after, guard⟩ := op
    simp only at hgd ho
    subst hgd; subst ho
    have hr := run_copy_none (P := P) w dT sT ty elem (some ⟨g, 0, none⟩) A n cap 0 c' hu hs (by simp)
    unfold Oper.wp
    rw [BigFrame.execOp_builtin, BigFrame.builtin_copy]
    simp only [List.map_toArray, List.map_cons, List.map_nil, hx, hy, Sem.run_bind, hr, Result.andThen_ok, Sem.run_pure, Oper.upon_value]
    exact hK _ _ h
  · refine wpList_copy' hgd x y dT sT ho elem g 0 n cap ⟨ab, ao, none⟩ d.length c' (vB d) hx hy hu hs (by rw [vB_length]; exact (Nat.min_eq_left hn).symm) (fun j v hj => by rw [Addr.add_mid]; exact hr j v hj) (by rw [vB_length]; exact ht) (vB_one d) ?_
    rw [vB_length]; exact h
end

theorem ownsRow_below {B N e size n : Nat} {w w' : World} {v : Value} {xs : List Value} (h : w.ownsRow N e size v n xs) (k : Below B w w') (hB : w.heap.size ≤ B) : w'.ownsRow N e size v n xs := by
  obtain ⟨h1, h2⟩ := h
  refine ⟨h1, ?_⟩
  rcases h2 with h2 | ⟨g, cap, cur, hv, hg, hh, r⟩
  · exact .inl h2
  · exact .inr ⟨g, cap, cur, hv, hg, (k.block g (Nat.lt_of_lt_of_le (Array.getElem?_eq_some_iff.1 hh).1 hB)).trans hh, r⟩

section
variable {ops : Array Oper} {rest : List Oper} {op : Oper} {a : Act} {Q : Exit → Act → World → Prop}
/-- append of bytes onto a list of the call's own. -/
theorem wpList_append_vB (hgd : op.guard = none) (s x : Operand) (ho : op.op = .call { callee := .builtin .append, args := #[s, x], argTypes := #[46, 46] }) (W0 Wa : World) (M N : Nat) (v : Value) (n m : Nat) (l news : List (BitVec 8))
    (hown : W0.ownsRow N 5 1 v n (vB l)) (hs : a.eval s = v) (hm : news.length = m) (hx : a.eval x = .slice (some ⟨W0.heap.size, 0, none⟩) m m) (hk : n + m ≤ 140737488355328) (hN : N ≤ W0.heap.size) (hMN : M ≤ N) (hb : Below M Wa W0)
    (h : ∀ v' w', w'.ownsRow N 5 1 v' (n + m) (vB (l ++ news)) → Below M Wa w' → (∀ b cs t, b < N → Row W0 b cs t → Row w' b cs t) → wpList Tryd.prog ops Q rest (a.put op.dst v') w') :
    wpList Tryd.prog ops Q (op :: rest) a (W0.alloc (.cells (vB news).toArray 5)) := by
  obtain ⟨i, hi0, hz, hsz, hby⟩ := info_parts info_all_u8
  have hk0 : Below W0.heap.size W0 (W0.alloc (.cells (vB news).toArray 5)) := (Below.refl _ _).alloc (Nat.le_refl _) _
  have hown1 := ownsRow_below hown hk0 (Nat.le_refl _)
  have hb1 : Below M Wa (W0.alloc (.cells (vB news).toArray 5)) := hb.alloc (Nat.le_trans hMN hN) _
  have hr : Row (W0.alloc (.cells (vB news).toArray 5)) W0.heap.size (vB news) 5 := Row.new _ _ _
  have hN1 : N ≤ (W0.alloc (.cells (vB news).toArray 5)).heap.size := Nat.le_trans hN hk0.size
  have hcell := hr.all
  have hblk : ∀ k, v.ownBlock = some k → N ≤ k := by
    intro k hk
    rcases hown.2 with ⟨h2, _⟩ | ⟨g', cap, cur, hv, hg, _⟩
    · rw [h2] at hk; simp [Value.ownBlock] at hk
    · rw [hv] at hk; simp [Value.ownBlock] at hk; omega
  generalize hW1 : W0.alloc (.cells (vB news).toArray 5) = W1 at *
  refine wpList_append_own _ hgd s x 46 ho N 5 i (.int .u8 0) 1 1 Tryd.underlying46 hi0 hz hsz hby rfl (by decide) v n (vB l) hs hown1 ⟨W0.heap.size, 0, none⟩ m m (vB news) hx (by rw [vB_length, hm, Nat.mul_one]) ?_ (vB_one news) (by unfold maxLen; omega) (by omega) hN1 ?_
  · intro j u hj; rw [Addr.add_mid]; exact hcell j u hj
  · intro v' w' h2 h3 _
    have e : vB l ++ vB news = vB (l ++ news) := by simp [vB]
    rw [e] at h2
    refine h v' w' h2 (hb1.grown h3 (Nat.le_trans hMN hN1) (fun k hk => Nat.le_trans hMN (hblk k hk))) (fun b cs t hbN hR => ?_)
    have hne : some b ≠ v.ownBlock := fun he => by have := hblk b he.symm; omega
    exact (h3.block b (Nat.lt_of_lt_of_le hbN hN1) hne).trans (Row.below hR hk0 (Nat.lt_of_lt_of_le hbN hN))
end

theorem owns_slAt {w : World} {N n : Nat} {v : Value} {l : List (BitVec 8)} (h : w.ownsRow N 5 1 v n (vB l)) : SlAt w v l ∧ ∃ A cap, v = .slice A n cap := by
  have h1 := h.1
  rw [vB_length] at h1
  rcases h.2 with ⟨h2, h0⟩ | ⟨g, cap, cur, hv, hg, hh, hc, hm, hs, ht⟩
  · exact ⟨.inl ⟨List.length_eq_zero_iff.1 (by omega), none, 0, h2⟩, none, 0, by rw [h2, h0]⟩
  · refine ⟨.inr ⟨g, 0, cap, by rw [hv, h1, Nat.mul_one], by omega, ?_⟩, _, _, hv⟩
    have hr : Row w g cur.toList 5 := by unfold Row; rw [hh]
    intro j u hj
    refine hr.all j u ?_
    rw [← ht] at hj
    have hjl : j < n * 1 := by have := (List.getElem?_eq_some_iff.1 hj).1; rw [List.length_take] at this; omega
    rwa [List.getElem?_take_of_lt hjl] at hj

theorem row_owns {w : World} {N g n : Nat} {l : List (BitVec 8)} (hN : N ≤ g) (hl : l.length = n) (hn : n ≤ 140737488355328) (h : Row w g (vB l) 5) : w.ownsRow N 5 1 (.slice (some ⟨g, 0, none⟩) n n) n (vB l) := by
  refine ⟨by rw [vB_length, hl, Nat.mul_one], .inr ⟨g, n, (vB l).toArray, rfl, hN, h, Nat.le_refl _, by unfold maxLen; omega, by simp [vB_length, hl], ?_⟩⟩
  simp only [Nat.mul_one]
  exact List.take_of_length_le (by rw [vB_length, hl]; exact Nat.le_refl _)

section
variable {ops : Array Oper} {rest : List Oper} {op : Oper} {a : Act} {Q : Exit → Act → World → Prop}
theorem wpList_append_bytes (hgd : op.guard = none) (s x : Operand) (ho : op.op = .call { callee := .builtin .append, args := #[s, x], argTypes := #[46, 46] }) (W Wa : World) (M N : Nat) (v : Value) (n m : Nat) (l news : List (BitVec 8))
    (hown : W.ownsRow N 5 1 v n (vB l)) (hs : a.eval s = v) (A : Option Addr) (cap : Nat) (hm : news.length = m) (hx : a.eval x = .slice A m cap) (hX : SlAt W (.slice A m cap) news) (hnil : A = none → cap = 0) (hk : n + m ≤ 140737488355328) (hN : N ≤ W.heap.size) (hMN : M ≤ N) (hb : Below M Wa W)
    (h : ∀ v' w', w'.ownsRow N 5 1 v' (n + m) (vB (l ++ news)) → Below M Wa w' → W.grownBy w' v.ownBlock → wpList Tryd.prog ops Q rest (a.put op.dst v') w') :
    wpList Tryd.prog ops Q (op :: rest) a W := by
  obtain ⟨i, hi0, hz, hsz, hby⟩ := info_parts info_all_u8
  have hblk : ∀ k, v.ownBlock = some k → N ≤ k := by
    intro k hk
    rcases hown.2 with ⟨h2, _⟩ | ⟨g', cap, cur, hv, hg, _⟩
    · rw [h2] at hk; simp [Value.ownBlock] at hk
    · rw [hv] at hk; simp [Value.ownBlock] at hk; omega
  have go : ∀ (ad : Addr), A = some ad → (∀ j u, (vB news)[j]? = some u → W.cell? (ad.add j) = some u) → wpList Tryd.prog ops Q (op :: rest) a W := by
    intro ad hA hc
    subst hA
    refine wpList_append_own _ hgd s x 46 ho N 5 i (.int .u8 0) 1 1 Tryd.underlying46 hi0 hz hsz hby rfl (by decide) v n (vB l) hs hown ad m cap (vB news) hx (by rw [vB_length, hm, Nat.mul_one]) hc (vB_one news) (by unfold maxLen; omega) (by omega) hN ?_
    intro v' w' h2 h3 _
    have e : vB l ++ vB news = vB (l ++ news) := by simp [vB]
    rw [e] at h2
    exact h v' w' h2 (hb.grown h3 (Nat.le_trans hMN hN) (fun k hk => Nat.le_trans hMN (hblk k hk))) h3
  rcases hX with ⟨h0, A', c', hv⟩ | ⟨ab, ao, c', hv, hc, hr⟩
  · subst h0
    cases A with
    | none =>
      simp only [Value.slice.injEq] at hv
      obtain ⟨_, rfl, _⟩ := hv
      obtain rfl := hnil rfl
      refine wpList_append_own_none hgd s x 46 ho N 5 i 1 Tryd.underlying46 hi0 v n (vB l) hs hown hx ?_
      refine h v W (by simpa using hown) hb ⟨rfl, rfl, rfl, Nat.le_refl _, fun _ _ _ => rfl⟩
    | some ad => exact go ad rfl (fun j u hj => by simp [vB] at hj)
  · simp only [Value.slice.injEq] at hv
    obtain ⟨hA, _, _⟩ := hv
    exact go ⟨ab, ao, none⟩ hA (fun j u hj => by rw [Addr.add_mid]; exact hr j u hj)
end

end Go.Proofs.YtfdgdmehgbmnkaaDoor
