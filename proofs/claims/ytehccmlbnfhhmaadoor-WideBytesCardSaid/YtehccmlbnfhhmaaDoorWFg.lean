/-
  causewaylaw02.fill, grow; bytes put behind a list.
-/
import Derived.Test.YtehccmlbnfhhmaaDoorWAl
import Derived.Test.YtehccmlbnfhhmaaDoorWRByt
import Derived.Test.YtehccmlbnfhhmaaDoorWRRd
import Derived.ArgAppend
import Derived.Laws.AppendOwnNone
namespace Go.Proofs.YtehccmlbnfhhmaaDoor
open Go Go.RowKit
open Wd

/-- Nothing but one block has turned. -/
structure But (b : Nat) (w w' : World) : Prop where
  os : w'.os = w.os
  tape : w'.tape = w.tape
  output : w'.output = w.output
  size : w'.heap.size = w.heap.size
  block : ∀ k, k ≠ b → w'.heap[k]? = w.heap[k]?
theorem But.refl (b : Nat) (w : World) : But b w w := ⟨rfl, rfl, rfl, rfl, fun _ _ => rfl⟩
theorem But.setCell {b : Nat} {u w : World} (h : But b u w) (i : Nat) (v : Value) : But b u (w.setCell ⟨b, i, none⟩ v) :=
  ⟨h.os, h.tape, h.output, by rw [← h.size]; simp [World.setCell], fun k hk => (Below.heap_setCell _ _ _ _ hk).trans (h.block k hk)⟩
theorem But.below {b B : Nat} {a w w' : World} (h : Below B a w) (k : But b w w') (hb : B ≤ b) : Below B a w' :=
  h.trans ⟨k.os, k.tape, k.output, Nat.le_of_eq k.size.symm, fun i hi => k.block i (by omega)⟩
theorem Row.but {w w' : World} {b c : Nat} {cs : List Value} {t : TypeId} (h : Row w c cs t) (k : But b w w') (hc : c ≠ b) : Row w' c cs t := (k.block c hc).trans h
/-- Blocks of unlike kinds are unlike. -/
theorem row_ne {w : World} {b c : Nat} {cs ds : List Value} {t u : TypeId} (h : Row w b cs t) (k : Row w c ds u) (ht : t ≠ u) : b ≠ c := fun e => by
  subst e
  have := h.symm.trans k
  simp at this
  exact ht this.2

theorem fill_step (k : Nat) (xs ys : List Nat) (t n : Nat) (ht : t < n) (hn : xs.length = n) : (List.replicate t k ++ (xs.drop t ++ ys)).set t k = List.replicate (t + 1) k ++ (xs.drop (t + 1) ++ ys) := by
  rw [List.set_append_right _ _ (by rw [List.length_replicate]; exact Nat.le_refl _), List.length_replicate, Nat.sub_self, List.drop_eq_getElem_cons (by omega), List.cons_append, List.set_cons_zero, List.replicate_succ', List.append_assoc]
  rfl

set_option maxRecDepth 100000 in
set_option maxHeartbeats 1000000 in
theorem fill_any (N n cap k : Nat) (hk : k < 256) (xs ys : List Nat) (hn : xs.length = n) (hl : n ≤ 140737488355328) (sp : List Value) (w : World) (r : Row w N (vU (xs ++ ys) ++ sp) 5) :
    Calls Tryd.prog 35 #[.slice (some ⟨N, 0, none⟩) n cap, .int .u8 (k : Int)] w fun e w' => e = .returned (.tuple #[]) ∧ Row w' N (vU (List.replicate n k ++ ys) ++ sp) 5 ∧ But N w w' := by
  have HN : Hid (xs.length = n) := hn
  have ln : (n : Int) ≤ 140737488355328 := by omega
  have lk : (k : Int) < 256 := by omega
  clear hn hl hk
  go_enter Tryd.func35, Tryd.ntmps35
  go_wp2
  go_loopw [4] (fun iv wr => ∃ t : Nat, t ≤ n ∧ iv = .int .i64 (t : Int) ∧ But N w wr ∧ Row wr N (vU (List.replicate t k ++ (xs.drop t ++ ys)) ++ sp) 5) (fun iv _ => n - (intOf iv).toNat)
  case atStart => exact ⟨0, by omega, rfl, But.refl _ _, r⟩
  case round =>
    clear r
    obtain ⟨t, ht, rfl, hb, r⟩ := hrel
    by_cases hlt : t < n
    · have hlt' : (t : Int) < (n : Int) := by omega
      have hln : t < (vU (List.replicate t k ++ (xs.drop t ++ ys))).length := by rw [vU_length, List.length_append, List.length_append, List.length_replicate, List.length_drop, HN.out]; omega
      have g := r.cell t _ ((List.getElem?_append_left hln).trans (vU_get _ t (by rw [vU_length] at hln; exact hln)))
      have gf := r.thaw t
      generalize (List.replicate t k ++ (xs.drop t ++ ys)).getD t 0 = old at g
      have HLN : Hid _ := hln
      clear ht hln
      go_wp2
      refine ⟨⟨t + 1, hlt, by go_num, hb.setCell _ _, ?_⟩, by simp [intOf]; omega⟩
      have h2 := r.set t (.int .u8 (k : Int))
      rw [List.set_append_left _ _ HLN.out, vU_set, fill_step k xs ys t n hlt HN.out] at h2
      exact h2
    · obtain rfl : t = n := by omega
      have hlt' : ¬ (t : Int) < (t : Int) := by omega
      rw [List.drop_of_length_le (by rw [HN.out]; exact Nat.le_refl _), List.nil_append] at r
      clear ht hlt
      go_wp2
      go_end0
      exact ⟨rfl, r, hb⟩

theorem ownsU_below {B N e size n : Nat} {w w' : World} {v : Value} {xs : List Value} (h : w.ownsRow N e size v n xs) (k : Below B w w') (hB : w.heap.size ≤ B) : w'.ownsRow N e size v n xs := by
  obtain ⟨h1, h2⟩ := h
  refine ⟨h1, ?_⟩
  rcases h2 with h2 | ⟨g, cap, cur, hv, hg, hh, r⟩
  · exact .inl h2
  · exact .inr ⟨g, cap, cur, hv, hg, (k.block g (Nat.lt_of_lt_of_le (Array.getElem?_eq_some_iff.1 hh).1 hB)).trans hh, r⟩
theorem vU_append (l m : List Nat) : vU (l ++ m) = vU l ++ vU m := by simp [vU]
theorem vU_one (l : List Nat) : ∀ v ∈ vU l, v.oneCell' = true := by
  intro v hv
  obtain ⟨x, _, rfl⟩ := List.mem_map.1 hv
  rfl
section
variable {ops : Array Oper} {rest : List Oper} {op : Oper} {a : Act} {Q : Exit → Act → World → Prop}
/-- append of one byte onto a list of the call's own. -/
theorem wpList_append_u (hgd : op.guard = none) (s x : Operand) (ho : op.op = .call { callee := .builtin .append, args := #[s, x], argTypes := #[44, 44] }) (W0 Wa : World) (M : Nat) (v : Value) (n y : Nat) (l : List Nat)
    (hown : W0.ownsRow M 5 1 v n (vU l) ∨ (M = W0.heap.size ∧ l.length = n ∧ ∃ N, v = .slice (some ⟨N, 0, none⟩) n n ∧ Row W0 N (vU l) 5)) (hs : a.eval s = v) (hx : a.eval x = .slice (some ⟨W0.heap.size, 0, none⟩) 1 1) (hk : n + 1 ≤ 140737488355328) (hM : M ≤ W0.heap.size) (hb : Below M Wa W0)
    (h : ∀ v' w', w'.ownsRow M 5 1 v' (n + 1) (vU (l ++ [y])) → Below M Wa w' → M ≤ w'.heap.size → wpList Tryd.prog ops Q rest (a.put op.dst v') w') :
    wpList Tryd.prog ops Q (op :: rest) a (W0.alloc (.cells #[.int .u8 (y : Int)] 5)) := by
  obtain ⟨i, hi0, hz, hsz, hby⟩ := info_parts info_all_u8
  have hk0 : Below W0.heap.size W0 (W0.alloc (.cells #[.int .u8 (y : Int)] 5)) := (Below.refl _ _).alloc (Nat.le_refl _) _
  have hr : Row (W0.alloc (.cells #[.int .u8 (y : Int)] 5)) W0.heap.size [.int .u8 (y : Int)] 5 := Row.new _ _ _
  have hN1 : M ≤ (W0.alloc (.cells #[.int .u8 (y : Int)] 5)).heap.size := Nat.le_trans hM hk0.size
  have hcell := hr.all
  have hb1 : Below M Wa (W0.alloc (.cells #[.int .u8 (y : Int)] 5)) := hb.alloc hM _
  have e : vU l ++ [.int .u8 (y : Int)] = vU (l ++ [y]) := by simp [vU]
  rcases hown with hown | ⟨hMe, hln, N, rfl, r⟩
  · have hown1 := ownsU_below hown hk0 (Nat.le_refl _)
    generalize hW1 : W0.alloc (.cells #[.int .u8 (y : Int)] 5) = W1 at *
    refine wpList_append_own _ hgd s x 44 ho M 5 i (.int .u8 0) 1 1 Tryd.underlying44 hi0 hz hsz hby rfl (by decide) v n (vU l) hs hown1 ⟨W0.heap.size, 0, none⟩ 1 1 [.int .u8 (y : Int)] hx rfl ?_ ?_ (by unfold maxLen; omega) (by omega) hN1 ?_
    · intro j u hj; rw [Addr.add_mid]; exact hcell j u hj
    · intro u hu; rw [List.mem_singleton.1 hu]; rfl
    · intro v' w' h2 h3 _
      rw [e] at h2
      refine h v' w' h2 (hb1.grown h3 hN1 (fun k hk => ?_)) (Nat.le_trans hN1 h3.size)
      rcases hown1.2 with ⟨h2, _⟩ | ⟨g', cap, cur, hv, hg, _⟩
      · rw [h2] at hk; simp [Value.ownBlock] at hk
      · rw [hv] at hk; simp [Value.ownBlock] at hk; omega
  · have r1 := Row.below r hk0 (Row.lt r)
    have hsz1 : (W0.alloc (.cells #[.int .u8 (y : Int)] 5)).heap.size = W0.heap.size + 1 := by simp
    generalize hW1 : W0.alloc (.cells #[.int .u8 (y : Int)] 5) = W1 at *
    refine wpList_append_grows W1 hgd s x 44 ho 5 i (.int .u8 0) 1 1 Tryd.underlying44 hi0 hz hsz hby rfl (by decide) (some ⟨N, 0, none⟩) n n (vU l) hs (fun hh => by cases hh) (by rw [vU_length, hln, Nat.mul_one]) (fun b hbq j u hj => by cases hbq; rw [Addr.add_mid]; exact r1.all j u hj) ⟨W0.heap.size, 0, none⟩ 1 1 [.int .u8 (y : Int)] hx rfl ?_ ?_ (by omega) (by unfold maxLen; omega) (by omega) ?_
    · intro j u hj; rw [Addr.add_mid]; exact hcell j u hj
    · intro u hu; rw [List.mem_singleton.1 hu]; rfl
    · intro v' w' h2 h3
      rw [e] at h2
      refine h v' w' ⟨h2.1, ?_⟩ (hb1.grown h3 hN1 (fun k hk => by cases hk)) (Nat.le_trans hN1 h3.size)
      rcases h2.2 with h4 | ⟨g, cap, cur, hv, hg, rest⟩
      · exact .inl h4
      · exact .inr ⟨g, cap, cur, hv, by omega, rest⟩
end

set_option maxRecDepth 100000 in
set_option maxHeartbeats 1000000 in
theorem grow_any (M n k y : Nat) (l : List Nat) (v : Value) (hk : n + k ≤ 140737488355328) (w : World) (hM : M ≤ w.heap.size) (h : w.ownsRow M 5 1 v n (vU l) ∨ (0 < k ∧ M = w.heap.size ∧ l.length = n ∧ ∃ N, v = .slice (some ⟨N, 0, none⟩) n n ∧ Row w N (vU l) 5)) :
    Calls Tryd.prog 36 #[v, .int .i64 (k : Int), .int .u8 (y : Int)] w fun e w' => ∃ v', e = .returned v' ∧ w'.ownsRow M 5 1 v' (n + k) (vU (l ++ List.replicate k y)) ∧ Below M w w' := by
  have HK : Hid (n + k ≤ 140737488355328) := hk
  have lk : (k : Int) ≤ 140737488355328 := by omega
  have HH : Hid _ := h
  clear h hk
  go_enter Tryd.func36, Tryd.ntmps36
  go_wp2
  go_loopw [0, 7] (fun bv iv wr => ∃ t : Nat, t ≤ k ∧ iv = .int .i64 (t : Int) ∧ Below M w wr ∧ M ≤ wr.heap.size ∧ Hid (wr.ownsRow M 5 1 bv (n + t) (vU (l ++ List.replicate t y)) ∨ (t = 0 ∧ 0 < k ∧ M = wr.heap.size ∧ l.length = n ∧ ∃ N, bv = .slice (some ⟨N, 0, none⟩) n n ∧ Row wr N (vU l) 5))) (fun _ iv _ => k - (intOf iv).toNat)
  case atStart =>
    refine ⟨0, by omega, rfl, Below.refl _ _, hM, ?_⟩
    rcases HH.out with h | h
    · exact .inl (by rw [Nat.add_zero, List.replicate_zero, List.append_nil]; exact h)
    · exact .inr ⟨rfl, h⟩
  case round =>
    obtain ⟨t, ht, rfl, hb, hMw, hO⟩ := hrel
    by_cases hlt : t < k
    · have hlt' : (t : Int) < (k : Int) := by omega
      have HO : Hid (wr.ownsRow M 5 1 u0 (n + t) (vU (l ++ List.replicate t y)) ∨ (M = wr.heap.size ∧ (l ++ List.replicate t y).length = n + t ∧ ∃ N, u0 = .slice (some ⟨N, 0, none⟩) (n + t) (n + t) ∧ Row wr N (vU (l ++ List.replicate t y)) 5)) := by
        rcases hO.out with h | ⟨rfl, _, h1, h2, N, h3, h4⟩
        · exact .inl h
        · refine .inr ⟨h1, by simp [h2], N, by rw [Nat.add_zero]; exact h3, by rw [List.replicate_zero, List.append_nil]; exact h4⟩
      have hnt : n + t + 1 ≤ 140737488355328 := by have := HK.out; omega
      have HE : Hid (l ++ List.replicate (t + 1) y = (l ++ List.replicate t y) ++ [y]) := by show _ = _; rw [List.replicate_succ', List.append_assoc]
      clear ht hO
      go_wp2_with (refine wpList_append_u rfl (.tmp 13) (.tmp 15) rfl wr w M _ (n + t) y _ HO.out rfl rfl hnt hMw hb ?_; intro v7 W7 ho7 hb7 hm7; have HO7 : Hid _ := ho7; clear ho7; simp only [Act.put, List.setIfInBounds_toArray, List.set_cons_zero, List.set_cons_succ])
      exact ⟨⟨t + 1, hlt, by go_num, hb7, hm7, .inl (by rw [HE.out]; exact HO7.out)⟩, by simp [intOf]; omega⟩
    · obtain rfl : t = k := by omega
      have hlt' : ¬ (t : Int) < (t : Int) := by omega
      have HO : Hid (wr.ownsRow M 5 1 u0 (n + t) (vU (l ++ List.replicate t y))) := by
        rcases hO.out with h | ⟨rfl, h, _⟩
        · exact h
        · omega
      clear ht hlt hO
      go_wp2
      go_ret
      exact ⟨_, rfl, HO.out, hb⟩

theorem fill32 (N k : Nat) (hk : k < 256) (l : List Nat) (hl : l.length = 32) (w : World) (r : Row w N (vU l) 5) :
    Calls Tryd.prog 35 #[.slice (some ⟨N, 0, none⟩) 32 32, .int .u8 (k : Int)] w fun e w' => e = .returned (.tuple #[]) ∧ Row w' N (vU (List.replicate 32 k)) 5 ∧ But N w w' := by
  have h := fill_any N 32 32 k hk l [] hl (by decide) [] w (by rw [List.append_nil, List.append_nil]; exact r)
  rw [List.append_nil, List.append_nil] at h
  exact h
theorem ownsU_open {W : World} {M n : Nat} {v : Value} {xs : List Value} (h : W.ownsRow M 5 1 v n xs) (hn : 0 < n) : ∃ g cap sp, v = .slice (some ⟨g, 0, none⟩) n cap ∧ M ≤ g ∧ n ≤ cap ∧ cap ≤ maxLen ∧ Row W g (xs ++ sp) 5 ∧ sp.length = cap - n := by
  rcases h.2 with ⟨_, h0⟩ | ⟨g, cap, cur, hv, hg, hh, hc, hx, hs, ht⟩
  · omega
  · refine ⟨g, cap, cur.toList.drop n, hv, hg, hc, hx, ?_, by simp [hs]⟩
    rw [← ht, Nat.mul_one, List.take_append_drop]
    unfold Row
    rw [hh]
theorem info_all_sl : (Tryd.prog.info? 44).map (fun i => (i.zero, i.size, i.bytes)) = some (some (.slice none 0 0), 1, 24) := by kernel_rfl
section
variable {ops : Array Oper} {rest : List Oper} {op : Oper} {a : Act} {Q : Exit → Act → World → Prop}
/-- append of one list of bytes onto a list of lists of the call's own. -/
theorem wpList_append_sl (hgd : op.guard = none) (s x : Operand) (ho : op.op = .call { callee := .builtin .append, args := #[s, x], argTypes := #[47, 47] }) (W0 Wa : World) (M : Nat) (v : Value) (n : Nat) (A : Option Addr) (m c : Nat) (l : List Value)
    (hown : W0.ownsRow M 44 1 v n l) (hs : a.eval s = v) (hx : a.eval x = .slice (some ⟨W0.heap.size, 0, none⟩) 1 1) (hk : n ≤ 1000) (hM : M ≤ W0.heap.size) (hb : Below M Wa W0)
    (h : ∀ v' w', w'.ownsRow M 44 1 v' (n + 1) (l ++ [.slice A m c]) → Below M Wa w' → M ≤ w'.heap.size → (∀ b cs t, Row W0 b cs t → (t ≠ 44 ∨ b < M) → Row w' b cs t) → wpList Tryd.prog ops Q rest (a.put op.dst v') w') :
    wpList Tryd.prog ops Q (op :: rest) a (W0.alloc (.cells #[.slice A m c] 44)) := by
  obtain ⟨i, hi0, hz, hsz, hby⟩ := info_parts info_all_sl
  have hk0 : Below W0.heap.size W0 (W0.alloc (.cells #[.slice A m c] 44)) := (Below.refl _ _).alloc (Nat.le_refl _) _
  have hown1 := ownsU_below hown hk0 (Nat.le_refl _)
  have hr : Row (W0.alloc (.cells #[.slice A m c] 44)) W0.heap.size [.slice A m c] 44 := Row.new _ _ _
  have hN1 : M ≤ (W0.alloc (.cells #[.slice A m c] 44)).heap.size := Nat.le_trans hM hk0.size
  have hcell := hr.all
  have hb1 : Below M Wa (W0.alloc (.cells #[.slice A m c] 44)) := hb.alloc hM _
  have hrow : ∀ b cs t, Row W0 b cs t → Row (W0.alloc (.cells #[.slice A m c] 44)) b cs t := fun b cs t hq => Row.alloc hq _
  generalize hW1 : W0.alloc (.cells #[.slice A m c] 44) = W1 at *
  refine wpList_append_own _ hgd s x 47 ho M 44 i (.slice none 0 0) 1 24 Tryd.underlying47 hi0 hz hsz hby rfl (by decide) v n l hs hown1 ⟨W0.heap.size, 0, none⟩ 1 1 [.slice A m c] hx rfl ?_ ?_ (by unfold maxLen; omega) (by omega) hN1 ?_
  · intro j u hj; rw [Addr.add_mid]; exact hcell j u hj
  · intro u hu; rw [List.mem_singleton.1 hu]; rfl
  · intro v' w' h2 h3 _
    refine h v' w' h2 (hb1.grown h3 hN1 (fun k hk => ?_)) (Nat.le_trans hN1 h3.size) (fun b cs t hq hd => ?_)
    · rcases hown1.2 with ⟨h2, _⟩ | ⟨g', cap, cur, hv, hg, _⟩
      · rw [h2] at hk; simp [Value.ownBlock] at hk
      · rw [hv] at hk; simp [Value.ownBlock] at hk; omega
    · have hq1 := hrow b cs t hq
      refine (h3.block b (Row.lt hq1) (fun e => ?_)).trans hq1
      rcases hown1.2 with ⟨h2, _⟩ | ⟨g', cap, cur, hv, hg, hh, _⟩
      · rw [h2] at e; simp [Value.ownBlock] at e
      · rw [hv] at e
        simp [Value.ownBlock] at e
        subst e
        rcases hd with hd | hd
        · have := hq1.symm.trans hh
          simp at this
          exact hd this.2
        · omega
end
section
variable {ops : Array Oper} {rest : List Oper} {op : Oper} {a : Act} {Q : Exit → Act → World → Prop}
/-- append of bytes that lie elsewhere. -/
theorem wpList_append_by (hgd : Region.wanted op (yielded ops a.tmps) = true) (s x : Operand) (ho : op.op = .call { callee := .builtin .append, args := #[s, x], argTypes := #[44, 44] }) (W Wa : World) (M : Nat) (v : Value) (n m : Nat) (l news : List Nat)
    (hown : W.ownsRow M 5 1 v n (vU l)) (hs : a.eval s = v) (A : Option Addr) (cap : Nat) (hm : news.length = m) (hx : a.eval x = .slice A m cap) (hX : By W A news) (hnil : A = none → cap = 0) (hk : n + m ≤ 140737488355328) (hM : M ≤ W.heap.size) (hb : Below M Wa W)
    (h : ∀ v' w', w'.ownsRow M 5 1 v' (n + m) (vU (l ++ news)) → Below M Wa w' → M ≤ w'.heap.size → wpList Tryd.prog ops Q rest (a.put op.dst v') w') :
    wpList Tryd.prog ops Q (op :: rest) a W := by
  obtain ⟨i, hi0, hz, hsz, hby⟩ := info_parts info_all_u8
  refine BigFrame.wpList_want hgd fun K hK => ?_
  cases A with
  | none =>
    have h0 : news = [] := by
      cases news with
      | nil => rfl
      | cons y r => obtain ⟨b, o, e, _⟩ := hX 0 (by simp); cases e
    subst h0
    obtain rfl : m = 0 := by simpa using hm.symm
    obtain rfl := hnil rfl
    have hrun := run_append_owned_none (P := Tryd.prog) (w := W) M 44 op.type 5 i 1 Tryd.underlying44 hi0 v n (vU l) hown
    have h2 := h v W (by simpa using hown) hb hM
    unfold Oper.wp
    simp [execOp, ho, resolve, invoke, builtin, hs, hx, hrun, Result.andThen]
    exact hK _ _ h2
  | some ad =>
    refine wp_append_own W s x 44 ho M 5 i (.int .u8 0) 1 1 Tryd.underlying44 hi0 hz hsz hby rfl (by decide) v n (vU l) hs hown ad m cap (vU news) hx (by rw [vU_length, hm, Nat.mul_one]) (fun j u hj => ?_) (vU_one news) (by unfold maxLen; omega) (by omega) hM fun v' w' h2 h3 _ => ?_
    · have hjl : j < news.length := by have := (List.getElem?_eq_some_iff.1 hj).1; rw [vU_length] at this; exact this
      obtain ⟨b, o, e, h2, _⟩ := hX j hjl
      obtain rfl := Option.some.inj e
      rw [Addr.add_mid, h2, ← hj, vU_get news j hjl]
    · rw [← vU_append] at h2
      refine hK _ _ (h v' w' h2 (hb.grown h3 hM (fun k hk => ?_)) (Nat.le_trans hM h3.size))
      rcases hown.2 with ⟨h2, _⟩ | ⟨g', cap, cur, hv, hg, _⟩
      · rw [h2] at hk; simp [Value.ownBlock] at hk
      · rw [hv] at hk; simp [Value.ownBlock] at hk; omega
end
theorem By.front {W : World} {N n : Nat} {xs ys : List Nat} {sp : List Value} (r : Row W N (vU (xs ++ ys) ++ sp) 5) (hn : xs.length = n) : By W (some ⟨N, 0, none⟩) xs := fun i hi => by
  refine ⟨N, 0, rfl, ?_, Row.lt r⟩
  rw [Nat.zero_add]
  refine r.cell i _ ?_
  rw [List.getElem?_append_left (by rw [vU_length, List.length_append]; omega), vU_get _ i (by rw [List.length_append]; omega)]
  rw [List.getD_eq_getElem?_getD, List.getElem?_append_left hi, ← List.getD_eq_getElem?_getD]
theorem By.whole {W : World} {N : Nat} {xs : List Nat} {sp : List Value} (r : Row W N (vU xs ++ sp) 5) : By W (some ⟨N, 0, none⟩) xs :=
  By.front (ys := []) (sp := sp) (by rw [List.append_nil]; exact r) rfl
theorem two_lo (a b j : Nat) (h : j < 32) : (List.replicate 32 a ++ List.replicate 40 b).getD j 0 = a := by
  rw [List.getD_eq_getElem?_getD, List.getElem?_append_left (by rw [List.length_replicate]; exact h), List.getElem?_replicate, if_pos h]; rfl
theorem two_hi (a b j : Nat) (h : ¬ j < 32) (h2 : j < 72) : (List.replicate 32 a ++ List.replicate 40 b).getD j 0 = b := by
  rw [List.getD_eq_getElem?_getD, List.getElem?_append_right (by rw [List.length_replicate]; omega), List.length_replicate, List.getElem?_replicate, if_pos (by omega)]; rfl
theorem one_lo (a j : Nat) (h : j < 32) : (List.replicate 32 a).getD j 0 = a := by
  rw [List.getD_eq_getElem?_getD, List.getElem?_replicate, if_pos h]; rfl
theorem refBytes_c {ca : List Value} {a : Nat} (Ha : Wc ca a) (w : World) : Calls Tryd.prog 33 #[.agg ca.toArray] w fun e w' => ∃ N, w.heap.size ≤ N ∧ Row w' N (vU (bl a)) 5 ∧ e = .returned (.slice (some ⟨N, 0, none⟩) 32 32) ∧ Below w.heap.size w w' := by
  rw [Ha]
  exact refBytes_any a w
theorem alike_c {l : List Nat} (hl : ∀ x ∈ l, x < 256) {n : Nat} (hn : l.length = n) (A A' : Option Addr) (cap cap' : Nat) (w : World) (h1 : By w A l) (h2 : By w A' l) :
    Calls Tryd.prog 34 #[.slice A n cap, .slice A' n cap'] w fun e w' => e = .returned (.bool true) ∧ w' = w := by
  subst hn
  exact alike_any l hl A A' cap cap' w h1 h2
theorem refRead_c {l : List Nat} (hl : ∀ x ∈ l, x < 256) {A : Option Addr} {n : Nat} (hn : l.length = n) (cap : Nat) {r : Nat} {E : Int} (hr : rdR l = r) (hE : rdE l = E) (w : World) (h : By w A l) : Calls Tryd.prog 38 #[.slice A n cap] w fun e w' => ∃ c, Wc c r ∧ e = .returned (.tuple #[.agg c.toArray, .int .i64 E]) ∧ Below w.heap.size w w' := by
  subst hr hE hn
  exact (refRead_by l hl A cap w h).mono fun e w' h => ⟨_, rfl, h.1, h.2⟩

end Go.Proofs.YtehccmlbnfhhmaaDoor
