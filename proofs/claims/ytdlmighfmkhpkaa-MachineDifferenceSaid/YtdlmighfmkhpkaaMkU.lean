/-
  Clone, mayBe.
-/
import Derived.Test.YtdlmighfmkhpkaaMkT
namespace Go.Proofs.Ytdlmighfmkhpkaa
open Go Go.RowKit
open Sha
open Wd

section
variable {ops : Array Oper} {rest : List Oper} {op : Oper} {a : Act} {w : World} {Q : Exit → Act → World → Prop}
/-- append of a list onto one that is owned. -/
theorem wpList_appN (t e : TypeId) (sz bt : Nat) (hu : Try.prog.underlying t = some (.slice e)) (hi : ∃ ie z, Try.prog.info? e = some ie ∧ ie.zero = some z ∧ ie.size = sz ∧ ie.bytes = bt ∧ z.cells.size = sz) (h0 : 0 < sz) (hgd : op.guard = none) (s x : Operand) (ho : op.op = .call { callee := .builtin .append, args := #[s, x], argTypes := #[t, t] }) (v : Value) (n : Nat) (l news : List Value) (hs : a.eval s = v) (hown : Lw w e sz v n l)
    (g2 m cap : Nat) (hm : news.length = m * sz) (hx : a.eval x = .slice (some ⟨g2, 0, none⟩) m cap) (hX : w.rangeAt g2 0 news) (h1 : ∀ v ∈ news, v.oneCell' = true) (hk : n + m ≤ maxLen) (hb : (n + m) * bt ≤ 140737488355328)
    (h : ∀ v' w', Lw w' e sz v' (n + m) (l ++ news) → w.grownBy w' v.ownBlock → (v'.ownBlock = v.ownBlock ∨ v'.ownBlock = some w.heap.size) → wpList Try.prog ops Q rest (a.put op.dst v') w') : wpList Try.prog ops Q (op :: rest) a w := by
  obtain ⟨ie, z, i1, i2, i3, i5, i4⟩ := hi
  obtain ⟨v', w', hr, q2, q3, _, q5⟩ := run_append_own_at (P := Try.prog) w 0 t op.type e ie z sz bt hu i1 i2 i3 i5 i4 h0 v n l hown ⟨g2, 0, none⟩ m cap news hm (fun j u hj => by rw [Addr.add_mid]; exact hX j u hj) h1 hk hb (Nat.zero_le _)
  refine wpList_plain hgd fun K hK => ?_
  unfold Oper.wp execOp
  simp only [ho, resolve, invoke, builtin, Sem.run_bind, Sem.run_pure, Result.andThen_ok, List.map_toArray, List.map_cons, List.map_nil, hs, hx, hr]
  exact hK _ _ (h v' w' q2 q3 q5)
end
theorem lw_empty (w : World) (e : TypeId) (s : Nat) : Lw (w.alloc (Obj.cells #[] e)) e s (.slice (some ⟨w.heap.size, 0, none⟩) 0 0) 0 [] :=
  ⟨by simp, .inr ⟨w.heap.size, 0, #[], rfl, Nat.zero_le _, (Row.new' rfl rfl : Row _ _ [] _), Nat.le_refl _, by unfold maxLen; omega, by simp, by simp⟩⟩
theorem wsome_eq (a : Addr) (n c : Nat) (w : World) : (binOp .eql 35 (.slice (some a) n c) (.slice none 0 0)).run Try.prog w = .ok (.bool false) w := by
  have h1 : ∀ d, (Op.equalIn (d + 1) 35 (.slice (some a) n c) (.slice none 0 0)).run Try.prog w = .ok false w := fun d => by simp [Op.equalIn, run_underlying Try.underlying35]
  have h2 : (Op.equal 35 (.slice (some a) n c) (.slice none 0 0)).run Try.prog w = .ok false w := h1 9999
  simp only [binOp]
  simp [h2]
theorem hostsome_eq (t : TypeId) (v : Value) (w : World) : (binOp .eql 74 (.iface t v) .nilIface).run Try.prog w = .ok (.bool false) w := by
  have h1 : ∀ d, (Op.equalIn (d + 1) 74 (.iface t v) .nilIface).run Try.prog w = .ok false w := fun d => by simp [Op.equalIn, run_underlying Try.underlying74]
  have h2 : (Op.equal 74 (.iface t v) .nilIface).run Try.prog w = .ok false w := h1 9999
  simp only [binOp]
  simp [h2]
theorem fw_one (ss : List Nat) : ∀ u ∈ fw ss, u.oneCell' = true := fun u hu => by
  obtain ⟨x, _, h⟩ := List.mem_flatMap.1 hu
  exact wq_mem x u h
theorem be_grown {w W W' : World} {o : Option Nat} (h : Below w.heap.size w W) (k : W.grownBy W' o) (ho : ∀ g, o = some g → w.heap.size ≤ g) : Below w.heap.size w W' := below_gb h k ho
set_option maxRecDepth 100000 in
set_option maxHeartbeats 4000000 in
theorem wclone_any (ss : List Nat) (hn : ss.length ≤ 100) (g cap : Nat) (w : World) (h : w.rangeAt g 0 (fw ss)) :
    Calls Try.prog 49 #[.slice (some ⟨g, 0, none⟩) ss.length cap] w fun e w' => ∃ A c, e = .returned (.slice A ss.length c) ∧ Lw w' 29 4 (.slice A ss.length c) ss.length (fw ss) ∧ (∀ k, (Value.slice A ss.length c).ownBlock = some k → w.heap.size ≤ k) ∧ Below w.heap.size w w' := by
  obtain ⟨n, hn'⟩ : ∃ n, n = ss.length := ⟨_, rfl⟩
  have hq := wsome_eq ⟨g, 0, none⟩ n cap
  have hB : Below w.heap.size w (w.alloc (Obj.cells #[] 29)) := (Below.refl _ _).alloc (Nat.le_refl _) _
  have HR : Hid ((w.alloc (Obj.cells #[] 29)).rangeAt g 0 (fw ss)) := range_be h hB
  have HL : Hid ((fw ss).length = n * 4) := by show _ = _; rw [hn', fw_len]
  have HK : Hid ((0 + n) * 32 ≤ 140737488355328) := by show _ ≤ _; omega
  have HM : Hid (0 + n ≤ maxLen) := by show _ ≤ _; unfold maxLen; omega
  have HB : Hid (Below w.heap.size w (w.alloc (Obj.cells #[] 29))) := hB
  rw [← hn']
  clear h hB hn hn'
  go_enter Try.func49, Try.ntmps49
  go_wp2_with (refine wpList_appN 35 29 4 32 Try.underlying35 info_W_open (by decide) rfl _ (.tmp 6) rfl (.slice (some ⟨w.heap.size, 0, none⟩) 0 0) 0 [] (fw ss) rfl (lw_empty w 29 4) g n cap HL.out rfl HR.out (fw_one ss) HM.out HK.out ?_; intro v' w' q1 q2 q3; rw [Nat.zero_add, List.nil_append] at q1; obtain ⟨Ax, cx, ex, _, _⟩ := Lw.form q1; subst ex; have Q1 : Hid (Lw w' 29 4 (.slice Ax n cx) n (fw ss)) := q1; have Q2 : Hid _ := q2; have Q3 : Hid _ := q3; clear q1 q2 q3; simp only [Act.put, List.setIfInBounds_toArray, List.set_cons_zero, List.set_cons_succ])
  go_ret
  refine ⟨Ax, cx, rfl, Q1.out, fun k e => ?_, be_grown HB.out Q2.out (fun k hk => by simp [Value.ownBlock] at hk; omega)⟩
  rcases Q3.out with q | q
  · rw [e] at q; simp [Value.ownBlock] at q; omega
  · rw [e] at q; simp at q; omega
set_option maxRecDepth 100000 in
set_option maxHeartbeats 4000000 in
theorem mayBe_ok (C : List Value) (A : Option Addr) (c : Nat) (h0 : C[40]? = some (.int .i64 0)) (h1 : C[45]? = some (.slice A 2 c)) (h2 : C[46]? = some (.int .i64 0)) (h3 : C[47]? = some (.int .i64 100)) (w : World) : Calls Try.prog 48 #[.agg C.toArray] w fun e w' => e = .returned (.bool true) ∧ Below w.heap.size w w' := by
  have H0 : Hid (C[40]? = some (.int .i64 0)) := h0
  have H1 : Hid (C[45]? = some (.slice A 2 c)) := h1
  have H2 : Hid (C[46]? = some (.int .i64 0)) := h2
  have H3 : Hid (C[47]? = some (.int .i64 100)) := h3
  clear h0 h1 h2 h3
  go_enter Try.func48, Try.ntmps48
  go_upto_region 1 with (refine wpList_boxG 39 rfl (.tmp 0) rfl C rfl ?_; intro X q1 q2 q3; have c0 := q1.cell 40 _ H0.out; have c1 := q1.cell 45 _ H1.out; have c2 := q1.cell 46 _ H2.out; have c3 := q1.cell 47 _ H3.out; have B1 : Hid (Below w.heap.size w X) := q2; clear q1 q2 q3; simp only [Act.put, List.setIfInBounds_toArray, List.set_cons_zero, List.set_cons_succ])
  go_wp2
  go_ret
  exact ⟨rfl, B1.out⟩

end Go.Proofs.Ytdlmighfmkhpkaa
