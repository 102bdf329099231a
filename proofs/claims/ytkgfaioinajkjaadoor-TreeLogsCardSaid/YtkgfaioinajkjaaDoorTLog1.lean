/-
  slices.Clone of digests; bits.OnesCount; Front and Resume.
-/
import Derived.Test.YtkgfaioinajkjaaDoorTLog0
namespace Go.Proofs.YtkgfaioinajkjaaDoor
open Go Go.RowKit
open Sha

theorem dnil_eq (w : World) : (binOp .eql 26 (.slice none 0 0) (.slice none 0 0)).run Tryd.prog w = .ok (.bool true) w := by
  have h1 : ∀ d, (Op.equalIn (d + 1) 26 (.slice none 0 0) (.slice none 0 0)).run Tryd.prog w = .ok true w := fun d => by simp [Op.equalIn, run_underlying Tryd.underlying26]
  have h2 : (Op.equal 26 (.slice none 0 0) (.slice none 0 0)).run Tryd.prog w = .ok true w := h1 9999
  simp only [binOp]
  simp [h2]
theorem dsome_eq (a : Addr) (n c : Nat) (w : World) : (binOp .eql 26 (.slice (some a) n c) (.slice none 0 0)).run Tryd.prog w = .ok (.bool false) w := by
  have h1 : ∀ d, (Op.equalIn (d + 1) 26 (.slice (some a) n c) (.slice none 0 0)).run Tryd.prog w = .ok false w := fun d => by simp [Op.equalIn, run_underlying Tryd.underlying26]
  have h2 : (Op.equal 26 (.slice (some a) n c) (.slice none 0 0)).run Tryd.prog w = .ok false w := h1 9999
  simp only [binOp]
  simp [h2]
section
variable {ops : Array Oper} {rest : List Oper} {o : Oper} {a : Act} {w : World} {Q : Exit → Act → World → Prop}
/-- append of digests onto digests that are owned. -/
theorem wpList_appd (hgd : o.guard = none) (s x : Operand) (ho : o.op = .call { callee := .builtin .append, args := #[s, x], argTypes := #[26, 26] }) (n : Nat) (v : Value) (l : List Value) (hs : a.eval s = v) (hown : Ow w v n l)
    (g m cap : Nat) (news : List Value) (hl : news.length = m * 32) (hx : a.eval x = .slice (some ⟨g, 0, none⟩) m cap) (hr : w.rangeAt g 0 news) (h1c : ∀ u ∈ news, u.oneCell' = true) (hk : (n + m) * 32 ≤ 140737488355328)
    (h : ∀ v' w', Ow w' v' (n + m) (l ++ news) → w.grownBy w' v.ownBlock → (v'.ownBlock = v.ownBlock ∨ v'.ownBlock = some w.heap.size) → wpList Tryd.prog ops Q rest (a.put o.dst v') w') : wpList Tryd.prog ops Q (o :: rest) a w := by
  obtain ⟨ie, z, h1, h2, h3, h5, h4⟩ := info_d_open
  obtain ⟨v', w', hr', q2, q3, _, q5⟩ := run_append_own_at (P := Tryd.prog) w 0 26 o.type 42 ie z 32 32 Tryd.underlying26 h1 h2 h3 h5 h4 (by decide) v n l hown ⟨g, 0, none⟩ m cap news hl
    (fun j u hj => by rw [Addr.add_mid]; exact hr j u hj) h1c (by unfold maxLen; omega) hk (Nat.zero_le _)
  refine wpList_plain hgd fun K hK => ?_
  unfold Oper.wp execOp
  simp only [ho, resolve, invoke, builtin, Sem.run_bind, Sem.run_pure, Result.andThen_ok, List.map_toArray, List.map_cons, List.map_nil, hs, hx, hr']
  exact hK _ _ (h v' w' q2 q3 q5)
end
theorem ow_empty (w : World) : Ow (w.alloc (Obj.cells #[] 42)) (.slice (some ⟨w.heap.size, 0, none⟩) 0 0) 0 [] :=
  ⟨rfl, .inr ⟨w.heap.size, 0, #[], rfl, Nat.zero_le _, (Row.new' rfl rfl : Row _ _ [] _), Nat.le_refl _, by unfold maxLen; omega, rfl, rfl⟩⟩
theorem Ow.all {w : World} {g n cap : Nat} {xs : List Value} (h : Ow w (.slice (some ⟨g, 0, none⟩) n cap) n xs) : w.rangeAt g 0 xs := fun j v hj => by
  have := World.ownsRow.cells (g := g) h rfl j v hj
  rwa [Addr.add_mid] at this
set_option maxRecDepth 100000 in
set_option maxHeartbeats 1000000 in
theorem dclone_any (n : Nat) (hn : n ≤ 100) (v : Value) (xs : List Value) (hx : ∀ u ∈ xs, u.oneCell' = true) (w : World) (h : Ow w v n xs) :
    Calls Tryd.prog 31 #[v] w fun e w' => ∃ v', e = .returned v' ∧ Ow w' v' n xs ∧ Fresh w.heap.size v' ∧ Below w.heap.size w w' := by
  have hl := h.1
  rcases h.2 with ⟨rfl, rfl⟩ | ⟨g, cap, cur, rfl, hg, hh, r⟩
  · have hq := dnil_eq
    obtain rfl : xs = [] := List.length_eq_zero_iff.1 (by simpa using hl)
    clear h hl hx
    go_enter Tryd.func31, Tryd.ntmps31
    go_wp2
    go_ret
    exact ⟨_, rfl, ⟨rfl, .inl ⟨rfl, rfl⟩⟩, fun g e => by simp [Value.ownBlock] at e, Below.refl _ _⟩
  · have hq := dsome_eq ⟨g, 0, none⟩ n cap
    have hB : Below w.heap.size w (w.alloc (Obj.cells #[] 42)) := (Below.refl _ _).alloc (Nat.le_refl _) _
    have HR : Hid ((w.alloc (Obj.cells #[] 42)).rangeAt g 0 xs) := (h.be hB).all
    have HL : Hid (xs.length = n * 32) := hl
    have HX : Hid (∀ u ∈ xs, u.oneCell' = true) := hx
    have HK : Hid ((0 + n) * 32 ≤ 140737488355328) := by show _ ≤ _; omega
    have HB : Hid (Below w.heap.size w _) := hB
    clear h hl hx hh r hB hn
    go_enter Tryd.func31, Tryd.ntmps31
    go_wp2_with (refine wpList_appd rfl _ (.tmp 6) rfl 0 (.slice (some ⟨w.heap.size, 0, none⟩) 0 0) [] rfl (ow_empty w) g n cap xs HL.out rfl HR.out HX.out HK.out ?_; intro v' w' q1 q2 q3; rw [Nat.zero_add, List.nil_append] at q1; obtain ⟨Ax, cx, ex, _⟩ := Ow.form q1; subst ex; have Q1 : Hid (Ow _ _ _ _) := q1; have Q2 : Hid _ := q2; have Q3 : Hid _ := q3; clear q1 q2 q3; simp only [Act.put, List.setIfInBounds_toArray, List.set_cons_zero, List.set_cons_succ])
    go_ret
    refine ⟨Value.slice Ax n cx, rfl, Q1.out, fun k e => ?_, HB.out.grown Q2.out (by simp) (fun k hk => by simp [Value.ownBlock] at hk; omega)⟩
    rcases Q3.out with q | q
    · rw [e] at q; simp [Value.ownBlock] at q; omega
    · rw [e] at q; simp at q; omega

theorem pop_pc : ∀ (f m : Nat), m < 2 ^ f → Lib.popAux f m = pc m
  | 0, m, h => by
    have : m = 0 := by simpa using h
    subst this
    rw [pc, dif_pos rfl]; rfl
  | f + 1, m, h => by
    rw [Nat.pow_succ] at h
    rw [Lib.popAux, pop_pc f (m / 2) (by omega)]
    by_cases h0 : m = 0
    · subst h0
      have e : pc 0 = 0 := by rw [pc, dif_pos rfl]
      rw [Nat.zero_div, e]
    · conv => rhs; rw [pc, dif_neg h0]
set_option maxRecDepth 100000 in
set_option maxHeartbeats 1000000 in
theorem ones64_c (m : Nat) (hm : m < 261) (w : World) :
    Calls Tryd.prog 47 #[.int .u64 (m : Int)] w fun e w' => e = .returned (.int .i64 (Lib.onesCount m : Int)) ∧ w' = w := by
  go_enter Tryd.func47, Tryd.ntmps47
  go_wp2
  go_ret
  refine ⟨congrArg (fun z => Ending.returned (Value.int .i64 z)) (?_ : _ = _), rfl⟩
  clear w
  revert hm
  revert m
  decide +kernel
theorem ones64_any (m : Nat) (hm : m < 261) (w : World) :
    Calls Tryd.prog 47 #[.int .u64 (m : Int)] w fun e w' => e = .returned (.int .i64 (pc m : Int)) ∧ w' = w := by
  have h := ones64_c m hm w
  rw [show Lib.onesCount m = pc m from pop_pc 64 m (by omega)] at h
  exact h
set_option maxRecDepth 100000 in
set_option maxHeartbeats 1000000 in
theorem ones_any (m : Nat) (hm : m < 261) (w : World) :
    Calls Tryd.prog 33 #[.int .u64 (m : Int)] w fun e w' => e = .returned (.int .i64 (pc m : Int)) ∧ w' = w := by
  have HO : Hid _ := ones64_any m hm w
  clear hm
  generalize pc m = k at *
  go_enter Tryd.func33, Tryd.ntmps33
  go_wp2_with (go_at_call 47; refine Calls.mono HO.out ?_; rintro e W ⟨rfl, rfl⟩)
  go_ret
  exact ⟨rfl, rfl⟩

theorem vB_ones (F : List (List (BitVec 8))) : ∀ u ∈ vB F.flatten, u.oneCell' = true := vB_one _
set_option maxRecDepth 100000 in
theorem lfront_any (P m : Nat) (v : Value) (F : List (List (BitVec 8))) (hn : F.length ≤ 100) (w : World) (h : Lg w P m v F) :
    Calls Tryd.prog 14 #[.pointer (some ⟨P, 0, none⟩)] w fun e w' => ∃ v', e = .returned v' ∧ Ow w' v' F.length (vB F.flatten) ∧ Fresh w.heap.size v' ∧ Below w.heap.size w w' := by
  have g1 := h.row.cell 1 _ rfl
  have HC : Hid _ := dclone_any F.length hn v (vB F.flatten) (vB_ones F) w h.own
  clear h hn
  go_enter Tryd.func14, Tryd.ntmps14
  go_wp2_with fail
  refine Calls.mono HC.out ?_
  rintro e W ⟨v', rfl, h1, h2, h3⟩
  obtain ⟨Ax, cx, ex, _⟩ := Ow.form h1
  subst ex
  have H1 : Hid (Ow _ _ _ _) := h1
  have H2 : Hid (Fresh _ _) := h2
  have H3 : Hid (Below _ _ _) := h3
  clear h1 h2 h3 HC g1
  go_wp2_with fail
  go_ret
  exact ⟨.slice Ax F.length cx, rfl, H1.out, H2.out, H3.out⟩
set_option maxRecDepth 100000 in
set_option maxHeartbeats 1000000 in
theorem lresume_any (m : Nat) (hm : m < 261) (v : Value) (F : List (List (BitVec 8))) (hF : F.length = pc m) (h32 : ∀ d ∈ F, d.length = 32) (hn : F.length ≤ 100) (w : World) (h : Ow w v F.length (vB F.flatten)) :
    Calls Tryd.prog 18 #[.int .i64 (m : Int), v] w fun e w' => ∃ P v', e = .returned (.tuple #[.pointer (some ⟨P, 0, none⟩), .int .i64 0]) ∧ Lg w' P m v' F ∧ w.heap.size ≤ P ∧ Fresh w.heap.size v' ∧ Below w.heap.size w w' := by
  have HO : Hid _ := ones_any m hm w
  rw [← hF] at HO
  have HC : Hid _ := dclone_any F.length hn v (vB F.flatten) (vB_ones F) w h
  have H32 : Hid (∀ d ∈ F, d.length = 32) := h32
  have c1 : ¬ (m : Int) < 0 := by omega
  have c2 : ¬ (1099511627776 : Int) < (m : Int) := by omega
  obtain ⟨A, cap, rfl, _⟩ := h.form
  have hwr : IntKind.u64.wrap (m : Int) = (m : Int) := by rw [IntKind.wrap_u64]; omega
  clear h hF h32 hn
  go_enter Tryd.func18, Tryd.ntmps18
  go_wp2_with (go_at_call 33; refine Calls.mono HO.out ?_; rintro e W ⟨rfl, hqq⟩; obtain rfl := hqq.symm)
  refine Calls.mono HC.out ?_
  rintro e W ⟨v', rfl, h1, h2, h3⟩
  obtain ⟨Ax, cx, ex, _⟩ := Ow.form h1
  subst ex
  have H1 : Hid (Ow _ _ _ _) := h1
  have H2 : Hid (Fresh _ _) := h2
  have H3 : Hid (Below w.heap.size w W) := h3
  clear h1 h2 h3 HC
  go_wp2_with fail
  go_ret2
  have b : Below W.heap.size W (W.alloc (Obj.cells #[.int .i64 (m : Int), .slice Ax F.length cx] tL)) := (Below.refl _ _).alloc (Nat.le_refl _) _
  exact ⟨W.heap.size, .slice Ax F.length cx, rfl, ⟨Row.new' rfl rfl, H1.out.be b, H32.out⟩, H3.out.size, H2.out, H3.out.trans (b.mono H3.out.size)⟩

end Go.Proofs.YtkgfaioinajkjaaDoor
