/-
  causewayref02.plus.
-/
import Derived.Test.YtkbdnebmekhcdaaWDgM
import Derived.Test.YtkbdnebmekhcdaaWDg
import Derived.Laws.AppendOwn

namespace Go.Proofs.Ytkbdnebmekhcdaa
open Go
namespace Wd
def cry (a b t : Nat) : Nat := (a % 2 ^ t + b % 2 ^ t) / 2 ^ t
theorem cry_zero (a b : Nat) : cry a b 0 = 0 := by simp [cry, Nat.mod_one]
theorem cry_eq (a b t : Nat) : (a + b) / 2 ^ t = a / 2 ^ t + b / 2 ^ t + cry a b t := by
  unfold cry
  have hp : 0 < 2 ^ t := Nat.two_pow_pos t
  have h1 := Nat.div_add_mod a (2 ^ t)
  have h2 := Nat.div_add_mod b (2 ^ t)
  have e : a + b = (a % 2 ^ t + b % 2 ^ t) + 2 ^ t * (a / 2 ^ t + b / 2 ^ t) := by rw [Nat.mul_add]; omega
  have h3 : (a + b) / 2 ^ t = ((a % 2 ^ t + b % 2 ^ t) + 2 ^ t * (a / 2 ^ t + b / 2 ^ t)) / 2 ^ t := by rw [← e]
  rw [h3, Nat.add_mul_div_left _ _ hp]
  omega
theorem cry_le (a b t : Nat) : cry a b t ≤ 1 := by
  unfold cry
  have hp : 0 < 2 ^ t := Nat.two_pow_pos t
  have h1 := Nat.mod_lt a hp
  have h2 := Nat.mod_lt b hp
  have : (a % 2 ^ t + b % 2 ^ t) / 2 ^ t < 2 := Nat.div_lt_of_lt_mul (by omega)
  omega
theorem plus_step (a b t : Nat) : bt a t + bt b t + cry a b t = bt (a + b) t + 2 * cry a b (t + 1) := by
  have h1 := cry_eq a b t
  have h2 := cry_eq a b (t + 1)
  unfold bt
  rw [Nat.pow_succ, ← Nat.div_div_eq_div_mul, ← Nat.div_div_eq_div_mul, ← Nat.div_div_eq_div_mul] at h2
  generalize (a + b) / 2 ^ t = s at *
  generalize a / 2 ^ t = u at *
  generalize b / 2 ^ t = v at *
  generalize cry a b t = c at *
  generalize cry a b (t + 1) = d at *
  omega
theorem plus_done (a b n1 n2 t : Nat) (ha : a < 2 ^ n1) (hb : b < 2 ^ n2) (h1 : n1 ≤ t) (h2 : n2 ≤ t) (hc : cry a b t = 0) : a + b < 2 ^ t := by
  have hp : 0 < 2 ^ t := Nat.two_pow_pos t
  have e := cry_eq a b t
  rw [Nat.div_eq_of_lt (Nat.lt_of_lt_of_le ha (Nat.pow_le_pow_right (by decide) h1)), Nat.div_eq_of_lt (Nat.lt_of_lt_of_le hb (Nat.pow_le_pow_right (by decide) h2)), hc] at e
  exact (Nat.div_eq_zero_iff_lt hp).1 e
theorem cry_big (a b n1 n2 t : Nat) (ha : a < 2 ^ n1) (hb : b < 2 ^ n2) (h1 : n1 < t) (h2 : n2 < t) : cry a b t = 0 := by
  have e := cry_eq a b t
  obtain ⟨k, rfl⟩ : ∃ k, t = k + 1 := ⟨t - 1, by omega⟩
  have p1 := Nat.pow_le_pow_right (n := 2) (by decide) (show n1 ≤ k by omega)
  have p2 := Nat.pow_le_pow_right (n := 2) (by decide) (show n2 ≤ k by omega)
  have : a + b < 2 ^ (k + 1) := by rw [Nat.pow_succ]; omega
  rw [Nat.div_eq_of_lt this] at e
  generalize a / 2 ^ (k + 1) = u at e
  generalize b / 2 ^ (k + 1) = v at e
  omega
theorem bt_none (a n t : Nat) (ha : a < 2 ^ n) (h : n ≤ t) : bt a t = 0 := bt_zero a t (Nat.le_trans (blen_le a n ha) h)
end Wd
end Go.Proofs.Ytkbdnebmekhcdaa

namespace Go.Proofs.Ytkbdnebmekhcdaa
open Go Go.RowKit
open Wd

theorem ownsI_below {B N e size n : Nat} {w w' : World} {v : Value} {xs : List Value} (h : w.ownsRow N e size v n xs) (k : Below B w w') (hB : w.heap.size ≤ B) : w'.ownsRow N e size v n xs := by
  obtain ⟨h1, h2⟩ := h
  refine ⟨h1, ?_⟩
  rcases h2 with h2 | ⟨g, cap, cur, hv, hg, hh, r⟩
  · exact .inl h2
  · exact .inr ⟨g, cap, cur, hv, hg, (k.block g (Nat.lt_of_lt_of_le (Array.getElem?_eq_some_iff.1 hh).1 hB)).trans hh, r⟩

section
variable {ops : Array Oper} {rest : List Oper} {op : Oper} {a : Act} {Q : Exit → Act → World → Prop}
/-- append of one number onto a list of the call's own. -/
theorem wpList_append_int (hgd : op.guard = none) (s x : Operand) (ho : op.op = .call { callee := .builtin .append, args := #[s, x], argTypes := #[48, 48] }) (W0 Wa : World) (M : Nat) (v : Value) (n y : Nat) (l : List Nat)
    (hown : W0.ownsRow M 3 1 v n (vI l)) (hs : a.eval s = v) (hx : a.eval x = .slice (some ⟨W0.heap.size, 0, none⟩) 1 1) (hk : n ≤ 1048577) (hM : M ≤ W0.heap.size) (hb : Below M Wa W0)
    (h : ∀ v' w', w'.ownsRow M 3 1 v' (n + 1) (vI (l ++ [y])) → Below M Wa w' → wpList Try.prog ops Q rest (a.put op.dst v') w') :
    wpList Try.prog ops Q (op :: rest) a (W0.alloc (.cells #[.int .i64 (y : Int)] 3)) := by
  obtain ⟨i, hi0, hz, hsz, hby⟩ := info_parts info_all_int
  have hk0 : Below W0.heap.size W0 (W0.alloc (.cells #[.int .i64 (y : Int)] 3)) := (Below.refl _ _).alloc (Nat.le_refl _) _
  have hown1 := ownsI_below hown hk0 (Nat.le_refl _)
  have hr : Row (W0.alloc (.cells #[.int .i64 (y : Int)] 3)) W0.heap.size [.int .i64 (y : Int)] 3 := Row.new _ _ _
  have hN1 : M ≤ (W0.alloc (.cells #[.int .i64 (y : Int)] 3)).heap.size := Nat.le_trans hM hk0.size
  have hcell := hr.all
  have hb1 : Below M Wa (W0.alloc (.cells #[.int .i64 (y : Int)] 3)) := hb.alloc hM _
  generalize hW1 : W0.alloc (.cells #[.int .i64 (y : Int)] 3) = W1 at *
  refine wpList_append_own _ hgd s x 48 ho M 3 i (.int .i64 0) 1 8 Try.underlying48 hi0 hz hsz hby rfl (by decide) v n (vI l) hs hown1 ⟨W0.heap.size, 0, none⟩ 1 1 [.int .i64 (y : Int)] hx rfl ?_ ?_ (by unfold maxLen; omega) (by omega) hN1 ?_
  · intro j u hj; rw [Addr.add_mid]; exact hcell j u hj
  · intro u hu; rw [List.mem_singleton.1 hu]; rfl
  · intro v' w' h2 h3 _
    have e : vI l ++ [.int .i64 (y : Int)] = vI (l ++ [y]) := by simp [vI]
    rw [e] at h2
    refine h v' w' h2 (hb1.grown h3 hN1 (fun k hk => ?_))
    rcases hown1.2 with ⟨h2, _⟩ | ⟨g', cap, cur, hv, hg, _⟩
    · rw [h2] at hk; simp [Value.ownBlock] at hk
    · rw [hv] at hk; simp [Value.ownBlock] at hk; omega
end

theorem owns_dg {W : World} {M n m : Nat} {v : Value} (h : W.ownsRow M 3 1 v n (vI (bts m n))) (hm : m < 2 ^ n) (hn : n < 4611686018427387904) : Dg W v n m := by
  refine ⟨hm, hn, ?_⟩
  rcases h.2 with ⟨h2, h0⟩ | ⟨g, cap, cur, hv, hg, hh, hc, hx, hs, ht⟩
  · exact .inl ⟨h2, h0⟩
  · refine .inr ⟨g, cap, hv, hc, (Array.getElem?_eq_some_iff.1 hh).1, fun j hj => ?_⟩
    have hr : Row W g cur.toList 3 := by unfold Row; rw [hh]
    refine hr.cell j _ ?_
    have h3 := vI_get (bts m n) j (by rw [bts_length]; exact hj)
    rw [bts_getD _ _ _ hj, ← ht, List.getElem?_take_of_lt (by omega)] at h3
    exact h3

/-- A list of digits, as its address, its length. -/
def Dl (W : World) (A : Option Addr) (n m : Nat) : Prop := ∀ t, t < n → ∃ N, A = some ⟨N, 0, none⟩ ∧ W.cell? ⟨N, t, none⟩ = some (.int .i64 ((bt m t : Nat) : Int)) ∧ N < W.heap.size
theorem Dl.below {W W' : World} {A : Option Addr} {n m : Nat} (h : Dl W A n m) (hB : Below W.heap.size W W') : Dl W' A n m := fun t ht => by
  obtain ⟨N, e, h1, h2⟩ := h t ht
  exact ⟨N, e, (hB.cell (p := ⟨N, t, none⟩) h2).trans h1, Nat.lt_of_lt_of_le h2 hB.size⟩
theorem Dg.dl {W : World} {v : Value} {n m : Nat} (h : Dg W v n m) : ∃ A c, v = .slice A n c ∧ Dl W A n m := by
  rcases h.2.2 with ⟨e, h0⟩ | ⟨N, c, e, hc, hl⟩
  · subst h0; exact ⟨none, 0, e, fun t ht => by omega⟩
  · exact ⟨_, c, e, fun t ht => ⟨N, rfl, hl.2 t ht, hl.1⟩⟩

set_option maxRecDepth 100000 in
set_option maxHeartbeats 8000000 in
theorem plus_dg (a b n1 n2 : Nat) (v1 v2 : Value) (hn1 : n1 ≤ 1048576) (hn2 : n2 ≤ 1048576) (w : World) (h1 : Dg w v1 n1 a) (h2 : Dg w v2 n2 b) :
    Calls Try.prog 44 #[v1, v2] w fun e w' => ∃ v, e = .returned v ∧ Dg w' v (blen (a + b)) (a + b) ∧ Below w.heap.size w w' := by
  have HA : Hid (a < 2 ^ n1) := h1.1
  have HB : Hid (b < 2 ^ n2) := h2.1
  obtain ⟨A1, c1, rfl, d1⟩ := h1.dl
  obtain ⟨A2, c2, rfl, d2⟩ := h2.dl
  have H1 : Hid (Dl w A1 n1 a) := d1
  have H2 : Hid (Dl w A2 n2 b) := d2
  clear h1 h2 d1 d2
  go_enter Try.func44, Try.ntmps44
  go_wp2
  go_loopw [5, 6, 7, 8] (fun ov cv v _ wr => ∃ t : Nat, (t ≤ n1 + 1 ∨ t ≤ n2 + 1) ∧ v = .int .i64 (t : Int) ∧ cv = .int .i64 ((cry a b t : Nat) : Int) ∧ Below w.heap.size w wr ∧ Hid (wr.ownsRow w.heap.size 3 1 ov t (vI (bts (a + b) t)))) (fun _ _ v _ _ => n1 + n2 + 2 - (intOf v).toNat)
  case atStart =>
    exact ⟨0, by omega, rfl, by rw [cry_zero]; rfl, Below.refl _ _, World.ownsRow_nil _ _ _ _⟩
  case round =>
    obtain ⟨t, ht, rfl, rfl, hb, hO⟩ := hrel
    have hst := plus_step a b t
    have x1 := bt_lt a t
    have x2 := bt_lt b t
    have x3 := bt_lt (a + b) t
    have y1 := cry_le a b t
    have y2 := cry_le a b (t + 1)
    have HE : Hid (bts (a + b) (t + 1) = bts (a + b) t ++ [bt (a + b) t]) := bts_succ _ _
    obtain ⟨x, hx⟩ : ∃ x, x = bt a t := ⟨_, rfl⟩
    obtain ⟨y, hy⟩ : ∃ y, y = bt b t := ⟨_, rfl⟩
    obtain ⟨D, hD⟩ : ∃ D, D = bt (a + b) t := ⟨_, rfl⟩
    obtain ⟨B0, hB0⟩ : ∃ B0, B0 = cry a b t := ⟨_, rfl⟩
    obtain ⟨B1, hB1⟩ : ∃ B1, B1 = cry a b (t + 1) := ⟨_, rfl⟩
    have HZ1 : n1 ≤ t → x = 0 := fun h => by rw [hx]; exact bt_none a n1 t HA.out h
    have HZ2 : n2 ≤ t → y = 0 := fun h => by rw [hy]; exact bt_none b n2 t HB.out h
    have HBG : n1 < t → n2 < t → B0 = 0 := fun h h' => by rw [hB0]; exact cry_big a b n1 n2 t HA.out HB.out h h'
    have HDN : Hid (n1 ≤ t → n2 ≤ t → B0 = 0 → a + b < 2 ^ t) := fun h h' hc => plus_done a b n1 n2 t HA.out HB.out h h' (by rw [← hB0]; exact hc)
    have HX : Hid (∀ t, t < n1 → ∃ N, A1 = some ⟨N, 0, none⟩ ∧ wr.cell? ⟨N, t, none⟩ = some (.int .i64 ((bt a t : Nat) : Int)) ∧ N < wr.heap.size) := H1.out.below hb
    have HY : Hid (∀ t, t < n2 → ∃ N, A2 = some ⟨N, 0, none⟩ ∧ wr.cell? ⟨N, t, none⟩ = some (.int .i64 ((bt b t : Nat) : Int)) ∧ N < wr.heap.size) := H2.out.below hb
    rw [← hx, ← hy, ← hD, ← hB0, ← hB1] at hst
    rw [← hx] at x1
    rw [← hy] at x2
    rw [← hD] at x3 HE
    rw [← hB0] at y1 ⊢
    rw [← hB1] at y2
    have HB1 : Hid (B1 = cry a b (t + 1)) := hB1
    have HXe : Hid (x = bt a t) := hx
    have HYe : Hid (y = bt b t) := hy
    clear hx hy hD hB0 hB1
    have htb : t ≤ 1048577 := by omega
    by_cases q1 : t < n1
    · by_cases q2 : t < n2
      · obtain ⟨N1, e1, g1, _⟩ := HX.out t q1
        rw [← HXe.out] at g1
        have q1' : (t : Int) < (n1 : Int) := by omega
        obtain ⟨N2, e2, g2, _⟩ := HY.out t q2
        rw [← HYe.out] at g2
        have q2' : (t : Int) < (n2 : Int) := by omega
        subst e1
        subst e2
        obtain ⟨s1, hs1⟩ : ∃ s1, s1 = B0 + x := ⟨_, rfl⟩
        obtain ⟨s2, hs2⟩ : ∃ s2, s2 = s1 + y := ⟨_, rfl⟩
        have e1 : (B0 : Int) + (x : Int) = (s1 : Int) := by omega
        have e2 : (s1 : Int) + (y : Int) = (s2 : Int) := by omega
        have e3 : (s2 : Int) % 2 = (D : Int) := by omega
        have e4 : (s2 : Int) / 2 = (B1 : Int) := by omega
        have l1 : (s1 : Int) ≤ 3 := by omega
        have l2 : (s2 : Int) ≤ 3 := by omega
        clear HZ1 HZ2 HBG HX HY H1 H2 HDN ht hst x1 x2 x3 y1 y2 hs1 hs2
        go_wp2_with (refine wpList_append_int rfl (.tmp 46) (.tmp 49) rfl wr w w.heap.size _ t D (bts (a + b) t) hO.out rfl rfl (by omega) hb.size hb ?_; intro v7 W7 ho7 hb7; have HO7 : Hid _ := ho7; clear ho7; simp only [Act.put, List.setIfInBounds_toArray, List.set_cons_zero, List.set_cons_succ])
        exact ⟨⟨t + 1, by omega, by go_num, by rw [← HB1.out] <;> rfl, hb7, by rw [HE.out]; exact HO7.out⟩, by simp [intOf]; omega⟩
      · obtain ⟨N1, e1, g1, _⟩ := HX.out t q1
        rw [← HXe.out] at g1
        have q1' : (t : Int) < (n1 : Int) := by omega
        have z2 := HZ2 (by omega)
        have q2' : ¬ (t : Int) < (n2 : Int) := by omega
        subst e1
        subst z2
        obtain ⟨s1, hs1⟩ : ∃ s1, s1 = B0 + x := ⟨_, rfl⟩
        have e1 : (B0 : Int) + (x : Int) = (s1 : Int) := by omega
        have e3 : (s1 : Int) % 2 = (D : Int) := by omega
        have e4 : (s1 : Int) / 2 = (B1 : Int) := by omega
        have l1 : (s1 : Int) ≤ 3 := by omega
        clear HZ1 HZ2 HBG HX HY H1 H2 HDN ht hst x1 x2 x3 y1 y2 hs1
        go_wp2_with (refine wpList_append_int rfl (.tmp 46) (.tmp 49) rfl wr w w.heap.size _ t D (bts (a + b) t) hO.out rfl rfl (by omega) hb.size hb ?_; intro v7 W7 ho7 hb7; have HO7 : Hid _ := ho7; clear ho7; simp only [Act.put, List.setIfInBounds_toArray, List.set_cons_zero, List.set_cons_succ])
        exact ⟨⟨t + 1, by omega, by go_num, by rw [← HB1.out] <;> rfl, hb7, by rw [HE.out]; exact HO7.out⟩, by simp [intOf]; omega⟩
    · by_cases q2 : t < n2
      · have z1 := HZ1 (by omega)
        have q1' : ¬ (t : Int) < (n1 : Int) := by omega
        obtain ⟨N2, e2, g2, _⟩ := HY.out t q2
        rw [← HYe.out] at g2
        have q2' : (t : Int) < (n2 : Int) := by omega
        subst z1
        subst e2
        obtain ⟨s1, hs1⟩ : ∃ s1, s1 = B0 + y := ⟨_, rfl⟩
        have e1 : (B0 : Int) + (y : Int) = (s1 : Int) := by omega
        have e3 : (s1 : Int) % 2 = (D : Int) := by omega
        have e4 : (s1 : Int) / 2 = (B1 : Int) := by omega
        have l1 : (s1 : Int) ≤ 3 := by omega
        clear HZ1 HZ2 HBG HX HY H1 H2 HDN ht hst x1 x2 x3 y1 y2 hs1
        go_wp2_with (refine wpList_append_int rfl (.tmp 46) (.tmp 49) rfl wr w w.heap.size _ t D (bts (a + b) t) hO.out rfl rfl (by omega) hb.size hb ?_; intro v7 W7 ho7 hb7; have HO7 : Hid _ := ho7; clear ho7; simp only [Act.put, List.setIfInBounds_toArray, List.set_cons_zero, List.set_cons_succ])
        exact ⟨⟨t + 1, by omega, by go_num, by rw [← HB1.out] <;> rfl, hb7, by rw [HE.out]; exact HO7.out⟩, by simp [intOf]; omega⟩
      · have z1 := HZ1 (by omega)
        have q1' : ¬ (t : Int) < (n1 : Int) := by omega
        have z2 := HZ2 (by omega)
        have q2' : ¬ (t : Int) < (n2 : Int) := by omega
        subst z1
        subst z2
        by_cases hc : B0 = 0
        · subst hc
          have hlt := HDN.out (by omega) (by omega) rfl
          have HC : Hid (Calls _ _ _ _ _) := cut_dg _ t (a + b) wr (owns_dg hO.out hlt (by omega))
          clear HZ1 HZ2 HBG HX HY H1 H2 HDN ht hst x1 x2 x3 y1 y2 hlt
          go_wp2_with (go_at_call 61; refine HC.out.mono ?_; rintro e w2 ⟨v', rfl, hDg, rfl⟩)
          go_ret
          exact ⟨v', rfl, hDg, hb⟩
        · have hb1 : B0 = 1 := by omega
          subst hb1
          have ht2 : t ≤ n1 ∨ t ≤ n2 := by rcases Nat.lt_or_ge n1 t with u | u <;> rcases Nat.lt_or_ge n2 t with u' | u' <;> first | (exact absurd (HBG u u') (by decide)) | omega
          clear HZ1 HZ2 HBG HX HY H1 H2 HDN ht hc
          obtain ⟨rfl, rfl⟩ : D = 1 ∧ B1 = 0 := by omega
          clear hst x1 x2 x3 y1 y2
          go_wp2_with (refine wpList_append_int rfl (.tmp 46) (.tmp 49) rfl wr w w.heap.size _ t 1 (bts (a + b) t) hO.out rfl rfl (by omega) hb.size hb ?_; intro v7 W7 ho7 hb7; have HO7 : Hid _ := ho7; clear ho7; simp only [Act.put, List.setIfInBounds_toArray, List.set_cons_zero, List.set_cons_succ])
          exact ⟨⟨t + 1, by omega, by go_num, by rw [← HB1.out] <;> rfl, hb7, by rw [HE.out]; exact HO7.out⟩, by simp [intOf]; omega⟩

end Go.Proofs.Ytkbdnebmekhcdaa
