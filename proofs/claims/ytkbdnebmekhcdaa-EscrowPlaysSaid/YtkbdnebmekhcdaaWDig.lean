/-
  The document's binary digits: causewayref02's cut, digits, compare.
-/
import Derived.Test.YtkbdnebmekhcdaaWEq
import Derived.Test.YtkbdnebmekhcdaaWDivU
import Derived.Test.YtkbdnebmekhcdaaWOM
import Derived.Laws.MakeOwn
import Derived.Laws.OwnMore
import Derived.BigQuiet
namespace Go.Proofs.Ytkbdnebmekhcdaa
open Go Go.RowKit
open Wd

theorem i64_and1 (n : Int) : bits .and .i64 n 1 = n % 2 := by
  have h1 : (BitVec.ofInt 64 1).toNat = 2 ^ 1 - 1 := by decide
  have key : (BitVec.ofInt 64 n &&& BitVec.ofInt 64 1).toNat = (n % ((2 ^ 64 : Nat) : Int)).toNat % 2 ^ 1 := by
    rw [BitVec.toNat_and, BitVec.toNat_ofInt, h1, Nat.and_two_pow_sub_one_eq_mod]
  show IntKind.i64.wrap ((BitVec.ofInt 64 n &&& BitVec.ofInt 64 1).toNat : Nat) = n % 2
  rw [key, IntKind.wrap_i64]
  omega
theorem wrap_mod2 (y : Nat) : IntKind.i64.wrap (y : Int) % 2 = ((y % 2 : Nat) : Int) := by
  rw [IntKind.wrap_i64]
  omega
theorem info_all_int : (Try.prog.info? 3).map (fun i => (i.zero, i.size, i.bytes)) = some (some (.int .i64 0), 1, 8) := by kernel_rfl
theorem made_ints (n : Nat) : madeCells (Value.int IntKind.i64 0).cells (n * 1) = (vI (List.replicate n 0)).toArray := by
  apply Array.ext'
  rw [show (Value.int IntKind.i64 0).cells = #[Value.int IntKind.i64 0] from rfl, toList_madeCells_one]
  simp [vI]
section
variable {P : Program} {ops : Array Oper} {rest : List Oper} {op : Oper} {a : Act} {w : World} {Q : Exit → Act → World → Prop}
/-- make of n numbers. -/
theorem wpList_make_i (hgd : op.guard = none) (t : TypeId) (x y : Operand) (ho : op.op = .makeSlice t x y) (e : TypeId) (n : Nat) (l l' : Int) (hl : l = (n : Int)) (hl' : l' = (n : Int)) (hx : a.eval x = .int .i64 l) (hy : a.eval y = .int .i64 l') (hn : n ≤ 35184372088832)
    (hu : P.underlying t = some (.slice e)) (hi : (P.info? e).map (fun i => (i.zero, i.size, i.bytes)) = some (some (.int .i64 0), 1, 8))
    (h : wpList P ops Q rest (a.put op.dst (.slice (some ⟨w.heap.size, 0, none⟩) n n)) (w.alloc (.cells (vI (List.replicate n 0)).toArray e))) : wpList P ops Q (op :: rest) a w :=
  wpList_plain hgd fun _ hK => by
    subst hl; subst hl'
    obtain ⟨i, hi0, hz, hs, hb⟩ := info_parts hi
    have hr := run_make (P := P) w t e i (.int .i64 0) hu hi0 hz .i64 .i64 (n : Int) (n : Int) (by omega) (by omega) (by rw [hb]; omega) (by omega)
    rw [hs, Int.toNat_natCast, made_ints] at hr
    unfold Oper.wp execOp
    simp only [ho, hx, hy, Sem.run_bind, hr, Result.andThen_ok, Sem.run_pure, Oper.upon_value]
    exact hK _ _ h
end

set_option maxRecDepth 100000 in
set_option maxHeartbeats 1000000 in
theorem cut_any (a N n c : Nat) (hn : blen a ≤ n) (hc : n ≤ c) (hc2 : c < 4611686018427387904) (w : World) (r : Row w N (vI (bts a n)) 3) :
    Calls Try.prog 61 #[.slice (some ⟨N, 0, none⟩) n c] w fun e w' => e = .returned (.slice (some ⟨N, 0, none⟩) (blen a) c) ∧ w' = w := by
  go_enter Try.func61, Try.ntmps61
  go_wp2
  go_loopw [3] (fun v wr => ∃ t : Nat, t ≤ n ∧ v = .int .i64 (t : Int) ∧ wr = w ∧ Hid (blen a ≤ t)) (fun v _ => (intOf v).toNat)
  case atStart => exact ⟨n, Nat.le_refl _, rfl, rfl, hn⟩
  case round =>
    obtain ⟨t, ht, rfl, rfl, hb⟩ := hrel
    by_cases h0 : 0 < t
    · obtain ⟨k, rfl⟩ : ∃ k, t = k + 1 := ⟨t - 1, by omega⟩
      have ei : (((k + 1 : Nat) : Int) - 1) = (k : Int) := by omega
      have hp : (0 : Int) < ((k + 1 : Nat) : Int) := by omega
      have g := r.cell k _ (vI_get _ k (by rw [bts_length]; omega))
      rw [bts_getD _ _ _ (by omega)] at g
      have hkn : k < n := by omega
      by_cases hz : bt a k = 0
      · rw [hz] at g
        have HB : Hid (blen a ≤ k) := by
          rcases Nat.lt_or_ge (blen a) (k + 1) with h | h
          · show blen a ≤ k; omega
          · exfalso
            have := bt_top a k (by have := hb.out; omega)
            omega
        clear hz h0 ht
        go_wp2
        exact ⟨⟨k, by omega, rfl, trivial, HB.out⟩, by simp [intOf]⟩
      · have h1 : bt a k = 1 := by have := bt_lt a k; omega
        rw [h1] at g
        have HB : Hid (blen a = k + 1) := by
          show blen a = k + 1
          rcases Nat.lt_or_ge (blen a) (k + 1) with h | h
          · exact absurd (bt_zero a k (by omega)) hz
          · have := hb.out; omega
        clear hz h0 h1 ht
        go_wp2
        go_ret
        exact ⟨by rw [HB.out]; rfl, rfl⟩
    · have et : t = 0 := by omega
      subst et
      clear h0 ht
      have HB : Hid (blen a = 0) := by have := hb.out; show blen a = 0; omega
      go_wp2
      go_ret
      exact ⟨by rw [HB.out]; rfl, rfl⟩

theorem drewN_add' (w : World) (m k : Nat) : (w.drewN m).drewN k = w.drewN (m + k) := by simp [World.drewN, Nat.add_assoc]
theorem fillB (a t : Nat) (h : t < 256) : (bts a t ++ List.replicate (256 - t) 0).set t (bt a t) = bts a (t + 1) ++ List.replicate (256 - (t + 1)) 0 := by
  rw [bts_succ, fill _ t 256 _ (bts_length _ _) h]

set_option maxRecDepth 100000 in
set_option maxHeartbeats 1000000 in
theorem digits_any (a : Nat) (ha : a < 2 ^ 256) (w : World) :
    Calls Try.prog 45 #[.agg (vQ (dgs a 4)).toArray] w fun e w' => ∃ N, w.heap.size ≤ N ∧ Row w' N (vI (bts a 256)) 3 ∧ e = .returned (.slice (some ⟨N, 0, none⟩) (blen a) 256) ∧ Below w.heap.size w w' := by
  have HL : Hid (blen a ≤ 256) := blen_le a 256 ha
  clear ha
  go_enter Try.func45, Try.ntmps45
  go_wp2_with (refine wpList_make_i rfl 48 (.const (.int .i64 256)) (.const (.int .i64 256)) rfl 3 256 _ _ rfl rfl rfl rfl (by decide) Try.underlying48 info_all_int ?_; simp only [Act.put, List.setIfInBounds_toArray, List.set_cons_zero, List.set_cons_succ])
  go_loopw [4] (fun v wr => ∃ t : Nat, t ≤ 256 ∧ v = .int .i64 (t : Int) ∧ Below w.heap.size w wr ∧ Row wr w.heap.size (vQ (dgs a 4)) 33 ∧ Row wr (w.heap.size + 1) (vI (bts a t ++ List.replicate (256 - t) 0)) 3) (fun v _ => 256 - (intOf v).toNat)
  case atStart =>
    refine ⟨0, by omega, rfl, ((Below.refl _ _).alloc (Nat.le_refl _) _).alloc (by simp) _, ?_, ?_⟩
    · exact (Row.new' rfl rfl).alloc _
    · rw [show bts a 0 = [] from rfl, List.nil_append, Nat.sub_zero]
      exact Row.new' (by simp) rfl
  case round =>
    obtain ⟨t, ht, rfl, hb, h1, h3⟩ := hrel
    by_cases hlt : t < 256
    · have hq : t / 64 < 4 := by omega
      have hr : t % 64 < 64 := Nat.mod_lt _ (by decide)
      have g1 := h1.cell (t / 64) _ (vQ_get _ (t / 64) (by rw [dgs_length]; exact hq))
      rw [dgs_getD _ _ _ hq] at g1
      have g3 := h3.cell t _ (vI_get _ t (by rw [List.length_append, bts_length, List.length_replicate]; omega))
      have gf := h3.thaw t
      have hbt := bt_lim a t
      have hx := lim_lt a (t / 64)
      have e1 : (t : Int) / 64 = ((t / 64 : Nat) : Int) := by omega
      have e2 : (t : Int) % 64 = ((t % 64 : Nat) : Int) := by omega
      generalize (bts a t ++ List.replicate (256 - t) 0).getD t 0 = z at g3
      generalize lim a (t / 64) = x at *
      obtain ⟨q, hqe⟩ : ∃ q, q = t / 64 := ⟨_, rfl⟩
      obtain ⟨r, hre⟩ : ∃ r, r = t % 64 := ⟨_, rfl⟩
      rw [← hqe] at g1 e1 hq
      rw [← hre] at e2 hr hbt
      have eK : (x : Int) / 2 ^ r = ((x / 2 ^ r : Nat) : Int) := by simp
      obtain ⟨y, hy⟩ : ∃ y, y = x / 2 ^ r := ⟨_, rfl⟩
      rw [← hy] at eK hbt
      obtain ⟨z2, hz2⟩ : ∃ z2 : Int, z2 = IntKind.i64.wrap (y : Int) := ⟨_, rfl⟩
      have eA : bits .and .i64 z2 1 = ((bt a t : Nat) : Int) := by
        rw [i64_and1, hz2, wrap_mod2, ← hbt]
      have eW : IntKind.i64.wrap (y : Int) = z2 := hz2.symm
      clear hqe hre hy hz2 hbt hx ht
      go_wp2
      refine ⟨⟨t + 1, hlt, by go_num, Below.setCell hb (by simp) _, h1.set_other _ _ _ (by omega), ?_⟩, by simp [intOf]; omega⟩
      have := h3.set t (.int .i64 ((bt a t : Nat) : Int))
      rw [vI_set, fillB a t hlt] at this
      exact this
    · have et : t = 256 := by omega
      have e4 : (t : Int) = 256 := by omega
      rw [et] at h3
      rw [e4]
      have h3' : Row wr (w.heap.size + 1) (vI (bts a 256)) 3 := by simpa using h3
      have HC : Hid (Calls _ _ _ _ _) := cut_any a (w.heap.size + 1) 256 256 HL.out (Nat.le_refl _) (by decide) wr h3'
      clear et e4 ht hlt h3
      go_wp2_with (go_at_call 61; refine HC.out.mono ?_; rintro e w2 ⟨rfl, rfl⟩)
      go_ret
      exact ⟨w.heap.size + 1, by omega, h3', rfl, hb⟩

set_option maxRecDepth 100000 in
set_option maxHeartbeats 2000000 in
theorem compare_any (a b N M m1 m2 c1 c2 : Nat) (h1 : blen a ≤ m1) (h2 : blen b ≤ m2) (hm : m1 < 4611686018427387904) (w : World) (r1 : Row w N (vI (bts a m1)) 3) (r2 : Row w M (vI (bts b m2)) 3) :
    Calls Try.prog 54 #[.slice (some ⟨N, 0, none⟩) (blen a) c1, .slice (some ⟨M, 0, none⟩) (blen b) c2] w fun e w' => e = .returned (.int .i64 (cmpR a b)) ∧ ∃ k, w' = w.drewN k := by
  obtain ⟨n1, hn1⟩ : ∃ n, n = blen a := ⟨_, rfl⟩
  obtain ⟨n2, hn2⟩ : ∃ n, n = blen b := ⟨_, rfl⟩
  have H1 : Hid (n1 = blen a) := hn1
  have H2 : Hid (n2 = blen b) := hn2
  rw [← hn1] at h1 ⊢
  rw [← hn2] at h2 ⊢
  clear hn1 hn2
  by_cases hne : n1 = n2
  · subst hne
    go_enter Try.func54, Try.ntmps54
    go_wp2
    go_loopw [5] (fun v wr => ∃ t k : Nat, t ≤ n1 ∧ v = .int .i64 ((t : Int) - 1) ∧ Hid (wr = w.drewN k) ∧ Hid (a / 2 ^ t = b / 2 ^ t)) (fun v _ => (intOf v + 1).toNat)
    case atStart =>
      refine ⟨n1, 0, Nat.le_refl _, rfl, (World.drewN_zero w).symm, ?_⟩
      show a / 2 ^ n1 = b / 2 ^ n1
      rw [Nat.div_eq_of_lt (by rw [H1.out]; exact blen_lt a), Nat.div_eq_of_lt (by rw [H2.out]; exact blen_lt b)]
    case round =>
      obtain ⟨t, k, ht, rfl, hw, hI⟩ := hrel
      have s1 : Row wr N (vI (bts a m1)) 3 := by rw [hw.out]; exact r1.drewN k
      have s2 : Row wr M (vI (bts b m2)) 3 := by rw [hw.out]; exact r2.drewN k
      by_cases h0 : 0 < t
      · obtain ⟨i, rfl⟩ : ∃ i, t = i + 1 := ⟨t - 1, by omega⟩
        have ei : (((i + 1 : Nat) : Int) - 1) = (i : Int) := by omega
        rw [ei]
        have g1 := s1.cell i _ (vI_get _ i (by rw [bts_length]; omega))
        have g2 := s2.cell i _ (vI_get _ i (by rw [bts_length]; omega))
        rw [bts_getD _ _ _ (by omega)] at g1 g2
        have HLT : Hid (bt a i < bt b i → cmpR a b = -1) := fun h => by
          have := bit_lt a b i hI.out h
          exact (if_neg (by omega)).trans (if_pos this)
        have HGT : Hid (bt b i < bt a i → cmpR a b = 1) := fun h => by
          have := bit_lt b a i hI.out.symm h
          exact (if_neg (by omega)).trans (if_neg (by omega))
        have HEQ : Hid (bt a i = bt b i → a / 2 ^ i = b / 2 ^ i) := fun h => bit_eq a b i hI.out h
        generalize bt a i = x at *
        generalize bt b i = y at *
        have hin : i < n1 := by omega
        clear ei ht h0 hI
        rcases Nat.lt_trichotomy x y with h | h | h
        · have hd : (x : Int) < (y : Int) := by omega
          have HR : Hid (cmpR a b = -1) := HLT.out h
          clear h
          go_wp2
          go_quiet (fail)
          go_wp2
          go_ret
          exact ⟨by rw [HR.out]; rfl, _, by rw [hw.out]; exact drewN_add' _ _ _⟩
        · subst h
          have HR : Hid (a / 2 ^ i = b / 2 ^ i) := HEQ.out rfl
          go_wp2
          go_quiet (fail)
          go_wp2
          go_quiet (fail)
          go_wp2
          exact ⟨⟨i, _, by omega, rfl, (congrArg (fun x => World.drewN x _) hw.out).trans (drewN_add' _ _ _), HR.out⟩, by simp [intOf]⟩
        · have hd : (y : Int) < (x : Int) := by omega
          have HR : Hid (cmpR a b = 1) := HGT.out h
          clear h
          go_wp2
          go_quiet (fail)
          go_wp2
          go_quiet (fail)
          go_wp2
          go_ret
          exact ⟨by rw [HR.out]; rfl, _, by rw [hw.out]; exact (congrArg (fun x => World.drewN x _) (drewN_add' _ _ _)).trans (drewN_add' _ _ _)⟩
      · have et : t = 0 := by omega
        subst et
        have HR : Hid (cmpR a b = 0) := if_pos (by have := hI.out; simpa using this)
        clear h0 ht hI
        go_wp2
        go_ret
        exact ⟨by rw [HR.out]; rfl, k, hw.out⟩
  · have hne' : ¬ (n1 : Int) = (n2 : Int) := by omega
    rcases Nat.lt_or_gt_of_ne hne with h | h
    · have hd : (n1 : Int) < (n2 : Int) := by omega
      have HR : Hid (cmpR a b = -1) := by
        have := len_lt a b (by rw [← H1.out, ← H2.out]; exact h)
        exact (if_neg (by omega)).trans (if_pos this)
      clear h hne
      go_enter Try.func54, Try.ntmps54
      go_wp2
      go_ret
      exact ⟨by rw [HR.out]; rfl, 0, by rw [World.drewN_zero]⟩
    · have hd : (n2 : Int) < (n1 : Int) := by omega
      have hd' : ¬ (n1 : Int) < (n2 : Int) := by omega
      have HR : Hid (cmpR a b = 1) := by
        have := len_lt b a (by rw [← H1.out, ← H2.out]; exact h)
        exact (if_neg (by omega)).trans (if_neg (by omega))
      clear h hne
      go_enter Try.func54, Try.ntmps54
      go_wp2
      go_ret
      exact ⟨by rw [HR.out]; rfl, 0, by rw [World.drewN_zero]⟩

end Go.Proofs.Ytkbdnebmekhcdaa
