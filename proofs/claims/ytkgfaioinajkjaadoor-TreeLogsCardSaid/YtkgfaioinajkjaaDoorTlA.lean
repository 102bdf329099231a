/-
  TreeLogs: the program's Resume, Add, Root, at whatever they are given.
-/
import Derived.Test.YtkgfaioinajkjaaDoorTurn
import Derived.Test.YtkgfaioinajkjaaDoorMem
import Derived.Test.YtkgfaioinajkjaaDoorTOnM
import Derived.Test.YtkgfaioinajkjaaDoorTFrM
import Derived.Test.YtkgfaioinajkjaaDoorTLog3
import Derived.Test.YtkgfaioinajkjaaDoorTRLog
import Derived.Test.YtkgfaioinajkjaaDoorTLp2
import Derived.Test.YtkgfaioinajkjaaDoorTOwned
import Derived.Test.YtkgfaioinajkjaaDoorTAwk

namespace Go.Proofs.YtkgfaioinajkjaaDoor
open Go Go.RowKit

theorem and127 (n : Nat) : bits .and .i64 (n : Int) 127 = ((n % 128 : Nat) : Int) := by
  have h1 : (BitVec.ofInt 64 127).toNat = 2 ^ 7 - 1 := by decide
  have key : (BitVec.ofInt 64 (n : Int) &&& BitVec.ofInt 64 127).toNat = n % 128 := by
    rw [BitVec.toNat_and, BitVec.toNat_ofInt, h1, Nat.and_two_pow_sub_one_eq_mod]
    omega
  show IntKind.i64.wrap ((BitVec.ofInt 64 (n : Int) &&& BitVec.ofInt 64 127).toNat : Nat) = _
  rw [key, IntKind.wrap_i64]
  omega
theorem wu64 (n : Nat) (h : n < 18446744073709551616) : IntKind.u64.wrap (n : Int) = (n : Int) := by rw [IntKind.wrap_u64]; omega
theorem q1 (m : Nat) (hm : m < 18446744073709551616) (h : sw1 m < 18446744073709551616) : IntKind.u64.wrap (bits BinOp.and IntKind.u64 ((m : Int) / 2) 6148914691236517205 + bits BinOp.and IntKind.u64 (m : Int) 6148914691236517205) = ((sw1 m : Nat) : Int) := by
  have a1 := bits_and_u64_nat (m / 2) 6148914691236517205 (by omega) (by decide)
  have a2 := bits_and_u64_nat m 6148914691236517205 (by omega) (by decide)
  have e1 : (m : Int) / 2 = ((m / 2 : Nat) : Int) := by omega
  rw [e1]
  refine (congrArg IntKind.u64.wrap (?_ : _ = ((sw1 m : Nat) : Int))).trans (wu64 _ h)
  refine (congr (congrArg HAdd.hAdd a1) a2).trans ?_
  unfold sw1
  rw [show rb8 0x55 8 = 6148914691236517205 from rfl]
  omega
theorem q2 (m : Nat) (hm : m < 18446744073709551616) (h : sw2 m < 18446744073709551616) : IntKind.u64.wrap (bits BinOp.and IntKind.u64 ((m : Int) / 4) 3689348814741910323 + bits BinOp.and IntKind.u64 (m : Int) 3689348814741910323) = ((sw2 m : Nat) : Int) := by
  have a1 := bits_and_u64_nat (m / 4) 3689348814741910323 (by omega) (by decide)
  have a2 := bits_and_u64_nat m 3689348814741910323 (by omega) (by decide)
  have e1 : (m : Int) / 4 = ((m / 4 : Nat) : Int) := by omega
  rw [e1]
  refine (congrArg IntKind.u64.wrap (?_ : _ = ((sw2 m : Nat) : Int))).trans (wu64 _ h)
  refine (congr (congrArg HAdd.hAdd a1) a2).trans ?_
  unfold sw2
  rw [show rb8 0x33 8 = 3689348814741910323 from rfl]
  omega
theorem q3 (m : Nat) (hm : m < 9223372036854775808) : bits BinOp.and IntKind.u64 (IntKind.u64.wrap ((m : Int) / 16 + (m : Int))) 1085102592571150095 = ((sw3 m : Nat) : Int) := by
  have e1 : (m : Int) / 16 + (m : Int) = ((m / 16 + m : Nat) : Int) := by omega
  rw [e1, wu64 _ (by omega)]
  exact bits_and_u64_nat (m / 16 + m) 1085102592571150095 (by omega) (by decide)
theorem q4 (m : Nat) (h : sw4 m < 18446744073709551616) : IntKind.u64.wrap ((m : Int) + (m : Int) / 256) = ((sw4 m : Nat) : Int) := by
  have e1 : (m : Int) + (m : Int) / 256 = ((m + m / 256 : Nat) : Int) := by omega
  rw [e1]
  exact wu64 _ h
theorem q5 (m : Nat) (h : sw5 m < 18446744073709551616) : IntKind.u64.wrap ((m : Int) + (m : Int) / 65536) = ((sw5 m : Nat) : Int) := by
  have e1 : (m : Int) + (m : Int) / 65536 = ((m + m / 65536 : Nat) : Int) := by omega
  rw [e1]
  exact wu64 _ h
theorem q6 (m : Nat) (h : sw6 m < 18446744073709551616) : IntKind.u64.wrap ((m : Int) + (m : Int) / 4294967296) = ((sw6 m : Nat) : Int) := by
  have e1 : (m : Int) + (m : Int) / 4294967296 = ((m + m / 4294967296 : Nat) : Int) := by omega
  rw [e1]
  exact wu64 _ h
set_option maxRecDepth 100000 in
set_option maxHeartbeats 1000000 in
theorem ones64_w (m : Nat) (hm : m < 18446744073709551616) (w : World) :
    Calls Tryd.prog 47 #[.int .u64 (m : Int)] w fun e w' => e = .returned (.int .i64 (pops 8 m : Int)) ∧ w' = w := by
  go_enter Tryd.func47, Tryd.ntmps47
  go_wp2
  go_ret
  have s := sw_small m hm
  have p := sw_pops m hm
  refine ⟨congrArg (fun z => Ending.returned (Value.int .i64 z)) (?_ : _ = _), rfl⟩
  clear w
  rw [q1 m hm s.1]
  rw [q2 _ s.1 (by omega)]
  rw [q3 _ s.2.1]
  rw [q4 _ (by omega)]
  rw [q5 _ (by omega)]
  rw [q6 _ (by omega)]
  rw [← p.1]
  refine (congrArg (fun z => bits BinOp.and IntKind.i64 z 127) (?_ : _ = ((sw6 (sw5 (sw4 (sw3 (sw2 (sw1 m))))) : Nat) : Int))).trans (and127 _)
  have h9 := p.2.2.2
  generalize sw6 (sw5 (sw4 (sw3 (sw2 (sw1 m))))) = x at h9
  unfold wrap64
  omega

end Go.Proofs.YtkgfaioinajkjaaDoor

namespace Go.Proofs.YtkgfaioinajkjaaDoor
open Go Go.RowKit

theorem pc_zero : pc 0 = 0 := by rw [pc, dif_pos rfl]
theorem pc_half (m : Nat) : pc m = m % 2 + pc (m / 2) := by
  by_cases h : m = 0
  · subst h; rw [Nat.zero_div, pc_zero]
  · conv => lhs; rw [pc, dif_neg h]
theorem pc_pops (m : Nat) (h : m < 18446744073709551616) : pops 8 m = pc m := pops_of pc pc_zero pc_half 8 m h
theorem pc_le (m : Nat) : pc m ≤ m := by
  induction m using Nat.strongRecOn with
  | ind m ih =>
    by_cases h : m = 0
    · subst h; rw [pc_zero]; exact Nat.le_refl _
    · have := ih (m / 2) (by omega)
      rw [pc_half]; omega
set_option maxRecDepth 100000 in
set_option maxHeartbeats 1000000 in
theorem ones64_all (m : Nat) (hm : m < 18446744073709551616) (w : World) :
    Calls Tryd.prog 33 #[.int .u64 (m : Int)] w fun e w' => e = .returned (.int .i64 (pc m : Int)) ∧ w' = w := by
  have HO : Hid _ := ones64_w m hm w
  rw [pc_pops m hm] at HO
  clear hm
  generalize pc m = k at *
  go_enter Tryd.func33, Tryd.ntmps33
  go_wp2_with (go_at_call 47; refine Calls.mono HO.out ?_; rintro e W ⟨rfl, rfl⟩)
  go_ret
  exact ⟨rfl, rfl⟩
set_option maxRecDepth 100000 in
set_option maxHeartbeats 1000000 in
theorem rones_any (m : Nat) (hm : m < 4611686018427387904) (w : World) :
    Calls Tryd.prog 34 #[.int .i64 (m : Int)] w fun e w' => e = .returned (.int .i64 (pc m : Int)) ∧ w' = w := by
  have HM : Hid (pc m < 4611686018427387904) := Nat.lt_of_le_of_lt (pc_le m) hm
  go_enter Tryd.func34, Tryd.ntmps34
  go_wp2
  go_loopw [0, 3] (fun v u wr => ∃ t k : Nat, t ≤ m ∧ v = .int .i64 (t : Int) ∧ u = .int .i64 (k : Int) ∧ wr = w ∧ Hid (k + pc t = pc m)) (fun v _ _ => (intOf v).toNat)
  case atStart => exact ⟨m, 0, Nat.le_refl _, rfl, rfl, rfl, Nat.zero_add _⟩
  case round =>
    obtain ⟨t, k, ht, rfl, rfl, rfl, hb⟩ := hrel
    by_cases h0 : 0 < t
    · have hp : (0 : Int) < (t : Int) := by omega
      have e1 : (t : Int).tmod 2 = ((t % 2 : Nat) : Int) := by rw [Int.tmod_eq_emod_of_nonneg (by omega)]; omega
      have e2 : (t : Int).tdiv 2 = ((t / 2 : Nat) : Int) := by rw [Int.tdiv_eq_ediv_of_nonneg (by omega)]; omega
      have hk : k ≤ pc m := by have := hb.out; omega
      have hk2 := HM.out
      have hb2 : Hid (k + t % 2 + pc (t / 2) = pc m) := by have h3 := hb.out; rw [pc_half t] at h3; show _ = _; omega
      go_wp2
      exact ⟨⟨t / 2, k + t % 2, by omega, by simp, by simp, trivial, hb2.out⟩, by simp [intOf]; omega⟩
    · have et : t = 0 := by omega
      subst et
      have e : k = pc m := by have := hb.out; rw [pc_zero] at this; omega
      subst e
      clear h0 ht
      go_wp2
      go_ret
      exact ⟨rfl, rfl⟩

end Go.Proofs.YtkgfaioinajkjaaDoor

namespace Go.Proofs.YtkgfaioinajkjaaDoor
open Go Go.RowKit
open Sha

theorem pc_le41 (m : Nat) (h : m ≤ 1099511627776) : pc m ≤ 41 := by
  have key : ∀ (k n : Nat), n < 2 ^ k → pc n ≤ k := by
    intro k
    induction k with
    | zero => intro n hn; obtain rfl : n = 0 := by omega
              rw [pc_zero]; exact Nat.le_refl _
    | succ k ih =>
      intro n hn
      rw [pc_half]
      have := ih (n / 2) (by rw [Nat.pow_succ] at hn; omega)
      omega
  exact key 41 m (by omega)
set_option maxRecDepth 100000 in
set_option maxHeartbeats 1000000 in
/-- Clone, of digests that stand somewhere. -/
theorem dclone_r (n g cap : Nat) (hn : n ≤ 100) (xs : List Value) (hl : xs.length = n * 32) (hx : ∀ u ∈ xs, u.oneCell' = true) (w : World) (hr : w.rangeAt g 0 xs) (hg : g < w.heap.size) :
    Calls Tryd.prog 31 #[.slice (some ⟨g, 0, none⟩) n cap] w fun e w' => ∃ v', e = .returned v' ∧ Ow w' v' n xs ∧ Fresh w.heap.size v' ∧ Below w.heap.size w w' := by
  have hq := dsome_eq ⟨g, 0, none⟩ n cap
  have hB : Below w.heap.size w (w.alloc (Obj.cells #[] 42)) := (Below.refl _ _).alloc (Nat.le_refl _) _
  have HR : Hid ((w.alloc (Obj.cells #[] 42)).rangeAt g 0 xs) := fun j u hj => (hB.cell (p := ⟨g, 0 + j, none⟩) hg).trans (hr j u hj)
  have HL : Hid (xs.length = n * 32) := hl
  have HX : Hid (∀ u ∈ xs, u.oneCell' = true) := hx
  have HK : Hid ((0 + n) * 32 ≤ 140737488355328) := by show _ ≤ _; omega
  have HB : Hid (Below w.heap.size w _) := hB
  clear hr hl hx hB hn hg
  go_enter Tryd.func31, Tryd.ntmps31
  go_wp2_with (refine wpList_appd rfl _ (.tmp 6) rfl 0 (.slice (some ⟨w.heap.size, 0, none⟩) 0 0) [] rfl (ow_empty w) g n cap xs HL.out rfl HR.out HX.out HK.out ?_; intro v' w' q1 q2 q3; rw [Nat.zero_add, List.nil_append] at q1; obtain ⟨Ax, cx, ex, _⟩ := Ow.form q1; subst ex; have Q1 : Hid (Ow _ _ _ _) := q1; have Q2 : Hid _ := q2; have Q3 : Hid _ := q3; clear q1 q2 q3; simp only [Act.put, List.setIfInBounds_toArray, List.set_cons_zero, List.set_cons_succ])
  go_ret
  refine ⟨Value.slice Ax n cx, rfl, Q1.out, fun k e => ?_, HB.out.grown Q2.out (by simp) (fun k hk => by simp [Value.ownBlock] at hk; omega)⟩
  rcases Q3.out with q | q
  · rw [e] at q; simp [Value.ownBlock] at q; omega
  · rw [e] at q; simp at q; omega
set_option maxRecDepth 100000 in
set_option maxHeartbeats 1000000 in
/-- Resume, where it may be. -/
theorem lresume_g (m : Nat) (hm : m ≤ 1099511627776) (A : Option Addr) (n cap : Nat) (F : List (List (BitVec 8))) (hn : n = F.length) (hF : F.length = pc m) (h32 : ∀ d ∈ F, d.length = 32) (w : World)
    (hC : Calls Tryd.prog 31 #[.slice A n cap] w fun e w' => ∃ v', e = .returned v' ∧ Ow w' v' n (vB F.flatten) ∧ Fresh w.heap.size v' ∧ Below w.heap.size w w') :
    Calls Tryd.prog 18 #[.int .i64 (m : Int), .slice A n cap] w fun e w' => ∃ P v', e = .returned (.tuple #[.pointer (some ⟨P, 0, none⟩), .int .i64 0]) ∧ Lg w' P m v' F ∧ w.heap.size ≤ P ∧ Fresh w.heap.size v' ∧ Below w.heap.size w w' := by
  have HO : Hid _ := ones64_all m (by omega) w
  rw [← hF, ← hn] at HO
  have HC : Hid _ := hC
  have H32 : Hid (∀ d ∈ F, d.length = 32) := h32
  have HN : Hid (n = F.length) := hn
  have c1 : ¬ (m : Int) < 0 := by omega
  have c2 : ¬ (1099511627776 : Int) < (m : Int) := by omega
  have hwr : IntKind.u64.wrap (m : Int) = (m : Int) := by rw [IntKind.wrap_u64]; omega
  clear hC hF h32 hn hm
  go_enter Tryd.func18, Tryd.ntmps18
  go_wp2_with (go_at_call 33; refine Calls.mono HO.out ?_; rintro e W ⟨rfl, hqq⟩; obtain rfl := hqq.symm)
  refine Calls.mono HC.out ?_
  rintro e W ⟨v', rfl, h1, h2, h3⟩
  obtain ⟨Ax, cx, ex, _⟩ := Ow.form h1
  subst ex
  have H1 : Hid (Ow _ _ _ _) := h1
  have H2 : Hid (Fresh _ _) := h2
  have H3 : Hid (Below w.heap.size w W) := h3
  clear h1 h2 h3 HC
  go_wp2_with fail
  go_ret2
  have b : Below W.heap.size W (W.alloc (Obj.cells #[.int .i64 (m : Int), .slice Ax n cx] tL)) := (Below.refl _ _).alloc (Nat.le_refl _) _
  exact ⟨W.heap.size, .slice Ax n cx, rfl, ⟨Row.new' rfl rfl, by rw [← HN.out]; exact H1.out.be b, H32.out⟩, H3.out.size, H2.out, H3.out.trans (b.mono H3.out.size)⟩
set_option maxRecDepth 100000 in
set_option maxHeartbeats 1000000 in
theorem lresume_size (z : Int) (hz : z < 0 ∨ 1099511627776 < z) (A : Option Addr) (n cap : Nat) (w : World) :
    Calls Tryd.prog 18 #[.int .i64 z, .slice A n cap] w fun e w' => e = .returned (.tuple #[.pointer none, .int .i64 40]) ∧ w' = w := by
  rcases hz with hz | hz
  · go_enter Tryd.func18, Tryd.ntmps18
    go_wp2
    go_ret2
    exact ⟨rfl, rfl⟩
  · have h0 : ¬ z < 0 := by omega
    go_enter Tryd.func18, Tryd.ntmps18
    go_wp2
    go_ret2
    exact ⟨rfl, rfl⟩
set_option maxRecDepth 100000 in
set_option maxHeartbeats 1000000 in
theorem lresume_front (m : Nat) (hm : m ≤ 1099511627776) (A : Option Addr) (n cap : Nat) (hn : n ≠ pc m) (w : World) :
    Calls Tryd.prog 18 #[.int .i64 (m : Int), .slice A n cap] w fun e w' => e = .returned (.tuple #[.pointer none, .int .i64 42]) ∧ w' = w := by
  have HO : Hid _ := ones64_all m (by omega) w
  have hne : ¬ ((n : Int) = ((pc m : Nat) : Int)) := by omega
  generalize pc m = k at *
  have c1 : ¬ (m : Int) < 0 := by omega
  have c2 : ¬ (1099511627776 : Int) < (m : Int) := by omega
  have hwr : IntKind.u64.wrap (m : Int) = (m : Int) := by rw [IntKind.wrap_u64]; omega
  clear hm hn
  go_enter Tryd.func18, Tryd.ntmps18
  go_wp2_with (go_at_call 33; refine Calls.mono HO.out ?_; rintro e W ⟨rfl, hqq⟩; obtain rfl := hqq.symm)
  go_ret2
  exact ⟨rfl, rfl⟩
set_option maxRecDepth 100000 in
set_option maxHeartbeats 1000000 in
theorem ladd_end (P m : Nat) (v : Value) (lv : Value) (hm : 1099511627776 ≤ m) (w : World) (h : Row w P [.int .i64 (m : Int), v] tL) :
    Calls Tryd.prog 8 #[.pointer (some ⟨P, 0, none⟩), lv] w fun e w' => e = .returned (.int .i64 (-1)) ∧ w' = w := by
  have g0 := h.cell 0 _ rfl
  have c1 : (1099511627776 : Int) ≤ (m : Int) := by omega
  clear h hm
  go_enter Tryd.func8, Tryd.ntmps8
  go_wp2
  go_ret
  exact ⟨rfl, rfl⟩

end Go.Proofs.YtkgfaioinajkjaaDoor
