/-
  TreeLogs: the program's Resume, Add, Root, at whatever they are given.
-/
import Derived.Test.YtkgfaioinajkjaaDoorTlBase
namespace Go.Proofs.YtkgfaioinajkjaaDoor
open Go Go.RowKit
open Sha

theorem pc_le41 (m : Nat) (h : m ≤ 1099511627776) : pc m ≤ 41 := by
  have key : ∀ (k n : Nat), n < 2 ^ k → pc n ≤ k := by
    intro k
    induction k with
    | zero => intro n hn; obtain rfl : n = 0 := by omega
              rw [pc_zero]; exact Nat.le_refl _
    | succ k ih =>
      intro n hn
      rw [pc_half]
      have := ih (n / 2) (by rw [Nat.pow_succ] at hn; omega)
      omega
  exact key 41 m (by omega)
set_option maxRecDepth 100000 in
set_option maxHeartbeats 1000000 in
/-- Clone, of digests that stand somewhere. -/
theorem dclone_r (n g cap : Nat) (hn : n ≤ 100) (xs : List Value) (hl : xs.length = n * 32) (hx : ∀ u ∈ xs, u.oneCell' = true) (w : World) (hr : w.rangeAt g 0 xs) (hg : g < w.heap.size) :
    Calls Tryd.prog 31 #[.slice (some ⟨g, 0, none⟩) n cap] w fun e w' => ∃ v', e = .returned v' ∧ Ow w' v' n xs ∧ Fresh w.heap.size v' ∧ Below w.heap.size w w' := by
  have hq := dsome_eq ⟨g, 0, none⟩ n cap
  have hB : Below w.heap.size w (w.alloc (Obj.cells #[] 42)) := (Below.refl _ _).alloc (Nat.le_refl _) _
  have HR : Hid ((w.alloc (Obj.cells #[] 42)).rangeAt g 0 xs) := fun j u hj => (hB.cell (p := ⟨g, 0 + j, none⟩) hg).trans (hr j u hj)
  have HL : Hid (xs.length = n * 32) := hl
  have HX : Hid (∀ u ∈ xs, u.oneCell' = true) := hx
  have HK : Hid ((0 + n) * 32 ≤ 140737488355328) := by show _ ≤ _; omega
  have HB : Hid (Below w.heap.size w _) := hB
  clear hr hl hx hB hn hg
  go_enter Tryd.func31, Tryd.ntmps31
  go_wp2_with (refine wpList_appd rfl _ (.tmp 6) rfl 0 (.slice (some ⟨w.heap.size, 0, none⟩) 0 0) [] rfl (ow_empty w) g n cap xs HL.out rfl HR.out HX.out HK.out ?_; intro v' w' q1 q2 q3; rw [Nat.zero_add, List.nil_append] at q1; obtain ⟨Ax, cx, ex, _⟩ := Ow.form q1; subst ex; have Q1 : Hid (Ow _ _ _ _) := q1; have Q2 : Hid _ := q2; have Q3 : Hid _ := q3; clear q1 q2 q3; simp only [Act.put, List.setIfInBounds_toArray, List.set_cons_zero, List.set_cons_succ])
  go_ret
  refine ⟨Value.slice Ax n cx, rfl, Q1.out, fun k e => ?_, HB.out.grown Q2.out (by simp) (fun k hk => by simp [Value.ownBlock] at hk; omega)⟩
  rcases Q3.out with q | q
  · rw [e] at q; simp [Value.ownBlock] at q; omega
  · rw [e] at q; simp at q; omega
set_option maxRecDepth 100000 in
set_option maxHeartbeats 1000000 in
/-- Resume, where it may be. -/
theorem lresume_g (m : Nat) (hm : m ≤ 1099511627776) (A : Option Addr) (n cap : Nat) (F : List (List (BitVec 8))) (hn : n = F.length) (hF : F.length = pc m) (h32 : ∀ d ∈ F, d.length = 32) (w : World)
    (hC : Calls Tryd.prog 31 #[.slice A n cap] w fun e w' => ∃ v', e = .returned v' ∧ Ow w' v' n (vB F.flatten) ∧ Fresh w.heap.size v' ∧ Below w.heap.size w w') :
    Calls Tryd.prog 18 #[.int .i64 (m : Int), .slice A n cap] w fun e w' => ∃ P v', e = .returned (.tuple #[.pointer (some ⟨P, 0, none⟩), .int .i64 0]) ∧ Lg w' P m v' F ∧ w.heap.size ≤ P ∧ Fresh w.heap.size v' ∧ Below w.heap.size w w' := by
  have HO : Hid _ := ones64_all m (by omega) w
  rw [← hF, ← hn] at HO
  have HC : Hid _ := hC
  have H32 : Hid (∀ d ∈ F, d.length = 32) := h32
  have HN : Hid (n = F.length) := hn
  have c1 : ¬ (m : Int) < 0 := by omega
  have c2 : ¬ (1099511627776 : Int) < (m : Int) := by omega
  have hwr : IntKind.u64.wrap (m : Int) = (m : Int) := by rw [IntKind.wrap_u64]; omega
  clear hC hF h32 hn hm
  go_enter Tryd.func18, Tryd.ntmps18
  go_wp2_with (go_at_call 33; refine Calls.mono HO.out ?_; rintro e W ⟨rfl, hqq⟩; obtain rfl := hqq.symm)
  refine Calls.mono HC.out ?_
  rintro e W ⟨v', rfl, h1, h2, h3⟩
  obtain ⟨Ax, cx, ex, _⟩ := Ow.form h1
  subst ex
  have H1 : Hid (Ow _ _ _ _) := h1
  have H2 : Hid (Fresh _ _) := h2
  have H3 : Hid (Below w.heap.size w W) := h3
  clear h1 h2 h3 HC
  go_wp2_with fail
  go_ret2
  have b : Below W.heap.size W (W.alloc (Obj.cells #[.int .i64 (m : Int), .slice Ax n cx] tL)) := (Below.refl _ _).alloc (Nat.le_refl _) _
  exact ⟨W.heap.size, .slice Ax n cx, rfl, ⟨Row.new' rfl rfl, by rw [← HN.out]; exact H1.out.be b, H32.out⟩, H3.out.size, H2.out, H3.out.trans (b.mono H3.out.size)⟩
set_option maxRecDepth 100000 in
set_option maxHeartbeats 1000000 in
theorem lresume_size (z : Int) (hz : z < 0 ∨ 1099511627776 < z) (A : Option Addr) (n cap : Nat) (w : World) :
    Calls Tryd.prog 18 #[.int .i64 z, .slice A n cap] w fun e w' => e = .returned (.tuple #[.pointer none, .int .i64 40]) ∧ w' = w := by
  rcases hz with hz | hz
  · go_enter Tryd.func18, Tryd.ntmps18
    go_wp2
    go_ret2
    exact ⟨rfl, rfl⟩
  · have h0 : ¬ z < 0 := by omega
    go_enter Tryd.func18, Tryd.ntmps18
    go_wp2
    go_ret2
    exact ⟨rfl, rfl⟩
set_option maxRecDepth 100000 in
set_option maxHeartbeats 1000000 in
theorem lresume_front (m : Nat) (hm : m ≤ 1099511627776) (A : Option Addr) (n cap : Nat) (hn : n ≠ pc m) (w : World) :
    Calls Tryd.prog 18 #[.int .i64 (m : Int), .slice A n cap] w fun e w' => e = .returned (.tuple #[.pointer none, .int .i64 42]) ∧ w' = w := by
  have HO : Hid _ := ones64_all m (by omega) w
  have hne : ¬ ((n : Int) = ((pc m : Nat) : Int)) := by omega
  generalize pc m = k at *
  have c1 : ¬ (m : Int) < 0 := by omega
  have c2 : ¬ (1099511627776 : Int) < (m : Int) := by omega
  have hwr : IntKind.u64.wrap (m : Int) = (m : Int) := by rw [IntKind.wrap_u64]; omega
  clear hm hn
  go_enter Tryd.func18, Tryd.ntmps18
  go_wp2_with (go_at_call 33; refine Calls.mono HO.out ?_; rintro e W ⟨rfl, hqq⟩; obtain rfl := hqq.symm)
  go_ret2
  exact ⟨rfl, rfl⟩
set_option maxRecDepth 100000 in
set_option maxHeartbeats 1000000 in
theorem ladd_end (P m : Nat) (v : Value) (lv : Value) (hm : 1099511627776 ≤ m) (w : World) (h : Row w P [.int .i64 (m : Int), v] tL) :
    Calls Tryd.prog 8 #[.pointer (some ⟨P, 0, none⟩), lv] w fun e w' => e = .returned (.int .i64 (-1)) ∧ w' = w := by
  have g0 := h.cell 0 _ rfl
  have c1 : (1099511627776 : Int) ≤ (m : Int) := by omega
  clear h hm
  go_enter Tryd.func8, Tryd.ntmps8
  go_wp2
  go_ret
  exact ⟨rfl, rfl⟩

end Go.Proofs.YtkgfaioinajkjaaDoor
