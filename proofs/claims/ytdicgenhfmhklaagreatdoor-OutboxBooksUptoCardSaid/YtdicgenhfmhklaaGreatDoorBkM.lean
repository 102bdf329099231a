/-
  OutboxBooks: a book beside the document's, and the law's book of paths.
-/
import Derived.Test.YtdicgenhfmhklaaGreatDoorBkI

namespace Go.Proofs.YtdicgenhfmhklaaGreatDoor
open Go Go.RowKit
open Sha

theorem lw_apart {w : World} {e e' : TypeId} {s s' n n' : Nat} {v v' : Value} {xs xs' : List Value} (h : Lw w e s v n xs) (k : Lw w e' s' v' n' xs') (he : e ≠ e') : ∀ g, v.ownBlock = some g → v'.ownBlock ≠ some g := fun g e1 e2 => by
  rcases h.2 with ⟨h1, _⟩ | ⟨g1, cap, cur, hv, _, hh, _⟩
  · rw [h1] at e1; cases e1
  · rw [hv] at e1
    obtain rfl : g1 = g := by simpa [Value.ownBlock] using e1
    rcases k.2 with ⟨k1, _⟩ | ⟨g2, cap2, cur2, kv, _, kh, _⟩
    · rw [k1] at e2; cases e2
    · rw [kv] at e2
      obtain rfl : g2 = g1 := by simpa [Value.ownBlock] using e2
      have := hh.symm.trans kh
      simp only [Option.some.injEq, Obj.cells.injEq] at this
      exact he this.2.1
theorem Lw.cut11 {w : World} {e : TypeId} {s n c k : Nat} {A : Option Addr} {xs : List Value} (h : Lw w e s (.slice A n c) n xs) (hk : k ≤ n) : Lw w e s (.slice A k c) k (xs.take (k * s)) := by
  obtain ⟨h1, h2⟩ := h
  refine ⟨by rw [List.length_take, h1]; exact Nat.min_eq_left (Nat.mul_le_mul_right _ hk), ?_⟩
  rcases h2 with ⟨h2, h3⟩ | ⟨g, cap, cur, hv, hb, hg, hc, hm, hs, ht⟩
  · simp only [Value.slice.injEq] at h2
    obtain ⟨rfl, _, rfl⟩ := h2
    obtain rfl : k = 0 := by omega
    exact .inl ⟨rfl, rfl⟩
  · simp only [Value.slice.injEq, true_and] at hv
    obtain ⟨rfl, rfl⟩ := hv
    exact .inr ⟨g, c, cur, rfl, hb, hg, by omega, hm, hs, by rw [← ht, List.take_take, Nat.min_eq_left (Nat.mul_le_mul_right _ hk)]⟩
theorem lcs_take {ls : List Lv11} (h : ∀ l ∈ ls, l.Ok) (k : Nat) : lcs (ls.take k) = (lcs ls).take (k * 27) := by
  induction ls generalizing k with
  | nil => simp [lcs]
  | cons x ls ih =>
    cases k with
    | zero => simp [lcs]
    | succ k =>
      have hx := Lv11.len (h x (List.mem_cons_self ..))
      rw [List.take_succ_cons, show lcs (x :: ls) = x.cells ++ lcs ls from rfl, show lcs (x :: ls.take k) = x.cells ++ lcs (ls.take k) from rfl, ih (fun y hy => h y (List.mem_cons_of_mem _ hy)), List.take_append, hx, List.take_of_length_le (l := x.cells) (by omega), show (k + 1) * 27 - 27 = k * 27 by omega]
/-- The document's book: leaves that may be. -/
structure Dk (w : World) (A : Option Addr) (n c : Nat) (ls : List Lv11) : Prop where
  len : ls.length = n
  own : Lw w 40 27 (.slice A n c) n (lcs ls)
  ok : ∀ l ∈ ls, l.Ok
  may : ∀ l ∈ ls, l.may = true
section
variable {w w' : World} {A : Option Addr} {n c : Nat} {ls : List Lv11}
theorem Dk.be (h : Dk w A n c ls) (k : Below w.heap.size w w') : Dk w' A n c ls := ⟨h.len, Lw.be h.own k, h.ok, h.may⟩
theorem Dk.gro {R : Nat → Prop} (h : Dk w A n c ls) (k : Gro R w w') (hR : ∀ g, (Value.slice A n c).ownBlock = some g → ¬ R g) : Dk w' A n c ls := ⟨h.len, Lw.gro h.own k hR, h.ok, h.may⟩
theorem Dk.cap (h : Dk w A n c ls) : n ≤ c := by
  obtain ⟨A', c', e, q, _⟩ := Lw.form h.own
  simp only [Value.slice.injEq, true_and] at e
  obtain ⟨_, rfl⟩ := e
  exact q
theorem Dk.lfa (h : Dk w A n c ls) : LfA w A ls := LfA.of h.own h.len h.ok
theorem Dk.cut (h : Dk w A n c ls) {k : Nat} (hk : k ≤ n) : Dk w A k c (ls.take k) := by
  refine ⟨by rw [List.length_take, h.len]; omega, ?_, fun l hl => h.ok l (List.mem_of_mem_take hl), fun l hl => h.may l (List.mem_of_mem_take hl)⟩
  rw [lcs_take h.ok]
  exact Lw.cut11 h.own hk
theorem Dk.nil (w : World) : Dk w none 0 0 [] := ⟨rfl, Lw.nil _ _ _, (fun _ h => by cases h), (fun _ h => by cases h)⟩
end
/-- The program's book and the document's: leaves that are put. -/
theorem put_both (ls : List Lv11) (hls : ls.length ≤ 999999) (l : Lv11) (hl : l.Ok) (L : List Value) (hL : L = l.cells) : ∃ (E : Int) (ls' : List Lv11), ls'.length ≤ ls.length + 1 ∧
    (∀ (w0 : World) (B : Nat) (v : Value) (w : World), Bk w0 w B v (ls.map Lv11.bytes) → Calls Tryz.prog 12 #[.pointer (some ⟨B, 0, none⟩), .agg L.toArray] w fun e w' => e = .returned (.int .i64 E) ∧ ∃ v', Bk w0 w' B v' (ls'.map Lv11.bytes) ∧ Gro (fun g => g = B ∨ v.ownBlock = some g) w w' ∧ ∀ g, v'.ownBlock = some g → v.ownBlock = some g ∨ w.heap.size ≤ g) ∧
    (∀ (w : World) (A : Option Addr) (n c : Nat), Dk w A n c ls → Calls Tryz.prog 15 #[.slice A n c, .agg L.toArray] w fun e w' => ∃ A' n' c', e = .returned (.tuple #[.slice A' n' c', .int .i64 E]) ∧ Dk w' A' n' c' ls' ∧ Below w.heap.size w w') := by
  by_cases hm : l.may = true
  · by_cases hi : l.ix = (ls.length : Int)
    · refine ⟨0, ls ++ [l], by simp, fun w0 B v w hb => ?_, fun w A n c hd => ?_⟩
      · have hlen : (ls.map Lv11.bytes).length = ls.length := List.length_map ..
        refine (put_in w0 B v (ls.map Lv11.bytes) (by rw [hlen]; omega) l.en l.tk l.rc l.am hl.rc hl.am hl.q (by rw [hlen, ← hi]; exact hm) L (by rw [hL, hlen, ← hi]; rfl) w hb).mono ?_
        rintro e w' ⟨q1, v', q2, q3, q4⟩
        refine ⟨q1, v', ?_, q3, fun g hg => ?_⟩
        · rw [hlen, ← hi] at q2
          rw [List.map_append]
          exact q2
        · rcases q4 with q4 | ⟨g', q4, q5⟩
          · exact .inl (q4 ▸ hg)
          · rw [q4] at hg; cases hg; exact .inr q5
      · obtain rfl := hd.len
        refine (rput_ok ls l hl A ls.length c rfl (by omega) hm hi L hL w hd.lfa).mono ?_
        rintro e w' ⟨A', c', q1, q2, q3⟩
        refine ⟨A', ls.length + 1, c', q1, ⟨by simp, q2, fun x hx => ?_, fun x hx => ?_⟩, q3⟩
        · rcases List.mem_append.1 hx with z | z
          · exact hd.ok x z
          · rw [List.mem_singleton.1 z]; exact hl
        · rcases List.mem_append.1 hx with z | z
          · exact hd.may x z
          · rw [List.mem_singleton.1 z]; exact hm
    · refine ⟨111, ls, Nat.le_succ _, fun w0 B v w hb => ?_, fun w A n c hd => ?_⟩
      · refine (bput_ix w0 B v (ls.map Lv11.bytes) l.ix l.en l.tk l.rc l.am hl.rc hl.am hl.q hm (by rw [List.length_map]; exact hi) L hL w hb).mono ?_
        rintro e w' ⟨q1, q2⟩
        exact ⟨q1, v, hb.keep q2, Gro.of_below q2, fun g hg => .inl hg⟩
      · obtain rfl := hd.len
        refine (rput_no l hl A ls.length c 111 (.inr ⟨hm, hi, rfl⟩) L hL w).mono ?_
        rintro e w' ⟨q1, q2⟩
        exact ⟨A, ls.length, c, q1, hd.be q2, q2⟩
  · have hm' : l.may = false := by simpa using hm
    refine ⟨110, ls, Nat.le_succ _, fun w0 B v w hb => ?_, fun w A n c hd => ?_⟩
    · refine (bput_leaf B l.ix l.en l.tk l.rc l.am hl.rc hl.am hm' L hL w).mono ?_
      rintro e w' ⟨q1, q2⟩
      exact ⟨q1, v, hb.keep q2, Gro.of_below q2, fun g hg => .inl hg⟩
    · refine (rput_no l hl A n c 110 (.inl ⟨hm', rfl⟩) L hL w).mono ?_
      rintro e w' ⟨q1, q2⟩
      exact ⟨A, n, c, q1, hd.be q2, q2⟩
/-- A leaf that is asked for. -/
theorem leaf_both (ls : List Lv11) (hls : ls.length ≤ 1000000) (hok : ∀ l ∈ ls, l.Ok) (hmay : ∀ l ∈ ls, l.may = true) (k : Int) : ∃ (C : List Value) (E : Int), (∃ l : Lv11, l.Ok ∧ C = l.cells) ∧
    (∀ (w0 : World) (B : Nat) (v : Value) (w : World), Bk w0 w B v (ls.map Lv11.bytes) → Calls Tryz.prog 13 #[.pointer (some ⟨B, 0, none⟩), .int .i64 k] w fun e w' => e = .returned (.tuple #[.agg C.toArray, .int .i64 E]) ∧ Below w.heap.size w w') ∧
    (∀ (w : World) (A : Option Addr) (n c : Nat), Dk w A n c ls → Calls Tryz.prog 16 #[.slice A n c, .int .i64 k] w fun e w' => e = .returned (.tuple #[.agg C.toArray, .int .i64 E]) ∧ Below w.heap.size w w') := by
  by_cases hk : k < 0 ∨ (ls.length : Int) ≤ k
  · refine ⟨zLf, 111, ⟨⟨0, 0, 0, List.replicate 20 0#8, List.replicate 4 0⟩, ⟨rfl, rfl, fun x hx => by rw [List.eq_of_mem_replicate hx]; decide⟩, rfl⟩, fun w0 B v w hb => ?_, fun w A n c hd => ?_⟩
    · obtain ⟨A, cap, e⟩ := hb.form
      subst e
      exact leaf_no B A _ cap k (by rw [List.length_map]; exact hk) w hb.row
    · obtain rfl := hd.len
      exact rleaf_no A _ c k hk w
  · obtain ⟨i, rfl⟩ : ∃ i : Nat, k = (i : Int) := ⟨k.toNat, by omega⟩
    have hi : i < ls.length := by omega
    have hg : ls[i]? = some ls[i] := List.getElem?_eq_getElem hi
    have ho := hok _ (List.mem_of_getElem? hg)
    have hm := hmay _ (List.mem_of_getElem? hg)
    refine ⟨ls[i].cells, 0, ⟨ls[i], ho, rfl⟩, fun w0 B v w hb => ?_, fun w A n c hd => ?_⟩
    · exact leaf_ok w0 B v (ls.map Lv11.bytes) (by rw [List.length_map]; exact hls) i ls[i].ix ls[i].en ls[i].tk ls[i].rc ls[i].am ho.rc ho.am ho.q hm (by rw [List.getElem?_map, hg]; rfl) w hb
    · obtain rfl := hd.len
      exact rleaf_ok ls A _ c i rfl ls[i] hg _ rfl w hd.lfa
/-- A root that is asked for. -/
theorem root_both (ls : List Lv11) (hls : ls.length ≤ 1000000) (hok : ∀ l ∈ ls, l.Ok) (k : Int) : ∃ (dd : List (BitVec 8)) (E : Int), dd.length = 32 ∧
    (∀ (w0 : World) (B : Nat) (v : Value) (w : World), Tab w 2 → Bk w0 w B v (ls.map Lv11.bytes) → Calls Tryz.prog 7 #[.pointer (some ⟨B, 0, none⟩), .int .i64 k] w fun e w' => e = .returned (.tuple #[.agg (vB dd).toArray, .int .i64 E]) ∧ Below w.heap.size w w') ∧
    (∀ (w : World) (A : Option Addr) (n c : Nat), Given w → Dk w A n c ls → Calls Tryz.prog 8 #[.slice A n c, .int .i64 k] w fun e w' => e = .returned (.tuple #[.agg (vB dd).toArray, .int .i64 E]) ∧ Below w.heap.size w w') := by
  by_cases hk : k < 0 ∨ (ls.length : Int) < k
  · refine ⟨List.replicate 32 0#8, 112, rfl, fun w0 B v w _ hb => ?_, fun w A n c _ hd => ?_⟩
    · exact root_no w0 B v (ls.map Lv11.bytes) (by rw [List.length_map]; exact hls) k (by rw [List.length_map]; exact hk) w hb
    · obtain rfl := hd.len
      exact rbroot_no A _ c k hk w
  · obtain ⟨i, rfl⟩ : ∃ i : Nat, k = (i : Int) := ⟨k.toNat, by omega⟩
    have hi : i ≤ ls.length := by omega
    refine ⟨rt ((ls.map Lv11.bytes).take i), 0, rt_length _, fun w0 B v w hT hb => ?_, fun w A n c hG hd => ?_⟩
    · exact root_bk w0 B v (ls.map Lv11.bytes) (by rw [List.length_map]; exact hls) (lbs_len hok) i (by rw [List.length_map]; exact hi) _ rfl w hT hb
    · obtain rfl := hd.len
      exact rbroot_ok ls A _ c rfl hls hd.may i hi _ rfl w hd.lfa hG
/-- A path that is asked for. -/
theorem path_both (ls : List Lv11) (hls : ls.length ≤ 1000000) (hok : ∀ l ∈ ls, l.Ok) (j k : Int) : ∃ (ds : List (List (BitVec 8))) (E : Int), ds.length ≤ 1000000 ∧ (∀ x ∈ ds, x.length = 32) ∧
    (∀ (w0 : World) (B : Nat) (v : Value) (w : World), Tab w 2 → Bk w0 w B v (ls.map Lv11.bytes) → Calls Tryz.prog 17 #[.pointer (some ⟨B, 0, none⟩), .int .i64 j, .int .i64 k] w fun e w' => ∃ A' c', e = .returned (.tuple #[.slice A' ds.length c', .int .i64 E]) ∧ Pw w' (.slice A' ds.length c') ds ∧ Fresh w.heap.size (.slice A' ds.length c') ∧ Below w.heap.size w w') ∧
    (∀ (w : World) (A : Option Addr) (n c : Nat), Given w → Dk w A n c ls → Calls Tryz.prog 18 #[.slice A n c, .int .i64 j, .int .i64 k] w fun e w' => ∃ A' c', e = .returned (.tuple #[.slice A' ds.length c', .int .i64 E]) ∧ Pw w' (.slice A' ds.length c') ds ∧ Fresh w.heap.size (.slice A' ds.length c') ∧ Below w.heap.size w w') := by
  have nn : ∀ (F : FuncId) (args : Array Value) (w : World) (E : Int), Calls Tryz.prog F args w (fun e w' => e = .returned (.tuple #[.slice none 0 0, .int .i64 E]) ∧ w' = w) → Calls Tryz.prog F args w (fun e w' => ∃ A' c', e = .returned (.tuple #[.slice A' 0 c', .int .i64 E]) ∧ Pw w' (.slice A' 0 c') [] ∧ Fresh w.heap.size (.slice A' 0 c') ∧ Below w.heap.size w w') := fun F args w E h => h.mono (by
    rintro e w' ⟨q1, q2⟩
    subst q2
    exact ⟨none, 0, q1, Pw.nil _, fun g hg => by simp [Value.ownBlock] at hg, Below.refl _ _⟩)
  have oo : ∀ (F : FuncId) (args : Array Value) (w : World) (ds : List (List (BitVec 8))), Calls Tryz.prog F args w (fun e w' => ∃ u, e = .returned (.tuple #[u, .int .i64 0]) ∧ w'.ownsRow w.heap.size 44 32 u ds.length (ds.flatMap vB) ∧ Below w.heap.size w w') → Calls Tryz.prog F args w (fun e w' => ∃ A' c', e = .returned (.tuple #[.slice A' ds.length c', .int .i64 0]) ∧ Pw w' (.slice A' ds.length c') ds ∧ Fresh w.heap.size (.slice A' ds.length c') ∧ Below w.heap.size w w') := fun F args w ds h => h.mono (by
    rintro e w' ⟨u, q1, q2, q3⟩
    have q4 : Pw w' u ds := ⟨q2.1, q2.2.imp id (fun ⟨g, cap, cur, a, _, r⟩ => ⟨g, cap, cur, a, Nat.zero_le _, r⟩)⟩
    obtain ⟨A, cap, rfl, _, _⟩ := Pw.form q4
    exact ⟨A, cap, q1, q4, fun g hg => (World.ownsRow.lt q2 g hg).1, q3⟩)
  by_cases hk : k < 0 ∨ (ls.length : Int) < k
  · refine ⟨[], 112, by simp, (fun x hx => by cases hx), fun w0 B v w _ hb => ?_, fun w A n c _ hd => ?_⟩
    · exact nn _ _ _ _ (path_size w0 B v (ls.map Lv11.bytes) (by rw [List.length_map]; exact hls) j k (by rw [List.length_map]; exact hk) w hb)
    · obtain rfl := hd.len
      exact nn _ _ _ _ (rbpath_size A _ c j k hk w)
  · obtain ⟨i, rfl⟩ : ∃ i : Nat, k = (i : Int) := ⟨k.toNat, by omega⟩
    have hi : i ≤ ls.length := by omega
    by_cases hj : j < 0 ∨ (i : Int) ≤ j
    · refine ⟨[], 111, by simp, (fun x hx => by cases hx), fun w0 B v w _ hb => ?_, fun w A n c _ hd => ?_⟩
      · exact nn _ _ _ _ (path_ix w0 B v (ls.map Lv11.bytes) (by rw [List.length_map]; exact hls) j i (by rw [List.length_map]; exact hi) hj w hb)
      · obtain rfl := hd.len
        exact nn _ _ _ _ (rbpath_ix A _ c j i hi hj w)
    · obtain ⟨m, rfl⟩ : ∃ m : Nat, j = (m : Int) := ⟨j.toNat, by omega⟩
      have hm : m < i := by omega
      have hl : ((ls.map Lv11.bytes).take i).length = i := by rw [List.length_take, List.length_map]; omega
      refine ⟨pt m ((ls.map Lv11.bytes).take i), 0, ?_, pt_each i m _ hl (by omega) (by omega), fun w0 B v w hT hb => ?_, fun w A n c hG hd => ?_⟩
      · rw [pt_length i m _ hl (by omega) (by omega)]
        exact Nat.le_trans (Nat.le_of_lt (pl_lt i m (by omega) (by omega))) (by omega)
      · exact oo _ _ _ _ (path_ok w0 B v (ls.map Lv11.bytes) (by rw [List.length_map]; exact hls) (lbs_len hok) m i (by rw [List.length_map]; exact hi) hm _ rfl w hT hb)
      · obtain rfl := hd.len
        exact oo _ _ _ _ (rbpath_ok ls A _ c rfl hls hd.may m i hi hm _ rfl w hd.lfa hG)
/-- A cut. -/
theorem cut_both (ls : List Lv11) (hls : ls.length ≤ 1000000) (k : Int) : ∃ (E : Int) (ls' : List Lv11), ls'.length ≤ ls.length ∧
    (∀ (w0 : World) (B : Nat) (v : Value) (w : World), Bk w0 w B v (ls.map Lv11.bytes) → Calls Tryz.prog 21 #[.pointer (some ⟨B, 0, none⟩), .int .i64 k] w fun e w' => e = .returned (.int .i64 E) ∧ ∃ v', Bk w0 w' B v' (ls'.map Lv11.bytes) ∧ Gro (fun g => g = B ∨ v.ownBlock = some g) w w' ∧ ∀ g, v'.ownBlock = some g → v.ownBlock = some g ∨ w.heap.size ≤ g) ∧
    (∀ (w : World) (A : Option Addr) (n c : Nat), Dk w A n c ls → Calls Tryz.prog 22 #[.slice A n c, .int .i64 k] w fun e w' => ∃ A' n' c', e = .returned (.tuple #[.slice A' n' c', .int .i64 E]) ∧ Dk w' A' n' c' ls' ∧ Below w.heap.size w w') := by
  by_cases hk : k < 0 ∨ (ls.length : Int) < k
  · refine ⟨112, ls, Nat.le_refl _, fun w0 B v w hb => ?_, fun w A n c hd => ?_⟩
    · refine (cut_no w0 B v (ls.map Lv11.bytes) (by rw [List.length_map]; exact hls) k (by rw [List.length_map]; exact hk) w hb).mono ?_
      rintro e w' ⟨q1, q2⟩
      subst q2
      exact ⟨q1, v, hb, Gro.refl _ _, fun g hg => .inl hg⟩
    · obtain rfl := hd.len
      refine (rcut_no A _ c k hk w).mono ?_
      rintro e w' ⟨q1, q2⟩
      subst q2
      exact ⟨A, _, c, q1, hd, Below.refl _ _⟩
  · obtain ⟨i, rfl⟩ : ∃ i : Nat, k = (i : Int) := ⟨k.toNat, by omega⟩
    have hi : i ≤ ls.length := by omega
    refine ⟨0, ls.take i, by rw [List.length_take]; omega, fun w0 B v w hb => ?_, fun w A n c hd => ?_⟩
    · refine (cut_ok w0 B v (ls.map Lv11.bytes) (by rw [List.length_map]; exact hls) i (by rw [List.length_map]; exact hi) w hb).mono ?_
      rintro e w' ⟨q1, v', q2, q3, q4⟩
      exact ⟨q1, v', by rw [List.map_take]; exact q2, q3, fun g hg => .inl (q4 ▸ hg)⟩
    · have hn := hd.len
      refine (rcut_ok A n c i (by omega) hd.cap w).mono ?_
      rintro e w' ⟨q1, q2⟩
      subst q2
      exact ⟨A, i, c, q1, hd.cut (by omega), Below.refl _ _⟩

end Go.Proofs.YtdicgenhfmhklaaGreatDoor

namespace Go.Proofs.YtdicgenhfmhklaaGreatDoor
open Go Go.RowKit
open Sha

section
variable {w0 w w' : World} {Bp b : Nat} {vp : Value} {ts : List (List (BitVec 8))} {t e : TypeId} {cs xs : List Value} {s n : Nat} {v : Value}
theorem row_un {b : Nat} {cs cs' : List Value} {t t' : TypeId} (h : Row w b cs t) (k : Row w b cs' t') : t = t' := by
  have h1 : w.heap[b]? = some (.cells cs.toArray t) := h
  have h2 : w.heap[b]? = some (.cells cs'.toArray t') := k
  have := h1.symm.trans h2
  simp only [Option.some.injEq, Obj.cells.injEq] at this
  exact this.2.1
theorem Bk.offR (hb : Bk w0 w Bp vp ts) (r : Row w b cs t) (h1 : t ≠ 52) (h2 : t ≠ 54) : ¬ (b = Bp ∨ vp.ownBlock = some b) := by
  rintro (q | q)
  · subst q
    exact h1 (row_un r hb.row)
  · obtain ⟨cs', h3, _⟩ := hb.own
    exact Lw.ne h3 r h2 b q rfl
theorem Bk.offL (hb : Bk w0 w Bp vp ts) (l : Lw w e s v n xs) (h1 : e ≠ 52) (h2 : e ≠ 54) : ∀ g, v.ownBlock = some g → ¬ (g = Bp ∨ vp.ownBlock = some g) := fun g hg => by
  rintro (q | q)
  · exact Lw.ne l hb.row (Ne.symm h1) g hg q
  · obtain ⟨cs', h3, _⟩ := hb.own
    exact lw_apart l h3 h2 g hg q
theorem Bk.gro11 {R : Nat → Prop} (h : Bk w0 w Bp vp ts) (k : Gro R w w') (hB : ¬ R Bp) (hv : ∀ g, vp.ownBlock = some g → ¬ R g) (hu : ∀ u d, Bw w u d → ∀ g, u.ownBlock = some g → ¬ R g) (h0 : ∀ g, R g → w0.heap.size ≤ g) : Bk w0 w' Bp vp ts := by
  obtain ⟨cs, h1, h2⟩ := h.own
  exact ⟨(k.block Bp h.row.lt hB).trans h.row, ⟨cs, Lw.gro h1 k hv, fun i d hd => by obtain ⟨u, q1, q2⟩ := h2 i d hd; exact ⟨u, q1, Bw.gro q2 k (hu u d q2)⟩⟩, h.b0, h.v0, h.be.trans (k.to_below h.be.size h0)⟩
end
section
variable {w0 w w' : World} {B : Nat} {rl rw vl vw : Value} {us ws : List Value} {ds es : List (List (List (BitVec 8)))} {b s n : Nat} {v : Value} {t e : TypeId} {cs xs : List Value}
theorem Pbk.offR (h : Pbk w0 w B rl rw vl vw us ws ds es) (r : Row w b cs t) (h1 : t ≠ 30) (h2 : t ≠ 64) : ¬ (b = B ∨ vl.ownBlock = some b ∨ vw.ownBlock = some b) := by
  rintro (q | q | q)
  · subst q
    exact h1 (row_un r h.row)
  · exact Lw.ne h.ll r h2 b q rfl
  · exact Lw.ne h.lw r h2 b q rfl
theorem Pbk.offL (h : Pbk w0 w B rl rw vl vw us ws ds es) (l : Lw w e s v n xs) (h1 : e ≠ 30) (h2 : e ≠ 64) : ∀ g, v.ownBlock = some g → ¬ (g = B ∨ vl.ownBlock = some g ∨ vw.ownBlock = some g) := fun g hg => by
  rintro (q | q | q)
  · exact Lw.ne l h.row (Ne.symm h1) g hg q
  · exact lw_apart l h.ll h2 g hg q
  · exact lw_apart l h.lw h2 g hg q
theorem Pbk.gro11 {R : Nat → Prop} (h : Pbk w0 w B rl rw vl vw us ws ds es) (k : Gro R w w') (hB : ¬ R B) (hl : ∀ g, vl.ownBlock = some g → ¬ R g) (hw : ∀ g, vw.ownBlock = some g → ¬ R g) (hp : ∀ u d, Pw w u d → ∀ g, u.ownBlock = some g → ¬ R g) (h0 : ∀ g, R g → w0.heap.size ≤ g) : Pbk w0 w' B rl rw vl vw us ws ds es :=
  ⟨(k.block B h.row.lt hB).trans h.row, Lw.gro h.ll k hl, Lw.gro h.lw k hw, h.lne, fun i d hd => by obtain ⟨u, q1, q2⟩ := h.eu i d hd; exact ⟨u, q1, Pw.gro q2 k (hp u d q2)⟩, fun i d hd => by obtain ⟨u, q1, q2⟩ := h.ew i d hd; exact ⟨u, q1, Pw.gro q2 k (hp u d q2)⟩, h.au, h.b0, h.l0, h.z0, h.u0, h.be.trans (k.to_below h.be.size h0)⟩
theorem Pbk.us_lt (h : Pbk w0 w B rl rw vl vw us ws ds es) : ∀ u ∈ us, ∀ g, u.ownBlock = some g → g < w.heap.size := fun u hu g hg => by
  obtain ⟨i, hi, rfl⟩ := List.getElem_of_mem hu
  have hl := Lw.len h.ll
  rw [Nat.mul_one] at hl
  obtain ⟨u', q1, q2⟩ := h.eu i ds[i] (List.getElem?_eq_getElem (by omega))
  rw [List.getElem?_eq_getElem hi] at q1
  cases q1
  exact Pw.lt q2 g hg
end
/-- A step's fields. -/
structure Sv11 where
  wh : Int
  n : Int
  m : Int
  l : Lv11
def Sv11.cells (x : Sv11) : List Value := .int .i64 x.wh :: .int .i64 x.n :: .int .i64 x.m :: x.l.cells
structure Sv11.Ok (x : Sv11) : Prop where
  l : x.l.Ok
  w1 : -9223372036854775808 ≤ x.wh
  w2 : x.wh ≤ 9223372036854775807
abbrev Rp (B : Nat) (vl vw : Value) (g : Nat) : Prop := g = B ∨ vl.ownBlock = some g ∨ vw.ownBlock = some g
abbrev Rq (Bp : Nat) (vp : Value) (g : Nat) : Prop := g = Bp ∨ vp.ownBlock = some g
/-- A book, the document's, the law's book of paths. -/
structure Bo1 (w0 w : World) (B Bp : Nat) (vp vl vw : Value) (us ws : List Value) (ls : List Lv11) (ds : List (List (List (BitVec 8)))) (A : Option Addr) (n c : Nat) : Prop where
  bk : Bk w0 w Bp vp (ls.map Lv11.bytes)
  dk : Dk w A n c ls
  pb : Pbk w0 w B vl vw vl vw us ws ds ds
  pd : ∀ d ∈ ds, d.length ≤ 1000000 ∧ ∀ x ∈ d, x.length = 32
/-- What a step leaves. -/
structure Bo2 (w0 w w' : World) (B Bp : Nat) (vp vl vw : Value) (m k : Nat) (A : Option Addr) (n c : Nat) : Prop where
  ex : ∃ vp' vl' vw' us' ws' ls' ds', Bo1 w0 w' B Bp vp' vl' vw' us' ws' ls' ds' A n c ∧ ls'.length ≤ m + 1 ∧ ds'.length ≤ k + 2 ∧ ∀ g, vp'.ownBlock = some g → vp.ownBlock = some g ∨ w.heap.size ≤ g
  gro : Gro (fun g => Rp B vl vw g ∨ Rq Bp vp g) w w'
section
variable {w0 w w' w'' : World} {B Bp : Nat} {vp vl vw : Value} {us ws : List Value} {ls ls' : List Lv11} {ds : List (List (List (BitVec 8)))} {A A' : Option Addr} {n c n' c' : Nat}
theorem Bo1.be (h : Bo1 w0 w B Bp vp vl vw us ws ls ds A n c) (k : Below w.heap.size w w') : Bo1 w0 w' B Bp vp vl vw us ws ls ds A n c := ⟨h.bk.keep k, h.dk.be k, h.pb.below k, h.pd⟩
/-- Nothing was changed. -/
theorem Bo1.same (h : Bo1 w0 w B Bp vp vl vw us ws ls ds A n c) (k : Below w.heap.size w w') : Bo2 w0 w w' B Bp vp vl vw ls.length ds.length A n c :=
  ⟨⟨vp, vl, vw, us, ws, ls, ds, h.be k, by omega, by omega, fun g hg => .inl hg⟩, Gro.of_below k⟩
/-- Behind a call that turned the program's book. -/
theorem Bo1.turned (h : Bo1 w0 w B Bp vp vl vw us ws ls ds A n c) (k : Gro (fun g => g = Bp ∨ vp.ownBlock = some g) w w') : Dk w' A n c ls ∧ Pbk w0 w' B vl vw vl vw us ws ds ds := by
  refine ⟨h.dk.gro k (h.bk.offL h.dk.own (by decide) (by decide)), h.pb.gro11 k (h.bk.offR h.pb.row (by decide) (by decide)) (h.bk.offL h.pb.ll (by decide) (by decide)) (h.bk.offL h.pb.lw (by decide) (by decide)) (fun u d q => h.bk.offL q (by decide) (by decide)) ?_⟩
  rintro g (q | q)
  · rw [q]; exact h.bk.b0
  · exact h.bk.v0 g q
theorem Bo1.next (h : Bo1 w0 w B Bp vp vl vw us ws ls ds A n c) {vp' : Value} (k : Gro (fun g => g = Bp ∨ vp.ownBlock = some g) w w') (hb : Bk w0 w' Bp vp' (ls'.map Lv11.bytes)) (hl : ls'.length ≤ ls.length + 1) (hn : ∀ g, vp'.ownBlock = some g → vp.ownBlock = some g ∨ w.heap.size ≤ g) (k2 : Below w'.heap.size w' w'') (hd : Dk w'' A' n' c' ls') : Bo2 w0 w w'' B Bp vp vl vw ls.length ds.length A' n' c' :=
  ⟨⟨vp', vl, vw, us, ws, ls', ds, ⟨hb.keep k2, hd, (h.turned k).2.below k2, h.pd⟩, hl, by omega, hn⟩, (k.mono (fun g q => .inr q)).below k2⟩
/-- Behind two paths that were kept. -/
theorem Bo1.kept (h : Bo1 w0 w B Bp vp vl vw us ws ls ds A n c) {vl' vw' : Value} {us' ws' : List Value} {d : List (List (BitVec 8))} (hd : d.length ≤ 1000000 ∧ ∀ x ∈ d, x.length = 32) (k : Gro (Rp B vl vw) w w') (hp : Pbk w0 w' B vl' vw' vl' vw' us' ws' (ds ++ [d]) (ds ++ [d])) : Bo1 w0 w' B Bp vp vl' vw' us' ws' ls (ds ++ [d]) A n c := by
  refine ⟨h.bk.gro11 k (h.pb.offR h.bk.row (by decide) (by decide)) ?_ (fun u d q => h.pb.offL q (by decide) (by decide)) ?_, h.dk.gro k (h.pb.offL h.dk.own (by decide) (by decide)), hp, fun x hx => ?_⟩
  · obtain ⟨cs', h3, _⟩ := h.bk.own
    exact h.pb.offL h3 (by decide) (by decide)
  · rintro g (q | q | q)
    · rw [q]; exact h.pb.b0
    · exact h.pb.l0 g q
    · exact h.pb.z0 g q
  · rcases List.mem_append.1 hx with z | z
    · exact h.pd x z
    · rw [List.mem_singleton.1 z]; exact hd
end

end Go.Proofs.YtdicgenhfmhklaaGreatDoor
