/-
  The law's size, begins, apart.
-/
import Derived.Test.YtmkmdbpibpbcjabXFo
import Derived.Deep.QuietTactic
namespace Go.Proofs.Ytmkmdbpibpbcjab
open Go Go.RowKit
open Sha

set_option maxRecDepth 100000 in
theorem size_any (k N : Int) (B : Option Addr) (n cb : Nat) (hn : n ≤ 140737488351232) (m0 m1 m2 m3 : Nat) (L : Option Addr) (nl cl : Nat) (hl : nl ≤ 140737488351232) (w : World) :
    Calls Try.prog 8 #[.agg (sc k N (.slice B n cb) m0 m1 m2 m3 (.slice L nl cl)).toArray] w fun e w' => e = .returned (.int .i64 (64 + 4 * (n : Int) + 10 * (nl : Int))) ∧ Below w.heap.size w w' := by
  have b1 : Below w.heap.size w (w.alloc (Obj.cells (sc k N (.slice B n cb) m0 m1 m2 m3 (.slice L nl cl)).toArray 28)) := (Below.refl _ _).alloc (Nat.le_refl _) _
  have HB : Hid _ := b1
  clear b1
  go_enter Try.func8, Try.ntmps8
  go_wp2
  go_ret
  exact ⟨by first | rfl | (simp; omega), HB.out⟩

set_option maxRecDepth 100000 in
theorem begins_any (d e : List (BitVec 8)) (n m : Nat) (hn : d.length = n) (hm : e.length = m) (hs : n ≤ 4194304) (A : Option Addr) (b o : Nat) (ca cb : Nat) (hcb : m ≤ cb) (w : World) (h1 : SlAt w (.slice A n ca) d) (h2 : SlAt w (.slice (some ⟨b, o, none⟩) m cb) e) (R : Bool) (hR : decide (n ≤ m ∧ d = e.take n) = R) :
    Calls Try.prog 12 #[.slice A n ca, .slice (some ⟨b, o, none⟩) m cb] w fun r w' => r = .returned (.bool R) ∧ Below w.heap.size w w' := by
  by_cases hle : n ≤ m
  · have h3 : SlAt w (.slice (some ⟨b, o, none⟩) n cb) (e.take n) := by
      rcases h2 with ⟨h0, A', c', hv⟩ | ⟨ab, ao, c', hv, hc, hr⟩
      · subst h0
        simp only [List.length_nil] at hm
        refine .inl ⟨by simp, some ⟨b, o, none⟩, cb, by rw [show n = 0 by omega]⟩
      · simp only [Value.slice.injEq, Option.some.injEq, Addr.mk.injEq] at hv
        obtain ⟨⟨rfl, rfl, _⟩, _, rfl⟩ := hv
        have hl : (e.take n).length = n := by rw [List.length_take]; omega
        exact .inr ⟨b, o, cb, by rw [hl], by omega, fun j v hj => hr j v (by
          unfold vB at hj ⊢
          rw [List.map_take, List.getElem?_take] at hj
          split at hj
          · exact hj
          · cases hj)⟩
    have HS : Hid _ := same_any d (e.take n) n n hn (by rw [List.length_take]; omega) (by omega) (by omega) A (some ⟨b, o, none⟩) ca cb w h1 h3 R (by rw [← hR]; simp [hle])
    have c1 : (n : Int) ≤ (m : Int) := by omega
    have c2 : n ≤ cb := by omega
    clear h1 h2 h3 hR hn hm
    go_enter Try.func12, Try.ntmps12
    go_wp2_with fail
    refine Calls.mono HS.out ?_
    rintro r w2 ⟨rfl, q, hq⟩
    have HQ : Hid _ := hq
    clear hq HS
    have HB : Hid (Below w.heap.size w w2) := by rw [HQ.out]; exact ⟨rfl, rfl, rfl, Nat.le_refl _, fun _ _ => rfl⟩
    cases R with
    | true =>
      go_wp2_with fail
      go_ret
      exact ⟨rfl, HB.out⟩
    | false =>
      go_wp2_with fail
      go_ret
      exact ⟨rfl, HB.out⟩
  · obtain rfl : R = false := by rw [← hR]; simp [hle]
    have c1 : ¬ (n : Int) ≤ (m : Int) := by omega
    clear h1 h2 hR hn hm
    go_enter Try.func12, Try.ntmps12
    go_wp2_with fail
    go_ret
    exact ⟨rfl, Below.refl _ _⟩

/-- Are two steps of a kind unlike? -/
def ap (k : Nat) (N N' : Int) (d d' : List (BitVec 8)) (m m' : List Nat) : Bool :=
  match k with
  | 0 => !(N % 256 == N' % 256)
  | 1 => !((!(N.tmod 2 == 0)) == (!(N'.tmod 2 == 0)))
  | 2 => !(pk N mx == pk N' mx)
  | 3 => !decide (d = d')
  | 4 => !decide (m = m')
  | 5 => !decide (dgN 32 d = dgN 32 d')
  | _ => !decide (dgN 20 d = dgN 20 d')

theorem drew_b (w : World) (q : Nat) {N : Nat} : Below N w (w.drewN q) := ⟨rfl, rfl, rfl, Nat.le_refl _, fun _ _ => rfl⟩
theorem quiet_same {P : Program} {f : FuncId} {args : Array Value} {w : World} {v : Value} (h : Calls P f args w fun e w' => e = .returned v ∧ w' = w) : Calls P f args w fun e w' => e = .returned v ∧ ∃ m, w' = w.drewN m := h.mono fun _ _ ⟨h1, h2⟩ => ⟨h1, 0, h2⟩

set_option maxRecDepth 100000 in
set_option maxHeartbeats 2000000 in
theorem apart_0 (N N' : Int) (hN1 : -9223372036854775808 ≤ N) (hN2 : N ≤ 9223372036854775807) (hN1' : -9223372036854775808 ≤ N') (hN2' : N' ≤ 9223372036854775807) (d d' : List (BitVec 8)) (n n' : Nat) (hd : d.length = n) (hd' : d'.length = n') (hn : n ≤ 4194304) (hn' : n' ≤ 4194304) (B B' : Option Addr) (cb cb' : Nat) (m0 m1 m2 m3 p0 p1 p2 p3 : Nat) (u u' : Value) (w : World) (hv : SlAt w (.slice B n cb) d) (hv' : SlAt w (.slice B' n' cb') d') (R : Bool) (hR : ap 0 N N' d d' [m0, m1, m2, m3] [p0, p1, p2, p3] = R) :
    Calls Try.prog 11 #[.agg (sc 0 N (.slice B n cb) m0 m1 m2 m3 u).toArray, .agg (sc 0 N' (.slice B' n' cb') p0 p1 p2 p3 u').toArray] w fun e w' => e = .returned (.bool R) ∧ Below w.heap.size w w' := by
  have hall := And.intro hN1 (And.intro hN2 (And.intro hN1' (And.intro hN2' (And.intro hd (And.intro hd' (And.intro hn (And.intro hn' (And.intro hv hv'))))))))
  clear hall
  obtain ⟨X, hX⟩ : ∃ X, X = (w.alloc (Obj.cells (sc 0 N (.slice B n cb) m0 m1 m2 m3 u).toArray 28)).alloc (Obj.cells (sc 0 N' (.slice B' n' cb') p0 p1 p2 p3 u').toArray 28) := ⟨_, rfl⟩
  have b0 : Below w.heap.size w (w.alloc (Obj.cells (sc 0 N (.slice B n cb) m0 m1 m2 m3 u).toArray 28)) := (Below.refl _ _).alloc (Nat.le_refl _) _
  have b1 : Below w.heap.size w X := by rw [hX]; exact b0.alloc b0.size _
  have r1 : Row X w.heap.size (sc 0 N (.slice B n cb) m0 m1 m2 m3 u) 28 := by rw [hX]; exact (Row.new' rfl rfl).alloc _
  have r2 : Row X (w.heap.size + 1) (sc 0 N' (.slice B' n' cb') p0 p1 p2 p3 u') 28 := by rw [hX]; exact Row.new' (by simp) rfl
  have g0 := r1.cell 0 _ rfl
  have g1 := r1.cell 1 _ rfl
  have g2 := r1.cell 2 _ rfl
  have k1 := r2.cell 1 _ rfl
  have k2 := r2.cell 2 _ rfl
  have HP : Hid (∀ w, _) := fun w => pick_any 0 7 (by decide) (by decide) (by decide) (by decide) w
  rw [show pk 0 7 = 0 from pk_same 0 7 (by decide) (by decide)] at HP
  have HB1 : Hid (Below w.heap.size w X) := b1
  unfold ap at hR
  simp only at hR
  subst hR
  clear b0 b1 r1 r2 hv hv' hd hd' 
  go_enter Try.func11, Try.ntmps11
  go_wp2_with fail
  rw [← hX]
  clear hX
  refine (HP.out X).mono ?_
  rintro e w2 ⟨rfl, rfl⟩
  go_wp2
  go_ret
  exact ⟨rfl, HB1.out⟩

set_option maxRecDepth 100000 in
set_option maxHeartbeats 2000000 in
theorem apart_1 (N N' : Int) (hN1 : -9223372036854775808 ≤ N) (hN2 : N ≤ 9223372036854775807) (hN1' : -9223372036854775808 ≤ N') (hN2' : N' ≤ 9223372036854775807) (d d' : List (BitVec 8)) (n n' : Nat) (hd : d.length = n) (hd' : d'.length = n') (hn : n ≤ 4194304) (hn' : n' ≤ 4194304) (B B' : Option Addr) (cb cb' : Nat) (m0 m1 m2 m3 p0 p1 p2 p3 : Nat) (u u' : Value) (w : World) (hv : SlAt w (.slice B n cb) d) (hv' : SlAt w (.slice B' n' cb') d') (R : Bool) (hR : ap 1 N N' d d' [m0, m1, m2, m3] [p0, p1, p2, p3] = R) :
    Calls Try.prog 11 #[.agg (sc 1 N (.slice B n cb) m0 m1 m2 m3 u).toArray, .agg (sc 1 N' (.slice B' n' cb') p0 p1 p2 p3 u').toArray] w fun e w' => e = .returned (.bool R) ∧ Below w.heap.size w w' := by
  have hall := And.intro hN1 (And.intro hN2 (And.intro hN1' (And.intro hN2' (And.intro hd (And.intro hd' (And.intro hn (And.intro hn' (And.intro hv hv'))))))))
  clear hall
  obtain ⟨X, hX⟩ : ∃ X, X = (w.alloc (Obj.cells (sc 1 N (.slice B n cb) m0 m1 m2 m3 u).toArray 28)).alloc (Obj.cells (sc 1 N' (.slice B' n' cb') p0 p1 p2 p3 u').toArray 28) := ⟨_, rfl⟩
  have b0 : Below w.heap.size w (w.alloc (Obj.cells (sc 1 N (.slice B n cb) m0 m1 m2 m3 u).toArray 28)) := (Below.refl _ _).alloc (Nat.le_refl _) _
  have b1 : Below w.heap.size w X := by rw [hX]; exact b0.alloc b0.size _
  have r1 : Row X w.heap.size (sc 1 N (.slice B n cb) m0 m1 m2 m3 u) 28 := by rw [hX]; exact (Row.new' rfl rfl).alloc _
  have r2 : Row X (w.heap.size + 1) (sc 1 N' (.slice B' n' cb') p0 p1 p2 p3 u') 28 := by rw [hX]; exact Row.new' (by simp) rfl
  have g0 := r1.cell 0 _ rfl
  have g1 := r1.cell 1 _ rfl
  have g2 := r1.cell 2 _ rfl
  have k1 := r2.cell 1 _ rfl
  have k2 := r2.cell 2 _ rfl
  have HP : Hid (∀ w, _) := fun w => pick_any 1 7 (by decide) (by decide) (by decide) (by decide) w
  rw [show pk 1 7 = 1 from pk_same 1 7 (by decide) (by decide)] at HP
  have HB1 : Hid (Below w.heap.size w X) := b1
  unfold ap at hR
  simp only at hR
  subst hR
  clear b0 b1 r1 r2 hv hv' hd hd' 
  go_enter Try.func11, Try.ntmps11
  go_wp2_with fail
  rw [← hX]
  clear hX
  refine (HP.out X).mono ?_
  rintro e w2 ⟨rfl, rfl⟩
  go_wp2
  go_ret
  exact ⟨rfl, HB1.out⟩

set_option maxRecDepth 100000 in
set_option maxHeartbeats 2000000 in
theorem apart_2 (N N' : Int) (hN1 : -9223372036854775808 ≤ N) (hN2 : N ≤ 9223372036854775807) (hN1' : -9223372036854775808 ≤ N') (hN2' : N' ≤ 9223372036854775807) (d d' : List (BitVec 8)) (n n' : Nat) (hd : d.length = n) (hd' : d'.length = n') (hn : n ≤ 4194304) (hn' : n' ≤ 4194304) (B B' : Option Addr) (cb cb' : Nat) (m0 m1 m2 m3 p0 p1 p2 p3 : Nat) (u u' : Value) (w : World) (hv : SlAt w (.slice B n cb) d) (hv' : SlAt w (.slice B' n' cb') d') (R : Bool) (hR : ap 2 N N' d d' [m0, m1, m2, m3] [p0, p1, p2, p3] = R) :
    Calls Try.prog 11 #[.agg (sc 2 N (.slice B n cb) m0 m1 m2 m3 u).toArray, .agg (sc 2 N' (.slice B' n' cb') p0 p1 p2 p3 u').toArray] w fun e w' => e = .returned (.bool R) ∧ Below w.heap.size w w' := by
  have hall := And.intro hN1 (And.intro hN2 (And.intro hN1' (And.intro hN2' (And.intro hd (And.intro hd' (And.intro hn (And.intro hn' (And.intro hv hv'))))))))
  clear hall
  obtain ⟨X, hX⟩ : ∃ X, X = (w.alloc (Obj.cells (sc 2 N (.slice B n cb) m0 m1 m2 m3 u).toArray 28)).alloc (Obj.cells (sc 2 N' (.slice B' n' cb') p0 p1 p2 p3 u').toArray 28) := ⟨_, rfl⟩
  have b0 : Below w.heap.size w (w.alloc (Obj.cells (sc 2 N (.slice B n cb) m0 m1 m2 m3 u).toArray 28)) := (Below.refl _ _).alloc (Nat.le_refl _) _
  have b1 : Below w.heap.size w X := by rw [hX]; exact b0.alloc b0.size _
  have r1 : Row X w.heap.size (sc 2 N (.slice B n cb) m0 m1 m2 m3 u) 28 := by rw [hX]; exact (Row.new' rfl rfl).alloc _
  have r2 : Row X (w.heap.size + 1) (sc 2 N' (.slice B' n' cb') p0 p1 p2 p3 u') 28 := by rw [hX]; exact Row.new' (by simp) rfl
  have g0 := r1.cell 0 _ rfl
  have g1 := r1.cell 1 _ rfl
  have g2 := r1.cell 2 _ rfl
  have k1 := r2.cell 1 _ rfl
  have k2 := r2.cell 2 _ rfl
  have HP : Hid (∀ w, _) := fun w => pick_any 2 7 (by decide) (by decide) (by decide) (by decide) w
  rw [show pk 2 7 = 2 from pk_same 2 7 (by decide) (by decide)] at HP
  have HB1 : Hid (Below w.heap.size w X) := b1
  unfold ap at hR
  simp only at hR
  have PP : Hid (∀ (c : Int) (w : World), -9223372036854775808 ≤ c → c ≤ 9223372036854775807 → Calls Try.prog 9 #[.int .i64 c, .int .i64 9223372036854775807] w fun e w' => e = .returned (.int .i64 (pk c mx)) ∧ w' = w) := fun c w h1 h2 => pick_any c 9223372036854775807 (by decide) h1 h2 (by decide) w
  have HN : Hid (-9223372036854775808 ≤ N ∧ N ≤ 9223372036854775807) := ⟨hN1, hN2⟩
  have HN' : Hid (-9223372036854775808 ≤ N' ∧ N' ≤ 9223372036854775807) := ⟨hN1', hN2'⟩
  subst hR
  clear b0 b1 r1 r2 hv hv' hd hd' 
  go_enter Try.func11, Try.ntmps11
  go_wp2_with fail
  rw [← hX]
  clear hX
  refine (HP.out X).mono ?_
  rintro e w2 ⟨rfl, rfl⟩
  go_wp2_with fail
  go_quiet ((go_at_call 9; refine Calls.quiet_of (quiet_same (PP.out _ _ ?_ ?_)) <;> first | exact HN.out.1 | exact HN.out.2 | exact HN'.out.1 | exact HN'.out.2))
  go_wp2
  go_ret
  exact ⟨rfl, HB1.out.trans (drew_b _ _)⟩

set_option maxRecDepth 100000 in
set_option maxHeartbeats 2000000 in
theorem apart_3 (N N' : Int) (hN1 : -9223372036854775808 ≤ N) (hN2 : N ≤ 9223372036854775807) (hN1' : -9223372036854775808 ≤ N') (hN2' : N' ≤ 9223372036854775807) (d d' : List (BitVec 8)) (n n' : Nat) (hd : d.length = n) (hd' : d'.length = n') (hn : n ≤ 4194304) (hn' : n' ≤ 4194304) (B B' : Option Addr) (cb cb' : Nat) (m0 m1 m2 m3 p0 p1 p2 p3 : Nat) (u u' : Value) (w : World) (hv : SlAt w (.slice B n cb) d) (hv' : SlAt w (.slice B' n' cb') d') (R : Bool) (hR : ap 3 N N' d d' [m0, m1, m2, m3] [p0, p1, p2, p3] = R) :
    Calls Try.prog 11 #[.agg (sc 3 N (.slice B n cb) m0 m1 m2 m3 u).toArray, .agg (sc 3 N' (.slice B' n' cb') p0 p1 p2 p3 u').toArray] w fun e w' => e = .returned (.bool R) ∧ Below w.heap.size w w' := by
  have hall := And.intro hN1 (And.intro hN2 (And.intro hN1' (And.intro hN2' (And.intro hd (And.intro hd' (And.intro hn (And.intro hn' (And.intro hv hv'))))))))
  clear hall
  obtain ⟨X, hX⟩ : ∃ X, X = (w.alloc (Obj.cells (sc 3 N (.slice B n cb) m0 m1 m2 m3 u).toArray 28)).alloc (Obj.cells (sc 3 N' (.slice B' n' cb') p0 p1 p2 p3 u').toArray 28) := ⟨_, rfl⟩
  have b0 : Below w.heap.size w (w.alloc (Obj.cells (sc 3 N (.slice B n cb) m0 m1 m2 m3 u).toArray 28)) := (Below.refl _ _).alloc (Nat.le_refl _) _
  have b1 : Below w.heap.size w X := by rw [hX]; exact b0.alloc b0.size _
  have r1 : Row X w.heap.size (sc 3 N (.slice B n cb) m0 m1 m2 m3 u) 28 := by rw [hX]; exact (Row.new' rfl rfl).alloc _
  have r2 : Row X (w.heap.size + 1) (sc 3 N' (.slice B' n' cb') p0 p1 p2 p3 u') 28 := by rw [hX]; exact Row.new' (by simp) rfl
  have g0 := r1.cell 0 _ rfl
  have g1 := r1.cell 1 _ rfl
  have g2 := r1.cell 2 _ rfl
  have k1 := r2.cell 1 _ rfl
  have k2 := r2.cell 2 _ rfl
  have HP : Hid (∀ w, _) := fun w => pick_any 3 7 (by decide) (by decide) (by decide) (by decide) w
  rw [show pk 3 7 = 3 from pk_same 3 7 (by decide) (by decide)] at HP
  have HB1 : Hid (Below w.heap.size w X) := b1
  unfold ap at hR
  simp only at hR
  have HS : Hid _ := same_any d d' n n' hd hd' (by omega) (by omega) B B' cb cb' X (hv.be b1) (hv'.be b1) (decide (d = d')) rfl
  generalize decide (d = d') = Q at *
  subst hR
  clear b0 b1 r1 r2 hv hv' hd hd' 
  go_enter Try.func11, Try.ntmps11
  go_wp2_with fail
  rw [← hX]
  clear hX
  refine (HP.out X).mono ?_
  rintro e w2 ⟨rfl, rfl⟩
  go_wp2_with fail
  refine Calls.mono HS.out ?_
  rintro r w3 ⟨rfl, q, hq⟩
  have HQ : Hid _ := hq
  clear hq HS
  go_wp2_with fail
  go_ret
  exact ⟨rfl, by rw [HQ.out]; exact HB1.out.trans (drew_b _ _)⟩

end Go.Proofs.Ytmkmdbpibpbcjab
