/-
  The law's lays, of lists.
-/
import Derived.Test.YtmkmdbpibpbcjaaXPcs
import Derived.Test.YtmkmdbpibpbcjaaXLyN
import Derived.Test.YtmkmdbpibpbcjaaXLaysR
namespace Go.Proofs.Ytmkmdbpibpbcjaa
open Go Go.RowKit
open Sha

/-- The form of a list of pieces, of numbers. -/
def fo7 (d : List (BitVec 8)) (n s : Nat) : List (BitVec 8) := fm [cn n s, 0, 0, 0] (nb (cn n s) 0 0 0) ++ pfs (cts d s (cn n s)) (cn n s)
def fo8 (ns : List Int) (n : Nat) : List (BitVec 8) := fm [n, 0, 0, 0] (nb n 0 0 0) ++ fms (ng ns) n

set_option maxRecDepth 100000 in
set_option maxHeartbeats 4000000 in
theorem lays_l7 (w0 : World) (Q : Nat) (A : Option Addr) (cap : Nat) (xs : List (BitVec 8)) (K : Int) (hK1 : -9223372036854775808 ≤ K) (hK2 : K ≤ 9223372036854775807) (hk : pk K 9 = 7) (N : Int) (hN1 : -9223372036854775808 ≤ N) (hN2 : N ≤ 9223372036854775807) (B : Option Addr) (n cb : Nat) (m0 m1 m2 m3 : Nat) (L : Option Addr) (nl cl : Nat) (d : List (BitVec 8)) (hd : d.length = n) (hn : n ≤ 4194304) (s : Nat) (hs : ((s : Nat) : Int) = 1 + pk N 9) (hv : ∀ W, Below w0.heap.size w0 W → SlAt W (.slice B n cb) d) (hT : xs.length + (fo7 d n s).length ≤ 4194304) (w : World) (hw : Wk w0 w Q A cap (xs, 0)) :
    Calls Try.prog 21 #[.pointer (some ⟨Q, 0, none⟩), .agg (sc K N (.slice B n cb) m0 m1 m2 m3 (.slice L nl cl)).toArray] w fun e w' => e = .returned (.tuple #[]) ∧ ∃ A' cap', Wk w0 w' Q A' cap' (xs ++ fo7 d n s, 0) := by
  have HP : Hid (∀ w, _) := fun w => pick_any K 9 (by decide) hK1 hK2 (by decide) w
  rw [hk] at HP
  have b1 : Below w.heap.size w (w.alloc (Obj.cells (sc K N (.slice B n cb) m0 m1 m2 m3 (.slice L nl cl)).toArray 33)) := (Below.refl _ _).alloc (Nat.le_refl _) _
  have r1 : Row (w.alloc (Obj.cells (sc K N (.slice B n cb) m0 m1 m2 m3 (.slice L nl cl)).toArray 33)) w.heap.size (sc K N (.slice B n cb) m0 m1 m2 m3 (.slice L nl cl)) 33 := Row.new' rfl rfl
  have hw1 := hw.be b1
  have g0 := r1.cell 0 _ rfl
  have g1 := r1.cell 1 _ rfl
  have g2 := r1.cell 2 _ rfl
  have g7 := r1.cell 7 _ rfl
  have HW : Hid (Wk _ _ _ _ _ _) := hw1
  have HC : Hid _ := pieces_any B n cb d hd hn N hN1 hN2 s hs _ (hv _ hw1.below)
  have HT : Hid (xs.length + (fo7 d n s).length ≤ 4194304) := hT
  have HDN : Hid (d.length = n) := hd
  have hcn : cn n s ≤ 4194304 := by
    have h1 : 1 ≤ s := by have := pk_range N 9 (by decide); omega
    refine Nat.le_trans (Nat.le_of_not_lt fun hc => ?_) hn
    have h3 := (cn_lt n s n (by omega)).1 hc
    have := Nat.mul_le_mul_left n h1
    omega
  clear b1 r1 hw hw1 hv hd hs hT hK1 hK2 hk
  go_enter Try.func21, Try.ntmps21
  go_wp2_with fail
  refine Calls.mono (HP.out (w.alloc (Obj.cells (sc K N (.slice B n cb) m0 m1 m2 m3 (.slice L nl cl)).toArray 33))) ?_
  rintro e w2 ⟨rfl, rfl⟩
  generalize (w.alloc (Obj.cells (sc K N (.slice B n cb) m0 m1 m2 m3 (.slice L nl cl)).toArray 33)) = Y at *
  go_wp2_with fail
  refine Calls.mono HC.out ?_
  rintro e V ⟨⟨Av, cv, vs, rfl, hly⟩, hb⟩
  have hlb := HW.out.be hb
  have hwl : Wl w0 _ V Q A cap xs (.slice Av (cn n s) cv) vs (cts d s (cn n s)) := ⟨hlb, hly, fun g q r => by
    have h1 := (hly.lt g q).2
    rcases r with r | r
    · have := Row.lt HW.out.wr.1; omega
    · have := Bw.lt HW.out.wr.2 g r; omega⟩
  have HL : Hid _ := lay_bytes_w w0 _ Q A cap xs Av cv vs (cts d s (cn n s)) (cn n s) (cts_len _ _ _) hcn V hwl (by have := HT.out; unfold fo7 at this; rw [List.length_append] at this; exact this) (fun i hi => by
    unfold cts ct sub
    rw [List.getD_eq_getElem?_getD, List.getElem?_map, List.getElem?_range hi]
    simp only [Option.map_some, Option.getD_some, List.length_take, List.length_drop]
    have := HDN.out
    omega)
  clear hly hb hlb hwl HC g0 g1 g2 g7 HP HW
  change Hid (Calls _ _ _ _ fun e w' => _ ∧ ∃ A' cap', Wk w0 w' Q A' cap' (xs ++ fo7 d n s, 0)) at HL
  generalize cn n s = c at *
  go_wp2_with fail
  refine Calls.mono HL.out ?_
  rintro e V2 ⟨rfl, h2⟩
  have H2 : Hid _ := h2
  clear h2 HL
  go_wp2_with fail
  first | go_end0 | refine bodyPost_ret (results_none rfl _ _ _) rfl ?_
  exact ⟨rfl, H2.out⟩

set_option maxRecDepth 100000 in
set_option maxHeartbeats 4000000 in
theorem lays_l8 (w0 : World) (Q : Nat) (A : Option Addr) (cap : Nat) (xs : List (BitVec 8)) (K : Int) (hK1 : -9223372036854775808 ≤ K) (hK2 : K ≤ 9223372036854775807) (hk : pk K 9 = 8) (N : Int) (hN1 : -9223372036854775808 ≤ N) (hN2 : N ≤ 9223372036854775807) (B : Option Addr) (n cb : Nat) (m0 m1 m2 m3 : Nat) (L : Option Addr) (nl cl : Nat) (ns : List Int) (hd : ns.length = nl) (hn : nl ≤ 4194304) (hb : ∀ i, i < nl → -9223372036854775808 ≤ ns.getD i 0 ∧ ns.getD i 0 < 9223372036854775808) (hv : ∀ W, Below w0.heap.size w0 W → InAt W L ns) (hT : xs.length + (fo8 ns nl).length ≤ 4194304) (w : World) (hw : Wk w0 w Q A cap (xs, 0)) :
    Calls Try.prog 21 #[.pointer (some ⟨Q, 0, none⟩), .agg (sc K N (.slice B n cb) m0 m1 m2 m3 (.slice L nl cl)).toArray] w fun e w' => e = .returned (.tuple #[]) ∧ ∃ A' cap', Wk w0 w' Q A' cap' (xs ++ fo8 ns nl, 0) := by
  have HP : Hid (∀ w, _) := fun w => pick_any K 9 (by decide) hK1 hK2 (by decide) w
  rw [hk] at HP
  have b1 : Below w.heap.size w (w.alloc (Obj.cells (sc K N (.slice B n cb) m0 m1 m2 m3 (.slice L nl cl)).toArray 33)) := (Below.refl _ _).alloc (Nat.le_refl _) _
  have r1 : Row (w.alloc (Obj.cells (sc K N (.slice B n cb) m0 m1 m2 m3 (.slice L nl cl)).toArray 33)) w.heap.size (sc K N (.slice B n cb) m0 m1 m2 m3 (.slice L nl cl)) 33 := Row.new' rfl rfl
  have hw1 := hw.be b1
  have g0 := r1.cell 0 _ rfl
  have g1 := r1.cell 1 _ rfl
  have g2 := r1.cell 2 _ rfl
  have g7 := r1.cell 7 _ rfl
  have HW : Hid (Wk _ _ _ _ _ _) := hw1
  have hall := And.intro hN1 hN2
  have HC : Hid _ := positive_any L nl cl ns hd hn hb _ (hv _ hw1.below)
  have HT : Hid (xs.length + (fo8 ns nl).length ≤ 4194304) := hT
  have HDN : Hid (ns.length = nl) := hd
  clear b1 r1 hw hw1 hv hd hT hK1 hK2 hk hb hall
  go_enter Try.func21, Try.ntmps21
  go_wp2_with fail
  refine Calls.mono (HP.out (w.alloc (Obj.cells (sc K N (.slice B n cb) m0 m1 m2 m3 (.slice L nl cl)).toArray 33))) ?_
  rintro e w2 ⟨rfl, rfl⟩
  generalize (w.alloc (Obj.cells (sc K N (.slice B n cb) m0 m1 m2 m3 (.slice L nl cl)).toArray 33)) = Y at *
  go_wp2_with fail
  refine Calls.mono HC.out ?_
  rintro e V ⟨⟨Av, cv, rfl, hiw, hfr⟩, hb⟩
  have hlb := HW.out.be hb
  have hwl : Wi w0 V Q A cap xs (.slice Av nl cv) (ng ns) := ⟨hlb, hiw, fun g q r => by
    have h1 := hfr g q
    rcases r with r | r
    · have := Row.lt HW.out.wr.1; omega
    · have := Bw.lt HW.out.wr.2 g r; omega⟩
  have HL : Hid _ := lay_nums w0 Q A cap xs Av cv (ng ns) nl (by rw [ng_len]; exact HDN.out) hn V hwl (by have := HT.out; unfold fo8 at this; rw [List.length_append] at this; exact this) (fun i hi => ng_lt ns i)
  clear hiw hfr hb hlb hwl HC g0 g1 g2 g7 HP HW
  go_wp2_with fail
  refine Calls.mono HL.out ?_
  rintro e V2 ⟨rfl, h2⟩
  have H2 : Hid _ := h2
  clear h2 HL
  go_wp2_with fail
  first | go_end0 | refine bodyPost_ret (results_none rfl _ _ _) rfl ?_
  exact ⟨rfl, H2.out⟩

end Go.Proofs.Ytmkmdbpibpbcjaa
