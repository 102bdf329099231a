/-
  the outbox: Check, and the document's.
-/
import Derived.Test.YtehjadgmleoobaaDoorDwF
import Derived.Test.YtehjadgmleoobaaDoorObD
import Derived.Test.YtehjadgmleoobaaDoorTChkO
import Derived.Test.YtehjadgmleoobaaDoorTRck
import Derived.Test.YtehjadgmleoobaaDoorOcS
namespace Go.Proofs.YtehjadgmleoobaaDoor
open Go Go.RowKit
open Sha

/-- What Check answers. -/
def okc (root : List (BitVec 8)) (n ix en tk : Int) (rc : List (BitVec 8)) (am : List Nat) (ds : List (List (BitVec 8))) : Int :=
  if may ix en tk am = false then 110 else if n < 0 ∨ 1099511627776 < n then 112 else if n ≤ ix then 111 else if ck root n ix (lfb ix en tk rc am) ds = 0 then 0 else 113
theorem slToT {w : World} {v : Value} {d : List (BitVec 8)} (h : SlAt w v d) : SlAtT w v d := h
/-- A slot that holds bytes. -/
def SP.bs (d : List (BitVec 8)) : SP := ⟨fun W v => ∃ A cap, v = .slice A d.length cap ∧ (A = none → cap = 0) ∧ Bw W v d, fun _ _ _ hB ⟨A, c, e, h1, h2⟩ => ⟨A, c, e, h1, Bw.be h2 hB⟩⟩
theorem info_dgk (d : List (BitVec 8)) (h : d.length = 32) : (Tryd.prog.info? 25).map (·.size) = some (vB d).length := by rw [vB_length, h]; kernel_rfl
section
variable {o : Oper} {a : Act} {w : World} {K : Act → World → Prop} {Q : Exit → Act → World → Prop}
theorem wp_fl0 {x : Operand} (b : Nat) (ho : o.op = .fieldAddr 32 x 0) (hx : a.eval x = .pointer (some ⟨b, 0, none⟩)) (h : K (a.put o.dst (.pointer (some ⟨b, 0, none⟩))) w) : Oper.wp Tryd.prog o a w K Q := by
  unfold Oper.wp execOp
  simp only [ho, hx]
  go_simp
  exact h
theorem wp_rii {x : Operand} (ho : o.op = .load 3 x) (b f : Nat) (hx : a.eval x = .pointer (some ⟨b, f, none⟩)) (n : Int) (hc : w.cell? ⟨b, f, none⟩ = some (.int .i64 n)) (h : K (a.put o.dst (.int .i64 n)) w) : Oper.wp Tryd.prog o a w K Q := by
  unfold Oper.wp execOp
  simp only [ho, hx]
  go_simp
  exact h
end
set_option maxRecDepth 100000 in
set_option maxHeartbeats 4000000 in
theorem ocheck_any (root : List (BitVec 8)) (hroot : root.length = 32) (n ix en tk : Int) (rc : List (BitVec 8)) (am : List Nat) (hrc : rc.length = 20) (ham : am.length = 4) (hq4 : ∀ x ∈ am, x < 18446744073709551616) (L : List Value) (hL : L = lf ix en tk rc am) (ds : List (List (BitVec 8))) (PA : Option Addr) (k pc : Nat) (w : World) (hT : Tab w 2) (hp : PAt w (.slice PA k pc) ds) :
    Calls Tryd.prog 6 #[.agg (vB root).toArray, .int .i64 n, .agg L.toArray, (.slice PA k pc)] w fun e w' => e = .returned (.int .i64 (okc root n ix en tk rc am ds)) ∧ Below w.heap.size w w' := by
  have HI : Hid ((Tryd.prog.info? 32).map (·.size) = some L.length) := by rw [hL]; exact info_lf hrc ham
  have HID : Hid ((Tryd.prog.info? 25).map (·.size) = some (vB root).length) := info_dgk root hroot
  have HL0 : Hid (L[0]? = some (.int .i64 ix)) := by rw [hL]; rfl
  obtain ⟨O, hO⟩ : ∃ O, O = okc root n ix en tk rc am ds := ⟨_, rfl⟩
  rw [← hO]
  unfold okc at hO
  cases hm : may ix en tk am with
  | false =>
    rw [if_pos hm] at hO
    subst hO
    have HBY : Hid (∀ X, Calls Tryd.prog 20 #[.agg L.toArray] X fun e w' => e = .returned (.tuple #[.slice none 0 0, .int .i64 110]) ∧ Below X.heap.size X w') := fun X => bytes_no ix en tk rc am hrc ham hm L hL X
    clear hm hq4 hT hp hL hrc ham hroot
    go_enter Tryd.func6, Tryd.ntmps6
    go_upto_region 1 with (first
      | (refine wpList_boxG 25 rfl (.tmp 0) rfl (vB root) rfl ?_; intro X1 q1 q2 q3; have R1 : Hid (Row X1 w.heap.size (vB root) 25) := q1; have B1 : Hid (Below w.heap.size w X1) := q2; clear q1 q2 q3; simp only [Act.put, List.setIfInBounds_toArray, List.set_cons_zero, List.set_cons_succ])
      | (refine wpList_boxG 32 rfl (.tmp 2) rfl L rfl ?_; intro X2 q1 q2 q3; have R2 : Hid (Row X2 X1.heap.size L 32) := q1; have B2 : Hid (Below w.heap.size w X2) := B1.out.trans (q2.mono B1.out.size); have R1b : Hid (Row X2 w.heap.size (vB root) 25) := Row.below R1.out q2 R1.out.lt; clear q1 q2 q3; simp only [Act.put, List.setIfInBounds_toArray, List.set_cons_zero, List.set_cons_succ]))
    obtain ⟨y, hy⟩ : ∃ y, y = X1.heap.size := ⟨_, rfl⟩
    obtain ⟨x, hx⟩ : ∃ x, x = w.heap.size := ⟨_, rfl⟩
    rw [← hy] at R2 ⊢
    rw [← hx] at R1b ⊢
    clear hy hx R1 B1
    go_wp2_with (first
      | (refine wpList_load_w rfl 32 (.tmp 6) rfl y (0) rfl L _ R2.out.all Tryd.underlying32 rfl HI.out ?_; simp only [Act.put, List.setIfInBounds_toArray, List.set_cons_zero, List.set_cons_succ])
      | (go_at_call 20; refine Calls.mono (HBY.out X2) ?_; rintro e X3 ⟨rfl, q⟩; have B3 : Hid (Below w.heap.size w X3) := B2.out.trans (q.mono B2.out.size); clear q))
    go_ret
    exact ⟨rfl, B3.out⟩
  | true =>
    rw [if_neg (by rw [hm]; decide)] at hO
    obtain ⟨T, hTx⟩ : ∃ T, T = lfb ix en tk rc am := ⟨_, rfl⟩
    have hTl : T.length ≤ 153 := by rw [hTx]; exact lfb_len ix en tk rc am hrc
    have HBY : Hid (∀ X, Calls Tryd.prog 20 #[.agg L.toArray] X fun e w' => ∃ A m cap, e = .returned (.tuple #[.slice A m cap, .int .i64 0]) ∧ Bw w' (.slice A m cap) T ∧ Below X.heap.size X w') := fun X => by
      refine (bytes_ok ix en tk rc am hrc ham hq4 hm L hL X).mono ?_
      rintro e w' ⟨A, m, cap, _, q1, q2, _, q3⟩
      exact ⟨A, m, cap, q1, by rw [hTx]; exact q2, q3⟩
    obtain ⟨C, hC⟩ : ∃ C, C = ck root n ix T ds := ⟨_, rfl⟩
    have HCK : Hid (∀ X lv, Below w.heap.size w X → Bw X lv T → Calls Tryd.prog 21 #[.agg (vB root).toArray, .int .i64 n, .int .i64 ix, lv, (.slice PA k pc)] X fun e w' => e = .returned (.int .i64 C) ∧ Below X.heap.size X w') := fun X lv h1 h2 => by
      rw [hC]
      exact check_any n ix root T ds hroot (by omega) _ lv X (hT.below h1 hT.lt) (hp.below h1) (slToT (Bw.sl h2))
    rw [← hTx, ← hC] at hO
    have hmi := may_in hm
    have hix1 : ix < 1099511627776 := hmi.2.1
    clear hTx hC hm hq4 hT hp hL hrc ham hroot hTl hmi
    by_cases h1 : n < 0
    · rw [if_pos (.inl h1)] at hO
      subst hO
      go_enter Tryd.func6, Tryd.ntmps6
      go_upto_region 1 with (first
        | (refine wpList_boxG 25 rfl (.tmp 0) rfl (vB root) rfl ?_; intro X1 q1 q2 q3; have R1 : Hid (Row X1 w.heap.size (vB root) 25) := q1; have B1 : Hid (Below w.heap.size w X1) := q2; clear q1 q2 q3; simp only [Act.put, List.setIfInBounds_toArray, List.set_cons_zero, List.set_cons_succ])
        | (refine wpList_boxG 32 rfl (.tmp 2) rfl L rfl ?_; intro X2 q1 q2 q3; have R2 : Hid (Row X2 X1.heap.size L 32) := q1; have B2 : Hid (Below w.heap.size w X2) := B1.out.trans (q2.mono B1.out.size); have R1b : Hid (Row X2 w.heap.size (vB root) 25) := Row.below R1.out q2 R1.out.lt; clear q1 q2 q3; simp only [Act.put, List.setIfInBounds_toArray, List.set_cons_zero, List.set_cons_succ]))
      obtain ⟨y, hy⟩ : ∃ y, y = X1.heap.size := ⟨_, rfl⟩
      obtain ⟨x, hx⟩ : ∃ x, x = w.heap.size := ⟨_, rfl⟩
      rw [← hy] at R2 ⊢
      rw [← hx] at R1b ⊢
      clear hy hx R1 B1
      go_wp2_with (first
        | (refine wpList_load_w rfl 32 (.tmp 6) rfl y (0) rfl L _ R2.out.all Tryd.underlying32 rfl HI.out ?_; simp only [Act.put, List.setIfInBounds_toArray, List.set_cons_zero, List.set_cons_succ])
        | (go_at_call 20; refine Calls.mono (HBY.out X2) ?_; rintro e X3 ⟨A3, m3, c3, rfl, q1, q2⟩; have W3 : Hid (Bw X3 (.slice A3 m3 c3) T) := q1; have B3 : Hid (Below w.heap.size w X3) := B2.out.trans (q2.mono B2.out.size); have c0 := (Row.below R2.out q2 R2.out.lt).cell 0 _ HL0.out; have R3 : Hid (Row X3 x (vB root) 25) := Row.below R1b.out q2 R1b.out.lt; clear q1 q2)
        | (refine wpList_load_w rfl 25 (.tmp 4) rfl x (0) rfl (vB root) _ R3.out.all Tryd.underlying25 rfl HID.out ?_; simp only [Act.put, List.setIfInBounds_toArray, List.set_cons_zero, List.set_cons_succ])
        | (go_at_call 21; refine Calls.mono (HCK.out X3 _ B3.out W3.out) ?_; rintro e X4 ⟨rfl, q⟩; have B4 : Hid (Below w.heap.size w X4) := B3.out.trans (q.mono B3.out.size); clear q))
      go_ret
      exact ⟨rfl, B3.out⟩
    by_cases h2 : (1099511627776 : Int) < n
    · rw [if_pos (.inr h2)] at hO
      have h2b : ¬ (n ≤ (1099511627776 : Int)) := by omega
      subst hO
      go_enter Tryd.func6, Tryd.ntmps6
      go_upto_region 1 with (first
        | (refine wpList_boxG 25 rfl (.tmp 0) rfl (vB root) rfl ?_; intro X1 q1 q2 q3; have R1 : Hid (Row X1 w.heap.size (vB root) 25) := q1; have B1 : Hid (Below w.heap.size w X1) := q2; clear q1 q2 q3; simp only [Act.put, List.setIfInBounds_toArray, List.set_cons_zero, List.set_cons_succ])
        | (refine wpList_boxG 32 rfl (.tmp 2) rfl L rfl ?_; intro X2 q1 q2 q3; have R2 : Hid (Row X2 X1.heap.size L 32) := q1; have B2 : Hid (Below w.heap.size w X2) := B1.out.trans (q2.mono B1.out.size); have R1b : Hid (Row X2 w.heap.size (vB root) 25) := Row.below R1.out q2 R1.out.lt; clear q1 q2 q3; simp only [Act.put, List.setIfInBounds_toArray, List.set_cons_zero, List.set_cons_succ]))
      obtain ⟨y, hy⟩ : ∃ y, y = X1.heap.size := ⟨_, rfl⟩
      obtain ⟨x, hx⟩ : ∃ x, x = w.heap.size := ⟨_, rfl⟩
      rw [← hy] at R2 ⊢
      rw [← hx] at R1b ⊢
      clear hy hx R1 B1
      go_wp2_with (first
        | (refine wpList_load_w rfl 32 (.tmp 6) rfl y (0) rfl L _ R2.out.all Tryd.underlying32 rfl HI.out ?_; simp only [Act.put, List.setIfInBounds_toArray, List.set_cons_zero, List.set_cons_succ])
        | (go_at_call 20; refine Calls.mono (HBY.out X2) ?_; rintro e X3 ⟨A3, m3, c3, rfl, q1, q2⟩; have W3 : Hid (Bw X3 (.slice A3 m3 c3) T) := q1; have B3 : Hid (Below w.heap.size w X3) := B2.out.trans (q2.mono B2.out.size); have c0 := (Row.below R2.out q2 R2.out.lt).cell 0 _ HL0.out; have R3 : Hid (Row X3 x (vB root) 25) := Row.below R1b.out q2 R1b.out.lt; clear q1 q2)
        | (refine wpList_load_w rfl 25 (.tmp 4) rfl x (0) rfl (vB root) _ R3.out.all Tryd.underlying25 rfl HID.out ?_; simp only [Act.put, List.setIfInBounds_toArray, List.set_cons_zero, List.set_cons_succ])
        | (go_at_call 21; refine Calls.mono (HCK.out X3 _ B3.out W3.out) ?_; rintro e X4 ⟨rfl, q⟩; have B4 : Hid (Below w.heap.size w X4) := B3.out.trans (q.mono B3.out.size); clear q))
      go_ret
      exact ⟨rfl, B3.out⟩
    rw [if_neg (by omega)] at hO
    by_cases h3 : n ≤ ix
    · rw [if_pos h3] at hO
      subst hO
      go_enter Tryd.func6, Tryd.ntmps6
      go_upto_region 1 with (first
        | (refine wpList_boxG 25 rfl (.tmp 0) rfl (vB root) rfl ?_; intro X1 q1 q2 q3; have R1 : Hid (Row X1 w.heap.size (vB root) 25) := q1; have B1 : Hid (Below w.heap.size w X1) := q2; clear q1 q2 q3; simp only [Act.put, List.setIfInBounds_toArray, List.set_cons_zero, List.set_cons_succ])
        | (refine wpList_boxG 32 rfl (.tmp 2) rfl L rfl ?_; intro X2 q1 q2 q3; have R2 : Hid (Row X2 X1.heap.size L 32) := q1; have B2 : Hid (Below w.heap.size w X2) := B1.out.trans (q2.mono B1.out.size); have R1b : Hid (Row X2 w.heap.size (vB root) 25) := Row.below R1.out q2 R1.out.lt; clear q1 q2 q3; simp only [Act.put, List.setIfInBounds_toArray, List.set_cons_zero, List.set_cons_succ]))
      obtain ⟨y, hy⟩ : ∃ y, y = X1.heap.size := ⟨_, rfl⟩
      obtain ⟨x, hx⟩ : ∃ x, x = w.heap.size := ⟨_, rfl⟩
      rw [← hy] at R2 ⊢
      rw [← hx] at R1b ⊢
      clear hy hx R1 B1
      go_wp2_with (first
        | (refine wpList_load_w rfl 32 (.tmp 6) rfl y (0) rfl L _ R2.out.all Tryd.underlying32 rfl HI.out ?_; simp only [Act.put, List.setIfInBounds_toArray, List.set_cons_zero, List.set_cons_succ])
        | (go_at_call 20; refine Calls.mono (HBY.out X2) ?_; rintro e X3 ⟨A3, m3, c3, rfl, q1, q2⟩; have W3 : Hid (Bw X3 (.slice A3 m3 c3) T) := q1; have B3 : Hid (Below w.heap.size w X3) := B2.out.trans (q2.mono B2.out.size); have c0 := (Row.below R2.out q2 R2.out.lt).cell 0 _ HL0.out; have R3 : Hid (Row X3 x (vB root) 25) := Row.below R1b.out q2 R1b.out.lt; clear q1 q2)
        | (refine wpList_load_w rfl 25 (.tmp 4) rfl x (0) rfl (vB root) _ R3.out.all Tryd.underlying25 rfl HID.out ?_; simp only [Act.put, List.setIfInBounds_toArray, List.set_cons_zero, List.set_cons_succ])
        | (go_at_call 21; refine Calls.mono (HCK.out X3 _ B3.out W3.out) ?_; rintro e X4 ⟨rfl, q⟩; have B4 : Hid (Below w.heap.size w X4) := B3.out.trans (q.mono B3.out.size); clear q))
      go_ret
      exact ⟨rfl, B3.out⟩
    rw [if_neg h3] at hO
    by_cases h4 : C = 0
    · rw [if_pos h4] at hO
      subst h4
      subst hO
      go_enter Tryd.func6, Tryd.ntmps6
      go_upto_region 1 with (first
        | (refine wpList_boxG 25 rfl (.tmp 0) rfl (vB root) rfl ?_; intro X1 q1 q2 q3; have R1 : Hid (Row X1 w.heap.size (vB root) 25) := q1; have B1 : Hid (Below w.heap.size w X1) := q2; clear q1 q2 q3; simp only [Act.put, List.setIfInBounds_toArray, List.set_cons_zero, List.set_cons_succ])
        | (refine wpList_boxG 32 rfl (.tmp 2) rfl L rfl ?_; intro X2 q1 q2 q3; have R2 : Hid (Row X2 X1.heap.size L 32) := q1; have B2 : Hid (Below w.heap.size w X2) := B1.out.trans (q2.mono B1.out.size); have R1b : Hid (Row X2 w.heap.size (vB root) 25) := Row.below R1.out q2 R1.out.lt; clear q1 q2 q3; simp only [Act.put, List.setIfInBounds_toArray, List.set_cons_zero, List.set_cons_succ]))
      obtain ⟨y, hy⟩ : ∃ y, y = X1.heap.size := ⟨_, rfl⟩
      obtain ⟨x, hx⟩ : ∃ x, x = w.heap.size := ⟨_, rfl⟩
      rw [← hy] at R2 ⊢
      rw [← hx] at R1b ⊢
      clear hy hx R1 B1
      go_wp2_with (first
        | (refine wpList_load_w rfl 32 (.tmp 6) rfl y (0) rfl L _ R2.out.all Tryd.underlying32 rfl HI.out ?_; simp only [Act.put, List.setIfInBounds_toArray, List.set_cons_zero, List.set_cons_succ])
        | (go_at_call 20; refine Calls.mono (HBY.out X2) ?_; rintro e X3 ⟨A3, m3, c3, rfl, q1, q2⟩; have W3 : Hid (Bw X3 (.slice A3 m3 c3) T) := q1; have B3 : Hid (Below w.heap.size w X3) := B2.out.trans (q2.mono B2.out.size); have c0 := (Row.below R2.out q2 R2.out.lt).cell 0 _ HL0.out; have R3 : Hid (Row X3 x (vB root) 25) := Row.below R1b.out q2 R1b.out.lt; clear q1 q2)
        | (refine wpList_load_w rfl 25 (.tmp 4) rfl x (0) rfl (vB root) _ R3.out.all Tryd.underlying25 rfl HID.out ?_; simp only [Act.put, List.setIfInBounds_toArray, List.set_cons_zero, List.set_cons_succ])
        | (go_at_call 21; refine Calls.mono (HCK.out X3 _ B3.out W3.out) ?_; rintro e X4 ⟨rfl, q⟩; have B4 : Hid (Below w.heap.size w X4) := B3.out.trans (q.mono B3.out.size); clear q))
      go_ret
      exact ⟨rfl, B4.out⟩
    · rw [if_neg h4] at hO
      subst hO
      go_enter Tryd.func6, Tryd.ntmps6
      go_upto_region 1 with (first
        | (refine wpList_boxG 25 rfl (.tmp 0) rfl (vB root) rfl ?_; intro X1 q1 q2 q3; have R1 : Hid (Row X1 w.heap.size (vB root) 25) := q1; have B1 : Hid (Below w.heap.size w X1) := q2; clear q1 q2 q3; simp only [Act.put, List.setIfInBounds_toArray, List.set_cons_zero, List.set_cons_succ])
        | (refine wpList_boxG 32 rfl (.tmp 2) rfl L rfl ?_; intro X2 q1 q2 q3; have R2 : Hid (Row X2 X1.heap.size L 32) := q1; have B2 : Hid (Below w.heap.size w X2) := B1.out.trans (q2.mono B1.out.size); have R1b : Hid (Row X2 w.heap.size (vB root) 25) := Row.below R1.out q2 R1.out.lt; clear q1 q2 q3; simp only [Act.put, List.setIfInBounds_toArray, List.set_cons_zero, List.set_cons_succ]))
      obtain ⟨y, hy⟩ : ∃ y, y = X1.heap.size := ⟨_, rfl⟩
      obtain ⟨x, hx⟩ : ∃ x, x = w.heap.size := ⟨_, rfl⟩
      rw [← hy] at R2 ⊢
      rw [← hx] at R1b ⊢
      clear hy hx R1 B1
      go_wp2_with (first
        | (refine wpList_load_w rfl 32 (.tmp 6) rfl y (0) rfl L _ R2.out.all Tryd.underlying32 rfl HI.out ?_; simp only [Act.put, List.setIfInBounds_toArray, List.set_cons_zero, List.set_cons_succ])
        | (go_at_call 20; refine Calls.mono (HBY.out X2) ?_; rintro e X3 ⟨A3, m3, c3, rfl, q1, q2⟩; have W3 : Hid (Bw X3 (.slice A3 m3 c3) T) := q1; have B3 : Hid (Below w.heap.size w X3) := B2.out.trans (q2.mono B2.out.size); have c0 := (Row.below R2.out q2 R2.out.lt).cell 0 _ HL0.out; have R3 : Hid (Row X3 x (vB root) 25) := Row.below R1b.out q2 R1b.out.lt; clear q1 q2)
        | (refine wpList_load_w rfl 25 (.tmp 4) rfl x (0) rfl (vB root) _ R3.out.all Tryd.underlying25 rfl HID.out ?_; simp only [Act.put, List.setIfInBounds_toArray, List.set_cons_zero, List.set_cons_succ])
        | (go_at_call 21; refine Calls.mono (HCK.out X3 _ B3.out W3.out) ?_; rintro e X4 ⟨rfl, q⟩; have B4 : Hid (Below w.heap.size w X4) := B3.out.trans (q.mono B3.out.size); clear q))
      go_ret
      exact ⟨rfl, B4.out⟩
set_option maxRecDepth 100000 in
set_option maxHeartbeats 4000000 in
theorem rocheck_any (root : List (BitVec 8)) (hroot : root.length = 32) (n ix en tk : Int) (rc : List (BitVec 8)) (am : List Nat) (hrc : rc.length = 20) (ham : am.length = 4) (hq4 : ∀ x ∈ am, x < 18446744073709551616) (L : List Value) (hL : L = lf ix en tk rc am) (ds : List (List (BitVec 8))) (PA : Option Addr) (k pc : Nat) (hk : k = ds.length) (w : World) (hG : Given w) (hp : PAt w (.slice PA k pc) ds) :
    Calls Tryd.prog 7 #[.agg (vB root).toArray, .int .i64 n, .agg L.toArray, (.slice PA k pc)] w fun e w' => e = .returned (.int .i64 (okc root n ix en tk rc am ds)) ∧ Below w.heap.size w w' := by
  have HI : Hid ((Tryd.prog.info? 32).map (·.size) = some L.length) := by rw [hL]; exact info_lf hrc ham
  have HID : Hid ((Tryd.prog.info? 25).map (·.size) = some (vB root).length) := info_dgk root hroot
  have HL0 : Hid (L[0]? = some (.int .i64 ix)) := by rw [hL]; rfl
  obtain ⟨O, hO⟩ : ∃ O, O = okc root n ix en tk rc am ds := ⟨_, rfl⟩
  rw [← hO]
  obtain ⟨M, hM⟩ : ∃ M, M = may ix en tk am := ⟨_, rfl⟩
  have HMY : Hid (∀ X, Calls Tryd.prog 22 #[.agg L.toArray] X fun e w' => e = .returned (.bool M) ∧ Below X.heap.size X w') := fun X => by rw [hM]; exact may_doc ix en tk rc am hrc ham L hL X
  unfold okc at hO
  cases M with
  | false =>
    rw [if_pos hM.symm] at hO
    subst hO
    clear hM hq4 hG hp hk hL hrc ham hroot
    go_enter Tryd.func7, Tryd.ntmps7
    go_upto_region 1 with (first
      | (refine wpList_boxG 25 rfl (.tmp 0) rfl (vB root) rfl ?_; intro X1 q1 q2 q3; have R1 : Hid (Row X1 w.heap.size (vB root) 25) := q1; have B1 : Hid (Below w.heap.size w X1) := q2; clear q1 q2 q3; simp only [Act.put, List.setIfInBounds_toArray, List.set_cons_zero, List.set_cons_succ])
      | (refine wpList_boxG 32 rfl (.tmp 2) rfl L rfl ?_; intro X2 q1 q2 q3; have R2 : Hid (Row X2 X1.heap.size L 32) := q1; have B2 : Hid (Below w.heap.size w X2) := B1.out.trans (q2.mono B1.out.size); have R1b : Hid (Row X2 w.heap.size (vB root) 25) := Row.below R1.out q2 R1.out.lt; clear q1 q2 q3; simp only [Act.put, List.setIfInBounds_toArray, List.set_cons_zero, List.set_cons_succ]))
    obtain ⟨y, hy⟩ : ∃ y, y = X1.heap.size := ⟨_, rfl⟩
    obtain ⟨x, hx⟩ : ∃ x, x = w.heap.size := ⟨_, rfl⟩
    rw [← hy] at R2 ⊢
    rw [← hx] at R1b ⊢
    clear hy hx R1 B1
    go_wp2_with (first
      | (refine wpList_load_w rfl 32 (.tmp 6) rfl y (0) rfl L _ R2.out.all Tryd.underlying32 rfl HI.out ?_; simp only [Act.put, List.setIfInBounds_toArray, List.set_cons_zero, List.set_cons_succ]) | (go_at_call 22; refine Calls.mono (HMY.out X2) ?_; rintro e X3 ⟨rfl, q⟩; have B3 : Hid (Below w.heap.size w X3) := B2.out.trans (q.mono B2.out.size); have c0 := (Row.below R2.out q R2.out.lt).cell 0 _ HL0.out; have R3 : Hid (Row X3 x (vB root) 25) := Row.below R1b.out q R1b.out.lt; have R3y : Hid (Row X3 y L 32) := Row.below R2.out q R2.out.lt; clear q))
    go_ret
    exact ⟨rfl, B3.out⟩
  | true =>
    rw [if_neg (by rw [← hM]; decide)] at hO
    obtain ⟨T, hTx⟩ : ∃ T, T = lfb ix en tk rc am := ⟨_, rfl⟩
    have hTl : T.length ≤ 153 := by rw [hTx]; exact lfb_len ix en tk rc am hrc
    have hmi := may_in hM.symm
    have HFO : Hid (∀ X, Calls Tryd.prog 24 #[.agg L.toArray] X fun e w' => ∃ A cap, e = .returned (.slice A T.length cap) ∧ (A = none → cap = 0) ∧ Bw w' (.slice A T.length cap) T ∧ Below X.heap.size X w') := fun X => by
      refine (form_doc ix en tk (by omega) (by omega) (by omega) rc am hrc ham hq4 L hL X).mono ?_
      rintro e w' ⟨v, rfl, q1, _, q3⟩
      rw [formB_may ix en tk rc am hM.symm, ← hTx] at q1
      obtain ⟨A, cap, e, _, hn⟩ := Bw.form q1
      subst e
      exact ⟨A, cap, rfl, hn, q1, q3⟩
    obtain ⟨C, hC⟩ : ∃ C, C = ck root n ix T ds := ⟨_, rfl⟩
    have HCK : Hid (∀ X A cap, Below w.heap.size w X → (A = none → cap = 0) → Bw X (.slice A T.length cap) T → Calls Tryd.prog 23 #[.agg (vB root).toArray, .int .i64 n, .int .i64 ix, .slice A T.length cap, (.slice PA k pc)] X fun e w' => e = .returned (.int .i64 C) ∧ Below X.heap.size X w') := fun X A cap h1 h0 h2 => by
      rw [hC, hk]
      exact rcheck_any n ix root T ds hroot (by omega) A PA cap pc h0 X (hG.low h1) (slToT (Bw.sl h2)) (by rw [← hk]; exact hp.below h1)
    rw [← hTx, ← hC] at hO
    have hix1 : ix < 1099511627776 := hmi.2.1
    clear hTx hC hM hq4 hG hp hk hL hrc ham hroot hTl hmi
    by_cases h1 : n < 0
    · rw [if_pos (.inl h1)] at hO
      subst hO
      go_enter Tryd.func7, Tryd.ntmps7
      go_upto_region 1 with (first
        | (refine wpList_boxG 25 rfl (.tmp 0) rfl (vB root) rfl ?_; intro X1 q1 q2 q3; have R1 : Hid (Row X1 w.heap.size (vB root) 25) := q1; have B1 : Hid (Below w.heap.size w X1) := q2; clear q1 q2 q3; simp only [Act.put, List.setIfInBounds_toArray, List.set_cons_zero, List.set_cons_succ])
        | (refine wpList_boxG 32 rfl (.tmp 2) rfl L rfl ?_; intro X2 q1 q2 q3; have R2 : Hid (Row X2 X1.heap.size L 32) := q1; have B2 : Hid (Below w.heap.size w X2) := B1.out.trans (q2.mono B1.out.size); have R1b : Hid (Row X2 w.heap.size (vB root) 25) := Row.below R1.out q2 R1.out.lt; clear q1 q2 q3; simp only [Act.put, List.setIfInBounds_toArray, List.set_cons_zero, List.set_cons_succ]))
      obtain ⟨y, hy⟩ : ∃ y, y = X1.heap.size := ⟨_, rfl⟩
      obtain ⟨x, hx⟩ : ∃ x, x = w.heap.size := ⟨_, rfl⟩
      rw [← hy] at R2 ⊢
      rw [← hx] at R1b ⊢
      clear hy hx R1 B1
      go_wp2_with (first
        | (refine wpList_load_w rfl 32 (.tmp 6) rfl y (0) rfl L _ R2.out.all Tryd.underlying32 rfl HI.out ?_; simp only [Act.put, List.setIfInBounds_toArray, List.set_cons_zero, List.set_cons_succ]) | (go_at_call 22; refine Calls.mono (HMY.out X2) ?_; rintro e X3 ⟨rfl, q⟩; have B3 : Hid (Below w.heap.size w X3) := B2.out.trans (q.mono B2.out.size); have c0 := (Row.below R2.out q R2.out.lt).cell 0 _ HL0.out; have R3 : Hid (Row X3 x (vB root) 25) := Row.below R1b.out q R1b.out.lt; have R3y : Hid (Row X3 y L 32) := Row.below R2.out q R2.out.lt; clear q))
      go_ret
      exact ⟨rfl, B3.out⟩
    by_cases h2 : (1099511627776 : Int) < n
    · rw [if_pos (.inr h2)] at hO
      have h2b : ¬ (n ≤ (1099511627776 : Int)) := by omega
      subst hO
      go_enter Tryd.func7, Tryd.ntmps7
      go_upto_region 1 with (first
        | (refine wpList_boxG 25 rfl (.tmp 0) rfl (vB root) rfl ?_; intro X1 q1 q2 q3; have R1 : Hid (Row X1 w.heap.size (vB root) 25) := q1; have B1 : Hid (Below w.heap.size w X1) := q2; clear q1 q2 q3; simp only [Act.put, List.setIfInBounds_toArray, List.set_cons_zero, List.set_cons_succ])
        | (refine wpList_boxG 32 rfl (.tmp 2) rfl L rfl ?_; intro X2 q1 q2 q3; have R2 : Hid (Row X2 X1.heap.size L 32) := q1; have B2 : Hid (Below w.heap.size w X2) := B1.out.trans (q2.mono B1.out.size); have R1b : Hid (Row X2 w.heap.size (vB root) 25) := Row.below R1.out q2 R1.out.lt; clear q1 q2 q3; simp only [Act.put, List.setIfInBounds_toArray, List.set_cons_zero, List.set_cons_succ]))
      obtain ⟨y, hy⟩ : ∃ y, y = X1.heap.size := ⟨_, rfl⟩
      obtain ⟨x, hx⟩ : ∃ x, x = w.heap.size := ⟨_, rfl⟩
      rw [← hy] at R2 ⊢
      rw [← hx] at R1b ⊢
      clear hy hx R1 B1
      go_wp2_with (first
        | (refine wpList_load_w rfl 32 (.tmp 6) rfl y (0) rfl L _ R2.out.all Tryd.underlying32 rfl HI.out ?_; simp only [Act.put, List.setIfInBounds_toArray, List.set_cons_zero, List.set_cons_succ]) | (go_at_call 22; refine Calls.mono (HMY.out X2) ?_; rintro e X3 ⟨rfl, q⟩; have B3 : Hid (Below w.heap.size w X3) := B2.out.trans (q.mono B2.out.size); have c0 := (Row.below R2.out q R2.out.lt).cell 0 _ HL0.out; have R3 : Hid (Row X3 x (vB root) 25) := Row.below R1b.out q R1b.out.lt; have R3y : Hid (Row X3 y L 32) := Row.below R2.out q R2.out.lt; clear q))
      go_ret
      exact ⟨rfl, B3.out⟩
    rw [if_neg (by omega)] at hO
    by_cases h3 : n ≤ ix
    · rw [if_pos h3] at hO
      subst hO
      go_enter Tryd.func7, Tryd.ntmps7
      go_upto_region 1 with (first
        | (refine wpList_boxG 25 rfl (.tmp 0) rfl (vB root) rfl ?_; intro X1 q1 q2 q3; have R1 : Hid (Row X1 w.heap.size (vB root) 25) := q1; have B1 : Hid (Below w.heap.size w X1) := q2; clear q1 q2 q3; simp only [Act.put, List.setIfInBounds_toArray, List.set_cons_zero, List.set_cons_succ])
        | (refine wpList_boxG 32 rfl (.tmp 2) rfl L rfl ?_; intro X2 q1 q2 q3; have R2 : Hid (Row X2 X1.heap.size L 32) := q1; have B2 : Hid (Below w.heap.size w X2) := B1.out.trans (q2.mono B1.out.size); have R1b : Hid (Row X2 w.heap.size (vB root) 25) := Row.below R1.out q2 R1.out.lt; clear q1 q2 q3; simp only [Act.put, List.setIfInBounds_toArray, List.set_cons_zero, List.set_cons_succ]))
      obtain ⟨y, hy⟩ : ∃ y, y = X1.heap.size := ⟨_, rfl⟩
      obtain ⟨x, hx⟩ : ∃ x, x = w.heap.size := ⟨_, rfl⟩
      rw [← hy] at R2 ⊢
      rw [← hx] at R1b ⊢
      clear hy hx R1 B1
      go_wp2_with (first
        | (refine wpList_load_w rfl 32 (.tmp 6) rfl y (0) rfl L _ R2.out.all Tryd.underlying32 rfl HI.out ?_; simp only [Act.put, List.setIfInBounds_toArray, List.set_cons_zero, List.set_cons_succ]) | (go_at_call 22; refine Calls.mono (HMY.out X2) ?_; rintro e X3 ⟨rfl, q⟩; have B3 : Hid (Below w.heap.size w X3) := B2.out.trans (q.mono B2.out.size); have c0 := (Row.below R2.out q R2.out.lt).cell 0 _ HL0.out; have R3 : Hid (Row X3 x (vB root) 25) := Row.below R1b.out q R1b.out.lt; have R3y : Hid (Row X3 y L 32) := Row.below R2.out q R2.out.lt; clear q))
      go_ret
      exact ⟨rfl, B3.out⟩
    rw [if_neg h3] at hO
    by_cases h4 : C = 0
    · rw [if_pos h4] at hO
      subst hO
      subst h4
      go_enter Tryd.func7, Tryd.ntmps7
      go_upto_region 1 with (first
        | (refine wpList_boxG 25 rfl (.tmp 0) rfl (vB root) rfl ?_; intro X1 q1 q2 q3; have R1 : Hid (Row X1 w.heap.size (vB root) 25) := q1; have B1 : Hid (Below w.heap.size w X1) := q2; clear q1 q2 q3; simp only [Act.put, List.setIfInBounds_toArray, List.set_cons_zero, List.set_cons_succ])
        | (refine wpList_boxG 32 rfl (.tmp 2) rfl L rfl ?_; intro X2 q1 q2 q3; have R2 : Hid (Row X2 X1.heap.size L 32) := q1; have B2 : Hid (Below w.heap.size w X2) := B1.out.trans (q2.mono B1.out.size); have R1b : Hid (Row X2 w.heap.size (vB root) 25) := Row.below R1.out q2 R1.out.lt; clear q1 q2 q3; simp only [Act.put, List.setIfInBounds_toArray, List.set_cons_zero, List.set_cons_succ]))
      obtain ⟨y, hy⟩ : ∃ y, y = X1.heap.size := ⟨_, rfl⟩
      obtain ⟨x, hx⟩ : ∃ x, x = w.heap.size := ⟨_, rfl⟩
      rw [← hy] at R2 ⊢
      rw [← hx] at R1b ⊢
      clear hy hx R1 B1
      go_upto_region 7 with (first
        | (refine wpList_load_w rfl 32 (.tmp 6) rfl y (0) rfl L _ R2.out.all Tryd.underlying32 rfl HI.out ?_; simp only [Act.put, List.setIfInBounds_toArray, List.set_cons_zero, List.set_cons_succ]) | (go_at_call 22; refine Calls.mono (HMY.out X2) ?_; rintro e X3 ⟨rfl, q⟩; have B3 : Hid (Below w.heap.size w X3) := B2.out.trans (q.mono B2.out.size); have c0 := (Row.below R2.out q R2.out.lt).cell 0 _ HL0.out; have R3 : Hid (Row X3 x (vB root) 25) := Row.below R1b.out q R1b.out.lt; have R3y : Hid (Row X3 y L 32) := Row.below R2.out q R2.out.lt; clear q))
      have hb1 := B3.out
      have rx := R3.out
      have ry := R3y.out
      clear R1b R2 B2 B3 R3 R3y c0 HMY
      go_wp2_with fail
      refine wp_named fun a0 ha0 => ?_
      have hsz : a0.tmps.size = 33 := by rw [ha0]; rfl
      have zs1 : a0.eval (.tmp 1) = .int .i64 n := by rw [ha0]; rfl
      have zs3 : a0.eval (.tmp 3) = .slice PA k pc := by rw [ha0]; rfl
      have zs4 : a0.eval (.tmp 4) = .pointer (some ⟨x, 0, none⟩) := by rw [ha0]; rfl
      have zs6 : a0.eval (.tmp 6) = .pointer (some ⟨y, 0, none⟩) := by rw [ha0]; rfl
      obtain ⟨D, hD⟩ : ∃ D : List (Tmp × SP), D = [(23, SP.is (.agg (vB root).toArray)), (24, SP.is (.int .i64 n)), (25, SP.is (.pointer (some ⟨y, 0, none⟩))), (26, SP.is (.int .i64 ix)), (27, SP.is (.agg L.toArray)), (28, SP.bs T), (29, SP.is (.slice PA k pc)), (30, SP.is (.int .i64 0)), (9, SP.is (.int .i64 0))] := ⟨_, rfl⟩
      refine wp_region_down (by kernel_rfl) (fun listed ac W => listed.size = 9 ∧ Fp D a0 listed ac W ∧ Below w.heap.size w W ∧ Row W x ((vB root)) 25 ∧ Row W y L 32) ?_ ?_ ?_
      · exact ⟨by simp, Fp.start D a0 _ _, Below.drew hb1, Row.drew rx, Row.drew ry⟩
      · clear ha0 hb1 rx ry 
        intro listed ac W k hI hdn hk
        obtain ⟨hl, hF, hb1, rx, ry⟩ := hI
        have hk1 : k < 9 := List.mem_range.1 (List.mem_filter.1 hk).1
        have hl2 : ∀ j, (listed.setIfInBounds j true).size = 9 := fun j => by rw [Array.size_setIfInBounds]; exact hl
        rcases (show k = 0 ∨ k = 1 ∨ k = 2 ∨ k = 3 ∨ k = 4 ∨ k = 5 ∨ k = 6 ∨ k = 7 ∨ k = 8 by omega) with rfl | rfl | rfl | rfl | rfl | rfl | rfl | rfl | rfl
        · have hk3 := hk
          exact wpOp_plain rfl rfl (wp_load_mid 25 (.tmp 4) rfl x 0 ((hF.keep 4 (by rw [hD]; rfl)).trans zs4) ((vB root)) _ rx.all Tryd.underlying25 rfl HID.out ⟨hl2 0, (hF.put 0 23 (SP.is (.agg (vB root).toArray)) (.agg (vB root).toArray) (by rw [hD]; rfl) rfl (by rw [hD]; rfl) (by rw [hsz]; decide) (by rw [hl]; decide)), hb1, rx, ry⟩)
        · have hk3 := hk
          exact wpOp_plain rfl rfl (wp_move_v (ac.eval (.tmp 1)) rfl rfl ⟨hl2 1, (hF.put 1 24 (SP.is (.int .i64 n)) (ac.eval (.tmp 1)) (by rw [hD]; rfl) (((hF.keep 1 (by rw [hD]; rfl)).trans zs1)) (by rw [hD]; rfl) (by rw [hsz]; decide) (by rw [hl]; decide)), hb1, rx, ry⟩)
        · have hk3 := hk
          have e6 := ((hF.keep 6 (by rw [hD]; rfl)).trans zs6)
          exact wpOp_plain rfl rfl (wp_fl0 y rfl e6 ⟨hl2 2, (hF.put 2 25 (SP.is (.pointer (some ⟨y, 0, none⟩))) (.pointer (some ⟨y, 0, none⟩)) (by rw [hD]; rfl) rfl (by rw [hD]; rfl) (by rw [hsz]; decide) (by rw [hl]; decide)), hb1, rx, ry⟩)
        · have hk3 := hk
          have e25 := (hF.done 2 (25, SP.is (.pointer (some ⟨y, 0, none⟩))) (by rw [hD]; rfl) (ready_dep hk 2 (by kernel_rfl)))
          exact wpOp_plain rfl rfl (wp_rii rfl y 0 e25 ix (ry.cell 0 _ HL0.out) ⟨hl2 3, (hF.put 3 26 (SP.is (.int .i64 ix)) (.int .i64 ix) (by rw [hD]; rfl) rfl (by rw [hD]; rfl) (by rw [hsz]; decide) (by rw [hl]; decide)), hb1, rx, ry⟩)
        · have hk3 := hk
          exact wpOp_plain rfl rfl (wp_load_mid 32 (.tmp 6) rfl y 0 ((hF.keep 6 (by rw [hD]; rfl)).trans zs6) L _ ry.all Tryd.underlying32 rfl HI.out ⟨hl2 4, (hF.put 4 27 (SP.is (.agg L.toArray)) (.agg L.toArray) (by rw [hD]; rfl) rfl (by rw [hD]; rfl) (by rw [hsz]; decide) (by rw [hl]; decide)), hb1, rx, ry⟩)
        · have hk3 := hk
          have e27 := (hF.done 4 (27, SP.is (.agg L.toArray)) (by rw [hD]; rfl) (ready_dep hk 4 (by kernel_rfl)))
          refine wpOp_plain rfl rfl (wp_fcall_v 24 #[.agg L.toArray] rfl rfl (by show [ac.eval (.tmp 27)] = _; rw [show ac.eval (.tmp 27) = .agg L.toArray from e27]) (by go_simp) ((HFO.out W).mono ?_))
          rintro e W2 ⟨A8, c8, rfl, hn8, hb8, hB⟩
          exact ⟨_, rfl, hl2 5, ((hF.world hB).put 5 28 (SP.bs T) (.slice A8 T.length c8) (by rw [hD]; rfl) (⟨A8, c8, rfl, hn8, hb8⟩) (by rw [hD]; rfl) (by rw [hsz]; decide) (by rw [hl]; decide)), hb1.trans (hB.mono hb1.size), Row.below rx hB (Row.lt rx), Row.below ry hB (Row.lt ry)⟩
        · have hk3 := hk
          exact wpOp_plain rfl rfl (wp_move_v (ac.eval (.tmp 3)) rfl rfl ⟨hl2 6, (hF.put 6 29 (SP.is (.slice PA k pc)) (ac.eval (.tmp 3)) (by rw [hD]; rfl) (((hF.keep 3 (by rw [hD]; rfl)).trans zs3)) (by rw [hD]; rfl) (by rw [hsz]; decide) (by rw [hl]; decide)), hb1, rx, ry⟩)
        · have hk3 := hk
          have e23 := (hF.done 0 (23, SP.is (.agg (vB root).toArray)) (by rw [hD]; rfl) (ready_dep hk 0 (by kernel_rfl)))
          have e24 := (hF.done 1 (24, SP.is (.int .i64 n)) (by rw [hD]; rfl) (ready_dep hk 1 (by kernel_rfl)))
          have e26 := (hF.done 3 (26, SP.is (.int .i64 ix)) (by rw [hD]; rfl) (ready_dep hk 3 (by kernel_rfl)))
          obtain ⟨A8, c8, e28, hn8, hb8⟩ := (hF.done 5 (28, SP.bs T) (by rw [hD]; rfl) (ready_dep hk 5 (by kernel_rfl)))
          have e29 := (hF.done 6 (29, SP.is (.slice PA k pc)) (by rw [hD]; rfl) (ready_dep hk 6 (by kernel_rfl)))
          refine wpOp_plain rfl rfl (wp_fcall_v 23 #[.agg (vB root).toArray, .int .i64 n, .int .i64 ix, .slice A8 T.length c8, (.slice PA k pc)] rfl rfl (by show [ac.eval (.tmp 23), ac.eval (.tmp 24), ac.eval (.tmp 26), ac.eval (.tmp 28), ac.eval (.tmp 29)] = _; rw [show ac.eval (.tmp 23) = _ from e23, show ac.eval (.tmp 24) = _ from e24, show ac.eval (.tmp 26) = _ from e26, e28, show ac.eval (.tmp 29) = _ from e29]) (by go_simp) ((HCK.out W A8 c8 hb1 hn8 (by rw [e28] at hb8; exact hb8)).mono ?_))
          rintro e W2 ⟨rfl, hB⟩
          exact ⟨_, rfl, hl2 7, ((hF.world hB).put 7 30 (SP.is (.int .i64 0)) (.int .i64 0) (by rw [hD]; rfl) rfl (by rw [hD]; rfl) (by rw [hsz]; decide) (by rw [hl]; decide)), hb1.trans (hB.mono hb1.size), Row.below rx hB (Row.lt rx), Row.below ry hB (Row.lt ry)⟩
        · have hk3 := hk
          exact wpOp_plain rfl rfl (wp_assign_v (ac.eval (.tmp 30)) rfl rfl ⟨hl2 8, (hF.put 8 9 (SP.is (.int .i64 0)) (ac.eval (.tmp 30)) (by rw [hD]; rfl) ((hF.done 7 (30, SP.is (.int .i64 0)) (by rw [hD]; rfl) (ready_dep hk 7 (by kernel_rfl)))) (by rw [hD]; rfl) (by rw [hsz]; decide) (by rw [hl]; decide)), hb1, rx, ry⟩)
      · clear hb1 rx ry 
        intro listed ac W hI hr
        obtain ⟨hl, hF, hb1, rx, ry⟩ := hI
        have hall := all_listed (by kernel_rfl) hl hr
        have h23 : ac.eval (.tmp 23) = .agg (vB root).toArray := hF.done 0 (23, SP.is (.agg (vB root).toArray)) (by rw [hD]; rfl) (hall 0 (by decide))
        have h24 : ac.eval (.tmp 24) = .int .i64 n := hF.done 1 (24, SP.is (.int .i64 n)) (by rw [hD]; rfl) (hall 1 (by decide))
        have h25 : ac.eval (.tmp 25) = .pointer (some ⟨y, 0, none⟩) := hF.done 2 (25, SP.is (.pointer (some ⟨y, 0, none⟩))) (by rw [hD]; rfl) (hall 2 (by decide))
        have h26 : ac.eval (.tmp 26) = .int .i64 ix := hF.done 3 (26, SP.is (.int .i64 ix)) (by rw [hD]; rfl) (hall 3 (by decide))
        have h27 : ac.eval (.tmp 27) = .agg L.toArray := hF.done 4 (27, SP.is (.agg L.toArray)) (by rw [hD]; rfl) (hall 4 (by decide))
        obtain ⟨x28, h28⟩ : ∃ x, ac.eval (.tmp 28) = x := ⟨_, rfl⟩
        have h29 : ac.eval (.tmp 29) = .slice PA k pc := hF.done 6 (29, SP.is (.slice PA k pc)) (by rw [hD]; rfl) (hall 6 (by decide))
        have h30 : ac.eval (.tmp 30) = .int .i64 0 := hF.done 7 (30, SP.is (.int .i64 0)) (by rw [hD]; rfl) (hall 7 (by decide))
        have h9 : ac.eval (.tmp 9) = .int .i64 0 := hF.done 8 (9, SP.is (.int .i64 0)) (by rw [hD]; rfl) (hall 8 (by decide))
        have ea := hF.lay [(23, .agg (vB root).toArray), (24, .int .i64 n), (25, .pointer (some ⟨y, 0, none⟩)), (26, .int .i64 ix), (27, .agg L.toArray), (28, x28), (29, .slice PA k pc), (30, .int .i64 0), (9, .int .i64 0)] (by rw [hD, hsz]; rfl) (by simp only [List.forall_mem_cons, List.not_mem_nil, false_implies, implies_true, and_true]; exact ⟨h23, h24, h25, h26, h27, h28, h29, h30, h9⟩)
        rw [ha0] at ea
        simp only [List.foldl_cons, List.foldl_nil, List.setIfInBounds_toArray, List.set_cons_zero, List.set_cons_succ] at ea
        clear hF hall hr hl hD  zs1 zs3 zs4 zs6 ha0 hsz h23 h24 h25 h26 h27 h28 h29 h30 h9
        subst ea

        have HB : Hid (Below w.heap.size w W) := hb1
        clear hb1 rx ry HFO HCK
        go_wp2
        go_ret
        exact ⟨rfl, HB.out⟩
    · rw [if_neg h4] at hO
      subst hO
      go_enter Tryd.func7, Tryd.ntmps7
      go_upto_region 1 with (first
        | (refine wpList_boxG 25 rfl (.tmp 0) rfl (vB root) rfl ?_; intro X1 q1 q2 q3; have R1 : Hid (Row X1 w.heap.size (vB root) 25) := q1; have B1 : Hid (Below w.heap.size w X1) := q2; clear q1 q2 q3; simp only [Act.put, List.setIfInBounds_toArray, List.set_cons_zero, List.set_cons_succ])
        | (refine wpList_boxG 32 rfl (.tmp 2) rfl L rfl ?_; intro X2 q1 q2 q3; have R2 : Hid (Row X2 X1.heap.size L 32) := q1; have B2 : Hid (Below w.heap.size w X2) := B1.out.trans (q2.mono B1.out.size); have R1b : Hid (Row X2 w.heap.size (vB root) 25) := Row.below R1.out q2 R1.out.lt; clear q1 q2 q3; simp only [Act.put, List.setIfInBounds_toArray, List.set_cons_zero, List.set_cons_succ]))
      obtain ⟨y, hy⟩ : ∃ y, y = X1.heap.size := ⟨_, rfl⟩
      obtain ⟨x, hx⟩ : ∃ x, x = w.heap.size := ⟨_, rfl⟩
      rw [← hy] at R2 ⊢
      rw [← hx] at R1b ⊢
      clear hy hx R1 B1
      go_upto_region 7 with (first
        | (refine wpList_load_w rfl 32 (.tmp 6) rfl y (0) rfl L _ R2.out.all Tryd.underlying32 rfl HI.out ?_; simp only [Act.put, List.setIfInBounds_toArray, List.set_cons_zero, List.set_cons_succ]) | (go_at_call 22; refine Calls.mono (HMY.out X2) ?_; rintro e X3 ⟨rfl, q⟩; have B3 : Hid (Below w.heap.size w X3) := B2.out.trans (q.mono B2.out.size); have c0 := (Row.below R2.out q R2.out.lt).cell 0 _ HL0.out; have R3 : Hid (Row X3 x (vB root) 25) := Row.below R1b.out q R1b.out.lt; have R3y : Hid (Row X3 y L 32) := Row.below R2.out q R2.out.lt; clear q))
      have hb1 := B3.out
      have rx := R3.out
      have ry := R3y.out
      clear R1b R2 B2 B3 R3 R3y c0 HMY
      go_wp2_with fail
      refine wp_named fun a0 ha0 => ?_
      have hsz : a0.tmps.size = 33 := by rw [ha0]; rfl
      have zs1 : a0.eval (.tmp 1) = .int .i64 n := by rw [ha0]; rfl
      have zs3 : a0.eval (.tmp 3) = .slice PA k pc := by rw [ha0]; rfl
      have zs4 : a0.eval (.tmp 4) = .pointer (some ⟨x, 0, none⟩) := by rw [ha0]; rfl
      have zs6 : a0.eval (.tmp 6) = .pointer (some ⟨y, 0, none⟩) := by rw [ha0]; rfl
      obtain ⟨D, hD⟩ : ∃ D : List (Tmp × SP), D = [(23, SP.is (.agg (vB root).toArray)), (24, SP.is (.int .i64 n)), (25, SP.is (.pointer (some ⟨y, 0, none⟩))), (26, SP.is (.int .i64 ix)), (27, SP.is (.agg L.toArray)), (28, SP.bs T), (29, SP.is (.slice PA k pc)), (30, SP.is (.int .i64 C)), (9, SP.is (.int .i64 C))] := ⟨_, rfl⟩
      refine wp_region_down (by kernel_rfl) (fun listed ac W => listed.size = 9 ∧ Fp D a0 listed ac W ∧ Below w.heap.size w W ∧ Row W x ((vB root)) 25 ∧ Row W y L 32) ?_ ?_ ?_
      · exact ⟨by simp, Fp.start D a0 _ _, Below.drew hb1, Row.drew rx, Row.drew ry⟩
      · clear ha0 hb1 rx ry 
        intro listed ac W k hI hdn hk
        obtain ⟨hl, hF, hb1, rx, ry⟩ := hI
        have hk1 : k < 9 := List.mem_range.1 (List.mem_filter.1 hk).1
        have hl2 : ∀ j, (listed.setIfInBounds j true).size = 9 := fun j => by rw [Array.size_setIfInBounds]; exact hl
        rcases (show k = 0 ∨ k = 1 ∨ k = 2 ∨ k = 3 ∨ k = 4 ∨ k = 5 ∨ k = 6 ∨ k = 7 ∨ k = 8 by omega) with rfl | rfl | rfl | rfl | rfl | rfl | rfl | rfl | rfl
        · have hk3 := hk
          exact wpOp_plain rfl rfl (wp_load_mid 25 (.tmp 4) rfl x 0 ((hF.keep 4 (by rw [hD]; rfl)).trans zs4) ((vB root)) _ rx.all Tryd.underlying25 rfl HID.out ⟨hl2 0, (hF.put 0 23 (SP.is (.agg (vB root).toArray)) (.agg (vB root).toArray) (by rw [hD]; rfl) rfl (by rw [hD]; rfl) (by rw [hsz]; decide) (by rw [hl]; decide)), hb1, rx, ry⟩)
        · have hk3 := hk
          exact wpOp_plain rfl rfl (wp_move_v (ac.eval (.tmp 1)) rfl rfl ⟨hl2 1, (hF.put 1 24 (SP.is (.int .i64 n)) (ac.eval (.tmp 1)) (by rw [hD]; rfl) (((hF.keep 1 (by rw [hD]; rfl)).trans zs1)) (by rw [hD]; rfl) (by rw [hsz]; decide) (by rw [hl]; decide)), hb1, rx, ry⟩)
        · have hk3 := hk
          have e6 := ((hF.keep 6 (by rw [hD]; rfl)).trans zs6)
          exact wpOp_plain rfl rfl (wp_fl0 y rfl e6 ⟨hl2 2, (hF.put 2 25 (SP.is (.pointer (some ⟨y, 0, none⟩))) (.pointer (some ⟨y, 0, none⟩)) (by rw [hD]; rfl) rfl (by rw [hD]; rfl) (by rw [hsz]; decide) (by rw [hl]; decide)), hb1, rx, ry⟩)
        · have hk3 := hk
          have e25 := (hF.done 2 (25, SP.is (.pointer (some ⟨y, 0, none⟩))) (by rw [hD]; rfl) (ready_dep hk 2 (by kernel_rfl)))
          exact wpOp_plain rfl rfl (wp_rii rfl y 0 e25 ix (ry.cell 0 _ HL0.out) ⟨hl2 3, (hF.put 3 26 (SP.is (.int .i64 ix)) (.int .i64 ix) (by rw [hD]; rfl) rfl (by rw [hD]; rfl) (by rw [hsz]; decide) (by rw [hl]; decide)), hb1, rx, ry⟩)
        · have hk3 := hk
          exact wpOp_plain rfl rfl (wp_load_mid 32 (.tmp 6) rfl y 0 ((hF.keep 6 (by rw [hD]; rfl)).trans zs6) L _ ry.all Tryd.underlying32 rfl HI.out ⟨hl2 4, (hF.put 4 27 (SP.is (.agg L.toArray)) (.agg L.toArray) (by rw [hD]; rfl) rfl (by rw [hD]; rfl) (by rw [hsz]; decide) (by rw [hl]; decide)), hb1, rx, ry⟩)
        · have hk3 := hk
          have e27 := (hF.done 4 (27, SP.is (.agg L.toArray)) (by rw [hD]; rfl) (ready_dep hk 4 (by kernel_rfl)))
          refine wpOp_plain rfl rfl (wp_fcall_v 24 #[.agg L.toArray] rfl rfl (by show [ac.eval (.tmp 27)] = _; rw [show ac.eval (.tmp 27) = .agg L.toArray from e27]) (by go_simp) ((HFO.out W).mono ?_))
          rintro e W2 ⟨A8, c8, rfl, hn8, hb8, hB⟩
          exact ⟨_, rfl, hl2 5, ((hF.world hB).put 5 28 (SP.bs T) (.slice A8 T.length c8) (by rw [hD]; rfl) (⟨A8, c8, rfl, hn8, hb8⟩) (by rw [hD]; rfl) (by rw [hsz]; decide) (by rw [hl]; decide)), hb1.trans (hB.mono hb1.size), Row.below rx hB (Row.lt rx), Row.below ry hB (Row.lt ry)⟩
        · have hk3 := hk
          exact wpOp_plain rfl rfl (wp_move_v (ac.eval (.tmp 3)) rfl rfl ⟨hl2 6, (hF.put 6 29 (SP.is (.slice PA k pc)) (ac.eval (.tmp 3)) (by rw [hD]; rfl) (((hF.keep 3 (by rw [hD]; rfl)).trans zs3)) (by rw [hD]; rfl) (by rw [hsz]; decide) (by rw [hl]; decide)), hb1, rx, ry⟩)
        · have hk3 := hk
          have e23 := (hF.done 0 (23, SP.is (.agg (vB root).toArray)) (by rw [hD]; rfl) (ready_dep hk 0 (by kernel_rfl)))
          have e24 := (hF.done 1 (24, SP.is (.int .i64 n)) (by rw [hD]; rfl) (ready_dep hk 1 (by kernel_rfl)))
          have e26 := (hF.done 3 (26, SP.is (.int .i64 ix)) (by rw [hD]; rfl) (ready_dep hk 3 (by kernel_rfl)))
          obtain ⟨A8, c8, e28, hn8, hb8⟩ := (hF.done 5 (28, SP.bs T) (by rw [hD]; rfl) (ready_dep hk 5 (by kernel_rfl)))
          have e29 := (hF.done 6 (29, SP.is (.slice PA k pc)) (by rw [hD]; rfl) (ready_dep hk 6 (by kernel_rfl)))
          refine wpOp_plain rfl rfl (wp_fcall_v 23 #[.agg (vB root).toArray, .int .i64 n, .int .i64 ix, .slice A8 T.length c8, (.slice PA k pc)] rfl rfl (by show [ac.eval (.tmp 23), ac.eval (.tmp 24), ac.eval (.tmp 26), ac.eval (.tmp 28), ac.eval (.tmp 29)] = _; rw [show ac.eval (.tmp 23) = _ from e23, show ac.eval (.tmp 24) = _ from e24, show ac.eval (.tmp 26) = _ from e26, e28, show ac.eval (.tmp 29) = _ from e29]) (by go_simp) ((HCK.out W A8 c8 hb1 hn8 (by rw [e28] at hb8; exact hb8)).mono ?_))
          rintro e W2 ⟨rfl, hB⟩
          exact ⟨_, rfl, hl2 7, ((hF.world hB).put 7 30 (SP.is (.int .i64 C)) (.int .i64 C) (by rw [hD]; rfl) rfl (by rw [hD]; rfl) (by rw [hsz]; decide) (by rw [hl]; decide)), hb1.trans (hB.mono hb1.size), Row.below rx hB (Row.lt rx), Row.below ry hB (Row.lt ry)⟩
        · have hk3 := hk
          exact wpOp_plain rfl rfl (wp_assign_v (ac.eval (.tmp 30)) rfl rfl ⟨hl2 8, (hF.put 8 9 (SP.is (.int .i64 C)) (ac.eval (.tmp 30)) (by rw [hD]; rfl) ((hF.done 7 (30, SP.is (.int .i64 C)) (by rw [hD]; rfl) (ready_dep hk 7 (by kernel_rfl)))) (by rw [hD]; rfl) (by rw [hsz]; decide) (by rw [hl]; decide)), hb1, rx, ry⟩)
      · clear hb1 rx ry 
        intro listed ac W hI hr
        obtain ⟨hl, hF, hb1, rx, ry⟩ := hI
        have hall := all_listed (by kernel_rfl) hl hr
        have h23 : ac.eval (.tmp 23) = .agg (vB root).toArray := hF.done 0 (23, SP.is (.agg (vB root).toArray)) (by rw [hD]; rfl) (hall 0 (by decide))
        have h24 : ac.eval (.tmp 24) = .int .i64 n := hF.done 1 (24, SP.is (.int .i64 n)) (by rw [hD]; rfl) (hall 1 (by decide))
        have h25 : ac.eval (.tmp 25) = .pointer (some ⟨y, 0, none⟩) := hF.done 2 (25, SP.is (.pointer (some ⟨y, 0, none⟩))) (by rw [hD]; rfl) (hall 2 (by decide))
        have h26 : ac.eval (.tmp 26) = .int .i64 ix := hF.done 3 (26, SP.is (.int .i64 ix)) (by rw [hD]; rfl) (hall 3 (by decide))
        have h27 : ac.eval (.tmp 27) = .agg L.toArray := hF.done 4 (27, SP.is (.agg L.toArray)) (by rw [hD]; rfl) (hall 4 (by decide))
        obtain ⟨x28, h28⟩ : ∃ x, ac.eval (.tmp 28) = x := ⟨_, rfl⟩
        have h29 : ac.eval (.tmp 29) = .slice PA k pc := hF.done 6 (29, SP.is (.slice PA k pc)) (by rw [hD]; rfl) (hall 6 (by decide))
        have h30 : ac.eval (.tmp 30) = .int .i64 C := hF.done 7 (30, SP.is (.int .i64 C)) (by rw [hD]; rfl) (hall 7 (by decide))
        have h9 : ac.eval (.tmp 9) = .int .i64 C := hF.done 8 (9, SP.is (.int .i64 C)) (by rw [hD]; rfl) (hall 8 (by decide))
        have ea := hF.lay [(23, .agg (vB root).toArray), (24, .int .i64 n), (25, .pointer (some ⟨y, 0, none⟩)), (26, .int .i64 ix), (27, .agg L.toArray), (28, x28), (29, .slice PA k pc), (30, .int .i64 C), (9, .int .i64 C)] (by rw [hD, hsz]; rfl) (by simp only [List.forall_mem_cons, List.not_mem_nil, false_implies, implies_true, and_true]; exact ⟨h23, h24, h25, h26, h27, h28, h29, h30, h9⟩)
        rw [ha0] at ea
        simp only [List.foldl_cons, List.foldl_nil, List.setIfInBounds_toArray, List.set_cons_zero, List.set_cons_succ] at ea
        clear hF hall hr hl hD  zs1 zs3 zs4 zs6 ha0 hsz h23 h24 h25 h26 h27 h28 h29 h30 h9
        subst ea

        have HB : Hid (Below w.heap.size w W) := hb1
        clear hb1 rx ry HFO HCK
        go_wp2
        go_ret
        exact ⟨rfl, HB.out⟩

end Go.Proofs.YtehjadgmleoobaaDoor
