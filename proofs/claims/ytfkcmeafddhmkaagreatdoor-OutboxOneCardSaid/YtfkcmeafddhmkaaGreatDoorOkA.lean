/-
  the outbox: Check, and the document's.
-/
import Derived.Test.YtfkcmeafddhmkaaGreatDoorTTxt
import Derived.Test.YtfkcmeafddhmkaaGreatDoorTChkO
import Derived.Test.YtfkcmeafddhmkaaGreatDoorDwF
import Derived.Test.YtfkcmeafddhmkaaGreatDoorObD
import Derived.Test.YtfkcmeafddhmkaaGreatDoorOcS

namespace Go.Proofs.YtfkcmeafddhmkaaGreatDoor
open Go Go.RowKit
open Sha

section
variable {ops : Array Oper} {rest : List Oper} {op : Oper} {a : Act} {w : World} {Q : Exit → Act → World → Prop}
theorem wpList_neq_d2 (hw : Region.wanted op (yielded ops a.tmps) = true) (x y : Operand) (yt : TypeId) (ho : op.op = .binOp .neq 39 x y yt) (l r : List (BitVec 8)) (B : Bool) (hB : (!decide (l = r)) = B) (hl : Dl l) (hr : Dl r) (hx : a.eval x = .agg (vB l).toArray) (hy : a.eval y = .agg (vB r).toArray)
    (h : wpList Tryz.prog ops Q rest (a.put op.dst (.bool B)) w) : wpList Tryz.prog ops Q (op :: rest) a w :=
  BigFrame.wpList_want hw fun _ hK => wp_neq_d 39 x y yt ho 5 32 l r hx hy Tryz.underlying39 Tryz.underlying5 info_u8T hl hr guard_dig B hB (hK _ _ h)
end

end Go.Proofs.YtfkcmeafddhmkaaGreatDoor

namespace Go.Proofs.YtfkcmeafddhmkaaGreatDoor
open Go Go.RowKit
open Sha

/-- What Check answers. -/
def okc (root : List (BitVec 8)) (n ix en tk : Int) (rc : List (BitVec 8)) (am : List Nat) (ds : List (List (BitVec 8))) : Int :=
  if may ix en tk am = false then 110 else if n < 0 ∨ 1099511627776 < n then 112 else if n ≤ ix then 111 else if ck root n ix (lfb ix en tk rc am) ds = 0 then 0 else 113
theorem slToT {w : World} {v : Value} {d : List (BitVec 8)} (h : SlAt w v d) : SlAtT w v d := h
/-- A slot that holds bytes. -/
def SP.bs (d : List (BitVec 8)) : SP := ⟨fun W v => ∃ A cap, v = .slice A d.length cap ∧ (A = none → cap = 0) ∧ Bw W v d, fun _ _ _ hB ⟨A, c, e, h1, h2⟩ => ⟨A, c, e, h1, Bw.be h2 hB⟩⟩
theorem info_dgk (d : List (BitVec 8)) (h : d.length = 32) : (Tryz.prog.info? 39).map (·.size) = some (vB d).length := by rw [vB_length, h]; kernel_rfl
section
variable {o : Oper} {a : Act} {w : World} {K : Act → World → Prop} {Q : Exit → Act → World → Prop}
theorem wp_fl0 {x : Operand} (b : Nat) (ho : o.op = .fieldAddr 46 x 0) (hx : a.eval x = .pointer (some ⟨b, 0, none⟩)) (h : K (a.put o.dst (.pointer (some ⟨b, 0, none⟩))) w) : Oper.wp Tryz.prog o a w K Q := by
  unfold Oper.wp execOp
  simp only [ho, hx]
  go_simp
  exact h
theorem wp_rii {x : Operand} (ho : o.op = .load 3 x) (b f : Nat) (hx : a.eval x = .pointer (some ⟨b, f, none⟩)) (n : Int) (hc : w.cell? ⟨b, f, none⟩ = some (.int .i64 n)) (h : K (a.put o.dst (.int .i64 n)) w) : Oper.wp Tryz.prog o a w K Q := by
  unfold Oper.wp execOp
  simp only [ho, hx]
  go_simp
  exact h
end
set_option maxRecDepth 100000 in
set_option maxHeartbeats 4000000 in
theorem ocheck_any (root : List (BitVec 8)) (hroot : root.length = 32) (n ix en tk : Int) (rc : List (BitVec 8)) (am : List Nat) (hrc : rc.length = 20) (ham : am.length = 4) (hq4 : ∀ x ∈ am, x < 18446744073709551616) (L : List Value) (hL : L = lf ix en tk rc am) (ds : List (List (BitVec 8))) (PA : Option Addr) (k pc : Nat) (w : World) (hT : Tab w 2) (hp : PAt w (.slice PA k pc) ds) :
    Calls Tryz.prog 11 #[.agg (vB root).toArray, .int .i64 n, .agg L.toArray, (.slice PA k pc)] w fun e w' => e = .returned (.int .i64 (okc root n ix en tk rc am ds)) ∧ Below w.heap.size w w' := by
  have HI : Hid ((Tryz.prog.info? 46).map (·.size) = some L.length) := by rw [hL]; exact info_lf hrc ham
  have HID : Hid ((Tryz.prog.info? 39).map (·.size) = some (vB root).length) := info_dgk root hroot
  have HL0 : Hid (L[0]? = some (.int .i64 ix)) := by rw [hL]; rfl
  obtain ⟨O, hO⟩ : ∃ O, O = okc root n ix en tk rc am ds := ⟨_, rfl⟩
  rw [← hO]
  unfold okc at hO
  cases hm : may ix en tk am with
  | false =>
    rw [if_pos hm] at hO
    subst hO
    have HBY : Hid (∀ X, Calls Tryz.prog 17 #[.agg L.toArray] X fun e w' => e = .returned (.tuple #[.slice none 0 0, .int .i64 110]) ∧ Below X.heap.size X w') := fun X => bytes_no ix en tk rc am hrc ham hm L hL X
    clear hm hq4 hT hp hL hrc ham hroot
    go_enter Tryz.func11, Tryz.ntmps11
    go_upto_region 1 with (first
      | (refine wpList_boxG 39 rfl (.tmp 0) rfl (vB root) rfl ?_; intro X1 q1 q2 q3; have R1 : Hid (Row X1 w.heap.size (vB root) 39) := q1; have B1 : Hid (Below w.heap.size w X1) := q2; clear q1 q2 q3; simp only [Act.put, List.setIfInBounds_toArray, List.set_cons_zero, List.set_cons_succ])
      | (refine wpList_boxG 46 rfl (.tmp 2) rfl L rfl ?_; intro X2 q1 q2 q3; have R2 : Hid (Row X2 X1.heap.size L 46) := q1; have B2 : Hid (Below w.heap.size w X2) := B1.out.trans (q2.mono B1.out.size); have R1b : Hid (Row X2 w.heap.size (vB root) 39) := Row.below R1.out q2 R1.out.lt; clear q1 q2 q3; simp only [Act.put, List.setIfInBounds_toArray, List.set_cons_zero, List.set_cons_succ]))
    obtain ⟨y, hy⟩ : ∃ y, y = X1.heap.size := ⟨_, rfl⟩
    obtain ⟨x, hx⟩ : ∃ x, x = w.heap.size := ⟨_, rfl⟩
    rw [← hy] at R2 ⊢
    rw [← hx] at R1b ⊢
    clear hy hx R1 B1
    go_wp2_with (first
      | (refine wpList_load_w rfl 46 (.tmp 6) rfl y (0) rfl L _ R2.out.all Tryz.underlying46 rfl HI.out ?_; simp only [Act.put, List.setIfInBounds_toArray, List.set_cons_zero, List.set_cons_succ])
      | (go_at_call 17; refine Calls.mono (HBY.out X2) ?_; rintro e X3 ⟨rfl, q⟩; have B3 : Hid (Below w.heap.size w X3) := B2.out.trans (q.mono B2.out.size); clear q))
    go_ret
    exact ⟨rfl, B3.out⟩
  | true =>
    rw [if_neg (by rw [hm]; decide)] at hO
    obtain ⟨T, hTx⟩ : ∃ T, T = lfb ix en tk rc am := ⟨_, rfl⟩
    have hTl : T.length ≤ 153 := by rw [hTx]; exact lfb_len ix en tk rc am hrc
    have HBY : Hid (∀ X, Calls Tryz.prog 17 #[.agg L.toArray] X fun e w' => ∃ A m cap, e = .returned (.tuple #[.slice A m cap, .int .i64 0]) ∧ Bw w' (.slice A m cap) T ∧ Below X.heap.size X w') := fun X => by
      refine (bytes_ok ix en tk rc am hrc ham hq4 hm L hL X).mono ?_
      rintro e w' ⟨A, m, cap, _, q1, q2, _, q3⟩
      exact ⟨A, m, cap, q1, by rw [hTx]; exact q2, q3⟩
    obtain ⟨C, hC⟩ : ∃ C, C = ck root n ix T ds := ⟨_, rfl⟩
    have HCK : Hid (∀ X lv, Below w.heap.size w X → Bw X lv T → Calls Tryz.prog 23 #[.agg (vB root).toArray, .int .i64 n, .int .i64 ix, lv, (.slice PA k pc)] X fun e w' => e = .returned (.int .i64 C) ∧ Below X.heap.size X w') := fun X lv h1 h2 => by
      rw [hC]
      exact check_any n ix root T ds hroot (by omega) _ lv X (hT.below h1 hT.lt) (hp.below h1) (slToT (Bw.sl h2))
    rw [← hTx, ← hC] at hO
    have hmi := may_in hm
    have hix1 : ix < 1099511627776 := hmi.2.1
    clear hTx hC hm hq4 hT hp hL hrc ham hroot hTl hmi
    by_cases h1 : n < 0
    · rw [if_pos (.inl h1)] at hO
      subst hO
      go_enter Tryz.func11, Tryz.ntmps11
      go_upto_region 1 with (first
        | (refine wpList_boxG 39 rfl (.tmp 0) rfl (vB root) rfl ?_; intro X1 q1 q2 q3; have R1 : Hid (Row X1 w.heap.size (vB root) 39) := q1; have B1 : Hid (Below w.heap.size w X1) := q2; clear q1 q2 q3; simp only [Act.put, List.setIfInBounds_toArray, List.set_cons_zero, List.set_cons_succ])
        | (refine wpList_boxG 46 rfl (.tmp 2) rfl L rfl ?_; intro X2 q1 q2 q3; have R2 : Hid (Row X2 X1.heap.size L 46) := q1; have B2 : Hid (Below w.heap.size w X2) := B1.out.trans (q2.mono B1.out.size); have R1b : Hid (Row X2 w.heap.size (vB root) 39) := Row.below R1.out q2 R1.out.lt; clear q1 q2 q3; simp only [Act.put, List.setIfInBounds_toArray, List.set_cons_zero, List.set_cons_succ]))
      obtain ⟨y, hy⟩ : ∃ y, y = X1.heap.size := ⟨_, rfl⟩
      obtain ⟨x, hx⟩ : ∃ x, x = w.heap.size := ⟨_, rfl⟩
      rw [← hy] at R2 ⊢
      rw [← hx] at R1b ⊢
      clear hy hx R1 B1
      go_wp2_with (first
        | (refine wpList_load_w rfl 46 (.tmp 6) rfl y (0) rfl L _ R2.out.all Tryz.underlying46 rfl HI.out ?_; simp only [Act.put, List.setIfInBounds_toArray, List.set_cons_zero, List.set_cons_succ])
        | (go_at_call 17; refine Calls.mono (HBY.out X2) ?_; rintro e X3 ⟨A3, m3, c3, rfl, q1, q2⟩; have W3 : Hid (Bw X3 (.slice A3 m3 c3) T) := q1; have B3 : Hid (Below w.heap.size w X3) := B2.out.trans (q2.mono B2.out.size); have c0 := (Row.below R2.out q2 R2.out.lt).cell 0 _ HL0.out; have R3 : Hid (Row X3 x (vB root) 39) := Row.below R1b.out q2 R1b.out.lt; clear q1 q2)
        | (refine wpList_load_w rfl 39 (.tmp 4) rfl x (0) rfl (vB root) _ R3.out.all Tryz.underlying39 rfl HID.out ?_; simp only [Act.put, List.setIfInBounds_toArray, List.set_cons_zero, List.set_cons_succ])
        | (go_at_call 23; refine Calls.mono (HCK.out X3 _ B3.out W3.out) ?_; rintro e X4 ⟨rfl, q⟩; have B4 : Hid (Below w.heap.size w X4) := B3.out.trans (q.mono B3.out.size); clear q))
      go_ret
      exact ⟨rfl, B3.out⟩
    by_cases h2 : (1099511627776 : Int) < n
    · rw [if_pos (.inr h2)] at hO
      have h2b : ¬ (n ≤ (1099511627776 : Int)) := by omega
      subst hO
      go_enter Tryz.func11, Tryz.ntmps11
      go_upto_region 1 with (first
        | (refine wpList_boxG 39 rfl (.tmp 0) rfl (vB root) rfl ?_; intro X1 q1 q2 q3; have R1 : Hid (Row X1 w.heap.size (vB root) 39) := q1; have B1 : Hid (Below w.heap.size w X1) := q2; clear q1 q2 q3; simp only [Act.put, List.setIfInBounds_toArray, List.set_cons_zero, List.set_cons_succ])
        | (refine wpList_boxG 46 rfl (.tmp 2) rfl L rfl ?_; intro X2 q1 q2 q3; have R2 : Hid (Row X2 X1.heap.size L 46) := q1; have B2 : Hid (Below w.heap.size w X2) := B1.out.trans (q2.mono B1.out.size); have R1b : Hid (Row X2 w.heap.size (vB root) 39) := Row.below R1.out q2 R1.out.lt; clear q1 q2 q3; simp only [Act.put, List.setIfInBounds_toArray, List.set_cons_zero, List.set_cons_succ]))
      obtain ⟨y, hy⟩ : ∃ y, y = X1.heap.size := ⟨_, rfl⟩
      obtain ⟨x, hx⟩ : ∃ x, x = w.heap.size := ⟨_, rfl⟩
      rw [← hy] at R2 ⊢
      rw [← hx] at R1b ⊢
      clear hy hx R1 B1
      go_wp2_with (first
        | (refine wpList_load_w rfl 46 (.tmp 6) rfl y (0) rfl L _ R2.out.all Tryz.underlying46 rfl HI.out ?_; simp only [Act.put, List.setIfInBounds_toArray, List.set_cons_zero, List.set_cons_succ])
        | (go_at_call 17; refine Calls.mono (HBY.out X2) ?_; rintro e X3 ⟨A3, m3, c3, rfl, q1, q2⟩; have W3 : Hid (Bw X3 (.slice A3 m3 c3) T) := q1; have B3 : Hid (Below w.heap.size w X3) := B2.out.trans (q2.mono B2.out.size); have c0 := (Row.below R2.out q2 R2.out.lt).cell 0 _ HL0.out; have R3 : Hid (Row X3 x (vB root) 39) := Row.below R1b.out q2 R1b.out.lt; clear q1 q2)
        | (refine wpList_load_w rfl 39 (.tmp 4) rfl x (0) rfl (vB root) _ R3.out.all Tryz.underlying39 rfl HID.out ?_; simp only [Act.put, List.setIfInBounds_toArray, List.set_cons_zero, List.set_cons_succ])
        | (go_at_call 23; refine Calls.mono (HCK.out X3 _ B3.out W3.out) ?_; rintro e X4 ⟨rfl, q⟩; have B4 : Hid (Below w.heap.size w X4) := B3.out.trans (q.mono B3.out.size); clear q))
      go_ret
      exact ⟨rfl, B3.out⟩
    rw [if_neg (by omega)] at hO
    by_cases h3 : n ≤ ix
    · rw [if_pos h3] at hO
      subst hO
      go_enter Tryz.func11, Tryz.ntmps11
      go_upto_region 1 with (first
        | (refine wpList_boxG 39 rfl (.tmp 0) rfl (vB root) rfl ?_; intro X1 q1 q2 q3; have R1 : Hid (Row X1 w.heap.size (vB root) 39) := q1; have B1 : Hid (Below w.heap.size w X1) := q2; clear q1 q2 q3; simp only [Act.put, List.setIfInBounds_toArray, List.set_cons_zero, List.set_cons_succ])
        | (refine wpList_boxG 46 rfl (.tmp 2) rfl L rfl ?_; intro X2 q1 q2 q3; have R2 : Hid (Row X2 X1.heap.size L 46) := q1; have B2 : Hid (Below w.heap.size w X2) := B1.out.trans (q2.mono B1.out.size); have R1b : Hid (Row X2 w.heap.size (vB root) 39) := Row.below R1.out q2 R1.out.lt; clear q1 q2 q3; simp only [Act.put, List.setIfInBounds_toArray, List.set_cons_zero, List.set_cons_succ]))
      obtain ⟨y, hy⟩ : ∃ y, y = X1.heap.size := ⟨_, rfl⟩
      obtain ⟨x, hx⟩ : ∃ x, x = w.heap.size := ⟨_, rfl⟩
      rw [← hy] at R2 ⊢
      rw [← hx] at R1b ⊢
      clear hy hx R1 B1
      go_wp2_with (first
        | (refine wpList_load_w rfl 46 (.tmp 6) rfl y (0) rfl L _ R2.out.all Tryz.underlying46 rfl HI.out ?_; simp only [Act.put, List.setIfInBounds_toArray, List.set_cons_zero, List.set_cons_succ])
        | (go_at_call 17; refine Calls.mono (HBY.out X2) ?_; rintro e X3 ⟨A3, m3, c3, rfl, q1, q2⟩; have W3 : Hid (Bw X3 (.slice A3 m3 c3) T) := q1; have B3 : Hid (Below w.heap.size w X3) := B2.out.trans (q2.mono B2.out.size); have c0 := (Row.below R2.out q2 R2.out.lt).cell 0 _ HL0.out; have R3 : Hid (Row X3 x (vB root) 39) := Row.below R1b.out q2 R1b.out.lt; clear q1 q2)
        | (refine wpList_load_w rfl 39 (.tmp 4) rfl x (0) rfl (vB root) _ R3.out.all Tryz.underlying39 rfl HID.out ?_; simp only [Act.put, List.setIfInBounds_toArray, List.set_cons_zero, List.set_cons_succ])
        | (go_at_call 23; refine Calls.mono (HCK.out X3 _ B3.out W3.out) ?_; rintro e X4 ⟨rfl, q⟩; have B4 : Hid (Below w.heap.size w X4) := B3.out.trans (q.mono B3.out.size); clear q))
      go_ret
      exact ⟨rfl, B3.out⟩
    rw [if_neg h3] at hO
    by_cases h4 : C = 0
    · rw [if_pos h4] at hO
      subst h4
      subst hO
      go_enter Tryz.func11, Tryz.ntmps11
      go_upto_region 1 with (first
        | (refine wpList_boxG 39 rfl (.tmp 0) rfl (vB root) rfl ?_; intro X1 q1 q2 q3; have R1 : Hid (Row X1 w.heap.size (vB root) 39) := q1; have B1 : Hid (Below w.heap.size w X1) := q2; clear q1 q2 q3; simp only [Act.put, List.setIfInBounds_toArray, List.set_cons_zero, List.set_cons_succ])
        | (refine wpList_boxG 46 rfl (.tmp 2) rfl L rfl ?_; intro X2 q1 q2 q3; have R2 : Hid (Row X2 X1.heap.size L 46) := q1; have B2 : Hid (Below w.heap.size w X2) := B1.out.trans (q2.mono B1.out.size); have R1b : Hid (Row X2 w.heap.size (vB root) 39) := Row.below R1.out q2 R1.out.lt; clear q1 q2 q3; simp only [Act.put, List.setIfInBounds_toArray, List.set_cons_zero, List.set_cons_succ]))
      obtain ⟨y, hy⟩ : ∃ y, y = X1.heap.size := ⟨_, rfl⟩
      obtain ⟨x, hx⟩ : ∃ x, x = w.heap.size := ⟨_, rfl⟩
      rw [← hy] at R2 ⊢
      rw [← hx] at R1b ⊢
      clear hy hx R1 B1
      go_wp2_with (first
        | (refine wpList_load_w rfl 46 (.tmp 6) rfl y (0) rfl L _ R2.out.all Tryz.underlying46 rfl HI.out ?_; simp only [Act.put, List.setIfInBounds_toArray, List.set_cons_zero, List.set_cons_succ])
        | (go_at_call 17; refine Calls.mono (HBY.out X2) ?_; rintro e X3 ⟨A3, m3, c3, rfl, q1, q2⟩; have W3 : Hid (Bw X3 (.slice A3 m3 c3) T) := q1; have B3 : Hid (Below w.heap.size w X3) := B2.out.trans (q2.mono B2.out.size); have c0 := (Row.below R2.out q2 R2.out.lt).cell 0 _ HL0.out; have R3 : Hid (Row X3 x (vB root) 39) := Row.below R1b.out q2 R1b.out.lt; clear q1 q2)
        | (refine wpList_load_w rfl 39 (.tmp 4) rfl x (0) rfl (vB root) _ R3.out.all Tryz.underlying39 rfl HID.out ?_; simp only [Act.put, List.setIfInBounds_toArray, List.set_cons_zero, List.set_cons_succ])
        | (go_at_call 23; refine Calls.mono (HCK.out X3 _ B3.out W3.out) ?_; rintro e X4 ⟨rfl, q⟩; have B4 : Hid (Below w.heap.size w X4) := B3.out.trans (q.mono B3.out.size); clear q))
      go_ret
      exact ⟨rfl, B4.out⟩
    · rw [if_neg h4] at hO
      subst hO
      go_enter Tryz.func11, Tryz.ntmps11
      go_upto_region 1 with (first
        | (refine wpList_boxG 39 rfl (.tmp 0) rfl (vB root) rfl ?_; intro X1 q1 q2 q3; have R1 : Hid (Row X1 w.heap.size (vB root) 39) := q1; have B1 : Hid (Below w.heap.size w X1) := q2; clear q1 q2 q3; simp only [Act.put, List.setIfInBounds_toArray, List.set_cons_zero, List.set_cons_succ])
        | (refine wpList_boxG 46 rfl (.tmp 2) rfl L rfl ?_; intro X2 q1 q2 q3; have R2 : Hid (Row X2 X1.heap.size L 46) := q1; have B2 : Hid (Below w.heap.size w X2) := B1.out.trans (q2.mono B1.out.size); have R1b : Hid (Row X2 w.heap.size (vB root) 39) := Row.below R1.out q2 R1.out.lt; clear q1 q2 q3; simp only [Act.put, List.setIfInBounds_toArray, List.set_cons_zero, List.set_cons_succ]))
      obtain ⟨y, hy⟩ : ∃ y, y = X1.heap.size := ⟨_, rfl⟩
      obtain ⟨x, hx⟩ : ∃ x, x = w.heap.size := ⟨_, rfl⟩
      rw [← hy] at R2 ⊢
      rw [← hx] at R1b ⊢
      clear hy hx R1 B1
      go_wp2_with (first
        | (refine wpList_load_w rfl 46 (.tmp 6) rfl y (0) rfl L _ R2.out.all Tryz.underlying46 rfl HI.out ?_; simp only [Act.put, List.setIfInBounds_toArray, List.set_cons_zero, List.set_cons_succ])
        | (go_at_call 17; refine Calls.mono (HBY.out X2) ?_; rintro e X3 ⟨A3, m3, c3, rfl, q1, q2⟩; have W3 : Hid (Bw X3 (.slice A3 m3 c3) T) := q1; have B3 : Hid (Below w.heap.size w X3) := B2.out.trans (q2.mono B2.out.size); have c0 := (Row.below R2.out q2 R2.out.lt).cell 0 _ HL0.out; have R3 : Hid (Row X3 x (vB root) 39) := Row.below R1b.out q2 R1b.out.lt; clear q1 q2)
        | (refine wpList_load_w rfl 39 (.tmp 4) rfl x (0) rfl (vB root) _ R3.out.all Tryz.underlying39 rfl HID.out ?_; simp only [Act.put, List.setIfInBounds_toArray, List.set_cons_zero, List.set_cons_succ])
        | (go_at_call 23; refine Calls.mono (HCK.out X3 _ B3.out W3.out) ?_; rintro e X4 ⟨rfl, q⟩; have B4 : Hid (Below w.heap.size w X4) := B3.out.trans (q.mono B3.out.size); clear q))
      go_ret
      exact ⟨rfl, B4.out⟩
end Go.Proofs.YtfkcmeafddhmkaaGreatDoor
