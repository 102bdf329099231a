/-
  isKey, check, the document's May; bytes.Clone.
-/
import Derived.Test.YtelioddogdcdoaaDoorXMem

namespace Go.Proofs.YtelioddogdcdoaaDoor
open Go Go.RowKit
open Sha

theorem slnil_eq (w : World) : (binOp .eql 52 (.slice none 0 0) (.slice none 0 0)).run Tryd.prog w = .ok (.bool true) w := by
  have h1 : ∀ d, (Op.equalIn (d + 1) 52 (.slice none 0 0) (.slice none 0 0)).run Tryd.prog w = .ok true w := fun d => by simp [Op.equalIn, run_underlying Tryd.underlying52]
  have h2 : (Op.equal 52 (.slice none 0 0) (.slice none 0 0)).run Tryd.prog w = .ok true w := h1 9999
  simp only [binOp]
  simp [h2]
theorem slsome_eq (a : Addr) (n c : Nat) (w : World) : (binOp .eql 52 (.slice (some a) n c) (.slice none 0 0)).run Tryd.prog w = .ok (.bool false) w := by
  have h1 : ∀ d, (Op.equalIn (d + 1) 52 (.slice (some a) n c) (.slice none 0 0)).run Tryd.prog w = .ok false w := fun d => by simp [Op.equalIn, run_underlying Tryd.underlying52]
  have h2 : (Op.equal 52 (.slice (some a) n c) (.slice none 0 0)).run Tryd.prog w = .ok false w := h1 9999
  simp only [binOp]
  simp [h2]
theorem mapnil_eq (w : World) : (binOp .eql 83 (.map none) (.map none)).run Tryd.prog w = .ok (.bool true) w := by
  have h1 : ∀ d, (Op.equalIn (d + 1) 83 (.map none) (.map none)).run Tryd.prog w = .ok true w := fun d => by simp [Op.equalIn, run_underlying Tryd.underlying83]
  have h2 : (Op.equal 83 (.map none) (.map none)).run Tryd.prog w = .ok true w := h1 9999
  simp only [binOp]
  simp [h2]
theorem mapsome_eq (b : Nat) (w : World) : (binOp .eql 83 (.map (some b)) (.map none)).run Tryd.prog w = .ok (.bool false) w := by
  have h1 : ∀ d, (Op.equalIn (d + 1) 83 (.map (some b)) (.map none)).run Tryd.prog w = .ok false w := fun d => by simp [Op.equalIn, run_underlying Tryd.underlying83]
  have h2 : (Op.equal 83 (.map (some b)) (.map none)).run Tryd.prog w = .ok false w := h1 9999
  simp only [binOp]
  simp [h2]
theorem ifnil_eq (w : World) : (binOp .eql 91 .nilIface .nilIface).run Tryd.prog w = .ok (.bool true) w := by
  have h1 : ∀ d, (Op.equalIn (d + 1) 91 .nilIface .nilIface).run Tryd.prog w = .ok true w := fun d => by simp [Op.equalIn, run_underlying Tryd.underlying91]
  have h2 : (Op.equal 91 .nilIface .nilIface).run Tryd.prog w = .ok true w := h1 9999
  simp only [binOp]
  simp [h2]
theorem ifsome_eq (t : TypeId) (v : Value) (w : World) : (binOp .eql 91 (.iface t v) .nilIface).run Tryd.prog w = .ok (.bool false) w := by
  have h1 : ∀ d, (Op.equalIn (d + 1) 91 (.iface t v) .nilIface).run Tryd.prog w = .ok false w := fun d => by simp [Op.equalIn, run_underlying Tryd.underlying91]
  have h2 : (Op.equal 91 (.iface t v) .nilIface).run Tryd.prog w = .ok false w := h1 9999
  simp only [binOp]
  simp [h2]

end Go.Proofs.YtelioddogdcdoaaDoor

namespace Go.Proofs.YtelioddogdcdoaaDoor
open Go Go.RowKit
open Sha

/-- What is wrong with a key of k bytes and a value of n. -/
def may (k n : Nat) : Int := if k < 1 ∨ 128 < k then 70 else if 4096 < n then 71 else 0
def isK (k : Nat) : Bool := decide (1 ≤ k ∧ k ≤ 128)
theorem may_key {k n : Nat} (h : isK k = false) : may k n = 70 := by
  unfold isK at h
  have : ¬ (1 ≤ k ∧ k ≤ 128) := of_decide_eq_false h
  unfold may
  rw [if_pos (by omega)]
theorem may_long {k n : Nat} (h : isK k = true) (hn : 4096 < n) : may k n = 71 := by
  unfold isK at h
  have : 1 ≤ k ∧ k ≤ 128 := of_decide_eq_true h
  unfold may
  rw [if_neg (by omega), if_pos hn]
theorem may_ok {k n : Nat} (h : isK k = true) (hn : ¬ 4096 < n) : may k n = 0 := by
  unfold isK at h
  have : 1 ≤ k ∧ k ≤ 128 := of_decide_eq_true h
  unfold may
  rw [if_neg (by omega), if_neg hn]
theorem isK_le {k : Nat} (h : isK k = true) : 1 ≤ k ∧ k ≤ 128 := of_decide_eq_true h

set_option maxRecDepth 100000 in
theorem isKey_any (s : ByteArray) (w : World) :
    Calls Tryd.prog 52 #[.string s] w fun e w' => e = .returned (.bool (isK s.size)) ∧ w' = w := by
  by_cases h1 : (1 : Int) ≤ (s.size : Int)
  · by_cases h2 : (s.size : Int) ≤ 128
    · have hk : isK s.size = true := decide_eq_true (by omega)
      rw [hk]
      go_enter Tryd.func52, Tryd.ntmps52
      go_wp2
      go_ret
      exact ⟨rfl, rfl⟩
    · have hk : isK s.size = false := decide_eq_false (by omega)
      rw [hk]
      go_enter Tryd.func52, Tryd.ntmps52
      go_wp2
      go_ret
      exact ⟨rfl, rfl⟩
  · have hk : isK s.size = false := decide_eq_false (by omega)
    rw [hk]
    go_enter Tryd.func52, Tryd.ntmps52
    go_wp2
    go_ret
    exact ⟨rfl, rfl⟩

set_option maxRecDepth 100000 in
theorem check_any (s : ByteArray) (A : Option Addr) (n cap : Nat) (w : World) :
    Calls Tryd.prog 50 #[.string s, .slice A n cap] w fun e w' => e = .returned (.int .i64 (may s.size n)) ∧ w' = w := by
  have hK : Hid _ := isKey_any s w
  cases hb : isK s.size with
  | false =>
    rw [hb] at hK
    have HM : Hid (may s.size n = 70) := may_key hb
    clear hb
    go_enter Tryd.func50, Tryd.ntmps50
    go_wp2_with (refine Calls.mono hK.out ?_; rintro e W ⟨rfl, rfl⟩)
    go_ret
    exact ⟨by rw [HM.out]; rfl, rfl⟩
  | true =>
    rw [hb] at hK
    by_cases h : (4096 : Int) < (n : Int)
    · have HM : Hid (may s.size n = 71) := may_long hb (by omega)
      clear hb
      go_enter Tryd.func50, Tryd.ntmps50
      go_wp2_with (refine Calls.mono hK.out ?_; rintro e W ⟨rfl, rfl⟩)
      go_ret
      exact ⟨by rw [HM.out]; rfl, rfl⟩
    · have HM : Hid (may s.size n = 0) := may_ok hb (by omega)
      clear hb
      go_enter Tryd.func50, Tryd.ntmps50
      go_wp2_with (refine Calls.mono hK.out ?_; rintro e W ⟨rfl, rfl⟩)
      go_ret
      exact ⟨by rw [HM.out]; rfl, rfl⟩

theorem row_bw0 (w : World) : Bw (w.alloc (Obj.cells #[] 5)) (.slice (some ⟨w.heap.size, 0, none⟩) 0 0) [] := row_bw (d := []) (Row.new' rfl rfl) (by decide)
set_option maxRecDepth 100000 in
set_option maxHeartbeats 1000000 in
/-- bytes.Clone: the same bytes in new memory. -/
theorem bclone_any (A : Option Addr) (n cap : Nat) (d : List (BitVec 8)) (hd : d.length = n) (hn : n ≤ 140737488355328) (w : World) (hv : SlAt w (.slice A n cap) d) (hnil : A = none → n = 0 ∧ cap = 0) :
    Calls Tryd.prog 54 #[.slice A n cap] w fun e w' => ∃ A' cap', e = .returned (.slice A' n cap') ∧ Bw w' (.slice A' n cap') d ∧ (A' = none → n = 0 ∧ cap' = 0) ∧ Fresh w.heap.size (.slice A' n cap') ∧ Below w.heap.size w w' := by
  cases A with
  | none =>
    obtain ⟨rfl, rfl⟩ := hnil rfl
    obtain rfl := List.length_eq_zero_iff.1 hd
    clear hv
    have hq := slnil_eq
    go_enter Tryd.func54, Tryd.ntmps54
    go_wp2
    go_ret
    exact ⟨none, 0, rfl, Bw.nil _, fun _ => by simp, fun g e => by simp [Value.ownBlock] at e, Below.refl _ _⟩
  | some ad =>
    have HV : Hid (SlAt (w.alloc (Obj.cells #[] 5)) (.slice (some ad) n cap) d) := hv.be ((Below.refl _ _).alloc (Nat.le_refl _) _)
    have HD : Hid (d.length = n) := hd
    have HL : Hid (([] : List (BitVec 8)).length + n ≤ 140737488355328) := by show 0 + _ ≤ _; omega
    clear hv hd hn hnil
    have hq := slsome_eq ad n cap
    go_enter Tryd.func54, Tryd.ntmps54
    go_wp2_with (refine wpList_app rfl _ (.tmp 6) rfl (.slice (some ⟨w.heap.size, 0, none⟩) 0 0) [] d rfl (row_bw0 w) (some ad) n cap HD.out rfl HV.out (fun e => by cases e) HL.out ?_; intro v' w' q1 q2 q3; obtain ⟨Ax, cx, ex, _, en⟩ := Bw.form q1; subst ex; rw [List.nil_append] at q1 q3; have Q1 : Hid _ := q1; have Q2 : Hid _ := q2; have Q3 : Hid _ := q3; have QN : Hid _ := en; clear q1 q2 q3 en; simp only [Act.put, List.setIfInBounds_toArray, List.set_cons_zero, List.set_cons_succ, List.nil_append])
    go_ret
    have hdn := HD.out
    have bB : Below w.heap.size w w' := ((Below.refl _ _).alloc (Nat.le_refl _) (Obj.cells #[] 5)).grown Q2.out (by simp) (fun k hk => by simp [Value.ownBlock] at hk; omega)
    have hbw := Q1.out
    subst hdn
    refine ⟨Ax, cx, rfl, hbw, fun e => ?_, fun g e => ?_, bB⟩
    · subst e
      rcases hbw.2 with ⟨h2, h0⟩ | ⟨g, c2, cur, hvv, _⟩
      · exact ⟨h0, QN.out rfl⟩
      · cases hvv
    · rcases Q3.out with q | q
      · rw [e] at q
        simp [Value.ownBlock] at q
        omega
      · rw [e] at q
        simp at q
        omega

end Go.Proofs.YtelioddogdcdoaaDoor
