/-
  the outbox: Read of any bytes.
-/
import Derived.Test.YtehjadgmleoobaaObB
namespace Go.Proofs.Ytehjadgmleoobaa
open Go Go.RowKit
open Sha

def bV (bs : List (BitVec 8)) (a : Nat) (f : Int) : Nat := if f = 0 ∧ byE bs a = 0 then at8 bs a else 0
def bA (bs : List (BitVec 8)) (a : Nat) (f : Int) : Nat := if f = 0 ∧ byE bs a = 0 then a + 1 else a
def bF (bs : List (BitVec 8)) (a : Nat) (f : Int) : Int := if f = 0 then byE bs a else f
def dV (bs : List (BitVec 8)) (a : Nat) (f : Int) : List (BitVec 8) := if f = 0 ∧ dgE 20 bs a = 0 then sub bs a 20 else List.replicate 20 0#8
def dA (bs : List (BitVec 8)) (a : Nat) (f : Int) : Nat := if f = 0 ∧ dgE 20 bs a = 0 then a + 20 else a
def dF (bs : List (BitVec 8)) (a : Nat) (f : Int) : Int := if f = 0 then dgE 20 bs a else f
def wV (bs : List (BitVec 8)) (a : Nat) (f : Int) : List Nat := if f = 0 ∧ hiF 32 bs a = 0 then [lb bs (a + 1 + at8 bs a) 0 (at8 bs a), lb bs (a + 1 + at8 bs a) 1 (at8 bs a), lb bs (a + 1 + at8 bs a) 2 (at8 bs a), lb bs (a + 1 + at8 bs a) 3 (at8 bs a)] else List.replicate 4 0
def wA (bs : List (BitVec 8)) (a : Nat) (f : Int) : Nat := if f = 0 ∧ hiF 32 bs a = 0 then a + 1 + at8 bs a else a
def wF (bs : List (BitVec 8)) (a : Nat) (f : Int) : Int := if f = 0 then hiF 32 bs a else f
theorem dV_len (bs : List (BitVec 8)) (a : Nat) (f : Int) : (dV bs a f).length = 20 := by
  unfold dV
  split
  · rename_i h
    have := dgE_ok h.2
    unfold sub
    rw [List.length_take, List.length_drop]
    omega
  · simp
theorem wV_len (bs : List (BitVec 8)) (a : Nat) (f : Int) : (wV bs a f).length = 4 := by
  unfold wV
  split <;> rfl
theorem wV_lt (bs : List (BitVec 8)) (a : Nat) (f : Int) : ∀ x ∈ wV bs a f, x < 18446744073709551616 := by
  unfold wV
  split
  · intro x hx
    simp only [List.mem_cons, List.not_mem_nil, or_false] at hx
    rcases hx with rfl | rfl | rfl | rfl <;> exact lb_64 _ _ _ _
  · intro x hx
    obtain ⟨_, rfl⟩ := List.mem_replicate.1 hx
    decide
/-- A reader, with a fault or without; a leaf that is filled; the answer's place. -/
structure Rv (w0 w : World) (q P : Nat) (A : Option Addr) (cap : Nat) (bs : List (BitVec 8)) (a : Nat) (f : Int) (b : Nat) (L : List Value) : Prop where
  rx : Rx w P A cap bs a f
  rl : Row w b L 39
  rq : Row w q zLf 39
  qb : q < b
  q0 : q = w0.heap.size
  be : Below w0.heap.size w0 w
section
variable {w0 w w' : World} {q P cap a a' b : Nat} {f f' : Int} {A : Option Addr} {bs : List (BitVec 8)} {L M : List Value}
theorem Rx.at_row (h : Rx w P A cap bs a f) : ∃ v, Row w P [v, .int .i64 (a : Int), .int .i64 f] 87 := Rx.row h
theorem Rv.keep (h : Rv w0 w q P A cap bs a f b L) (k : Below w.heap.size w w') : Rv w0 w' q P A cap bs a f b L :=
  ⟨h.rx.be k, Row.below h.rl k h.rl.lt, Row.below h.rq k h.rq.lt, h.qb, h.q0, h.be.trans (k.mono h.be.size)⟩
theorem Rv.took (h : Rv w0 w q P A cap bs a f b L) (p0 : w0.heap.size ≤ P) (r : Rx w' P A cap bs a' f') (k : Gp P w w') : Rv w0 w' q P A cap bs a' f' b L := by
  obtain ⟨v, hr⟩ := h.rx.at_row
  exact ⟨r, k.row h.rl (row_ne h.rl hr (by decide)), k.row h.rq (row_ne h.rq hr (by decide)), h.qb, h.q0, h.be.trans (k.to_below h.be.size (fun g e => by rw [e]; exact p0))⟩
theorem Rv.put (h : Rv w0 w q P A cap bs a f b L) (r : Row w' b M 39) (k : Gro (· = b) w w') : Rv w0 w' q P A cap bs a f b M := by
  obtain ⟨v, hr⟩ := h.rx.at_row
  refine ⟨Rx.gro h.rx k (row_ne hr h.rl (by decide)) (fun hf g e => ?_), r, k.row h.rq (Nat.ne_of_lt h.qb), h.qb, h.q0, h.be.trans (k.to_below h.be.size (fun g e => by rw [e]; have h1 := h.qb; have h2 := h.q0; omega))⟩
  rcases h.rx with ⟨_, hg⟩ | ⟨hn, _⟩
  · exact Bw.ne hg.bw h.rl (by decide) g e
  · exact absurd hf hn
theorem rv_number (p0 : w0.heap.size ≤ P) (h : Rv w0 w q P A cap bs a f b L) : Calls Try.prog 31 #[.pointer (some ⟨P, 0, none⟩)] w fun e w' => e = .returned (.int .i64 ((nV bs a f : Nat) : Int)) ∧ Rv w0 w' q P A cap bs (nA bs a f) (nF bs a f) b L := by
  refine (number_x P A cap bs a f w h.rx).mono ?_
  rintro e w' ⟨rfl, h2, h3⟩
  exact ⟨rfl, h.took p0 h2 h3⟩
theorem rv_byte (p0 : w0.heap.size ≤ P) (h : Rv w0 w q P A cap bs a f b L) : Calls Try.prog 30 #[.pointer (some ⟨P, 0, none⟩)] w fun e w' => e = .returned (.int .u8 ((bV bs a f : Nat) : Int)) ∧ Rv w0 w' q P A cap bs (bA bs a f) (bF bs a f) b L := by
  rcases h.rx with ⟨hf, hg⟩ | ⟨hf, hg⟩
  · subst hf
    refine (face_byte P A cap bs a w hg).mono ?_
    rintro e w' ⟨h1, h2, h3⟩
    by_cases hz : byE bs a = 0
    · obtain ⟨rfl, hr⟩ := h1 hz
      have e1 : bV bs a 0 = at8 bs a := by unfold bV; rw [if_pos ⟨rfl, hz⟩]
      have e2 : bA bs a 0 = a + 1 := by unfold bA; rw [if_pos ⟨rfl, hz⟩]
      have e3 : bF bs a 0 = 0 := by unfold bF; rw [if_pos rfl, hz]
      rw [e1, e2, e3]
      exact ⟨rfl, h.took p0 (.inl ⟨rfl, hr⟩) h3⟩
    · obtain ⟨rfl, hr⟩ := h2 hz
      have e1 : bV bs a 0 = 0 := by unfold bV; rw [if_neg (fun q => hz q.2)]
      have e2 : bA bs a 0 = a := by unfold bA; rw [if_neg (fun q => hz q.2)]
      have e3 : bF bs a 0 = byE bs a := by unfold bF; rw [if_pos rfl]
      rw [e1, e2, e3]
      exact ⟨rfl, h.took p0 (.inr ⟨hz, hr⟩) h3⟩
  · refine (none_byte P _ (a : Int) f hf w hg).mono ?_
    rintro e w' ⟨rfl, hb⟩
    have e1 : bV bs a f = 0 := by unfold bV; rw [if_neg (fun q => hf q.1)]
    have e2 : bA bs a f = a := by unfold bA; rw [if_neg (fun q => hf q.1)]
    have e3 : bF bs a f = f := by unfold bF; rw [if_neg hf]
    rw [e1, e2, e3]
    exact ⟨rfl, h.keep hb⟩
theorem rv_address (p0 : w0.heap.size ≤ P) (h : Rv w0 w q P A cap bs a f b L) : Calls Try.prog 32 #[.pointer (some ⟨P, 0, none⟩)] w fun e w' => e = .returned (.agg (vB (dV bs a f)).toArray) ∧ Rv w0 w' q P A cap bs (dA bs a f) (dF bs a f) b L := by
  rcases h.rx with ⟨hf, hg⟩ | ⟨hf, hg⟩
  · subst hf
    refine (face_address P A cap bs a w hg).mono ?_
    rintro e w' ⟨h1, h2, h3⟩
    by_cases hz : dgE 20 bs a = 0
    · obtain ⟨rfl, hr⟩ := h1 hz
      have e1 : dV bs a 0 = sub bs a 20 := by unfold dV; rw [if_pos ⟨rfl, hz⟩]
      have e2 : dA bs a 0 = a + 20 := by unfold dA; rw [if_pos ⟨rfl, hz⟩]
      have e3 : dF bs a 0 = 0 := by unfold dF; rw [if_pos rfl, hz]
      rw [e1, e2, e3]
      exact ⟨rfl, h.took p0 (.inl ⟨rfl, hr⟩) h3⟩
    · obtain ⟨rfl, hr⟩ := h2 hz
      have e1 : dV bs a 0 = List.replicate 20 0#8 := by unfold dV; rw [if_neg (fun q => hz q.2)]
      have e2 : dA bs a 0 = a := by unfold dA; rw [if_neg (fun q => hz q.2)]
      have e3 : dF bs a 0 = dgE 20 bs a := by unfold dF; rw [if_pos rfl]
      rw [e1, e2, e3]
      exact ⟨rfl, h.took p0 (.inr ⟨hz, hr⟩) h3⟩
  · refine (none_addr P _ (a : Int) f hf w hg).mono ?_
    rintro e w' ⟨rfl, hb⟩
    have e1 : dV bs a f = List.replicate 20 0#8 := by unfold dV; rw [if_neg (fun q => hf q.1)]
    have e2 : dA bs a f = a := by unfold dA; rw [if_neg (fun q => hf q.1)]
    have e3 : dF bs a f = f := by unfold dF; rw [if_neg hf]
    rw [e1, e2, e3]
    exact ⟨rfl, h.keep hb⟩
theorem rv_wide (p0 : w0.heap.size ≤ P) (h : Rv w0 w q P A cap bs a f b L) : Calls Try.prog 33 #[.pointer (some ⟨P, 0, none⟩)] w fun e w' => e = .returned (.agg (vQ (wV bs a f)).toArray) ∧ Rv w0 w' q P A cap bs (wA bs a f) (wF bs a f) b L := by
  rcases h.rx with ⟨hf, hg⟩ | ⟨hf, hg⟩
  · subst hf
    refine (face_wide P A cap bs a w hg).mono ?_
    rintro e w' ⟨h1, h2, h3⟩
    by_cases hz : hiF 32 bs a = 0
    · obtain ⟨rfl, hr⟩ := h1 hz
      have e1 : wV bs a 0 = [lb bs (a + 1 + at8 bs a) 0 (at8 bs a), lb bs (a + 1 + at8 bs a) 1 (at8 bs a), lb bs (a + 1 + at8 bs a) 2 (at8 bs a), lb bs (a + 1 + at8 bs a) 3 (at8 bs a)] := by unfold wV; rw [if_pos ⟨rfl, hz⟩]
      have e2 : wA bs a 0 = a + 1 + at8 bs a := by unfold wA; rw [if_pos ⟨rfl, hz⟩]
      have e3 : wF bs a 0 = 0 := by unfold wF; rw [if_pos rfl, hz]
      rw [e1, e2, e3]
      exact ⟨rfl, h.took p0 (.inl ⟨rfl, hr⟩) h3⟩
    · obtain ⟨rfl, hr⟩ := h2 hz
      have e1 : wV bs a 0 = List.replicate 4 0 := by unfold wV; rw [if_neg (fun q => hz q.2)]
      have e2 : wA bs a 0 = a := by unfold wA; rw [if_neg (fun q => hz q.2)]
      have e3 : wF bs a 0 = hiF 32 bs a := by unfold wF; rw [if_pos rfl]
      rw [e1, e2, e3]
      exact ⟨rfl, h.took p0 (.inr ⟨hz, hr⟩) h3⟩
  · refine (none_wide P _ (a : Int) f hf w hg).mono ?_
    rintro e w' ⟨rfl, hb⟩
    have e1 : wV bs a f = List.replicate 4 0 := by unfold wV; rw [if_neg (fun q => hf q.1)]
    have e2 : wA bs a f = a := by unfold wA; rw [if_neg (fun q => hf q.1)]
    have e3 : wF bs a f = f := by unfold wF; rw [if_neg hf]
    rw [e1, e2, e3]
    exact ⟨rfl, h.keep hb⟩
theorem rv_end (h : Rv w0 w q P A cap bs a f b L) : Calls Try.prog 34 #[.pointer (some ⟨P, 0, none⟩)] w fun e w' => e = .returned (.int .i64 (if f = 0 then (if a < bs.length then 33 else 0) else f)) ∧ Rv w0 w' q P A cap bs a f b L := by
  rcases h.rx with ⟨hf, hg⟩ | ⟨hf, hg⟩
  · subst hf
    refine (end_rest P A cap bs a w hg).mono ?_
    rintro e w' ⟨rfl, m, rfl⟩
    exact ⟨by rw [if_pos rfl], h.keep ⟨rfl, rfl, rfl, Nat.le_refl _, fun _ _ => rfl⟩⟩
  · refine (end_shut P _ (a : Int) f hf w hg).mono ?_
    rintro e w' ⟨rfl, rfl⟩
    exact ⟨by rw [if_neg hf], h⟩
end

end Go.Proofs.Ytehjadgmleoobaa
