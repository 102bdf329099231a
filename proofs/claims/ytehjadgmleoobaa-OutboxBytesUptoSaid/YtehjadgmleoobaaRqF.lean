/-
  Bytes as strings, told apart; the document's outbox.Read: what it holds.
-/
import Derived.Test.YtehjadgmleoobaaRqD
import Derived.Test.YtehjadgmleoobaaObE
import Derived.Test.YtehjadgmleoobaaXMem
import Derived.Laws.BytesArg
import Derived.Test.YtehjadgmleoobaaObF
import Derived.Test.YtehjadgmleoobaaDwF

namespace Go.Proofs.Ytehjadgmleoobaa
open Go Go.RowKit
open Sha

set_option maxRecDepth 100000 in
set_option maxHeartbeats 1000000 in
theorem qread_any (g : Nat) (A : Option Addr) (cap : Nat) (ao : Nat) (bs : List (BitVec 8)) (n : Nat) (hb : bs.length = n) (hl : n ≤ 140737488355328) (hc : n ≤ cap) (hlies : (bs = [] ∧ (A = none → cap = 0)) ∨ A = some ⟨g, ao, none⟩) (w : World) (hr : 0 < bs.length → w.rangeAt g ao (vB bs)) :
    Calls Try.prog 35 #[.slice A n cap] w fun e w' => e = .returned (.pointer (some ⟨w.heap.size, 0, none⟩)) ∧ Rq w' w.heap.size g A cap ao bs 0 (f0 bs) ∧ Below w.heap.size w w' := by
  have b1 : Below w.heap.size w (w.alloc (Obj.cells #[.slice A n cap, .int .i64 0, .int .i64 0] 97)) := (Below.refl _ _).alloc (Nat.le_refl _) _
  have hrr : Rq (w.alloc (Obj.cells #[.slice A n cap, .int .i64 0, .int .i64 0] 97)) w.heap.size g A cap ao bs 0 0 := ⟨by rw [hb]; exact Row.new' rfl rfl, hlies, fun e => range_be (hr e) b1, fun e => Nat.ne_of_lt (range_lt (hr e) e), Nat.zero_le _, by omega, by omega⟩
  have hb2 : Below w.heap.size w (w.alloc (Obj.cells #[.slice A n cap, .int .i64 0, .int .i64 30] 97)) := (Below.refl _ _).alloc (Nat.le_refl _) _
  have hre : Rq (w.alloc (Obj.cells #[.slice A n cap, .int .i64 0, .int .i64 30] 97)) w.heap.size g A cap ao bs 0 30 := ⟨by rw [hb]; exact Row.new' rfl rfl, hlies, fun e => range_be (hr e) hb2, fun e => Nat.ne_of_lt (range_lt (hr e) e), Nat.zero_le _, by omega, by omega⟩
  have HR : Hid (Rq _ _ _ _ _ _ _ _ _) := hrr
  have HE : Hid (Rq _ _ _ _ _ _ _ _ _) := hre
  have B1 : Hid _ := b1
  have B2 : Hid _ := hb2
  unfold f0
  by_cases hc : 4194304 < bs.length
  · rw [if_pos hc]
    have c1 : (4194304 : Int) < (n : Int) := by omega
    clear hr hrr hre b1 hb2 hb hc hlies
    go_enter Try.func35, Try.ntmps35
    go_wp2
    go_ret
    exact ⟨rfl, HE.out, B2.out⟩
  · rw [if_neg hc]
    have c1 : ¬ (4194304 : Int) < (n : Int) := by omega
    clear hr hrr hre b1 hb2 hb hc hlies
    go_enter Try.func35, Try.ntmps35
    go_wp2
    go_ret
    exact ⟨rfl, HR.out, B1.out⟩

section
variable {w : World} {D g a cap : Nat} {A : Option Addr} {ao : Nat} {bs : List (BitVec 8)} {f : Int}
theorem q_byte (h : Rq w D g A cap ao bs a f) : Calls Try.prog 36 #[.pointer (some ⟨D, 0, none⟩)] w fun e w' => e = .returned (.int .u8 ((bV bs a f : Nat) : Int)) ∧ Rq w' D g A cap ao bs (bA bs a f) (bF bs a f) ∧ Gp D w w' := by
  by_cases hf : f = 0
  · subst hf
    by_cases hz : bs.length ≤ a
    · have ez : byE bs a = 31 := by unfold byE; rw [if_pos hz]
      have e1 : bV bs a 0 = 0 := by unfold bV; rw [if_neg (fun q => by rw [ez] at q; cases q.2)]
      have e2 : bA bs a 0 = a := by unfold bA; rw [if_neg (fun q => by rw [ez] at q; cases q.2)]
      have e3 : bF bs a 0 = 31 := by unfold bF; rw [if_pos rfl, ez]
      rw [e1, e2, e3]
      exact qbyte_short D g A cap ao bs a hz w h
    · have ez : byE bs a = 0 := by unfold byE; rw [if_neg hz]
      have e1 : bV bs a 0 = at8 bs a := by unfold bV; rw [if_pos ⟨rfl, ez⟩]
      have e2 : bA bs a 0 = a + 1 := by unfold bA; rw [if_pos ⟨rfl, ez⟩]
      have e3 : bF bs a 0 = 0 := by unfold bF; rw [if_pos rfl, ez]
      rw [e1, e2, e3]
      exact qbyte_ok D g A cap ao bs a (by omega) w h
  · have e1 : bV bs a f = 0 := by unfold bV; rw [if_neg (fun q => hf q.1)]
    have e2 : bA bs a f = a := by unfold bA; rw [if_neg (fun q => hf q.1)]
    have e3 : bF bs a f = f := by unfold bF; rw [if_neg hf]
    rw [e1, e2, e3]
    exact (qbyte_no D g A cap ao bs a f hf w h).mono fun e w' ⟨he, hw⟩ => ⟨he, by rw [hw]; exact h, by rw [hw]; exact Gro.refl _ _⟩
theorem q_number (h : Rq w D g A cap ao bs a f) : Calls Try.prog 37 #[.pointer (some ⟨D, 0, none⟩)] w fun e w' => e = .returned (.int .i64 ((nV bs a f : Nat) : Int)) ∧ Rq w' D g A cap ao bs (nA bs a f) (nF bs a f) ∧ Gp D w w' := by
  by_cases hf : f = 0
  · subst hf
    by_cases hz : nuE bs a = 0
    · have e1 : nV bs a 0 = nuW bs a := by unfold nV; rw [if_pos rfl, if_pos hz]
      have e2 : nA bs a 0 = a + 1 + at8 bs a := by unfold nA; rw [if_pos rfl, if_pos hz]
      have e3 : nF bs a 0 = 0 := by unfold nF; rw [if_pos rfl, hz]
      rw [e1, e2, e3]
      exact qnum_ok D g A cap ao bs a hz w h
    · have e1 : nV bs a 0 = 0 := by unfold nV; rw [if_pos rfl, if_neg hz]
      have e2 : nA bs a 0 = a := by unfold nA; rw [if_pos rfl, if_neg hz]
      have e3 : nF bs a 0 = nuE bs a := by unfold nF; rw [if_pos rfl]
      rw [e1, e2, e3]
      exact qnum_bad D g A cap ao bs a _ rfl hz w h
  · have e1 : nV bs a f = 0 := by unfold nV; rw [if_neg hf]
    have e2 : nA bs a f = a := by unfold nA; rw [if_neg hf]
    have e3 : nF bs a f = f := by unfold nF; rw [if_neg hf]
    rw [e1, e2, e3]
    exact qnum_no D g A cap ao bs a f hf w h
theorem q_address (h : Rq w D g A cap ao bs a f) : Calls Try.prog 38 #[.pointer (some ⟨D, 0, none⟩)] w fun e w' => e = .returned (.agg (vB (dV bs a f)).toArray) ∧ Rq w' D g A cap ao bs (dA bs a f) (dF bs a f) ∧ Gp D w w' := by
  by_cases hf : f = 0
  · subst hf
    by_cases hz : dgE 20 bs a = 0
    · have e1 : dV bs a 0 = sub bs a 20 := by unfold dV; rw [if_pos ⟨rfl, hz⟩]
      have e2 : dA bs a 0 = a + 20 := by unfold dA; rw [if_pos ⟨rfl, hz⟩]
      have e3 : dF bs a 0 = 0 := by unfold dF; rw [if_pos rfl, hz]
      rw [e1, e2, e3]
      exact qaddress_ok D g A cap ao bs a hz w h
    · have e1 : dV bs a 0 = dgN 20 [] := by unfold dV; rw [if_neg (fun q => hz q.2)]; rfl
      have e2 : dA bs a 0 = a := by unfold dA; rw [if_neg (fun q => hz q.2)]
      have e3 : dF bs a 0 = dgE 20 bs a := by unfold dF; rw [if_pos rfl]
      rw [e1, e2, e3]
      exact qaddress_bad D g A cap ao bs a _ rfl hz w h
  · have e1 : dV bs a f = dgN 20 [] := by unfold dV; rw [if_neg (fun q => hf q.1)]; rfl
    have e2 : dA bs a f = a := by unfold dA; rw [if_neg (fun q => hf q.1)]
    have e3 : dF bs a f = f := by unfold dF; rw [if_neg hf]
    rw [e1, e2, e3]
    exact qaddress_no D g A cap ao bs a f hf w h
theorem q_wide (h : Rq w D g A cap ao bs a f) : Calls Try.prog 39 #[.pointer (some ⟨D, 0, none⟩)] w fun e w' => e = .returned (.agg (vQ (wV bs a f)).toArray) ∧ Rq w' D g A cap ao bs (wA bs a f) (wF bs a f) ∧ Gp D w w' := by
  by_cases hf : f = 0
  · subst hf
    by_cases hz : hiF 32 bs a = 0
    · have e1 : wV bs a 0 = [lb bs (a + 1 + at8 bs a) 0 (at8 bs a), lb bs (a + 1 + at8 bs a) 1 (at8 bs a), lb bs (a + 1 + at8 bs a) 2 (at8 bs a), lb bs (a + 1 + at8 bs a) 3 (at8 bs a)] := by unfold wV; rw [if_pos ⟨rfl, hz⟩]
      have e2 : wA bs a 0 = a + 1 + at8 bs a := by unfold wA; rw [if_pos ⟨rfl, hz⟩]
      have e3 : wF bs a 0 = 0 := by unfold wF; rw [if_pos rfl, hz]
      rw [e1, e2, e3]
      exact qwide_ok D g A cap ao bs a hz _ rfl w h
    · have e1 : wV bs a 0 = List.replicate 4 0 := by unfold wV; rw [if_neg (fun q => hz q.2)]
      have e2 : wA bs a 0 = a := by unfold wA; rw [if_neg (fun q => hz q.2)]
      have e3 : wF bs a 0 = hiF 32 bs a := by unfold wF; rw [if_pos rfl]
      rw [e1, e2, e3]
      exact qwide_bad D g A cap ao bs a _ rfl hz w h
  · have e1 : wV bs a f = List.replicate 4 0 := by unfold wV; rw [if_neg (fun q => hf q.1)]
    have e2 : wA bs a f = a := by unfold wA; rw [if_neg (fun q => hf q.1)]
    have e3 : wF bs a f = f := by unfold wF; rw [if_neg hf]
    rw [e1, e2, e3]
    exact qwide_no D g A cap ao bs a f hf w h
end
end Go.Proofs.Ytehjadgmleoobaa

namespace Go.Proofs.Ytehjadgmleoobaa
open Go Go.RowKit
open Sha

/-- Bytes as a string. -/
def str (l : List (BitVec 8)) : ByteArray := strOfNums (l.map c)
theorem run_convert_str {P : Program} (w : World) (src e dst : TypeId) (hs : P.underlying src = some (.slice e)) (he : P.underlying e = some (.int .u8)) (hd : P.underlying dst = some .string) (b off cap n : Nat) (l : List (BitVec 8)) (hl : l.length = n)
    (hr : w.rangeAt b off (vB l)) : (convert src dst (.slice (some ⟨b, off, none⟩) n cap)).run P w = .ok (.string (str l)) w :=
  run_convert_bytes_arg w src e hs he b off n cap (l.map c) (by simpa using hl) (fun i hi => hr i _ (by rw [vB_get l i (by omega)]; simp [show i < l.length by omega])) dst hd
theorem run_convert_sl {P : Program} (w : World) (src e dst : TypeId) (hs : P.underlying src = some (.slice e)) (he : P.underlying e = some (.int .u8)) (hd : P.underlying dst = some .string) (v : Value) (d : List (BitVec 8)) (hv : SlAt w v d) :
    (convert src dst v).run P w = .ok (.string (str d)) w := by
  rcases hv with ⟨rfl, A, cap, rfl⟩ | ⟨ab, ao, cap, rfl, _, hr⟩
  · cases A with
    | none =>
      rw [run_convert_bytes_string w src dst e none 0 cap hs he hd]
      simp [Conv.bytesToString]
      rfl
    | some p =>
      have hl : (loadCells p 0).run P w = .ok (([] : List Int).map (Value.int .u8)).toArray w := run_loadCells_list (P := P) w p [] (fun j v hj => by simp at hj)
      rw [run_convert_bytes_string w src dst e _ 0 cap hs he hd, run_bytesToString w _ 0 cap [] hl]
      rfl
  · exact run_convert_str w src e dst hs he hd ab ao cap d.length d rfl hr

end Go.Proofs.Ytehjadgmleoobaa

namespace Go.Proofs.Ytehjadgmleoobaa
open Go Go.RowKit
open Sha

theorem str_toList (l : List (BitVec 8)) : (str l).toList = toU l := by
  rw [ByteArray.toList_eq]
  unfold str toU
  rw [strOfNums_data, List.map_map]
  apply List.map_congr_left
  intro x _
  apply UInt8.toNat_inj.1
  have := x.isLt
  unfold c
  simp only [Function.comp_apply, Int.toNat_natCast, UInt8.toNat_ofNat', UInt8.toNat_ofBitVec]
  omega
theorem str_beq (l r : List (BitVec 8)) : ((str l).toList == (str r).toList) = decide (l = r) := by
  rw [str_toList, str_toList, toU_beq]
section
variable {ops : Array Oper} {rest : List Oper} {op : Oper} {a : Act} {w : World} {Q : Exit → Act → World → Prop}
theorem wpList_conv_s (hw : Region.wanted op (yielded ops a.tmps) = true) (x : Operand) (ho : op.op = .convert 29 9 x) (v : Value) (d : List (BitVec 8)) (hx : a.eval x = v) (hv : SlAt w v d) (h : wpList Try.prog ops Q rest (a.put op.dst (.string (str d))) w) : wpList Try.prog ops Q (op :: rest) a w :=
  BigFrame.wpList_want hw fun _ hK => by
    have hr := run_convert_sl (P := Try.prog) w 29 5 9 Try.underlying29 Try.underlying5 Try.underlying9 v d hv
    unfold Oper.wp execOp
    simp only [ho, hx, Sem.run_bind, hr, Result.andThen_ok, Sem.run_pure, Oper.upon_value]
    exact hK _ _ h
theorem wpList_neq_s (hw : Region.wanted op (yielded ops a.tmps) = true) (x y : Operand) (t yt : TypeId) (ho : op.op = .binOp .neq t x y yt) (l r : List (BitVec 8)) (hx : a.eval x = .string (str l)) (hy : a.eval y = .string (str r)) (B : Bool) (hB : (!decide (l = r)) = B) (h : wpList Try.prog ops Q rest (a.put op.dst (.bool B)) w) : wpList Try.prog ops Q (op :: rest) a w :=
  BigFrame.wpList_want hw fun _ hK => by
    subst hB
    rw [← str_beq] at h
    unfold Oper.wp execOp
    simp only [ho, hx, hy]
    simp [go_sem]
    exact hK _ _ h
end
/-- The document's reader, with a fault or without; a leaf that is filled; the answer's place. -/
structure Rz (w0 w : World) (q D g : Nat) (A : Option Addr) (cap : Nat) (ao : Nat) (bs : List (BitVec 8)) (a : Nat) (f : Int) (b : Nat) (L : List Value) : Prop where
  rx : Rq w D g A cap ao bs a f
  rl : Row w b L 39
  rq : Row w q zLf 39
  qb : q < b
  q0 : q = w0.heap.size
  p0 : w0.heap.size ≤ D
  gl : 0 < bs.length → g < w0.heap.size
  be : Below w0.heap.size w0 w
section
variable {w0 w w' : World} {q D g cap a a' b : Nat} {f f' : Int} {A : Option Addr} {ao : Nat} {bs : List (BitVec 8)} {L M : List Value}
theorem Rz.keep (h : Rz w0 w q D g A cap ao bs a f b L) (k : Below w.heap.size w w') : Rz w0 w' q D g A cap ao bs a f b L :=
  ⟨h.rx.be k, Row.below h.rl k h.rl.lt, Row.below h.rq k h.rq.lt, h.qb, h.q0, h.p0, h.gl, h.be.trans (k.mono h.be.size)⟩
theorem Rz.took (h : Rz w0 w q D g A cap ao bs a f b L) (r : Rq w' D g A cap ao bs a' f') (k : Gp D w w') : Rz w0 w' q D g A cap ao bs a' f' b L :=
  ⟨r, k.row h.rl (row_ne h.rl h.rx.row (by decide)), k.row h.rq (row_ne h.rq h.rx.row (by decide)), h.qb, h.q0, h.p0, h.gl, h.be.trans (k.to_below h.be.size (fun g e => by rw [e]; exact h.p0))⟩
theorem Rz.put (h : Rz w0 w q D g A cap ao bs a f b L) (r : Row w' b M 39) (k : Gro (· = b) w w') : Rz w0 w' q D g A cap ao bs a f b M :=
  ⟨h.rx.gro k (row_ne h.rx.row h.rl (by decide)) (fun e q => by have h1 := h.gl e; have h2 := h.qb; have h3 := h.q0; omega), r, k.row h.rq (Nat.ne_of_lt h.qb), h.qb, h.q0, h.p0, h.gl, h.be.trans (k.to_below h.be.size (fun g e => by rw [e]; have h1 := h.qb; have h2 := h.q0; omega))⟩
theorem rz_byte (h : Rz w0 w q D g A cap ao bs a f b L) : Calls Try.prog 36 #[.pointer (some ⟨D, 0, none⟩)] w fun e w' => e = .returned (.int .u8 ((bV bs a f : Nat) : Int)) ∧ Rz w0 w' q D g A cap ao bs (bA bs a f) (bF bs a f) b L :=
  (q_byte h.rx).mono fun _ _ ⟨h1, h2, h3⟩ => ⟨h1, h.took h2 h3⟩
theorem rz_number (h : Rz w0 w q D g A cap ao bs a f b L) : Calls Try.prog 37 #[.pointer (some ⟨D, 0, none⟩)] w fun e w' => e = .returned (.int .i64 ((nV bs a f : Nat) : Int)) ∧ Rz w0 w' q D g A cap ao bs (nA bs a f) (nF bs a f) b L :=
  (q_number h.rx).mono fun _ _ ⟨h1, h2, h3⟩ => ⟨h1, h.took h2 h3⟩
theorem rz_address (h : Rz w0 w q D g A cap ao bs a f b L) : Calls Try.prog 38 #[.pointer (some ⟨D, 0, none⟩)] w fun e w' => e = .returned (.agg (vB (dV bs a f)).toArray) ∧ Rz w0 w' q D g A cap ao bs (dA bs a f) (dF bs a f) b L :=
  (q_address h.rx).mono fun _ _ ⟨h1, h2, h3⟩ => ⟨h1, h.took h2 h3⟩
theorem rz_wide (h : Rz w0 w q D g A cap ao bs a f b L) : Calls Try.prog 39 #[.pointer (some ⟨D, 0, none⟩)] w fun e w' => e = .returned (.agg (vQ (wV bs a f)).toArray) ∧ Rz w0 w' q D g A cap ao bs (wA bs a f) (wF bs a f) b L :=
  (q_wide h.rx).mono fun _ _ ⟨h1, h2, h3⟩ => ⟨h1, h.took h2 h3⟩
end
end Go.Proofs.Ytehjadgmleoobaa
