/-
  wire.Writer, whatever was laid: Byte, Flag, Digest, Address, Bytes.
-/
import Derived.Test.YtaaehdlenigomaaGreatXWa
namespace Go.Proofs.YtaaehdlenigomaaGreat
open Go Go.RowKit
open Sha

/-- What a writer may change. -/
abbrev Rw (P : Nat) (A : Option Addr) (cap : Nat) (bs : List (BitVec 8)) : Nat → Prop := fun g => g = P ∨ (Value.slice A bs.length cap).ownBlock = some g
/-- A writer behind one value more. -/
def Beh (w w' : World) (P : Nat) (A : Option Addr) (cap : Nat) (bs : List (BitVec 8)) (f : Int) (d : List (BitVec 8)) : Prop :=
  (∃ A' cap', Wr w' P A' cap' (wrB bs f d) (wrF bs f d) ∧ Frm (.slice A bs.length cap) w.heap.size (.slice A' (wrB bs f d).length cap')) ∧ Gro (Rw P A cap bs) w w'
theorem Beh.after {w w1 w' : World} {P : Nat} {A : Option Addr} {cap : Nat} {bs d : List (BitVec 8)} {f : Int} (k : Below w.heap.size w w1) (h : Beh w1 w' P A cap bs f d) : Beh w w' P A cap bs f d := by
  obtain ⟨⟨A', cap', h1, h2⟩, h3⟩ := h
  exact ⟨⟨A', cap', h1, fun g e => by rcases h2 g e with q | q; exact .inl q; exact .inr (Nat.le_trans k.size q)⟩, (Gro.of_below k).trans h3⟩
/-- A block that is no writer's. -/
theorem Wr.not {w : World} {P : Nat} {A : Option Addr} {cap : Nat} {bs : List (BitVec 8)} {f : Int} (h : Wr w P A cap bs f) {b : Nat} {cs : List Value} {t : TypeId} (r : Row w b cs t) (h1 : t ≠ 121) (h2 : t ≠ 5) : ¬ Rw P A cap bs b := by
  rintro (e | e)
  · exact row_ne r h.1 h1 e
  · exact Bw.ne h.2 r h2 _ e rfl
theorem one_lays (P : Nat) (A : Option Addr) (cap : Nat) (bs : List (BitVec 8)) (f : Int) (b : Nat) (v : Value) (d : List (BitVec 8)) (hd : d.length ≤ 1099511627776) (hB : bs.length ≤ 4194304) (w : World) (hw : Wr w P A cap bs f) (rb : Row w b [v] 28) (hv : ∀ W, Gro (Rw P A cap bs) w W → SlAt W v d) (hnl : Nl v) :
    Calls Tryz.prog 97 #[.pointer (some ⟨P, 0, none⟩), .slice (some ⟨b, 0, none⟩) 1 1] w fun e w' => e = .returned (.tuple #[]) ∧ Beh w w' P A cap bs f d := by
  have e1 : [d].flatten = d := by simp
  refine (lay_any P A cap bs f b [v] [d] 1 rfl (by decide) (by rw [e1]; exact hd) hB w (Rw P A cap bs) rfl hw (fun W hG => ⟨hG.row rb (hw.not rb (by decide) (by decide)), rfl, fun i hi => ?_⟩)).mono ?_
  · obtain rfl : i = 0 := by simp at hi; omega
    exact ⟨hv W hG, hnl⟩
  · rintro e w' ⟨rfl, h1, h2⟩
    rw [e1] at h1
    exact ⟨rfl, h1, h2⟩
theorem nl_some (g o n c : Nat) : Nl (.slice (some ⟨g, o, none⟩) n c) := fun A _ _ e h => by
  simp only [Value.slice.injEq] at e
  rw [h] at e
  cases e.1
theorem sl_row {w : World} {g : Nat} {d : List (BitVec 8)} {t : TypeId} (r : Row w g (vB d) t) : SlAt w (.slice (some ⟨g, 0, none⟩) d.length d.length) d := .inr ⟨g, 0, d.length, rfl, Nat.le_refl _, r.all⟩

set_option maxRecDepth 100000 in
set_option maxHeartbeats 1000000 in
theorem byte_any (P : Nat) (A : Option Addr) (cap : Nat) (bs : List (BitVec 8)) (f : Int) (hB : bs.length ≤ 4194304) (x : BitVec 8) (y : Int) (hy : y = c x) (w : World) (hw : Wr w P A cap bs f) :
    Calls Tryz.prog 65 #[.pointer (some ⟨P, 0, none⟩), .int .u8 y] w fun e w' => e = .returned (.tuple #[]) ∧ Beh w w' P A cap bs f [x] := by
  have b1 : Below w.heap.size w (w.alloc (Obj.cells #[.int .u8 y] 5)) := (Below.refl _ _).alloc (Nat.le_refl _) _
  have b2 := b1.alloc b1.size (Obj.cells #[.slice (some ⟨w.heap.size, 0, none⟩) 1 1] 28)
  have r1 : Row ((w.alloc (Obj.cells #[.int .u8 y] 5)).alloc (Obj.cells #[.slice (some ⟨w.heap.size, 0, none⟩) 1 1] 28)) w.heap.size [.int .u8 y] 5 := (Row.new' rfl rfl).alloc _
  have r2 : Row ((w.alloc (Obj.cells #[.int .u8 y] 5)).alloc (Obj.cells #[.slice (some ⟨w.heap.size, 0, none⟩) 1 1] 28)) (w.heap.size + 1) [.slice (some ⟨w.heap.size, 0, none⟩) 1 1] 28 := Row.new' (by simp) rfl
  have hno : ¬ Rw P A cap bs w.heap.size := by
    rintro (e | e)
    · have := hw.1.lt; omega
    · have := Bw.lt hw.2 _ e; omega
  have HC : Hid _ := one_lays P A cap bs f (w.heap.size + 1) (.slice (some ⟨w.heap.size, 0, none⟩) 1 1) [x] (by simp) hB _ (hw.be b2) r2 (fun W hG => by
    have := hG.row r1 hno
    rw [hy] at this
    exact sl_row (d := [x]) this) (nl_some _ _ _ _)
  have HB : Hid _ := b2
  clear b1 b2 r1 r2 hno hw hy
  go_enter Tryz.func65, Tryz.ntmps65
  go_wp2_with fail
  refine Calls.mono HC.out ?_
  rintro e w' ⟨rfl, h1⟩
  have H1 : Hid _ := h1.after HB.out
  clear h1
  go_wp2_with fail
  go_end0
  exact ⟨rfl, H1.out⟩

section
variable {P : Program} {ops : Array Oper} {rest : List Oper} {op : Oper} {a : Act} {w : World} {Q : Exit → Act → World → Prop}
theorem wpList_slice_all (hw : Region.wanted op (yielded ops a.tmps) = true) (t e : TypeId) (n : Nat) (x : Operand) (b f : Nat) (ho : op.op = .slice t x none none none) (hx : a.eval x = .pointer (some ⟨b, f, none⟩))
    (hu : P.underlying t = some (.array n e)) (hs : (P.info? e).map (·.size) = some 1) (h : wpList P ops Q rest (a.put op.dst (.slice (some ⟨b, f, none⟩) n n)) w) : wpList P ops Q (op :: rest) a w :=
  BigFrame.wpList_want hw fun K hK => by
    cases hq : P.info? e with
    | none => simp [hq] at hs
    | some i =>
      have h1 : i.size = 1 := by simpa [hq] using hs
      have hr : (Instr.sliceAt t (.pointer (some ⟨b, f, none⟩)) none none none).run P w = .ok (.slice (some ⟨b, f, none⟩) n n) w := by
        simp [Instr.sliceAt, Instr.sureAddr, run_underlying hu, Instr.sliceBounds, sizeOf, typeInfo, hq, Addr.add_mid]
      unfold Oper.wp execOp
      simp only [ho, hx, Option.map_none, Sem.run_bind, hr, Result.andThen_ok, Sem.run_pure, Oper.upon_value]
      exact hK _ _ h
end

set_option maxRecDepth 100000 in
set_option maxHeartbeats 1000000 in
theorem address_lays (P : Nat) (A : Option Addr) (cap : Nat) (bs : List (BitVec 8)) (f : Int) (hB : bs.length ≤ 4194304) (d : List (BitVec 8)) (hd : d.length = 20) (w : World) (hw : Wr w P A cap bs f) :
    Calls Tryz.prog 30 #[.pointer (some ⟨P, 0, none⟩), .agg (vB d).toArray] w fun e w' => e = .returned (.tuple #[]) ∧ Beh w w' P A cap bs f d := by
  have b1 : Below w.heap.size w (w.alloc (Obj.cells (vB d).toArray 23)) := (Below.refl _ _).alloc (Nat.le_refl _) _
  have b2 := b1.alloc b1.size (Obj.cells #[.slice (some ⟨w.heap.size, 0, none⟩) 20 20] 28)
  have r1 : Row ((w.alloc (Obj.cells (vB d).toArray 23)).alloc (Obj.cells #[.slice (some ⟨w.heap.size, 0, none⟩) 20 20] 28)) w.heap.size (vB d) 23 := (Row.new' rfl rfl).alloc _
  have r2 : Row ((w.alloc (Obj.cells (vB d).toArray 23)).alloc (Obj.cells #[.slice (some ⟨w.heap.size, 0, none⟩) 20 20] 28)) (w.heap.size + 1) [.slice (some ⟨w.heap.size, 0, none⟩) 20 20] 28 := Row.new' (by simp) rfl
  have HC : Hid _ := one_lays P A cap bs f (w.heap.size + 1) (.slice (some ⟨w.heap.size, 0, none⟩) 20 20) d (by omega) hB _ (hw.be b2) r2 (fun W hG => by
    have q := sl_row (hG.row r1 ((hw.be b2).not r1 (by decide) (by decide)))
    rw [hd] at q
    exact q) (nl_some _ _ _ _)
  have HB : Hid _ := b2
  clear b1 b2 r1 r2 hw
  go_enter Tryz.func30, Tryz.ntmps30
  go_wp2_with (refine wpList_slice_all rfl 23 5 20 (.tmp 3) w.heap.size 0 rfl rfl Tryz.underlying23 info_u8 ?_; simp only [Act.put, List.setIfInBounds_toArray, List.set_cons_zero, List.set_cons_succ])
  refine Calls.mono HC.out ?_
  rintro e w' ⟨rfl, h1⟩
  have H1 : Hid _ := h1.after HB.out
  clear h1
  go_wp2_with fail
  go_end0
  exact ⟨rfl, H1.out⟩

set_option maxRecDepth 100000 in
set_option maxHeartbeats 4000000 in
theorem bytes_lays (P : Nat) (A : Option Addr) (cap : Nat) (bs : List (BitVec 8)) (f : Int) (hB : bs.length ≤ 4194304) (d : List (BitVec 8)) (n : Nat) (hd : d.length = n) (hn : n ≤ 140737488351232) (B : Option Addr) (cb : Nat) (hnil : B = none → cb = 0) (k : Nat) (hk : k = nb n 0 0 0) (w : World) (hw : Wr w P A cap bs f) (hv : ∀ W, Gro (Rw P A cap bs) w W → SlAt W (.slice B n cb) d) (hlong : n + 33 ≤ 1099511627776) :
    Calls Tryz.prog 61 #[.pointer (some ⟨P, 0, none⟩), .slice B n cb] w fun e w' => e = .returned (.tuple #[]) ∧ Beh w w' P A cap bs f (fm [n, 0, 0, 0] k ++ d) := by
  have hk32 : k ≤ 32 := by rw [hk]; exact nb_le n 0 0 0
  have HF : Hid (∀ w, _) := fun w => formOf_any n 0 0 0 (by omega) (by omega) (by omega) (by omega) k hk w
  have HW : Hid (Wr w P A cap bs f) := hw
  have HV : Hid (∀ W, Gro (Rw P A cap bs) w W → SlAt W (.slice B n cb) d) := hv
  have HB : Hid (bs.length ≤ 4194304) := hB
  have HD : Hid (d.length = n) := hd
  have HNIL : Hid (B = none → cb = 0) := hnil
  clear hk hw hv hB hd hnil
  go_enter Tryz.func61, Tryz.ntmps61
  go_wp2_with fail
  refine (HF.out w).mono ?_
  rintro e V ⟨rfl, hB1⟩
  have b0 : Below w.heap.size w V := hB1
  have hw := HW.out.be hB1
  clear hB1
  generalize hcs : vB (fl [n, 0, 0, 0] k k) = cs
  have hcl : cs.length = 33 := by rw [← hcs, vB_length, fl_len]
  have hone : cs.toArray.all (·.oneCell') = true := by rw [← hcs]; exact all_oneCell_toArray (vB_one _)
  have hi' : (Tryz.prog.info? 112).map (·.size) = some cs.toArray.size := by rw [info_f, List.size_toArray, hcl]
  have n0 : Row (V.alloc (Obj.cells z33.toArray 112)) V.heap.size z33 112 := Row.new' rfl rfl
  have T0 := n0.there 0 cs.toArray.size (by rw [List.size_toArray, hcl]; decide)
  replace n0 := n0.over (vs := cs) (by rw [hcl]; rfl)
  have hB : Below V.heap.size V ((V.alloc (Obj.cells z33.toArray 112)).setCells V.heap.size 0 cs) := below_setCells ((Below.refl _ _).alloc (Nat.le_refl _) (Obj.cells z33.toArray 112)) (b := V.heap.size) (o := 0) (Nat.le_refl _) cs
  replace b0 := b0.trans (hB.mono b0.size)
  replace hw := hw.be hB
  have HCS : Hid (vB (fl [n, 0, 0, 0] k k) = cs) := hcs
  clear hB hcs
  have HI' : Hid _ := hi'
  have HO : Hid _ := hone
  clear hi' hone hcl
  go_wp2_with (first
    | (refine wpList_slice_arr rfl 112 5 33 (.tmp 4) (.tmp 15) N4 0 (k + 1) _ (by omega) (by omega) rfl rfl rfl Tryz.underlying112 info_u8 ?_; simp only [Act.put, List.setIfInBounds_toArray, List.set_cons_zero, List.set_cons_succ])
    | (refine wpList_store_mid rfl 112 (.tmp 4) (.tmp 12) rfl V.heap.size 0 cs.toArray rfl rfl T0 HI'.out HO.out ?_; simp only [Act.put]; clear T0; (change wpList _ _ _ _ _ ((V.alloc (Obj.cells z33.toArray 112)).setCells V.heap.size 0 cs)); (generalize ((V.alloc (Obj.cells z33.toArray 112)).setCells V.heap.size 0 cs) = X at *); (generalize hN : V.heap.size = N4 at *; clear hN)))
  rw [← HCS.out] at n0
  have b1 : Below X.heap.size X (X.alloc (Obj.cells #[Value.slice (some ⟨N4, 0, none⟩) (k + 1) 33, Value.slice B n cb] 28)) := (Below.refl _ _).alloc (Nat.le_refl _) _
  have rb : Row (X.alloc (Obj.cells #[Value.slice (some ⟨N4, 0, none⟩) (k + 1) 33, Value.slice B n cb] 28)) X.heap.size [.slice (some ⟨N4, 0, none⟩) (k + 1) 33, .slice B n cb] 28 := Row.new' rfl rfl
  replace hw := hw.be b1
  replace n0 := Row.below n0 b1 n0.lt
  replace b0 := b0.trans (b1.mono b0.size)
  clear b1
  generalize X.alloc (Obj.cells #[Value.slice (some ⟨N4, 0, none⟩) (k + 1) 33, Value.slice B n cb] 28) = Y at *
  generalize X.heap.size = NX at *
  have e1 : [fm [n, 0, 0, 0] k, d].flatten = fm [n, 0, 0, 0] k ++ d := by simp
  refine (lay_any P A cap bs f NX [.slice (some ⟨N4, 0, none⟩) (k + 1) 33, .slice B n cb] [fm [n, 0, 0, 0] k, d] 2 rfl (by decide) (by rw [e1, List.length_append, fm_len, HD.out]; omega) HB.out Y (Rw P A cap bs) rfl hw (fun W hGW => ⟨hGW.row rb (hw.not rb (by decide) (by decide)), rfl, fun i hi => ?_⟩)).mono ?_
  · rcases (show i = 0 ∨ i = 1 by simp at hi; omega) with rfl | rfl
    · exact ⟨sl_form hk32 (hGW.row n0 (hw.not n0 (by decide) (by decide))), nl_some _ _ _ _⟩
    · exact ⟨HV.out W ((Gro.of_below b0).trans hGW), fun A' n' c' e h => by
        simp only [List.getD_cons_succ, List.getD_cons_zero, Value.slice.injEq] at e
        rw [← e.2.2]; exact HNIL.out (e.1.trans h)⟩
  rintro e Z ⟨rfl, h1, h2⟩
  rw [e1] at h1
  have H1 : Hid _ := Beh.after b0 (show Beh Y Z P A cap bs f (fm [n, 0, 0, 0] k ++ d) from ⟨h1, h2⟩)
  clear h1 h2 hw n0 rb b0 e1
  go_wp2_with fail
  go_end0
  exact ⟨rfl, H1.out⟩

end Go.Proofs.YtaaehdlenigomaaGreat
