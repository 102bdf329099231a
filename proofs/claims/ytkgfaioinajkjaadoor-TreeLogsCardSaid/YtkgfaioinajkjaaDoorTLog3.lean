/-
  A leaf is added to a log.
-/
import Derived.Test.YtkgfaioinajkjaaDoorTLog2
import Derived.Deep.CutRange
import Derived.Deep.RegionLaw
namespace Go.Proofs.YtkgfaioinajkjaaDoor
open Go Go.RowKit
open Sha

section
variable {P : Program} {o : Oper} {a : Act} {w : World} {K : Act → World → Prop} {Q : Exit → Act → World → Prop}
theorem wp_slice_hi (t e : TypeId) (x z : Operand) (b f n cap k : Nat) (ho : o.op = .slice t x none (some z) none) (hx : a.eval x = .slice (some ⟨b, f, none⟩) n cap) (hz : a.eval z = .int .i64 (k : Int)) (hk : k ≤ cap)
    (hu : P.underlying t = some (.slice e)) {s : Nat} (hs : (P.info? e).map (·.size) = some s) (h : K (a.put o.dst (.slice (some ⟨b, f, none⟩) k cap)) w) : Oper.wp P o a w K Q := by
  cases hq : P.info? e with
  | none => simp [hq] at hs
  | some i =>
    have hr : (Instr.sliceAt t (.slice (some ⟨b, f, none⟩) n cap) none (some (.int .i64 (k : Int))) none).run P w = .ok (.slice (some ⟨b, f, none⟩) k cap) w := by
      simp [Instr.sliceAt, Instr.slice, run_underlying hu, Instr.sliceBounds, Instr.sliceBound, asIntOf, sizeOf, typeInfo, hq, hk, Addr.add_mid]
    unfold Oper.wp execOp
    simp only [ho, hx, hz, Option.map_some, Option.map_none, Sem.run_bind, hr, Result.andThen_ok, Sem.run_pure, Oper.upon_value]
    exact h
end
section
variable {P : Program} {ops : Array Oper} {rest : List Oper} {op : Oper} {a : Act} {w : World} {Q : Exit → Act → World → Prop}
theorem wpList_slice_hi (hw : Region.wanted op (yielded ops a.tmps) = true) (t e : TypeId) (x z : Operand) (ho : op.op = .slice t x none (some z) none) (b f n cap k : Nat) (hx : a.eval x = .slice (some ⟨b, f, none⟩) n cap) (hz : a.eval z = .int .i64 (k : Int)) (hk : k ≤ cap)
    (hu : P.underlying t = some (.slice e)) {s : Nat} (hs : (P.info? e).map (·.size) = some s) (h : wpList P ops Q rest (a.put op.dst (.slice (some ⟨b, f, none⟩) k cap)) w) : wpList P ops Q (op :: rest) a w :=
  BigFrame.wpList_want hw fun _ hK => wp_slice_hi t e x z b f n cap k ho hx hz hk hu hs (hK _ _ h)
end
theorem wp_xor_u64 {P : Program} {o : Oper} {a : Act} {w : World} {K : Act → World → Prop} {Q : Exit → Act → World → Prop} (t : TypeId) (x : Operand) (m : Nat) (n : Int) (hn : n = ((18446744073709551615 - m : Nat) : Int)) (ho : o.op = .unOp .xor t x) (hx : a.eval x = .int .u64 (m : Int)) (hm : m < 1099511627776)
    (h : K (a.put o.dst (.int .u64 n)) w) : Oper.wp P o a w K Q := by
  have e2 : ((BitVec.ofInt 64 18446744073709551615 ^^^ BitVec.ofInt 64 (m : Int)).toNat) = 18446744073709551615 - m := by
    have h1 : BitVec.ofInt 64 18446744073709551615 = BitVec.allOnes 64 := by decide
    rw [h1, BitVec.allOnes_xor, BitVec.toNat_not, BitVec.ofInt_natCast, BitVec.toNat_ofNat]
    omega
  have hr : (Op.unary .xor (.int .u64 (m : Int))).run P w = .ok (.int .u64 n) w := by
    have e3 : Op.unary .xor (.int .u64 (m : Int)) = pure (.int .u64 (IntKind.u64.wrap ((BitVec.ofInt 64 18446744073709551615 ^^^ BitVec.ofInt 64 (m : Int)).toNat))) := rfl
    rw [e3, e2, IntKind.wrap_u64, hn]
    simp only [Sem.run_pure, Result.ok.injEq, Value.int.injEq, and_true, true_and]
    omega
  unfold Oper.wp execOp
  simp only [ho, hx, Sem.run_bind, hr, Result.andThen_ok, Sem.run_pure, Oper.upon_value]
  exact h
theorem wpList_xor_u64 {P : Program} {ops : Array Oper} {rest : List Oper} {op : Oper} {a : Act} {w : World} {Q : Exit → Act → World → Prop} (hw : Region.wanted op (yielded ops a.tmps) = true) (t : TypeId) (x : Operand) (ho : op.op = .unOp .xor t x) (m : Nat) (n : Int) (hn : n = ((18446744073709551615 - m : Nat) : Int)) (hx : a.eval x = .int .u64 (m : Int)) (hm : m < 1099511627776)
    (h : wpList P ops Q rest (a.put op.dst (.int .u64 n)) w) : wpList P ops Q (op :: rest) a w :=
  BigFrame.wpList_want hw fun _ hK => wp_xor_u64 t x m n hn ho hx hm (hK _ _ h)
theorem gro_upto {R : Nat → Prop} {w wr w0 W : World} {N : Nat} (h : Gro R w wr) (h1 : Below N w0 wr) (h2 : Below N w0 W) (hN : w.heap.size ≤ N) (hW : N ≤ W.heap.size) : Gro R w W :=
  ⟨(h2.os.trans h1.os.symm).trans h.os, (h2.tape.trans h1.tape.symm).trans h.tape, (h2.output.trans h1.output.symm).trans h.output, Nat.le_trans hN hW, fun k hk hn => ((h2.block k (by omega)).trans (h1.block k (by omega)).symm).trans (h.block k hk hn)⟩
theorem gro_none {R : Nat → Prop} {w W : World} (h : Gro (fun _ => False) w W) : Gro R w W := ⟨h.os, h.tape, h.output, h.size, fun k hk _ => h.block k hk (fun q => q)⟩
theorem gro_then {R S : Nat → Prop} {a b c : World} (h : Gro R a b) (k : Gro S b c) (hS : ∀ g, S g → R g ∨ a.heap.size ≤ g) : Gro R a c :=
  ⟨k.os.trans h.os, k.tape.trans h.tape, k.output.trans h.output, Nat.le_trans h.size k.size, fun i hi hn => (k.block i (Nat.lt_of_lt_of_le hi h.size) (fun q => by
    rcases hS i q with q | q
    · exact hn q
    · omega)).trans (h.block i hi hn)⟩
theorem wp_appd {op : Oper} {a : Act} {w : World} {K : Act → World → Prop} {Q : Exit → Act → World → Prop} (s x : Operand) (ho : op.op = .call { callee := .builtin .append, args := #[s, x], argTypes := #[26, 26] }) (N n : Nat) (v : Value) (l : List Value) (r : List (BitVec 8)) (hr0 : r.length = 32)
    (hs : a.eval s = v) (hown : Ow w v n l) (hx : a.eval x = .slice (some ⟨N, 0, none⟩) 1 1) (hN : Row w N (vB r) 42) (hk : (n + 1) * 32 ≤ 140737488355328)
    (h : ∀ v' w', Ow w' v' (n + 1) (l ++ vB r) → w.grownBy w' v.ownBlock → (v'.ownBlock = v.ownBlock ∨ v'.ownBlock = some w.heap.size) → K (a.put op.dst v') w') : Oper.wp Tryd.prog op a w K Q := by
  obtain ⟨ie, z, h1, h2, h3, h5, h4⟩ := info_d_open
  have hcell := hN.all
  obtain ⟨v', w', hr, q2, q3, q4, _⟩ := run_append_still (P := Tryd.prog) w 0 26 op.type 42 ie z 32 32 Tryd.underlying26 h1 h2 h3 h5 h4 (by decide) v n l hown ⟨N, 0, none⟩ 1 1 (vB r) (by rw [vB_length, hr0])
    (fun j u hj => by rw [Addr.add_mid]; exact hcell j u hj) (vB_one r) (by unfold maxLen; omega) hk (Nat.zero_le _)
  unfold Oper.wp execOp
  simp only [ho, resolve, invoke, builtin, Sem.run_bind, Sem.run_pure, Result.andThen_ok, List.map_toArray, List.map_cons, List.map_nil, hs, hx, hr]
  exact h v' w' q2 q3 q4
theorem wp_store_ds {o : Oper} {a : Act} {w : World} {K : Act → World → Prop} {Q : Exit → Act → World → Prop} {x y : Operand} (b f : Nat) (u : Value) (A : Option Addr) (n cap : Nat) (ho : o.op = .store 26 x y) (hx : a.eval x = .pointer (some ⟨b, f, none⟩)) (hy : a.eval y = .slice A n cap) (hc : w.cell? ⟨b, f, none⟩ = some u) (hf : w.frozen? ⟨b, f, none⟩ = false)
    (h : K (a.put o.dst undef) (w.setCell ⟨b, f, none⟩ (.slice A n cap))) : Oper.wp Tryd.prog o a w K Q := by
  obtain ⟨dst, op, ty, pos, after, guard⟩ := o
  simp only at ho
  subst ho
  unfold Oper.wp execOp
  simp only [hx, hy]
  go_simp
  exact h
/-- A list of one digest that was built. -/
def OneD (W : World) (v : Value) (cur : List (BitVec 8)) : Prop := ∃ N, v = .slice (some ⟨N, 0, none⟩) 1 1 ∧ Row W N (vB cur) 42
/-- What the append has made of a log's list, which the log holds as fv. -/
structure GrownD (wr : World) (P m n : Nat) (v' : Value) (xs : List Value) (fv : Value) (W : World) (v2 : Value) : Prop where
  own : Ow W v2 (n + 1) xs
  place : v2.ownBlock = v'.ownBlock ∨ ∃ k, v2.ownBlock = some k ∧ wr.heap.size ≤ k
  row : Row W P [.int .i64 (m : Int), fv] tL
  gro : Gro (fun k => k = P ∨ v'.ownBlock = some k) wr W
theorem GrownD.form {wr : World} {P m n : Nat} {v' : Value} {xs : List Value} {fv : Value} {W : World} {v2 : Value} (h : GrownD wr P m n v' xs fv W v2) : ∃ A2 c2, v2 = .slice A2 (n + 1) c2 := by
  obtain ⟨A2, c2, e, _⟩ := h.own.form
  exact ⟨A2, c2, e⟩
theorem GrownD.made {wr : World} {P m n : Nat} {v' : Value} {xs : List Value} {W w2 : World} {v2 : Value} (hr : Row wr P [.int .i64 (m : Int), v'] tL) (hne : ∀ g, v'.ownBlock = some g → g ≠ P) (hb : Below wr.heap.size wr W) (q1 : Ow w2 v2 (n + 1) xs) (q2 : W.grownBy w2 v'.ownBlock) (q3 : v2.ownBlock = v'.ownBlock ∨ v2.ownBlock = some W.heap.size) : GrownD wr P m n v' xs v' w2 v2 :=
  ⟨q1, q3.imp id (fun q => ⟨_, q, hb.size⟩), (q2.block P (Nat.lt_of_lt_of_le hr.lt hb.size) (fun e => hne P e.symm rfl)).trans (Row.below hr hb hr.lt), ((Gro.refl _ wr).below hb).grown q2 (fun _ e => .inl (.inr e))⟩
theorem GrownD.stored {wr : World} {P m n : Nat} {v' : Value} {xs : List Value} {W : World} {v2 : Value} (h : GrownD wr P m n v' xs v' W v2) (hne : ∀ g, v'.ownBlock = some g → g ≠ P) (hP : P < wr.heap.size) : GrownD wr P m n v' xs v2 (W.setCell ⟨P, 1, none⟩ v2) v2 :=
  ⟨h.own.set_other (g := P) (o := 1) (ys := [v2]) (fun k e => by
    rcases h.place with q | ⟨k', q, hk'⟩
    · exact hne k (q ▸ e)
    · rw [q] at e
      simp only [Option.some.injEq] at e
      omega), h.place, h.row.set 1 v2, h.gro.sets P 1 [v2] (.inl rfl)⟩
theorem addF_more (t : Nat) (G : List (List (BitVec 8))) (z p : List (BitVec 8)) : addF (t + 1) (G ++ [z]) p = addF t G (nd z p) := by
  rw [addF, List.dropLast_concat, List.getLastD_concat]
theorem last_of (F : List (List (BitVec 8))) (h : 0 < F.length) : ∃ G z, F = G ++ [z] := by
  obtain ⟨G, z, e⟩ := List.eq_nil_or_concat F |>.resolve_left (fun e => by subst e; simp at h)
  exact ⟨G, z, by rw [e, List.concat_eq_append]⟩

set_option maxRecDepth 100000 in
set_option maxHeartbeats 4000000 in
theorem ladd_any (B P m : Nat) (v : Value) (F : List (List (BitVec 8))) (hF : F.length ≤ 100) (hm : m < 1099511627776) (hT : t1 m ≤ F.length) (hPB : B ≤ P) (hvB : Fresh B v) (hc1 : 4 < B) (hc2 : 1 < B) (lv : Value) (d p0 : List (BitVec 8)) (hp0 : p0 = dig ([0#8] ++ d)) (hd : d.length < 1152921504606846975) (w : World) (hBw : B ≤ w.heap.size)
    (hK : Tab w 4) (h64 : TabAt 1 Lib.deBruijn64tab w) (hlv : SlAt w lv d) (h : Lg w P m v F) :
    Calls Tryd.prog 8 #[.pointer (some ⟨P, 0, none⟩), lv] w fun e w' => e = .returned (.int .i64 (m : Int)) ∧ ∃ v', Lg w' P (m + 1) v' (addF (t1 m) F p0) ∧ (v'.ownBlock = v.ownBlock ∨ ∃ k, v'.ownBlock = some k ∧ w.heap.size ≤ k) ∧ Gro (fun k => k = P ∨ v.ownBlock = some k) w w' := by
  have HLF : Hid _ := leaf_any d p0 hp0 hd lv w hK hlv
  have hP0 : p0.length = 32 := by rw [hp0]; exact dig_length _
  have HP0 : Hid (p0.length = 32) := hP0
  have HLG : Hid (Lg w P m v F) := h
  have HKw : Hid (Tab w 4) := hK
  have H64 : Hid (TabAt 1 Lib.deBruijn64tab w) := h64
  have g0 := h.row.cell 0 _ rfl
  have hPw : P < w.heap.size := h.row.lt
  have c1 : ¬ (1099511627776 : Int) ≤ (m : Int) := by omega
  have HF : Hid (F.length ≤ 100) := hF
  have HT : Hid (t1 m ≤ F.length) := hT
  have HVB : Hid (Fresh B v) := hvB
  have hwr : IntKind.u64.wrap (m : Int) = (m : Int) := by rw [IntKind.wrap_u64]; omega
  clear h hlv hd hp0 hK h64 hP0 hF hT hvB
  go_enter Tryd.func8, Tryd.ntmps8
  go_wp2_with fail
  refine Calls.mono HLF.out ?_
  rintro e W1 ⟨rfl, hB1⟩
  have HB1 : Hid (Below w.heap.size w W1) := hB1
  have hLg1 := HLG.out.be hB1
  have hLg2 := hLg1.be ((Below.refl W1.heap.size W1).alloc (Nat.le_refl _) (Obj.cells #[.int .u8 0, .int .u8 0, .int .u8 0, .int .u8 0, .int .u8 0, .int .u8 0, .int .u8 0, .int .u8 0, .int .u8 0, .int .u8 0, .int .u8 0, .int .u8 0, .int .u8 0, .int .u8 0, .int .u8 0, .int .u8 0, .int .u8 0, .int .u8 0, .int .u8 0, .int .u8 0, .int .u8 0, .int .u8 0, .int .u8 0, .int .u8 0, .int .u8 0, .int .u8 0, .int .u8 0, .int .u8 0, .int .u8 0, .int .u8 0, .int .u8 0, .int .u8 0] 42))
  obtain ⟨W2, hW2⟩ : ∃ W2, W2 = (W1.alloc (Obj.cells #[.int .u8 0, .int .u8 0, .int .u8 0, .int .u8 0, .int .u8 0, .int .u8 0, .int .u8 0, .int .u8 0, .int .u8 0, .int .u8 0, .int .u8 0, .int .u8 0, .int .u8 0, .int .u8 0, .int .u8 0, .int .u8 0, .int .u8 0, .int .u8 0, .int .u8 0, .int .u8 0, .int .u8 0, .int .u8 0, .int .u8 0, .int .u8 0, .int .u8 0, .int .u8 0, .int .u8 0, .int .u8 0, .int .u8 0, .int .u8 0, .int .u8 0, .int .u8 0] 42)).setCells W1.heap.size 0 (vB p0) := ⟨_, rfl⟩
  have hle : w.heap.size ≤ W1.heap.size := hB1.size
  have hG2 : Gro (fun _ => False) w W2 := by
    rw [hW2]
    have q := (hB1.trans ((Below.refl W1.heap.size W1).alloc (Nat.le_refl _) (Obj.cells #[.int .u8 0, .int .u8 0, .int .u8 0, .int .u8 0, .int .u8 0, .int .u8 0, .int .u8 0, .int .u8 0, .int .u8 0, .int .u8 0, .int .u8 0, .int .u8 0, .int .u8 0, .int .u8 0, .int .u8 0, .int .u8 0, .int .u8 0, .int .u8 0, .int .u8 0, .int .u8 0, .int .u8 0, .int .u8 0, .int .u8 0, .int .u8 0, .int .u8 0, .int .u8 0, .int .u8 0, .int .u8 0, .int .u8 0, .int .u8 0, .int .u8 0, .int .u8 0] 42) |>.mono hle))
    have q2 := below_setCells q (b := W1.heap.size) (o := 0) hle (vB p0)
    exact ⟨q2.os, q2.tape, q2.output, q2.size, fun k hk _ => q2.block k hk⟩
  have r5 : Row W2 W1.heap.size (vB p0) 42 := by
    rw [hW2]
    exact Row.over (Row.new' (cs := (vB (List.replicate 32 0#8))) rfl rfl) (vs := vB p0) (by rw [vB_length, HP0.out]; rfl)
  have hLgW : Lg W2 P m v F := HLG.out.gro hG2 (fun q => q) (fun _ _ q => q)
  have HB2 : Hid (Below B w W2) := hG2.to_below hBw (fun _ q => q.elim)
  have h64' : TabAt 1 Lib.deBruijn64tab W2 := fun j hj => (HB2.out.cell (p := ⟨1, j, none⟩) hc2).trans (H64.out j hj)
  obtain ⟨mx, hmx⟩ : ∃ mx : Int, mx = ((18446744073709551615 - m : Nat) : Int) := ⟨_, rfl⟩
  have htz := tz_any m (by omega) W2 h64'
  rw [← hmx] at htz
  have HTZ : Hid _ := htz
  have HMX : Hid (mx = ((18446744073709551615 - m : Nat) : Int)) := hmx
  have HMM : Hid (m < 1099511627776) := hm
  have g0W := hLgW.row.cell 0 _ rfl
  have R5 : Hid (Row W2 W1.heap.size (vB p0) 42) := r5
  have HLW : Hid (Lg W2 P m v F) := hLgW
  have HG2 : Hid (Gro (fun _ => False) w W2) := hG2
  have HLE : Hid (w.heap.size ≤ W1.heap.size) := hle
  clear hLg1 hLg2 hG2 r5 hLgW h64' HLF HB1 hle hB1 htz hmx
  generalize hTT : t1 m = T at *
  go_upto_region 6 with (refine wpList_store_mid rfl 42 (.tmp 5) (.tmp 15) rfl W1.heap.size 0 (vB p0).toArray rfl rfl (Row.there (Row.new' (cs := (vB (List.replicate 32 0#8))) rfl rfl) 0 _ (by simp [vB_length, HP0.out])) (dl_info' HP0.out) (all_oneCell_toArray (vB_one p0)) ?_; simp only [Act.put]; change wpList _ _ _ _ _ (World.setCells (World.alloc W1 (Obj.cells #[.int .u8 0, .int .u8 0, .int .u8 0, .int .u8 0, .int .u8 0, .int .u8 0, .int .u8 0, .int .u8 0, .int .u8 0, .int .u8 0, .int .u8 0, .int .u8 0, .int .u8 0, .int .u8 0, .int .u8 0, .int .u8 0, .int .u8 0, .int .u8 0, .int .u8 0, .int .u8 0, .int .u8 0, .int .u8 0, .int .u8 0, .int .u8 0, .int .u8 0, .int .u8 0, .int .u8 0, .int .u8 0, .int .u8 0, .int .u8 0, .int .u8 0, .int .u8 0] 42)) W1.heap.size 0 (vB p0)); rw [← hW2])
  clear hW2
  go_wp2_with (first
    | (refine wpList_xor_u64 rfl _ (.tmp 20) rfl m mx HMX.out rfl HMM.out ?_; simp only [Act.put, List.setIfInBounds_toArray, List.set_cons_zero, List.set_cons_succ]))
  refine Calls.mono HTZ.out ?_
  rintro e W3 ⟨rfl, hqq⟩
  obtain rfl := hqq.symm
  clear HTZ HMX HMM g0W g0 hwr
  have hPb : P < W1.heap.size := Nat.lt_of_lt_of_le hPw HLE.out
  generalize W1.heap.size = b5 at *
  have hT100 : T ≤ 100 := Nat.le_trans HT.out HF.out
  go_wp2_with fail
  go_loopw [23] (fun i wr => ∃ (t : Nat) (F' : List (List (BitVec 8))) (cur : List (BitVec 8)) (v' : Value), t ≤ T ∧ i = .int .i64 (t : Int) ∧ Row wr b5 (vB cur) 42 ∧ cur.length = 32 ∧ Lg wr P m v' F' ∧ v'.ownBlock = v.ownBlock ∧ addF (T - t) F' cur = addF T F p0 ∧ T - t ≤ F'.length ∧ F'.length ≤ 100 ∧ Gro (fun k => k = P ∨ v.ownBlock = some k) w wr) (fun i _ => T - (intOf i).toNat)
  case atStart => exact ⟨0, F, p0, v, Nat.zero_le _, rfl, R5.out, HP0.out, HLW.out, rfl, by rw [Nat.sub_zero], by rw [Nat.sub_zero]; exact HT.out, HF.out, gro_none HG2.out⟩
  case round =>
    clear R5 HLW HG2 HB2
    obtain ⟨t, F', cur, v', ht, rfl, r5, hc0, hlg, hov, hadd, htl, hfl, hgro⟩ := hrel
    by_cases hlt : t < T
    · obtain ⟨G, z, rfl⟩ := last_of F' (by omega)
      obtain ⟨L, hLn⟩ : ∃ L, L = G.length := ⟨_, rfl⟩
      have hlen : (G ++ [z]).length = L + 1 := by rw [hLn]; simp
      have hz : z.length = 32 := hlg.dl z (by simp)
      have ho := hlg.own
      rw [hlen] at ho htl hfl
      obtain ⟨g, cap, hv⟩ := ho.open (by omega)
      subst hv
      have hcap : L + 1 ≤ cap := by
        obtain ⟨A9, c9, e9, q9⟩ := ho.form
        simp only [Value.slice.injEq] at e9
        omega
      have hgw : g < w.heap.size := HLG.out.own.lt g (by rw [← hov]; rfl)
      have hgP : g ≠ P := hlg.ne g rfl
      have hb5 : w.heap.size ≤ b5 := HLE.out
      have hb5r : b5 < wr.heap.size := r5.lt
      obtain ⟨w0, hw0s, hb0⟩ : ∃ w0, w0.heap.size = b5 ∧ Below b5 w0 wr := ⟨upto wr b5, upto_size wr b5 (Nat.le_of_lt hb5r), upto_below wr b5 (Nat.le_of_lt hb5r)⟩
      have hb1 : Below w0.heap.size w0 wr := by rw [hw0s]; exact hb0
      have hBr : Below B w wr := hgro.to_below hBw (fun k q => by
        rcases q with q | q
        · omega
        · exact HVB.out k q)
      have hTr : Tab wr 4 := HKw.out.below hBr hc1
      obtain ⟨dd, hdd⟩ : ∃ dd, dd = nd z cur := ⟨_, rfl⟩
      have HR : Hid (∀ W, Below w0.heap.size w0 W → W.rangeAt g (0 + L * 32) (vB z)) := fun W hB j u hj => by
        rw [Nat.zero_add]
        have q := ho.at hlen hlg.dl L (by omega)
        rw [hLn, getD_last, ← hLn] at q
        exact ((hB.cell (p := ⟨g, L * 32 + j, none⟩) (by show g < _; omega)).trans (hb1.cell (p := ⟨g, L * 32 + j, none⟩) (by show g < _; omega)).symm).trans (q j u hj)
      have HKT : Hid (∀ W, Below w0.heap.size w0 W → Tab W 4) := fun W hB j hj =>
        ((hB.cell (p := ⟨4, j, none⟩) (by show 4 < _; omega)).trans (hb1.cell (p := ⟨4, j, none⟩) (by show 4 < _; omega)).symm).trans (hTr j hj)
      have HZ0 : Hid (z.length = 32) := hz
      have HC0 : Hid (cur.length = 32) := hc0
      have HDL : Hid (dd.length = 32) := by show _ = _; rw [hdd]; exact nd_len _ _
      have HD : Hid (dd = dig ([1#8] ++ (z ++ cur))) := hdd
      have HIC : Hid ((Tryd.prog.info? 42).map (·.size) = some (vB cur).length) := dl_info hc0
      have HIZ : Hid ((Tryd.prog.info? 42).map (·.size) = some (vB z).length) := dl_info hz
      have HID : Hid ((Tryd.prog.info? 42).map (·.size) = some (vB dd).toArray.size) := dl_info' HDL.out
      have HLC : Hid (L ≤ cap) := by show _ ≤ _; omega
      have HAD : Hid (addF (T - (t + 1)) G dd = addF T F p0) := by
        show _ = _
        rw [← hadd, show T - t = (T - (t + 1)) + 1 by omega, addF_more, hdd]
      have hL := hlg.row
      have gL := hL.cell 1 _ rfl
      have HLGR : Hid (Lg wr P m (.slice (some ⟨g, 0, none⟩) (L + 1) cap) (G ++ [z])) := hlg
      have HOW : Hid (Ow wr (.slice (some ⟨g, 0, none⟩) (L + 1) cap) (L + 1) (vB (G ++ [z]).flatten)) := ho
      have HGRO : Hid (Gro (fun k => k = P ∨ v.ownBlock = some k) w wr) := hgro
      have HB0 : Hid (Below b5 w0 wr) := hb0
      have HLN : Hid (L = G.length) := hLn
      have HOV : Hid ((Value.slice (some ⟨g, 0, none⟩) (L + 1) cap).ownBlock = v.ownBlock) := hov
      have e1 : ((L + 1 : Nat) : Int) - 1 = (L : Int) := by omega
      clear hlg ho hgro hb0 hadd hdd hTr hBr hov hc0 hz hlen hLn
      go_wp2_with fail
      refine wp_named fun a0 ha0 => ?_
      have hsz : a0.tmps.size = 72 := by rw [ha0]; rfl
      have zs0 : a0.eval (.tmp 0) = .pointer (some ⟨P, 0, none⟩) := by rw [ha0]; rfl
      have zs5 : a0.eval (.tmp 5) = .pointer (some ⟨b5, 0, none⟩) := by rw [ha0]; rfl
      have zs6 : a0.eval (.tmp 6) = .int .i64 (L : Int) := by rw [ha0]; rfl
      obtain ⟨D, hD⟩ : ∃ D : List (Tmp × SP), D = [(31, SP.is (.pointer (some ⟨P, 0, none⟩))), (32, SP.is (.pointer (some ⟨P, 0, none⟩))), (33, SP.is (.pointer (some ⟨P, 1, none⟩))), (34, SP.is (.slice (some ⟨g, 0, none⟩) (L + 1) cap)), (35, SP.is (.int .i64 (L : Int))), (36, SP.is (.pointer (some ⟨g, 0 + L * 32, none⟩))), (37, SP.is (.agg (vB z).toArray)), (38, SP.is (.agg (vB cur).toArray)), (39, SP.is (.agg (vB dd).toArray)), (1000, SP.any)] := ⟨_, rfl⟩
      refine wp_region_down (by kernel_rfl) (fun listed ac W => listed.size = 10 ∧ Fp D a0 listed ac W ∧ Below w0.heap.size w0 W ∧ Row W b5 (if listed.getD 9 false = true then (vB dd) else (vB cur)) 42 ∧ Row W P ([.int .i64 (m : Int), .slice (some ⟨g, 0, none⟩) (L + 1) cap]) tL) ?_ ?_ ?_
      · exact ⟨by simp, Fp.start D a0 _ _, Below.drew hb1, (by rw [if_neg (fun h => start_no h)]; exact Row.drew r5), Row.drew hL⟩
      · clear ha0 hb1 r5 hL 
        intro listed ac W k hI hdn hk
        obtain ⟨hl, hF, hb1, r5, hL⟩ := hI
        have hk1 : k < 10 := List.mem_range.1 (List.mem_filter.1 hk).1
        have hl2 : ∀ j, (listed.setIfInBounds j true).size = 10 := fun j => by rw [Array.size_setIfInBounds]; exact hl
        rcases (show k = 0 ∨ k = 1 ∨ k = 2 ∨ k = 3 ∨ k = 4 ∨ k = 5 ∨ k = 6 ∨ k = 7 ∨ k = 8 ∨ k = 9 by omega) with rfl | rfl | rfl | rfl | rfl | rfl | rfl | rfl | rfl | rfl
        · have hk3 := hk
          exact wpOp_plain rfl rfl (wp_move_v (ac.eval (.tmp 0)) rfl rfl ⟨hl2 0, (hF.put 0 31 (SP.is (.pointer (some ⟨P, 0, none⟩))) (ac.eval (.tmp 0)) (by rw [hD]; rfl) (((hF.keep 0 (by rw [hD]; rfl)).trans zs0)) (by rw [hD]; rfl) (by rw [hsz]; decide) (by rw [hl]; decide)), hb1, (by rw [getD_set _ _ _ (by decide)]; exact r5), hL⟩)
        · have hk3 := hk
          have ea := (hF.done 0 (31, SP.is (.pointer (some ⟨P, 0, none⟩))) (by rw [hD]; rfl) (ready_dep hk 0 (by kernel_rfl)))
          exact wpOp_plain rfl rfl (wp_nilck P 0 rfl ea ⟨hl2 1, (hF.put 1 32 (SP.is (.pointer (some ⟨P, 0, none⟩))) (.pointer (some ⟨P, 0, none⟩)) (by rw [hD]; rfl) rfl (by rw [hD]; rfl) (by rw [hsz]; decide) (by rw [hl]; decide)), hb1, (by rw [getD_set _ _ _ (by decide)]; exact r5), hL⟩)
        · have hk3 := hk
          have ea := (hF.done 1 (32, SP.is (.pointer (some ⟨P, 0, none⟩))) (by rw [hD]; rfl) (ready_dep hk 1 (by kernel_rfl)))
          exact wpOp_plain rfl rfl (wp_lf1 P rfl ea ⟨hl2 2, (hF.put 2 33 (SP.is (.pointer (some ⟨P, 1, none⟩))) (.pointer (some ⟨P, 1, none⟩)) (by rw [hD]; rfl) rfl (by rw [hD]; rfl) (by rw [hsz]; decide) (by rw [hl]; decide)), hb1, (by rw [getD_set _ _ _ (by decide)]; exact r5), hL⟩)
        · have hk3 := hk
          have ea := (hF.done 2 (33, SP.is (.pointer (some ⟨P, 1, none⟩))) (by rw [hD]; rfl) (ready_dep hk 2 (by kernel_rfl)))
          exact wpOp_plain rfl rfl (wp_load_1 P 1 (.slice (some ⟨g, 0, none⟩) (L + 1) cap) rfl ea (run_load_ds W P 1 _ (hL.cell 1 _ rfl)) ⟨hl2 3, (hF.put 3 34 (SP.is (.slice (some ⟨g, 0, none⟩) (L + 1) cap)) (.slice (some ⟨g, 0, none⟩) (L + 1) cap) (by rw [hD]; rfl) rfl (by rw [hD]; rfl) (by rw [hsz]; decide) (by rw [hl]; decide)), hb1, (by rw [getD_set _ _ _ (by decide)]; exact r5), hL⟩)
        · have hk3 := hk
          exact wpOp_plain rfl rfl (wp_move_v (ac.eval (.tmp 6)) rfl rfl ⟨hl2 4, (hF.put 4 35 (SP.is (.int .i64 (L : Int))) (ac.eval (.tmp 6)) (by rw [hD]; rfl) (((hF.keep 6 (by rw [hD]; rfl)).trans zs6)) (by rw [hD]; rfl) (by rw [hsz]; decide) (by rw [hl]; decide)), hb1, (by rw [getD_set _ _ _ (by decide)]; exact r5), hL⟩)
        · have hk3 := hk
          have ea := (hF.done 3 (34, SP.is (.slice (some ⟨g, 0, none⟩) (L + 1) cap)) (by rw [hD]; rfl) (ready_dep hk 3 (by kernel_rfl)))
          have eb := (hF.done 4 (35, SP.is (.int .i64 (L : Int))) (by rw [hD]; rfl) (ready_dep hk 4 (by kernel_rfl)))
          exact wpOp_plain rfl rfl (wp_index_s 26 42 rfl g 0 (L + 1) cap L 32 ea eb (Nat.lt_succ_self L) Tryd.underlying26 info_dig ⟨hl2 5, (hF.put 5 36 (SP.is (.pointer (some ⟨g, 0 + L * 32, none⟩))) (.pointer (some ⟨g, 0 + L * 32, none⟩)) (by rw [hD]; rfl) rfl (by rw [hD]; rfl) (by rw [hsz]; decide) (by rw [hl]; decide)), hb1, (by rw [getD_set _ _ _ (by decide)]; exact r5), hL⟩)
        · have hk3 := hk
          have ea := (hF.done 5 (36, SP.is (.pointer (some ⟨g, 0 + L * 32, none⟩))) (by rw [hD]; rfl) (ready_dep hk 5 (by kernel_rfl)))
          exact wpOp_plain rfl rfl (wp_load_mid 42 (.tmp 36) rfl g (0 + L * 32) ea (vB z) _ (HR.out W hb1) Tryd.underlying42 rfl HIZ.out ⟨hl2 6, (hF.put 6 37 (SP.is (.agg (vB z).toArray)) (.agg (vB z).toArray) (by rw [hD]; rfl) rfl (by rw [hD]; rfl) (by rw [hsz]; decide) (by rw [hl]; decide)), hb1, (by rw [getD_set _ _ _ (by decide)]; exact r5), hL⟩)
        · have hk3 := hk
          have ea := ((hF.keep 5 (by rw [hD]; rfl)).trans zs5)
          exact wpOp_plain rfl rfl (wp_load_mid 42 (.tmp 5) rfl b5 0 ea (vB cur) _ (Row.all (by have h9 := r5; rw [if_neg (fun h => not_yet hk (hdn 9 h 7 (by kernel_rfl)))] at h9; exact h9)) Tryd.underlying42 rfl HIC.out ⟨hl2 7, (hF.put 7 38 (SP.is (.agg (vB cur).toArray)) (.agg (vB cur).toArray) (by rw [hD]; rfl) rfl (by rw [hD]; rfl) (by rw [hsz]; decide) (by rw [hl]; decide)), hb1, (by rw [getD_set _ _ _ (by decide)]; exact r5), hL⟩)
        · have hk3 := hk
          have ea := (hF.done 6 (37, SP.is (.agg (vB z).toArray)) (by rw [hD]; rfl) (ready_dep hk 6 (by kernel_rfl)))
          have eb := (hF.done 7 (38, SP.is (.agg (vB cur).toArray)) (by rw [hD]; rfl) (ready_dep hk 7 (by kernel_rfl)))
          refine wpOp_plain rfl rfl (wp_fcall_v 27 #[.agg (vB z).toArray, .agg (vB cur).toArray] rfl rfl (by show [ac.eval (.tmp 37), ac.eval (.tmp 38)] = _; rw [show ac.eval (.tmp 37) = _ from ea, show ac.eval (.tmp 38) = _ from eb]) (by go_simp) ((node_any z cur dd HZ0.out HC0.out HD.out W (HKT.out W hb1)).mono ?_))
          rintro e W2 ⟨rfl, hB⟩
          exact ⟨_, rfl, hl2 8, ((hF.world hB).put 8 39 (SP.is (.agg (vB dd).toArray)) (.agg (vB dd).toArray) (by rw [hD]; rfl) rfl (by rw [hD]; rfl) (by rw [hsz]; decide) (by rw [hl]; decide)), hb1.trans (hB.mono hb1.size), (by rw [getD_set _ _ _ (by decide)]; exact Row.below r5 hB (Row.lt r5)), Row.below hL hB (Row.lt hL)⟩
        · have hk3 := hk
          have hno : ¬ listed.getD 9 false = true := not_yet hk
          rw [if_neg hno] at r5
          have T := r5.there 0 (vB dd).toArray.size (by simp [vB_length, HC0.out, HDL.out])
          have fin := r5.over (vs := (vB dd)) (by rw [vB_length, vB_length, HC0.out, HDL.out])
          have hT : Fp D a0 listed ac (W.setCells b5 0 (vB dd)) := hF.turn (by rw [hD]; simp only [List.forall_mem_cons, List.not_mem_nil, false_implies, implies_true, and_true]; exact ⟨fun _ h => h, fun _ h => h, fun _ h => h, fun _ h => h, fun _ h => h, fun _ h => h, fun _ h => h, fun _ h => h, fun _ h => h, fun _ h => h⟩)
          exact wpOp_plain rfl rfl (wp_store_mid 42 (.tmp 5) (.tmp 39) rfl b5 0 (vB dd).toArray ((hF.keep 5 (by rw [hD]; rfl)).trans zs5) (hF.done 8 (39, SP.is (.agg (vB dd).toArray)) (by rw [hD]; rfl) (ready_dep hk 8 (by kernel_rfl))) T HID.out (all_oneCell_toArray (vB_one dd)) ⟨hl2 9, (hT.skip 9 1000 (by rw [hD]; rfl) (by rw [hl]; decide)), below_setCells hb1 (by omega) _, (by rw [if_pos (getD_same (by rw [hl]; decide))]; exact fin), Row.setCells_other hL _ _ _ (by omega)⟩)
      · clear hb1 r5 hL 
        intro listed ac W hI hr
        obtain ⟨hl, hF, hb1, r5, hL⟩ := hI
        have hall := all_listed (by kernel_rfl) hl hr
        rw [if_pos (hall 9 (by decide))] at r5
        have h31 : ac.eval (.tmp 31) = .pointer (some ⟨P, 0, none⟩) := hF.done 0 (31, SP.is (.pointer (some ⟨P, 0, none⟩))) (by rw [hD]; rfl) (hall 0 (by decide))
        have h32 : ac.eval (.tmp 32) = .pointer (some ⟨P, 0, none⟩) := hF.done 1 (32, SP.is (.pointer (some ⟨P, 0, none⟩))) (by rw [hD]; rfl) (hall 1 (by decide))
        have h33 : ac.eval (.tmp 33) = .pointer (some ⟨P, 1, none⟩) := hF.done 2 (33, SP.is (.pointer (some ⟨P, 1, none⟩))) (by rw [hD]; rfl) (hall 2 (by decide))
        have h34 : ac.eval (.tmp 34) = .slice (some ⟨g, 0, none⟩) (L + 1) cap := hF.done 3 (34, SP.is (.slice (some ⟨g, 0, none⟩) (L + 1) cap)) (by rw [hD]; rfl) (hall 3 (by decide))
        have h35 : ac.eval (.tmp 35) = .int .i64 (L : Int) := hF.done 4 (35, SP.is (.int .i64 (L : Int))) (by rw [hD]; rfl) (hall 4 (by decide))
        have h36 : ac.eval (.tmp 36) = .pointer (some ⟨g, 0 + L * 32, none⟩) := hF.done 5 (36, SP.is (.pointer (some ⟨g, 0 + L * 32, none⟩))) (by rw [hD]; rfl) (hall 5 (by decide))
        have h37 : ac.eval (.tmp 37) = .agg (vB z).toArray := hF.done 6 (37, SP.is (.agg (vB z).toArray)) (by rw [hD]; rfl) (hall 6 (by decide))
        have h38 : ac.eval (.tmp 38) = .agg (vB cur).toArray := hF.done 7 (38, SP.is (.agg (vB cur).toArray)) (by rw [hD]; rfl) (hall 7 (by decide))
        have h39 : ac.eval (.tmp 39) = .agg (vB dd).toArray := hF.done 8 (39, SP.is (.agg (vB dd).toArray)) (by rw [hD]; rfl) (hall 8 (by decide))
        have ea := hF.lay [(31, .pointer (some ⟨P, 0, none⟩)), (32, .pointer (some ⟨P, 0, none⟩)), (33, .pointer (some ⟨P, 1, none⟩)), (34, .slice (some ⟨g, 0, none⟩) (L + 1) cap), (35, .int .i64 (L : Int)), (36, .pointer (some ⟨g, 0 + L * 32, none⟩)), (37, .agg (vB z).toArray), (38, .agg (vB cur).toArray), (39, .agg (vB dd).toArray)] (by rw [hD, hsz]; rfl) (by simp only [List.forall_mem_cons, List.not_mem_nil, false_implies, implies_true, and_true]; exact ⟨h31, h32, h33, h34, h35, h36, h37, h38, h39⟩)
        rw [ha0] at ea
        simp only [List.foldl_cons, List.foldl_nil, List.setIfInBounds_toArray, List.set_cons_zero, List.set_cons_succ] at ea
        clear hF hall hr hl hD  zs0 zs5 zs6 ha0 hsz h31 h32 h33 h34 h35 h36 h37 h38 h39
        subst ea
        have gP := hL.cell 1 _ rfl
        have fP := hL.thaw 1
        go_wp2_with (refine wpList_slice_hi rfl 26 42 (.tmp 44) (.tmp 45) rfl g 0 (L + 1) cap L rfl rfl HLC.out Tryd.underlying26 info_dig ?_; simp only [Act.put, List.setIfInBounds_toArray, List.set_cons_zero, List.set_cons_succ])
        have hWb : Below b5 w0 W := by rw [← hw0s]; exact hb1
        have hGW : Gro (fun k => k = P ∨ v.ownBlock = some k) w W := gro_upto HGRO.out HB0.out hWb hb5 (Nat.le_of_lt r5.lt)
        have hoW : Ow W (.slice (some ⟨g, 0, none⟩) (L + 1) cap) (L + 1) (vB (G ++ [z]).flatten) := HOW.out.block fun k e => by
          simp only [Value.ownBlock, Option.some.injEq] at e
          subst e
          exact (hWb.block g (by omega)).trans (HB0.out.block g (by omega)).symm
        have hcut := hoW.cut rfl HLN.out.symm HLGR.out.dl
        refine ⟨⟨t + 1, G, dd, .slice (some ⟨g, 0, none⟩) L cap, hlt, by go_num, Row.set_other r5 P 1 _ (by omega), HDL.out, ⟨hL.set 1 _, ?_, fun d hd => HLGR.out.dl d (List.mem_append_left _ hd)⟩, HOV.out, HAD.out, by have := HLN.out; omega, by have := HLN.out; omega, hGW.sets P 1 [_] (.inl rfl)⟩, by simp [intOf]; omega⟩
        rw [← HLN.out]
        exact hcut.set_other (g := P) (o := 1) (ys := [_]) (fun k e => by simp only [Value.ownBlock, Option.some.injEq] at e; omega)
    · obtain rfl : t = T := by omega
      rw [Nat.sub_self] at hadd
      have HAD : Hid (F' ++ [cur] = addF t F p0) := hadd
      obtain ⟨A1, cap1, hv1, _⟩ := hlg.own.form
      subst hv1
      obtain ⟨n, hn⟩ : ∃ n, n = F'.length := ⟨_, rfl⟩
      have hown := hlg.own
      have hrow := hlg.row
      have hne := hlg.ne
      rw [← hn] at hown hfl hov hrow hne
      have HOWN : Hid (Ow wr (.slice A1 n cap1) n (vB F'.flatten)) := hown
      have HROW : Hid (Row wr P [.int .i64 (m : Int), .slice A1 n cap1] tL) := hrow
      have R5 : Hid (Row wr b5 (vB cur) 42) := r5
      have HC0 : Hid (cur.length = 32) := hc0
      have HIC : Hid ((Tryd.prog.info? 42).map (·.size) = some (vB cur).length) := dl_info hc0
      have HKK : Hid ((n + 1) * 32 ≤ 140737488355328) := by show _ ≤ _; omega
      have HNE : Hid (∀ g, (Value.slice A1 n cap1).ownBlock = some g → g ≠ P) := hne
      have HGRO : Hid (Gro (fun k => k = P ∨ v.ownBlock = some k) w wr) := hgro
      have HDLF : Hid (∀ d ∈ F', d.length = 32) := hlg.dl
      have HN : Hid (n = F'.length) := hn
      have HOV : Hid ((Value.slice A1 n cap1).ownBlock = v.ownBlock) := hov
      clear hlg hown hrow hn hov hgro hc0 hadd r5 hne
      go_wp2_with fail
      refine wp_named fun a0 ha0 => ?_
      have hsz : a0.tmps.size = 72 := by rw [ha0]; rfl
      have zs0 : a0.eval (.tmp 0) = .pointer (some ⟨P, 0, none⟩) := by rw [ha0]; rfl
      have zs5 : a0.eval (.tmp 5) = .pointer (some ⟨b5, 0, none⟩) := by rw [ha0]; rfl
      obtain ⟨D, hD⟩ : ∃ D : List (Tmp × SP), D = [(50, SP.is (.pointer (some ⟨P, 0, none⟩))), (51, SP.is (.pointer (some ⟨P, 0, none⟩))), (52, SP.is (.pointer (some ⟨P, 0, none⟩))), (53, SP.is (.pointer (some ⟨P, 1, none⟩))), (54, SP.is (.slice A1 n cap1)), (55, SP.is (.agg (vB cur).toArray)), (56, SP.any), (57, SP.any), (58, SP.is (.pointer (some ⟨P, 0, none⟩))), (59, SP.is (.pointer (some ⟨P, 1, none⟩))), (1000, SP.any)] := ⟨_, rfl⟩
      refine wp_region_down (by kernel_rfl) (fun listed ac W => listed.size = 11 ∧ Fp D a0 listed ac W ∧ (listed.getD 7 false = true ∨ Below wr.heap.size wr W) ∧ (listed.getD 6 false = true → ¬ listed.getD 7 false = true → OneD W (ac.eval (.tmp 56)) cur) ∧ (listed.getD 7 false = true → ¬ listed.getD 10 false = true → GrownD wr P m n (.slice A1 n cap1) (vB F'.flatten ++ vB cur) (.slice A1 n cap1) W (ac.eval (.tmp 57))) ∧ (listed.getD 10 false = true → GrownD wr P m n (.slice A1 n cap1) (vB F'.flatten ++ vB cur) (ac.eval (.tmp 57)) W (ac.eval (.tmp 57)))) ?_ ?_ ?_
      · exact ⟨by simp, Fp.start D a0 _ _, .inr (Below.refl _ _).drew, (fun h => (start_no h).elim), (fun h => (start_no h).elim), (fun h => (start_no h).elim)⟩
      · clear ha0
        intro listed ac W k hI hdn hk
        obtain ⟨hl, hF, hB, hO, hA, hP⟩ := hI
        have hk1 : k < 11 := List.mem_range.1 (List.mem_filter.1 hk).1
        have hl2 : ∀ j, (listed.setIfInBounds j true).size = 11 := fun j => by rw [Array.size_setIfInBounds]; exact hl
        rcases (show k = 0 ∨ k = 1 ∨ k = 2 ∨ k = 3 ∨ k = 4 ∨ k = 5 ∨ k = 6 ∨ k = 7 ∨ k = 8 ∨ k = 9 ∨ k = 10 by omega) with rfl | rfl | rfl | rfl | rfl | rfl | rfl | rfl | rfl | rfl | rfl
        · have hno : ¬ listed.getD 10 false = true := fun h => not_yet hk (hdn 8 (hdn 9 (hdn 10 h 9 (by kernel_rfl)) 8 (by kernel_rfl)) 0 (by kernel_rfl))
          exact wpOp_plain rfl rfl (wp_move_v (.pointer (some ⟨P, 0, none⟩)) rfl ((hF.keep 0 (by rw [hD]; rfl)).trans zs0) ⟨hl2 0, (hF.put 0 50 (SP.is (.pointer (some ⟨P, 0, none⟩))) (.pointer (some ⟨P, 0, none⟩)) (by rw [hD]; rfl) rfl (by rw [hD]; rfl) (by rw [hsz]; decide) (by rw [hl]; decide)), (hB.imp (fun h => by rw [getD_set _ _ _ (by decide)]; exact h) id), (fun h6 h7 => by change OneD _ ((ac.put (some 50) _).eval (.tmp 56)) _; rw [eval_put_other ac _ (by decide)]; exact hO (by rwa [getD_set _ _ _ (by decide)] at h6) (by rwa [getD_set _ _ _ (by decide)] at h7)), (fun h7 h10 => by change GrownD _ _ _ _ _ _ _ _ ((ac.put (some 50) _).eval (.tmp 57)); rw [eval_put_other ac _ (by decide)]; exact hA (by rwa [getD_set _ _ _ (by decide)] at h7) (by rwa [getD_set _ _ _ (by decide)] at h10)), (fun h10 => absurd (by rwa [getD_set _ _ _ (by decide)] at h10) hno)⟩)
        · have hno : ¬ listed.getD 10 false = true := fun h => not_yet hk (hdn 2 (hdn 3 (hdn 4 (hdn 7 (hdn 10 h 7 (by kernel_rfl)) 4 (by kernel_rfl)) 3 (by kernel_rfl)) 2 (by kernel_rfl)) 1 (by kernel_rfl))
          exact wpOp_plain rfl rfl (wp_move_v (.pointer (some ⟨P, 0, none⟩)) rfl ((hF.keep 0 (by rw [hD]; rfl)).trans zs0) ⟨hl2 1, (hF.put 1 51 (SP.is (.pointer (some ⟨P, 0, none⟩))) (.pointer (some ⟨P, 0, none⟩)) (by rw [hD]; rfl) rfl (by rw [hD]; rfl) (by rw [hsz]; decide) (by rw [hl]; decide)), (hB.imp (fun h => by rw [getD_set _ _ _ (by decide)]; exact h) id), (fun h6 h7 => by change OneD _ ((ac.put (some 51) _).eval (.tmp 56)) _; rw [eval_put_other ac _ (by decide)]; exact hO (by rwa [getD_set _ _ _ (by decide)] at h6) (by rwa [getD_set _ _ _ (by decide)] at h7)), (fun h7 h10 => by change GrownD _ _ _ _ _ _ _ _ ((ac.put (some 51) _).eval (.tmp 57)); rw [eval_put_other ac _ (by decide)]; exact hA (by rwa [getD_set _ _ _ (by decide)] at h7) (by rwa [getD_set _ _ _ (by decide)] at h10)), (fun h10 => absurd (by rwa [getD_set _ _ _ (by decide)] at h10) hno)⟩)
        · have hno : ¬ listed.getD 10 false = true := fun h => not_yet hk (hdn 3 (hdn 4 (hdn 7 (hdn 10 h 7 (by kernel_rfl)) 4 (by kernel_rfl)) 3 (by kernel_rfl)) 2 (by kernel_rfl))
          exact wpOp_plain rfl rfl (wp_nilck P 0 rfl (hF.done 1 (51, SP.is (.pointer (some ⟨P, 0, none⟩))) (by rw [hD]; rfl) (ready_dep hk 1 (by kernel_rfl))) ⟨hl2 2, (hF.put 2 52 (SP.is (.pointer (some ⟨P, 0, none⟩))) (.pointer (some ⟨P, 0, none⟩)) (by rw [hD]; rfl) rfl (by rw [hD]; rfl) (by rw [hsz]; decide) (by rw [hl]; decide)), (hB.imp (fun h => by rw [getD_set _ _ _ (by decide)]; exact h) id), (fun h6 h7 => by change OneD _ ((ac.put (some 52) _).eval (.tmp 56)) _; rw [eval_put_other ac _ (by decide)]; exact hO (by rwa [getD_set _ _ _ (by decide)] at h6) (by rwa [getD_set _ _ _ (by decide)] at h7)), (fun h7 h10 => by change GrownD _ _ _ _ _ _ _ _ ((ac.put (some 52) _).eval (.tmp 57)); rw [eval_put_other ac _ (by decide)]; exact hA (by rwa [getD_set _ _ _ (by decide)] at h7) (by rwa [getD_set _ _ _ (by decide)] at h10)), (fun h10 => absurd (by rwa [getD_set _ _ _ (by decide)] at h10) hno)⟩)
        · have hno : ¬ listed.getD 10 false = true := fun h => not_yet hk (hdn 4 (hdn 7 (hdn 10 h 7 (by kernel_rfl)) 4 (by kernel_rfl)) 3 (by kernel_rfl))
          exact wpOp_plain rfl rfl (wp_lf1 P rfl (hF.done 2 (52, SP.is (.pointer (some ⟨P, 0, none⟩))) (by rw [hD]; rfl) (ready_dep hk 2 (by kernel_rfl))) ⟨hl2 3, (hF.put 3 53 (SP.is (.pointer (some ⟨P, 1, none⟩))) (.pointer (some ⟨P, 1, none⟩)) (by rw [hD]; rfl) rfl (by rw [hD]; rfl) (by rw [hsz]; decide) (by rw [hl]; decide)), (hB.imp (fun h => by rw [getD_set _ _ _ (by decide)]; exact h) id), (fun h6 h7 => by change OneD _ ((ac.put (some 53) _).eval (.tmp 56)) _; rw [eval_put_other ac _ (by decide)]; exact hO (by rwa [getD_set _ _ _ (by decide)] at h6) (by rwa [getD_set _ _ _ (by decide)] at h7)), (fun h7 h10 => by change GrownD _ _ _ _ _ _ _ _ ((ac.put (some 53) _).eval (.tmp 57)); rw [eval_put_other ac _ (by decide)]; exact hA (by rwa [getD_set _ _ _ (by decide)] at h7) (by rwa [getD_set _ _ _ (by decide)] at h10)), (fun h10 => absurd (by rwa [getD_set _ _ _ (by decide)] at h10) hno)⟩)
        · have hno : ¬ listed.getD 10 false = true := fun h => not_yet hk (hdn 7 (hdn 10 h 7 (by kernel_rfl)) 4 (by kernel_rfl))
          have hbl : Below wr.heap.size wr W := hB.resolve_left (fun h => not_yet hk (hdn 7 h 4 (by kernel_rfl)))
          exact wpOp_plain rfl rfl (wp_load_1 P 1 (.slice A1 n cap1) rfl (hF.done 3 (53, SP.is (.pointer (some ⟨P, 1, none⟩))) (by rw [hD]; rfl) (ready_dep hk 3 (by kernel_rfl))) (run_load_ds W P 1 _ ((Row.below HROW.out hbl HROW.out.lt).cell 1 _ rfl)) ⟨hl2 4, (hF.put 4 54 (SP.is (.slice A1 n cap1)) (.slice A1 n cap1) (by rw [hD]; rfl) rfl (by rw [hD]; rfl) (by rw [hsz]; decide) (by rw [hl]; decide)), (hB.imp (fun h => by rw [getD_set _ _ _ (by decide)]; exact h) id), (fun h6 h7 => by change OneD _ ((ac.put (some 54) _).eval (.tmp 56)) _; rw [eval_put_other ac _ (by decide)]; exact hO (by rwa [getD_set _ _ _ (by decide)] at h6) (by rwa [getD_set _ _ _ (by decide)] at h7)), (fun h7 h10 => by change GrownD _ _ _ _ _ _ _ _ ((ac.put (some 54) _).eval (.tmp 57)); rw [eval_put_other ac _ (by decide)]; exact hA (by rwa [getD_set _ _ _ (by decide)] at h7) (by rwa [getD_set _ _ _ (by decide)] at h10)), (fun h10 => absurd (by rwa [getD_set _ _ _ (by decide)] at h10) hno)⟩)
        · have hno : ¬ listed.getD 10 false = true := fun h => not_yet hk (hdn 6 (hdn 7 (hdn 10 h 7 (by kernel_rfl)) 6 (by kernel_rfl)) 5 (by kernel_rfl))
          have hbl : Below wr.heap.size wr W := hB.resolve_left (fun h => not_yet hk (hdn 6 (hdn 7 h 6 (by kernel_rfl)) 5 (by kernel_rfl)))
          exact wpOp_plain rfl rfl (wp_load_mid 42 (.tmp 5) rfl b5 0 ((hF.keep 5 (by rw [hD]; rfl)).trans zs5) (vB cur) _ (Row.all (Row.below R5.out hbl R5.out.lt)) Tryd.underlying42 rfl HIC.out ⟨hl2 5, (hF.put 5 55 (SP.is (.agg (vB cur).toArray)) (.agg (vB cur).toArray) (by rw [hD]; rfl) rfl (by rw [hD]; rfl) (by rw [hsz]; decide) (by rw [hl]; decide)), (hB.imp (fun h => by rw [getD_set _ _ _ (by decide)]; exact h) id), (fun h6 h7 => by change OneD _ ((ac.put (some 55) _).eval (.tmp 56)) _; rw [eval_put_other ac _ (by decide)]; exact hO (by rwa [getD_set _ _ _ (by decide)] at h6) (by rwa [getD_set _ _ _ (by decide)] at h7)), (fun h7 h10 => by change GrownD _ _ _ _ _ _ _ _ ((ac.put (some 55) _).eval (.tmp 57)); rw [eval_put_other ac _ (by decide)]; exact hA (by rwa [getD_set _ _ _ (by decide)] at h7) (by rwa [getD_set _ _ _ (by decide)] at h10)), (fun h10 => absurd (by rwa [getD_set _ _ _ (by decide)] at h10) hno)⟩)
        · have hno : ¬ listed.getD 10 false = true := fun h => not_yet hk (hdn 7 (hdn 10 h 7 (by kernel_rfl)) 6 (by kernel_rfl))
          have hbl : Below wr.heap.size wr W := hB.resolve_left (fun h => not_yet hk (hdn 7 h 6 (by kernel_rfl)))
          have hBa : Below W.heap.size W (W.alloc (Obj.cells (vB cur).toArray 42)) := (Below.refl _ _).alloc (Nat.le_refl _) _
          exact wpOp_plain rfl rfl (wp_build_d (.tmp 55) rfl cur HC0.out (hF.done 5 (55, SP.is (.agg (vB cur).toArray)) (by rw [hD]; rfl) (ready_dep hk 5 (by kernel_rfl))) ⟨hl2 6, ((hF.world hBa).put 6 56 (SP.any) (.slice (some ⟨W.heap.size, 0, none⟩) 1 1) (by rw [hD]; rfl) trivial (by rw [hD]; rfl) (by rw [hsz]; decide) (by rw [hl]; decide)), .inr (hbl.trans (hBa.mono hbl.size)), (fun _ _ => by change OneD _ ((ac.put (some 56) _).eval (.tmp 56)) _; rw [eval_put_same ac _ (by rw [hF.size, hsz]; decide)]; exact ⟨W.heap.size, rfl, Row.new' rfl rfl⟩), (fun h7 _ => absurd (by rwa [getD_set _ _ _ (by decide)] at h7) (fun h => not_yet hk (hdn 7 h 6 (by kernel_rfl)))), (fun h10 => absurd (by rwa [getD_set _ _ _ (by decide)] at h10) hno)⟩)
        · have hno : ¬ listed.getD 10 false = true := fun h => not_yet hk (hdn 10 h 7 (by kernel_rfl))
          have hbl : Below wr.heap.size wr W := hB.resolve_left (not_yet hk)
          obtain ⟨N, eN, rN⟩ := hO (ready_dep hk 6 (by kernel_rfl)) (not_yet hk)
          refine wpOp_plain rfl rfl (wp_appd (.tmp 54) (.tmp 56) rfl N n (.slice A1 n cap1) (vB F'.flatten) cur HC0.out (hF.done 4 (54, SP.is (.slice A1 n cap1)) (by rw [hD]; rfl) (ready_dep hk 4 (by kernel_rfl))) (HOWN.out.be hbl) eN rN HKK.out ?_)
          intro v2 w2 q1 q2 q3
          have hT : Fp D a0 listed ac w2 := hF.turn (by rw [hD]; simp only [List.forall_mem_cons, List.not_mem_nil, false_implies, implies_true, and_true]; exact ⟨fun _ h => h, fun _ h => h, fun _ h => h, fun _ h => h, fun _ h => h, fun _ h => h, fun _ h => h, fun _ h => h, fun _ h => h, fun _ h => h, fun _ h => h⟩)
          refine ⟨hl2 7, (hT.put 7 57 (SP.any) (v2) (by rw [hD]; rfl) trivial (by rw [hD]; rfl) (by rw [hsz]; decide) (by rw [hl]; decide)), .inl (getD_same (by rw [hl]; decide)), (fun _ h => absurd (getD_same (by rw [hl]; decide)) h), (fun _ _ => ?_), (fun h10 => absurd (by rwa [getD_set _ _ _ (by decide)] at h10) hno)⟩
          change GrownD _ _ _ _ _ _ _ _ ((ac.put (some 57) _).eval (.tmp 57))
          rw [eval_put_same ac _ (by rw [hF.size, hsz]; decide)]
          exact GrownD.made HROW.out HNE.out hbl q1 q2 q3
        · have hno : ¬ listed.getD 10 false = true := fun h => not_yet hk (hdn 9 (hdn 10 h 9 (by kernel_rfl)) 8 (by kernel_rfl))
          exact wpOp_plain rfl rfl (wp_nilck P 0 rfl (hF.done 0 (50, SP.is (.pointer (some ⟨P, 0, none⟩))) (by rw [hD]; rfl) (ready_dep hk 0 (by kernel_rfl))) ⟨hl2 8, (hF.put 8 58 (SP.is (.pointer (some ⟨P, 0, none⟩))) (.pointer (some ⟨P, 0, none⟩)) (by rw [hD]; rfl) rfl (by rw [hD]; rfl) (by rw [hsz]; decide) (by rw [hl]; decide)), (hB.imp (fun h => by rw [getD_set _ _ _ (by decide)]; exact h) id), (fun h6 h7 => by change OneD _ ((ac.put (some 58) _).eval (.tmp 56)) _; rw [eval_put_other ac _ (by decide)]; exact hO (by rwa [getD_set _ _ _ (by decide)] at h6) (by rwa [getD_set _ _ _ (by decide)] at h7)), (fun h7 h10 => by change GrownD _ _ _ _ _ _ _ _ ((ac.put (some 58) _).eval (.tmp 57)); rw [eval_put_other ac _ (by decide)]; exact hA (by rwa [getD_set _ _ _ (by decide)] at h7) (by rwa [getD_set _ _ _ (by decide)] at h10)), (fun h10 => absurd (by rwa [getD_set _ _ _ (by decide)] at h10) hno)⟩)
        · have hno : ¬ listed.getD 10 false = true := fun h => not_yet hk (hdn 10 h 9 (by kernel_rfl))
          exact wpOp_plain rfl rfl (wp_lf1 P rfl (hF.done 8 (58, SP.is (.pointer (some ⟨P, 0, none⟩))) (by rw [hD]; rfl) (ready_dep hk 8 (by kernel_rfl))) ⟨hl2 9, (hF.put 9 59 (SP.is (.pointer (some ⟨P, 1, none⟩))) (.pointer (some ⟨P, 1, none⟩)) (by rw [hD]; rfl) rfl (by rw [hD]; rfl) (by rw [hsz]; decide) (by rw [hl]; decide)), (hB.imp (fun h => by rw [getD_set _ _ _ (by decide)]; exact h) id), (fun h6 h7 => by change OneD _ ((ac.put (some 59) _).eval (.tmp 56)) _; rw [eval_put_other ac _ (by decide)]; exact hO (by rwa [getD_set _ _ _ (by decide)] at h6) (by rwa [getD_set _ _ _ (by decide)] at h7)), (fun h7 h10 => by change GrownD _ _ _ _ _ _ _ _ ((ac.put (some 59) _).eval (.tmp 57)); rw [eval_put_other ac _ (by decide)]; exact hA (by rwa [getD_set _ _ _ (by decide)] at h7) (by rwa [getD_set _ _ _ (by decide)] at h10)), (fun h10 => absurd (by rwa [getD_set _ _ _ (by decide)] at h10) hno)⟩)
        · have hno : ¬ listed.getD 10 false = true := not_yet hk
          have h7 := ready_dep hk 7 (by kernel_rfl)
          have hG := hA h7 (not_yet hk)
          obtain ⟨A2, c2, e2⟩ := hG.form
          have e59 : ac.eval (.tmp 59) = .pointer (some ⟨P, 1, none⟩) := (hF.done 9 (59, SP.is (.pointer (some ⟨P, 1, none⟩))) (by rw [hD]; rfl) (ready_dep hk 9 (by kernel_rfl)))
          refine wpOp_plain rfl rfl (wp_store_ds P 1 _ A2 (n + 1) c2 rfl e59 e2 (hG.row.cell 1 _ rfl) (hG.row.thaw 1) ?_)
          have hT : Fp D a0 listed ac (W.setCell ⟨P, 1, none⟩ (.slice A2 (n + 1) c2)) := hF.turn (by rw [hD]; simp only [List.forall_mem_cons, List.not_mem_nil, false_implies, implies_true, and_true]; exact ⟨fun _ h => h, fun _ h => h, fun _ h => h, fun _ h => h, fun _ h => h, fun _ h => h, fun _ h => h, fun _ h => h, fun _ h => h, fun _ h => h, fun _ h => h⟩)
          exact ⟨hl2 10, hT.skip 10 1000 (by rw [hD]; rfl) (by rw [hl]; decide), .inl (by rw [getD_set _ _ _ (by decide)]; exact h7), (fun _ h => absurd (by rw [getD_set _ _ _ (by decide)]; exact h7) h), (fun _ h => absurd (getD_same (by rw [hl]; decide)) h), (fun _ => by show GrownD _ _ _ _ _ _ (ac.eval (.tmp 57)) _ (ac.eval (.tmp 57)); rw [e2] at hG ⊢; exact hG.stored HNE.out HROW.out.lt)⟩
      · intro listed ac W hI hr
        obtain ⟨hl, hF, hB, hO, hA, hP⟩ := hI
        have hall := all_listed (by kernel_rfl) hl hr
        have hG := hP (hall 10 (by decide))
        have h50 : ac.eval (.tmp 50) = .pointer (some ⟨P, 0, none⟩) := hF.done 0 (50, SP.is (.pointer (some ⟨P, 0, none⟩))) (by rw [hD]; rfl) (hall 0 (by decide))
        have h51 : ac.eval (.tmp 51) = .pointer (some ⟨P, 0, none⟩) := hF.done 1 (51, SP.is (.pointer (some ⟨P, 0, none⟩))) (by rw [hD]; rfl) (hall 1 (by decide))
        have h52 : ac.eval (.tmp 52) = .pointer (some ⟨P, 0, none⟩) := hF.done 2 (52, SP.is (.pointer (some ⟨P, 0, none⟩))) (by rw [hD]; rfl) (hall 2 (by decide))
        have h53 : ac.eval (.tmp 53) = .pointer (some ⟨P, 1, none⟩) := hF.done 3 (53, SP.is (.pointer (some ⟨P, 1, none⟩))) (by rw [hD]; rfl) (hall 3 (by decide))
        have h54 : ac.eval (.tmp 54) = .slice A1 n cap1 := hF.done 4 (54, SP.is (.slice A1 n cap1)) (by rw [hD]; rfl) (hall 4 (by decide))
        have h55 : ac.eval (.tmp 55) = .agg (vB cur).toArray := hF.done 5 (55, SP.is (.agg (vB cur).toArray)) (by rw [hD]; rfl) (hall 5 (by decide))
        obtain ⟨x56, h56⟩ : ∃ x, ac.eval (.tmp 56) = x := ⟨_, rfl⟩
        obtain ⟨x57, h57⟩ : ∃ x, ac.eval (.tmp 57) = x := ⟨_, rfl⟩
        have h58 : ac.eval (.tmp 58) = .pointer (some ⟨P, 0, none⟩) := hF.done 8 (58, SP.is (.pointer (some ⟨P, 0, none⟩))) (by rw [hD]; rfl) (hall 8 (by decide))
        have h59 : ac.eval (.tmp 59) = .pointer (some ⟨P, 1, none⟩) := hF.done 9 (59, SP.is (.pointer (some ⟨P, 1, none⟩))) (by rw [hD]; rfl) (hall 9 (by decide))
        rw [h57] at hG
        have ea := hF.lay [(50, .pointer (some ⟨P, 0, none⟩)), (51, .pointer (some ⟨P, 0, none⟩)), (52, .pointer (some ⟨P, 0, none⟩)), (53, .pointer (some ⟨P, 1, none⟩)), (54, .slice A1 n cap1), (55, .agg (vB cur).toArray), (56, x56), (57, x57), (58, .pointer (some ⟨P, 0, none⟩)), (59, .pointer (some ⟨P, 1, none⟩))] (by rw [hD, hsz]; rfl) (by simp only [List.forall_mem_cons, List.not_mem_nil, false_implies, implies_true, and_true]; exact ⟨h50, h51, h52, h53, h54, h55, h56, h57, h58, h59⟩)
        rw [ha0] at ea
        simp only [List.foldl_cons, List.foldl_nil, List.setIfInBounds_toArray, List.set_cons_zero, List.set_cons_succ] at ea
        clear hF hall hr hl hD hB hO hA hP zs0 zs5 ha0 hsz h50 h51 h52 h53 h54 h55 h56 h57 h58 h59
        subst ea
        obtain ⟨A2, c2, e2⟩ := hG.form
        subst e2
        have hP3 := hG.row
        have z0 := hP3.cell 0 _ rfl
        have zf := hP3.thaw 0
        have rP4 := hP3.set 0 (.int .i64 ((m : Int) + 1))
        have z1 := rP4.cell 0 _ rfl
        have RP4 : Hid (Row _ P _ tL) := rP4
        have HGD : Hid (GrownD _ _ _ _ _ _ _ _ _) := hG
        clear hP3 rP4 hG
        go_wp2_with fail
        go_ret
        have hG := HGD.out
        have hne2 : ∀ k, (Value.slice A2 (n + 1) c2).ownBlock = some k → k ≠ P := fun k e => by
          rcases hG.place with q | ⟨k', q, hk'⟩
          · exact HNE.out k (q ▸ e)
          · rw [q] at e
            simp only [Option.some.injEq] at e
            have := HROW.out.lt
            omega
        have hfl2 : (F' ++ [cur]).flatten = F'.flatten ++ cur := by simp
        have hGX : Gro (fun k => k = P ∨ v.ownBlock = some k) w W := gro_then HGRO.out hG.gro (fun k q => by rw [← HOV.out]; exact .inl q)
        rw [hTT, ← HAD.out]
        refine ⟨rfl, .slice A2 (n + 1) c2, ⟨?_, ?_, ?_⟩, ?_, hGX.sets P 0 [_] (.inl rfl)⟩
        · rw [show ((m + 1 : Nat) : Int) = (m : Int) + 1 by omega]; exact RP4.out
        · rw [List.length_append, List.length_singleton, ← HN.out, hfl2, vB_append]
          exact hG.own.set_other (g := P) (o := 0) (ys := [_]) hne2
        · intro d hd
          rcases List.mem_append.1 hd with q | q
          · exact HDLF.out d q
          · rw [List.mem_singleton.1 q]; exact HC0.out
        · rcases hG.place with q | ⟨k', q, hk'⟩
          · exact .inl (q.trans HOV.out)
          · exact .inr ⟨k', q, Nat.le_trans HGRO.out.size hk'⟩

end Go.Proofs.YtkgfaioinajkjaaDoor
