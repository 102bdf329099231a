/-
  The document's Check.
-/
import Derived.Test.YtehjadgmleoobaaDoorTTxt
import Derived.Test.YtehjadgmleoobaaDoorTChkO
namespace Go.Proofs.YtehjadgmleoobaaDoor
open Go Go.RowKit
open Sha

section
variable {ops : Array Oper} {rest : List Oper} {op : Oper} {a : Act} {w : World} {Q : Exit → Act → World → Prop}
theorem wpList_neq_d2 (hw : Region.wanted op (yielded ops a.tmps) = true) (x y : Operand) (yt : TypeId) (ho : op.op = .binOp .neq 25 x y yt) (l r : List (BitVec 8)) (B : Bool) (hB : (!decide (l = r)) = B) (hl : Dl l) (hr : Dl r) (hx : a.eval x = .agg (vB l).toArray) (hy : a.eval y = .agg (vB r).toArray)
    (h : wpList Tryd.prog ops Q rest (a.put op.dst (.bool B)) w) : wpList Tryd.prog ops Q (op :: rest) a w :=
  BigFrame.wpList_want hw fun _ hK => wp_neq_d 25 x y yt ho 5 32 l r hx hy Tryd.underlying25 Tryd.underlying5 info_u8T hl hr guard_dig B hB (hK _ _ h)
end

set_option maxRecDepth 100000 in
set_option maxHeartbeats 1000000 in
theorem rcheck_size (n i : Int) (hn : n < 1 ∨ 1099511627776 < n) (root : List (BitVec 8)) (lv v : Value) (w : World) :
    Calls Tryd.prog 23 #[.agg (vB root).toArray, .int .i64 n, .int .i64 i, lv, v] w fun e w' => e = .returned (.int .i64 40) ∧ Below w.heap.size w w' := by
  have hb1 : Below w.heap.size w (w.alloc (Obj.cells (vB root).toArray 25)) := (Below.refl _ _).alloc (Nat.le_refl _) _
  by_cases h1 : n < 1
  · clear hn
    go_enter Tryd.func23, Tryd.ntmps23
    go_wp2_with fail
    go_ret
    exact ⟨rfl, hb1⟩
  · have c2 : ¬ n ≤ 1099511627776 := by omega
    have hg : 1099511627776 < n := by omega
    have c3 : decide (1099511627776 < n) = true := decide_eq_true hg
    clear hn
    go_enter Tryd.func23, Tryd.ntmps23
    go_wp2_with fail
    go_ret
    exact ⟨rfl, hb1⟩
set_option maxRecDepth 100000 in
set_option maxHeartbeats 1000000 in
theorem rcheck_index (n i : Int) (h1 : 1 ≤ n) (hn : n ≤ 1099511627776) (hi : i < 0 ∨ n ≤ i) (root : List (BitVec 8)) (lv v : Value) (w : World) :
    Calls Tryd.prog 23 #[.agg (vB root).toArray, .int .i64 n, .int .i64 i, lv, v] w fun e w' => e = .returned (.int .i64 41) ∧ Below w.heap.size w w' := by
  have hb1 : Below w.heap.size w (w.alloc (Obj.cells (vB root).toArray 25)) := (Below.refl _ _).alloc (Nat.le_refl _) _
  have c1 : ¬ n < 1 := by omega
  have c2 : ¬ 1099511627776 < n := by omega
  have c3 : decide (1099511627776 < n) = false := decide_eq_false c2
  clear h1
  by_cases h2 : i < 0
  · clear hi
    go_enter Tryd.func23, Tryd.ntmps23
    go_wp2_with fail
    go_ret
    exact ⟨rfl, hb1⟩
  · have h3 : n ≤ i := by omega
    clear hi
    go_enter Tryd.func23, Tryd.ntmps23
    go_wp2_with fail
    go_ret
    exact ⟨rfl, hb1⟩

set_option maxRecDepth 100000 in
set_option maxHeartbeats 2000000 in
theorem rcheck_len (n i : Nat) (hin : i < n) (hn : n ≤ 1099511627776) (root : List (BitVec 8)) (k pc : Nat) (hk : k ≠ pl n i) (PA : Option Addr) (lv : Value) (w : World) :
    Calls Tryd.prog 23 #[.agg (vB root).toArray, .int .i64 (n : Int), .int .i64 (i : Int), lv, .slice PA k pc] w fun e w' => e = .returned (.int .i64 43) ∧ Below w.heap.size w w' := by
  have hb1 : Below w.heap.size w (w.alloc (Obj.cells (vB root).toArray 25)) := (Below.refl _ _).alloc (Nat.le_refl _) _
  have c1 : ¬ (n : Int) < 1 := by omega
  have c2 : ¬ (1099511627776 : Int) < (n : Int) := by omega
  have c2b : (n : Int) ≤ 1099511627776 := by omega
  have c2c : decide ((1099511627776 : Int) < (n : Int)) = false := decide_eq_false c2
  have c3 : ¬ (i : Int) < 0 := by omega
  have c4 : ¬ (n : Int) ≤ (i : Int) := by omega
  have HS : Hid (∀ W : World, _) := fun W => sides_any n i hin hn W
  have hm : (sd n i).length = pl n i := sd_length n i (by omega) (by omega)
  rw [hm] at HS
  have c5 : ¬ (k : Int) = (pl n i : Int) := by omega
  generalize pl n i = m at *
  clear hm hin hn hk
  go_enter Tryd.func23, Tryd.ntmps23
  go_wp2_with (go_at_call 38; refine (HS.out _).mono ?_; rintro e w2 ⟨v2, rfl, hO2, hB2⟩; obtain ⟨A2, c2, rfl⟩ := own_form hO2)
  go_ret
  exact ⟨rfl, hb1.trans (hB2.mono (by simp))⟩

set_option maxRecDepth 100000 in
set_option maxHeartbeats 2000000 in
theorem rcheck_ok (n i : Nat) (hin : i < n) (hn : n ≤ 1099511627776) (root lf : List (BitVec 8)) (Hroot : Dl root) (hlf : lf.length ≤ 140737488351232) (ds : List (List (BitVec 8))) (hds : ds.length = pl n i) (A PA : Option Addr) (cap pc : Nat) (hnil : A = none → cap = 0) (w : World) (hG : Given w) (hv : SlAtT w (.slice A lf.length cap) lf) (hp : PAt w (.slice PA ds.length pc) ds) :
    Calls Tryd.prog 23 #[.agg (vB root).toArray, .int .i64 (n : Int), .int .i64 (i : Int), .slice A lf.length cap, .slice PA ds.length pc] w fun e w' => e = .returned (.int .i64 (if rb n i lf ds = root then 0 else 43)) ∧ Below w.heap.size w w' := by
  have hb1 : Below w.heap.size w (w.alloc (Obj.cells (vB root).toArray 25)) := (Below.refl _ _).alloc (Nat.le_refl _) _
  have r5 : Row (w.alloc (Obj.cells (vB root).toArray 25)) w.heap.size (vB root) 25 := Row.new' rfl rfl
  have c1 : ¬ (n : Int) < 1 := by omega
  have c2 : ¬ (1099511627776 : Int) < (n : Int) := by omega
  have c2b : (n : Int) ≤ 1099511627776 := by omega
  have c2c : decide ((1099511627776 : Int) < (n : Int)) = false := decide_eq_false c2
  have c3 : ¬ (i : Int) < 0 := by omega
  have c4 : ¬ (n : Int) ≤ (i : Int) := by omega
  have HS : Hid (∀ W : World, _) := fun W => sides_any n i hin hn W
  have hm : (sd n i).length = ds.length := by rw [sd_length n i (by omega) (by omega), hds]
  rw [hm] at HS
  have HT : Hid (∀ W, Below w.heap.size w W → _) := fun W (hB : Below w.heap.size w W) => texts_any n i hin hn lf _ rfl (by omega) ds hds A PA cap pc hnil W (hG.low hB) (hv.be hB) (hp.below hB)
  have HG : Hid (∀ W, Below w.heap.size w W → Given W) := fun W hB => hG.low hB
  have hrb := rb_txk n i lf ds hin (by omega) hds
  rw [← hds] at hrb
  have hxl : (txk (sd n i) ds lf ds.length).length ≤ 140737488355000 := by
    cases hd : ds.length with
    | zero => rw [show txk (sd n i) ds lf 0 = [0#8] ++ lf from rfl, List.length_append]; simp; omega
    | succ k =>
      have hk : (ds.getD k []).length = 32 := by
        rw [List.getD_eq_getElem?_getD, List.getElem?_eq_getElem (by omega)]; exact hp.1 _ (List.getElem_mem _)
      unfold txk
      split <;> simp only [List.length_append, dig_length, hk, List.length_cons, List.length_nil] <;> decide
  have hx0 : 0 < (txk (sd n i) ds lf ds.length).length := by cases ds.length <;> simp [txk]; split <;> simp
  have hget := txs_get (sd n i) ds lf (ds.length + 1) ds.length (Nat.lt_succ_self _)
  obtain ⟨ts, hts⟩ : ∃ ts, ts = txs (sd n i) ds lf (ds.length + 1) := ⟨_, rfl⟩
  have hlen : ts.length = ds.length + 1 := by rw [hts, txs_length]
  rw [← hts] at hget HT
  have HLT : Hid (ts.length = ds.length + 1) := hlen
  obtain ⟨x, ex⟩ : ∃ x, x = txk (sd n i) ds lf ds.length := ⟨_, rfl⟩
  rw [← ex] at hrb hxl hx0 hget
  obtain ⟨dd, hdd⟩ : ∃ dd, dd = rb n i lf ds := ⟨_, rfl⟩
  rw [← hdd] at hrb ⊢
  have HDD : Hid (dd = dig x) := hrb
  have Hdd : Dl dd := by rw [hrb]; exact dl_dig _
  have HX : Hid (x.length ≤ 140737488355000) := hxl
  have HX0 : Hid (0 < x.length) := hx0
  have HGE : Hid (ts.getD ds.length [] = x) := hget
  have hmb : ds.length ≤ 1099511627776 := by rw [hds]; have := pl_lt n i (by omega) (by omega); omega
  obtain ⟨B, hB⟩ : ∃ B, (!decide (dd = root)) = B := ⟨_, rfl⟩
  have HB : Hid ((!decide (dd = root)) = B) := hB
  obtain ⟨E, hE⟩ : ∃ E : Int, E = if dd = root then 0 else 43 := ⟨_, rfl⟩
  rw [← hE]
  have HE : Hid (E = if dd = root then 0 else 43) := hE
  clear hE
  clear hm hrb hxl hx0 hget hlen hts ex hdd hG hv hp hds hin hn hnil hB
  generalize ds.length = m at *
  go_enter Tryd.func23, Tryd.ntmps23
  go_wp2_with (first
    | (go_at_call 38; refine (HS.out _).mono ?_; rintro e w2 ⟨v2, rfl, hO2, hB2⟩; (obtain ⟨A2, c2, rfl⟩ := own_form hO2); (replace r5 := Row.below r5 hB2 r5.lt); (replace hb1 := hb1.trans (hB2.mono hb1.size)); clear hO2 hB2)
    | (go_at_call 39; refine (HT.out _ hb1).mono ?_; rintro e w3 ⟨v3, vs3, rfl, hT3, hB3⟩; (replace r5 := Row.below r5 hB3 r5.lt); (replace hb1 := hb1.trans (hB3.mono hb1.size)); clear hB3; (obtain ⟨g3, c3', e3, _, _, hr3⟩ := hT3.form (by rw [HLT.out]; omega)); (rw [HLT.out] at e3); subst e3; (have b3 := hT3.cell hr3 m (by rw [HLT.out]; omega)); (have hE := hT3.each m (by rw [HLT.out]; omega)); (rw [HGE.out] at hE); (obtain ⟨g4, c4', e4⟩ := owns_some hE HX0.out); (rw [e4] at b3 hE); (have hS3 := (owns_slAt hE).1); clear hE hr3 hT3 e4)
    | (go_at_call 40; refine (rsum_any x dd HDD.out HX.out _ w3 hS3 (HG.out w3 hb1)).mono ?_; rintro e w4 ⟨rfl, hB4⟩; (replace r5 := Row.below r5 hB4 r5.lt); (replace hb1 := hb1.trans (hB4.mono hb1.size)); clear hB4 hS3 b3)
    | (refine wpList_store_mid rfl 25 (.tmp 13) (.tmp 46) rfl w4.heap.size 0 (vB dd).toArray rfl rfl (Hdd.there (Row.new' (cs := z32T) rfl rfl) rfl) Hdd.info' Hdd.one ?_; simp only [Act.put]; (have r6 := (Row.new w4 z32T 25).over (vs := vB dd) (Hdd.over rfl)); (have hB6 : Below w4.heap.size w4 (World.setCells (w4.alloc (Obj.cells z32T.toArray 25)) w4.heap.size 0 (vB dd)) := below_setCells ((Below.refl _ _).alloc (Nat.le_refl _) _) (Nat.le_refl _) _); (replace r5 := Row.below r5 hB6 r5.lt); (replace hb1 := hb1.trans (hB6.mono hb1.size)); clear hB6; (change wpList _ _ _ _ _ (World.setCells (w4.alloc (Obj.cells z32T.toArray 25)) w4.heap.size 0 (vB dd))); (generalize World.setCells (w4.alloc (Obj.cells z32T.toArray 25)) w4.heap.size 0 (vB dd) = w6 at *))
    | (refine wpList_load_wT rfl 25 (.tmp 13) rfl w4.heap.size 0 rfl (vB dd) _ r6.all Tryd.underlying25 rfl Hdd.info ?_; simp only [Act.put, List.setIfInBounds_toArray, List.set_cons_zero, List.set_cons_succ])
    | (refine wpList_load_wT rfl 25 (.tmp 5) rfl w.heap.size 0 rfl (vB root) _ r5.all Tryd.underlying25 rfl Hroot.info ?_; simp only [Act.put, List.setIfInBounds_toArray, List.set_cons_zero, List.set_cons_succ])
    | (refine wpList_neq_d2 rfl (.tmp 47) (.tmp 48) 25 rfl dd root B HB.out Hdd Hroot rfl rfl ?_; simp only [Act.put, List.setIfInBounds_toArray, List.set_cons_zero, List.set_cons_succ]; cases B))
  · go_ret
    exact ⟨by rw [HE.out, if_pos (by have := HB.out; simpa using this)]; rfl, hb1⟩
  · go_ret
    exact ⟨by rw [HE.out, if_neg (by have := HB.out; simpa using this)]; rfl, hb1⟩

/-- The document's Check of whatever comes. -/
theorem rcheck_any (n i : Int) (root lf : List (BitVec 8)) (ds : List (List (BitVec 8))) (Hroot : Dl root) (hlf : lf.length ≤ 140737488351232) (A PA : Option Addr) (cap pc : Nat) (hnil : A = none → cap = 0) (w : World) (hG : Given w) (hv : SlAtT w (.slice A lf.length cap) lf) (hp : PAt w (.slice PA ds.length pc) ds) :
    Calls Tryd.prog 23 #[.agg (vB root).toArray, .int .i64 n, .int .i64 i, .slice A lf.length cap, .slice PA ds.length pc] w fun e w' => e = .returned (.int .i64 (ck root n i lf ds)) ∧ Below w.heap.size w w' := by
  unfold ck
  by_cases h1 : n < 1 ∨ 1099511627776 < n
  · rw [if_pos h1]; exact rcheck_size n i h1 root _ _ w
  rw [if_neg h1]
  by_cases h3 : i < 0 ∨ n ≤ i
  · rw [if_pos h3]; exact rcheck_index n i (by omega) (by omega) h3 root _ _ w
  rw [if_neg h3]
  obtain ⟨N, rfl⟩ : ∃ N : Nat, n = (N : Int) := ⟨n.toNat, by omega⟩
  obtain ⟨I, rfl⟩ : ∃ I : Nat, i = (I : Int) := ⟨i.toNat, by omega⟩
  simp only [Int.toNat_natCast]
  by_cases h5 : ds.length = pl N I
  · have h := rcheck_ok N I (by omega) (by omega) root lf Hroot hlf ds h5 A PA cap pc hnil w hG hv hp
    by_cases h6 : rb N I lf ds = root
    · rw [if_pos h6] at h
      rw [if_pos ⟨h5, h6⟩]; exact h
    · rw [if_neg h6] at h
      rw [if_neg (fun x => h6 x.2)]; exact h
  · rw [if_neg (fun x => h5 x.1)]
    exact rcheck_len N I (by omega) (by omega) root ds.length pc h5 PA _ w

end Go.Proofs.YtehjadgmleoobaaDoor
