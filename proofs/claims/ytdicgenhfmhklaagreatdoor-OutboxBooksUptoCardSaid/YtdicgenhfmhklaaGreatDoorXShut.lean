/-
  wire.Reader with a fault: it answers noughts, and nothing happens.
-/
import Derived.Test.YtdicgenhfmhklaaGreatDoorXKnown
import Derived.Test.YtdicgenhfmhklaaGreatDoorXLaw2
namespace Go.Proofs.YtdicgenhfmhklaaGreatDoor
open Go Go.RowKit
open Sha

/-- A reader with a fault (or whatever a reader holds). -/
abbrev Rs (w : World) (P : Nat) (v : Value) (a f : Int) : Prop := Row w P [v, .int .i64 a, .int .i64 f] 120

set_option maxRecDepth 100000 in
set_option maxHeartbeats 1000000 in
theorem tkz_byte (P : Nat) (v : Value) (a f : Int) (hf : ¬ f = 0) (fv : Value) (w : World) (h : Rs w P v a f) :
    Calls Tryz.prog 74 #[.pointer (some ⟨P, 0, none⟩), fv] w fun e w' => e = .returned (.int .u8 0) ∧ Below w.heap.size w w' := by
  have b0 : Below w.heap.size w (w.alloc (Obj.cells #[.pointer (some ⟨P, 0, none⟩)] 102)) := (Below.refl _ _).alloc (Nat.le_refl _) _
  have HE : Hid _ := err_ok P v a f _ (Row.below h b0 h.lt)
  have HB : Hid _ := b0
  clear h b0
  go_enter_defers Tryz.func74, Tryz.ntmps74
  go_wp2_with (go_at_call 82; refine Calls.mono HE.out ?_; rintro e w2 ⟨rfl, rfl⟩)
  exact ⟨_, results_tmp rfl _ _ _, rfl, HB.out⟩

set_option maxRecDepth 100000 in
theorem none_byte (P : Nat) (v : Value) (a f : Int) (hf : ¬ f = 0) (w : World) (h : Rs w P v a f) :
    Calls Tryz.prog 56 #[.pointer (some ⟨P, 0, none⟩)] w fun e w' => e = .returned (.int .u8 0) ∧ Below w.heap.size w w' := by
  have HT : Hid _ := tkz_byte P v a f hf (.func (.func 75) #[] #[]) w h
  clear h
  go_enter Tryz.func56, Tryz.ntmps56
  go_wp2_with fail
  refine Calls.mono HT.out ?_
  rintro e V ⟨rfl, hb⟩
  have HB : Hid _ := hb
  clear hb
  go_wp2_with fail
  go_ret
  exact ⟨rfl, HB.out⟩

set_option maxRecDepth 100000 in
set_option maxHeartbeats 1000000 in
theorem tkz_int (P : Nat) (v : Value) (a f : Int) (hf : ¬ f = 0) (fv : Value) (w : World) (h : Rs w P v a f) :
    Calls Tryz.prog 76 #[.pointer (some ⟨P, 0, none⟩), fv] w fun e w' => e = .returned (.int .i64 0) ∧ Below w.heap.size w w' := by
  have b0 : Below w.heap.size w (w.alloc (Obj.cells #[.pointer (some ⟨P, 0, none⟩)] 102)) := (Below.refl _ _).alloc (Nat.le_refl _) _
  have HE : Hid _ := err_ok P v a f _ (Row.below h b0 h.lt)
  have HB : Hid _ := b0
  clear h b0
  go_enter_defers Tryz.func76, Tryz.ntmps76
  go_wp2_with (go_at_call 82; refine Calls.mono HE.out ?_; rintro e w2 ⟨rfl, rfl⟩)
  exact ⟨_, results_tmp rfl _ _ _, rfl, HB.out⟩

set_option maxRecDepth 100000 in
theorem none_int (P : Nat) (v : Value) (a f : Int) (hf : ¬ f = 0) (w : World) (h : Rs w P v a f) :
    Calls Tryz.prog 57 #[.pointer (some ⟨P, 0, none⟩)] w fun e w' => e = .returned (.int .i64 0) ∧ Below w.heap.size w w' := by
  have HT : Hid _ := tkz_int P v a f hf (.func (.func 77) #[] #[]) w h
  clear h
  go_enter Tryz.func57, Tryz.ntmps57
  go_wp2_with fail
  refine Calls.mono HT.out ?_
  rintro e V ⟨rfl, hb⟩
  have HB : Hid _ := hb
  clear hb
  go_wp2_with fail
  go_ret
  exact ⟨rfl, HB.out⟩

set_option maxRecDepth 100000 in
set_option maxHeartbeats 1000000 in
theorem tkz_wide (P : Nat) (v : Value) (a f : Int) (hf : ¬ f = 0) (fv : Value) (w : World) (h : Rs w P v a f) :
    Calls Tryz.prog 80 #[.pointer (some ⟨P, 0, none⟩), fv] w fun e w' => e = .returned (.agg q4z.toArray) ∧ Below w.heap.size w w' := by
  have b0 : Below w.heap.size w (w.alloc (Obj.cells #[.pointer (some ⟨P, 0, none⟩)] 102)) := (Below.refl _ _).alloc (Nat.le_refl _) _
  have b1 : Below w.heap.size w ((w.alloc (Obj.cells #[.pointer (some ⟨P, 0, none⟩)] 102)).alloc (Obj.cells q4z.toArray 38)) := b0.alloc b0.size _
  have r0 : Row ((w.alloc (Obj.cells #[.pointer (some ⟨P, 0, none⟩)] 102)).alloc (Obj.cells q4z.toArray 38)) (w.heap.size + 1) q4z 38 := Row.new' (by simp) rfl
  have HE : Hid _ := err_ok P v a f ((w.alloc (Obj.cells #[.pointer (some ⟨P, 0, none⟩)] 102)).alloc (Obj.cells q4z.toArray 38)) (Row.below h b1 h.lt)
  have T0 := r0.there 0 q4z.toArray.size (by simp [])
  have nf := r0.over (vs := q4z) rfl
  have nB := below_setCells b1 (b := w.heap.size + 1) (o := 0) (by omega) q4z
  have HI : Hid ((Tryz.prog.info? 38).map (·.size) = some q4z.length) := info_q
  have HI' : Hid ((Tryz.prog.info? 38).map (·.size) = some q4z.toArray.size) := info_q
  have HO : Hid (q4z.toArray.all (·.oneCell') = true) := all_oneCell_toArray (q4_one 0 0 0 0)
  have HL : Hid (q4z.length = 4) := rfl
  have NF : Hid _ := nf
  have NB : Hid _ := nB
  have HT : Hid _ := T0
  have R0 : Hid _ := r0
  clear h b0 b1 r0 T0 nf nB
  go_enter_defers Tryz.func80, Tryz.ntmps80
  go_wp2_with fail
  refine Calls.mono HE.out ?_
  rintro e w2 ⟨rfl, rfl⟩
  clear HE
  generalize ((w.alloc (Obj.cells #[.pointer (some ⟨P, 0, none⟩)] 102)).alloc (Obj.cells q4z.toArray 38)) = X at *
  generalize hz : q4z = cs at *
  go_wp2_with (first
    | (refine wpList_load_w rfl 38 (.tmp 4) rfl (w.heap.size + 1) 0 rfl cs _ (Row.all R0.out) Tryz.underlying38 rfl HI.out ?_; simp only [Act.put, List.setIfInBounds_toArray, List.set_cons_zero, List.set_cons_succ])
    | (refine wpList_store_mid rfl 38 (.tmp 4) (.tmp 9) rfl (w.heap.size + 1) 0 cs.toArray rfl rfl HT.out HI'.out HO.out ?_; simp only [Act.put]; (change wpList _ _ _ _ _ (World.setCells X (w.heap.size + 1) 0 cs))))
  exact ⟨_, results_row Tryz.results80 _ _ (w.heap.size + 1) 38 cs rfl NF.out Tryz.underlying38 info_q HL.out, by rw [hz], NB.out⟩

set_option maxRecDepth 100000 in
set_option maxHeartbeats 1000000 in
theorem none_wide (P : Nat) (v : Value) (a f : Int) (hf : ¬ f = 0) (w : World) (h : Rs w P v a f) :
    Calls Tryz.prog 59 #[.pointer (some ⟨P, 0, none⟩)] w fun e w' => e = .returned (.agg q4z.toArray) ∧ Below w.heap.size w w' := by
  have b1 : Below w.heap.size w (w.alloc (Obj.cells q4z.toArray 38)) := (Below.refl _ _).alloc (Nat.le_refl _) _
  have r0 : Row (w.alloc (Obj.cells q4z.toArray 38)) w.heap.size q4z 38 := Row.new' rfl rfl
  have HT0 : Hid _ := tkz_wide P v a f hf (.func (.func 81) #[] #[]) (w.alloc (Obj.cells q4z.toArray 38)) (Row.below h b1 h.lt)
  have HI' : Hid ((Tryz.prog.info? 38).map (·.size) = some q4z.toArray.size) := info_q
  have HO : Hid (q4z.toArray.all (·.oneCell') = true) := all_oneCell_toArray (q4_one 0 0 0 0)
  have HL : Hid (q4z.length = 4) := rfl
  have R0 : Hid _ := r0
  have B1 : Hid _ := b1
  have HTH : Hid (∀ W, Row W w.heap.size q4z 38 → W.there w.heap.size 0 q4z.toArray.size) := fun W r => r.there 0 q4z.toArray.size (by simp [])
  clear h r0 b1
  go_enter Tryz.func59, Tryz.ntmps59
  go_wp2_with fail
  refine Calls.mono HT0.out ?_
  rintro e V ⟨rfl, hb⟩
  clear HT0
  generalize w.alloc (Obj.cells q4z.toArray 38) = X at *
  generalize hz : q4z = cs at *
  have r1 := Row.below R0.out hb (Row.lt R0.out)
  have NB : Hid _ := below_setCells (B1.out.trans (hb.mono B1.out.size)) (b := w.heap.size) (o := 0) (Nat.le_refl _) cs
  have T0 := HTH.out V r1
  have NF : Hid _ := r1.over (vs := cs) rfl
  clear hb r1 HTH R0 B1
  go_wp2_with (refine wpList_store_mid rfl 38 (.tmp 2) (.tmp 4) rfl w.heap.size 0 cs.toArray rfl rfl T0 HI'.out HO.out ?_; simp only [Act.put]; (change wpList _ _ _ _ _ (World.setCells V w.heap.size 0 cs)))
  exact bodyPost_ret (results_row Tryz.results59 _ _ w.heap.size 38 cs rfl NF.out Tryz.underlying38 info_q HL.out) rfl ⟨by rw [hz], NB.out⟩

set_option maxRecDepth 100000 in
set_option maxHeartbeats 1000000 in
theorem tkz_addr (P : Nat) (v : Value) (a f : Int) (hf : ¬ f = 0) (fv : Value) (w : World) (h : Rs w P v a f) :
    Calls Tryz.prog 78 #[.pointer (some ⟨P, 0, none⟩), fv] w fun e w' => e = .returned (.agg z20.toArray) ∧ Below w.heap.size w w' := by
  have b0 : Below w.heap.size w (w.alloc (Obj.cells #[.pointer (some ⟨P, 0, none⟩)] 102)) := (Below.refl _ _).alloc (Nat.le_refl _) _
  have b1 : Below w.heap.size w ((w.alloc (Obj.cells #[.pointer (some ⟨P, 0, none⟩)] 102)).alloc (Obj.cells z20.toArray 35)) := b0.alloc b0.size _
  have r0 : Row ((w.alloc (Obj.cells #[.pointer (some ⟨P, 0, none⟩)] 102)).alloc (Obj.cells z20.toArray 35)) (w.heap.size + 1) z20 35 := Row.new' (by simp) rfl
  have HE : Hid _ := err_ok P v a f ((w.alloc (Obj.cells #[.pointer (some ⟨P, 0, none⟩)] 102)).alloc (Obj.cells z20.toArray 35)) (Row.below h b1 h.lt)
  have T0 := r0.there 0 z20.toArray.size (by simp [z20, vB_length])
  have nf := r0.over (vs := z20) rfl
  have nB := below_setCells b1 (b := w.heap.size + 1) (o := 0) (by omega) z20
  have HI : Hid ((Tryz.prog.info? 35).map (·.size) = some z20.length) := info_a20
  have HI' : Hid ((Tryz.prog.info? 35).map (·.size) = some z20.toArray.size) := info_a20
  have HO : Hid (z20.toArray.all (·.oneCell') = true) := all_oneCell_toArray (vB_one _)
  have HL : Hid (z20.length = 20) := rfl
  have NF : Hid _ := nf
  have NB : Hid _ := nB
  have HT : Hid _ := T0
  have R0 : Hid _ := r0
  clear h b0 b1 r0 T0 nf nB
  go_enter_defers Tryz.func78, Tryz.ntmps78
  go_wp2_with fail
  refine Calls.mono HE.out ?_
  rintro e w2 ⟨rfl, rfl⟩
  clear HE
  generalize ((w.alloc (Obj.cells #[.pointer (some ⟨P, 0, none⟩)] 102)).alloc (Obj.cells z20.toArray 35)) = X at *
  generalize hz : z20 = cs at *
  go_wp2_with (first
    | (refine wpList_load_w rfl 35 (.tmp 4) rfl (w.heap.size + 1) 0 rfl cs _ (Row.all R0.out) Tryz.underlying35 rfl HI.out ?_; simp only [Act.put, List.setIfInBounds_toArray, List.set_cons_zero, List.set_cons_succ])
    | (refine wpList_store_mid rfl 35 (.tmp 4) (.tmp 9) rfl (w.heap.size + 1) 0 cs.toArray rfl rfl HT.out HI'.out HO.out ?_; simp only [Act.put]; (change wpList _ _ _ _ _ (World.setCells X (w.heap.size + 1) 0 cs))))
  exact ⟨_, results_row Tryz.results78 _ _ (w.heap.size + 1) 35 cs rfl NF.out Tryz.underlying35 info_a20 HL.out, by rw [hz], NB.out⟩

set_option maxRecDepth 100000 in
set_option maxHeartbeats 1000000 in
theorem none_addr (P : Nat) (v : Value) (a f : Int) (hf : ¬ f = 0) (w : World) (h : Rs w P v a f) :
    Calls Tryz.prog 58 #[.pointer (some ⟨P, 0, none⟩)] w fun e w' => e = .returned (.agg z20.toArray) ∧ Below w.heap.size w w' := by
  have b1 : Below w.heap.size w (w.alloc (Obj.cells z20.toArray 35)) := (Below.refl _ _).alloc (Nat.le_refl _) _
  have r0 : Row (w.alloc (Obj.cells z20.toArray 35)) w.heap.size z20 35 := Row.new' rfl rfl
  have HT0 : Hid _ := tkz_addr P v a f hf (.func (.func 79) #[] #[]) (w.alloc (Obj.cells z20.toArray 35)) (Row.below h b1 h.lt)
  have HI' : Hid ((Tryz.prog.info? 35).map (·.size) = some z20.toArray.size) := info_a20
  have HO : Hid (z20.toArray.all (·.oneCell') = true) := all_oneCell_toArray (vB_one _)
  have HL : Hid (z20.length = 20) := rfl
  have R0 : Hid _ := r0
  have B1 : Hid _ := b1
  have HTH : Hid (∀ W, Row W w.heap.size z20 35 → W.there w.heap.size 0 z20.toArray.size) := fun W r => r.there 0 z20.toArray.size (by simp [z20, vB_length])
  clear h r0 b1
  go_enter Tryz.func58, Tryz.ntmps58
  go_wp2_with fail
  refine Calls.mono HT0.out ?_
  rintro e V ⟨rfl, hb⟩
  clear HT0
  generalize w.alloc (Obj.cells z20.toArray 35) = X at *
  generalize hz : z20 = cs at *
  have r1 := Row.below R0.out hb (Row.lt R0.out)
  have NB : Hid _ := below_setCells (B1.out.trans (hb.mono B1.out.size)) (b := w.heap.size) (o := 0) (Nat.le_refl _) cs
  have T0 := HTH.out V r1
  have NF : Hid _ := r1.over (vs := cs) rfl
  clear hb r1 HTH R0 B1
  go_wp2_with (refine wpList_store_mid rfl 35 (.tmp 2) (.tmp 4) rfl w.heap.size 0 cs.toArray rfl rfl T0 HI'.out HO.out ?_; simp only [Act.put]; (change wpList _ _ _ _ _ (World.setCells V w.heap.size 0 cs)))
  exact bodyPost_ret (results_row Tryz.results58 _ _ w.heap.size 35 cs rfl NF.out Tryz.underlying35 info_a20 HL.out) rfl ⟨by rw [hz], NB.out⟩

set_option maxRecDepth 100000 in
theorem newReader_long (A : Option Addr) (n cap : Nat) (hn : 4194304 < n) (w : World) :
    Calls Tryz.prog 55 #[.slice A n cap] w fun e w' => e = .returned (.pointer (some ⟨w.heap.size, 0, none⟩)) ∧ Rs w' w.heap.size (.slice none 0 0) 0 30 ∧ Below w.heap.size w w' := by
  have h1 : (4194304 : Int) < (n : Int) := by omega
  clear hn
  go_enter Tryz.func55, Tryz.ntmps55
  go_wp2
  go_ret
  exact ⟨rfl, Row.new' rfl rfl, (Below.refl _ _).alloc (Nat.le_refl _) _⟩

set_option maxRecDepth 100000 in
theorem end_shut (P : Nat) (v : Value) (a f : Int) (hf : ¬ f = 0) (w : World) (h : Rs w P v a f) :
    Calls Tryz.prog 60 #[.pointer (some ⟨P, 0, none⟩)] w fun e w' => e = .returned (.int .i64 f) ∧ w' = w := by
  have HE : Hid _ := err_ok P v a f w h
  clear h
  go_enter Tryz.func60, Tryz.ntmps60
  go_wp2_with fail
  refine Calls.mono HE.out ?_
  rintro e w2 ⟨rfl, rfl⟩
  go_wp2_with fail
  go_ret
  exact ⟨rfl, rfl⟩

theorem rfunc_kind : (Tryz.prog.underlying 124).map (fun d => match d with | .func .. => true | _ => false) = some true := by kernel_rfl
theorem rfunc_nil (fn : Fn) (a b : Array Value) (w : World) : (binOp .eql 124 (.func fn a b) .nilFunc).run Tryz.prog w = .ok (.bool false) w := by
  have hk := rfunc_kind
  cases h : Tryz.prog.underlying 124 with
  | none => rw [h] at hk; cases hk
  | some d =>
    rw [h] at hk
    cases d with
    | func =>
      have he : ∀ d, (Op.equalIn (d + 1) 124 (.func fn a b) .nilFunc).run Tryz.prog w = .ok false w := fun d => by simp [Op.equalIn, run_underlying h]
      have he2 : (Op.equal 124 (.func fn a b) .nilFunc).run Tryz.prog w = .ok false w := he 9999
      simp only [binOp]
      simp [he2]
    | _ => simp at hk


end Go.Proofs.YtdicgenhfmhklaaGreatDoor
