/-
  wire.Reader: seeNumber, seeCount, seeFlag, seeWide, whatever the bytes.
-/
import Derived.Test.YtfommclhnfcioaaXDg2
namespace Go.Proofs.Ytfommclhnfcioaa
open Go Go.RowKit
open Sha

theorem Gave.of {w w' : World} {P : Nat} {A : Option Addr} {cap : Nat} {bs : List (BitVec 8)} {b : Nat} (h : Rg w' P A cap bs b) (g : Gp P w w') : Gave w w' P A cap bs := ⟨⟨b, h⟩, g⟩
theorem nuE_ok {bs : List (BitVec 8)} {a : Nat} (h : nuE bs a = 0) : hiF 8 bs a = 0 ∧ nuW bs a ≤ 9223372036854775807 := by
  unfold nuE at h
  by_cases h1 : hiF 8 bs a = 0
  · rw [if_pos h1] at h
    by_cases h2 : 9223372036854775807 < nuW bs a
    · rw [if_pos h2] at h; cases h
    · exact ⟨h1, by omega⟩
  · rw [if_neg h1] at h
    exact absurd h h1

set_option maxRecDepth 100000 in
set_option maxHeartbeats 2000000 in
theorem seeNumber_no (P : Nat) (A : Option Addr) (cap : Nat) (bs : List (BitVec 8)) (a : Nat) (f : Int) (hf : nuE bs a = f) (h0 : ¬ f = 0) (w : World) (h : Rg w P A cap bs a) :
    Calls Try.prog 81 #[.pointer (some ⟨P, 0, none⟩)] w fun e w' => e = .panicked (gu f) ∧ Gave w w' P A cap bs := by
  unfold nuE at hf
  by_cases h1 : hiF 8 bs a = 0
  · rw [if_pos h1] at hf
    by_cases h2 : 9223372036854775807 < nuW bs a
    · rw [if_pos h2] at hf
      subst hf
      have HD : Hid _ := seeDigits_any P A cap bs a 8 (by decide) h1 _ rfl w h
      have hn : (9223372036854775807 : Int) < ((nuW bs a : Nat) : Int) := by omega
      have E0 : Hid ((qd bs (a + 1 + at8 bs a) (at8 bs a))[0]? = some (.int .u64 ((nuW bs a : Nat) : Int))) := rfl
      have HL : Hid ((qd bs (a + 1 + at8 bs a) (at8 bs a)).length = 4) := rfl
      have HO : Hid ((qd bs (a + 1 + at8 bs a) (at8 bs a)).toArray.all (·.oneCell') = true) := all_oneCell_toArray (qd_one _ _ _)
      generalize qd bs (a + 1 + at8 bs a) (at8 bs a) = cs at *
      generalize nuW bs a = n at *
      generalize a + 1 + at8 bs a = a' at *
      clear h h1 h2
      go_enter Try.func81, Try.ntmps81
      go_wp2_with fail
      refine Calls.mono HD.out ?_
      rintro e V ⟨rfl, hr, hg⟩
      have n0 : Row (V.alloc (Obj.cells q4z.toArray 125)) V.heap.size q4z 125 := Row.new' rfl rfl
      have T0 := n0.there 0 cs.toArray.size (by rw [List.size_toArray, HL.out]; decide)
      replace n0 := n0.over (vs := cs) (by rw [HL.out]; rfl)
      have hB : Below V.heap.size V ((V.alloc (Obj.cells q4z.toArray 125)).setCells V.heap.size 0 cs) := below_setCells ((Below.refl _ _).alloc (Nat.le_refl _) (Obj.cells q4z.toArray 125)) (b := V.heap.size) (o := 0) (Nat.le_refl _) cs
      replace hr := hr.be hB
      replace hg := hg.below hB
      have gc := n0.cell 0 _ E0.out
      have HI : Hid ((Try.prog.info? 125).map (·.size) = some cs.toArray.size) := by show _ = _; rw [List.size_toArray, HL.out]; exact info_q
      have HR : Hid (Gave w ((V.alloc (Obj.cells q4z.toArray 125)).setCells V.heap.size 0 cs) P A cap bs) := Gave.of hr hg
      clear n0 hr hg hB HD
      go_wp2_with (refine wpList_store_mid rfl 125 (.tmp 3) (.tmp 5) rfl V.heap.size 0 cs.toArray rfl rfl T0 HI.out HO.out ?_; simp only [Act.put]; clear T0; (change wpList _ _ _ _ _ ((V.alloc (Obj.cells q4z.toArray 125)).setCells V.heap.size 0 cs)); (generalize ((V.alloc (Obj.cells q4z.toArray 125)).setCells V.heap.size 0 cs) = X at *); (generalize hN : V.heap.size = N4 at *; clear hN))
      exact ⟨rfl, rfl, HR.out⟩
    · rw [if_neg h2] at hf
      exact absurd hf.symm h0
  · rw [if_neg h1] at hf
    have HD : Hid _ := seeDigits_no P A cap bs a 8 f hf h0 w h
    clear h
    go_enter Try.func81, Try.ntmps81
    go_wp2_with fail
    refine Calls.mono HD.out ?_
    rintro e V ⟨rfl, hr⟩
    have HR : Hid (Gave _ _ _ _ _ _) := hr
    clear hr
    go_wp2_with fail
    exact ⟨rfl, rfl, HR.out⟩

set_option maxRecDepth 100000 in
set_option maxHeartbeats 2000000 in
theorem seeNumber_any (P : Nat) (A : Option Addr) (cap : Nat) (bs : List (BitVec 8)) (a : Nat) (hf : nuE bs a = 0) (w : World) (h : Rg w P A cap bs a) :
    Calls Try.prog 81 #[.pointer (some ⟨P, 0, none⟩)] w fun e w' => e = .returned (.int .i64 ((nuW bs a : Nat) : Int)) ∧ Rg w' P A cap bs (a + 1 + at8 bs a) ∧ Gp P w w' := by
  obtain ⟨h1, h2⟩ := nuE_ok hf
  have HD : Hid _ := seeDigits_any P A cap bs a 8 (by decide) h1 _ rfl w h
  have hn : ¬ (9223372036854775807 : Int) < ((nuW bs a : Nat) : Int) := by omega
  have hn2 : ((nuW bs a : Nat) : Int) ≤ 9223372036854775807 := by omega
  have hw : IntKind.i64.wrap ((nuW bs a : Nat) : Int) = ((nuW bs a : Nat) : Int) := by rw [IntKind.wrap_i64]; omega
  have E0 : Hid ((qd bs (a + 1 + at8 bs a) (at8 bs a))[0]? = some (.int .u64 ((nuW bs a : Nat) : Int))) := rfl
  have HL : Hid ((qd bs (a + 1 + at8 bs a) (at8 bs a)).length = 4) := rfl
  have HO : Hid ((qd bs (a + 1 + at8 bs a) (at8 bs a)).toArray.all (·.oneCell') = true) := all_oneCell_toArray (qd_one _ _ _)
  generalize qd bs (a + 1 + at8 bs a) (at8 bs a) = cs at *
  generalize nuW bs a = n at *
  generalize a + 1 + at8 bs a = a' at *
  clear h h1 h2 hf
  go_enter Try.func81, Try.ntmps81
  go_wp2_with fail
  refine Calls.mono HD.out ?_
  rintro e V ⟨rfl, hr, hg⟩
  have n0 : Row (V.alloc (Obj.cells q4z.toArray 125)) V.heap.size q4z 125 := Row.new' rfl rfl
  have T0 := n0.there 0 cs.toArray.size (by rw [List.size_toArray, HL.out]; decide)
  replace n0 := n0.over (vs := cs) (by rw [HL.out]; rfl)
  have hB : Below V.heap.size V ((V.alloc (Obj.cells q4z.toArray 125)).setCells V.heap.size 0 cs) := below_setCells ((Below.refl _ _).alloc (Nat.le_refl _) (Obj.cells q4z.toArray 125)) (b := V.heap.size) (o := 0) (Nat.le_refl _) cs
  replace hr := hr.be hB
  replace hg := hg.below hB
  have gc := n0.cell 0 _ E0.out
  have HI : Hid ((Try.prog.info? 125).map (·.size) = some cs.toArray.size) := by show _ = _; rw [List.size_toArray, HL.out]; exact info_q
  have HR : Hid (Rg _ _ _ _ _ _) := hr
  have HG : Hid (Gro _ _ _) := hg
  clear n0 hr hg hB HD
  go_wp2_with (refine wpList_store_mid rfl 125 (.tmp 3) (.tmp 5) rfl V.heap.size 0 cs.toArray rfl rfl T0 HI.out HO.out ?_; simp only [Act.put]; clear T0; (change wpList _ _ _ _ _ ((V.alloc (Obj.cells q4z.toArray 125)).setCells V.heap.size 0 cs)); (generalize ((V.alloc (Obj.cells q4z.toArray 125)).setCells V.heap.size 0 cs) = X at *); (generalize hN : V.heap.size = N4 at *; clear hN))
  go_ret
  exact ⟨rfl, HR.out, HG.out⟩

/-- What is wrong with a list's number. -/
def cnE (bs : List (BitVec 8)) (a : Nat) (most : Int) : Int :=
  if nuE bs a = 0 then (if most < (nuW bs a : Int) then 30 else if bs.length < a + 1 + at8 bs a + nuW bs a then 31 else 0) else nuE bs a
theorem cnE_ok {bs : List (BitVec 8)} {a : Nat} {most : Int} (h : cnE bs a most = 0) : nuE bs a = 0 ∧ (nuW bs a : Int) ≤ most ∧ a + 1 + at8 bs a + nuW bs a ≤ bs.length := by
  unfold cnE at h
  by_cases h1 : nuE bs a = 0
  · rw [if_pos h1] at h
    by_cases h2 : most < (nuW bs a : Int)
    · rw [if_pos h2] at h; cases h
    · rw [if_neg h2] at h
      by_cases h3 : bs.length < a + 1 + at8 bs a + nuW bs a
      · rw [if_pos h3] at h; cases h
      · exact ⟨h1, by omega, by omega⟩
  · rw [if_neg h1] at h
    exact absurd h h1

end Go.Proofs.Ytfommclhnfcioaa
