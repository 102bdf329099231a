/-
  a ledger told by numbers.
-/
import Derived.Test.YtelioddogdcdoaaDoorLhK
namespace Go.Proofs.YtelioddogdcdoaaDoor
open Go Go.RowKit Go.Maps
open Sha
open Wd

theorem str_toList (l : List (BitVec 8)) : (str l).toList = toU l := by
  rw [ByteArray.toList_eq]
  unfold str toU
  rw [strOfNums_data, List.map_map]
  apply List.map_congr_left
  intro x _
  apply UInt8.toNat_inj.1
  have := x.isLt
  unfold c
  simp only [Function.comp_apply, Int.toNat_natCast, UInt8.toNat_ofNat', UInt8.toNat_ofBitVec]
  omega
theorem str_inj {l r : List (BitVec 8)} (h : str l = str r) : l = r := by
  have q : toU l = toU r := by rw [← str_toList, ← str_toList, h]
  unfold toU at q
  exact (List.map_inj_right (fun a b e => by simpa using e)).1 q
theorem tb_ne (t : Nat) (x : List (BitVec 8)) : tKt t ≠ bKt t x := fun e => by
  have q := str_inj e
  simp at q
theorem tl_ne (t : Nat) (x y : List (BitVec 8)) : tKt t ≠ lKt t x y := fun e => by
  have q := str_inj e
  simp at q
theorem bl_ne (t : Nat) (z x y : List (BitVec 8)) : bKt t z ≠ lKt t x y := fun e => by
  have q := str_inj e
  simp at q
theorem bb_ne (t : Nat) {x y : List (BitVec 8)} (h : x ≠ y) : bKt t x ≠ bKt t y := fun e => by
  have q := str_inj e
  simp at q
  exact h q
theorem ll_ne (t : Nat) {x y x' y' : List (BitVec 8)} (hx : x.length = 20) (hx' : x'.length = 20) (h : ¬ (x = x' ∧ y = y')) : lKt t x y ≠ lKt t x' y' := fun e => by
  have q := str_inj e
  simp at q
  exact h (List.append_inj q (by rw [hx, hx']))
/-- What the keys of a token tell: the supply, who has how much, who may pull how much of whom. -/
structure Num (f : ByteArray → List (BitVec 8)) (t n : Nat) (bal : List (BitVec 8) → Nat) (al : List (BitVec 8) → List (BitVec 8) → Nat) : Prop where
  tok : f (tKt t) = 1#8 :: wB n
  bal : ∀ x, x.length = 20 → f (bKt t x) = enc (bal x)
  al : ∀ x y, x.length = 20 → y.length = 20 → f (lKt t x y) = enc (al x y)
/-- A ledger told by numbers. -/
def Led (w0 w : World) (S q t n : Nat) (bal : List (BitVec 8) → Nat) (al : List (BitVec 8) → List (BitVec 8) → Nat) : Prop := ∃ f, Lg w0 w S q f ∧ Num f t n bal al
def sB (bal : List (BitVec 8) → Nat) (x : List (BitVec 8)) (v : Nat) : List (BitVec 8) → Nat := fun z => if z = x then v else bal z
def sA (al : List (BitVec 8) → List (BitVec 8) → Nat) (x y : List (BitVec 8)) (v : Nat) : List (BitVec 8) → List (BitVec 8) → Nat := fun z u => if z = x ∧ u = y then v else al z u
def mB (bal : List (BitVec 8) → Nat) (x y : List (BitVec 8)) (b : Nat) : List (BitVec 8) → Nat := if x = y then bal else sB (sB bal x (bal x - b)) y (bal y + b)
section
variable {f : ByteArray → List (BitVec 8)} {t n : Nat} {bal : List (BitVec 8) → Nat} {al : List (BitVec 8) → List (BitVec 8) → Nat}
theorem Num.setT (h : Num f t n bal al) (m : Nat) : Num (upd f (tKt t) (1#8 :: wB m)) t m bal al :=
  ⟨by rw [upd_same], fun x hx => by rw [upd_other _ _ _ _ (Ne.symm (tb_ne t x))]; exact h.bal x hx, fun x y hx hy => by rw [upd_other _ _ _ _ (Ne.symm (tl_ne t x y))]; exact h.al x y hx hy⟩
theorem Num.setB (h : Num f t n bal al) (x : List (BitVec 8)) (v : Nat) : Num (upd f (bKt t x) (enc v)) t n (sB bal x v) al := by
  refine ⟨by rw [upd_other _ _ _ _ (tb_ne t x)]; exact h.tok, fun z hz => ?_, fun z u hz hu => by rw [upd_other _ _ _ _ (Ne.symm (bl_ne t x z u))]; exact h.al z u hz hu⟩
  unfold sB
  by_cases he : z = x
  · rw [if_pos he, he, upd_same]
  · rw [if_neg he, upd_other _ _ _ _ (bb_ne t he)]; exact h.bal z hz
theorem Num.setA (h : Num f t n bal al) (x y : List (BitVec 8)) (hx : x.length = 20) (v : Nat) : Num (upd f (lKt t x y) (enc v)) t n bal (sA al x y v) := by
  refine ⟨by rw [upd_other _ _ _ _ (tl_ne t x y)]; exact h.tok, fun z hz => by rw [upd_other _ _ _ _ (bl_ne t z x y)]; exact h.bal z hz, fun z u hz hu => ?_⟩
  unfold sA
  by_cases he : z = x ∧ u = y
  · rw [if_pos he, he.1, he.2, upd_same]
  · rw [if_neg he, upd_other _ _ _ _ (ll_ne t hz hx he)]; exact h.al z u hz hu
theorem Num.of (h : Num f t n bal al) {bal' : List (BitVec 8) → Nat} {al' : List (BitVec 8) → List (BitVec 8) → Nat} (hb : ∀ x, bal' x = bal x) (ha : ∀ x y, al' x y = al x y) : Num f t n bal' al' :=
  ⟨h.tok, fun x hx => by rw [hb]; exact h.bal x hx, fun x y hx hy => by rw [ha]; exact h.al x y hx hy⟩
end
theorem sB_id (bal : List (BitVec 8) → Nat) (x : List (BitVec 8)) (z : List (BitVec 8)) : sB bal x (bal x) z = bal z := by
  unfold sB; split
  · next h => rw [h]
  · rfl
theorem sA_id (al : List (BitVec 8) → List (BitVec 8) → Nat) (x y z u : List (BitVec 8)) : sA al x y (al x y) z u = al z u := by
  unfold sA; split
  · next h => rw [h.1, h.2]
  · rfl
theorem mB_zero (bal : List (BitVec 8) → Nat) (x y z : List (BitVec 8)) : mB bal x y 0 z = bal z := by
  unfold mB; split
  · rfl
  · rw [Nat.sub_zero, Nat.add_zero]
    unfold sB
    split
    · next h => rw [h]
    · split
      · next h => rw [h]
      · rfl
/-- The steps, told by numbers. -/
theorem regL (w0 : World) (S q t : Nat) (hq : q < 999900) (ht : t < 64) (w : World) (h : Lg w0 w S q (fun _ => [])) :
    Calls Tryd.prog 7 #[.pointer (some ⟨S, 0, none⟩), .int .i64 (t : Int)] w fun e w' => e = .returned (.int .i64 0) ∧ Led w0 w' S (q + 2) t 0 (fun _ => 0) (fun _ _ => 0) ∧ Kp w w' := by
  refine Calls.mono (regG w0 S q (fun _ => []) _ (by omega) t ht rfl rfl w h) ?_
  rintro e w' ⟨r, hG, hK⟩
  exact ⟨r, ⟨_, hG, ⟨upd_same _ _ _, fun x _ => by rw [upd_other _ _ _ _ (Ne.symm (tb_ne t x))]; rfl, fun x y _ _ => by rw [upd_other _ _ _ _ (Ne.symm (tl_ne t x y))]; rfl⟩⟩, hK⟩
theorem tsF_num {f : ByteArray → List (BitVec 8)} {t n : Nat} {bal : List (BitVec 8) → Nat} {al : List (BitVec 8) → List (BitVec 8) → Nat} (h : Num f t n bal al) (x : List (BitVec 8)) (n2 m : Nat) (hnm : n = n2 → bal x = m) : Num (tsF f t n n2 (bKt t x) m) t n2 (sB bal x m) al := by
  unfold tsF
  by_cases he : n = n2
  · rw [if_pos he, ← he]
    exact h.of (fun z => by rw [← hnm he]; exact sB_id bal x z) (fun _ _ => rfl)
  · rw [if_neg he]
    exact (h.setT n2).setB x m
theorem mntL (w0 : World) (S q t n : Nat) (bal : List (BitVec 8) → Nat) (al : List (BitVec 8) → List (BitVec 8) → Nat) (hq : q < 999900) (ht : t < 64) (b : Nat) (hn : n < 2 ^ 256) (hb : b < 2 ^ 256) (x : List (BitVec 8)) (hx : x.length = 20) (hd : bal x < 2 ^ 256) (hnb : n + b < 2 ^ 256) (hdb : bal x + b < 2 ^ 256) (LB : List Value) (hLB : LB = wq b) (w : World) (h : Led w0 w S q t n bal al) :
    Calls Tryd.prog 8 #[.pointer (some ⟨S, 0, none⟩), .int .i64 (t : Int), .agg (vB x).toArray, .agg LB.toArray] w fun e w' => e = .returned (.int .i64 0) ∧ Led w0 w' S (q + 4) t (n + b) (sB bal x (bal x + b)) al ∧ Kp w w' := by
  obtain ⟨f, hG, hN⟩ := h
  refine Calls.mono (mntG w0 S q f (by omega) t ht n b (bal x) hn hb hd hnb hdb hN.tok x hx (hN.bal x hx) LB hLB w hG) ?_
  rintro e w' ⟨r, hG, hK⟩
  exact ⟨r, ⟨_, hG, tsF_num hN x _ _ (fun e => by omega)⟩, hK⟩
theorem brnL (w0 : World) (S q t n : Nat) (bal : List (BitVec 8) → Nat) (al : List (BitVec 8) → List (BitVec 8) → Nat) (hq : q < 999900) (ht : t < 64) (b : Nat) (hn : n < 2 ^ 256) (hb : b < 2 ^ 256) (x : List (BitVec 8)) (hx : x.length = 20) (hd : bal x < 2 ^ 256) (hnb : b ≤ n) (hdb : b ≤ bal x) (LB : List Value) (hLB : LB = wq b) (w : World) (h : Led w0 w S q t n bal al) :
    Calls Tryd.prog 15 #[.pointer (some ⟨S, 0, none⟩), .int .i64 (t : Int), .agg (vB x).toArray, .agg LB.toArray] w fun e w' => e = .returned (.int .i64 0) ∧ Led w0 w' S (q + 4) t (n - b) (sB bal x (bal x - b)) al ∧ Kp w w' := by
  obtain ⟨f, hG, hN⟩ := h
  refine Calls.mono (brnG w0 S q f (by omega) t ht n b (bal x) hn hb hd hnb hdb hN.tok x hx (hN.bal x hx) LB hLB w hG) ?_
  rintro e w' ⟨r, hG, hK⟩
  exact ⟨r, ⟨_, hG, tsF_num hN x _ _ (fun e => by omega)⟩, hK⟩
theorem tokL (w0 : World) (S q t n : Nat) (bal : List (BitVec 8) → Nat) (al : List (BitVec 8) → List (BitVec 8) → Nat) (hq : q < 999900) (ht : t < 64) (hn : n < 2 ^ 256) (LT : List Value) (hLT : LT = tkl true false n) (w : World) (h : Led w0 w S q t n bal al) :
    Calls Tryd.prog 16 #[.pointer (some ⟨S, 0, none⟩), .int .i64 (t : Int)] w fun e w' => e = .returned (.tuple #[.agg LT.toArray, .int .i64 0]) ∧ Led w0 w' S (q + 1) t n bal al ∧ Kp w w' := by
  obtain ⟨f, hG, hN⟩ := h
  refine Calls.mono (tokG w0 S q f (by omega) t ht n hn hN.tok LT hLT w hG) ?_
  rintro e w' ⟨r, hG, hK⟩
  exact ⟨r, ⟨_, hG, hN⟩, hK⟩
theorem balL (w0 : World) (S q t n : Nat) (bal : List (BitVec 8) → Nat) (al : List (BitVec 8) → List (BitVec 8) → Nat) (hq : q < 999900) (ht : t < 64) (x : List (BitVec 8)) (hx : x.length = 20) (a : Nat) (ha : bal x = a) (hd : a < 2 ^ 256) (LA : List Value) (hLA : LA = wq a) (w : World) (h : Led w0 w S q t n bal al) :
    Calls Tryd.prog 11 #[.pointer (some ⟨S, 0, none⟩), .int .i64 (t : Int), .agg (vB x).toArray] w fun e w' => e = .returned (.tuple #[.agg LA.toArray, .int .i64 0]) ∧ Led w0 w' S (q + 1) t n bal al ∧ Kp w w' := by
  obtain ⟨f, hG, hN⟩ := h
  refine Calls.mono (balG w0 S q f (by omega) t ht x hx a hd (by rw [← ha]; exact hN.bal x hx) LA hLA w hG) ?_
  rintro e w' ⟨r, hG, hK⟩
  exact ⟨r, ⟨_, hG, hN⟩, hK⟩
theorem aldL (w0 : World) (S q t n : Nat) (bal : List (BitVec 8) → Nat) (al : List (BitVec 8) → List (BitVec 8) → Nat) (hq : q < 999900) (ht : t < 64) (x y : List (BitVec 8)) (hx : x.length = 20) (hy : y.length = 20) (a : Nat) (ha : al x y = a) (hd : a < 2 ^ 256) (LA : List Value) (hLA : LA = wq a) (w : World) (h : Led w0 w S q t n bal al) :
    Calls Tryd.prog 14 #[.pointer (some ⟨S, 0, none⟩), .int .i64 (t : Int), .agg (vB x).toArray, .agg (vB y).toArray] w fun e w' => e = .returned (.tuple #[.agg LA.toArray, .int .i64 0]) ∧ Led w0 w' S (q + 1) t n bal al ∧ Kp w w' := by
  obtain ⟨f, hG, hN⟩ := h
  refine Calls.mono (aldG w0 S q f (by omega) t ht x y hx hy a hd (by rw [← ha]; exact hN.al x y hx hy) LA hLA w hG) ?_
  rintro e w' ⟨r, hG, hK⟩
  exact ⟨r, ⟨_, hG, hN⟩, hK⟩
theorem alwL (w0 : World) (S q t n : Nat) (bal : List (BitVec 8) → Nat) (al : List (BitVec 8) → List (BitVec 8) → Nat) (hq : q < 999900) (ht : t < 64) (hn : n < 2 ^ 256) (x y : List (BitVec 8)) (hx : x.length = 20) (hy : y.length = 20) (b : Nat) (hb : b < 2 ^ 256) (LB : List Value) (hLB : LB = wq b) (w : World) (h : Led w0 w S q t n bal al) :
    Calls Tryd.prog 13 #[.pointer (some ⟨S, 0, none⟩), .int .i64 (t : Int), .agg (vB x).toArray, .agg (vB y).toArray, .agg LB.toArray] w fun e w' => e = .returned (.int .i64 0) ∧ Led w0 w' S (q + 2) t n bal (sA al x y b) ∧ Kp w w' := by
  obtain ⟨f, hG, hN⟩ := h
  refine Calls.mono (alwG w0 S q f _ (by omega) n hn t ht x y hx hy b hb hN.tok rfl LB hLB w hG) ?_
  rintro e w' ⟨r, hG, hK⟩
  exact ⟨r, ⟨_, hG, hN.setA x y hx b⟩, hK⟩
theorem movLN (w0 : World) (S q t n : Nat) (bal : List (BitVec 8) → Nat) (al : List (BitVec 8) → List (BitVec 8) → Nat) (hq : q < 999900) (ht : t < 64) (hn : n < 2 ^ 256) (x y : List (BitVec 8)) (hx : x.length = 20) (hy : y.length = 20) (b : Nat) (hb : b < 2 ^ 256) (hab : bal x < b) (LB : List Value) (hLB : LB = wq b) (w : World) (h : Led w0 w S q t n bal al) :
    Calls Tryd.prog 9 #[.pointer (some ⟨S, 0, none⟩), .int .i64 (t : Int), .agg (vB x).toArray, .agg (vB y).toArray, .agg LB.toArray] w fun e w' => e = .returned (.int .i64 85) ∧ Led w0 w' S (q + 5) t n bal al ∧ Kp w w' := by
  obtain ⟨f, hG, hN⟩ := h
  refine Calls.mono (moveN w0 S q f (by omega) n hn t ht x y hx hy (bal x) b (by omega) hb (hN.bal x hx) hN.tok hab LB hLB w hG) ?_
  rintro e w' ⟨r, hG, hK⟩
  exact ⟨r, ⟨_, hG.mono (by omega), hN⟩, hK⟩
theorem movL (w0 : World) (S q t n : Nat) (bal : List (BitVec 8) → Nat) (al : List (BitVec 8) → List (BitVec 8) → Nat) (hq : q < 999900) (ht : t < 64) (hn : n < 2 ^ 256) (x y : List (BitVec 8)) (hx : x.length = 20) (hy : y.length = 20) (b : Nat) (hb : b < 2 ^ 256) (ha : bal x < 2 ^ 256) (hd : bal y < 2 ^ 256) (hab : b ≤ bal x) (hdb : x ≠ y → bal y + b < 2 ^ 256) (LB : List Value) (hLB : LB = wq b) (w : World) (h : Led w0 w S q t n bal al) :
    Calls Tryd.prog 9 #[.pointer (some ⟨S, 0, none⟩), .int .i64 (t : Int), .agg (vB x).toArray, .agg (vB y).toArray, .agg LB.toArray] w fun e w' => e = .returned (.int .i64 0) ∧ Led w0 w' S (q + 5) t n (mB bal x y b) al ∧ Kp w w' := by
  obtain ⟨f, hG, hN⟩ := h
  by_cases hz : x = y ∨ b = 0
  · refine Calls.mono (move0 w0 S q f (by omega) n hn t ht x y hx hy (bal x) b ha hb (hN.bal x hx) hN.tok hab hz (bal y) hd (hN.bal y hy) LB hLB w hG) ?_
    rintro e w' ⟨r, hG, hK⟩
    refine ⟨r, ⟨_, hG.mono (by omega), hN.of (fun z => ?_) (fun _ _ => rfl)⟩, hK⟩
    rcases hz with he | he
    · unfold mB; rw [if_pos he]
    · rw [he]; exact mB_zero bal x y z
  · have hne : x ≠ y := fun e => hz (.inl e)
    refine Calls.mono (moveG w0 S q f (by omega) n hn t ht x y hx hy (bal x) b ha hb (hN.bal x hx) hN.tok _ _ hab (fun e => hz (.inr e)) hne (bal y) hd (hdb hne) (hN.bal y hy) rfl rfl LB hLB w hG) ?_
    rintro e w' ⟨r, hG, hK⟩
    refine ⟨r, ⟨_, hG, ?_⟩, hK⟩
    unfold mB
    rw [if_neg hne]
    exact (hN.setB x _).setB y _
theorem pulLN (w0 : World) (S q t n : Nat) (bal : List (BitVec 8) → Nat) (al : List (BitVec 8) → List (BitVec 8) → Nat) (hq : q < 999900) (ht : t < 64) (hn : n < 2 ^ 256) (z x y : List (BitVec 8)) (hz : z.length = 20) (hx : x.length = 20) (hy : y.length = 20) (b : Nat) (hb : b < 2 ^ 256) (hlb : al x z < b) (LB : List Value) (hLB : LB = wq b) (w : World) (h : Led w0 w S q t n bal al) :
    Calls Tryd.prog 12 #[.pointer (some ⟨S, 0, none⟩), .int .i64 (t : Int), .agg (vB z).toArray, .agg (vB x).toArray, .agg (vB y).toArray, .agg LB.toArray] w fun e w' => e = .returned (.int .i64 86) ∧ Led w0 w' S (q + 7) t n bal al ∧ Kp w w' := by
  obtain ⟨f, hG, hN⟩ := h
  refine Calls.mono (pullN w0 S q f (by omega) n hn t ht z x y hz hx hy b (al x z) hb (by omega) hN.tok (hN.al x z hx hz) hlb LB hLB w hG) ?_
  rintro e w' ⟨r, hG, hK⟩
  exact ⟨r, ⟨_, hG.mono (by omega), hN⟩, hK⟩
theorem pulL (w0 : World) (S q t n : Nat) (bal : List (BitVec 8) → Nat) (al : List (BitVec 8) → List (BitVec 8) → Nat) (hq : q < 999900) (ht : t < 64) (hn : n < 2 ^ 256) (z x y : List (BitVec 8)) (hz : z.length = 20) (hx : x.length = 20) (hy : y.length = 20) (b : Nat) (hb : b < 2 ^ 256) (hl : al x z < 2 ^ 256) (hlb : b ≤ al x z) (ha : bal x < 2 ^ 256) (hd : bal y < 2 ^ 256) (hab : b ≤ bal x) (hdb : x ≠ y → bal y + b < 2 ^ 256) (LB : List Value) (hLB : LB = wq b) (w : World) (h : Led w0 w S q t n bal al) :
    Calls Tryd.prog 12 #[.pointer (some ⟨S, 0, none⟩), .int .i64 (t : Int), .agg (vB z).toArray, .agg (vB x).toArray, .agg (vB y).toArray, .agg LB.toArray] w fun e w' => e = .returned (.int .i64 0) ∧ Led w0 w' S (q + 7) t n (mB bal x y b) (sA al x z (al x z - b)) ∧ Kp w w' := by
  obtain ⟨f, hG, hN⟩ := h
  by_cases hb0 : b = 0
  · refine Calls.mono (pull0 w0 S q f (by omega) n hn t ht z x y hz hx hy b (al x z) hb hl hN.tok (hN.al x z hx hz) hb0 (bal x) ha (hN.bal x hx) (bal y) hd (hN.bal y hy) LB hLB w hG) ?_
    rintro e w' ⟨r, hG, hK⟩
    refine ⟨r, ⟨_, hG.mono (by omega), hN.of (fun u => ?_) (fun u v => ?_)⟩, hK⟩
    · rw [hb0]; exact mB_zero bal x y u
    · rw [hb0, Nat.sub_zero]; exact sA_id al x z u v
  · by_cases he : x = y
    · refine Calls.mono (pullS w0 S q f (by omega) n hn t ht z x y hz hx hy b (al x z) hb hl hN.tok (hN.al x z hx hz) _ hlb hb0 he (bal x) ha hab (hN.bal x hx) rfl LB hLB w hG) ?_
      rintro e w' ⟨r, hG, hK⟩
      refine ⟨r, ⟨_, hG.mono (by omega), ?_⟩, hK⟩
      unfold mB
      rw [if_pos he]
      exact hN.setA x z hx _
    · refine Calls.mono (pullG w0 S q f (by omega) n hn t ht z x y hz hx hy b (al x z) hb hl hN.tok (hN.al x z hx hz) _ _ _ hlb hb0 he (bal x) ha hab (hN.bal x hx) (bal y) hd (hdb he) (hN.bal y hy) rfl rfl rfl LB hLB w hG) ?_
      rintro e w' ⟨r, hG, hK⟩
      refine ⟨r, ⟨_, hG, ?_⟩, hK⟩
      unfold mB
      rw [if_neg he]
      exact ((hN.setA x z hx _).setB x _).setB y _
theorem Led.be {w0 w w' : World} {S q t n : Nat} {bal : List (BitVec 8) → Nat} {al : List (BitVec 8) → List (BitVec 8) → Nat} (h : Led w0 w S q t n bal al) (hB : Below w.heap.size w w') : Led w0 w' S q t n bal al := by
  obtain ⟨f, hG, hN⟩ := h
  exact ⟨f, hG.be hB, hN⟩
theorem Led.bel {w0 w : World} {S q t n : Nat} {bal : List (BitVec 8) → Nat} {al : List (BitVec 8) → List (BitVec 8) → Nat} (h : Led w0 w S q t n bal al) : Below w0.heap.size w0 w := by
  obtain ⟨f, hG, hN⟩ := h
  exact hG.bel

end Go.Proofs.YtelioddogdcdoaaDoor
