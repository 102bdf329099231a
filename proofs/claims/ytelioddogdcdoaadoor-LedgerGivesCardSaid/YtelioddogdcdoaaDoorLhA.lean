/-
  any amounts: their cells; keys of any token.
-/
import Derived.Test.YtelioddogdcdoaaDoorWVU
import Derived.Test.YtelioddogdcdoaaDoorWRdM
import Derived.Test.YtelioddogdcdoaaDoorLgC
import Derived.Test.YtelioddogdcdoaaDoorWRd
import Derived.Test.YtelioddogdcdoaaDoorWEq
import Derived.Test.YtelioddogdcdoaaDoorWMul0
import Derived.Great.BuildSlice
import Derived.Deep.CutRange

namespace Go.Proofs.YtelioddogdcdoaaDoor
open Go Go.RowKit
open Wd

set_option maxRecDepth 100000 in
set_option maxHeartbeats 2000000 in
theorem bytes_any (a : Nat) (w : World) :
    Calls Tryd.prog 43 #[.agg (vQ (dgs a 4)).toArray] w fun e w' => ∃ N, w.heap.size ≤ N ∧ Row w' N (vU (bl a)) 5 ∧ e = .returned (.slice (some ⟨N, 0, none⟩) 32 32) ∧ Below w.heap.size w w' := by
  go_enter Tryd.func43, Tryd.ntmps43
  go_wp2_with (refine wpList_make_u rfl 52 (.const (.int .i64 32)) (.const (.int .i64 32)) rfl 5 32 _ _ rfl rfl rfl rfl (by decide) Tryd.underlying52 info_all_u8 ?_; simp only [Act.put, List.setIfInBounds_toArray, List.set_cons_zero, List.set_cons_succ])
  go_loopw [4, 8] (fun _ iv wr => ∃ t : Nat, t ≤ 32 ∧ iv = .int .i64 (t : Int) ∧ Below w.heap.size w wr ∧ Row wr w.heap.size (vQ (dgs a 4)) 25 ∧ Row wr (w.heap.size + 1) (vU (List.replicate (32 - t) 0 ++ rx (by8 a) t)) 5) (fun _ iv _ => 32 - (intOf iv).toNat)
  case atStart =>
    refine ⟨0, by omega, rfl, ((Below.refl _ _).alloc (Nat.le_refl _) _).alloc (by simp) _, (Row.new' rfl rfl).alloc _, ?_⟩
    exact Row.new' (by simp) rfl
  case round =>
    obtain ⟨t, ht, rfl, hb, h1, h3⟩ := hrel
    by_cases hlt : t < 32
    · have hq : t / 8 < 4 := by omega
      have g1 := h1.cell (t / 8) _ (vQ_get _ (t / 8) (by rw [dgs_length]; exact hq))
      rw [dgs_getD _ _ _ hq] at g1
      have hlen : (List.replicate (32 - t) 0 ++ rx (by8 a) t).length = 32 := by rw [List.length_append, List.length_replicate, rx_length]; omega
      have g3 := h3.cell (31 - t) _ (vU_get _ (31 - t) (by rw [hlen]; omega))
      have gf := h3.thaw (31 - t)
      have hby := by8_lim a t
      have hbl := by8_lt a t
      have hx := lim_lt a (t / 8)
      have e1 : (t : Int) / 8 = ((t / 8 : Nat) : Int) := by omega
      have e2 : (t : Int) % 8 = ((t % 8 : Nat) : Int) := by omega
      generalize (List.replicate (32 - t) 0 ++ rx (by8 a) t).getD (31 - t) 0 = z at g3
      generalize lim a (t / 8) = x at *
      obtain ⟨q, hqe⟩ : ∃ q, q = t / 8 := ⟨_, rfl⟩
      obtain ⟨r0, hr0⟩ : ∃ r0, r0 = t % 8 := ⟨_, rfl⟩
      obtain ⟨r, hre⟩ : ∃ r, r = r0 * 8 := ⟨_, rfl⟩
      obtain ⟨j, hj⟩ : ∃ j, j = 31 - t := ⟨_, rfl⟩
      rw [← hqe] at g1 e1 hq
      rw [← hr0] at e2 hby
      rw [← hre] at hby
      rw [← hj] at g3 gf
      have e3 : (r0 : Int) * 8 = (r : Int) := by omega
      have e4 : (31 : Int) - (t : Int) = (j : Int) := by omega
      have lr : (r : Int) ≤ 56 := by omega
      have lr' : r < 64 := by omega
      have lj : (j : Int) < 32 := by omega
      have lj' : j < 32 := by omega
      have lq : (q : Int) < 4 := by omega
      have eK : (x : Int) / 2 ^ r = ((x / 2 ^ r : Nat) : Int) := by simp
      obtain ⟨y, hy⟩ : ∃ y, y = x / 2 ^ r := ⟨_, rfl⟩
      rw [← hy] at eK hby
      obtain ⟨d, hd⟩ : ∃ d, d = by8 a t := ⟨_, rfl⟩
      rw [← hd] at hby hbl
      have eA : IntKind.u8.wrap (y : Int) = (d : Int) := by rw [IntKind.wrap_u8]; omega
      have HJ : Hid (j = 31 - t ∧ d = by8 a t) := ⟨hj, hd⟩
      clear hqe hre hr0 hy hby hx ht hj hd hlen hbl
      go_wp2
      refine ⟨⟨t + 1, hlt, by go_num, Below.setCell hb (by simp) _, h1.set_other _ _ _ (by omega), ?_⟩, by simp [intOf]; omega⟩
      have := h3.set j (.int .u8 (d : Int))
      rw [vU_set, HJ.out.1, HJ.out.2, show 31 - t = 32 - 1 - t from rfl, rx_fill (by8 a) t 32 hlt] at this
      rw [HJ.out.1, HJ.out.2]
      exact this
    · have et : t = 32 := by omega
      have e4 : (t : Int) = 32 := by omega
      rw [et, Nat.sub_self, List.replicate_zero, List.nil_append] at h3
      rw [e4]
      clear et e4 ht hlt
      go_wp2
      go_ret
      exact ⟨w.heap.size + 1, by omega, h3, by simp, hb⟩

end Go.Proofs.YtelioddogdcdoaaDoor

namespace Go.Proofs.YtelioddogdcdoaaDoor
open Go Go.RowKit Go.Maps
open Sha
open Wd

/-- An amount's bytes. -/
def wB (n : Nat) : List (BitVec 8) := (bl n).map (BitVec.ofNat 8)
theorem wB_len (n : Nat) : (wB n).length = 32 := by unfold wB; rw [List.length_map, bl_length]
theorem wB_vU (n : Nat) : vB (wB n) = vU (bl n) := by
  unfold wB vB vU
  rw [List.map_map]
  refine List.map_congr_left (fun x hx => ?_)
  simp only [Function.comp_apply, c, BitVec.toNat_ofNat]
  rw [Nat.mod_eq_of_lt (bl_lt n x hx)]
/-- An amount's cells. -/
def wq (a : Nat) : List Value := vQ (dgs a 4)
theorem wq_len (a : Nat) : (wq a).length = 4 := by unfold wq; rw [vQ, List.length_map, dgs_length]
theorem wq_one (a : Nat) : (wq a).toArray.all (·.oneCell') = true := by
  rw [← Array.all_toList]
  refine List.all_eq_true.2 (fun v hv => ?_)
  obtain ⟨x, _, rfl⟩ := List.mem_map.1 hv
  rfl
theorem wq_cells (a : Nat) : wq a = [.int .u64 ((lim a 0 : Nat) : Int), .int .u64 ((lim a 1 : Nat) : Int), .int .u64 ((lim a 2 : Nat) : Int), .int .u64 ((lim a 3 : Nat) : Int)] := rfl
theorem wq_zero : wq 0 = [.int .u64 0, .int .u64 0, .int .u64 0, .int .u64 0] := by
  rw [wq_cells, show lim 0 0 = 0 by decide +kernel, show lim 0 1 = 0 by decide +kernel, show lim 0 2 = 0 by decide +kernel, show lim 0 3 = 0 by decide +kernel]
  rfl
/-- A token's cells. -/
def tkl (th pa : Bool) (a : Nat) : List Value := .bool th :: .bool pa :: wq a
/-- A line's cells. -/
def lnl (s : ByteArray) (a : Nat) : List Value := .string s :: wq a
/-- A page's cells. -/
def pgl (S t : Nat) : List Value := [.pointer (some ⟨S, 0, none⟩), .int .u8 (t : Int)]
theorem tkl_len (th pa : Bool) (a : Nat) : (tkl th pa a).length = 6 := by unfold tkl; rw [List.length_cons, List.length_cons, wq_len]
theorem lnl_len (s : ByteArray) (a : Nat) : (lnl s a).length = 5 := by unfold lnl; rw [List.length_cons, wq_len]
theorem tkl_one (th pa : Bool) (a : Nat) : (tkl th pa a).toArray.all (·.oneCell') = true := by
  rw [← Array.all_toList]
  unfold tkl
  have := wq_one a
  rw [← Array.all_toList] at this
  rw [List.all_cons, List.all_cons, this]
  rfl
theorem lnl_one (s : ByteArray) (a : Nat) : (lnl s a).toArray.all (·.oneCell') = true := by
  rw [← Array.all_toList]
  unfold lnl
  have := wq_one a
  rw [← Array.all_toList] at this
  rw [List.all_cons, this]
  rfl
theorem pgl_one (S t : Nat) : (pgl S t).toArray.all (·.oneCell') = true := by
  rw [← Array.all_toList]
  rfl
theorem info_wq (a : Nat) : (Tryd.prog.info? 25).map (·.size) = some (wq a).length := by rw [wq_len]; kernel_rfl
theorem info_tkl (th pa : Bool) (a : Nat) : (Tryd.prog.info? 44).map (·.size) = some (tkl th pa a).length := by rw [tkl_len]; kernel_rfl
theorem info_lnl (s : ByteArray) (a : Nat) : (Tryd.prog.info? 65).map (·.size) = some (lnl s a).length := by rw [lnl_len]; kernel_rfl
theorem info_pgl (S t : Nat) : (Tryd.prog.info? 58).map (·.size) = some (pgl S t).length := by kernel_rfl
section
variable {w : World} {b : Nat} {t : TypeId}
theorem range_tail {x : List Value} {k : Nat} {p : List Value} (r : Row w b (p ++ x) t) (hp : p.length = k) : w.rangeAt b k x := r.range k _ (fun j v hj => by rw [List.getElem?_append_right (by omega), hp, Nat.add_sub_cancel_left]; exact hj)
theorem tkl_am {th pa : Bool} {a : Nat} (r : Row w b (tkl th pa a) t) : w.rangeAt b 2 (wq a) := range_tail (p := [.bool th, .bool pa]) r rfl
theorem lnl_am {s : ByteArray} {a : Nat} (r : Row w b (lnl s a) t) : w.rangeAt b 1 (wq a) := range_tail (p := [.string s]) r rfl
theorem lnl_s {s : ByteArray} {a : Nat} (r : Row w b (lnl s a) t) : w.cell? ⟨b, 0, none⟩ = some (.string s) := r.cell 0 _ rfl
theorem tkl_set {th pa : Bool} {a c : Nat} (r : Row w b (tkl th pa a) t) : Row (w.setCells b 2 (wq c)) b (tkl th pa c) t := by
  have q := Row.setCells 2 (wq c) r (by rw [wq_len, tkl_len]; decide)
  have e : (tkl th pa a).take 2 ++ wq c ++ (tkl th pa a).drop (2 + (wq c).length) = tkl th pa c := by
    rw [wq_len, List.drop_eq_nil_of_le (by rw [tkl_len]; decide), List.append_nil]
    rfl
  rw [e] at q
  exact q
end
section
variable (w : World)
theorem addG (a b : Nat) (ha : a < 2 ^ 256) (hb : b < 2 ^ 256) (h : a + b < 2 ^ 256) : Calls Tryd.prog 24 #[.agg (wq a).toArray, .agg (wq b).toArray] w fun e w' => e = .returned (.tuple #[.agg (wq (a + b)).toArray, .int .i64 0]) ∧ Below w.heap.size w w' := by
  have q := add_any a b ha hb w
  unfold addR addE at q
  rw [if_pos h, if_pos h] at q
  exact q
theorem subG (a b : Nat) (ha : a < 2 ^ 256) (hb : b ≤ a) : Calls Tryd.prog 37 #[.agg (wq a).toArray, .agg (wq b).toArray] w fun e w' => e = .returned (.tuple #[.agg (wq (a - b)).toArray, .int .i64 0]) ∧ Below w.heap.size w w' := by
  have q := sub_any a b ha (Nat.lt_of_le_of_lt hb ha) w
  unfold subR subE at q
  rw [if_neg (by omega), if_neg (by omega)] at q
  exact q
theorem subNG (a b : Nat) (h : a < b) (hb : b < 2 ^ 256) : Calls Tryd.prog 37 #[.agg (wq a).toArray, .agg (wq b).toArray] w fun e w' => e = .returned (.tuple #[.agg (wq 0).toArray, .int .i64 23]) ∧ Below w.heap.size w w' := by
  have q := sub_any a b (Nat.lt_trans h hb) hb w
  unfold subR subE at q
  rw [if_pos h, if_pos h] at q
  exact q
theorem zeroG (a : Nat) (h : a < 2 ^ 256) (B : Bool) (hB : decide (a = 0) = B) : Calls Tryd.prog 36 #[.agg (wq a).toArray] w fun e w' => e = .returned (.bool B) ∧ Below w.heap.size w w' := by
  have q := isZero_any a h w
  rw [hB] at q
  exact q
theorem bytesG (a : Nat) : Calls Tryd.prog 43 #[.agg (wq a).toArray] w fun e w' => ∃ N, w.heap.size ≤ N ∧ Row w' N (vB (wB a)) 5 ∧ e = .returned (.slice (some ⟨N, 0, none⟩) 32 32) ∧ Below w.heap.size w w' := by
  have q := bytes_any a w
  rw [← wB_vU] at q
  exact q
theorem readG (a : Nat) (h : a < 2 ^ 256) (g o cap : Nat) (hr : w.rangeAt g o (vB (wB a))) : Calls Tryd.prog 48 #[.slice (some ⟨g, o, none⟩) 32 cap] w fun e w' => e = .returned (.tuple #[.agg (wq a).toArray, .int .i64 0]) ∧ Below w.heap.size w w' := by
  have hby : By w (some ⟨g, o, none⟩) (bl a) := fun i hi => by
    have hg : (vB (wB a))[i]? = some (.int .u8 (((bl a).getD i 0 : Nat) : Int)) := by rw [wB_vU]; exact vU_get (bl a) i hi
    have q := hr i _ hg
    exact ⟨g, o, rfl, q, World.block_lt_of_cell? w _ q⟩
  have q := read_by (bl a) (bl_lt a) (some ⟨g, o, none⟩) cap w hby
  unfold rdR rdE at q
  rw [if_pos (bl_length a), if_pos (bl_length a), rdn_bl a h, bl_length] at q
  exact q
end
/-- What stands where an amount is kept. -/
def enc (a : Nat) : List (BitVec 8) := if a = 0 then [] else wB a
/-- Keys: of a token, of a balance, of an allowance. -/
def tKt (t : Nat) : ByteArray := str [116#8, BitVec.ofNat 8 t]
def bKt (t : Nat) (who : List (BitVec 8)) : ByteArray := str ([98#8, BitVec.ofNat 8 t] ++ who)
def lKt (t : Nat) (x y : List (BitVec 8)) : ByteArray := str ([108#8, BitVec.ofNat 8 t] ++ x ++ y)
theorem c_tk {t : Nat} (h : t < 64) : c (BitVec.ofNat 8 t) = (t : Int) := by
  unfold c
  rw [BitVec.toNat_ofNat, Nat.mod_eq_of_lt (by omega)]
theorem str_sz (l : List (BitVec 8)) : (str l).size = l.length := by unfold str; rw [strOfNums_size]; simp
theorem tKt_key (t : Nat) : isK (tKt t).size = true := by unfold tKt; rw [str_sz]; rfl
theorem bKt_key (t : Nat) {who : List (BitVec 8)} (h : who.length = 20) : isK (bKt t who).size = true := by unfold bKt; rw [str_sz, List.length_append, h]; rfl
theorem lKt_key (t : Nat) {x y : List (BitVec 8)} (h1 : x.length = 20) (h2 : y.length = 20) : isK (lKt t x y).size = true := by unfold lKt; rw [str_sz, List.length_append, List.length_append, h1, h2]; rfl
theorem keyT (S t : Nat) (ht : t < 64) (w : World) : Calls Tryd.prog 40 #[.agg (pgl S t).toArray, .string ⟨#[116]⟩, .slice none 0 0] w fun e w' => e = .returned (.string (tKt t)) ∧ Below w.heap.size w w' := by
  have q := key0 S (BitVec.ofNat 8 t) 116 116#8 rfl _ rfl w
  rw [c_tk ht] at q
  exact q
theorem keyB (S t : Nat) (ht : t < 64) (who : List (BitVec 8)) (hw : who.length = 20) (g : Nat) (w : World) (hg : Row w g (vB who) 33) : Calls Tryd.prog 40 #[.agg (pgl S t).toArray, .string ⟨#[98]⟩, .slice (some ⟨g, 0, none⟩) 1 1] w fun e w' => e = .returned (.string (bKt t who)) ∧ Below w.heap.size w w' := by
  have q := key1 S (BitVec.ofNat 8 t) 98 98#8 rfl who hw g _ rfl w hg
  rw [c_tk ht] at q
  exact q

end Go.Proofs.YtelioddogdcdoaaDoor
