/-
  Small laws on rows of cells in memory, in the forms that the walks meet.
-/
import Derived.WalkKit
import Derived.Deep.Draws
import Derived.Deep.MidRow

namespace Go.Proofs.YtclbiophgnkggaaGreatDoor
open Go
namespace Sha

/-- A word as the number in a slot. -/
def u (x : BitVec 32) : Int := (x.toNat : Int)
/-- A byte as the number in a slot. -/
def c (x : BitVec 8) : Int := (x.toNat : Int)

theorem u_nonneg (x : BitVec 32) : 0 ≤ u x := by unfold u; omega
theorem u_lt (x : BitVec 32) : u x < 4294967296 := by unfold u; have := x.isLt; omega
theorem c_nonneg (x : BitVec 8) : 0 ≤ c x := by unfold c; omega
theorem c_lt (x : BitVec 8) : c x < 256 := by unfold c; have := x.isLt; omega
theorem u_inj {x y : BitVec 32} (h : u x = u y) : x = y := by unfold u at h; exact BitVec.eq_of_toNat_eq (by omega)
theorem c_inj {x y : BitVec 8} (h : c x = c y) : x = y := by unfold c at h; exact BitVec.eq_of_toNat_eq (by omega)

def rotr (x : BitVec 32) (n : Nat) : BitVec 32 := x >>> n ||| x <<< (32 - n)

theorem wrap_add (x y : BitVec 32) : IntKind.u32.wrap (u x + u y) = u (x + y) := by
  rw [IntKind.wrap_u32']; unfold u; rw [BitVec.toNat_add]; omega
theorem bits_xor (x y : BitVec 32) : bits .xor .u32 (u x) (u y) = u (x ^^^ y) := by
  unfold u; rw [u32_xor_nat _ _ x.isLt y.isLt, BitVec.toNat_xor]
theorem bits_and (x y : BitVec 32) : bits .and .u32 (u x) (u y) = u (x &&& y) := by
  unfold u; rw [u32_and_nat _ _ x.isLt y.isLt, BitVec.toNat_and]
theorem bits_or (x y : BitVec 32) : bits .or .u32 (u x) (u y) = u (x ||| y) := by
  unfold u; rw [u32_or_nat _ _ x.isLt y.isLt, BitVec.toNat_or]
theorem u_shr (x : BitVec 32) (n : Nat) : u x / 2 ^ n = u (x >>> n) := by
  unfold u; rw [BitVec.toNat_ushiftRight, Nat.shiftRight_eq_div_pow]; simp
theorem u_shl (x : BitVec 32) (n : Nat) : IntKind.u32.wrap (u x * 2 ^ n) = u (x <<< n) := by
  rw [IntKind.wrap_u32']; unfold u; rw [BitVec.toNat_shiftLeft, Nat.shiftLeft_eq]; simp
theorem mod_add (x y : BitVec 32) : (u x + u y) % 4294967296 = u (x + y) := by rw [← IntKind.wrap_u32', wrap_add]
theorem u_div (x : BitVec 32) (n : Nat) (m : Int) (h : m = 2 ^ n) : u x / m = u (x >>> n) := by rw [h, u_shr]
theorem u_not (x : BitVec 32) : bits .xor .u32 4294967295 (u x) = u (~~~x) := by
  have h : (4294967295 : Int) = u (BitVec.allOnes 32) := by unfold u; decide
  rw [h, bits_xor, BitVec.allOnes_xor]

theorem u_not' (x : BitVec 32) : bits .xor .u32 (if IntKind.u32.signed = true then -1 else IntKind.u32.max) (u x) = u (~~~x) := u_not x
theorem u_lt_nat (x : BitVec 32) : (u x).toNat < 4294967296 := by have := u_lt x; omega

/-! ### One piece -/
def s0 (x : BitVec 32) : BitVec 32 := rotr x 7 ^^^ rotr x 18 ^^^ (x >>> 3)
def s1 (x : BitVec 32) : BitVec 32 := rotr x 17 ^^^ rotr x 19 ^^^ (x >>> 10)
def b0 (x : BitVec 32) : BitVec 32 := rotr x 2 ^^^ rotr x 13 ^^^ rotr x 22
def b1 (x : BitVec 32) : BitVec 32 := rotr x 6 ^^^ rotr x 11 ^^^ rotr x 25
def ch (e f g : BitVec 32) : BitVec 32 := (e &&& f) ^^^ (~~~e &&& g)
def maj (a b c : BitVec 32) : BitVec 32 := (a &&& b) ^^^ (a &&& c) ^^^ (b &&& c)

/-- The next word of the schedule, of the last sixteen. -/
def nextw (l : List (BitVec 32)) (t : Nat) : BitVec 32 := s1 (l.getD (t - 2) 0) + l.getD (t - 7) 0 + s0 (l.getD (t - 15) 0) + l.getD (t - 16) 0
/-- The schedule, k words further. -/
def sch (p : List (BitVec 32)) : Nat → List (BitVec 32)
  | 0 => p
  | k + 1 => sch p k ++ [nextw (sch p k) (16 + k)]
theorem sch_length (p : List (BitVec 32)) (k : Nat) : (sch p k).length = p.length + k := by
  induction k with
  | zero => rfl
  | succ k ih => simp [sch, ih, Nat.add_assoc]

/-- The constants. -/
def K : List (BitVec 32) := [1116352408#32, 1899447441#32, 3049323471#32, 3921009573#32, 961987163#32, 1508970993#32, 2453635748#32, 2870763221#32, 3624381080#32, 310598401#32, 607225278#32, 1426881987#32, 1925078388#32, 2162078206#32, 2614888103#32, 3248222580#32, 3835390401#32, 4022224774#32, 264347078#32, 604807628#32, 770255983#32, 1249150122#32, 1555081692#32, 1996064986#32, 2554220882#32, 2821834349#32, 2952996808#32, 3210313671#32, 3336571891#32, 3584528711#32, 113926993#32, 338241895#32, 666307205#32, 773529912#32, 1294757372#32, 1396182291#32, 1695183700#32, 1986661051#32, 2177026350#32, 2456956037#32, 2730485921#32, 2820302411#32, 3259730800#32, 3345764771#32, 3516065817#32, 3600352804#32, 4094571909#32, 275423344#32, 430227734#32, 506948616#32, 659060556#32, 883997877#32, 958139571#32, 1322822218#32, 1537002063#32, 1747873779#32, 1955562222#32, 2024104815#32, 2227730452#32, 2361852424#32, 2428436474#32, 2756734187#32, 3204031479#32, 3329325298#32]
theorem K_length : K.length = 64 := rfl

structure St where
  a : BitVec 32
  b : BitVec 32
  c : BitVec 32
  d : BitVec 32
  e : BitVec 32
  f : BitVec 32
  g : BitVec 32
  h : BitVec 32

def st0 : St := ⟨1779033703#32, 3144134277#32, 1013904242#32, 2773480762#32, 1359893119#32, 2600822924#32, 528734635#32, 1541459225#32⟩
def St.list (s : St) : List (BitVec 32) := [s.a, s.b, s.c, s.d, s.e, s.f, s.g, s.h]

def rx (s : St) (k w : BitVec 32) : BitVec 32 := s.h + b1 s.e + ch s.e s.f s.g + k + w
def ry (s : St) : BitVec 32 := b0 s.a + maj s.a s.b s.c
def rnd (s : St) (k w : BitVec 32) : St := ⟨rx s k w + ry s, s.a, s.b, s.c, s.d + rx s k w, s.e, s.f, s.g⟩
/-- t rounds. -/
def rounds (w : List (BitVec 32)) (s : St) : Nat → St
  | 0 => s
  | t + 1 => rnd (rounds w s t) (K.getD t 0) (w.getD t 0)
def St.add (s r : St) : St := ⟨s.a + r.a, s.b + r.b, s.c + r.c, s.d + r.d, s.e + r.e, s.f + r.f, s.g + r.g, s.h + r.h⟩
/-- The state behind one more piece of sixteen words. -/
def comp (s : St) (p : List (BitVec 32)) : St := s.add (rounds (sch p 48) s 64)

/-- Four bytes as a word. -/
def wd (x y z v : BitVec 8) : BitVec 32 := (x.setWidth 32 <<< 24) ||| (y.setWidth 32 <<< 16) ||| (z.setWidth 32 <<< 8) ||| v.setWidth 32
theorem c_u (x : BitVec 8) : c x % 4294967296 = u (x.setWidth 32) := by
  unfold c u; rw [BitVec.toNat_setWidth]; omega
theorem u_shl' (x : BitVec 32) (n : Nat) (m : Int) (h : m = 2 ^ n) : u x * m % 4294967296 = u (x <<< n) := by
  rw [h, ← IntKind.wrap_u32', u_shl]
/-- A word of a piece of bytes. -/
def word (p : List (BitVec 8)) (i : Nat) : BitVec 32 := wd (p.getD (4 * i) 0) (p.getD (4 * i + 1) 0) (p.getD (4 * i + 2) 0) (p.getD (4 * i + 3) 0)
/-- The first k words. -/
def words (p : List (BitVec 8)) (k : Nat) : List (BitVec 32) := (List.range k).map (word p)
theorem words_length (p : List (BitVec 8)) (k : Nat) : (words p k).length = k := by simp [words]
theorem words_succ (p : List (BitVec 8)) (k : Nat) : words p (k + 1) = words p k ++ [word p k] := by simp [words, List.range_succ]

/-- A word as four bytes. -/
def four (x : BitVec 32) : List (BitVec 8) := [(x >>> 24).setWidth 8, (x >>> 16).setWidth 8, (x >>> 8).setWidth 8, x.setWidth 8]
def St.bytes (s : St) : List (BitVec 8) := s.list.flatMap four
theorem St.bytes_length (s : St) : s.bytes.length = 32 := rfl

/-! ### In slots and cells -/
def vW (l : List (BitVec 32)) : List Value := l.map (fun x => .int .u32 (u x))
def vB (l : List (BitVec 8)) : List Value := l.map (fun x => .int .u8 (c x))
theorem vW_length (l : List (BitVec 32)) : (vW l).length = l.length := by simp [vW]
theorem vB_length (l : List (BitVec 8)) : (vB l).length = l.length := by simp [vB]
theorem vW_append (l r : List (BitVec 32)) : vW (l ++ r) = vW l ++ vW r := by simp [vW]
theorem vB_append (l r : List (BitVec 8)) : vB (l ++ r) = vB l ++ vB r := by simp [vB]
theorem vW_get (l : List (BitVec 32)) (i : Nat) (h : i < l.length) : (vW l)[i]? = some (.int .u32 (u (l.getD i 0))) := by
  simp [vW, h]
theorem vB_get (l : List (BitVec 8)) (i : Nat) (h : i < l.length) : (vB l)[i]? = some (.int .u8 (c (l.getD i 0))) := by
  simp [vB, h]
theorem vW_one (l : List (BitVec 32)) : ∀ v ∈ vW l, v.oneCell' = true := by
  intro v hv; simp only [vW, List.mem_map] at hv; obtain ⟨x, _, rfl⟩ := hv; rfl
theorem vB_one (l : List (BitVec 8)) : ∀ v ∈ vB l, v.oneCell' = true := by
  intro v hv; simp only [vB, List.mem_map] at hv; obtain ⟨x, _, rfl⟩ := hv; rfl

end Sha
end Go.Proofs.YtclbiophgnkggaaGreatDoor

namespace Go.Proofs.YtclbiophgnkggaaGreatDoor
open Go Go.RowKit
open Sha

/-- The cells of block b. -/
def Row (w : World) (b : Nat) (cs : List Value) (t : TypeId) : Prop := w.heap[b]? = some (.cells cs.toArray t)

theorem Row.cell {w : World} {b : Nat} {cs : List Value} {t : TypeId} (h : Row w b cs t) (i : Nat) (v : Value) (hv : cs[i]? = some v) : w.cell? ⟨b, i, none⟩ = some v := by
  rw [cell_of_row w b i cs.toArray t (0, 0) h]; simpa using hv
theorem Row.thaw {w : World} {b : Nat} {cs : List Value} {t : TypeId} (h : Row w b cs t) (i : Nat) : w.frozen? ⟨b, i, none⟩ = false := frozen_of_row w b i cs.toArray t h
theorem Row.lt {w : World} {b : Nat} {cs : List Value} {t : TypeId} (h : Row w b cs t) : b < w.heap.size := (Array.getElem?_eq_some_iff.1 h).1
theorem Row.drewN {w : World} {b : Nat} {cs : List Value} {t : TypeId} (h : Row w b cs t) (n : Nat) : Row (w.drewN n) b cs t := h
theorem Row.drew {w : World} {b : Nat} {cs : List Value} {t : TypeId} (h : Row w b cs t) : Row w.drew b cs t := h
theorem below_drewN {B : Nat} {a w : World} (h : Below B a w) (n : Nat) : Below B a (w.drewN n) := ⟨h.os, h.tape, h.output, h.size, h.block⟩
theorem Row.alloc {w : World} {b : Nat} {cs : List Value} {t : TypeId} (h : Row w b cs t) (o : Obj) : Row (w.alloc o) b cs t := by
  unfold Row; rw [Below.heap_alloc _ _ _ h.lt]; exact h
theorem Row.new (w : World) (cs : List Value) (t : TypeId) : Row (w.alloc (.cells cs.toArray t)) w.heap.size cs t := by
  show (w.heap.push _)[w.heap.size]? = _; simp
theorem Row.new' {w : World} {o : Array Value} {t : TypeId} {b : Nat} {cs : List Value} (hb : b = w.heap.size) (ho : o = cs.toArray) : Row (w.alloc (.cells o t)) b cs t := by
  subst hb; subst ho; exact Row.new w cs t
theorem Row.below {B : Nat} {w w' : World} {b : Nat} {cs : List Value} {t : TypeId} (h : Row w b cs t) (k : Below B w w') (hb : b < B) : Row w' b cs t := (k.block b hb).trans h
theorem Row.set {w : World} {b : Nat} {cs : List Value} {t : TypeId} (h : Row w b cs t) (i : Nat) (v : Value) : Row (w.setCell ⟨b, i, none⟩ v) b (cs.set i v) t := by
  unfold Row; rw [heap_setCell_same w b i cs.toArray t v h]; simp
theorem Row.set_other {w : World} {b : Nat} {cs : List Value} {t : TypeId} (h : Row w b cs t) (b' i : Nat) (v : Value) (hb : b ≠ b') : Row (w.setCell ⟨b', i, none⟩ v) b cs t := by
  unfold Row; rw [Below.heap_setCell _ _ _ _ hb]; exact h
theorem Row.range {w : World} {b : Nat} {cs : List Value} {t : TypeId} (h : Row w b cs t) (o : Nat) (l : List Value) (hl : ∀ j v, l[j]? = some v → cs[o + j]? = some v) : w.rangeAt b o l :=
  fun j v hv => h.cell _ _ (hl j v hv)
theorem Row.all {w : World} {b : Nat} {cs : List Value} {t : TypeId} (h : Row w b cs t) : w.rangeAt b 0 cs := h.range 0 cs (fun j v hv => by simpa using hv)
theorem Row.there {w : World} {b : Nat} {cs : List Value} {t : TypeId} (h : Row w b cs t) (o n : Nat) (hn : o + n ≤ cs.length) : w.there b o n := fun j hj =>
  ⟨by rw [h.cell (o + j) _ (List.getElem?_eq_getElem (by omega))]; rfl, h.thaw _⟩
theorem below_setCells {B : Nat} {a w : World} (h : Below B a w) {b o : Nat} (hb : B ≤ b) (vs : List Value) : Below B a (w.setCells b o vs) := by
  induction vs generalizing w o with
  | nil => exact h
  | cons v r ih => exact ih (h.setCell (p := ⟨b, o, none⟩) hb v)
theorem size_setCells (w : World) (b o : Nat) (vs : List Value) : (w.setCells b o vs).heap.size = w.heap.size := by
  induction vs generalizing w o with
  | nil => rfl
  | cons v r ih => rw [World.setCells, ih]; simp [World.setCell]
theorem Row.setCells_other {w : World} {b : Nat} {cs : List Value} {t : TypeId} (h : Row w b cs t) (b' o : Nat) (vs : List Value) (hb : b ≠ b') : Row (w.setCells b' o vs) b cs t := by
  induction vs generalizing w o with
  | nil => exact h
  | cons v r ih => exact ih (h.set_other b' o v hb) (o + 1)
theorem set_splice (cs : List Value) (o : Nat) (v : Value) (r : List Value) (h : o < cs.length) : (cs.set o v).take (o + 1) ++ r ++ (cs.set o v).drop (o + 1 + r.length) = cs.take o ++ (v :: r) ++ cs.drop (o + (r.length + 1)) := by
  rw [List.take_succ_eq_append_getElem (by simpa using h), List.take_set_of_le (Nat.le_refl _), List.drop_set_of_lt (by omega)]
  simp [Nat.add_assoc, Nat.add_comm 1]
theorem Row.setCells {w : World} {b : Nat} {t : TypeId} (o : Nat) (vs : List Value) : ∀ {cs : List Value}, Row w b cs t → o + vs.length ≤ cs.length → Row (w.setCells b o vs) b (cs.take o ++ vs ++ cs.drop (o + vs.length)) t := by
  induction vs generalizing w o with
  | nil => intro cs h _; simpa [World.setCells] using h
  | cons v r ih =>
    intro cs h hl
    simp only [List.length_cons] at hl
    have := ih (w := w.setCell ⟨b, o, none⟩ v) (o + 1) (h.set o v) (by simp; omega)
    rw [set_splice cs o v r (by omega)] at this
    exact this
/-- A whole row stored over. -/
theorem Row.over {w : World} {b : Nat} {cs vs : List Value} {t : TypeId} (h : Row w b cs t) (hl : vs.length = cs.length) : Row (w.setCells b 0 vs) b vs t := by
  have := Row.setCells 0 vs h (by omega)
  simpa [hl] using this

/-- A whole array, read back as a function's result. -/
theorem results_row {P : Program} {fn : Func} {p : Tmp} {ty : TypeId} {n : Nat} {e : TypeId} (h : fn.results = #[.cell p ty]) (tmps : Array Value) (w : World) (g : Nat) (t : TypeId) (cs : List Value)
    (hp : tmps.getD p undef = .pointer (some ⟨g, 0, none⟩)) (hg : Row w g cs t) (hu : P.underlying ty = some (.array n e)) (hi : (P.info? ty).map (·.size) = some n) (hl : cs.length = n) :
    (results fn tmps).run P w = .ok (.agg cs.toArray) w :=
  results_cell_row h tmps w g t cs.toArray (0, 0) _ hp hg hu rfl (by simp [hi, hl])

/-- A store of one cell, as the walk meets it. -/
theorem wpList_store1 {P : Program} {ops : Array Oper} {rest : List Oper} {op : Oper} {a : Act} {w : World} {Q : Exit → Act → World → Prop} (hgd : op.guard = none) (ty : TypeId) (x y : Operand) (ho : op.op = .store ty x y)
    (b o : Nat) (v : Value) (hx : a.eval x = .pointer (some ⟨b, o, none⟩)) (hy : a.eval y = v) (hcs : v.cells = #[v]) (ht : w.there b o 1) (hi : (P.info? ty).map (·.size) = some 1) (h1 : v.oneCell' = true)
    (h : wpList P ops Q rest (a.put op.dst undef) (w.setCell ⟨b, o, none⟩ v)) : wpList P ops Q (op :: rest) a w :=
  wpList_plain hgd fun _ hK => by
    have hr : (storeVar ty ⟨b, o, none⟩ v).run P w = .ok () (w.setCell ⟨b, o, none⟩ v) := by
      have := run_storeCells_cells (P := P) b o [v] 0 w (fun j hj => by simpa using (ht j (by simpa using hj)).1) (fun j hj => by simpa using (ht j (by simpa using hj)).2) (fun u hu => by simp at hu; rw [hu]; exact h1)
      cases hq : P.info? ty with
      | none => simp [hq] at hi
      | some i =>
        have hs : i.size = 1 := by simpa [hq] using hi
        simp only [Nat.add_zero, World.setCells] at this
        simp [storeVar, sizeOf, typeInfo, hq, hcs, hs, this]
    unfold Oper.wp execOp
    simp only [ho, hx, hy, Instr.storeAt, Instr.sureAddr, Sem.run_bind, Sem.run_pure, Result.andThen_ok, hr]
    exact hK _ _ h

/-- copy, as the walk meets it. -/
theorem wpList_copy {P : Program} {ops : Array Oper} {rest : List Oper} {Q : Exit → Act → World → Prop} {a : Act} {w : World} {dst : Option Tmp} {x y : Operand} {dT sT ty : TypeId} {pos : String} {after : Array Edge}
    (elem : TypeId) (b o dLen dCap : Nat) (adr : Addr) (sLen sCap : Nat) (cs : List Value)
    (hx : a.eval x = .slice (some ⟨b, o, none⟩) dLen dCap) (hy : a.eval y = .slice (some adr) sLen sCap)
    (hu : P.underlying dT = some (.slice elem)) (hs : (P.info? elem).map (·.size) = some 1) (hn : cs.length = Nat.min sLen dLen)
    (hsrc : ∀ j v, cs[j]? = some v → w.cell? (adr.add j) = some v) (ht : w.there b o cs.length) (h1 : ∀ v ∈ cs, v.oneCell' = true)
    (h : wpList P ops Q rest (a.put dst (goInt cs.length)) (w.setCells b o cs)) :
    wpList P ops Q ({ dst, op := .call { callee := .builtin .copy, args := #[x, y], argTypes := #[dT, sT] }, type := ty, pos, after, guard := none } :: rest) a w :=
  wpList_plain rfl fun _ hK => by
    have hr := run_copy_cells (P := P) w dT sT ty elem b o dLen dCap adr sLen sCap cs hu hs hn hsrc (fun j hj => (ht j hj).1) (fun j hj => (ht j hj).2) h1
    unfold Oper.wp
    rw [BigFrame.execOp_builtin, BigFrame.builtin_copy]
    simp only [List.map_toArray, List.map_cons, List.map_nil, hx, hy, Sem.run_bind, hr, Result.andThen_ok, Sem.run_pure, Oper.upon_value]
    exact hK _ _ h

theorem vW_set (l : List (BitVec 32)) (i : Nat) (x : BitVec 32) : (vW l).set i (.int .u32 (u x)) = vW (l.set i x) := by simp [vW, List.map_set]
theorem vB_set (l : List (BitVec 8)) (i : Nat) (x : BitVec 8) : (vB l).set i (.int .u8 (c x)) = vB (l.set i x) := by simp [vB, List.map_set]

end Go.Proofs.YtclbiophgnkggaaGreatDoor
