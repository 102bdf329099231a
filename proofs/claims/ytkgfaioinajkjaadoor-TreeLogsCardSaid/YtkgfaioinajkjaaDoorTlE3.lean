/-
  TreeLogs: the operations that came in; the logs so far.
-/
import Derived.Test.YtkgfaioinajkjaaDoorTlE

namespace Go.Proofs.YtkgfaioinajkjaaDoor
open Go Go.RowKit
open Sha

theorem T3.setD2 {w0 w : World} {bt bd : Nat} {s : S3} (hw : T3 w0 w bt bd s) (k : Nat) (hk : k < 3) (m' : Nat) (u' : Value) (G' : List (List (BitVec 8))) (hO : Ow w u' G'.length (vB G'.flatten)) (h32 : ∀ d ∈ G', d.length = 32) (hu : ∀ i, i < 3 → ∀ g, (s.v i).ownBlock = some g → u'.ownBlock ≠ some g) : T3 w0 (w.setCells bd (k * 2) [.int .i64 (m' : Int), u']) bt bd (s.upD k m' u' G') := by
  have hg : Gro (fun g => g = bd) w (w.setCells bd (k * 2) [.int .i64 (m' : Int), u']) := (Gro.refl _ _).sets bd (k * 2) _ rfl
  have hnv : ∀ (x : Value) (nn : Nat) (xs : List Value), Ow w x nn xs → ∀ g, x.ownBlock = some g → ¬ g = bd := fun x nn xs ho g e q => by
    subst q
    obtain ⟨cs, r2⟩ := ow_brow ho e
    exact absurd (lrow_ty r2 hw.rd) (by decide)
  have hnl : ∀ (Q nn : Nat) (x : Value) (H : List (List (BitVec 8))), Lg w Q nn x H → ¬ Q = bd := fun Q nn x H ho q => by
    subst q
    exact absurd (lrow_ty ho.row hw.rd) (by decide)
  refine ⟨hg.row hw.rt (fun e => by subst e; exact absurd (lrow_ty hw.rt hw.rd) (by decide)), ?_, fun j hj => (hw.lg j hj).gro hg (hnl _ _ _ _ (hw.lg j hj)) (hnv _ _ _ (hw.lg j hj).own), fun j hj => ?_, hw.ap, fun i j hi hj g e => ?_, hw.b0, hw.lo, below_setCells hw.be hw.b0.2 _⟩
  · have := Row.setCells (k * 2) [.int .i64 (m' : Int), u'] hw.rd (by show k * 2 + 2 ≤ 6; omega)
    rw [show [Value.int .i64 (m' : Int), u'].length = 2 from rfl, dcs_set _ _ _ _ _ hk] at this
    exact this
  · show Ow _ (up s.u k u' j) (up s.G k G' j).length (vB (up s.G k G' j).flatten) ∧ ∀ d ∈ up s.G k G' j, d.length = 32
    by_cases e : j = k
    · subst e
      rw [up_at, up_at]
      exact ⟨hO.gro hg (hnv _ _ _ hO), h32⟩
    · rw [up_ne _ _ _ e, up_ne _ _ _ e]
      exact ⟨(hw.dg j hj).1.gro hg (hnv _ _ _ (hw.dg j hj).1), (hw.dg j hj).2⟩
  · show (up s.u k u' j).ownBlock ≠ some g
    by_cases ej : j = k
    · subst ej
      rw [up_at]
      exact hu i hi g e
    · rw [up_ne _ _ _ ej]
      exact hw.ad i j hi hj g e
/-- A log of each side takes a place. -/
theorem T3.both {w0 w1 w : World} {bt bd : Nat} {s : S3} (h : T3 w0 w1 bt bd s) (hB : Below w1.heap.size w1 w) (k : Nat) (hk : k < 3) (P m : Nat) (v' : Value) (F : List (List (BitVec 8))) (hL : Lg w P m v' F) (hP : w1.heap.size ≤ P) (hv : Fresh w1.heap.size v') (u' : Value) (hO : Ow w u' F.length (vB F.flatten)) (hu : Fresh w1.heap.size u') (ha : ∀ g, v'.ownBlock = some g → u'.ownBlock ≠ some g) :
    T3 w0 ((w.setCell ⟨bt, k, none⟩ (.pointer (some ⟨P, 0, none⟩))).setCells bd (k * 2) [.int .i64 (m : Int), u']) bt bd ((s.upP k P m v' F).upD k m u' F) := by
  have hw := h.keep hB
  have hg : Gro (fun g => g = bt) w (w.setCell ⟨bt, k, none⟩ (.pointer (some ⟨P, 0, none⟩))) := (Gro.refl _ _).sets bt k [.pointer (some ⟨P, 0, none⟩)] rfl
  refine T3.setD2 (h.setP hB k hk P m v' F hL hP hv) k hk m u' F (hO.gro hg (fun g e q => by
    subst q
    obtain ⟨cs, r2⟩ := ow_brow hO e
    exact absurd (lrow_ty r2 hw.rt) (by decide))) hL.dl (fun i hi g e => ?_)
  change (up s.v k v' i).ownBlock = some g at e
  by_cases ei : i = k
  · subst ei
    rw [up_at] at e
    exact ha g e
  · rw [up_ne _ _ _ ei] at e
    intro q
    have := Ow.lt (h.lg i hi).own g e
    have := hu g q
    omega
theorem range_lent {X : World} {y : Nat} {ds : List (List (BitVec 8))} (hr : Row X y (vB (ds ++ List.replicate 9 m77).flatten) 42) : X.rangeAt y 0 (vB ds.flatten) := fun j v hj => hr.all j v (by rw [List.flatten_append, vB_append, List.getElem?_append_left (List.getElem?_eq_some_iff.1 hj).1]; exact hj)
theorem t_resume (m nf y : Nat) (hm : m ≤ 1099511627776) (ds : List (List (BitVec 8))) (hnf : nf = ds.length) (hF : nf = pc m) (h32 : ∀ d ∈ ds, d.length = 32) (X : World) (hr : Row X y (vB (ds ++ List.replicate 9 m77).flatten) 42) :
    Calls Tryd.prog 18 #[.int .i64 (m : Int), .slice (some ⟨y, 0, none⟩) nf (nf + 9)] X fun e w' => ∃ P v', e = .returned (.tuple #[.pointer (some ⟨P, 0, none⟩), .int .i64 0]) ∧ Lg w' P m v' ds ∧ X.heap.size ≤ P ∧ Fresh X.heap.size v' ∧ Below X.heap.size X w' :=
  lresume_g m hm _ nf (nf + 9) ds hnf (by rw [← hnf]; exact hF) h32 X (dclone_r nf y (nf + 9) (by have := pc_le41 m hm; omega) (vB ds.flatten) (by rw [vB_length, flatten_len ds h32, hnf]) (vB_one _) X (range_lent hr) hr.lt)
/-- Whether it may be resumed. -/
theorem t_res (sz : Int) (nf : Nat) : (∃ ee : Int, ¬ ee = 0 ∧ (∀ X A c, Calls Tryd.prog 18 #[.int .i64 sz, .slice A nf c] X fun e w' => e = .returned (.tuple #[.pointer none, .int .i64 ee]) ∧ Below X.heap.size X w') ∧ (∀ X A c, Calls Tryd.prog 20 #[.int .i64 sz, .slice A nf c] X fun e w' => e = .returned (.tuple #[.agg zLg.toArray, .int .i64 ee]) ∧ Below X.heap.size X w'))
    ∨ ∃ m : Nat, sz = (m : Int) ∧ m ≤ 1099511627776 ∧ nf = pc m := by
  by_cases hz : sz < 0 ∨ 1099511627776 < sz
  · refine .inl ⟨40, by decide, fun X A c => (lresume_size sz hz A nf c X).mono ?_, fun X A c => rresume_size sz hz A nf c X⟩
    rintro e w' ⟨h1, h2⟩
    subst h2
    exact ⟨h1, Below.refl _ _⟩
  · obtain ⟨m, rfl⟩ : ∃ m : Nat, sz = (m : Int) := ⟨sz.toNat, by omega⟩
    have hm : m ≤ 1099511627776 := by omega
    by_cases hn : nf = pc m
    · exact .inr ⟨m, rfl, hm, hn⟩
    · refine .inl ⟨42, by decide, fun X A c => (lresume_front m hm A nf c hn X).mono ?_, fun X A c => rresume_front m hm A nf c hn X⟩
      rintro e w' ⟨h1, h2⟩
      subst h2
      exact ⟨h1, Below.refl _ _⟩
/-- The loan, written over. -/
structure Ov (V W : World) (y nf : Nat) : Prop where
  row : ∃ cs, Row W y cs 42 ∧ cs.length = (nf + 9) * 32
  gro : Gro (fun g => g = y) V W
theorem Ov.step {V W : World} {y nf : Nat} (h : Ov V W y nf) (f : Nat) (vs : List Value) (hf : f + vs.length ≤ (nf + 9) * 32) : Ov V (W.setCells y f vs) y nf := by
  obtain ⟨cs, r, hl⟩ := h.row
  have := Row.setCells f vs r (by rw [hl]; exact hf)
  exact ⟨⟨_, this, by simp; omega⟩, h.gro.sets y f vs rfl⟩
theorem Ov.t3 {X V W : World} {y nf : Nat} (h : Ov V W y nf) (hB : Below X.heap.size X V) (hy : X.heap.size ≤ y) : Below X.heap.size X W := hB.trans (h.gro.to_below hB.size (fun g q => by rw [q]; exact hy))
theorem Ov.lg {V W : World} {y nf P m : Nat} {v : Value} {F : List (List (BitVec 8))} (h : Ov V W y nf) (hr : ∃ cs, Row V y cs 42) (hL : Lg V P m v F) (hv : ∀ g, v.ownBlock = some g → y < g) : Lg W P m v F := hL.gro h.gro (fun q => by
  obtain ⟨cs, r⟩ := hr
  subst q
  exact absurd (lrow_ty hL.row r) (by decide)) (fun g e q => by have := hv g e; omega)
theorem Ov.ow {V W : World} {y nf n : Nat} {v : Value} {xs : List Value} (h : Ov V W y nf) (hL : Ow V v n xs) (hv : ∀ g, v.ownBlock = some g → y < g) : Ow W v n xs := hL.gro h.gro (fun g e q => by have := hv g e; omega)
theorem Ov.keep {V W : World} {y nf b : Nat} {cs : List Value} {t : TypeId} (h : Ov V W y nf) (r : Row V b cs t) (hb : y < b) : Row W b cs t := h.gro.row r (fun q => by omega)
section
variable {Q : Exit → Act → World → Prop} {o : Oper} {a : Act} {w : World} {ops : Array Oper} {rest : List Oper}
theorem wpList_b88 (hgd : o.guard = none) (ho : o.op = .build 42 #[(0, .const (.int .u8 88))]) (h : wpList Tryd.prog ops Q rest (a.put o.dst (.agg (vB (md 88#8)).toArray)) w) : wpList Tryd.prog ops Q (o :: rest) a w :=
  wpList_plain hgd fun _ hK => wp_buildx (.const (.int .u8 88)) 88#8 ho rfl (hK _ _ h)
end

end Go.Proofs.YtkgfaioinajkjaaDoor

namespace Go.Proofs.YtkgfaioinajkjaaDoor
open Go Go.RowKit
open Sha

/-- An operation that came in. -/
structure Opv where
  kd : Int
  on : Int
  sz : Int
  d : List (BitVec 8)
  Al : Option Addr
  cl : Nat
  ds : List (List (BitVec 8))
  Af : Option Addr
  cf : Nat
def Opv.cells (r : Opv) : List Value := [.int .i64 r.kd, .int .i64 r.on, .int .i64 r.sz, .slice r.Al r.d.length r.cl, .slice r.Af r.ds.length r.cf]
structure Opv.Ok (w : World) (r : Opv) : Prop where
  k0 : -9223372036854775808 ≤ r.kd ∧ r.kd ≤ 9223372036854775807
  o0 : -9223372036854775808 ≤ r.on ∧ r.on ≤ 9223372036854775807
  s0 : -9223372036854775808 ≤ r.sz ∧ r.sz ≤ 9223372036854775807
  dl : r.d.length ≤ 140737488351232
  da : SlAt w (.slice r.Al r.d.length r.cl) r.d
  dn : r.Al = none → r.cl = 0
  fl : r.ds.length * 32 ≤ 140737488351232
  fa : PAt w (.slice r.Af r.ds.length r.cf) r.ds
def Oa (w : World) (A0 : Option Addr) (l : List Opv) : Prop := ∀ i r, l[i]? = some r → r.Ok w ∧ ∃ b o, A0 = some ⟨b, o, none⟩ ∧ w.rangeAt b (o + i * 5) r.cells
def zOp : List Value := [.int .i64 0, .int .i64 0, .int .i64 0, .slice none 0 0, .slice none 0 0]
theorem info_op : (Tryd.prog.info? 33).map (·.size) = some 5 := by kernel_rfl
theorem one_op (r : Opv) : r.cells.toArray.all (·.oneCell') = true := by rw [← Array.all_toList]; rfl
section
variable {Q : Exit → Act → World → Prop} {o : Oper} {a : Act} {w : World} {ops : Array Oper} {rest : List Oper}
theorem wpList_allocOp (hgd : o.guard = none) (ho : o.op = .alloc 33) (h : ∀ X, Row X w.heap.size zOp 33 → Below w.heap.size w X → wpList Tryd.prog ops Q rest (a.put o.dst (.pointer (some ⟨w.heap.size, 0, none⟩))) X) : wpList Tryd.prog ops Q (o :: rest) a w :=
  wpList_plain hgd fun _ hK => by
    unfold Oper.wp execOp
    simp only [ho]
    go_simp
    exact hK _ _ (h _ (Row.new' (cs := zOp) rfl rfl) ((Below.refl _ _).alloc (Nat.le_refl _) _))
end
theorem range_be5 {w w' : World} {b o : Nat} {cs : List Value} (h : w.rangeAt b o cs) (hB : Below w.heap.size w w') : w'.rangeAt b o cs := range_below h hB (Nat.le_refl _)
/-- As many logs as are made so far. -/
def pcs (p : Nat → Nat) (i : Nat) : List Value := [.pointer (if 0 < i then some ⟨p 0, 0, none⟩ else none), .pointer (if 1 < i then some ⟨p 1, 0, none⟩ else none), .pointer (if 2 < i then some ⟨p 2, 0, none⟩ else none)]
theorem pcs_set (p : Nat → Nat) (i x : Nat) (h : i < 3) : (pcs p i).set i (.pointer (some ⟨x, 0, none⟩)) = pcs (up p i x) (i + 1) := by
  rcases (show i = 0 ∨ i = 1 ∨ i = 2 by omega) with rfl | rfl | rfl <;> rfl
theorem pcs_at (p : Nat → Nat) (i x : Nat) (h : i < 3) : (pcs (up p i x) (i + 1))[i]? = some (.pointer (some ⟨x, 0, none⟩)) := by
  rcases (show i = 0 ∨ i = 1 ∨ i = 2 by omega) with rfl | rfl | rfl <;> rfl
structure L1 (w0 w : World) (bt bd i : Nat) (p : Nat → Nat) : Prop where
  rt : Row w bt (pcs p i) tA3
  rd : Row w bd (dcs (fun _ => 0) (fun _ => .slice none 0 0)) tD3
  lg : ∀ k, k < i → Lg w (p k) 0 (.slice none 0 0) []
  ap : ∀ j k, j < i → k < i → j ≠ k → p j ≠ p k
  lo : ∀ k, k < i → w0.heap.size ≤ p k
  b0 : w0.heap.size ≤ bt ∧ w0.heap.size ≤ bd
  be : Below w0.heap.size w0 w
theorem L1.step {w0 w w' : World} {bt bd i : Nat} {p : Nat → Nat} (h : L1 w0 w bt bd i p) (hi : i < 3) (hL : Lg w' w.heap.size 0 (.slice none 0 0) []) (hB : Below w.heap.size w w') : L1 w0 (w'.setCell ⟨bt, i, none⟩ (.pointer (some ⟨w.heap.size, 0, none⟩))) bt bd (i + 1) (up p i w.heap.size) := by
  have hg : Gro (fun g => g = bt) w' (w'.setCell ⟨bt, i, none⟩ (.pointer (some ⟨w.heap.size, 0, none⟩))) := (Gro.refl _ _).sets bt i [.pointer (some ⟨w.heap.size, 0, none⟩)] rfl
  have hrt := Row.below h.rt hB h.rt.lt
  have hrd := Row.below h.rd hB h.rd.lt
  have hnl : ∀ (Q nn : Nat) (x : Value) (H : List (List (BitVec 8))), Lg w' Q nn x H → ¬ Q = bt := fun Q nn x H ho q => by
    subst q
    exact absurd (lrow_ty ho.row hrt) (by decide)
  refine ⟨by have := hrt.set i (.pointer (some ⟨w.heap.size, 0, none⟩)); rw [pcs_set _ _ _ hi] at this; exact this, hg.row hrd (fun e => by subst e; exact absurd (lrow_ty hrd hrt) (by decide)), fun k hk => ?_, fun j k hj hk hjk => ?_, fun k hk => ?_, h.b0, (h.be.trans (hB.mono h.be.size)).setCell (p := ⟨bt, i, none⟩) h.b0.1 _⟩
  · by_cases e : k = i
    · subst e
      rw [up_at]
      exact hL.gro hg (hnl _ _ _ _ hL) (fun g q => by simp [Value.ownBlock] at q)
    · rw [up_ne _ _ _ e]
      have := (h.lg k (by omega)).be hB
      exact this.gro hg (hnl _ _ _ _ this) (fun g q => by simp [Value.ownBlock] at q)
  · have lt : ∀ a, a < i → p a ≠ w.heap.size := fun a ha e => by have := (h.lg a ha).row.lt; omega
    by_cases ej : j = i
    · subst ej
      have ek : k ≠ j := fun e => hjk e.symm
      rw [up_at, up_ne _ _ _ ek]
      exact fun e => lt k (by omega) e.symm
    · rw [up_ne _ _ _ ej]
      by_cases ek : k = i
      · subst ek
        rw [up_at]
        exact lt j (by omega)
      · rw [up_ne _ _ _ ek]
        exact h.ap j k (by omega) (by omega) hjk
  · by_cases e : k = i
    · subst e; rw [up_at]; exact h.be.size
    · rw [up_ne _ _ _ e]; exact h.lo k (by omega)
theorem E3.upP {s : S3} (h : E3 s) (k P : Nat) (v : Value) : E3 (s.upP k P (s.n k) v (s.F k)) := fun j hj => by
  show s.m j = up s.n k (s.n k) j ∧ s.G j = up s.F k (s.F k) j ∧ (up s.F k (s.F k) j).length = pc (up s.n k (s.n k) j) ∧ up s.n k (s.n k) j ≤ 1099511627776
  rw [up_self, up_self]
  exact h j hj
theorem E3.upPD {s : S3} (h : E3 s) (k P n : Nat) (v u : Value) (F : List (List (BitVec 8))) (h1 : F.length = pc n) (h2 : n ≤ 1099511627776) : E3 ((s.upP k P n v F).upD k n u F) := fun j hj => by
  show up s.m k n j = up s.n k n j ∧ up s.G k F j = up s.F k F j ∧ (up s.F k F j).length = pc (up s.n k n j) ∧ up s.n k n j ≤ 1099511627776
  by_cases e : j = k
  · subst e
    rw [up_at, up_at, up_at, up_at]
    exact ⟨rfl, rfl, h1, h2⟩
  · rw [up_ne _ _ _ e, up_ne _ _ _ e, up_ne _ _ _ e, up_ne _ _ _ e]
    exact h j hj
theorem E3.upLD {s : S3} (h : E3 s) (k n : Nat) (v u : Value) (F : List (List (BitVec 8))) (h1 : F.length = pc n) (h2 : n ≤ 1099511627776) : E3 ((s.upL k n v F).upD k n u F) := fun j hj => by
  show up s.m k n j = up s.n k n j ∧ up s.G k F j = up s.F k F j ∧ (up s.F k F j).length = pc (up s.n k n j) ∧ up s.n k n j ≤ 1099511627776
  by_cases e : j = k
  · subst e
    rw [up_at, up_at, up_at, up_at]
    exact ⟨rfl, rfl, h1, h2⟩
  · rw [up_ne _ _ _ e, up_ne _ _ _ e, up_ne _ _ _ e, up_ne _ _ _ e]
    exact h j hj
def s0 (p : Nat → Nat) : S3 := ⟨p, fun _ => 0, fun _ => .slice none 0 0, fun _ => [], fun _ => 0, fun _ => .slice none 0 0, fun _ => []⟩
theorem L1.fin {w0 w : World} {bt bd : Nat} {p : Nat → Nat} (h : L1 w0 w bt bd 3 p) : T3 w0 w bt bd (s0 p) :=
  ⟨h.rt, h.rd, h.lg, fun k hk => ⟨⟨rfl, .inl ⟨rfl, rfl⟩⟩, fun d hd => nomatch hd⟩, fun i j hi hj hij => ⟨h.ap i j hi hj hij, fun g q => by simp [s0, Value.ownBlock] at q⟩, fun i j _ _ g q => by simp [s0, Value.ownBlock] at q, h.b0, fun k hk => ⟨h.lo k hk, fun g q => by simp [s0, Value.ownBlock] at q⟩, h.be⟩
theorem s0_e (p : Nat → Nat) : E3 (s0 p) := fun k _ => ⟨rfl, rfl, by show 0 = pc 0; rw [pc_zero], by show 0 ≤ _; omega⟩

end Go.Proofs.YtkgfaioinajkjaaDoor
