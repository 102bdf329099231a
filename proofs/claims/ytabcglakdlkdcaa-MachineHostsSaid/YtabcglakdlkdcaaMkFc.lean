/-
  the host: next.
-/
import Derived.Test.YtabcglakdlkdcaaTFp
import Derived.Test.YtabcglakdlkdcaaMkX
import Derived.BigQuiet

namespace Go.Proofs.Ytabcglakdlkdcaa
open Go Go.RowKit

theorem wp_region_then {P : Program} {id : Nat} {ops : Array Oper} {Q : Exit → Act → World → Prop} {a : Act} {w : World} (hm : P.follows .mixedOrders = true) (j : Nat) (hjn : j < ops.size)
    (hb : ((List.range ops.size).all fun i => ((ops[i]?).map fun o => o.after.all fun e => !Region.binds .any e || decide (e.on < i)).getD true) = true)
    (I J : Array Bool → Act → World → Prop)
    (h0 : I (Array.replicate ops.size false) a w.drew)
    (hI : ∀ listed a w i, listed.size = ops.size → I listed a w → Down ops listed → i ∈ Region.ready .any ops listed → i ≠ j → ¬ listed.getD j false = true → wpOp P ops Q i (I (listed.setIfInBounds i true)) a w)
    (hj : ∀ listed a w, listed.size = ops.size → I listed a w → Down ops listed → j ∈ Region.ready .any ops listed → wpOp P ops Q j (J (listed.setIfInBounds j true)) a w)
    (hJ : ∀ listed a w i, listed.size = ops.size → J listed a w → Down ops listed → i ∈ Region.ready .any ops listed → i ≠ j → listed.getD j false = true → wpOp P ops Q i (J (listed.setIfInBounds i true)) a w)
    (hdone : ∀ listed a w, listed.size = ops.size → J listed a w → Region.ready .any ops listed = [] → Q .normal a w) : (Code.region id ops true).wp P Q a w := by
  refine wp_region_down hm (fun l a w => l.size = ops.size ∧ ((¬ l.getD j false = true ∧ I l a w) ∨ (l.getD j false = true ∧ J l a w))) ⟨by simp, .inl ⟨fun h => start_no h, h0⟩⟩ ?_ ?_
  · intro l a w i h hd hi
    obtain ⟨hs, h | h⟩ := h
    · by_cases e : i = j
      · subst e
        exact wpOp_mono (fun _ _ h' => ⟨by rw [Array.size_setIfInBounds]; exact hs, .inr ⟨getD_same (by rw [hs]; exact hjn), h'⟩⟩) (hj l a w hs h.2 hd hi)
      · exact wpOp_mono (fun _ _ h' => ⟨by rw [Array.size_setIfInBounds]; exact hs, .inl ⟨by rw [getD_set _ _ _ e]; exact h.1, h'⟩⟩) (hI l a w i hs h.2 hd hi e h.1)
    · by_cases e : i = j
      · subst e
        exact absurd h.1 (not_yet hi)
      · exact wpOp_mono (fun _ _ h' => ⟨by rw [Array.size_setIfInBounds]; exact hs, .inr ⟨by rw [getD_set _ _ _ e]; exact h.1, h'⟩⟩) (hJ l a w i hs h.2 hd hi e h.1)
  · intro l a w h hr
    obtain ⟨hs, h | h⟩ := h
    · exact absurd (all_listed hb hs hr j hjn) h.1
    · exact hdone l a w hs h.2 hr

end Go.Proofs.Ytabcglakdlkdcaa

namespace Go.Proofs.Ytabcglakdlkdcaa
open Go Go.RowKit
open Sha
open Wd

abbrev tHo : TypeId := 50
abbrev tAk : TypeId := 55
abbrev tAks : TypeId := 37
abbrev tYr : TypeId := 45
abbrev tYs : TypeId := 31
/-- Replies as cells. -/
def ry (p : Nat × Int) : List Value := wq p.1 ++ [.int .i64 p.2]
def frs (rs : List (Nat × Int)) : List Value := rs.flatMap ry
theorem ry_len (p : Nat × Int) : (ry p).length = 5 := by unfold ry; rw [List.length_append, wq_len]; rfl
theorem frs_len (rs : List (Nat × Int)) : (frs rs).length = rs.length * 5 := by
  induction rs with
  | nil => rfl
  | cons x r ih =>
    have e : frs (x :: r) = ry x ++ frs r := rfl
    rw [e, List.length_append, ry_len, ih, List.length_cons]
    omega
theorem frs_get (rs : List (Nat × Int)) (i : Nat) (x : Nat × Int) (h : rs[i]? = some x) (j : Nat) (hj : j < 5) : (frs rs)[i * 5 + j]? = (ry x)[j]? := by
  induction rs generalizing i with
  | nil => cases h
  | cons y r ih =>
    have e : frs (y :: r) = ry y ++ frs r := rfl
    rw [e]
    cases i with
    | zero =>
      obtain rfl : y = x := by simpa using h
      rw [List.getElem?_append_left (by rw [ry_len]; omega), Nat.zero_mul, Nat.zero_add]
    | succ k =>
      rw [List.getElem?_append_right (by rw [ry_len]; omega), ry_len, show (k + 1) * 5 + j - 5 = k * 5 + j by omega]
      exact ih k (by simpa using h)
/-- Replies in memory, wherever they lie. -/
def Rpl (w : World) (v : Value) (rs : List (Nat × Int)) : Prop := (rs = [] ∧ ∃ A c, v = .slice A 0 c) ∨ ∃ (g o c : Nat) (cs : List Value), v = .slice (some ⟨g, o, none⟩) rs.length c ∧ Row w g cs tYr ∧ ∀ (j : Nat) (u : Value), (frs rs)[j]? = some u → cs[o + j]? = some u
/-- Bytes in memory, at the beginning of their block. -/
def Inr (w : World) (v : Value) (d : List (BitVec 8)) : Prop := (d = [] ∧ ∃ A c, v = .slice A 0 c) ∨ ∃ (g c : Nat) (cs : List Value), v = .slice (some ⟨g, 0, none⟩) d.length c ∧ d.length ≤ c ∧ Row w g cs 5 ∧ ∀ (j : Nat) (u : Value), (vB d)[j]? = some u → cs[j]? = some u
/-- The law's host, in memory. -/
structure Hst (w : World) (hb : Nat) (rv qv iv : Value) (rs : List (Nat × Int)) (qs : List (List Value)) (inn : List (BitVec 8)) : Prop where
  row : Row w hb [rv, qv, iv] tHo
  rp : Rpl w rv rs
  own : Lw w tAk 30 qv qs.length qs.flatten
  inr : Inr w iv inn
/-- Rows of the host's types stay. -/
def Kh (w w' : World) : Prop := ∀ (b : Nat) (cs : List Value) (t : TypeId), (t = tHo ∨ t = tAk ∨ t = tYr ∨ t = 5) → Row w b cs t → Row w' b cs t
theorem Lw.rows {w w' : World} {e : TypeId} {s n : Nat} {v : Value} {xs : List Value} (h : Lw w e s v n xs) (k : ∀ b cs, Row w b cs e → Row w' b cs e) : Lw w' e s v n xs := by
  refine Lw.block h fun g hg => ?_
  obtain ⟨_, h2⟩ := h
  rcases h2 with ⟨h2, _⟩ | ⟨g', cap, cur, hv, _, hh, _⟩
  · rw [h2] at hg; cases hg
  · rw [hv] at hg
    obtain rfl : g' = g := by simpa [Value.ownBlock] using hg
    have rr : Row w g' cur.toList e := by unfold Row; simpa using hh
    exact (k _ _ rr).trans rr.symm
theorem Rpl.rows {w w' : World} {v : Value} {rs : List (Nat × Int)} (h : Rpl w v rs) (k : ∀ b cs, Row w b cs tYr → Row w' b cs tYr) : Rpl w' v rs := by
  rcases h with h | ⟨g, o, c, cs, h1, h2, h3⟩
  · exact .inl h
  · exact .inr ⟨g, o, c, cs, h1, k _ _ h2, h3⟩
theorem Inr.rows {w w' : World} {v : Value} {d : List (BitVec 8)} (h : Inr w v d) (k : ∀ b cs, Row w b cs 5 → Row w' b cs 5) : Inr w' v d := by
  rcases h with h | ⟨g, c, cs, h1, h0, h2, h3⟩
  · exact .inl h
  · exact .inr ⟨g, c, cs, h1, h0, k _ _ h2, h3⟩
section
variable {w w' : World} {hb : Nat} {rv qv iv : Value} {rs : List (Nat × Int)} {qs : List (List Value)} {inn : List (BitVec 8)}
theorem Hst.kh (h : Hst w hb rv qv iv rs qs inn) (k : Kh w w') : Hst w' hb rv qv iv rs qs inn :=
  ⟨k _ _ _ (.inl rfl) h.row, h.rp.rows fun b cs r => k b cs _ (.inr (.inr (.inl rfl))) r, Lw.rows h.own fun b cs r => k b cs _ (.inr (.inl rfl)) r, h.inr.rows fun b cs r => k b cs _ (.inr (.inr (.inr rfl))) r⟩
theorem Kh.of_below (k : Below w.heap.size w w') : Kh w w' := fun _ _ _ _ r => Row.below r k r.lt
theorem Hst.below (h : Hst w hb rv qv iv rs qs inn) (k : Below w.heap.size w w') : Hst w' hb rv qv iv rs qs inn := h.kh (Kh.of_below k)
end
theorem gro_setCells (b : Nat) : ∀ (vs : List Value) (o : Nat) (a w : World), Gro (· = b) a w → Gro (· = b) a (w.setCells b o vs)
  | [], _, _, _, h => h
  | v :: r, o, a, _, h => gro_setCells b r (o + 1) a _ (h.set b o v rfl)
theorem gro_drew {R : Nat → Prop} {a b : World} (h : Gro R a b) : Gro R a b.drew := ⟨h.os, h.tape, h.output, h.size, h.block⟩
/-- What the host's call may change. -/
def Hq (hb : Nat) (qv : Value) (g : Nat) : Prop := g = hb ∨ qv.ownBlock = some g
theorem all_Ak : ∃ ie z, Try.prog.info? tAk = some ie ∧ ie.zero = some z ∧ ie.size = 30 ∧ ie.bytes = 104 ∧ z.cells.size = 30 := by
  have h : (Try.prog.info? tAk).map (fun i => (i.size, i.bytes, i.zero.map (·.cells.size))) = some (30, 104, some 30) := by kernel_rfl
  cases hi : Try.prog.info? tAk with
  | none => rw [hi] at h; cases h
  | some ie =>
    rw [hi] at h
    simp only [Option.map_some, Option.some.injEq, Prod.mk.injEq] at h
    obtain ⟨h1, h2, h3⟩ := h
    cases hz : ie.zero with
    | none => rw [hz] at h3; cases h3
    | some z => rw [hz] at h3; exact ⟨ie, z, rfl, hz, h1, h2, by simpa using h3⟩
theorem sz_Aks : (Try.prog.info? tAks).map (·.size) = some 1 := by kernel_rfl
theorem info_Ak : (Try.prog.info? tAk).map (·.size) = some 30 := by kernel_rfl
theorem info_Yr : (Try.prog.info? tYr).map (·.size) = some 5 := by kernel_rfl
abbrev zY : List Value := [.int .u64 0, .int .u64 0, .int .u64 0, .int .u64 0, .int .i64 0]
def SP.nAk (R : List Value) : SP := ⟨fun W v => ∃ M, v = .slice (some ⟨M, 0, none⟩) 1 1 ∧ Row W M R tAk, fun _ _ _ hB h => by obtain ⟨M, e, r⟩ := h; exact ⟨M, e, Row.below r hB r.lt⟩⟩
section
variable {Q : Exit → Act → World → Prop} {o : Oper} {a : Act} {w : World} {K : Act → World → Prop}
theorem wpH_bAk (x : Operand) (ho : o.op = .buildSlice tAks 1 #[(0, x)]) (L : List Value) (hL : L.length = 30) (hx : a.eval x = .agg L.toArray)
    (h : ∀ X, Row X w.heap.size L tAk → Below w.heap.size w X → K (a.put o.dst (.slice (some ⟨w.heap.size, 0, none⟩) 1 1)) X) : Oper.wp Try.prog o a w K Q := by
  obtain ⟨ie, z, h1, h2, h3, _, h4⟩ := all_Ak
  refine wp_buildSlice tAks tAk 1 _ ho L.toArray ie z Try.underlying37 h1 h2 (by rw [h3]; omega) (by rw [h3]; omega) ?_ (h _ (Row.new' rfl rfl) ((Below.refl _ _).alloc (Nat.le_refl _) _))
  rw [show (Array.map (fun (p : Nat × Operand) => match p with | (i, x) => (i, a.eval x)) #[(0, x)]).toList = [(0, a.eval x)] by simp, hx, h3]
  exact fill_one 30 (by decide) _ _ (by simp [hL]) (by simp)
theorem wpH_nil {x : Operand} (ho : o.op = .nilCheck x) (B : Nat) (hx : a.eval x = .pointer (some ⟨B, 0, none⟩)) (h : K (a.put o.dst (.pointer (some ⟨B, 0, none⟩))) w) : Oper.wp Try.prog o a w K Q := by
  unfold Oper.wp execOp
  simp only [ho, hx]
  go_simp
  exact h
theorem wpH_f0 {x : Operand} (ho : o.op = .fieldAddr tHo x 0) (B : Nat) (hx : a.eval x = .pointer (some ⟨B, 0, none⟩)) (h : K (a.put o.dst (.pointer (some ⟨B, 0, none⟩))) w) : Oper.wp Try.prog o a w K Q := by
  unfold Oper.wp execOp
  simp only [ho, hx]
  go_simp
  exact h
theorem wpH_f1 {x : Operand} (ho : o.op = .fieldAddr tHo x 1) (B : Nat) (hx : a.eval x = .pointer (some ⟨B, 0, none⟩)) (h : K (a.put o.dst (.pointer (some ⟨B, 1, none⟩))) w) : Oper.wp Try.prog o a w K Q := by
  unfold Oper.wp execOp
  simp only [ho, hx]
  go_simp
  exact h
theorem wpH_ld {ty : TypeId} {x : Operand} (b f : Nat) (v : Value) (ho : o.op = .load ty x) (hx : a.eval x = .pointer (some ⟨b, f, none⟩)) (hr : (loadVar ty ⟨b, f, none⟩).run Try.prog w = .ok v w) (h : K (a.put o.dst v) w) : Oper.wp Try.prog o a w K Q := by
  unfold Oper.wp execOp
  simp only [ho, hx, Instr.loadAt, Instr.sureAddr, Sem.run_bind, Sem.run_pure, Result.andThen_ok, hr, Oper.upon_value]
  exact h
theorem wpH_len {x : Operand} {A : Option Addr} {n c : Nat} (t e : TypeId) (ht : Try.prog.underlying t = some (.slice e)) (ho : o.op = .call { callee := .builtin .len, args := #[x], argTypes := #[t] }) (hx : a.eval x = .slice A n c) (h : K (a.put o.dst (.int .i64 ((n : Nat) : Int))) w) : Oper.wp Try.prog o a w K Q := by
  have hr : (Builtin.len_ #[t] o.type #[.slice A n c]).run Try.prog w = .ok (goInt n) w := by
    simp [Builtin.len_, run_underlying ht]
  unfold Oper.wp
  simp [execOp, ho, resolve, invoke, builtin, hx, hr, Result.andThen]
  exact h
theorem wpH_sub {x y : Operand} {t yt : TypeId} (ho : o.op = .binOp .sub t x y yt) (ht : t = 3) (u z r : Int) (hx : a.eval x = .int .i64 u) (hy : a.eval y = .int .i64 z) (hr : IntKind.i64.wrap (u - z) = r) (h : K (a.put o.dst (.int .i64 r)) w) : Oper.wp Try.prog o a w K Q := by
  subst ht
  unfold Oper.wp execOp
  simp only [ho, hx, hy]
  simp [go_sem, hr]
  exact h
theorem wpH_ix {x y : Operand} (ho : o.op = .indexAddr tYs x y) (g p n c i : Nat) (hx : a.eval x = .slice (some ⟨g, p, none⟩) n c) (hy : a.eval y = .int .i64 (i : Int)) (hi : i < n) (h : K (a.put o.dst (.pointer (some ⟨g, p + i * 5, none⟩))) w) : Oper.wp Try.prog o a w K Q := by
  have h1 : ¬ ((i : Int) < 0) := by omega
  have h2 : (i : Int) < (n : Int) := by omega
  unfold Oper.wp execOp
  simp only [ho, hx, hy]
  go_simp
  exact h
theorem wp_allocYr (ho : o.op = .alloc tYr) (h : K (a.put o.dst (.pointer (some ⟨w.heap.size, 0, none⟩))) (w.alloc (Obj.cells zY.toArray tYr))) : Oper.wp Try.prog o a w K Q := by
  unfold Oper.wp execOp
  simp only [ho]
  go_simp
  exact h
theorem wpH_set1 (ty : TypeId) (x y : Operand) (ho : o.op = .store ty x y)
    (b i : Nat) (v : Value) (cs : List Value) (t : TypeId) (hx : a.eval x = .pointer (some ⟨b, i, none⟩)) (hy : a.eval y = v) (hcs : v.cells = #[v]) (r : Row w b cs t) (hl : i < cs.length) (hi : (Try.prog.info? ty).map (·.size) = some 1) (h1 : v.oneCell' = true)
    (h : ∀ X, Row X b (cs.set i v) t → Gro (· = b) w X → K (a.put o.dst undef) X) : Oper.wp Try.prog o a w K Q := by
  have ht := r.there i 1 (by omega)
  have hr : (storeVar ty ⟨b, i, none⟩ v).run Try.prog w = .ok () (w.setCell ⟨b, i, none⟩ v) := by
    have := run_storeCells_cells (P := Try.prog) b i [v] 0 w (fun j hj => by simpa using (ht j (by simpa using hj)).1) (fun j hj => by simpa using (ht j (by simpa using hj)).2) (fun u hu => by simp at hu; rw [hu]; exact h1)
    cases hq : Try.prog.info? ty with
    | none => simp [hq] at hi
    | some ie =>
      have hs : ie.size = 1 := by simpa [hq] using hi
      simp only [Nat.add_zero, World.setCells] at this
      simp [storeVar, sizeOf, typeInfo, hq, hcs, hs, this]
  unfold Oper.wp execOp
  simp only [ho, hx, hy, Instr.storeAt, Instr.sureAddr, Sem.run_bind, Sem.run_pure, Result.andThen_ok, hr]
  exact h _ (r.set i v) ((Gro.refl _ _).set b i v rfl)
end
theorem ldH_As (w : World) (b f : Nat) (v : Value) (h : w.cell? ⟨b, f, none⟩ = some v) : (loadVar tAks ⟨b, f, none⟩).run Try.prog w = .ok v w := by
  simp [loadVar, isAgg, run_underlying Try.underlying37, h]
theorem ldH_Ys (w : World) (b f : Nat) (v : Value) (h : w.cell? ⟨b, f, none⟩ = some v) : (loadVar tYs ⟨b, f, none⟩).run Try.prog w = .ok v w := by
  simp [loadVar, isAgg, run_underlying Try.underlying31, h]

end Go.Proofs.Ytabcglakdlkdcaa
