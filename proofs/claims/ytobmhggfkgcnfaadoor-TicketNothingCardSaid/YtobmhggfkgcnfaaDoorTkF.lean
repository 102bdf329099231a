/-
  tickets, read: laws, cutter, readEight.
-/
import Derived.Test.YtobmhggfkgcnfaaDoorTkE
namespace Go.Proofs.YtobmhggfkgcnfaaDoor
open Go Go.RowKit Go.Maps
open Sha
open Wd

section
variable {P : Program} {o : Oper} {a : Act} {w : World} {K : Act → World → Prop} {Q : Exit → Act → World → Prop}
theorem wp_slice_hi (t e : TypeId) (x z : Operand) (b f n cap k : Nat) (ho : o.op = .slice t x none (some z) none) (hx : a.eval x = .slice (some ⟨b, f, none⟩) n cap) (hz : a.eval z = .int .i64 (k : Int)) (hk : k ≤ cap)
    (hu : P.underlying t = some (.slice e)) {s : Nat} (hs : (P.info? e).map (·.size) = some s) (h : K (a.put o.dst (.slice (some ⟨b, f, none⟩) k cap)) w) : Oper.wp P o a w K Q := by
  cases hq : P.info? e with
  | none => simp [hq] at hs
  | some i =>
    have hr : (Instr.sliceAt t (.slice (some ⟨b, f, none⟩) n cap) none (some (.int .i64 (k : Int))) none).run P w = .ok (.slice (some ⟨b, f, none⟩) k cap) w := by
      simp [Instr.sliceAt, Instr.slice, run_underlying hu, Instr.sliceBounds, Instr.sliceBound, asIntOf, sizeOf, typeInfo, hq, hk, Addr.add_mid]
    unfold Oper.wp execOp
    simp only [ho, hx, hz, Option.map_some, Option.map_none, Sem.run_bind, hr, Result.andThen_ok, Sem.run_pure, Oper.upon_value]
    exact h
end
section
variable {P : Program} {ops : Array Oper} {rest : List Oper} {op : Oper} {a : Act} {w : World} {Q : Exit → Act → World → Prop}
theorem wpList_slice_hi (hw : Region.wanted op (yielded ops a.tmps) = true) (t e : TypeId) (x z : Operand) (ho : op.op = .slice t x none (some z) none) (b f n cap k : Nat) (hx : a.eval x = .slice (some ⟨b, f, none⟩) n cap) (hz : a.eval z = .int .i64 (k : Int)) (hk : k ≤ cap)
    (hu : P.underlying t = some (.slice e)) {s : Nat} (hs : (P.info? e).map (·.size) = some s) (h : wpList P ops Q rest (a.put op.dst (.slice (some ⟨b, f, none⟩) k cap)) w) : wpList P ops Q (op :: rest) a w :=
  BigFrame.wpList_want hw fun _ hK => wp_slice_hi t e x z b f n cap k ho hx hz hk hu hs (hK _ _ h)
end
section
variable {P : Program}
theorem run_slice_from (w : World) (t e ab ao len cap m : Nat) (l : Int) (hl : l = (m : Int)) (hm : m ≤ len) (hu : P.underlying t = some (.slice e)) (hs : (P.info? e).map (·.size) = some 1) :
    (Instr.sliceAt t (.slice (some ⟨ab, ao, none⟩) len cap) (some (.int .i64 l)) none none).run P w = .ok (.slice (some (if cap = m then ⟨ab, ao, none⟩ else ⟨ab, ao + m, none⟩)) (len - m) (cap - m)) w := by
  cases hq : P.info? e with
  | none => simp [hq] at hs
  | some i =>
    have h1 : i.size = 1 := by simpa [hq] using hs
    subst hl
    by_cases h2 : cap = m <;> simp [Instr.sliceAt, Instr.slice, run_underlying hu, Instr.sliceBounds, Instr.sliceBound, asIntOf, sizeOf, typeInfo, hq, h1, h2, Addr.add_mid, hm]

end
/-- A ticket's cells, of entry e. -/
def tkg (n e : Int) (sd : List (BitVec 8)) (tk : Int) (td : List (BitVec 8)) (am : List Value) : List Value := .int .i64 n :: .int .i64 e :: (vB sd ++ (.int .i64 tk :: (vB td ++ am)))
abbrev z4 : List Value := [.int .u64 0, .int .u64 0, .int .u64 0, .int .u64 0]
abbrev tz (e : Int) : List Value := [.int .i64 0, .int .i64 e, .int .u8 0, .int .u8 0, .int .u8 0, .int .u8 0, .int .u8 0, .int .u8 0, .int .u8 0, .int .u8 0, .int .u8 0, .int .u8 0, .int .u8 0, .int .u8 0, .int .u8 0, .int .u8 0, .int .u8 0, .int .u8 0, .int .u8 0, .int .u8 0, .int .u8 0, .int .u8 0, .int .i64 0, .int .u8 0, .int .u8 0, .int .u8 0, .int .u8 0, .int .u8 0, .int .u8 0, .int .u8 0, .int .u8 0, .int .u8 0, .int .u8 0, .int .u8 0, .int .u8 0, .int .u8 0, .int .u8 0, .int .u8 0, .int .u8 0, .int .u8 0, .int .u8 0, .int .u8 0, .int .u8 0, .int .u64 0, .int .u64 0, .int .u64 0, .int .u64 0]
theorem tz_tkg (e : Int) : tz e = tkg 0 e (List.replicate 20 0#8) 0 (List.replicate 20 0#8) z4 := rfl
theorem build_tk1 (w : World) : (Instr.build 29 #[(1, .int .i64 7)]).run Tryd.prog w = .ok (.agg (tz 7).toArray) w := by
  go_simp
theorem build_tk0 (w : World) : (Instr.build 29 #[]).run Tryd.prog w = .ok (.agg (tz 0).toArray) w := by
  go_simp
theorem tz_one (e : Int) {L : List Value} (h : L = tz e) : L.toArray.all (·.oneCell') = true := by
  subst h
  rw [← Array.all_toList]
  rfl
section
variable {P : Program} {ops : Array Oper} {rest : List Oper} {op : Oper} {a : Act} {w : World} {Q : Exit → Act → World → Prop}
theorem wpList_slice_lo (hgd : op.guard = none) (t e : TypeId) (x z : Operand) (ho : op.op = .slice t x (some z) none none) (b f n cap k m c' : Nat) (hx : a.eval x = .slice (some ⟨b, f, none⟩) n cap) (hz : a.eval z = .int .i64 (k : Int)) (hk : k ≤ n) (hm : n - k = m) (hc' : cap - k = c')
    (hu : P.underlying t = some (.slice e)) (hs : (P.info? e).map (·.size) = some 1) (h : ∀ f', (k < cap → f' = f + k) → wpList P ops Q rest (a.put op.dst (.slice (some ⟨b, f', none⟩) m c')) w) : wpList P ops Q (op :: rest) a w :=
  wpList_plain hgd fun _ hK => by
    have hr := run_slice_from (P := P) w t e b f n cap k (k : Int) rfl hk hu hs
    unfold Oper.wp execOp
    simp only [ho, hx, hz, Option.map_some, Option.map_none, Sem.run_bind, hr, Result.andThen_ok, Sem.run_pure, Oper.upon_value]
    subst hm hc'
    by_cases hq : cap = k
    · rw [if_pos hq]
      exact hK _ _ (h f (fun q => by omega))
    · rw [if_neg hq]
      exact hK _ _ (h (f + k) (fun _ => rfl))
set_option maxRecDepth 100000 in
theorem wpList_allocT (hgd : op.guard = none) (ho : op.op = .alloc 29) (h : ∀ X, Row X w.heap.size (tz 0) 29 → Below w.heap.size w X → X.heap.size = w.heap.size + 1 → wpList Tryd.prog ops Q rest (a.put op.dst (.pointer (some ⟨w.heap.size, 0, none⟩))) X) : wpList Tryd.prog ops Q (op :: rest) a w :=
  wpList_plain hgd fun _ hK => by
    unfold Oper.wp execOp
    simp only [ho]
    go_simp
    exact hK _ _ (h _ (Row.new' (cs := tz 0) rfl rfl) ((Below.refl _ _).alloc (Nat.le_refl _) _) (by simp))
theorem wpList_buildT (hgd : op.guard = none) (x : Operand) (ho : op.op = .build 29 #[(1, x)]) (hx : a.eval x = .int .i64 7) (L : List Value) (hL : L = tz 7) (h : wpList Tryd.prog ops Q rest (a.put op.dst (.agg L.toArray)) w) : wpList Tryd.prog ops Q (op :: rest) a w :=
  wpList_plain hgd fun _ hK => by
    subst hL
    have hr := build_tk1 w
    unfold Oper.wp execOp
    simp only [ho, List.map_toArray, List.map_cons, List.map_nil, hx, Sem.run_bind, hr, Result.andThen_ok, Sem.run_pure, Oper.upon_value]
    exact hK _ _ h
theorem wpList_buildZ (hgd : op.guard = none) (ho : op.op = .build 29 #[]) (L : List Value) (hL : L = tz 0) (h : wpList Tryd.prog ops Q rest (a.put op.dst (.agg L.toArray)) w) : wpList Tryd.prog ops Q (op :: rest) a w :=
  wpList_plain hgd fun _ hK => by
    subst hL
    have hr := build_tk0 w
    unfold Oper.wp execOp
    simp only [ho, List.map_toArray, List.map_nil, Sem.run_bind, hr, Result.andThen_ok, Sem.run_pure, Oper.upon_value]
    exact hK _ _ h
/-- A whole struct, stored. -/
theorem wpList_storeL (hgd : op.guard = none) (ty : TypeId) (x y : Operand) (ho : op.op = .store ty x y) (b : Nat) (L M : List Value) (t : TypeId) (hx : a.eval x = .pointer (some ⟨b, 0, none⟩)) (hy : a.eval y = .agg L.toArray) (r : Row w b M t) (hl : L.length = M.length) (hi : (P.info? ty).map (·.size) = some L.length) (h1 : L.toArray.all (·.oneCell') = true)
    (h : ∀ X, X = w.setCells b 0 L → Row X b L t → wpList P ops Q rest (a.put op.dst undef) X) : wpList P ops Q (op :: rest) a w :=
  wpList_store_mid hgd ty x y ho b 0 L.toArray hx hy (r.there 0 _ (by rw [List.size_toArray, hl, Nat.zero_add]; exact Nat.le_refl _)) (by rw [hi, List.size_toArray]) h1 (h _ rfl (r.over hl))
end
theorem patch (p old vs q xs : List Value) (o : Nat) (hx : xs = p ++ old ++ q) (hp : p.length = o) (hl : old.length = vs.length) : xs.take o ++ vs ++ xs.drop (o + vs.length) = p ++ vs ++ q := by
  subst hx hp
  rw [List.append_assoc p old q, List.take_left' rfl, ← List.append_assoc p old q, List.drop_left' (by rw [List.length_append, hl])]
section
variable {n e tk : Int} {sd td : List (BitVec 8)} {am : List Value} {w : World} {b : Nat} {t : TypeId}
theorem tkg_len (h1 : sd.length = 20) (h2 : td.length = 20) (h3 : am.length = 4) : (tkg n e sd tk td am).length = 47 := by
  simp only [tkg, List.length_cons, List.length_append, vB_length, h1, h2, h3]
theorem row_sd (h1 : sd.length = 20) (h2 : td.length = 20) (h3 : am.length = 4) (r : Row w b (tkg n e sd tk td am) t) (x : List (BitVec 8)) (hx : x.length = 20) : Row (w.setCells b 2 (vB x)) b (tkg n e x tk td am) t := by
  have q := Row.setCells 2 (vB x) r (by rw [tkg_len h1 h2 h3, vB_length, hx]; decide)
  rw [patch [.int .i64 n, .int .i64 e] (vB sd) (vB x) (.int .i64 tk :: (vB td ++ am)) (tkg n e sd tk td am) 2 rfl rfl (by rw [vB_length, vB_length, h1, hx])] at q
  exact q
theorem row_tk (h1 : sd.length = 20) (h2 : td.length = 20) (h3 : am.length = 4) (r : Row w b (tkg n e sd tk td am) t) (k : Int) : Row (w.setCell ⟨b, 22, none⟩ (.int .i64 k)) b (tkg n e sd k td am) t := by
  have q := Row.setCells 22 [.int .i64 k] r (by rw [tkg_len h1 h2 h3]; show 22 + 1 ≤ 47; decide)
  rw [patch (.int .i64 n :: .int .i64 e :: vB sd) [.int .i64 tk] [.int .i64 k] (vB td ++ am) (tkg n e sd tk td am) 22 (by simp [tkg]) (by simp [vB_length, h1]) rfl] at q
  have e : (.int .i64 n :: .int .i64 e :: vB sd) ++ [.int .i64 k] ++ (vB td ++ am) = tkg n e sd k td am := by simp [tkg]
  rw [e] at q
  exact q
theorem row_td (h1 : sd.length = 20) (h2 : td.length = 20) (h3 : am.length = 4) (r : Row w b (tkg n e sd tk td am) t) (x : List (BitVec 8)) (hx : x.length = 20) : Row (w.setCells b 23 (vB x)) b (tkg n e sd tk x am) t := by
  have q := Row.setCells 23 (vB x) r (by rw [tkg_len h1 h2 h3, vB_length, hx]; decide)
  rw [patch (.int .i64 n :: .int .i64 e :: (vB sd ++ [.int .i64 tk])) (vB td) (vB x) am (tkg n e sd tk td am) 23 (by simp [tkg]) (by simp [vB_length, h1]) (by rw [vB_length, vB_length, h2, hx])] at q
  have e : (.int .i64 n :: .int .i64 e :: (vB sd ++ [.int .i64 tk])) ++ vB x ++ am = tkg n e sd tk x am := by simp [tkg]
  rw [e] at q
  exact q
theorem row_am (h1 : sd.length = 20) (h2 : td.length = 20) (h3 : am.length = 4) (r : Row w b (tkg n e sd tk td am) t) (x : List Value) (hx : x.length = 4) : Row (w.setCells b 43 x) b (tkg n e sd tk td x) t := by
  have q := Row.setCells 43 x r (by rw [tkg_len h1 h2 h3, hx]; decide)
  rw [patch (.int .i64 n :: .int .i64 e :: (vB sd ++ (.int .i64 tk :: vB td))) am x [] (tkg n e sd tk td am) 43 (by simp [tkg]) (by simp [vB_length, h1, h2]) (by rw [h3, hx])] at q
  have e : (.int .i64 n :: .int .i64 e :: (vB sd ++ (.int .i64 tk :: vB td))) ++ x ++ [] = tkg n e sd tk td x := by simp [tkg]
  rw [e] at q
  exact q
end
theorem stp_copyo {ops : Array Oper} {op : Oper} {a : Act} {w : World} {K : Act → World → Prop} {Q : Exit → Act → World → Prop} {E : Prop} (hgd : op.guard = none) (x y : Operand) (ho : op.op = .call { callee := .builtin .copy, args := #[x, y], argTypes := #[46, 46] }) (g off N n cap : Nat) (A : Option Addr) (d : List (BitVec 8)) (hd : d.length = n)
    (hx : a.eval x = .slice (some ⟨g, off, none⟩) N N) (hy : a.eval y = .slice A n cap) (hv : SlAt w (.slice A n cap) d) (ht : w.there g off (vB (d.take N)).length)
    (h : K (a.put op.dst (goInt (vB (d.take N)).length)) (w.setCells g off (vB (d.take N)))) : if Region.wanted op (yielded ops a.tmps) = true then Oper.wp Tryd.prog op a w K Q else E := by
  have hw : Region.wanted op (yielded ops a.tmps) = true := by simp [Region.wanted, hgd]
  rw [if_pos hw]
  subst hd
  have hl : (vB (d.take N)).length = Nat.min d.length N := by rw [vB_length, List.length_take]; exact Nat.min_comm _ _
  obtain ⟨dst, op', ty, pos, after, guard⟩ := op
  simp only at hgd ho
  subst hgd; subst ho
  have hr : (Builtin.copy_ #[46, 46] ty #[.slice (some ⟨g, off, none⟩) N N, .slice A d.length cap]).run Tryd.prog w = .ok (goInt (vB (d.take N)).length) (w.setCells g off (vB (d.take N))) := by
    rcases hv with ⟨h0, A', c', hv⟩ | ⟨ab, ao, c', hv, _, hr⟩
    · subst h0
      have := run_copy_none (P := Tryd.prog) w 46 46 ty 5 (some ⟨g, off, none⟩) A N N 0 cap Tryd.underlying46 info_u8 (by simp)
      simpa [vB, World.setCells] using this
    · simp only [Value.slice.injEq] at hv
      obtain ⟨rfl, _, _⟩ := hv
      obtain ⟨ie, z, hq, _, hi, _, _⟩ := info_u8open
      have hsrc : ∀ j v, (vB (d.take N))[j]? = some v → w.cell? ((⟨ab, ao, none⟩ : Addr).add j) = some v := fun j v hj => by
        rw [Addr.add_mid]
        refine hr j v ?_
        unfold vB at hj ⊢
        rw [List.map_take, List.getElem?_take] at hj
        split at hj
        · exact hj
        · cases hj
      have hld := run_loadCells_list (P := Tryd.prog) w ⟨ab, ao, none⟩ (vB (d.take N)) hsrc
      have hst := run_storeCells_cells (P := Tryd.prog) g off (vB (d.take N)) 0 w (fun j hj => by simpa using (ht j (by simpa using hj)).1) (fun j hj => by simpa using (ht j (by simpa using hj)).2) (vB_one _)
      simp only [Nat.add_zero] at hst
      simp [Builtin.copy_, run_underlying Tryd.underlying46, Builtin.lenOf, Builtin.firstCells, sizeOf, typeInfo, hq, hi, ← hl, hld, hst]
  unfold Oper.wp
  rw [BigFrame.execOp_builtin, BigFrame.builtin_copy]
  simp only [List.map_toArray, List.map_cons, List.map_nil, hx, hy, Sem.run_bind, hr, Result.andThen_ok, Sem.run_pure, Oper.upon_value]
  exact h
set_option maxRecDepth 100000 in
theorem cut_8_81 (P g o c c' : Nat) (hc : 81 ≤ c) (hc' : c - 8 = c') (w : World) (h : Row w P [.slice (some ⟨g, o, none⟩) 81 c] 46) : Calls Tryd.prog 43 #[.int .i64 8, .pointer (some ⟨P, 0, none⟩)] w fun e w' => e = .returned (.slice (some ⟨g, o, none⟩) 8 c) ∧ Row w' P [.slice (some ⟨g, o + 8, none⟩) 73 c'] 46 ∧ Gro (fun k => k = P) w w' := by
  have g0 := h.cell 0 _ rfl
  have k0 := h.thaw 0
  have HC : Hid (8 ≤ c) := by show _ ≤ _; omega
  have HL : Hid (81 ≤ c) := hc
  have HC' : Hid (c - 8 = c') := hc'
  have HR : Hid (Row w P [.slice (some ⟨g, o, none⟩) 81 c] 46) := h
  clear h hc hc'
  go_enter Tryd.func43, Tryd.ntmps43
  go_wp2_with (first
    | (refine wpList_slice_hi rfl 46 5 (.tmp 5) (.tmp 6) rfl g o 81 c 8 rfl rfl HC.out Tryd.underlying46 info_u8 ?_; simp only [Act.put, List.setIfInBounds_toArray, List.set_cons_zero, List.set_cons_succ])
    | (refine wpList_slice_lo rfl 46 5 (.tmp 8) (.tmp 9) rfl g o 81 c 8 73 c' rfl rfl (by decide) rfl HC'.out Tryd.underlying46 info_u8 ?_; intro f' hv3; have HV3 : Hid (8 < c → f' = o + 8) := hv3; clear hv3; simp only [Act.put, List.setIfInBounds_toArray, List.set_cons_zero, List.set_cons_succ]))
  go_ret
  refine ⟨rfl, ?_, (Gro.refl _ w).set P 0 _ rfl⟩
  rw [← HV3.out (by have := HL.out; omega)]
  exact HR.out.set 0 _
set_option maxRecDepth 100000 in
theorem cut_20_73 (P g o c c' : Nat) (hc : 73 ≤ c) (hc' : c - 20 = c') (w : World) (h : Row w P [.slice (some ⟨g, o, none⟩) 73 c] 46) : Calls Tryd.prog 43 #[.int .i64 20, .pointer (some ⟨P, 0, none⟩)] w fun e w' => e = .returned (.slice (some ⟨g, o, none⟩) 20 c) ∧ Row w' P [.slice (some ⟨g, o + 20, none⟩) 53 c'] 46 ∧ Gro (fun k => k = P) w w' := by
  have g0 := h.cell 0 _ rfl
  have k0 := h.thaw 0
  have HC : Hid (20 ≤ c) := by show _ ≤ _; omega
  have HL : Hid (73 ≤ c) := hc
  have HC' : Hid (c - 20 = c') := hc'
  have HR : Hid (Row w P [.slice (some ⟨g, o, none⟩) 73 c] 46) := h
  clear h hc hc'
  go_enter Tryd.func43, Tryd.ntmps43
  go_wp2_with (first
    | (refine wpList_slice_hi rfl 46 5 (.tmp 5) (.tmp 6) rfl g o 73 c 20 rfl rfl HC.out Tryd.underlying46 info_u8 ?_; simp only [Act.put, List.setIfInBounds_toArray, List.set_cons_zero, List.set_cons_succ])
    | (refine wpList_slice_lo rfl 46 5 (.tmp 8) (.tmp 9) rfl g o 73 c 20 53 c' rfl rfl (by decide) rfl HC'.out Tryd.underlying46 info_u8 ?_; intro f' hv3; have HV3 : Hid (20 < c → f' = o + 20) := hv3; clear hv3; simp only [Act.put, List.setIfInBounds_toArray, List.set_cons_zero, List.set_cons_succ]))
  go_ret
  refine ⟨rfl, ?_, (Gro.refl _ w).set P 0 _ rfl⟩
  rw [← HV3.out (by have := HL.out; omega)]
  exact HR.out.set 0 _
set_option maxRecDepth 100000 in
theorem cut_1_53 (P g o c c' : Nat) (hc : 53 ≤ c) (hc' : c - 1 = c') (w : World) (h : Row w P [.slice (some ⟨g, o, none⟩) 53 c] 46) : Calls Tryd.prog 43 #[.int .i64 1, .pointer (some ⟨P, 0, none⟩)] w fun e w' => e = .returned (.slice (some ⟨g, o, none⟩) 1 c) ∧ Row w' P [.slice (some ⟨g, o + 1, none⟩) 52 c'] 46 ∧ Gro (fun k => k = P) w w' := by
  have g0 := h.cell 0 _ rfl
  have k0 := h.thaw 0
  have HC : Hid (1 ≤ c) := by show _ ≤ _; omega
  have HL : Hid (53 ≤ c) := hc
  have HC' : Hid (c - 1 = c') := hc'
  have HR : Hid (Row w P [.slice (some ⟨g, o, none⟩) 53 c] 46) := h
  clear h hc hc'
  go_enter Tryd.func43, Tryd.ntmps43
  go_wp2_with (first
    | (refine wpList_slice_hi rfl 46 5 (.tmp 5) (.tmp 6) rfl g o 53 c 1 rfl rfl HC.out Tryd.underlying46 info_u8 ?_; simp only [Act.put, List.setIfInBounds_toArray, List.set_cons_zero, List.set_cons_succ])
    | (refine wpList_slice_lo rfl 46 5 (.tmp 8) (.tmp 9) rfl g o 53 c 1 52 c' rfl rfl (by decide) rfl HC'.out Tryd.underlying46 info_u8 ?_; intro f' hv3; have HV3 : Hid (1 < c → f' = o + 1) := hv3; clear hv3; simp only [Act.put, List.setIfInBounds_toArray, List.set_cons_zero, List.set_cons_succ]))
  go_ret
  refine ⟨rfl, ?_, (Gro.refl _ w).set P 0 _ rfl⟩
  rw [← HV3.out (by have := HL.out; omega)]
  exact HR.out.set 0 _
set_option maxRecDepth 100000 in
theorem cut_20_52 (P g o c c' : Nat) (hc : 52 ≤ c) (hc' : c - 20 = c') (w : World) (h : Row w P [.slice (some ⟨g, o, none⟩) 52 c] 46) : Calls Tryd.prog 43 #[.int .i64 20, .pointer (some ⟨P, 0, none⟩)] w fun e w' => e = .returned (.slice (some ⟨g, o, none⟩) 20 c) ∧ Row w' P [.slice (some ⟨g, o + 20, none⟩) 32 c'] 46 ∧ Gro (fun k => k = P) w w' := by
  have g0 := h.cell 0 _ rfl
  have k0 := h.thaw 0
  have HC : Hid (20 ≤ c) := by show _ ≤ _; omega
  have HL : Hid (52 ≤ c) := hc
  have HC' : Hid (c - 20 = c') := hc'
  have HR : Hid (Row w P [.slice (some ⟨g, o, none⟩) 52 c] 46) := h
  clear h hc hc'
  go_enter Tryd.func43, Tryd.ntmps43
  go_wp2_with (first
    | (refine wpList_slice_hi rfl 46 5 (.tmp 5) (.tmp 6) rfl g o 52 c 20 rfl rfl HC.out Tryd.underlying46 info_u8 ?_; simp only [Act.put, List.setIfInBounds_toArray, List.set_cons_zero, List.set_cons_succ])
    | (refine wpList_slice_lo rfl 46 5 (.tmp 8) (.tmp 9) rfl g o 52 c 20 32 c' rfl rfl (by decide) rfl HC'.out Tryd.underlying46 info_u8 ?_; intro f' hv3; have HV3 : Hid (20 < c → f' = o + 20) := hv3; clear hv3; simp only [Act.put, List.setIfInBounds_toArray, List.set_cons_zero, List.set_cons_succ]))
  go_ret
  refine ⟨rfl, ?_, (Gro.refl _ w).set P 0 _ rfl⟩
  rw [← HV3.out (by have := HL.out; omega)]
  exact HR.out.set 0 _
set_option maxRecDepth 100000 in
theorem cut_32_32 (P g o c c' : Nat) (hc : 32 ≤ c) (hc' : c - 32 = c') (w : World) (h : Row w P [.slice (some ⟨g, o, none⟩) 32 c] 46) : Calls Tryd.prog 43 #[.int .i64 32, .pointer (some ⟨P, 0, none⟩)] w fun e w' => e = .returned (.slice (some ⟨g, o, none⟩) 32 c) ∧ (∃ v, Row w' P [v] 46) ∧ Gro (fun k => k = P) w w' := by
  have g0 := h.cell 0 _ rfl
  have k0 := h.thaw 0
  have HC : Hid (32 ≤ c) := by show _ ≤ _; omega
  have HL : Hid (32 ≤ c) := hc
  have HC' : Hid (c - 32 = c') := hc'
  have HR : Hid (Row w P [.slice (some ⟨g, o, none⟩) 32 c] 46) := h
  clear h hc hc'
  go_enter Tryd.func43, Tryd.ntmps43
  go_wp2_with (first
    | (refine wpList_slice_hi rfl 46 5 (.tmp 5) (.tmp 6) rfl g o 32 c 32 rfl rfl HC.out Tryd.underlying46 info_u8 ?_; simp only [Act.put, List.setIfInBounds_toArray, List.set_cons_zero, List.set_cons_succ])
    | (refine wpList_slice_lo rfl 46 5 (.tmp 8) (.tmp 9) rfl g o 32 c 32 0 c' rfl rfl (by decide) rfl HC'.out Tryd.underlying46 info_u8 ?_; intro f' hv3; have HV3 : Hid (32 < c → f' = o + 32) := hv3; clear hv3; simp only [Act.put, List.setIfInBounds_toArray, List.set_cons_zero, List.set_cons_succ]))
  go_ret
  refine ⟨rfl, ?_, (Gro.refl _ w).set P 0 _ rfl⟩
  exact ⟨_, HR.out.set 0 _⟩
set_option maxRecDepth 100000 in
theorem cutter_any (g n cap : Nat) (w : World) : Calls Tryd.prog 32 #[.slice (some ⟨g, 0, none⟩) n cap] w fun e w' => e = .returned (.func (.func 43) #[] #[.pointer (some ⟨w.heap.size, 0, none⟩)]) ∧ Row w' w.heap.size [.slice (some ⟨g, 0, none⟩) n cap] 46 ∧ Below w.heap.size w w' := by
  have hmf : ∀ (fn : Fn) (first cap : Array Value) (w : World), (Instr.makeFunc fn first cap).run Tryd.prog w = .ok (.func fn first cap) w := fun _ _ _ _ => rfl
  go_enter Tryd.func32, Tryd.ntmps32
  go_wp2
  go_ret
  exact ⟨rfl, Row.new' rfl rfl, (Below.refl _ _).alloc (Nat.le_refl _) _⟩
set_option maxRecDepth 100000 in
theorem readEight_7 (g cap : Nat) (w : World) (h : w.rangeAt g 0 (vB [0#8, 0#8, 0#8, 0#8, 0#8, 0#8, 0#8, 7#8])) : Calls Tryd.prog 33 #[.slice (some ⟨g, 0, none⟩) 8 cap] w fun e w' => e = .returned (.int .i64 7) ∧ w' = w := by
  have c0 : w.cell? ⟨g, 0, none⟩ = some (.int .u8 0) := h 0 _ rfl
  have c1 : w.cell? ⟨g, 1, none⟩ = some (.int .u8 0) := h 1 _ rfl
  have c2 : w.cell? ⟨g, 2, none⟩ = some (.int .u8 0) := h 2 _ rfl
  have c3 : w.cell? ⟨g, 3, none⟩ = some (.int .u8 0) := h 3 _ rfl
  have c4 : w.cell? ⟨g, 4, none⟩ = some (.int .u8 0) := h 4 _ rfl
  have c5 : w.cell? ⟨g, 5, none⟩ = some (.int .u8 0) := h 5 _ rfl
  have c6 : w.cell? ⟨g, 6, none⟩ = some (.int .u8 0) := h 6 _ rfl
  have c7 : w.cell? ⟨g, 7, none⟩ = some (.int .u8 7) := h 7 _ rfl
  have b00 : bits BinOp.or IntKind.i64 0 0 = 0 := by decide +kernel
  have b07 : bits BinOp.or IntKind.i64 0 7 = 7 := by decide +kernel
  clear h
  go_enter Tryd.func33, Tryd.ntmps33
  go_wp2_with fail
  refine wp_loop_rounds 9 ?_
  rw [rounds_succ]
  go_wp2_with fail
  rw [rounds_succ]
  go_wp2_with fail
  rw [rounds_succ]
  go_wp2_with fail
  rw [rounds_succ]
  go_wp2_with fail
  rw [rounds_succ]
  go_wp2_with fail
  rw [rounds_succ]
  go_wp2_with fail
  rw [rounds_succ]
  go_wp2_with fail
  rw [rounds_succ]
  go_wp2_with fail
  rw [rounds_succ]
  go_wp2_with fail
  go_ret
  exact ⟨rfl, rfl⟩

end Go.Proofs.YtobmhggfkgcnfaaDoor
