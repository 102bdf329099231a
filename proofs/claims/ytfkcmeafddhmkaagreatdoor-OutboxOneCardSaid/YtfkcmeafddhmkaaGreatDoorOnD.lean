/-
  the law OutboxOne: its walk.
-/
import Derived.Test.YtfkcmeafddhmkaaGreatDoorOnC
import Derived.Test.YtfkcmeafddhmkaaGreatDoorOnB
import Derived.Test.YtfkcmeafddhmkaaGreatDoorOcF
import Derived.Test.YtfkcmeafddhmkaaGreatDoorOkA
namespace Go.Proofs.YtfkcmeafddhmkaaGreatDoor
open Go Go.RowKit
open Sha

def otc (idx : Int) (r : Rwv) (v : Value) : List Value := .int .i64 idx :: (rwc r ++ [v])
section
variable {idx : Int} {r : Rwv} {v : Value} {w : World} {b : Nat}
theorem ot_idx (h : Row w b (otc idx r v) 32) : w.cell? ⟨b, 0, none⟩ = some (.int .i64 idx) := h.cell 0 _ rfl
theorem ot_raw (h : Row w b (otc idx r v) 32) : w.rangeAt b 1 (rwc r) := h.range 1 _ (fun j u hj => by
  have hlt := (List.getElem?_eq_some_iff.1 hj).1
  rw [show 1 + j = j + 1 by omega]
  exact (List.getElem?_append_left hlt).trans hj)
theorem ot_path (h : Row w b (otc idx r v) 32) (hr : r.Ok) : w.cell? ⟨b, 27, none⟩ = some v := h.cell 27 _ (by
  show (rwc r ++ [v])[26]? = _
  rw [List.getElem?_append_right (by rw [rwc_len hr]; exact Nat.le_refl _), rwc_len hr]
  rfl)
end
theorem ot_len {idx : Int} {r : Rwv} {v : Value} (hr : r.Ok) : (otc idx r v).length = 28 := by
  unfold otc
  rw [List.length_cons, List.length_append, rwc_len hr]
  rfl
theorem pk_at (c : Int) (N : Nat) (h : 0 < N) : ∃ i : Nat, pk c (N : Int) = (i : Int) ∧ i < N := by
  have q := pk_range c (N : Int) (by omega)
  exact ⟨(pk c (N : Int)).toNat, by omega, by omega⟩
/-- All below stays. -/
structure Blw (Z W : World) : Prop where
  h : Below Z.heap.size Z W
theorem Blw.below {Z W W2 : World} (h : Blw Z W) (k : Below W.heap.size W W2) : Blw Z W2 := ⟨h.h.trans (k.mono h.h.size)⟩
/-- A slot that holds texts. -/
def SP.txs (M : Nat) (ts : List (List (BitVec 8))) : SP := ⟨fun W v => ∃ vs, Txs W M v ts vs, fun _ _ _ hB ⟨vs, h⟩ => ⟨vs, h.below hB⟩⟩
theorem txk_short (ss : List Bool) (ds : List (List (BitVec 8))) (lf : List (BitVec 8)) (h : ∀ d ∈ ds, d.length = 32) (hl : lf.length ≤ 153) : ∀ k, (txk ss ds lf k).length ≤ 154
  | 0 => by simp [txk]; omega
  | k + 1 => by
    have hd : (ds.getD k []).length ≤ 32 := by
      rw [List.getD_eq_getElem?_getD]
      cases hq : ds[k]? with
      | none => simp
      | some d => simp [h d (List.mem_of_getElem? hq)]
    have h2 := dig_length (txk ss ds lf k)
    unfold txk
    split
    · simp only [List.length_append, List.length_cons, List.length_nil]; omega
    · simp only [List.length_append, List.length_cons, List.length_nil]; omega
theorem two_short (ss : List Bool) (us vs : List (List (BitVec 8))) (x y : List (BitVec 8)) (hu : ∀ d ∈ us, d.length = 32) (hv : ∀ d ∈ vs, d.length = 32) (hx : x.length ≤ 153) (hy : y.length ≤ 153) (a b n : Nat) (hn : a + b = n) : ∀ i, i < n → ((txs ss us x a ++ txs ss vs y b).getD i []).length ≤ 140737488355000 := fun i hi => by
  rw [List.getD_eq_getElem?_getD]
  by_cases h : i < a
  · rw [List.getElem?_append_left (by rw [txs_length]; exact h), ← List.getD_eq_getElem?_getD, txs_get _ _ _ _ _ h]
    have := txk_short ss us x hu hx i
    omega
  · rw [List.getElem?_append_right (by rw [txs_length]; omega), txs_length, ← List.getD_eq_getElem?_getD, txs_get _ _ _ _ _ (by omega)]
    have := txk_short ss vs y hv hy (i - a)
    omega
/-- Check at a place that is there. -/
theorem okc_in (root : List (BitVec 8)) (N i : Nat) (hi : i < N) (hN : N ≤ 1099511627776) (r : Rwv) (ds : List (List (BitVec 8))) : okc root (N : Int) (i : Int) (pk r.en 1099511627776) (pk r.tk 64) r.rc (am9 r.am) ds = if ds.length = pl N i ∧ rb N i (rwt r i) ds = root then 0 else 113 := by
  unfold okc
  rw [if_neg (by rw [rw_may r i (by omega)]; decide), if_neg (by omega), if_neg (by omega)]
  have hck : ck root (N : Int) (i : Int) (rwt r i) ds = if ds.length = pl N i ∧ rb N i (rwt r i) ds = root then 0 else 43 := by
    unfold ck
    rw [if_neg (by omega), if_neg (by omega), Int.toNat_natCast, Int.toNat_natCast]
  change (if ck root (N : Int) (i : Int) (rwt r i) ds = 0 then (0 : Int) else 113) = _
  rw [hck]
  split
  · rw [if_pos rfl]
  · rw [if_neg (by decide)]
section
variable {ops : Array Oper} {rest : List Oper} {op : Oper} {a : Act} {w : World} {Q : Exit → Act → World → Prop}
theorem info_ds4 : ∃ ie z, Tryz.prog.info? 30 = some ie ∧ ie.zero = some z ∧ ie.size = 1 ∧ z.cells.size = 1 := by
  have i1 : (Tryz.prog.info? 30).map (fun i => (i.zero, i.size)) = some (some (.slice none 0 0), 1) := by kernel_rfl
  cases hi : Tryz.prog.info? 30 with
  | none => rw [hi] at i1; cases i1
  | some ie =>
    rw [hi] at i1
    simp only [Option.map_some, Option.some.injEq, Prod.mk.injEq] at i1
    exact ⟨ie, _, rfl, i1.1, i1.2, rfl⟩
theorem fill_two (u v : Value) (hu : u.cells = #[u]) (hv : v.cells = #[v]) (cells : Array Value) (hn : cells.size = 2) : Instr.fill (fun i => some (i * 1, 1)) cells [(0, u), (1, v)] = some #[u, v] := by
  obtain ⟨r, hr, hsz, hk⟩ := Great.fill_dense (s := 1) (by decide) [u, v] 0 cells (fun x hx => by rcases List.mem_cons.1 hx with rfl | hx; rw [hu]; rfl; obtain rfl := List.mem_singleton.1 hx; rw [hv]; rfl) (by simp; omega)
  have hr' : Instr.fill (fun i => some (i * 1, 1)) cells [(0, u), (1, v)] = some r := hr
  rw [hr']
  congr 1
  apply Array.ext_getElem?
  intro j
  rw [hk j]
  rcases (show j = 0 ∨ j = 1 ∨ 2 ≤ j by omega) with rfl | rfl | h
  · rw [if_pos (by simp)]
    show (([u, v][0]?).getD default).cells[0]? = _
    rw [show (([u, v][0]?).getD default) = u from rfl, hu]
    rfl
  · rw [if_pos (by simp)]
    show (([u, v][1]?).getD default).cells[0]? = _
    rw [show (([u, v][1]?).getD default) = v from rfl, hv]
    rfl
  · rw [if_neg (by simp; omega), Array.getElem?_eq_none (by omega), Array.getElem?_eq_none (by simp; omega)]
theorem wpList_buildTwo (hgd : op.guard = none) (x y : Operand) (ho : op.op = .buildSlice 49 2 #[(0, x), (1, y)]) (u v : Value) (hu : u.cells = #[u]) (hv : v.cells = #[v]) (hx : a.eval x = u) (hy : a.eval y = v)
    (h : ∀ X, Row X w.heap.size [u, v] 30 → Below w.heap.size w X → wpList Tryz.prog ops Q rest (a.put op.dst (.slice (some ⟨w.heap.size, 0, none⟩) 2 2)) X) : wpList Tryz.prog ops Q (op :: rest) a w := by
  obtain ⟨ie, z, h1, h2, h3, h4⟩ := info_ds4
  refine wpList_buildSlice hgd 49 30 2 _ ho #[u, v] ie z Tryz.underlying49 h1 h2 (by rw [h3]; omega) (by rw [h3]; omega) ?_ (h _ (Row.new' rfl rfl) ((Below.refl _ _).alloc (Nat.le_refl _) _))
  rw [show (Array.map (fun (p : Nat × Operand) => match p with | (i, x) => (i, a.eval x)) #[(0, x), (1, y)]).toList = [(0, a.eval x), (1, a.eval y)] by simp, hx, hy, h3]
  exact fill_two _ _ hu hv _ (by simp)
theorem info_dss : (Tryz.prog.info? 30).map (·.size) = some 1 := by kernel_rfl
theorem ld_ds (w : World) (b f : Nat) (v : Value) (h : w.cell? ⟨b, f, none⟩ = some v) : (loadVar 30 ⟨b, f, none⟩).run Tryz.prog w = .ok v w := by
  simp [loadVar, isAgg, run_underlying Tryz.underlying30, h]
end
set_option maxRecDepth 100000 in
set_option maxHeartbeats 4000000 in
theorem one_walk11 (rs0 : List Rwv) (A0 : Option Addr) (n0 c0 : Nat) (hn0 : n0 = rs0.length) (hc0 : n0 ≤ c0) (idx : Int) (hi0 : -9223372036854775808 ≤ idx) (hi1 : idx ≤ 9223372036854775807) (r2 : Rwv) (hr2 : r2.Ok) (ds2 : List (List (BitVec 8))) (PA : Option Addr) (k2 pc : Nat) (hk2 : k2 = ds2.length) (hkb : k2 ≤ 4398046511104) (hnil2 : PA = none → pc = 0) (CC : List Value) (hC : CC = otc idx r2 (.slice PA k2 pc)) (w : World) (hG : Given w) (h0 : Ra w A0 rs0) (hp2 : PAt w (.slice PA k2 pc) ds2) :
    Calls Tryz.prog 3 #[.slice A0 n0 c0, .agg CC.toArray] w fun e w' => e = .returned (.bool true) ∧ Below w.heap.size w w' := by
  obtain ⟨l, hl⟩ : ∃ l, l = rs0.take 200 := ⟨_, rfl⟩
  obtain ⟨N, hN⟩ : ∃ N, N = l.length := ⟨_, rfl⟩
  have hN2 : N ≤ 200 := by rw [hN, hl, List.length_take]; omega
  have HF0 : Hid (∀ X, Below w.heap.size w X → Calls Tryz.prog 4 #[.slice A0 n0 c0] X fun e w' => e = .returned (.slice A0 N c0) ∧ w' = X) := fun X k => few_any rs0 A0 n0 c0 hn0 hc0 N (by rw [hN, hl]) X (h0.be k)
  have HL : Hid (Ra w A0 l) := by rw [hl]; exact h0.take 200
  have HB0 : Hid (∀ X, Below w.heap.size w X → Calls Tryz.prog 5 #[.slice A0 N c0] X fun e w' => ∃ B v, e = .returned (.pointer (some ⟨B, 0, none⟩)) ∧ Bk X w' B v (bts l)) := fun X k => booked_any l A0 N c0 hN (by omega) X (HL.out.be k)
  have HNl : Hid (N = l.length) := hN
  have HOL : Hid (∀ r ∈ l, r.Ok) := HL.out.ok
  have HG : Hid (Given w) := hG
  have HR2 : Hid (r2.Ok) := hr2
  have HC : Hid (CC = otc idx r2 (.slice PA k2 pc)) := hC
  have HK2 : Hid (k2 = ds2.length) := hk2
  have HP2 : Hid (PAt w (.slice PA k2 pc) ds2) := hp2
  have HNI2 : Hid (PA = none → pc = 0) := hnil2
  clear hl hN hn0 hc0 hG h0 hr2 hC hk2 hp2 hnil2
  go_enter Tryz.func3, Tryz.ntmps3
  go_upto_region 1 with (refine wpList_boxG 32 rfl (.tmp 1) rfl CC rfl ?_; intro X1 q1 q2 q3; rw [HC.out] at q1; have RC0 : Hid (Row X1 w.heap.size (otc idx r2 (.slice PA k2 pc)) 32) := q1; have HB0w : Hid (Below w.heap.size w X1) := q2; clear q1 q2 q3; simp only [Act.put, List.setIfInBounds_toArray, List.set_cons_zero, List.set_cons_succ])
  obtain ⟨x0, hx0⟩ : ∃ x0, x0 = w.heap.size := ⟨_, rfl⟩
  rw [← hx0] at RC0 ⊢
  clear hx0
  go_upto_region 2 with (go_at_call 4; refine Calls.mono (HF0.out X1 HB0w.out) ?_; rintro e X ⟨rfl, hq⟩; obtain rfl := hq.symm)
  have HBa0 : Hid (Below w.heap.size w X1) := HB0w
  clear HB0w HF0
  go_upto_region 3 with (go_at_call 5; refine Calls.mono (HB0.out X1 HBa0.out) ?_; rintro e X2 ⟨B, v, rfl, p⟩; have HBa1 : Hid (Below w.heap.size w X2) := HBa0.out.trans (p.be.mono HBa0.out.size); have RC1 : Hid (Row X2 x0 (otc idx r2 (.slice PA k2 pc)) 32) := Row.below RC0.out p.be RC0.out.lt; have K1 : Hid (Bk X1 X2 B v (bts l)) := p; clear p)
  clear HB0 HBa0 RC0
  go_upto_region 5 with (go_at_call 6; refine Calls.mono (obk_any X2) ?_; rintro e X3 ⟨rfl, p⟩; have HBa2 : Hid (Below w.heap.size w X3) := HBa1.out.trans (p.mono HBa1.out.size); have RC2 : Hid (Row X3 x0 (otc idx r2 (.slice PA k2 pc)) 32) := Row.below RC1.out p RC1.out.lt; have K2 : Hid (Bk X1 X3 B v (bts l)) := K1.out.keep p; clear p)
  clear HBa1 RC1 K1
  by_cases hN0 : N = 0
  · subst hN0
    go_wp2
    go_ret
    exact ⟨rfl, HBa2.out⟩
  obtain ⟨i, hpk, hiN⟩ := pk_at idx N (by omega)
  have hN0' : ¬ ((N : Int) = 0) := by omega
  have HPK : Hid (Calls Tryz.prog 7 #[.int .i64 idx, .int .i64 (N : Int)] X3 fun e w' => e = .returned (.int .i64 (i : Int)) ∧ w' = X3) := by rw [← hpk]; exact pick11 idx (N : Int) (by omega) hi0 hi1 (by omega) X3
  have c0 := ot_idx RC2.out
  clear hpk hN0
  go_upto_region 8 with (go_at_call 7; refine Calls.mono HPK.out ?_; rintro e X ⟨rfl, hq⟩; obtain rfl := hq.symm)
  clear HPK c0 hN0'
  obtain ⟨ts, hts⟩ : ∃ ts, ts = bts l := ⟨_, rfl⟩
  have HTS : Hid (ts = bts l) := hts
  have HTL : Hid (ts.length = N) := by show _ = _; rw [hts, bts_len, HNl.out]
  have HTE : Hid (∀ j, (ts.getD j []).length ≤ 153) := by rw [hts]; exact bts_each l HOL.out
  rw [← hts] at K2
  obtain ⟨dd, hdd⟩ : ∃ dd, dd = rt ts := ⟨_, rfl⟩
  obtain ⟨ds, hds⟩ : ∃ ds, ds = pt i ts := ⟨_, rfl⟩
  have h32 : dd.length = 32 := by rw [hdd]; exact rt_length _
  obtain ⟨r1, hr1⟩ : ∃ r1, l[i]? = some r1 := ⟨_, List.getElem?_eq_getElem (by rw [← HNl.out]; exact hiN)⟩
  have hok1 := HOL.out r1 (List.mem_of_getElem? hr1)
  have HOK1 : Hid (r1.Ok) := hok1
  have htg : ts.getD i [] = rwt r1 i := by rw [hts, List.getD_eq_getElem?_getD, bts_get, hr1]; rfl
  have HRB : Hid (rb N i (rwt r1 i) ds = dd) := by show _ = _; rw [hds, hdd, ← htg]; exact rb_pt N i ts HTL.out hiN (by omega)
  have HDL : Hid (ds.length = pl N i) := by show _ = _; rw [hds]; exact pt_length N i ts HTL.out (by omega) (by omega)
  have HD32 : Hid (∀ d ∈ ds, d.length = 32) := by rw [hds]; exact pt_each N i ts HTL.out (by omega) (by omega)
  have hdb : ds.length ≤ 200 := by rw [HDL.out]; have := pl_lt N i (by omega) (by omega); omega
  have HRO : Hid (Calls Tryz.prog 8 #[.pointer (some ⟨B, 0, none⟩), .int .i64 (N : Int)] X3 fun e w' => e = .returned (.tuple #[.agg (vB dd).toArray, .int .i64 0]) ∧ Below X3.heap.size X3 w') := root_bk X1 B v ts (by rw [HTL.out]; omega) HTE.out N (by rw [HTL.out]; exact Nat.le_refl _) dd (by rw [hdd, List.take_of_length_le (by rw [HTL.out]; exact Nat.le_refl _)]) X3 ((HG.out.low HBa2.out).cub) K2.out
  have HPA : Hid (∀ X, Below w.heap.size w X → Bk X1 X B v ts → Calls Tryz.prog 9 #[.pointer (some ⟨B, 0, none⟩), .int .i64 (i : Int), .int .i64 (N : Int)] X fun e w' => ∃ A cap, e = .returned (.tuple #[.slice A ds.length cap, .int .i64 0]) ∧ PAt w' (.slice A ds.length cap) ds ∧ Below X.heap.size X w') := fun X k h => path_bk X1 B v ts (by rw [HTL.out]; omega) HTE.out i N HTL.out.symm hiN ds hds X ((HG.out.low k).cub) h
  have HID : Hid ((Tryz.prog.info? 39).map (·.size) = some (vB dd).length) := info_dg11 dd h32
  have HLD : Hid ((vB dd).length = (vB (List.replicate 32 0#8)).length) := by show _ = _; rw [vB_length, vB_length, h32]; rfl
  have HDD : Hid (dd.length = 32) := h32
  obtain ⟨Lx, hLx⟩ : ∃ L, L = rwl r1 i := ⟨_, rfl⟩
  obtain ⟨Ly, hLy⟩ : ∃ L, L = rwl r2 i := ⟨_, rfl⟩
  obtain ⟨R1, hR1⟩ : ∃ R, R = rwc r1 := ⟨_, rfl⟩
  obtain ⟨R2, hR2⟩ : ∃ R, R = rwc r2 := ⟨_, rfl⟩
  have HLX : Hid (∀ X, Calls Tryz.prog 10 #[.agg R1.toArray, .int .i64 (i : Int)] X fun e w' => e = .returned (.agg Lx.toArray) ∧ Below X.heap.size X w') := fun X => by rw [hLx]; exact rleaf_any r1 hok1 i R1 hR1 X
  have HLY : Hid (∀ X, Calls Tryz.prog 10 #[.agg R2.toArray, .int .i64 (i : Int)] X fun e w' => e = .returned (.agg Ly.toArray) ∧ Below X.heap.size X w') := fun X => by rw [hLy]; exact rleaf_any r2 HR2.out i R2 hR2 X
  have HI1 : Hid ((Tryz.prog.info? 29).map (·.size) = some R1.length) := by show _ = _; rw [hR1, rwc_len hok1]; exact info_raw
  have HI2 : Hid ((Tryz.prog.info? 29).map (·.size) = some R2.length) := by show _ = _; rw [hR2, rwc_len HR2.out]; exact info_raw
  have HIX : Hid ((Tryz.prog.info? 46).map (·.size) = some Lx.length) := by rw [hLx]; exact info_lf hok1.rc (am9_len hok1.am)
  have HIY : Hid ((Tryz.prog.info? 46).map (·.size) = some Ly.length) := by rw [hLy]; exact info_lf HR2.out.rc (am9_len HR2.out.am)
  have HZX : Hid (Lx.length = zLf.length) := by show _ = _; rw [hLx]; exact lf_len hok1.rc (am9_len hok1.am)
  have HZY : Hid (Ly.length = zLf.length) := by show _ = _; rw [hLy]; exact lf_len HR2.out.rc (am9_len HR2.out.am)
  have HOX : Hid (Lx.toArray.all (·.oneCell') = true) := by rw [hLx]; exact lf_all
  have HOY : Hid (Ly.toArray.all (·.oneCell') = true) := by rw [hLy]; exact lf_all
  have HCX : Hid (∀ X PX kx cx dx, Below w.heap.size w X → PAt X (.slice PX kx cx) dx → Calls Tryz.prog 11 #[.agg (vB dd).toArray, .int .i64 (N : Int), .agg Lx.toArray, .slice PX kx cx] X fun e w' => e = .returned (.int .i64 (okc dd (N : Int) (i : Int) (pk r1.en 1099511627776) (pk r1.tk 64) r1.rc (am9 r1.am) dx)) ∧ Below X.heap.size X w') := fun X PX kx cx dx h1 h2 => ocheck_any dd h32 (N : Int) (i : Int) _ _ r1.rc (am9 r1.am) hok1.rc (am9_len hok1.am) (am9_q hok1.q) Lx hLx dx PX kx cx X ((HG.out.low h1).cub) h2
  have HCY : Hid (∀ X PX kx cx dx, Below w.heap.size w X → PAt X (.slice PX kx cx) dx → Calls Tryz.prog 11 #[.agg (vB dd).toArray, .int .i64 (N : Int), .agg Ly.toArray, .slice PX kx cx] X fun e w' => e = .returned (.int .i64 (okc dd (N : Int) (i : Int) (pk r2.en 1099511627776) (pk r2.tk 64) r2.rc (am9 r2.am) dx)) ∧ Below X.heap.size X w') := fun X PX kx cx dx h1 h2 => ocheck_any dd h32 (N : Int) (i : Int) _ _ r2.rc (am9 r2.am) HR2.out.rc (am9_len HR2.out.am) (am9_q HR2.out.q) Ly hLy dx PX kx cx X ((HG.out.low h1).cub) h2
  have HO1 : Hid (okc dd (N : Int) (i : Int) (pk r1.en 1099511627776) (pk r1.tk 64) r1.rc (am9 r1.am) ds = 0) := by show _ = _; rw [okc_in dd N i hiN (by omega) r1 ds, if_pos ⟨HDL.out, HRB.out⟩]
  have hfrm : ∀ (r : Rwv), r.Ok → ∀ X, Calls Tryz.prog 13 #[.agg (rwl r i).toArray] X fun e w' => ∃ A cap, e = .returned (.slice A (rwt r i).length cap) ∧ (A = none → cap = 0) ∧ Bw w' (.slice A (rwt r i).length cap) (rwt r i) ∧ Below X.heap.size X w' := fun r hr X => by
    have hmy := rw_may r i (by omega)
    have hmi := may_in hmy
    refine (form_doc (i : Int) _ _ (by omega) (by omega) (by omega) r.rc (am9 r.am) hr.rc (am9_len hr.am) (am9_q hr.q) (rwl r i) rfl X).mono ?_
    rintro e w' ⟨v, rfl, q1, _, q3⟩
    rw [formB_may _ _ _ _ _ hmy] at q1
    obtain ⟨A, cap, e, _, hn⟩ := Bw.form q1
    subst e
    exact ⟨A, cap, rfl, hn, q1, q3⟩
  obtain ⟨tx, htx⟩ : ∃ t, t = rwt r1 i := ⟨_, rfl⟩
  obtain ⟨ty, hty⟩ : ∃ t, t = rwt r2 i := ⟨_, rfl⟩
  have HFX : Hid (∀ X, Calls Tryz.prog 13 #[.agg Lx.toArray] X fun e w' => ∃ A cap, e = .returned (.slice A tx.length cap) ∧ (A = none → cap = 0) ∧ Bw w' (.slice A tx.length cap) tx ∧ Below X.heap.size X w') := fun X => by rw [htx, hLx]; exact hfrm r1 hok1 X
  have HFY : Hid (∀ X, Calls Tryz.prog 13 #[.agg Ly.toArray] X fun e w' => ∃ A cap, e = .returned (.slice A ty.length cap) ∧ (A = none → cap = 0) ∧ Bw w' (.slice A ty.length cap) ty ∧ Below X.heap.size X w') := fun X => by rw [hty, hLy]; exact hfrm r2 HR2.out X
  have HTXL : Hid (tx.length ≤ 153) := by show _ ≤ _; rw [htx]; exact lfb_len _ _ _ _ _ hok1.rc
  have HTYL : Hid (ty.length ≤ 153) := by show _ ≤ _; rw [hty]; exact lfb_len _ _ _ _ _ HR2.out.rc
  obtain ⟨BN, hBN⟩ : ∃ BN, BN = !(decide (pk r1.en 1099511627776 = pk r2.en 1099511627776) && decide (pk r1.tk 64 = pk r2.tk 64) && decide (r1.rc = r2.rc) && decide (am9 r1.am = am9 r2.am)) := ⟨_, rfl⟩
  have HNE : Hid (∀ w, (binOp .neq 46 (.agg Lx.toArray) (.agg Ly.toArray)).run Tryz.prog w = .ok (.bool BN) w) := fun w => by rw [hLx, hLy]; exact neG _ _ _ _ _ _ _ _ _ hok1.rc HR2.out.rc (am9_len hok1.am) (am9_len HR2.out.am) BN hBN w
  have HUN : Hid (BN = true → tx ≠ ty) := fun h e => by
    rw [htx, hty] at e
    obtain ⟨_, e1, e2, e3, e4⟩ := lfb_inj _ _ _ _ _ _ _ _ _ _ (rw_may r1 i (by omega)) (rw_may r2 i (by omega)) hok1.rc HR2.out.rc (am9_len hok1.am) (am9_len HR2.out.am) (am9_q hok1.q) (am9_q HR2.out.q) e
    rw [hBN, e1, e2, e3, e4] at h
    simp at h
  have HTX : Hid (tx = rwt r1 i) := htx
  have HTY : Hid (ty = rwt r2 i) := hty
  have HR2E : Hid (R2 = rwc r2) := hR2
  obtain ⟨hokA, b, o, hA0, hrg⟩ := HL.out i r1 hr1
  subst hA0
  have HRG : Hid (w.rangeAt b (o + i * 26) R1) := by rw [hR1]; exact hrg
  have hib : i ≤ 200 := by omega
  clear hdd hds h32 hr1 hok1 htg hLx hLy hR1 hR2 hfrm htx hty hBN hokA hrg hts HTE HTL
  go_upto_region 9 with (first
    | (go_at_call 8; refine Calls.mono HRO.out ?_; rintro e X4 ⟨rfl, p⟩; have HBa3 : Hid (Below w.heap.size w X4) := HBa2.out.trans (p.mono HBa2.out.size); have RC3 : Hid (Row X4 x0 (otc idx r2 (.slice PA k2 pc)) 32) := Row.below RC2.out p RC2.out.lt; have K3 : Hid (Bk X1 X4 B v ts) := K2.out.keep p; clear p)
    | (refine wpList_allocDg rfl rfl ?_; intro X5 q1 q2; have RZ : Hid (Row X5 X4.heap.size (vB (List.replicate 32 0#8)) 39) := q1; have BZ : Hid (Below X4.heap.size X4 X5) := q2; clear q1 q2; simp only [Act.put, List.setIfInBounds_toArray, List.set_cons_zero, List.set_cons_succ])
    | (refine wpList_storeL rfl 39 (.tmp 8) (.tmp 42) rfl X4.heap.size (vB dd) (vB (List.replicate 32 0#8)) 39 rfl rfl RZ.out HLD.out HID.out (vB_all11 dd) ?_; intro X6 q1 q2; have p : Below X4.heap.size X4 X6 := (by rw [q1]; exact below_setCells BZ.out (Nat.le_refl _) _); have HBa4 : Hid (Below w.heap.size w X6) := HBa3.out.trans (p.mono HBa3.out.size); have RC4 : Hid (Row X6 x0 (otc idx r2 (.slice PA k2 pc)) 32) := Row.below RC3.out p RC3.out.lt; have K4 : Hid (Bk X1 X6 B v ts) := K3.out.keep p; have RD4 : Hid (Row X6 X4.heap.size (vB dd) 39) := q2; clear p q1 q2; simp only [Act.put]))
  obtain ⟨y8, hy8⟩ : ∃ y8, y8 = X4.heap.size := ⟨_, rfl⟩
  rw [← hy8] at RD4 ⊢
  clear hy8 HBa2 RC2 K2 HBa3 RC3 K3 RZ BZ HRO HLD
  go_upto_region 12 with (go_at_call 9; refine Calls.mono (HPA.out X6 HBa4.out K4.out) ?_; rintro e X7 ⟨Ap, cp, rfl, p1, p⟩; have HBa5 : Hid (Below w.heap.size w X7) := HBa4.out.trans (p.mono HBa4.out.size); have RC5 : Hid (Row X7 x0 (otc idx r2 (.slice PA k2 pc)) 32) := Row.below RC4.out p RC4.out.lt; have K5 : Hid (Bk X1 X7 B v ts) := K4.out.keep p; have RD5 : Hid (Row X7 y8 (vB dd) 39) := Row.below RD4.out p RD4.out.lt; have PR5 : Hid (PAt X7 (.slice Ap ds.length cp) ds) := p1; clear p p1)
  obtain ⟨kd, hkd⟩ : ∃ kd, kd = ds.length := ⟨_, rfl⟩
  rw [← hkd] at PR5 HDL hdb ⊢
  have HKD : Hid (kd = ds.length) := hkd
  clear hkd HPA HBa4 RC4 K4 RD4
  have HRG7 : Hid (X7.rangeAt b (o + i * 26) R1) := range_be HRG.out HBa5.out
  clear HRG
  go_upto_region 13 with (first
    | (refine wpList_load_w rfl 29 (.tmp 60) rfl b (o + i * 26) rfl R1 _ HRG7.out Tryz.underlying29 rfl HI1.out ?_; simp only [Act.put, List.setIfInBounds_toArray, List.set_cons_zero, List.set_cons_succ])
    | (go_at_call 10; refine Calls.mono (HLX.out X7) ?_; rintro e X8 ⟨rfl, p⟩; have HBa6 : Hid (Below w.heap.size w X8) := HBa5.out.trans (p.mono HBa5.out.size); have RC6 : Hid (Row X8 x0 (otc idx r2 (.slice PA k2 pc)) 32) := Row.below RC5.out p RC5.out.lt; have K6 : Hid (Bk X1 X8 B v ts) := K5.out.keep p; have RD6 : Hid (Row X8 y8 (vB dd) 39) := Row.below RD5.out p RD5.out.lt; have PR6 : Hid (PAt X8 (.slice Ap kd cp) ds) := PR5.out.below p; clear p)
    | (refine wpList_allocLf rfl rfl ?_; intro X9 q1 q2 q3; have RZ : Hid (Row X9 X8.heap.size zLf 46) := q1; have BZ : Hid (Below X8.heap.size X8 X9) := q2; clear q1 q2 q3; simp only [Act.put, List.setIfInBounds_toArray, List.set_cons_zero, List.set_cons_succ])
    | (refine wpList_storeL rfl 46 (.tmp 12) (.tmp 63) rfl X8.heap.size Lx zLf 46 rfl rfl RZ.out HZX.out HIX.out HOX.out ?_; intro X10 q1 q2; have p : Below X8.heap.size X8 X10 := (by rw [q1]; exact below_setCells BZ.out (Nat.le_refl _) _); have HBa7 : Hid (Below w.heap.size w X10) := HBa6.out.trans (p.mono HBa6.out.size); have RC7 : Hid (Row X10 x0 (otc idx r2 (.slice PA k2 pc)) 32) := Row.below RC6.out p RC6.out.lt; have K7 : Hid (Bk X1 X10 B v ts) := K6.out.keep p; have RD7 : Hid (Row X10 y8 (vB dd) 39) := Row.below RD6.out p RD6.out.lt; have PR7 : Hid (PAt X10 (.slice Ap kd cp) ds) := PR6.out.below p; have RX7 : Hid (Row X10 X8.heap.size Lx 46) := q2; clear p q1 q2; simp only [Act.put]))
  obtain ⟨y12, hy12⟩ : ∃ y, y = X8.heap.size := ⟨_, rfl⟩
  rw [← hy12] at RX7 ⊢
  clear hy12 RZ BZ HRG7 HLX HZX HOX HI1 HBa5 HBa6 RC5 RC6 K5 K6 RD5 RD6 PR5 PR6
  have HRR2 : Hid (X10.rangeAt x0 1 R2) := by rw [HR2E.out]; exact ot_raw RC7.out
  go_upto_region 14 with (first
    | (refine wpList_load_w rfl 29 (.tmp 64) rfl x0 (1) rfl R2 _ HRR2.out Tryz.underlying29 rfl HI2.out ?_; simp only [Act.put, List.setIfInBounds_toArray, List.set_cons_zero, List.set_cons_succ])
    | (go_at_call 10; refine Calls.mono (HLY.out X10) ?_; rintro e X11 ⟨rfl, p⟩; have HBa8 : Hid (Below w.heap.size w X11) := HBa7.out.trans (p.mono HBa7.out.size); have RC8 : Hid (Row X11 x0 (otc idx r2 (.slice PA k2 pc)) 32) := Row.below RC7.out p RC7.out.lt; have K8 : Hid (Bk X1 X11 B v ts) := K7.out.keep p; have RD8 : Hid (Row X11 y8 (vB dd) 39) := Row.below RD7.out p RD7.out.lt; have PR8 : Hid (PAt X11 (.slice Ap kd cp) ds) := PR7.out.below p; have RX8 : Hid (Row X11 y12 Lx 46) := Row.below RX7.out p RX7.out.lt; clear p)
    | (refine wpList_allocLf rfl rfl ?_; intro X12 q1 q2 q3; have RZ : Hid (Row X12 X11.heap.size zLf 46) := q1; have BZ : Hid (Below X11.heap.size X11 X12) := q2; clear q1 q2 q3; simp only [Act.put, List.setIfInBounds_toArray, List.set_cons_zero, List.set_cons_succ])
    | (refine wpList_storeL rfl 46 (.tmp 13) (.tmp 67) rfl X11.heap.size Ly zLf 46 rfl rfl RZ.out HZY.out HIY.out HOY.out ?_; intro X13 q1 q2; have p : Below X11.heap.size X11 X13 := (by rw [q1]; exact below_setCells BZ.out (Nat.le_refl _) _); have HBa9 : Hid (Below w.heap.size w X13) := HBa8.out.trans (p.mono HBa8.out.size); have RC9 : Hid (Row X13 x0 (otc idx r2 (.slice PA k2 pc)) 32) := Row.below RC8.out p RC8.out.lt; have K9 : Hid (Bk X1 X13 B v ts) := K8.out.keep p; have RD9 : Hid (Row X13 y8 (vB dd) 39) := Row.below RD8.out p RD8.out.lt; have PR9 : Hid (PAt X13 (.slice Ap kd cp) ds) := PR8.out.below p; have RX9 : Hid (Row X13 y12 Lx 46) := Row.below RX8.out p RX8.out.lt; have RY9 : Hid (Row X13 X11.heap.size Ly 46) := q2; clear p q1 q2; simp only [Act.put]))
  obtain ⟨y13, hy13⟩ : ∃ y, y = X11.heap.size := ⟨_, rfl⟩
  rw [← hy13] at RY9 ⊢
  clear hy13 RZ BZ HRR2 HLY HZY HOY HI2 HR2E HBa7 HBa8 RC7 RC8 K7 K8 RD7 RD8 PR7 PR8 RX7 RX8
  go_upto_region 16 with (first
    | (refine wpList_load_w rfl 39 (.tmp 8) rfl y8 (0) rfl (vB dd) _ RD9.out.all Tryz.underlying39 rfl HID.out ?_; simp only [Act.put, List.setIfInBounds_toArray, List.set_cons_zero, List.set_cons_succ])
    | (refine wpList_load_w rfl 46 (.tmp 12) rfl y12 (0) rfl Lx _ RX9.out.all Tryz.underlying46 rfl HIX.out ?_; simp only [Act.put, List.setIfInBounds_toArray, List.set_cons_zero, List.set_cons_succ])
    | (go_at_call 11; refine Calls.mono (HCX.out X13 Ap kd cp ds HBa9.out PR9.out) ?_; rw [HO1.out]; rintro e X14 ⟨rfl, p⟩; have HBa10 : Hid (Below w.heap.size w X14) := HBa9.out.trans (p.mono HBa9.out.size); have RC10 : Hid (Row X14 x0 (otc idx r2 (.slice PA k2 pc)) 32) := Row.below RC9.out p RC9.out.lt; have K10 : Hid (Bk X1 X14 B v ts) := K9.out.keep p; have RD10 : Hid (Row X14 y8 (vB dd) 39) := Row.below RD9.out p RD9.out.lt; have PR10 : Hid (PAt X14 (.slice Ap kd cp) ds) := PR9.out.below p; have RX10 : Hid (Row X14 y12 Lx 46) := Row.below RX9.out p RX9.out.lt; have RY10 : Hid (Row X14 y13 Ly 46) := Row.below RY9.out p RY9.out.lt; clear p))
  clear HCX HO1 HBa9 RC9 K9 RD9 PR9 RX9 RY9
  have c27 := ot_path RC10.out HR2.out
  go_upto_region 18 with (refine wpList_buildTwo rfl (.tmp 75) (.tmp 77) rfl (.slice Ap kd cp) (.slice PA k2 pc) rfl rfl rfl rfl ?_; intro X15 q1 q2; have HBa11 : Hid (Below w.heap.size w X15) := HBa10.out.trans (q2.mono HBa10.out.size); have RC11 : Hid (Row X15 x0 (otc idx r2 (.slice PA k2 pc)) 32) := Row.below RC10.out q2 RC10.out.lt; have K11 : Hid (Bk X1 X15 B v ts) := K10.out.keep q2; have RD11 : Hid (Row X15 y8 (vB dd) 39) := Row.below RD10.out q2 RD10.out.lt; have PR11 : Hid (PAt X15 (.slice Ap kd cp) ds) := PR10.out.below q2; have RX11 : Hid (Row X15 y12 Lx 46) := Row.below RX10.out q2 RX10.out.lt; have RY11 : Hid (Row X15 y13 Ly 46) := Row.below RY10.out q2 RY10.out.lt; have RP11 : Hid (Row X15 X14.heap.size [.slice Ap kd cp, .slice PA k2 pc] 30) := q1; clear q1 q2; simp only [Act.put, List.setIfInBounds_toArray, List.set_cons_zero, List.set_cons_succ])
  obtain ⟨gp, hgp⟩ : ∃ g, g = X14.heap.size := ⟨_, rfl⟩
  rw [← hgp] at RP11 ⊢
  have P211 : Hid (PAt X15 (.slice PA k2 pc) ds2) := HP2.out.below HBa11.out
  clear hgp c27 HBa10 RC10 K10 RD10 PR10 RX10 RY10 HP2
  clear RC11 K11
  go_loopw [15, 16, 17, 18] (fun v _ _ _ wr => ∃ j : Nat, j ≤ 2 ∧ v = .int .i64 (j : Int) ∧ Hid (Below w.heap.size w wr) ∧ Hid (Row wr y8 (vB dd) 39) ∧ Hid (PAt wr (.slice Ap kd cp) ds) ∧ Hid (Row wr y12 Lx 46) ∧ Hid (Row wr y13 Ly 46) ∧ Hid (Row wr gp [.slice Ap kd cp, .slice PA k2 pc] 30) ∧ Hid (PAt wr (.slice PA k2 pc) ds2)) (fun v _ _ _ _ => 2 - (intOf v).toNat)
  case atStart => exact ⟨0, Nat.zero_le _, rfl, HBa11, RD11, PR11, RX11, RY11, RP11, P211⟩
  case round =>
    obtain ⟨j, hj, rfl, HBaw, RDw, PRw, RXw, RYw, RPw, P2w⟩ := hrel
    clear HBa11 RD11 PR11 RX11 RY11 RP11 P211
    by_cases hj2 : j < 2
    · obtain ⟨PX, kx, cx, dx, hcx, hpx, hkx, hkxb, hxn⟩ : ∃ PX kx cx dx, [Value.slice Ap kd cp, Value.slice PA k2 pc][j]? = some (.slice PX kx cx) ∧ (∀ X, PAt X (.slice Ap kd cp) ds → PAt X (.slice PA k2 pc) ds2 → PAt X (.slice PX kx cx) dx) ∧ kx = dx.length ∧ kx ≤ 4398046511104 ∧ True := by
        rcases (show j = 0 ∨ j = 1 by omega) with rfl | rfl
        · exact ⟨Ap, kd, cp, ds, rfl, fun _ h _ => h, HKD.out, by omega, trivial⟩
        · exact ⟨PA, k2, pc, ds2, rfl, fun _ _ h => h, HK2.out, hkb, trivial⟩
      have cj := RPw.out.cell j _ hcx
      have PXw : Hid (PAt wr (.slice PX kx cx) dx) := hpx wr PRw.out P2w.out
      have HKX : Hid (kx = dx.length) := hkx
      have HX32 : Hid (∀ d ∈ dx, d.length = 32) := PXw.out.1
      obtain ⟨O, hO⟩ : ∃ O, O = okc dd (N : Int) (i : Int) (pk r2.en 1099511627776) (pk r2.tk 64) r2.rc (am9 r2.am) dx := ⟨_, rfl⟩
      have hO2 := hO
      rw [okc_in dd N i hiN (by omega) r2 dx, ← HTY.out] at hO2
      have HOC : Hid (∀ X, Below w.heap.size w X → PAt X (.slice PX kx cx) dx → Calls Tryz.prog 11 #[.agg (vB dd).toArray, .int .i64 (N : Int), .agg Ly.toArray, .slice PX kx cx] X fun e w' => e = .returned (.int .i64 O) ∧ Below X.heap.size X w') := fun X h1 h2 => by rw [hO]; exact HCY.out X PX kx cx dx h1 h2
      have HCJ : Hid (∀ X, Row X gp [.slice Ap kd cp, .slice PA k2 pc] 30 → X.cell? ⟨gp, 0 + j * 1, none⟩ = some (.slice PX kx cx)) := fun X h => by rw [Nat.zero_add, Nat.mul_one]; exact h.cell j _ hcx
      have hrd := RDw.out
      have hry := RYw.out
      have hrp := RPw.out
      have hrx := RXw.out
      have hb1 := HBaw.out
      have hpr := PRw.out
      have hp2 := P2w.out
      have hpw := PXw.out
      clear hcx hkx hpx hO hxn cj RDw RYw RPw RXw HBaw PRw P2w PXw
      go_upto_region 20 with fail
      go_wp2_with fail
      refine wp_named fun a0 ha0 => ?_
      have hsz : a0.tmps.size = 137 := by rw [ha0]; rfl
      have zs5 : a0.eval (.tmp 5) = .slice (some ⟨b, o, none⟩) N c0 := by rw [ha0]; rfl
      have zs8 : a0.eval (.tmp 8) = .pointer (some ⟨y8, 0, none⟩) := by rw [ha0]; rfl
      have zs13 : a0.eval (.tmp 13) = .pointer (some ⟨y13, 0, none⟩) := by rw [ha0]; rfl
      have zs14 : a0.eval (.tmp 14) = .slice (some ⟨gp, 0, none⟩) 2 2 := by rw [ha0]; rfl
      have zs15 : a0.eval (.tmp 15) = .int .i64 (j : Int) := by rw [ha0]; rfl
      obtain ⟨D, hD⟩ : ∃ D : List (Tmp × SP), D = [(85, SP.is (.agg (vB dd).toArray)), (86, SP.is (.slice (some ⟨b, o, none⟩) N c0)), (87, SP.is (.int .i64 (N : Int))), (88, SP.is (.agg Ly.toArray)), (89, SP.is (.slice (some ⟨gp, 0, none⟩) 2 2)), (90, SP.is (.int .i64 (j : Int))), (91, SP.is (.pointer (some ⟨gp, 0 + j * 1, none⟩))), (92, SP.is (.slice PX kx cx)), (93, SP.is (.int .i64 O)), (16, SP.is (.int .i64 O))] := ⟨_, rfl⟩
      refine wp_region_down (by kernel_rfl) (fun listed ac W => listed.size = 10 ∧ Fp D a0 listed ac W ∧ Below w.heap.size w W ∧ Row W y8 ((vB dd)) 39 ∧ Row W y13 Ly 46 ∧ Row W gp ([.slice Ap kd cp, .slice PA k2 pc]) 30 ∧ Row W y12 Lx 46 ∧ PAt W (.slice Ap kd cp) ds ∧ PAt W (.slice PA k2 pc) ds2 ∧ PAt W (.slice PX kx cx) dx) ?_ ?_ ?_
      · exact ⟨by simp, Fp.start D a0 _ _, Below.drew hb1, Row.drew hrd, Row.drew hry, Row.drew hrp, Row.drew hrx, hpr.below (Below.drew (Below.refl _ _)), hp2.below (Below.drew (Below.refl _ _)), hpw.below (Below.drew (Below.refl _ _))⟩
      · clear ha0 hb1 hrd hry hrp hrx hpr hp2 hpw 
        intro listed ac W k hI hdn hk
        obtain ⟨hl, hF, hb1, hrd, hry, hrp, hrx, hpr, hp2, hpw⟩ := hI
        have hk1 : k < 10 := List.mem_range.1 (List.mem_filter.1 hk).1
        have hl2 : ∀ j, (listed.setIfInBounds j true).size = 10 := fun j => by rw [Array.size_setIfInBounds]; exact hl
        rcases (show k = 0 ∨ k = 1 ∨ k = 2 ∨ k = 3 ∨ k = 4 ∨ k = 5 ∨ k = 6 ∨ k = 7 ∨ k = 8 ∨ k = 9 by omega) with rfl | rfl | rfl | rfl | rfl | rfl | rfl | rfl | rfl | rfl
        · have hk3 := hk
          exact wpOp_plain rfl rfl (wp_load_mid 39 (.tmp 8) rfl y8 0 ((hF.keep 8 (by rw [hD]; rfl)).trans zs8) ((vB dd)) _ hrd.all Tryz.underlying39 rfl HID.out ⟨hl2 0, (hF.put 0 85 (SP.is (.agg (vB dd).toArray)) (.agg (vB dd).toArray) (by rw [hD]; rfl) rfl (by rw [hD]; rfl) (by rw [hsz]; decide) (by rw [hl]; decide)), hb1, hrd, hry, hrp, hrx, hpr, hp2, hpw⟩)
        · have hk3 := hk
          exact wpOp_plain rfl rfl (wp_move_v (ac.eval (.tmp 5)) rfl rfl ⟨hl2 1, (hF.put 1 86 (SP.is (.slice (some ⟨b, o, none⟩) N c0)) (ac.eval (.tmp 5)) (by rw [hD]; rfl) (((hF.keep 5 (by rw [hD]; rfl)).trans zs5)) (by rw [hD]; rfl) (by rw [hsz]; decide) (by rw [hl]; decide)), hb1, hrd, hry, hrp, hrx, hpr, hp2, hpw⟩)
        · have hk3 := hk
          have e := (hF.done 1 (86, SP.is (.slice (some ⟨b, o, none⟩) N c0)) (by rw [hD]; rfl) (ready_dep hk 1 (by kernel_rfl)))
          exact wpOp_plain rfl rfl (wp_len_s 22 29 _ N c0 rfl Tryz.underlying22 e ⟨hl2 2, (hF.put 2 87 (SP.is (.int .i64 (N : Int))) (.int .i64 (N : Int)) (by rw [hD]; rfl) rfl (by rw [hD]; rfl) (by rw [hsz]; decide) (by rw [hl]; decide)), hb1, hrd, hry, hrp, hrx, hpr, hp2, hpw⟩)
        · have hk3 := hk
          exact wpOp_plain rfl rfl (wp_load_mid 46 (.tmp 13) rfl y13 0 ((hF.keep 13 (by rw [hD]; rfl)).trans zs13) Ly _ hry.all Tryz.underlying46 rfl HIY.out ⟨hl2 3, (hF.put 3 88 (SP.is (.agg Ly.toArray)) (.agg Ly.toArray) (by rw [hD]; rfl) rfl (by rw [hD]; rfl) (by rw [hsz]; decide) (by rw [hl]; decide)), hb1, hrd, hry, hrp, hrx, hpr, hp2, hpw⟩)
        · have hk3 := hk
          exact wpOp_plain rfl rfl (wp_move_v (ac.eval (.tmp 14)) rfl rfl ⟨hl2 4, (hF.put 4 89 (SP.is (.slice (some ⟨gp, 0, none⟩) 2 2)) (ac.eval (.tmp 14)) (by rw [hD]; rfl) (((hF.keep 14 (by rw [hD]; rfl)).trans zs14)) (by rw [hD]; rfl) (by rw [hsz]; decide) (by rw [hl]; decide)), hb1, hrd, hry, hrp, hrx, hpr, hp2, hpw⟩)
        · have hk3 := hk
          exact wpOp_plain rfl rfl (wp_move_v (ac.eval (.tmp 15)) rfl rfl ⟨hl2 5, (hF.put 5 90 (SP.is (.int .i64 (j : Int))) (ac.eval (.tmp 15)) (by rw [hD]; rfl) (((hF.keep 15 (by rw [hD]; rfl)).trans zs15)) (by rw [hD]; rfl) (by rw [hsz]; decide) (by rw [hl]; decide)), hb1, hrd, hry, hrp, hrx, hpr, hp2, hpw⟩)
        · have hk3 := hk
          have ea := (hF.done 4 (89, SP.is (.slice (some ⟨gp, 0, none⟩) 2 2)) (by rw [hD]; rfl) (ready_dep hk 4 (by kernel_rfl)))
          have eb := (hF.done 5 (90, SP.is (.int .i64 (j : Int))) (by rw [hD]; rfl) (ready_dep hk 5 (by kernel_rfl)))
          exact wpOp_plain rfl rfl (wp_index_s 49 30 rfl gp 0 2 2 j 1 ea eb hj2 Tryz.underlying49 info_dss ⟨hl2 6, (hF.put 6 91 (SP.is (.pointer (some ⟨gp, 0 + j * 1, none⟩))) (.pointer (some ⟨gp, 0 + j * 1, none⟩)) (by rw [hD]; rfl) rfl (by rw [hD]; rfl) (by rw [hsz]; decide) (by rw [hl]; decide)), hb1, hrd, hry, hrp, hrx, hpr, hp2, hpw⟩)
        · have hk3 := hk
          have e := (hF.done 6 (91, SP.is (.pointer (some ⟨gp, 0 + j * 1, none⟩))) (by rw [hD]; rfl) (ready_dep hk 6 (by kernel_rfl)))
          exact wpOp_plain rfl rfl (wp_load_1T gp (0 + j * 1) (.slice PX kx cx) rfl e (ld_ds W gp (0 + j * 1) _ (HCJ.out W hrp)) ⟨hl2 7, (hF.put 7 92 (SP.is (.slice PX kx cx)) (.slice PX kx cx) (by rw [hD]; rfl) rfl (by rw [hD]; rfl) (by rw [hsz]; decide) (by rw [hl]; decide)), hb1, hrd, hry, hrp, hrx, hpr, hp2, hpw⟩)
        · have hk3 := hk
          have ea := (hF.done 0 (85, SP.is (.agg (vB dd).toArray)) (by rw [hD]; rfl) (ready_dep hk 0 (by kernel_rfl)))
          have eb := (hF.done 2 (87, SP.is (.int .i64 (N : Int))) (by rw [hD]; rfl) (ready_dep hk 2 (by kernel_rfl)))
          have ec := (hF.done 3 (88, SP.is (.agg Ly.toArray)) (by rw [hD]; rfl) (ready_dep hk 3 (by kernel_rfl)))
          have ed := (hF.done 7 (92, SP.is (.slice PX kx cx)) (by rw [hD]; rfl) (ready_dep hk 7 (by kernel_rfl)))
          refine wpOp_plain rfl rfl (wp_fcall_v 11 #[.agg (vB dd).toArray, .int .i64 (N : Int), .agg Ly.toArray, .slice PX kx cx] rfl rfl (by show [ac.eval (.tmp 85), ac.eval (.tmp 87), ac.eval (.tmp 88), ac.eval (.tmp 92)] = _; rw [show ac.eval (.tmp 85) = _ from ea, show ac.eval (.tmp 87) = _ from eb, show ac.eval (.tmp 88) = _ from ec, show ac.eval (.tmp 92) = _ from ed]) (by go_simp) ((HOC.out W hb1 hpw).mono ?_))
          rintro e W2 ⟨rfl, hB⟩
          exact ⟨_, rfl, hl2 8, ((hF.world hB).put 8 93 (SP.is (.int .i64 O)) (.int .i64 O) (by rw [hD]; rfl) rfl (by rw [hD]; rfl) (by rw [hsz]; decide) (by rw [hl]; decide)), hb1.trans (hB.mono hb1.size), Row.below hrd hB (Row.lt hrd), Row.below hry hB (Row.lt hry), Row.below hrp hB (Row.lt hrp), Row.below hrx hB (Row.lt hrx), hpr.below hB, hp2.below hB, hpw.below hB⟩
        · have hk3 := hk
          exact wpOp_plain rfl rfl (wp_assign_v (ac.eval (.tmp 93)) rfl rfl ⟨hl2 9, (hF.put 9 16 (SP.is (.int .i64 O)) (ac.eval (.tmp 93)) (by rw [hD]; rfl) ((hF.done 8 (93, SP.is (.int .i64 O)) (by rw [hD]; rfl) (ready_dep hk 8 (by kernel_rfl)))) (by rw [hD]; rfl) (by rw [hsz]; decide) (by rw [hl]; decide)), hb1, hrd, hry, hrp, hrx, hpr, hp2, hpw⟩)
      · clear hb1 hrd hry hrp hrx hpr hp2 hpw 
        intro listed ac W hI hr
        obtain ⟨hl, hF, hb1, hrd, hry, hrp, hrx, hpr, hp2, hpw⟩ := hI
        have hall := all_listed (by kernel_rfl) hl hr
        have h85 : ac.eval (.tmp 85) = .agg (vB dd).toArray := hF.done 0 (85, SP.is (.agg (vB dd).toArray)) (by rw [hD]; rfl) (hall 0 (by decide))
        have h86 : ac.eval (.tmp 86) = .slice (some ⟨b, o, none⟩) N c0 := hF.done 1 (86, SP.is (.slice (some ⟨b, o, none⟩) N c0)) (by rw [hD]; rfl) (hall 1 (by decide))
        have h87 : ac.eval (.tmp 87) = .int .i64 (N : Int) := hF.done 2 (87, SP.is (.int .i64 (N : Int))) (by rw [hD]; rfl) (hall 2 (by decide))
        have h88 : ac.eval (.tmp 88) = .agg Ly.toArray := hF.done 3 (88, SP.is (.agg Ly.toArray)) (by rw [hD]; rfl) (hall 3 (by decide))
        have h89 : ac.eval (.tmp 89) = .slice (some ⟨gp, 0, none⟩) 2 2 := hF.done 4 (89, SP.is (.slice (some ⟨gp, 0, none⟩) 2 2)) (by rw [hD]; rfl) (hall 4 (by decide))
        have h90 : ac.eval (.tmp 90) = .int .i64 (j : Int) := hF.done 5 (90, SP.is (.int .i64 (j : Int))) (by rw [hD]; rfl) (hall 5 (by decide))
        have h91 : ac.eval (.tmp 91) = .pointer (some ⟨gp, 0 + j * 1, none⟩) := hF.done 6 (91, SP.is (.pointer (some ⟨gp, 0 + j * 1, none⟩))) (by rw [hD]; rfl) (hall 6 (by decide))
        have h92 : ac.eval (.tmp 92) = .slice PX kx cx := hF.done 7 (92, SP.is (.slice PX kx cx)) (by rw [hD]; rfl) (hall 7 (by decide))
        have h93 : ac.eval (.tmp 93) = .int .i64 O := hF.done 8 (93, SP.is (.int .i64 O)) (by rw [hD]; rfl) (hall 8 (by decide))
        have h16 : ac.eval (.tmp 16) = .int .i64 O := hF.done 9 (16, SP.is (.int .i64 O)) (by rw [hD]; rfl) (hall 9 (by decide))
        have ea := hF.lay [(85, .agg (vB dd).toArray), (86, .slice (some ⟨b, o, none⟩) N c0), (87, .int .i64 (N : Int)), (88, .agg Ly.toArray), (89, .slice (some ⟨gp, 0, none⟩) 2 2), (90, .int .i64 (j : Int)), (91, .pointer (some ⟨gp, 0 + j * 1, none⟩)), (92, .slice PX kx cx), (93, .int .i64 O), (16, .int .i64 O)] (by rw [hD, hsz]; rfl) (by simp only [List.forall_mem_cons, List.not_mem_nil, false_implies, implies_true, and_true]; exact ⟨h85, h86, h87, h88, h89, h90, h91, h92, h93, h16⟩)
        rw [ha0] at ea
        simp only [List.foldl_cons, List.foldl_nil, List.setIfInBounds_toArray, List.set_cons_zero, List.set_cons_succ] at ea
        clear hF hall hr hl hD  zs5 zs8 zs13 zs14 zs15 ha0 hsz h85 h86 h87 h88 h89 h90 h91 h92 h93 h16
        subst ea
        have RXw : Hid (Row W y12 Lx 46) := hrx
        have RYw : Hid (Row W y13 Ly 46) := hry
        have RDw : Hid (Row W y8 (vB dd) 39) := hrd
        have RPw : Hid (Row W gp [.slice Ap kd cp, .slice PA k2 pc] 30) := hrp
        have HBaw : Hid (Below w.heap.size w W) := hb1
        have PRw : Hid (PAt W (.slice Ap kd cp) ds) := hpr
        have P2w : Hid (PAt W (.slice PA k2 pc) ds2) := hp2
        have PXw : Hid (PAt W (.slice PX kx cx) dx) := hpw
        clear hrx hry hrd hrp hb1 hpr hp2 hpw HOC
        by_cases hck : dx.length = pl N i ∧ rb N i ty dx = dd
        · rw [if_pos hck] at hO2
          subst hO2
          by_cases hbn : BN = true
          · have HCLS := clash_of N i hiN (by omega) ds dx tx ty dd HD32.out HX32.out (by rw [← HKD.out]; exact HDL.out) hck.1 (by rw [HTX.out]; exact HRB.out) hck.2 (HUN.out hbn) ((ds.length + 1) + (dx.length + 1)) rfl
            have HCLH : Hid (∃ a k, k < a ∧ a < (ds.length + 1) + (dx.length + 1) ∧ Clsh (txs (sd N i) ds tx (ds.length + 1) ++ txs (sd N i) dx ty (dx.length + 1)) a k) := HCLS
            have HTLN : Hid (∀ a, a < (ds.length + 1) + (dx.length + 1) → ((txs (sd N i) ds tx (ds.length + 1) ++ txs (sd N i) dx ty (dx.length + 1)).getD a []).length ≤ 140737488355000) := fun a ha => two_short (sd N i) ds dx tx ty HD32.out HX32.out HTXL.out HTYL.out _ _ _ rfl a ha
            have hkk : kx = kd := by rw [HKX.out, hck.1, HDL.out]
            have HDX : Hid (dx.length = pl N i) := hck.1
            have HDS : Hid (ds.length = pl N i) := by show _ = _; rw [← HKD.out]; exact HDL.out
            subst hkk
            subst hbn
            have HTXA : Hid (∀ X A cap, Below w.heap.size w X → (A = none → cap = 0) → Bw X (.slice A tx.length cap) tx → PAt X (.slice Ap kx cp) ds → Calls Tryz.prog 12 #[.int .i64 (N : Int), .int .i64 (i : Int), .slice A tx.length cap, .slice Ap kx cp] X fun e w' => ∃ v vs, e = .returned v ∧ Txs w' X.heap.size v (txs (sd N i) ds tx (ds.length + 1)) vs ∧ Below X.heap.size X w') := fun X A cap h1 h2 h3 h4 => by
              have q := texts_any N i hiN (by omega) tx tx.length rfl (by have := HTXL.out; omega) ds HDS.out A Ap cap cp h2 X (HG.out.low h1) (slToT (Bw.sl h3)) (by rw [← HKD.out]; exact h4)
              rw [← HKD.out] at q ⊢
              exact q
            have HTXB : Hid (∀ X A cap, Below w.heap.size w X → (A = none → cap = 0) → Bw X (.slice A ty.length cap) ty → PAt X (.slice PX kx cx) dx → Calls Tryz.prog 12 #[.int .i64 (N : Int), .int .i64 (i : Int), .slice A ty.length cap, .slice PX kx cx] X fun e w' => ∃ v vs, e = .returned v ∧ Txs w' X.heap.size v (txs (sd N i) dx ty (dx.length + 1)) vs ∧ Below X.heap.size X w') := fun X A cap h1 h2 h3 h4 => by
              have q := texts_any N i hiN (by omega) ty ty.length rfl (by have := HTYL.out; omega) dx HDX.out A PX cap cx h2 X (HG.out.low h1) (slToT (Bw.sl h3)) (by rw [← HKX.out]; exact h4)
              rw [← HKX.out] at q ⊢
              exact q
            have cj : W.cell? ⟨gp, j, none⟩ = some (.slice PX kx cx) := by have q := HCJ.out W RPw.out; rwa [Nat.zero_add, Nat.mul_one] at q
            clear hck HCLS
            go_upto_region 26 with (first
              | (refine wpList_load_w rfl 46 (.tmp 12) rfl y12 (0) rfl Lx _ RXw.out.all Tryz.underlying46 rfl HIX.out ?_; simp only [Act.put, List.setIfInBounds_toArray, List.set_cons_zero, List.set_cons_succ])
              | (refine wpList_load_w rfl 46 (.tmp 13) rfl y13 (0) rfl Ly _ RYw.out.all Tryz.underlying46 rfl HIY.out ?_; simp only [Act.put, List.setIfInBounds_toArray, List.set_cons_zero, List.set_cons_succ])
              | (refine wpList_neqG rfl (.tmp 103) (.tmp 104) _ rfl Lx Ly true rfl rfl HNE.out ?_; simp only [Act.put, List.setIfInBounds_toArray, List.set_cons_zero, List.set_cons_succ]))
            clear cj
            go_upto_region 27 with (first
              | (refine wpList_load_w rfl 46 (.tmp 12) rfl y12 (0) rfl Lx _ RXw.out.all Tryz.underlying46 rfl HIX.out ?_; simp only [Act.put, List.setIfInBounds_toArray, List.set_cons_zero, List.set_cons_succ])
              | (go_at_call 13; refine Calls.mono (HFX.out W) ?_; rintro e Z1 ⟨A1, c1, rfl, n1, w1, p⟩; have W1 : Hid (Bw Z1 (.slice A1 tx.length c1) tx) := w1; have N1 : Hid (A1 = none → c1 = 0) := n1; have HB1 : Hid (Below w.heap.size w Z1) := HBaw.out.trans (p.mono HBaw.out.size); have RY1 : Hid (Row Z1 y13 Ly 46) := Row.below RYw.out p RYw.out.lt; have RP1 : Hid (Row Z1 gp [.slice Ap kx cp, .slice PA k2 pc] 30) := Row.below RPw.out p RPw.out.lt; have PR1 : Hid (PAt Z1 (.slice Ap kx cp) ds) := PRw.out.below p; have PX1 : Hid (PAt Z1 (.slice PX kx cx) dx) := PXw.out.below p; have RX1 : Hid (Row Z1 y12 Lx 46) := Row.below RXw.out p RXw.out.lt; have RD1 : Hid (Row Z1 y8 (vB dd) 39) := Row.below RDw.out p RDw.out.lt; have P21 : Hid (PAt Z1 (.slice PA k2 pc) ds2) := P2w.out.below p; clear w1 n1 p)
              | (go_at_call 12; refine Calls.mono (HTXA.out Z1 A1 c1 HB1.out N1.out W1.out PR1.out) ?_; rintro e Z2 ⟨v7, vs7, rfl, t7, p⟩; have S7 : Hid (w.heap.size ≤ Z1.heap.size) := HB1.out.size; have T7 : Hid (Txs Z2 Z1.heap.size v7 (txs (sd N i) ds tx (ds.length + 1)) vs7) := t7; have HB2 : Hid (Below w.heap.size w Z2) := HB1.out.trans (p.mono HB1.out.size); have RY2 : Hid (Row Z2 y13 Ly 46) := Row.below RY1.out p RY1.out.lt; have RP2 : Hid (Row Z2 gp [.slice Ap kx cp, .slice PA k2 pc] 30) := Row.below RP1.out p RP1.out.lt; have PX2 : Hid (PAt Z2 (.slice PX kx cx) dx) := PX1.out.below p; have RX2 : Hid (Row Z2 y12 Lx 46) := Row.below RX1.out p RX1.out.lt; have RD2 : Hid (Row Z2 y8 (vB dd) 39) := Row.below RD1.out p RD1.out.lt; have PR2 : Hid (PAt Z2 (.slice Ap kx cp) ds) := PR1.out.below p; have P22 : Hid (PAt Z2 (.slice PA k2 pc) ds2) := P21.out.below p; obtain ⟨g7, c7, e7, hg7, _, _⟩ := t7.form (by rw [txs_length]; omega); rw [txs_length] at e7; subst e7; have HG7 : Hid (Z1.heap.size ≤ g7) := hg7; have HZ2 : Hid (Below Z1.heap.size Z1 Z2) := p; clear t7 p hg7))
            clear W1 N1 HB1 PX1 RYw RPw RXw RDw HBaw PRw P2w PXw
            have hry := RY2.out
            have hrp := RP2.out
            have hb1 := HB2.out
            have hpw := PX2.out
            have hz : Blw Z1 Z2 := ⟨HZ2.out⟩
            have hT7 : Txs Z2 w.heap.size (.slice (some ⟨g7, 0, none⟩) (ds.length + 1) c7) (txs (sd N i) ds tx (ds.length + 1)) vs7 := T7.out.less S7.out
            clear HZ2 RY2 RP2 PX2 RX2 RD2 PR2 P22
            go_wp2_with fail
            refine wp_named fun a0 ha0 => ?_
            have hsz : a0.tmps.size = 137 := by rw [ha0]; rfl
            have zs5 : a0.eval (.tmp 5) = .slice (some ⟨b, o, none⟩) N c0 := by rw [ha0]; rfl
            have zs7 : a0.eval (.tmp 7) = .int .i64 (i : Int) := by rw [ha0]; rfl
            have zs13 : a0.eval (.tmp 13) = .pointer (some ⟨y13, 0, none⟩) := by rw [ha0]; rfl
            have zs14 : a0.eval (.tmp 14) = .slice (some ⟨gp, 0, none⟩) 2 2 := by rw [ha0]; rfl
            have zs15 : a0.eval (.tmp 15) = .int .i64 (j : Int) := by rw [ha0]; rfl
            obtain ⟨D, hD⟩ : ∃ D : List (Tmp × SP), D = [(122, SP.is (.slice (some ⟨b, o, none⟩) N c0)), (123, SP.is (.int .i64 (N : Int))), (124, SP.is (.int .i64 (i : Int))), (125, SP.is (.agg Ly.toArray)), (126, SP.bs ty), (127, SP.is (.slice (some ⟨gp, 0, none⟩) 2 2)), (128, SP.is (.int .i64 (j : Int))), (129, SP.is (.pointer (some ⟨gp, 0 + j * 1, none⟩))), (130, SP.is (.slice PX kx cx)), (131, SP.txs w.heap.size (txs (sd N i) dx ty (dx.length + 1))), (18, SP.txs w.heap.size (txs (sd N i) dx ty (dx.length + 1)))] := ⟨_, rfl⟩
            refine wp_region_down (by kernel_rfl) (fun listed ac W => listed.size = 11 ∧ Fp D a0 listed ac W ∧ Below w.heap.size w W ∧ Row W y13 Ly 46 ∧ Row W gp ([.slice Ap kx cp, .slice PA k2 pc]) 30 ∧ Blw Z1 W ∧ PAt W (.slice PX kx cx) dx ∧ Txs W w.heap.size (.slice (some ⟨g7, 0, none⟩) (ds.length + 1) c7) (txs (sd N i) ds tx (ds.length + 1)) vs7) ?_ ?_ ?_
            · exact ⟨by simp, Fp.start D a0 _ _, Below.drew hb1, Row.drew hry, Row.drew hrp, hz.below (Below.drew (Below.refl _ _)), hpw.below (Below.drew (Below.refl _ _)), hT7.below (Below.drew (Below.refl _ _))⟩
            · clear ha0 hb1 hry hrp hz hpw hT7 
              intro listed ac W k hI hdn hk
              obtain ⟨hl, hF, hb1, hry, hrp, hz, hpw, hT7⟩ := hI
              have hk1 : k < 11 := List.mem_range.1 (List.mem_filter.1 hk).1
              have hl2 : ∀ j, (listed.setIfInBounds j true).size = 11 := fun j => by rw [Array.size_setIfInBounds]; exact hl
              rcases (show k = 0 ∨ k = 1 ∨ k = 2 ∨ k = 3 ∨ k = 4 ∨ k = 5 ∨ k = 6 ∨ k = 7 ∨ k = 8 ∨ k = 9 ∨ k = 10 by omega) with rfl | rfl | rfl | rfl | rfl | rfl | rfl | rfl | rfl | rfl | rfl
              · have hk3 := hk
                exact wpOp_plain rfl rfl (wp_move_v (ac.eval (.tmp 5)) rfl rfl ⟨hl2 0, (hF.put 0 122 (SP.is (.slice (some ⟨b, o, none⟩) N c0)) (ac.eval (.tmp 5)) (by rw [hD]; rfl) (((hF.keep 5 (by rw [hD]; rfl)).trans zs5)) (by rw [hD]; rfl) (by rw [hsz]; decide) (by rw [hl]; decide)), hb1, hry, hrp, hz, hpw, hT7⟩)
              · have hk3 := hk
                have e := (hF.done 0 (122, SP.is (.slice (some ⟨b, o, none⟩) N c0)) (by rw [hD]; rfl) (ready_dep hk 0 (by kernel_rfl)))
                exact wpOp_plain rfl rfl (wp_len_s 22 29 _ N c0 rfl Tryz.underlying22 e ⟨hl2 1, (hF.put 1 123 (SP.is (.int .i64 (N : Int))) (.int .i64 (N : Int)) (by rw [hD]; rfl) rfl (by rw [hD]; rfl) (by rw [hsz]; decide) (by rw [hl]; decide)), hb1, hry, hrp, hz, hpw, hT7⟩)
              · have hk3 := hk
                exact wpOp_plain rfl rfl (wp_move_v (ac.eval (.tmp 7)) rfl rfl ⟨hl2 2, (hF.put 2 124 (SP.is (.int .i64 (i : Int))) (ac.eval (.tmp 7)) (by rw [hD]; rfl) (((hF.keep 7 (by rw [hD]; rfl)).trans zs7)) (by rw [hD]; rfl) (by rw [hsz]; decide) (by rw [hl]; decide)), hb1, hry, hrp, hz, hpw, hT7⟩)
              · have hk3 := hk
                exact wpOp_plain rfl rfl (wp_load_mid 46 (.tmp 13) rfl y13 0 ((hF.keep 13 (by rw [hD]; rfl)).trans zs13) Ly _ hry.all Tryz.underlying46 rfl HIY.out ⟨hl2 3, (hF.put 3 125 (SP.is (.agg Ly.toArray)) (.agg Ly.toArray) (by rw [hD]; rfl) rfl (by rw [hD]; rfl) (by rw [hsz]; decide) (by rw [hl]; decide)), hb1, hry, hrp, hz, hpw, hT7⟩)
              · have hk3 := hk
                have e := (hF.done 3 (125, SP.is (.agg Ly.toArray)) (by rw [hD]; rfl) (ready_dep hk 3 (by kernel_rfl)))
                refine wpOp_plain rfl rfl (wp_fcall_v 13 #[.agg Ly.toArray] rfl rfl (by show [ac.eval (.tmp 125)] = _; rw [show ac.eval (.tmp 125) = _ from e]) (by go_simp) ((HFY.out W).mono ?_))
                rintro e W2 ⟨A8, c8, rfl, hn8, hb8, hB⟩
                exact ⟨_, rfl, hl2 4, ((hF.world hB).put 4 126 (SP.bs ty) (.slice A8 ty.length c8) (by rw [hD]; rfl) (⟨A8, c8, rfl, hn8, hb8⟩) (by rw [hD]; rfl) (by rw [hsz]; decide) (by rw [hl]; decide)), hb1.trans (hB.mono hb1.size), Row.below hry hB (Row.lt hry), Row.below hrp hB (Row.lt hrp), hz.below hB, hpw.below hB, hT7.below hB⟩
              · have hk3 := hk
                exact wpOp_plain rfl rfl (wp_move_v (ac.eval (.tmp 14)) rfl rfl ⟨hl2 5, (hF.put 5 127 (SP.is (.slice (some ⟨gp, 0, none⟩) 2 2)) (ac.eval (.tmp 14)) (by rw [hD]; rfl) (((hF.keep 14 (by rw [hD]; rfl)).trans zs14)) (by rw [hD]; rfl) (by rw [hsz]; decide) (by rw [hl]; decide)), hb1, hry, hrp, hz, hpw, hT7⟩)
              · have hk3 := hk
                exact wpOp_plain rfl rfl (wp_move_v (ac.eval (.tmp 15)) rfl rfl ⟨hl2 6, (hF.put 6 128 (SP.is (.int .i64 (j : Int))) (ac.eval (.tmp 15)) (by rw [hD]; rfl) (((hF.keep 15 (by rw [hD]; rfl)).trans zs15)) (by rw [hD]; rfl) (by rw [hsz]; decide) (by rw [hl]; decide)), hb1, hry, hrp, hz, hpw, hT7⟩)
              · have hk3 := hk
                have ea := (hF.done 5 (127, SP.is (.slice (some ⟨gp, 0, none⟩) 2 2)) (by rw [hD]; rfl) (ready_dep hk 5 (by kernel_rfl)))
                have eb := (hF.done 6 (128, SP.is (.int .i64 (j : Int))) (by rw [hD]; rfl) (ready_dep hk 6 (by kernel_rfl)))
                exact wpOp_plain rfl rfl (wp_index_s 49 30 rfl gp 0 2 2 j 1 ea eb hj2 Tryz.underlying49 info_dss ⟨hl2 7, (hF.put 7 129 (SP.is (.pointer (some ⟨gp, 0 + j * 1, none⟩))) (.pointer (some ⟨gp, 0 + j * 1, none⟩)) (by rw [hD]; rfl) rfl (by rw [hD]; rfl) (by rw [hsz]; decide) (by rw [hl]; decide)), hb1, hry, hrp, hz, hpw, hT7⟩)
              · have hk3 := hk
                have e := (hF.done 7 (129, SP.is (.pointer (some ⟨gp, 0 + j * 1, none⟩))) (by rw [hD]; rfl) (ready_dep hk 7 (by kernel_rfl)))
                exact wpOp_plain rfl rfl (wp_load_1T gp (0 + j * 1) (.slice PX kx cx) rfl e (ld_ds W gp (0 + j * 1) _ (HCJ.out W hrp)) ⟨hl2 8, (hF.put 8 130 (SP.is (.slice PX kx cx)) (.slice PX kx cx) (by rw [hD]; rfl) rfl (by rw [hD]; rfl) (by rw [hsz]; decide) (by rw [hl]; decide)), hb1, hry, hrp, hz, hpw, hT7⟩)
              · have hk3 := hk
                have ea := (hF.done 1 (123, SP.is (.int .i64 (N : Int))) (by rw [hD]; rfl) (ready_dep hk 1 (by kernel_rfl)))
                have eb := (hF.done 2 (124, SP.is (.int .i64 (i : Int))) (by rw [hD]; rfl) (ready_dep hk 2 (by kernel_rfl)))
                obtain ⟨A8, c8, e8, hn8, hb8⟩ := (hF.done 4 (126, SP.bs ty) (by rw [hD]; rfl) (ready_dep hk 4 (by kernel_rfl)))
                have ed := (hF.done 8 (130, SP.is (.slice PX kx cx)) (by rw [hD]; rfl) (ready_dep hk 8 (by kernel_rfl)))
                refine wpOp_plain rfl rfl (wp_fcall_v 12 #[.int .i64 (N : Int), .int .i64 (i : Int), .slice A8 ty.length c8, .slice PX kx cx] rfl rfl (by show [ac.eval (.tmp 123), ac.eval (.tmp 124), ac.eval (.tmp 126), ac.eval (.tmp 130)] = _; rw [show ac.eval (.tmp 123) = _ from ea, show ac.eval (.tmp 124) = _ from eb, e8, show ac.eval (.tmp 130) = _ from ed]) (by go_simp) ((HTXB.out W A8 c8 hb1 hn8 (by rw [e8] at hb8; exact hb8) hpw).mono ?_))
                rintro e W2 ⟨v8, vs8, rfl, t8, hB⟩
                exact ⟨_, rfl, hl2 9, ((hF.world hB).put 9 131 (SP.txs w.heap.size (txs (sd N i) dx ty (dx.length + 1))) v8 (by rw [hD]; rfl) (⟨vs8, t8.less hb1.size⟩) (by rw [hD]; rfl) (by rw [hsz]; decide) (by rw [hl]; decide)), hb1.trans (hB.mono hb1.size), Row.below hry hB (Row.lt hry), Row.below hrp hB (Row.lt hrp), hz.below hB, hpw.below hB, hT7.below hB⟩
              · have hk3 := hk
                exact wpOp_plain rfl rfl (wp_assign_v (ac.eval (.tmp 131)) rfl rfl ⟨hl2 10, (hF.put 10 18 (SP.txs w.heap.size (txs (sd N i) dx ty (dx.length + 1))) (ac.eval (.tmp 131)) (by rw [hD]; rfl) ((hF.done 9 (131, SP.txs w.heap.size (txs (sd N i) dx ty (dx.length + 1))) (by rw [hD]; rfl) (ready_dep hk 9 (by kernel_rfl)))) (by rw [hD]; rfl) (by rw [hsz]; decide) (by rw [hl]; decide)), hb1, hry, hrp, hz, hpw, hT7⟩)
            · clear hb1 hry hrp hz hpw hT7 
              intro listed ac W hI hr
              obtain ⟨hl, hF, hb1, hry, hrp, hz, hpw, hT7⟩ := hI
              have hall := all_listed (by kernel_rfl) hl hr
              have h122 : ac.eval (.tmp 122) = .slice (some ⟨b, o, none⟩) N c0 := hF.done 0 (122, SP.is (.slice (some ⟨b, o, none⟩) N c0)) (by rw [hD]; rfl) (hall 0 (by decide))
              have h123 : ac.eval (.tmp 123) = .int .i64 (N : Int) := hF.done 1 (123, SP.is (.int .i64 (N : Int))) (by rw [hD]; rfl) (hall 1 (by decide))
              have h124 : ac.eval (.tmp 124) = .int .i64 (i : Int) := hF.done 2 (124, SP.is (.int .i64 (i : Int))) (by rw [hD]; rfl) (hall 2 (by decide))
              have h125 : ac.eval (.tmp 125) = .agg Ly.toArray := hF.done 3 (125, SP.is (.agg Ly.toArray)) (by rw [hD]; rfl) (hall 3 (by decide))
              obtain ⟨x126, h126⟩ : ∃ x, ac.eval (.tmp 126) = x := ⟨_, rfl⟩
              have h127 : ac.eval (.tmp 127) = .slice (some ⟨gp, 0, none⟩) 2 2 := hF.done 5 (127, SP.is (.slice (some ⟨gp, 0, none⟩) 2 2)) (by rw [hD]; rfl) (hall 5 (by decide))
              have h128 : ac.eval (.tmp 128) = .int .i64 (j : Int) := hF.done 6 (128, SP.is (.int .i64 (j : Int))) (by rw [hD]; rfl) (hall 6 (by decide))
              have h129 : ac.eval (.tmp 129) = .pointer (some ⟨gp, 0 + j * 1, none⟩) := hF.done 7 (129, SP.is (.pointer (some ⟨gp, 0 + j * 1, none⟩))) (by rw [hD]; rfl) (hall 7 (by decide))
              have h130 : ac.eval (.tmp 130) = .slice PX kx cx := hF.done 8 (130, SP.is (.slice PX kx cx)) (by rw [hD]; rfl) (hall 8 (by decide))
              obtain ⟨x131, h131⟩ : ∃ x, ac.eval (.tmp 131) = x := ⟨_, rfl⟩
              have f18 := hF.done 10 (18, SP.txs w.heap.size (txs (sd N i) dx ty (dx.length + 1))) (by rw [hD]; rfl) (hall 10 (by decide))
              obtain ⟨x18, h18⟩ : ∃ x, ac.eval (.tmp 18) = x := ⟨_, rfl⟩
              replace f18 : (SP.txs w.heap.size (txs (sd N i) dx ty (dx.length + 1))).P W x18 := by rw [← h18]; exact f18
              have ea := hF.lay [(122, .slice (some ⟨b, o, none⟩) N c0), (123, .int .i64 (N : Int)), (124, .int .i64 (i : Int)), (125, .agg Ly.toArray), (126, x126), (127, .slice (some ⟨gp, 0, none⟩) 2 2), (128, .int .i64 (j : Int)), (129, .pointer (some ⟨gp, 0 + j * 1, none⟩)), (130, .slice PX kx cx), (131, x131), (18, x18)] (by rw [hD, hsz]; rfl) (by simp only [List.forall_mem_cons, List.not_mem_nil, false_implies, implies_true, and_true]; exact ⟨h122, h123, h124, h125, h126, h127, h128, h129, h130, h131, h18⟩)
              rw [ha0] at ea
              simp only [List.foldl_cons, List.foldl_nil, List.setIfInBounds_toArray, List.set_cons_zero, List.set_cons_succ] at ea
              clear hF hall hr hl hD  zs5 zs7 zs13 zs14 zs15 ha0 hsz h122 h123 h124 h125 h126 h127 h128 h129 h130 h131 h18
              subst ea
              obtain ⟨vs8, t8⟩ := f18
              obtain ⟨g8, c8, e8, _, _, _⟩ := t8.form (by rw [txs_length]; omega)
              rw [txs_length] at e8
              subst e8
              have T7w : Hid (Txs W w.heap.size (.slice (some ⟨g7, 0, none⟩) (ds.length + 1) c7) (txs (sd N i) ds tx (ds.length + 1)) vs7) := hT7
              have T8w : Hid (Txs W w.heap.size (.slice (some ⟨g8, 0, none⟩) (dx.length + 1) c8) (txs (sd N i) dx ty (dx.length + 1)) vs8) := t8
              have hbw : Hid (Below w.heap.size w W) := hb1
              have HZW : Hid (Below Z1.heap.size Z1 W) := hz.h
              have hkl : dx.length = ds.length := by rw [HDX.out, HDS.out]
              have HKL : Hid (dx.length = ds.length) := hkl
              have HDB : Hid (ds.length ≤ 200) := by rw [← HKD.out]; exact hdb
              clear hT7 t8 hb1 hry hrp hpw hkl hz
              go_wp2_with (first
                | (refine wpList_join rfl (.tmp 132) (.tmp 133) rfl W w w.heap.size w.heap.size _ _ _ _ _ _ T7w.out T8w.out (by rw [txs_length]; omega) rfl rfl (by rw [txs_length, txs_length, HKL.out]; have := HDB.out; omega) hbw.out.size (Nat.le_refl _) hbw.out ?_; intro v9 w9 T9 hB9 hG9; obtain ⟨g9, c9, e9, _, _, hr9⟩ := T9.form (by rw [List.length_append, txs_length]; omega); rw [List.length_append, txs_length, txs_length] at e9; subst e9; have HT9 : Hid (LsAt w9 g9 0 (txs (sd N i) ds tx (ds.length + 1) ++ txs (sd N i) dx ty (dx.length + 1))) := T9.ls hr9; have HB9 : Hid (Below w.heap.size w w9) := hB9; have HZ9 : Hid (Below Z1.heap.size Z1 w9) := below_gb HZW.out hG9 (fun g e => by cases e; exact HG7.out); clear hB9 hG9 T9 hr9; simp only [Act.put, List.setIfInBounds_toArray, List.set_cons_zero, List.set_cons_succ])
                | (go_at_call 14; refine Calls.mono (clash11_true _ _ (by rw [List.length_append, txs_length, txs_length]) (by rw [HKL.out]; have := HDB.out; omega) HTLN.out HCLH.out g9 0 c9 w9 (HG.out.low HB9.out) HT9.out) ?_; rintro e V9 ⟨rfl, p⟩; have pz : Below Z1.heap.size Z1 V9 := HZ9.out.trans (p.mono HZ9.out.size); have HBz : Hid (Below w.heap.size w V9) := HB9.out.trans (p.mono HB9.out.size); have RXz : Hid (Row V9 y12 Lx 46) := Row.below RX1.out pz RX1.out.lt; have RYz : Hid (Row V9 y13 Ly 46) := Row.below RY1.out pz RY1.out.lt; have RDz : Hid (Row V9 y8 (vB dd) 39) := Row.below RD1.out pz RD1.out.lt; have RPz : Hid (Row V9 gp [.slice Ap kx cp, .slice PA k2 pc] 30) := Row.below RP1.out pz RP1.out.lt; have PRz : Hid (PAt V9 (.slice Ap kx cp) ds) := PR1.out.below pz; have P2z : Hid (PAt V9 (.slice PA k2 pc) ds2) := P21.out.below pz; clear pz; clear p))
              refine ⟨⟨j + 1, hj2, by go_num, HBz, RDz, PRz, RXz, RYz, RPz, P2z⟩, by simp [intOf]; omega⟩
          · have hbf : BN = false := by cases BN; rfl; exact absurd rfl hbn
            subst hbf
            clear hbn hck
            go_wp2_with (first
              | (refine wpList_load_w rfl 46 (.tmp 12) rfl y12 (0) rfl Lx _ RXw.out.all Tryz.underlying46 rfl HIX.out ?_; simp only [Act.put, List.setIfInBounds_toArray, List.set_cons_zero, List.set_cons_succ])
              | (refine wpList_load_w rfl 46 (.tmp 13) rfl y13 (0) rfl Ly _ RYw.out.all Tryz.underlying46 rfl HIY.out ?_; simp only [Act.put, List.setIfInBounds_toArray, List.set_cons_zero, List.set_cons_succ])
              | (refine wpList_neqG rfl (.tmp 103) (.tmp 104) _ rfl Lx Ly false rfl rfl HNE.out ?_; simp only [Act.put, List.setIfInBounds_toArray, List.set_cons_zero, List.set_cons_succ]))
            refine ⟨⟨j + 1, hj2, by go_num, HBaw, RDw, PRw, RXw, RYw, RPw, P2w⟩, by simp [intOf]; omega⟩
        · rw [if_neg hck] at hO2
          subst hO2
          clear hck
          go_wp2_with fail
          refine ⟨⟨j + 1, hj2, by go_num, HBaw, RDw, PRw, RXw, RYw, RPw, P2w⟩, by simp [intOf]; omega⟩
    · obtain rfl : j = 2 := by omega
      go_wp2
      go_ret
      exact ⟨rfl, HBaw.out⟩

end Go.Proofs.YtfkcmeafddhmkaaGreatDoor
