/-
  the law OutboxAgrees: its walk.
-/
import Derived.Test.YtbfahgdienppoaaGreatDoorAgK
namespace Go.Proofs.YtbfahgdienppoaaGreatDoor
open Go Go.RowKit Go.Maps
open Sha

theorem Two.below {w0 w w' : World} {S B q n : Nat} {ts us : List (List (BitVec 8))} (h : Two w0 w S B q n ts us) (k : Below w.heap.size w w') : Two w0 w' S B q n ts us := h.be k
theorem empty_lgS (w W V : World) (T : Nat) (hT : Row W T [.map none, .pointer none] tT) (hB : Below w.heap.size w W) (hS : Sv V (W.heap.size + 1) T W.heap.size 0 (.map [])) (hV : Below W.heap.size W V) : LgS w V (W.heap.size + 1) 0 (fun _ => []) :=
  ⟨T, W.heap.size, 0, .map [], Nat.le_refl _, Row.below hT hV hT.lt, hS, ⟨_, rfl⟩, hB.size, hB.trans (hV.mono hB.size), fun s _ => .inl ⟨atKey_of_not_has (by simp [Maps.has]) _, rfl⟩, fun s s' C _ _ e _ => by
    rw [atKey_of_not_has (by simp [Maps.has])] at e
    simp at e, fun _ _ => by simp⟩
theorem ag_pk (c : Int) (N : Nat) (h : 0 < N) : ∃ i : Nat, pk c (N : Int) = (i : Int) ∧ i < N := by
  have q := pk_range c (N : Int) (by omega)
  exact ⟨(pk c (N : Int)).toNat, by omega, by omega⟩
/-- Check at a place that is there. -/
theorem ag_okc (root : List (BitVec 8)) (N i : Nat) (hi : i < N) (hN : N ≤ 1099511627776) (r : Rwv) (ds : List (List (BitVec 8))) (h1 : ds.length = pl N i) (h2 : rb N i (rwt r i) ds = root) : okc root (N : Int) (i : Int) (pk r.en 1099511627776) (pk r.tk 64) r.rc (am9 r.am) ds = 0 := by
  unfold okc
  rw [if_neg (by rw [rw_may r i (by omega)]; decide), if_neg (by omega), if_neg (by omega)]
  have hck : ck root (N : Int) (i : Int) (rwt r i) ds = 0 := by
    unfold ck
    rw [if_neg (by omega), if_neg (by omega), Int.toNat_natCast, Int.toNat_natCast, if_pos ⟨h1, h2⟩]
  change (if ck root (N : Int) (i : Int) (rwt r i) ds = 0 then (0 : Int) else 113) = _
  rw [hck]
  rfl
section
variable {Q : Exit → Act → World → Prop} {o : Oper} {a : Act} {w : World} {K : Act → World → Prop}
theorem wp_ne0 {x : Operand} {t yt : TypeId} (ho : o.op = .binOp .neq t x (.const (.int .i64 0)) yt) (hx : a.eval x = .int .i64 0) (h : K (a.put o.dst (.bool false)) w) : Oper.wp Tryz.prog o a w K Q := by
  unfold Oper.wp execOp
  simp only [ho, hx]
  go_simp
  exact h
theorem wp_add1 {x : Operand} {t yt : TypeId} (ho : o.op = .binOp .add t x (.const (.int .i64 1)) yt) (i n : Nat) (hn : n = i + 1) (hb : i ≤ 1000) (hx : a.eval x = .int .i64 (i : Int)) (h : K (a.put o.dst (.int .i64 (n : Int))) w) : Oper.wp Tryz.prog o a w K Q := by
  unfold Oper.wp execOp
  simp only [ho, hx]
  go_simp
  have e2 : (i : Int) + 1 = (n : Int) := by omega
  have e : IntKind.i64.wrap (n : Int) = (n : Int) := by rw [IntKind.wrap_i64]; omega
  rw [e2]
  first | exact h | (rw [e]; exact h)
theorem wp_neqL (x y : Operand) (yt : TypeId) (ho : o.op = .binOp .neq 39 x y yt) (L : List Value) (hx : a.eval x = .agg L.toArray) (hy : a.eval y = .agg L.toArray) (hr : ∀ w, (binOp .neq 39 (.agg L.toArray) (.agg L.toArray)).run Tryz.prog w = .ok (.bool false) w) (h : K (a.put o.dst (.bool false)) w) : Oper.wp Tryz.prog o a w K Q := by
  unfold Oper.wp execOp
  simp only [ho, hx, hy, Sem.run_bind, run_eqGuard_agg w .neq 39 x y _ _ guardL, Result.andThen_ok, hr, Sem.run_pure, Oper.upon_value]
  exact h
theorem wpList_eqlDg {ops : Array Oper} {rest : List Oper} (hw : Region.wanted o (yielded ops a.tmps) = true) (x y : Operand) (yt : TypeId) (ho : o.op = .binOp .eql 53 x y yt) (d : List (BitVec 8)) (hd : d.length = 32) (hx : a.eval x = .agg (vB d).toArray) (hy : a.eval y = .agg (vB d).toArray)
    (h : wpList Tryz.prog ops Q rest (a.put o.dst (.bool true)) w) : wpList Tryz.prog ops Q (o :: rest) a w :=
  BigFrame.wpList_want hw fun _ hK => wp_eql_d x y yt ho d d hd hd hx hy true (by simp) (hK _ _ h)
end
set_option maxRecDepth 100000 in
set_option maxHeartbeats 8000000 in
theorem agrees_walk (rs0 : List Rwv) (A0 : Option Addr) (n0 c0 : Nat) (hn0 : n0 = rs0.length) (hc0 : n0 ≤ c0) (idx : Int) (hi0 : -9223372036854775808 ≤ idx) (hi1 : idx ≤ 9223372036854775807) (w : World) (hT : Tab w 2) (h64 : TabAt 1 Lib.deBruijn64tab w) (hd64 : 1 < w.heap.size) (h0 : Ra w A0 rs0) :
    Calls Tryz.prog 3 #[.slice A0 n0 c0, .int .i64 idx] w fun e w' => e = .returned (.bool true) ∧ Below w.heap.size w w' := by
  obtain ⟨l, hl⟩ : ∃ l, l = rs0.take 200 := ⟨_, rfl⟩
  obtain ⟨N, hN⟩ : ∃ N, N = l.length := ⟨_, rfl⟩
  have hN2 : N ≤ 200 := by rw [hN, hl, List.length_take]; omega
  have HF0 : Hid (Calls Tryz.prog 4 #[.slice A0 n0 c0] w fun e w' => e = .returned (.slice A0 N c0) ∧ w' = w) := few_any rs0 A0 n0 c0 hn0 hc0 N (by rw [hN, hl]) w h0
  have HL : Hid (Ra w A0 l) := by rw [hl]; exact h0.take 200
  have HNl : Hid (N = l.length) := hN
  have HTB : Hid (Tab w 2) := hT
  have H64 : Hid (TabAt 1 Lib.deBruijn64tab w) := h64
  have HD64 : Hid (1 < w.heap.size) := hd64
  clear hl hN hn0 hc0 hT h64 hd64 h0
  go_enter Tryz.func3, Tryz.ntmps3
  go_upto_region 2 with (go_at_call 4; refine Calls.mono HF0.out ?_; rintro e X ⟨rfl, hq⟩; obtain rfl := hq.symm)
  clear HF0
  go_upto_region 3 with (go_at_call 5; refine Calls.mono (newTable_any w) ?_; rintro e X1 ⟨rfl, hq⟩; have R1 : Hid (Row X1 w.heap.size [.map none, .pointer none] tT) := (by rw [hq]; exact Row.new' rfl rfl); have B1 : Hid (Below w.heap.size w X1) := (by rw [hq]; exact (Below.refl _ _).alloc (Nat.le_refl _) _); clear hq)
  obtain ⟨T, hT⟩ : ∃ T, T = w.heap.size := ⟨_, rfl⟩
  rw [← hT] at R1 ⊢
  clear hT
  go_upto_region 4 with (go_at_call 6; refine Calls.mono (new_any X1) ?_; rintro e X2 ⟨rfl, p⟩; have K2 : Hid (Bk w X2 X1.heap.size (.slice none 0 0) []) := p.down B1.out; have R2 : Hid (Row X2 T [.map none, .pointer none] tT) := Row.below R1.out p.be R1.out.lt; clear p)
  obtain ⟨B, hB⟩ : ∃ B, B = X1.heap.size := ⟨_, rfl⟩
  rw [← hB] at K2 ⊢
  clear hB R1 B1
  go_upto_region 6 with (go_at_call 7; refine Calls.mono (obk_any X2) ?_; rintro e X3 ⟨rfl, p⟩; have K3 : Hid (Bk w X3 B (.slice none 0 0) []) := K2.out.keep p; have R3 : Hid (Row X3 T [.map none, .pointer none] tT) := Row.below R2.out p R2.out.lt; clear p)
  clear K2 R2
  go_upto_region 7 with (go_at_call 8; refine Calls.mono (over_some T X3) ?_; rintro e X4 ⟨rfl, p1, p⟩; have T4 : Hid (Two w X4 (X3.heap.size + 1) B 0 0 (bts (l.take 0)) (bts (l.take 0))) := ⟨⟨fun _ => [], empty_lgS w X3 X4 T R3.out K3.out.be p1 p, rfl, rfl, by decide⟩, ⟨.slice none 0 0, K3.out.keep p⟩⟩; clear p1 p)
  obtain ⟨S, hS⟩ : ∃ S, S = X3.heap.size + 1 := ⟨_, rfl⟩
  rw [← hS] at T4 ⊢
  clear hS K3 R3
  go_wp2_with fail
  go_loopw [10] (fun v10 wr => ∃ i q : Nat, i ≤ N ∧ v10 = .int .i64 (i : Int) ∧ Hid (q ≤ 4 * i) ∧ Hid (Two w wr S B q i (bts (l.take i)) (bts (l.take i)))) (fun v10 _ => N - (intOf v10).toNat)
  case atStart => exact ⟨0, 0, Nat.zero_le _, rfl, Nat.zero_le _, T4⟩
  case round =>
    obtain ⟨i, q, hi, rfl, HQ, Twr⟩ := hrel
    clear T4
    by_cases hiN : i < N
    · obtain ⟨r, hr⟩ : ∃ r, l[i]? = some r := ⟨_, List.getElem?_eq_getElem (by rw [← HNl.out]; exact hiN)⟩
      obtain ⟨hok, b, o, hA0, hrg0⟩ := HL.out i r hr
      subst hA0
      obtain ⟨n1, hn1⟩ : ∃ n1, n1 = i + 1 := ⟨_, rfl⟩
      have e1 : (i : Int) + 1 = (n1 : Int) := by omega
      obtain ⟨j, hpk, hjn⟩ := ag_pk idx n1 (by omega)
      obtain ⟨r2, hr2⟩ : ∃ r2, l[j]? = some r2 := ⟨_, List.getElem?_eq_getElem (by rw [← HNl.out]; omega)⟩
      obtain ⟨hok2, b', o', hA2, hrg2⟩ := HL.out j r2 hr2
      simp only [Option.some.injEq, Addr.mk.injEq, and_true] at hA2
      obtain ⟨rfl, rfl⟩ := hA2
      have hli : (l.take i).length = i := by rw [List.length_take, ← HNl.out]; omega
      have hln : (l.take n1).length = n1 := by rw [List.length_take, ← HNl.out]; omega
      have htk : l.take n1 = l.take i ++ [r] := by rw [hn1]; exact take_snoc l i r hr
      have hr2t : (l.take n1)[j]? = some r2 := by rw [List.getElem?_take, if_pos hjn]; exact hr2
      have hokn : ∀ x ∈ l.take n1, x.Ok := fun x hx => HL.out.ok x (List.mem_of_mem_take hx)
      obtain ⟨ts, hts⟩ : ∃ ts, ts = bts (l.take i) := ⟨_, rfl⟩
      obtain ⟨us, hus⟩ : ∃ us, us = bts (l.take n1) := ⟨_, rfl⟩
      have hus2 : us = ts ++ [rwt r i] := by rw [hus, htk, bts_snoc, hts, hli]
      have hul : us.length = n1 := by rw [hus, bts_len, hln]
      have hue : ∀ k, (us.getD k []).length ≤ 153 := by rw [hus]; exact bts_each _ hokn
      rw [← hts] at Twr
      obtain ⟨R, hR⟩ : ∃ R, R = rwc r := ⟨_, rfl⟩
      obtain ⟨R2, hR2⟩ : ∃ R2, R2 = rwc r2 := ⟨_, rfl⟩
      obtain ⟨Lx, hLx⟩ : ∃ L, L = rwl r i := ⟨_, rfl⟩
      obtain ⟨L0, hL0⟩ : ∃ L, L = rwl r 0 := ⟨_, rfl⟩
      obtain ⟨L2, hL2⟩ : ∃ L, L = rwl r2 j := ⟨_, rfl⟩
      obtain ⟨tx, htx⟩ : ∃ t, t = rwt r i := ⟨_, rfl⟩
      obtain ⟨dd, hdd⟩ : ∃ d, d = rt us := ⟨_, rfl⟩
      obtain ⟨ds, hds⟩ : ∃ ds, ds = pt j us := ⟨_, rfl⟩
      obtain ⟨kd, hkd⟩ : ∃ k, k = ds.length := ⟨_, rfl⟩
      have h32 : dd.length = 32 := by rw [hdd]; exact rt_length _
      have htg : us.getD j [] = rwt r2 j := by rw [hus, List.getD_eq_getElem?_getD, bts_get, hr2t]; rfl
      have HG : Hid (wr.rangeAt b (o + i * 26) R) := by rw [hR]; exact range_be hrg0 Twr.out.bel
      have HRG2 : Hid (∀ W, Below w.heap.size w W → W.rangeAt b (o + j * 26) R2) := fun W hW => by rw [hR2]; exact range_be hrg2 hW
      have HI : Hid ((Tryz.prog.info? 42).map (·.size) = some R.length) := by show _ = _; rw [hR, rwc_len hok]; exact info_raw
      have HIR2 : Hid ((Tryz.prog.info? 42).map (·.size) = some R2.length) := by show _ = _; rw [hR2, rwc_len hok2]; exact info_raw
      have HLF : Hid (∀ X, Calls Tryz.prog 9 #[.agg R.toArray, .int .i64 (i : Int)] X fun e w' => e = .returned (.agg Lx.toArray) ∧ Below X.heap.size X w') := fun X => by rw [hLx]; exact rleaf_any r hok i R hR X
      have HLF2 : Hid (∀ X, Calls Tryz.prog 9 #[.agg R2.toArray, .int .i64 (j : Int)] X fun e w' => e = .returned (.agg L2.toArray) ∧ Below X.heap.size X w') := fun X => by rw [hL2]; exact rleaf_any r2 hok2 j R2 hR2 X
      have HIX : Hid ((Tryz.prog.info? 39).map (·.size) = some Lx.length) := by rw [hLx]; exact info_lf hok.rc (am9_len hok.am)
      have HI0 : Hid ((Tryz.prog.info? 39).map (·.size) = some L0.length) := by rw [hL0]; exact info_lf hok.rc (am9_len hok.am)
      have HI2 : Hid ((Tryz.prog.info? 39).map (·.size) = some L2.length) := by rw [hL2]; exact info_lf hok2.rc (am9_len hok2.am)
      have HZX : Hid (Lx.length = zLf.length) := by show _ = _; rw [hLx]; exact lf_len hok.rc (am9_len hok.am)
      have HZ2 : Hid (L2.length = zLf.length) := by show _ = _; rw [hL2]; exact lf_len hok2.rc (am9_len hok2.am)
      have HOX : Hid (Lx.toArray.all (·.oneCell') = true) := by rw [hLx]; exact lf_all
      have HO2 : Hid (L2.toArray.all (·.oneCell') = true) := by rw [hL2]; exact lf_all
      have HL1 : Hid (0 < Lx.length) := by show _ < _; rw [HZX.out]; decide
      have HS0 : Hid (Lx.set 0 (.int .i64 0) = L0) := by show _ = _; rw [hLx, hL0]; rfl
      have HNX : Hid (∀ w, (binOp .neq 39 (.agg Lx.toArray) (.agg Lx.toArray)).run Tryz.prog w = .ok (.bool false) w) := fun w => by rw [hLx]; exact neL _ _ _ _ _ hok.rc (am9_len hok.am) w
      have HNL2 : Hid (∀ w, (binOp .neq 39 (.agg L2.toArray) (.agg L2.toArray)).run Tryz.prog w = .ok (.bool false) w) := fun w => by rw [hL2]; exact neL _ _ _ _ _ hok2.rc (am9_len hok2.am) w
      have HAD : Hid (∀ X, Two w X S B q i ts ts → Calls Tryz.prog 10 #[.pointer (some ⟨S, 0, none⟩), .agg L0.toArray] X fun e w' => e = .returned (.tuple #[.int .i64 (i : Int), .int .i64 0]) ∧ Two w w' S B (q + 2) n1 us ts ∧ Kr X w') := fun X hX => by
        rw [hus2, hn1]
        exact add_two w S B q i ts ts (by have := HQ.out; omega) (by omega) r hok L0 hL0 X HTB.out H64.out HD64.out hX
      have HPU : Hid (∀ X, Two w X S B (q + 2) n1 us ts → Calls Tryz.prog 11 #[.pointer (some ⟨B, 0, none⟩), .agg Lx.toArray] X fun e w' => e = .returned (.int .i64 0) ∧ Two w w' S B (q + 2) n1 us us ∧ Kr X w') := fun X hX => by
        rw [hts] at hX
        have q9 := put_two w S B (q + 2) n1 us (l.take i) r hok (by omega) i hli.symm Lx hLx X hX
        rw [← htk, ← hus] at q9
        exact q9
      have HBY : Hid (∀ X, Calls Tryz.prog 12 #[.agg Lx.toArray] X fun e w' => ∃ A k cap, e = .returned (.tuple #[.slice A k cap, .int .i64 0]) ∧ Bw w' (.slice A k cap) tx ∧ Below X.heap.size X w') := fun X => by
        refine (bytes_ok (i : Int) _ _ r.rc (am9 r.am) hok.rc (am9_len hok.am) (am9_q hok.q) (rw_may r i (by omega)) Lx hLx X).mono ?_
        rintro e w' ⟨A, k, cap, h1, h2, h3, h4, h5⟩
        rw [htx]
        exact ⟨A, k, cap, h2, h3, h5⟩
      have HRE : Hid (∀ X A k c, Bw X (.slice A k c) tx → Calls Tryz.prog 13 #[.slice A k c] X fun e w' => e = .returned (.tuple #[.agg Lx.toArray, .int .i64 0]) ∧ Below X.heap.size X w') := fun X A k c hb => by
        obtain ⟨A9, c9, e9, _, h9⟩ := Bw.form hb
        simp only [Value.slice.injEq] at e9
        obtain ⟨rfl, e9, rfl⟩ := e9
        rw [hLx]
        exact read_leaf (i : Int) _ _ r.rc (am9 r.am) hok.rc (am9_len hok.am) (am9_q hok.q) (rw_may r i (by omega)) tx htx A k c e9.symm h9 X (Bw.sl hb)
      have HSZ : Hid (∀ X, Two w X S B (q + 2) n1 us us → Calls Tryz.prog 14 #[.pointer (some ⟨S, 0, none⟩)] X fun e w' => e = .returned (.tuple #[.int .i64 (n1 : Int), .int .i64 0]) ∧ Two w w' S B (q + 3) n1 us us ∧ Kr X w') := fun X hX => size_two w S B (q + 2) n1 us us (by have := HQ.out; omega) X hX
      have HRT : Hid (∀ X, Two w X S B (q + 3) n1 us us → Calls Tryz.prog 15 #[.pointer (some ⟨S, 0, none⟩)] X fun e w' => e = .returned (.tuple #[.agg (vB dd).toArray, .int .i64 0]) ∧ Two w w' S B (q + 4) n1 us us ∧ Kr X w') := fun X hX => root_two w S B (q + 3) n1 us us (by have := HQ.out; omega) dd hdd X HTB.out hX
      have HBR : Hid (∀ X, Two w X S B (q + 4) n1 us us → Calls Tryz.prog 16 #[.pointer (some ⟨B, 0, none⟩), .int .i64 (n1 : Int)] X fun e w' => e = .returned (.tuple #[.agg (vB dd).toArray, .int .i64 0]) ∧ Below X.heap.size X w') := fun X hX => by
        obtain ⟨v, hv⟩ := hX.bk
        exact root_bk w B v us (by omega) hue n1 (by omega) dd (by rw [hdd, List.take_of_length_le (by omega)]) X (HTB.out.below hX.bel HTB.out.lt) hv
      have HCB : Hid (∀ X, Two w X S B (q + 4) n1 us us → ∃ A c, X.cell? ⟨B, 0, none⟩ = some (.slice A n1 c)) := fun X hX => by
        obtain ⟨v, hv⟩ := hX.bk
        obtain ⟨A, c, e⟩ := hv.form
        rw [hul] at e
        subst e
        exact ⟨A, c, hv.row.cell 0 _ rfl⟩
      have HPK : Hid (∀ X, Calls Tryz.prog 18 #[.int .i64 idx, .int .i64 (n1 : Int)] X fun e w' => e = .returned (.int .i64 (j : Int)) ∧ w' = X) := fun X => by rw [← hpk]; exact pick11 idx (n1 : Int) (by omega) hi0 hi1 (by omega) X
      have HPA : Hid (∀ X, Two w X S B (q + 4) n1 us us → Calls Tryz.prog 19 #[.pointer (some ⟨B, 0, none⟩), .int .i64 (j : Int), .int .i64 (n1 : Int)] X fun e w' => ∃ A cap, e = .returned (.tuple #[.slice A kd cap, .int .i64 0]) ∧ PAt w' (.slice A kd cap) ds ∧ Below X.heap.size X w') := fun X hX => by
        obtain ⟨v, hv⟩ := hX.bk
        rw [hkd]
        exact path_bk w B v us (by omega) hue j n1 hul.symm hjn ds hds X (HTB.out.below hX.bel HTB.out.lt) hv
      have HLE : Hid (∀ X, Two w X S B (q + 4) n1 us us → Calls Tryz.prog 20 #[.pointer (some ⟨B, 0, none⟩), .int .i64 (j : Int)] X fun e w' => e = .returned (.tuple #[.agg L2.toArray, .int .i64 0]) ∧ Below X.heap.size X w') := fun X hX => by
        obtain ⟨v, hv⟩ := hX.bk
        rw [hus] at hv
        exact leaf_rw w B v (l.take n1) (by omega) j r2 hr2t hok2 L2 hL2 X hv
      have HCK : Hid (∀ X Ap cp, Below w.heap.size w X → PAt X (.slice Ap kd cp) ds → Calls Tryz.prog 21 #[.agg (vB dd).toArray, .int .i64 (n1 : Int), .agg L2.toArray, .slice Ap kd cp] X fun e w' => e = .returned (.int .i64 0) ∧ Below X.heap.size X w') := fun X Ap cp h1 h2 => by
        have q9 := ocheck_any dd h32 (n1 : Int) (j : Int) _ _ r2.rc (am9 r2.am) hok2.rc (am9_len hok2.am) (am9_q hok2.q) L2 hL2 ds Ap kd cp X (HTB.out.below h1 HTB.out.lt) h2
        rw [ag_okc dd n1 j hjn (by omega) r2 ds (by rw [hds]; exact pt_length n1 j us hul (by omega) (by omega)) (by rw [hds, hdd, ← htg]; exact rb_pt n1 j us hul hjn (by omega))] at q9
        exact q9
      have HID : Hid ((Tryz.prog.info? 53).map (·.size) = some (vB dd).length) := info_dg11 dd h32
      have HLD : Hid ((vB dd).length = (vB (List.replicate 32 0#8)).length) := by show _ = _; rw [vB_length, vB_length, h32]; rfl
      have HDD : Hid (dd.length = 32) := h32
      have HN1 : Hid (n1 = i + 1) := hn1
      have HN1L : Hid (n1 ≤ N) := by show _ ≤ _; omega
      have HQ1 : Hid (Hid (q + 4 ≤ 4 * n1)) := by have := HQ.out; show _ ≤ _; omega
      have HIB : Hid (i ≤ 1000) := by show _ ≤ _; omega
      have HJN : Hid (j < N) := by show _ < _; omega
      have hjb : j ≤ 200 := by omega
      have hnb : n1 ≤ 201 := by omega
      have HUS : Hid (us = bts (l.take n1)) := hus
      clear hr hok hrg0 hpk hr2 hok2 hrg2 hli hln htk hr2t hokn hts hus hus2 hul hue hR hR2 hLx hL0 hL2 htx hdd hds hkd h32 htg hn1 hjn
      go_upto_region 12 with fail
      go_upto_region 13 with (first
        | (refine wpList_load_w rfl 42 (.tmp 64) rfl b (o + i * 26) rfl R _ HG.out Tryz.underlying42 rfl HI.out ?_; simp only [Act.put, List.setIfInBounds_toArray, List.set_cons_zero, List.set_cons_succ])
        | (go_at_call 9; refine Calls.mono (HLF.out wr) ?_; rintro e Y1 ⟨rfl, p⟩; have TY1 : Hid (Two w Y1 S B q i ts ts) := Twr.out.be p; clear p)
        | (refine wpList_allocLf rfl rfl ?_; intro Y2 q1 q2 q3; have RZ : Hid (Row Y2 Y1.heap.size zLf 39) := q1; have BZ : Hid (Below Y1.heap.size Y1 Y2) := q2; clear q1 q2 q3; simp only [Act.put, List.setIfInBounds_toArray, List.set_cons_zero, List.set_cons_succ])
        | (refine wpList_storeL rfl 39 (.tmp 11) (.tmp 67) rfl Y1.heap.size Lx zLf 39 rfl rfl RZ.out HZX.out HIX.out HOX.out ?_; intro Y3 q1 q2; have p : Below Y1.heap.size Y1 Y3 := (by rw [q1]; exact below_setCells BZ.out (Nat.le_refl _) _); have TY3 : Hid (Two w Y3 S B q i ts ts) := TY1.out.be p; have RXY3 : Hid (Row Y3 Y1.heap.size Lx 39) := q2; have LTY3 : Hid (w.heap.size ≤ Y1.heap.size) := TY1.out.bel.size; clear p q1 q2; simp only [Act.put]))
      obtain ⟨y11, hy11⟩ : ∃ y, y = Y1.heap.size := ⟨_, rfl⟩
      rw [← hy11] at RXY3 LTY3 ⊢
      have LY11 : Hid (w.heap.size ≤ y11) := LTY3
      clear hy11 LTY3
      clear RZ BZ Twr TY1 HG
      go_upto_region 14 with (first
        | (refine wpList_load_w rfl 39 (.tmp 11) rfl y11 (0) rfl Lx _ RXY3.out.all Tryz.underlying39 rfl HIX.out ?_; simp only [Act.put, List.setIfInBounds_toArray, List.set_cons_zero, List.set_cons_succ])
        | (refine wpList_allocLf rfl rfl ?_; intro Y4 q1 q2 q3; have RZ : Hid (Row Y4 Y3.heap.size zLf 39) := q1; have BZ : Hid (Below Y3.heap.size Y3 Y4) := q2; clear q1 q2 q3; simp only [Act.put, List.setIfInBounds_toArray, List.set_cons_zero, List.set_cons_succ])
        | (refine wpList_storeL rfl 39 (.tmp 12) (.tmp 68) rfl Y3.heap.size Lx zLf 39 rfl rfl RZ.out HZX.out HIX.out HOX.out ?_; intro Y5 q1 q2; have p : Below Y3.heap.size Y3 Y5 := (by rw [q1]; exact below_setCells BZ.out (Nat.le_refl _) _); have RXY5 : Hid (Row Y5 y11 Lx 39) := Row.below RXY3.out p RXY3.out.lt; have TY5 : Hid (Two w Y5 S B q i ts ts) := TY3.out.be p; have RYY5 : Hid (Row Y5 Y3.heap.size Lx 39) := q2; have LTY5 : Hid (w.heap.size ≤ Y3.heap.size) := TY3.out.bel.size; clear p q1 q2; simp only [Act.put]))
      have HN12 : Hid (y11 ≠ Y3.heap.size) := by have := RXY3.out.lt; show _ ≠ _; omega
      clear RZ BZ TY3 RXY3
      obtain ⟨y12, hy12⟩ : ∃ y, y = Y3.heap.size := ⟨_, rfl⟩
      rw [← hy12] at RYY5 LTY5 HN12 ⊢
      have LY12 : Hid (w.heap.size ≤ y12) := LTY5
      clear hy12 LTY5
      go_upto_region 15 with (refine wpList_setI rfl (.tmp 69) (.const (.int .i64 0)) rfl y12 0 0 Lx 39 rfl rfl RYY5.out HL1.out ?_; intro Y6 q1 q2; rw [HS0.out] at q2; have TY6 : Hid (Two w Y6 S B q i ts ts) := (by rw [q1]; exact TY5.out.sets (o := 0) (vs := [.int .i64 0]) RYY5.out LY12.out); have RXY6 : Hid (Row Y6 y11 Lx 39) := (by rw [q1]; exact Row.set_other RXY5.out _ _ _ HN12.out); have RYY6 : Hid (Row Y6 y12 L0 39) := q2; clear q1 q2; simp only [Act.put])
      clear TY5 RXY5 RYY5
      go_upto_region 16 with (first
        | (refine wpList_load_w rfl 39 (.tmp 12) rfl y12 (0) rfl L0 _ RYY6.out.all Tryz.underlying39 rfl HI0.out ?_; simp only [Act.put, List.setIfInBounds_toArray, List.set_cons_zero, List.set_cons_succ])
        | (go_at_call 10; refine Calls.mono (HAD.out Y6 TY6.out) ?_; rintro e Y7 ⟨rfl, pt, p⟩; have RXY7 : Hid (Row Y7 y11 Lx 39) := p.lf RXY6.out; have TY7 : Hid (Two w Y7 S B (q + 2) n1 us ts) := pt; clear p pt))
      clear TY6 RXY6 RYY6
      go_upto_region 17 with (first
        | (refine wpList_load_w rfl 39 (.tmp 11) rfl y11 (0) rfl Lx _ RXY7.out.all Tryz.underlying39 rfl HIX.out ?_; simp only [Act.put, List.setIfInBounds_toArray, List.set_cons_zero, List.set_cons_succ])
        | (go_at_call 11; refine Calls.mono (HPU.out Y7 TY7.out) ?_; rintro e Y8 ⟨rfl, pt, p⟩; have RXY8 : Hid (Row Y8 y11 Lx 39) := p.lf RXY7.out; have TY8 : Hid (Two w Y8 S B (q + 2) n1 us us) := pt; clear p pt))
      clear TY7 RXY7
      go_upto_region 18 with (first
        | (refine wpList_load_w rfl 39 (.tmp 11) rfl y11 (0) rfl Lx _ RXY8.out.all Tryz.underlying39 rfl HIX.out ?_; simp only [Act.put, List.setIfInBounds_toArray, List.set_cons_zero, List.set_cons_succ])
        | (go_at_call 12; refine Calls.mono (HBY.out Y8) ?_; rintro e Y9 ⟨A16, k16, c16, rfl, hw16, p⟩; have RXY9 : Hid (Row Y9 y11 Lx 39) := Row.below RXY8.out p RXY8.out.lt; have TY9 : Hid (Two w Y9 S B (q + 2) n1 us us) := TY8.out.be p; have W16 : Hid (Bw Y9 (.slice A16 k16 c16) tx) := hw16; clear hw16; clear p))
      clear TY8 RXY8
      go_upto_region 19 with (first
        | (go_at_call 13; refine Calls.mono (HRE.out Y9 A16 k16 c16 W16.out) ?_; rintro e Z1 ⟨rfl, p⟩; have RXZ1 : Hid (Row Z1 y11 Lx 39) := Row.below RXY9.out p RXY9.out.lt; have TZ1 : Hid (Two w Z1 S B (q + 2) n1 us us) := TY9.out.be p; clear p)
        | (refine wpList_allocLf rfl rfl ?_; intro Z2 q1 q2 q3; have RZ : Hid (Row Z2 Z1.heap.size zLf 39) := q1; have BZ : Hid (Below Z1.heap.size Z1 Z2) := q2; clear q1 q2 q3; simp only [Act.put, List.setIfInBounds_toArray, List.set_cons_zero, List.set_cons_succ])
        | (refine wpList_storeL rfl 39 (.tmp 18) (.tmp 87) rfl Z1.heap.size Lx zLf 39 rfl rfl RZ.out HZX.out HIX.out HOX.out ?_; intro Z3 q1 q2; have p : Below Z1.heap.size Z1 Z3 := (by rw [q1]; exact below_setCells BZ.out (Nat.le_refl _) _); have RXZ3 : Hid (Row Z3 y11 Lx 39) := Row.below RXZ1.out p RXZ1.out.lt; have TZ3 : Hid (Two w Z3 S B (q + 2) n1 us us) := TZ1.out.be p; have RVZ3 : Hid (Row Z3 Z1.heap.size Lx 39) := q2; have LTZ3 : Hid (w.heap.size ≤ Z1.heap.size) := TZ1.out.bel.size; clear p q1 q2; simp only [Act.put]))
      clear RZ BZ TY9 RXY9 TZ1 RXZ1 W16
      obtain ⟨y18, hy18⟩ : ∃ y, y = Z1.heap.size := ⟨_, rfl⟩
      rw [← hy18] at RVZ3 LTZ3 ⊢
      have LY18 : Hid (w.heap.size ≤ y18) := LTZ3
      clear hy18 LTZ3
      go_upto_region 21 with (first
        | (refine wpList_load_w rfl 39 (.tmp 18) rfl y18 (0) rfl Lx _ RVZ3.out.all Tryz.underlying39 rfl HIX.out ?_; simp only [Act.put, List.setIfInBounds_toArray, List.set_cons_zero, List.set_cons_succ])
        | (refine wpList_load_w rfl 39 (.tmp 11) rfl y11 (0) rfl Lx _ RXZ3.out.all Tryz.underlying39 rfl HIX.out ?_; simp only [Act.put, List.setIfInBounds_toArray, List.set_cons_zero, List.set_cons_succ])
        | (refine wpList_neqLf rfl (.tmp 109) (.tmp 110) _ rfl Lx rfl rfl HNX.out ?_; simp only [Act.put, List.setIfInBounds_toArray, List.set_cons_zero, List.set_cons_succ]))
      clear RVZ3
      clear RXZ3
      go_upto_region 22 with (go_at_call 14; refine Calls.mono (HSZ.out Z3 TZ3.out) ?_; rintro e Z4 ⟨rfl, pt, p⟩; have TZ4 : Hid (Two w Z4 S B (q + 3) n1 us us) := pt; clear p pt)
      clear TZ3
      go_upto_region 23 with (first
        | (go_at_call 15; refine Calls.mono (HRT.out Z4 TZ4.out) ?_; rintro e Z5 ⟨rfl, pt, p⟩; have TZ5 : Hid (Two w Z5 S B (q + 4) n1 us us) := pt; clear p pt)
        | (refine wpList_allocDg rfl rfl ?_; intro Z6 q1 q2; have RZ : Hid (Row Z6 Z5.heap.size (vB (List.replicate 32 0#8)) 53) := q1; have BZ : Hid (Below Z5.heap.size Z5 Z6) := q2; clear q1 q2; simp only [Act.put, List.setIfInBounds_toArray, List.set_cons_zero, List.set_cons_succ])
        | (refine wpList_storeL rfl 53 (.tmp 21) (.tmp 121) rfl Z5.heap.size (vB dd) (vB (List.replicate 32 0#8)) 53 rfl rfl RZ.out HLD.out HID.out (vB_all11 dd) ?_; intro Z7 q1 q2; have p : Below Z5.heap.size Z5 Z7 := (by rw [q1]; exact below_setCells BZ.out (Nat.le_refl _) _); have TZ7 : Hid (Two w Z7 S B (q + 4) n1 us us) := TZ5.out.be p; have RPZ7 : Hid (Row Z7 Z5.heap.size (vB dd) 53) := q2; have LTZ7 : Hid (w.heap.size ≤ Z5.heap.size) := TZ5.out.bel.size; clear p q1 q2; simp only [Act.put]))
      clear RZ BZ TZ4 TZ5
      obtain ⟨y21, hy21⟩ : ∃ y, y = Z5.heap.size := ⟨_, rfl⟩
      rw [← hy21] at RPZ7 LTZ7 ⊢
      have LY21 : Hid (w.heap.size ≤ y21) := LTZ7
      clear hy21 LTZ7
      go_upto_region 24 with (first
        | (go_at_call 16; refine Calls.mono (HBR.out Z7 TZ7.out) ?_; rintro e Z8 ⟨rfl, p⟩; have RPZ8 : Hid (Row Z8 y21 (vB dd) 53) := Row.below RPZ7.out p RPZ7.out.lt; have TZ8 : Hid (Two w Z8 S B (q + 4) n1 us us) := TZ7.out.be p; clear p)
        | (refine wpList_allocDg rfl rfl ?_; intro Z9 q1 q2; have RZ : Hid (Row Z9 Z8.heap.size (vB (List.replicate 32 0#8)) 53) := q1; have BZ : Hid (Below Z8.heap.size Z8 Z9) := q2; clear q1 q2; simp only [Act.put, List.setIfInBounds_toArray, List.set_cons_zero, List.set_cons_succ])
        | (refine wpList_storeL rfl 53 (.tmp 22) (.tmp 128) rfl Z8.heap.size (vB dd) (vB (List.replicate 32 0#8)) 53 rfl rfl RZ.out HLD.out HID.out (vB_all11 dd) ?_; intro V1 q1 q2; have p : Below Z8.heap.size Z8 V1 := (by rw [q1]; exact below_setCells BZ.out (Nat.le_refl _) _); have RPV1 : Hid (Row V1 y21 (vB dd) 53) := Row.below RPZ8.out p RPZ8.out.lt; have TV1 : Hid (Two w V1 S B (q + 4) n1 us us) := TZ8.out.be p; have RQV1 : Hid (Row V1 Z8.heap.size (vB dd) 53) := q2; have LTV1 : Hid (w.heap.size ≤ Z8.heap.size) := TZ8.out.bel.size; clear p q1 q2; simp only [Act.put]))
      clear RZ BZ TZ7 RPZ7 TZ8 RPZ8
      obtain ⟨y22, hy22⟩ : ∃ y, y = Z8.heap.size := ⟨_, rfl⟩
      rw [← hy22] at RQV1 LTV1 ⊢
      have LY22 : Hid (w.heap.size ≤ y22) := LTV1
      clear hy22 LTV1
      obtain ⟨A9, c9, cB⟩ := HCB.out V1 TV1.out
      go_upto_region 26 with (first
        | (go_at_call 17; refine Calls.mono (len_any A9 n1 c9 V1) ?_; rintro e X ⟨rfl, hqq⟩; obtain rfl := hqq.symm)
        | (refine wpList_load_w rfl 53 (.tmp 21) rfl y21 (0) rfl (vB dd) _ RPV1.out.all Tryz.underlying53 rfl HID.out ?_; simp only [Act.put, List.setIfInBounds_toArray, List.set_cons_zero, List.set_cons_succ])
        | (refine wpList_load_w rfl 53 (.tmp 22) rfl y22 (0) rfl (vB dd) _ RQV1.out.all Tryz.underlying53 rfl HID.out ?_; simp only [Act.put, List.setIfInBounds_toArray, List.set_cons_zero, List.set_cons_succ])
        | (refine wpList_neqDg rfl (.tmp 157) (.tmp 158) _ rfl dd HDD.out rfl rfl ?_; simp only [Act.put, List.setIfInBounds_toArray, List.set_cons_zero, List.set_cons_succ]))
      clear cB RQV1
      go_upto_region 27 with (go_at_call 18; refine Calls.mono (HPK.out V1) ?_; rintro e X ⟨rfl, hqq⟩; obtain rfl := hqq.symm)
      go_upto_region 28 with (go_at_call 19; refine Calls.mono (HPA.out V1 TV1.out) ?_; rintro e V2 ⟨Ap, cp, rfl, hpp, p⟩; have RPV2 : Hid (Row V2 y21 (vB dd) 53) := Row.below RPV1.out p RPV1.out.lt; have TV2 : Hid (Two w V2 S B (q + 4) n1 us us) := TV1.out.be p; have PR2 : Hid (PAt V2 (.slice Ap kd cp) ds) := hpp; clear hpp; clear p)
      clear TV1 RPV1
      go_upto_region 29 with (first
        | (go_at_call 20; refine Calls.mono (HLE.out V2 TV2.out) ?_; rintro e V3 ⟨rfl, p⟩; have RPV3 : Hid (Row V3 y21 (vB dd) 53) := Row.below RPV2.out p RPV2.out.lt; have TV3 : Hid (Two w V3 S B (q + 4) n1 us us) := TV2.out.be p; have PR3 : Hid (PAt V3 (.slice Ap kd cp) ds) := PR2.out.below p; clear p)
        | (refine wpList_allocLf rfl rfl ?_; intro V4 q1 q2 q3; have RZ : Hid (Row V4 V3.heap.size zLf 39) := q1; have BZ : Hid (Below V3.heap.size V3 V4) := q2; clear q1 q2 q3; simp only [Act.put, List.setIfInBounds_toArray, List.set_cons_zero, List.set_cons_succ])
        | (refine wpList_storeL rfl 39 (.tmp 25) (.tmp 177) rfl V3.heap.size L2 zLf 39 rfl rfl RZ.out HZ2.out HI2.out HO2.out ?_; intro V5 q1 q2; have p : Below V3.heap.size V3 V5 := (by rw [q1]; exact below_setCells BZ.out (Nat.le_refl _) _); have RPV5 : Hid (Row V5 y21 (vB dd) 53) := Row.below RPV3.out p RPV3.out.lt; have TV5 : Hid (Two w V5 S B (q + 4) n1 us us) := TV3.out.be p; have RWV5 : Hid (Row V5 V3.heap.size L2 39) := q2; have LTV5 : Hid (w.heap.size ≤ V3.heap.size) := TV3.out.bel.size; have PR5 : Hid (PAt V5 (.slice Ap kd cp) ds) := PR3.out.below p; clear p q1 q2; simp only [Act.put]))
      clear RZ BZ TV2 RPV2 TV3 RPV3 PR2 PR3
      obtain ⟨y25, hy25⟩ : ∃ y, y = V3.heap.size := ⟨_, rfl⟩
      rw [← hy25] at RWV5 LTV5 ⊢
      have LY25 : Hid (w.heap.size ≤ y25) := LTV5
      clear hy25 LTV5
      have hb1 := TV5.out.bel
      have hT2 := TV5.out
      have hpr := PR5.out
      have hrp := RPV5.out
      have hrw := RWV5.out
      clear TV5 RPV5 RWV5 PR5
      go_wp2_with fail
      refine wp_named fun a0 ha0 => ?_
      have hsz : a0.tmps.size = 227 := by rw [ha0]; rfl
      have zs5 : a0.eval (.tmp 5) = .slice (some ⟨b, o, none⟩) N c0 := by rw [ha0]; rfl
      have zs10 : a0.eval (.tmp 10) = .int .i64 (i : Int) := by rw [ha0]; rfl
      have zs14 : a0.eval (.tmp 14) = .int .i64 0 := by rw [ha0]; rfl
      have zs15 : a0.eval (.tmp 15) = .int .i64 0 := by rw [ha0]; rfl
      have zs21 : a0.eval (.tmp 21) = .pointer (some ⟨y21, 0, none⟩) := by rw [ha0]; rfl
      have zs23 : a0.eval (.tmp 23) = .int .i64 (j : Int) := by rw [ha0]; rfl
      have zs24 : a0.eval (.tmp 24) = .slice Ap kd cp := by rw [ha0]; rfl
      have zs25 : a0.eval (.tmp 25) = .pointer (some ⟨y25, 0, none⟩) := by rw [ha0]; rfl
      obtain ⟨D, hD⟩ : ∃ D : List (Tmp × SP), D = [(179, SP.is (.int .i64 0)), (180, SP.is (.bool false)), (181, SP.is (.bool false)), (182, SP.is (.int .i64 0)), (183, SP.is (.bool false)), (184, SP.is (.bool false)), (185, SP.is (.bool false)), (186, SP.is (.agg L2.toArray)), (187, SP.is (.slice (some ⟨b, o, none⟩) N c0)), (188, SP.is (.int .i64 (j : Int))), (189, SP.is (.pointer (some ⟨b, o + j * 26, none⟩))), (190, SP.is (.agg R2.toArray)), (191, SP.is (.int .i64 (j : Int))), (192, SP.is (.agg L2.toArray)), (193, SP.is (.bool false)), (194, SP.is (.bool false)), (195, SP.is (.bool false)), (196, SP.is (.agg (vB dd).toArray)), (197, SP.is (.int .i64 (i : Int))), (198, SP.is (.int .i64 (n1 : Int))), (199, SP.is (.agg L2.toArray)), (200, SP.is (.slice Ap kd cp)), (201, SP.is (.int .i64 0)), (202, SP.is (.bool false)), (203, SP.is (.bool false))] := ⟨_, rfl⟩
      refine wp_region_down (by kernel_rfl) (fun listed ac W => listed.size = 25 ∧ Fp D a0 listed ac W ∧ Below w.heap.size w W ∧ Row W y21 ((vB dd)) 53 ∧ Row W y25 L2 39 ∧ PAt W (.slice Ap kd cp) ds ∧ Two w W S B (q + 4) n1 us us) ?_ ?_ ?_
      · exact ⟨by simp, Fp.start D a0 _ _, Below.drew hb1, Row.drew hrp, Row.drew hrw, hpr.below (Below.drew (Below.refl _ _)), hT2.below (Below.drew (Below.refl _ _))⟩
      · clear ha0 hb1 hrp hrw hpr hT2 
        intro listed ac W k hI hdn hk
        obtain ⟨hl, hF, hb1, hrp, hrw, hpr, hT2⟩ := hI
        have hk1 : k < 25 := List.mem_range.1 (List.mem_filter.1 hk).1
        have hl2 : ∀ j, (listed.setIfInBounds j true).size = 25 := fun j => by rw [Array.size_setIfInBounds]; exact hl
        rcases (show k = 0 ∨ k = 1 ∨ k = 2 ∨ k = 3 ∨ k = 4 ∨ k = 5 ∨ k = 6 ∨ k = 7 ∨ k = 8 ∨ k = 9 ∨ k = 10 ∨ k = 11 ∨ k = 12 ∨ k = 13 ∨ k = 14 ∨ k = 15 ∨ k = 16 ∨ k = 17 ∨ k = 18 ∨ k = 19 ∨ k = 20 ∨ k = 21 ∨ k = 22 ∨ k = 23 ∨ k = 24 by omega) with rfl | rfl | rfl | rfl | rfl | rfl | rfl | rfl | rfl | rfl | rfl | rfl | rfl | rfl | rfl | rfl | rfl | rfl | rfl | rfl | rfl | rfl | rfl | rfl | rfl
        · have hk3 := hk
          exact wpOp_plain rfl rfl (wp_move_v (ac.eval (.tmp 14)) rfl rfl ⟨hl2 0, (hF.put 0 179 (SP.is (.int .i64 0)) (ac.eval (.tmp 14)) (by rw [hD]; rfl) (((hF.keep 14 (by rw [hD]; rfl)).trans zs14)) (by rw [hD]; rfl) (by rw [hsz]; decide) (by rw [hl]; decide)), hb1, hrp, hrw, hpr, hT2⟩)
        · have hk3 := hk
          have ea := (hF.done 0 (179, SP.is (.int .i64 0)) (by rw [hD]; rfl) (ready_dep hk 0 (by kernel_rfl)))
          exact wpOp_plain rfl rfl (wp_ne0 rfl ea ⟨hl2 1, (hF.put 1 180 (SP.is (.bool false)) (.bool false) (by rw [hD]; rfl) rfl (by rw [hD]; rfl) (by rw [hsz]; decide) (by rw [hl]; decide)), hb1, hrp, hrw, hpr, hT2⟩)
        · have hk3 := hk
          exact wpOp_plain rfl rfl (wp_move_v (ac.eval (.tmp 180)) rfl rfl ⟨hl2 2, (hF.put 2 181 (SP.is (.bool false)) (ac.eval (.tmp 180)) (by rw [hD]; rfl) ((hF.done 1 (180, SP.is (.bool false)) (by rw [hD]; rfl) (ready_dep hk 1 (by kernel_rfl)))) (by rw [hD]; rfl) (by rw [hsz]; decide) (by rw [hl]; decide)), hb1, hrp, hrw, hpr, hT2⟩)
        · have hk3 := hk
          exact wpOp_wanted rfl (wanted_g (g := 2) (b := false) rfl rfl (hF.done 2 (181, SP.is (.bool false)) (by rw [hD]; rfl) (ready_dep hk 2 (by kernel_rfl))) (by rw [hF.size, hsz]; decide)) (wp_move_v (ac.eval (.tmp 15)) rfl rfl ⟨hl2 3, (hF.put 3 182 (SP.is (.int .i64 0)) (ac.eval (.tmp 15)) (by rw [hD]; rfl) (((hF.keep 15 (by rw [hD]; rfl)).trans zs15)) (by rw [hD]; rfl) (by rw [hsz]; decide) (by rw [hl]; decide)), hb1, hrp, hrw, hpr, hT2⟩)
        · have hk3 := hk
          have ea := (hF.done 3 (182, SP.is (.int .i64 0)) (by rw [hD]; rfl) (ready_dep hk 3 (by kernel_rfl)))
          exact wpOp_wanted rfl (wanted_g (g := 2) (b := false) rfl rfl (hF.done 2 (181, SP.is (.bool false)) (by rw [hD]; rfl) (ready_dep hk 2 (by kernel_rfl))) (by rw [hF.size, hsz]; decide)) (wp_ne0 rfl ea ⟨hl2 4, (hF.put 4 183 (SP.is (.bool false)) (.bool false) (by rw [hD]; rfl) rfl (by rw [hD]; rfl) (by rw [hsz]; decide) (by rw [hl]; decide)), hb1, hrp, hrw, hpr, hT2⟩)
        · have hk3 := hk
          have ea := (hF.done 2 (181, SP.is (.bool false)) (by rw [hD]; rfl) (ready_dep hk 2 (by kernel_rfl)))
          have eb := (hF.done 4 (183, SP.is (.bool false)) (by rw [hD]; rfl) (ready_dep hk 4 (by kernel_rfl)))
          exact wpOp_plain rfl rfl (wp_pick_f (.bool false) rfl ea eb ⟨hl2 5, (hF.put 5 184 (SP.is (.bool false)) (.bool false) (by rw [hD]; rfl) rfl (by rw [hD]; rfl) (by rw [hsz]; decide) (by rw [hl]; decide)), hb1, hrp, hrw, hpr, hT2⟩)
        · have hk3 := hk
          exact wpOp_plain rfl rfl (wp_move_v (ac.eval (.tmp 184)) rfl rfl ⟨hl2 6, (hF.put 6 185 (SP.is (.bool false)) (ac.eval (.tmp 184)) (by rw [hD]; rfl) ((hF.done 5 (184, SP.is (.bool false)) (by rw [hD]; rfl) (ready_dep hk 5 (by kernel_rfl)))) (by rw [hD]; rfl) (by rw [hsz]; decide) (by rw [hl]; decide)), hb1, hrp, hrw, hpr, hT2⟩)
        · have hk3 := hk
          exact wpOp_wanted rfl (wanted_g (g := 6) (b := false) rfl rfl (hF.done 6 (185, SP.is (.bool false)) (by rw [hD]; rfl) (ready_dep hk 6 (by kernel_rfl))) (by rw [hF.size, hsz]; decide)) (wp_load_mid 39 (.tmp 25) rfl y25 0 ((hF.keep 25 (by rw [hD]; rfl)).trans zs25) L2 _ hrw.all Tryz.underlying39 rfl HI2.out ⟨hl2 7, (hF.put 7 186 (SP.is (.agg L2.toArray)) (.agg L2.toArray) (by rw [hD]; rfl) rfl (by rw [hD]; rfl) (by rw [hsz]; decide) (by rw [hl]; decide)), hb1, hrp, hrw, hpr, hT2⟩)
        · have hk3 := hk
          exact wpOp_wanted rfl (wanted_g (g := 6) (b := false) rfl rfl (hF.done 6 (185, SP.is (.bool false)) (by rw [hD]; rfl) (ready_dep hk 6 (by kernel_rfl))) (by rw [hF.size, hsz]; decide)) (wp_move_v (ac.eval (.tmp 5)) rfl rfl ⟨hl2 8, (hF.put 8 187 (SP.is (.slice (some ⟨b, o, none⟩) N c0)) (ac.eval (.tmp 5)) (by rw [hD]; rfl) (((hF.keep 5 (by rw [hD]; rfl)).trans zs5)) (by rw [hD]; rfl) (by rw [hsz]; decide) (by rw [hl]; decide)), hb1, hrp, hrw, hpr, hT2⟩)
        · have hk3 := hk
          exact wpOp_wanted rfl (wanted_g (g := 6) (b := false) rfl rfl (hF.done 6 (185, SP.is (.bool false)) (by rw [hD]; rfl) (ready_dep hk 6 (by kernel_rfl))) (by rw [hF.size, hsz]; decide)) (wp_move_v (ac.eval (.tmp 23)) rfl rfl ⟨hl2 9, (hF.put 9 188 (SP.is (.int .i64 (j : Int))) (ac.eval (.tmp 23)) (by rw [hD]; rfl) (((hF.keep 23 (by rw [hD]; rfl)).trans zs23)) (by rw [hD]; rfl) (by rw [hsz]; decide) (by rw [hl]; decide)), hb1, hrp, hrw, hpr, hT2⟩)
        · have hk3 := hk
          have ea := (hF.done 8 (187, SP.is (.slice (some ⟨b, o, none⟩) N c0)) (by rw [hD]; rfl) (ready_dep hk 8 (by kernel_rfl)))
          have eb := (hF.done 9 (188, SP.is (.int .i64 (j : Int))) (by rw [hD]; rfl) (ready_dep hk 9 (by kernel_rfl)))
          exact wpOp_wanted rfl (wanted_g (g := 6) (b := false) rfl rfl (hF.done 6 (185, SP.is (.bool false)) (by rw [hD]; rfl) (ready_dep hk 6 (by kernel_rfl))) (by rw [hF.size, hsz]; decide)) (wp_index_s 22 42 rfl b o N c0 j 26 ea eb HJN.out Tryz.underlying22 info_raw ⟨hl2 10, (hF.put 10 189 (SP.is (.pointer (some ⟨b, o + j * 26, none⟩))) (.pointer (some ⟨b, o + j * 26, none⟩)) (by rw [hD]; rfl) rfl (by rw [hD]; rfl) (by rw [hsz]; decide) (by rw [hl]; decide)), hb1, hrp, hrw, hpr, hT2⟩)
        · have hk3 := hk
          have ea := (hF.done 10 (189, SP.is (.pointer (some ⟨b, o + j * 26, none⟩))) (by rw [hD]; rfl) (ready_dep hk 10 (by kernel_rfl)))
          exact wpOp_wanted rfl (wanted_g (g := 6) (b := false) rfl rfl (hF.done 6 (185, SP.is (.bool false)) (by rw [hD]; rfl) (ready_dep hk 6 (by kernel_rfl))) (by rw [hF.size, hsz]; decide)) (wp_load_mid 42 (.tmp 189) rfl b (o + j * 26) ea R2 _ (HRG2.out W hb1) Tryz.underlying42 rfl HIR2.out ⟨hl2 11, (hF.put 11 190 (SP.is (.agg R2.toArray)) (.agg R2.toArray) (by rw [hD]; rfl) rfl (by rw [hD]; rfl) (by rw [hsz]; decide) (by rw [hl]; decide)), hb1, hrp, hrw, hpr, hT2⟩)
        · have hk3 := hk
          exact wpOp_wanted rfl (wanted_g (g := 6) (b := false) rfl rfl (hF.done 6 (185, SP.is (.bool false)) (by rw [hD]; rfl) (ready_dep hk 6 (by kernel_rfl))) (by rw [hF.size, hsz]; decide)) (wp_move_v (ac.eval (.tmp 23)) rfl rfl ⟨hl2 12, (hF.put 12 191 (SP.is (.int .i64 (j : Int))) (ac.eval (.tmp 23)) (by rw [hD]; rfl) (((hF.keep 23 (by rw [hD]; rfl)).trans zs23)) (by rw [hD]; rfl) (by rw [hsz]; decide) (by rw [hl]; decide)), hb1, hrp, hrw, hpr, hT2⟩)
        · have hk3 := hk
          have ea := (hF.done 11 (190, SP.is (.agg R2.toArray)) (by rw [hD]; rfl) (ready_dep hk 11 (by kernel_rfl)))
          have eb := (hF.done 12 (191, SP.is (.int .i64 (j : Int))) (by rw [hD]; rfl) (ready_dep hk 12 (by kernel_rfl)))
          refine wpOp_wanted rfl (wanted_g (g := 6) (b := false) rfl rfl (hF.done 6 (185, SP.is (.bool false)) (by rw [hD]; rfl) (ready_dep hk 6 (by kernel_rfl))) (by rw [hF.size, hsz]; decide)) (wp_fcall_v 9 #[.agg R2.toArray, .int .i64 (j : Int)] rfl rfl (by show [ac.eval (.tmp 190), ac.eval (.tmp 191)] = _; rw [show ac.eval (.tmp 190) = _ from ea, show ac.eval (.tmp 191) = _ from eb]) (by go_simp) ((HLF2.out W).mono ?_))
          rintro e W2 ⟨rfl, hB⟩
          exact ⟨_, rfl, hl2 13, ((hF.world hB).put 13 192 (SP.is (.agg L2.toArray)) (.agg L2.toArray) (by rw [hD]; rfl) rfl (by rw [hD]; rfl) (by rw [hsz]; decide) (by rw [hl]; decide)), hb1.trans (hB.mono hb1.size), Row.below hrp hB (Row.lt hrp), Row.below hrw hB (Row.lt hrw), hpr.below hB, hT2.below hB⟩
        · have hk3 := hk
          have ea := (hF.done 7 (186, SP.is (.agg L2.toArray)) (by rw [hD]; rfl) (ready_dep hk 7 (by kernel_rfl)))
          have eb := (hF.done 13 (192, SP.is (.agg L2.toArray)) (by rw [hD]; rfl) (ready_dep hk 13 (by kernel_rfl)))
          exact wpOp_wanted rfl (wanted_g (g := 6) (b := false) rfl rfl (hF.done 6 (185, SP.is (.bool false)) (by rw [hD]; rfl) (ready_dep hk 6 (by kernel_rfl))) (by rw [hF.size, hsz]; decide)) (wp_neqL (.tmp 186) (.tmp 192) _ rfl L2 ea eb HNL2.out ⟨hl2 14, (hF.put 14 193 (SP.is (.bool false)) (.bool false) (by rw [hD]; rfl) rfl (by rw [hD]; rfl) (by rw [hsz]; decide) (by rw [hl]; decide)), hb1, hrp, hrw, hpr, hT2⟩)
        · have hk3 := hk
          have ea := (hF.done 6 (185, SP.is (.bool false)) (by rw [hD]; rfl) (ready_dep hk 6 (by kernel_rfl)))
          have eb := (hF.done 14 (193, SP.is (.bool false)) (by rw [hD]; rfl) (ready_dep hk 14 (by kernel_rfl)))
          exact wpOp_plain rfl rfl (wp_pick_f (.bool false) rfl ea eb ⟨hl2 15, (hF.put 15 194 (SP.is (.bool false)) (.bool false) (by rw [hD]; rfl) rfl (by rw [hD]; rfl) (by rw [hsz]; decide) (by rw [hl]; decide)), hb1, hrp, hrw, hpr, hT2⟩)
        · have hk3 := hk
          exact wpOp_plain rfl rfl (wp_move_v (ac.eval (.tmp 194)) rfl rfl ⟨hl2 16, (hF.put 16 195 (SP.is (.bool false)) (ac.eval (.tmp 194)) (by rw [hD]; rfl) ((hF.done 15 (194, SP.is (.bool false)) (by rw [hD]; rfl) (ready_dep hk 15 (by kernel_rfl)))) (by rw [hD]; rfl) (by rw [hsz]; decide) (by rw [hl]; decide)), hb1, hrp, hrw, hpr, hT2⟩)
        · have hk3 := hk
          exact wpOp_wanted rfl (wanted_g (g := 16) (b := false) rfl rfl (hF.done 16 (195, SP.is (.bool false)) (by rw [hD]; rfl) (ready_dep hk 16 (by kernel_rfl))) (by rw [hF.size, hsz]; decide)) (wp_load_mid 53 (.tmp 21) rfl y21 0 ((hF.keep 21 (by rw [hD]; rfl)).trans zs21) ((vB dd)) _ hrp.all Tryz.underlying53 rfl HID.out ⟨hl2 17, (hF.put 17 196 (SP.is (.agg (vB dd).toArray)) (.agg (vB dd).toArray) (by rw [hD]; rfl) rfl (by rw [hD]; rfl) (by rw [hsz]; decide) (by rw [hl]; decide)), hb1, hrp, hrw, hpr, hT2⟩)
        · have hk3 := hk
          exact wpOp_wanted rfl (wanted_g (g := 16) (b := false) rfl rfl (hF.done 16 (195, SP.is (.bool false)) (by rw [hD]; rfl) (ready_dep hk 16 (by kernel_rfl))) (by rw [hF.size, hsz]; decide)) (wp_move_v (ac.eval (.tmp 10)) rfl rfl ⟨hl2 18, (hF.put 18 197 (SP.is (.int .i64 (i : Int))) (ac.eval (.tmp 10)) (by rw [hD]; rfl) (((hF.keep 10 (by rw [hD]; rfl)).trans zs10)) (by rw [hD]; rfl) (by rw [hsz]; decide) (by rw [hl]; decide)), hb1, hrp, hrw, hpr, hT2⟩)
        · have hk3 := hk
          have ea := (hF.done 18 (197, SP.is (.int .i64 (i : Int))) (by rw [hD]; rfl) (ready_dep hk 18 (by kernel_rfl)))
          exact wpOp_wanted rfl (wanted_g (g := 16) (b := false) rfl rfl (hF.done 16 (195, SP.is (.bool false)) (by rw [hD]; rfl) (ready_dep hk 16 (by kernel_rfl))) (by rw [hF.size, hsz]; decide)) (wp_add1 rfl i n1 HN1.out HIB.out ea ⟨hl2 19, (hF.put 19 198 (SP.is (.int .i64 (n1 : Int))) (.int .i64 (n1 : Int)) (by rw [hD]; rfl) rfl (by rw [hD]; rfl) (by rw [hsz]; decide) (by rw [hl]; decide)), hb1, hrp, hrw, hpr, hT2⟩)
        · have hk3 := hk
          exact wpOp_wanted rfl (wanted_g (g := 16) (b := false) rfl rfl (hF.done 16 (195, SP.is (.bool false)) (by rw [hD]; rfl) (ready_dep hk 16 (by kernel_rfl))) (by rw [hF.size, hsz]; decide)) (wp_load_mid 39 (.tmp 25) rfl y25 0 ((hF.keep 25 (by rw [hD]; rfl)).trans zs25) L2 _ hrw.all Tryz.underlying39 rfl HI2.out ⟨hl2 20, (hF.put 20 199 (SP.is (.agg L2.toArray)) (.agg L2.toArray) (by rw [hD]; rfl) rfl (by rw [hD]; rfl) (by rw [hsz]; decide) (by rw [hl]; decide)), hb1, hrp, hrw, hpr, hT2⟩)
        · have hk3 := hk
          exact wpOp_wanted rfl (wanted_g (g := 16) (b := false) rfl rfl (hF.done 16 (195, SP.is (.bool false)) (by rw [hD]; rfl) (ready_dep hk 16 (by kernel_rfl))) (by rw [hF.size, hsz]; decide)) (wp_move_v (ac.eval (.tmp 24)) rfl rfl ⟨hl2 21, (hF.put 21 200 (SP.is (.slice Ap kd cp)) (ac.eval (.tmp 24)) (by rw [hD]; rfl) (((hF.keep 24 (by rw [hD]; rfl)).trans zs24)) (by rw [hD]; rfl) (by rw [hsz]; decide) (by rw [hl]; decide)), hb1, hrp, hrw, hpr, hT2⟩)
        · have hk3 := hk
          have ea := (hF.done 17 (196, SP.is (.agg (vB dd).toArray)) (by rw [hD]; rfl) (ready_dep hk 17 (by kernel_rfl)))
          have eb := (hF.done 19 (198, SP.is (.int .i64 (n1 : Int))) (by rw [hD]; rfl) (ready_dep hk 19 (by kernel_rfl)))
          have ec := (hF.done 20 (199, SP.is (.agg L2.toArray)) (by rw [hD]; rfl) (ready_dep hk 20 (by kernel_rfl)))
          have ed := (hF.done 21 (200, SP.is (.slice Ap kd cp)) (by rw [hD]; rfl) (ready_dep hk 21 (by kernel_rfl)))
          refine wpOp_wanted rfl (wanted_g (g := 16) (b := false) rfl rfl (hF.done 16 (195, SP.is (.bool false)) (by rw [hD]; rfl) (ready_dep hk 16 (by kernel_rfl))) (by rw [hF.size, hsz]; decide)) (wp_fcall_v 21 #[.agg (vB dd).toArray, .int .i64 (n1 : Int), .agg L2.toArray, .slice Ap kd cp] rfl rfl (by show [ac.eval (.tmp 196), ac.eval (.tmp 198), ac.eval (.tmp 199), ac.eval (.tmp 200)] = _; rw [show ac.eval (.tmp 196) = _ from ea, show ac.eval (.tmp 198) = _ from eb, show ac.eval (.tmp 199) = _ from ec, show ac.eval (.tmp 200) = _ from ed]) (by go_simp) ((HCK.out W Ap cp hb1 hpr).mono ?_))
          rintro e W2 ⟨rfl, hB⟩
          exact ⟨_, rfl, hl2 22, ((hF.world hB).put 22 201 (SP.is (.int .i64 0)) (.int .i64 0) (by rw [hD]; rfl) rfl (by rw [hD]; rfl) (by rw [hsz]; decide) (by rw [hl]; decide)), hb1.trans (hB.mono hb1.size), Row.below hrp hB (Row.lt hrp), Row.below hrw hB (Row.lt hrw), hpr.below hB, hT2.below hB⟩
        · have hk3 := hk
          have ea := (hF.done 22 (201, SP.is (.int .i64 0)) (by rw [hD]; rfl) (ready_dep hk 22 (by kernel_rfl)))
          exact wpOp_wanted rfl (wanted_g (g := 16) (b := false) rfl rfl (hF.done 16 (195, SP.is (.bool false)) (by rw [hD]; rfl) (ready_dep hk 16 (by kernel_rfl))) (by rw [hF.size, hsz]; decide)) (wp_ne0 rfl ea ⟨hl2 23, (hF.put 23 202 (SP.is (.bool false)) (.bool false) (by rw [hD]; rfl) rfl (by rw [hD]; rfl) (by rw [hsz]; decide) (by rw [hl]; decide)), hb1, hrp, hrw, hpr, hT2⟩)
        · have hk3 := hk
          have ea := (hF.done 16 (195, SP.is (.bool false)) (by rw [hD]; rfl) (ready_dep hk 16 (by kernel_rfl)))
          have eb := (hF.done 23 (202, SP.is (.bool false)) (by rw [hD]; rfl) (ready_dep hk 23 (by kernel_rfl)))
          exact wpOp_plain rfl rfl (wp_pick_f (.bool false) rfl ea eb ⟨hl2 24, (hF.put 24 203 (SP.is (.bool false)) (.bool false) (by rw [hD]; rfl) rfl (by rw [hD]; rfl) (by rw [hsz]; decide) (by rw [hl]; decide)), hb1, hrp, hrw, hpr, hT2⟩)
      · clear hb1 hrp hrw hpr hT2 
        intro listed ac W hI hr
        obtain ⟨hl, hF, hb1, hrp, hrw, hpr, hT2⟩ := hI
        have hall := all_listed (by kernel_rfl) hl hr
        have h179 : ac.eval (.tmp 179) = .int .i64 0 := hF.done 0 (179, SP.is (.int .i64 0)) (by rw [hD]; rfl) (hall 0 (by decide))
        have h180 : ac.eval (.tmp 180) = .bool false := hF.done 1 (180, SP.is (.bool false)) (by rw [hD]; rfl) (hall 1 (by decide))
        have h181 : ac.eval (.tmp 181) = .bool false := hF.done 2 (181, SP.is (.bool false)) (by rw [hD]; rfl) (hall 2 (by decide))
        have h182 : ac.eval (.tmp 182) = .int .i64 0 := hF.done 3 (182, SP.is (.int .i64 0)) (by rw [hD]; rfl) (hall 3 (by decide))
        have h183 : ac.eval (.tmp 183) = .bool false := hF.done 4 (183, SP.is (.bool false)) (by rw [hD]; rfl) (hall 4 (by decide))
        have h184 : ac.eval (.tmp 184) = .bool false := hF.done 5 (184, SP.is (.bool false)) (by rw [hD]; rfl) (hall 5 (by decide))
        have h185 : ac.eval (.tmp 185) = .bool false := hF.done 6 (185, SP.is (.bool false)) (by rw [hD]; rfl) (hall 6 (by decide))
        have h186 : ac.eval (.tmp 186) = .agg L2.toArray := hF.done 7 (186, SP.is (.agg L2.toArray)) (by rw [hD]; rfl) (hall 7 (by decide))
        have h187 : ac.eval (.tmp 187) = .slice (some ⟨b, o, none⟩) N c0 := hF.done 8 (187, SP.is (.slice (some ⟨b, o, none⟩) N c0)) (by rw [hD]; rfl) (hall 8 (by decide))
        have h188 : ac.eval (.tmp 188) = .int .i64 (j : Int) := hF.done 9 (188, SP.is (.int .i64 (j : Int))) (by rw [hD]; rfl) (hall 9 (by decide))
        have h189 : ac.eval (.tmp 189) = .pointer (some ⟨b, o + j * 26, none⟩) := hF.done 10 (189, SP.is (.pointer (some ⟨b, o + j * 26, none⟩))) (by rw [hD]; rfl) (hall 10 (by decide))
        have h190 : ac.eval (.tmp 190) = .agg R2.toArray := hF.done 11 (190, SP.is (.agg R2.toArray)) (by rw [hD]; rfl) (hall 11 (by decide))
        have h191 : ac.eval (.tmp 191) = .int .i64 (j : Int) := hF.done 12 (191, SP.is (.int .i64 (j : Int))) (by rw [hD]; rfl) (hall 12 (by decide))
        have h192 : ac.eval (.tmp 192) = .agg L2.toArray := hF.done 13 (192, SP.is (.agg L2.toArray)) (by rw [hD]; rfl) (hall 13 (by decide))
        have h193 : ac.eval (.tmp 193) = .bool false := hF.done 14 (193, SP.is (.bool false)) (by rw [hD]; rfl) (hall 14 (by decide))
        have h194 : ac.eval (.tmp 194) = .bool false := hF.done 15 (194, SP.is (.bool false)) (by rw [hD]; rfl) (hall 15 (by decide))
        have h195 : ac.eval (.tmp 195) = .bool false := hF.done 16 (195, SP.is (.bool false)) (by rw [hD]; rfl) (hall 16 (by decide))
        have h196 : ac.eval (.tmp 196) = .agg (vB dd).toArray := hF.done 17 (196, SP.is (.agg (vB dd).toArray)) (by rw [hD]; rfl) (hall 17 (by decide))
        have h197 : ac.eval (.tmp 197) = .int .i64 (i : Int) := hF.done 18 (197, SP.is (.int .i64 (i : Int))) (by rw [hD]; rfl) (hall 18 (by decide))
        have h198 : ac.eval (.tmp 198) = .int .i64 (n1 : Int) := hF.done 19 (198, SP.is (.int .i64 (n1 : Int))) (by rw [hD]; rfl) (hall 19 (by decide))
        have h199 : ac.eval (.tmp 199) = .agg L2.toArray := hF.done 20 (199, SP.is (.agg L2.toArray)) (by rw [hD]; rfl) (hall 20 (by decide))
        have h200 : ac.eval (.tmp 200) = .slice Ap kd cp := hF.done 21 (200, SP.is (.slice Ap kd cp)) (by rw [hD]; rfl) (hall 21 (by decide))
        have h201 : ac.eval (.tmp 201) = .int .i64 0 := hF.done 22 (201, SP.is (.int .i64 0)) (by rw [hD]; rfl) (hall 22 (by decide))
        have h202 : ac.eval (.tmp 202) = .bool false := hF.done 23 (202, SP.is (.bool false)) (by rw [hD]; rfl) (hall 23 (by decide))
        have h203 : ac.eval (.tmp 203) = .bool false := hF.done 24 (203, SP.is (.bool false)) (by rw [hD]; rfl) (hall 24 (by decide))
        have ea := hF.lay [(179, .int .i64 0), (180, .bool false), (181, .bool false), (182, .int .i64 0), (183, .bool false), (184, .bool false), (185, .bool false), (186, .agg L2.toArray), (187, .slice (some ⟨b, o, none⟩) N c0), (188, .int .i64 (j : Int)), (189, .pointer (some ⟨b, o + j * 26, none⟩)), (190, .agg R2.toArray), (191, .int .i64 (j : Int)), (192, .agg L2.toArray), (193, .bool false), (194, .bool false), (195, .bool false), (196, .agg (vB dd).toArray), (197, .int .i64 (i : Int)), (198, .int .i64 (n1 : Int)), (199, .agg L2.toArray), (200, .slice Ap kd cp), (201, .int .i64 0), (202, .bool false), (203, .bool false)] (by rw [hD, hsz]; rfl) (by simp only [List.forall_mem_cons, List.not_mem_nil, false_implies, implies_true, and_true]; exact ⟨h179, h180, h181, h182, h183, h184, h185, h186, h187, h188, h189, h190, h191, h192, h193, h194, h195, h196, h197, h198, h199, h200, h201, h202, h203⟩)
        rw [ha0] at ea
        simp only [List.foldl_cons, List.foldl_nil, List.setIfInBounds_toArray, List.set_cons_zero, List.set_cons_succ] at ea
        clear hF hall hr hl hD  zs5 zs10 zs14 zs15 zs21 zs23 zs24 zs25 ha0 hsz h179 h180 h181 h182 h183 h184 h185 h186 h187 h188 h189 h190 h191 h192 h193 h194 h195 h196 h197 h198 h199 h200 h201 h202 h203
        subst ea
        have TW : Hid (Two w W S B (q + 4) n1 us us) := hT2
        clear hpr hrp hrw hT2 hb1
        go_wp2_with fail
        go_roundw
        case rel => exact ⟨n1, q + 4, HN1L.out, rfl, HQ1.out, by rw [← HUS.out]; exact TW⟩
        case measure => have := HN1.out; simp [intOf]; omega
    · obtain rfl : i = N := by omega
      obtain ⟨us, hus⟩ : ∃ us, us = bts (l.take i) := ⟨_, rfl⟩
      have hul : us.length = i := by rw [hus, bts_len, List.length_take, ← HNl.out]; omega
      have hue : ∀ k, (us.getD k []).length ≤ 153 := by rw [hus]; exact bts_each _ (fun x hx => HL.out.ok x (List.mem_of_mem_take hx))
      obtain ⟨dd, hdd⟩ : ∃ d, d = rt us := ⟨_, rfl⟩
      have h32 : dd.length = 32 := by rw [hdd]; exact rt_length _
      rw [← hus] at Twr
      have HRT : Hid (∀ X, Two w X S B q i us us → Calls Tryz.prog 15 #[.pointer (some ⟨S, 0, none⟩)] X fun e w' => e = .returned (.tuple #[.agg (vB dd).toArray, .int .i64 0]) ∧ Two w w' S B (q + 1) i us us ∧ Kr X w') := fun X hX => root_two w S B q i us us (by have := HQ.out; omega) dd hdd X HTB.out hX
      have HBR : Hid (∀ X, Two w X S B (q + 1) i us us → Calls Tryz.prog 16 #[.pointer (some ⟨B, 0, none⟩), .int .i64 (i : Int)] X fun e w' => e = .returned (.tuple #[.agg (vB dd).toArray, .int .i64 0]) ∧ Below X.heap.size X w') := fun X hX => by
        obtain ⟨v, hv⟩ := hX.bk
        exact root_bk w B v us (by omega) hue i (by omega) dd (by rw [hdd, List.take_of_length_le (by omega)]) X (HTB.out.below hX.bel HTB.out.lt) hv
      have HID : Hid ((Tryz.prog.info? 53).map (·.size) = some (vB dd).length) := info_dg11 dd h32
      have HLD : Hid ((vB dd).length = (vB (List.replicate 32 0#8)).length) := by show _ = _; rw [vB_length, vB_length, h32]; rfl
      have HDD : Hid (dd.length = 32) := h32
      clear hus hul hue hdd h32
      go_upto_region 32 with (first
        | (go_at_call 15; refine Calls.mono (HRT.out wr Twr.out) ?_; rintro e U1 ⟨rfl, pt, p⟩; have TU1 : Hid (Two w U1 S B (q + 1) i us us) := pt; clear p pt)
        | (refine wpList_allocDg rfl rfl ?_; intro U2 q1 q2; have RZ : Hid (Row U2 U1.heap.size (vB (List.replicate 32 0#8)) 53) := q1; have BZ : Hid (Below U1.heap.size U1 U2) := q2; clear q1 q2; simp only [Act.put, List.setIfInBounds_toArray, List.set_cons_zero, List.set_cons_succ])
        | (refine wpList_storeL rfl 53 (.tmp 26) (.tmp 207) rfl U1.heap.size (vB dd) (vB (List.replicate 32 0#8)) 53 rfl rfl RZ.out HLD.out HID.out (vB_all11 dd) ?_; intro U3 q1 q2; have p : Below U1.heap.size U1 U3 := (by rw [q1]; exact below_setCells BZ.out (Nat.le_refl _) _); have TU3 : Hid (Two w U3 S B (q + 1) i us us) := TU1.out.be p; have RPU3 : Hid (Row U3 U1.heap.size (vB dd) 53) := q2; have LTU3 : Hid (w.heap.size ≤ U1.heap.size) := TU1.out.bel.size; clear p q1 q2; simp only [Act.put]))
      clear RZ BZ
      obtain ⟨y26, hy26⟩ : ∃ y, y = U1.heap.size := ⟨_, rfl⟩
      rw [← hy26] at RPU3 LTU3 ⊢
      have LY26 : Hid (w.heap.size ≤ y26) := LTU3
      clear hy26 LTU3
      go_upto_region 33 with (first
        | (go_at_call 16; refine Calls.mono (HBR.out U3 TU3.out) ?_; rintro e U4 ⟨rfl, p⟩; have RPU4 : Hid (Row U4 y26 (vB dd) 53) := Row.below RPU3.out p RPU3.out.lt; have TU4 : Hid (Two w U4 S B (q + 1) i us us) := TU3.out.be p; clear p)
        | (refine wpList_allocDg rfl rfl ?_; intro U5 q1 q2; have RZ : Hid (Row U5 U4.heap.size (vB (List.replicate 32 0#8)) 53) := q1; have BZ : Hid (Below U4.heap.size U4 U5) := q2; clear q1 q2; simp only [Act.put, List.setIfInBounds_toArray, List.set_cons_zero, List.set_cons_succ])
        | (refine wpList_storeL rfl 53 (.tmp 28) (.tmp 214) rfl U4.heap.size (vB dd) (vB (List.replicate 32 0#8)) 53 rfl rfl RZ.out HLD.out HID.out (vB_all11 dd) ?_; intro U6 q1 q2; have p : Below U4.heap.size U4 U6 := (by rw [q1]; exact below_setCells BZ.out (Nat.le_refl _) _); have RPU6 : Hid (Row U6 y26 (vB dd) 53) := Row.below RPU4.out p RPU4.out.lt; have TU6 : Hid (Two w U6 S B (q + 1) i us us) := TU4.out.be p; have RQU6 : Hid (Row U6 U4.heap.size (vB dd) 53) := q2; have LTU6 : Hid (w.heap.size ≤ U4.heap.size) := TU4.out.bel.size; clear p q1 q2; simp only [Act.put]))
      clear RZ BZ
      obtain ⟨y28, hy28⟩ : ∃ y, y = U4.heap.size := ⟨_, rfl⟩
      rw [← hy28] at RQU6 LTU6 ⊢
      have LY28 : Hid (w.heap.size ≤ y28) := LTU6
      clear hy28 LTU6
      go_wp2_with (first
        | (refine wpList_load_w rfl 53 (.tmp 26) rfl y26 (0) rfl (vB dd) _ RPU6.out.all Tryz.underlying53 rfl HID.out ?_; simp only [Act.put, List.setIfInBounds_toArray, List.set_cons_zero, List.set_cons_succ])
        | (refine wpList_load_w rfl 53 (.tmp 28) rfl y28 (0) rfl (vB dd) _ RQU6.out.all Tryz.underlying53 rfl HID.out ?_; simp only [Act.put, List.setIfInBounds_toArray, List.set_cons_zero, List.set_cons_succ])
        | (refine wpList_eqlDg rfl (.tmp 223) (.tmp 224) _ rfl dd HDD.out rfl rfl ?_; simp only [Act.put, List.setIfInBounds_toArray, List.set_cons_zero, List.set_cons_succ]))
      go_ret
      exact ⟨rfl, TU6.out.bel⟩

end Go.Proofs.YtbfahgdienppoaaGreatDoor
