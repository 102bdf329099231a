/-
  take.
-/
import Derived.Test.YtdlmighfmkhpkaaMkL
import Derived.Deep.RegionLaw
import Derived.Test.YtdlmighfmkhpkaaXMem
import Derived.BigRegion

namespace Go.Proofs.Ytdlmighfmkhpkaa
open Go Go.RowKit
open Sha
open Wd

theorem info_W_all : (Try.prog.info? 29).map (fun i => (i.zero, i.size, i.bytes)) = some (some (.agg zW.toArray), 4, 32) := by kernel_rfl
theorem info_W_open : ∃ ie z, Try.prog.info? 29 = some ie ∧ ie.zero = some z ∧ ie.size = 4 ∧ ie.bytes = 32 ∧ z.cells.size = 4 := by
  have i1 := info_W_all
  cases hi : Try.prog.info? 29 with
  | none => rw [hi] at i1; cases i1
  | some ie =>
    rw [hi] at i1
    simp only [Option.map_some, Option.some.injEq, Prod.mk.injEq] at i1
    exact ⟨ie, _, rfl, i1.1, i1.2.1, i1.2.2, rfl⟩
theorem info_W_open4 : ∃ ie z, Try.prog.info? 29 = some ie ∧ ie.zero = some z ∧ ie.size = 4 ∧ z.cells.size = 4 := by
  obtain ⟨ie, z, h1, h2, h3, _, h5⟩ := info_W_open
  exact ⟨ie, z, h1, h2, h3, h5⟩
theorem wq_mem (a : Nat) : ∀ v ∈ wq a, v.oneCell' = true := by
  have := wq_one a
  rw [← Array.all_toList] at this
  exact List.all_eq_true.1 this
section
variable {ops : Array Oper} {op : Oper} {a : Act} {w : World} {K : Act → World → Prop} {Q : Exit → Act → World → Prop} {E : Prop}
theorem stp_appW (hgd : op.guard = none) (s x : Operand) (ho : op.op = .call { callee := .builtin .append, args := #[s, x], argTypes := #[35, 35] }) (v : Value) (n : Nat) (l news : List Value) (hs : a.eval s = v) (hown : Lw w 29 4 v n l)
    (g2 : Nat) (hm : news.length = 4) (hx : a.eval x = .slice (some ⟨g2, 0, none⟩) 1 1) (hX : w.rangeAt g2 0 news) (h1 : ∀ v ∈ news, v.oneCell' = true) (hk : n ≤ 1000000)
    (h : ∀ v' w', Lw w' 29 4 v' (n + 1) (l ++ news) → w.grownBy w' v.ownBlock → (v'.ownBlock = v.ownBlock ∨ v'.ownBlock = some w.heap.size) → K (a.put op.dst v') w') : if Region.wanted op (yielded ops a.tmps) = true then Oper.wp Try.prog op a w K Q else E := by
  have hw : Region.wanted op (yielded ops a.tmps) = true := by simp [Region.wanted, hgd]
  rw [if_pos hw]
  exact wp_appL 35 29 4 32 Try.underlying35 info_W_open (by decide) (by decide) s x ho v n l news hs hown g2 hm hx hX h1 hk h
theorem stp_appR (hgd : op.guard = none) (s y : Operand) (ho : op.op = .call { callee := .builtin .append, args := #[s, y], argTypes := #[35, 35] }) (r T gs n : Nat) (pl : Value) (C : List Value) (h av : Value) (A : Option Addr) (cp : Nat) (ss : List Nat) (l nx : Nat) (an : List Value) (ls : List Ins) (ags : List Nat) (k0 w0 : World) (x : Nat) (X4 : List Value) (hx : wq x = X4) (hs : a.eval s = .slice A ss.length cp) (H : Rn k0 w0 w r T gs n pl C h av (.slice A ss.length cp) ss l nx an ls ags)
    (g2 : Nat) (hy : a.eval y = .slice (some ⟨g2, 0, none⟩) 1 1) (hX : w.rangeAt g2 0 X4) (hk : ss.length ≤ 1000)
    (hh : ∀ A' c' X6, X6.cell? ⟨r, 52, none⟩ = some (.slice A ss.length cp) → X6.frozen? ⟨r, 52, none⟩ = false → Hid (Row X6 r (rc T pl (.slice (some ⟨gs, 0, none⟩) n n) C h (.slice A ss.length cp) l nx an) 78) → Hid (∀ Y, Gro (· = r) X6 Y → Row Y r (rc T pl (.slice (some ⟨gs, 0, none⟩) n n) C h (.slice A' (ss.length + 1) c') l nx an) 78 → Rn k0 w0 Y r T gs n pl C h av (.slice A' (ss.length + 1) c') (ss ++ [x]) l nx an ls ags) → K (a.put op.dst (.slice A' (ss.length + 1) c')) X6) : if Region.wanted op (yielded ops a.tmps) = true then Oper.wp Try.prog op a w K Q else E := by
  subst hx
  refine stp_appW hgd s y ho (.slice A ss.length cp) ss.length (fw ss) (wq x) hs H.st g2 (wq_len x) hy hX (wq_mem x) (by omega) ?_
  intro v' X6 q1 q2 q3
  obtain ⟨A', c', rfl, _, _⟩ := Lw.form q1
  have hr6 := row_gb H.row q2 (some_ne (Lw.ne H.st H.row (by decide)))
  refine hh A' c' X6 (hr6.cell 52 _ (rc_hi H.clen 1)) (hr6.thaw 52) hr6 (fun Y k q => Rn.stack H q2 k (q3.imp id (fun e => ⟨_, e, Nat.le_refl _⟩)) q ?_)
  rw [fw_app, List.length_append, List.length_singleton]
  exact q1
end
set_option maxRecDepth 100000 in
set_option maxHeartbeats 4000000 in
theorem leave_any (r T gs n : Nat) (pl : Value) (C : List Value) (h av stk : Value) (ss : List Nat) (l nx : Nat) (an : List Value) (ls : List Ins) (ags : List Nat) (x : Nat) (k0 w0 w : World) (H : Rn k0 w0 w r T gs n pl C h av stk ss l nx an ls ags) (hss : ss.length ≤ 1000) : Calls Try.prog 55 #[.pointer (some ⟨r, 0, none⟩), .agg (wq x).toArray] w fun e w' => e = .returned (.int .i64 0) ∧ ∃ stk', Rn k0 w0 w' r T gs n pl C h av stk' (ss ++ [x]) l nx an ls ags := by
  obtain ⟨A, cp, hst, _, _⟩ := Lw.form H.st
  subst hst
  have HH : Hid (Rn k0 w0 w r T gs n pl C h av (.slice A ss.length cp) ss l nx an ls ags) := H
  have HSS : Hid (ss.length ≤ 1000) := hss
  obtain ⟨a0, ha0⟩ : ∃ a, a = ((lim x 0 : Nat) : Int) := ⟨_, rfl⟩
  obtain ⟨a1, ha1⟩ : ∃ a, a = ((lim x 1 : Nat) : Int) := ⟨_, rfl⟩
  obtain ⟨a2, ha2⟩ : ∃ a, a = ((lim x 2 : Nat) : Int) := ⟨_, rfl⟩
  obtain ⟨a3, ha3⟩ : ∃ a, a = ((lim x 3 : Nat) : Int) := ⟨_, rfl⟩
  have hx : wq x = [.int .u64 a0, .int .u64 a1, .int .u64 a2, .int .u64 a3] := by rw [wq_cells, ha0, ha1, ha2, ha3]
  have HX : Hid (wq x = [.int .u64 a0, .int .u64 a1, .int .u64 a2, .int .u64 a3]) := hx
  rw [hx]
  clear H hss hx ha0 ha1 ha2 ha3
  go_enter Try.func55, Try.ntmps55
  go_upto_region 1 with (refine wpList_boxG 29 rfl (.tmp 1) rfl [.int .u64 a0, .int .u64 a1, .int .u64 a2, .int .u64 a3] rfl ?_; intro X q1 q2 q3; have R1 : Hid (Row X w.heap.size [.int .u64 a0, .int .u64 a1, .int .u64 a2, .int .u64 a3] 29) := q1; have HR : Hid (Rn k0 w0 X r T gs n pl C h av (.slice A ss.length cp) ss l nx an ls ags) := HH.out.keep q2; clear q1 q2 q3; simp only [Act.put, List.setIfInBounds_toArray, List.set_cons_zero, List.set_cons_succ])
  have c0 := R1.out.cell 0 _ rfl
  have c1 := R1.out.cell 1 _ rfl
  have c2 := R1.out.cell 2 _ rfl
  have c3 := R1.out.cell 3 _ rfl
  have cs := HR.out.row.cell 52 _ (rc_hi HR.out.clen 1)
  have cs' : X.cell? ⟨r, 52, none⟩ = some (.slice A ss.length cp) := cs
  clear cs
  obtain ⟨b3, hb3⟩ : ∃ b, b = w.heap.size := ⟨_, rfl⟩
  rw [← hb3] at R1 c0 c1 c2 c3
  rw [← hb3]
  clear hb3
  have cs2 : (X.alloc (Obj.cells #[Value.int .u64 a0, .int .u64 a1, .int .u64 a2, .int .u64 a3] 29)).cell? ⟨r, 52, none⟩ = some (.slice A ss.length cp) := (Row.alloc HR.out.row _).cell 52 _ (rc_hi HR.out.clen 1)
  have HM : Hid (∀ v ∈ [Value.int .u64 a0, .int .u64 a1, .int .u64 a2, .int .u64 a3], v.oneCell' = true) := by rw [← HX.out]; exact wq_mem x
  go_region_law (refine stp_appR rfl (.tmp 9) (.tmp 11) rfl r T gs n pl C h av A cp ss l nx an ls ags k0 w0 x [.int .u64 a0, .int .u64 a1, .int .u64 a2, .int .u64 a3] HX.out (by simp [Act.eval]) (HR.out.keep ((Below.refl X.heap.size X).drew.alloc (Nat.le_refl _) _)) _ (by simp [Act.eval]) (Row.all (Row.new' rfl rfl)) HSS.out ?_; intro A' c' X6 d1 d2 R6 F6)
  all_goals
    clear c0 c1 c2 c3 cs' cs2
    go_wp2
    go_ret
    refine ⟨rfl, _, F6.out _ ((Gro.refl _ _).set r 52 _ rfl) ?_⟩
    have q := R6.out.set 52 (.slice A' (ss.length + 1) c')
    rw [rc_set52 HR.out.clen] at q
    exact q

end Go.Proofs.Ytdlmighfmkhpkaa

namespace Go.Proofs.Ytdlmighfmkhpkaa
open Go Go.RowKit
open Sha

theorem stp_fcall {P : Program} {ops : Array Oper} {o : Oper} {a : Act} {w : World} {K : Act → World → Prop} {Q : Exit → Act → World → Prop} {E : Prop} (hg : o.guard = none) (f : FuncId) (args : Array Value) (h : (execOp a.eval o).run P w = .ok (.enter f args) w)
    (hc : Calls P f args w fun e w' => ∃ v, e = .returned v ∧ K (a.put o.dst v) w') : if Region.wanted o (yielded ops a.tmps) = true then Oper.wp P o a w K Q else E := by
  have hw : Region.wanted o (yielded ops a.tmps) = true := by simp [Region.wanted, hg]
  rw [if_pos hw]
  unfold Oper.wp
  rw [h]
  exact hc.mono (fun e w' hk => by obtain ⟨v, he, hk⟩ := hk; subst he; exact hk)

/-- The same, where the function's number is held against the operation first: so that a wrong alternative fails at once. -/
theorem stp_fn {P : Program} {ops : Array Oper} {o : Oper} {a : Act} {w : World} {K : Act → World → Prop} {Q : Exit → Act → World → Prop} {E : Prop} (hg : o.guard = none) (f : FuncId) {xs : Array Operand} {ts : Array TypeId} (_ho : o.op = .call { callee := .value (.func f), args := xs, argTypes := ts }) (args : Array Value) (h : (execOp a.eval o).run P w = .ok (.enter f args) w)
    (hc : Calls P f args w fun e w' => ∃ v, e = .returned v ∧ K (a.put o.dst v) w') : if Region.wanted o (yielded ops a.tmps) = true then Oper.wp P o a w K Q else E := stp_fcall hg f args h hc

end Go.Proofs.Ytdlmighfmkhpkaa

namespace Go.Proofs.Ytdlmighfmkhpkaa
open Go Go.RowKit
open Sha
open Wd

section
variable {k0 w0 w w' : World} {r T gs n : Nat} {pl : Value} {C : List Value} {h av stk : Value} {ss : List Nat} {l nx : Nat} {an : List Value} {ls : List Ins} {ags : List Nat}
/-- A number of another's, written over. -/
theorem Rn.aside (H : Rn k0 w0 w r T gs n pl C h av stk ss l nx an ls ags) {b : Nat} {cs : List Value} (rb : Row w b cs 29) (hlo : w0.heap.size ≤ b) (h1 : ∀ g, stk.ownBlock = some g → g ≠ b) (h2 : ∀ g, av.ownBlock = some g → g ≠ b) (k : Gro (· = b) w w') : Rn k0 w0 w' r T gs n pl C h av stk ss l nx an ls ags :=
  ⟨k.row H.row (row_ne2 H.row rb (by decide)), H.clen, H.alen, Lw.gro H.st k h1, k.row H.tab (row_ne2 H.tab rb (by decide)), Lw.gro H.prg k (Lw.ne H.prg rb (by decide)), k.row H.sta (row_ne2 H.sta rb (by decide)), H.cargs, Lw.gro H.arg k h2, H.apart, H.be.trans (k.to_below H.be.size (fun g e => by rw [e]; exact hlo)), H.rlo, H.slo, fun h1 h2 q => k.row (H.kp h1 h2 q) (row_ne2 (H.kp h1 h2 q) rb h2)⟩
theorem Rn.fresh (H : Rn k0 w0 w r T gs n pl C h av stk ss l nx an ls ags) : (∀ g, stk.ownBlock = some g → g < w.heap.size) ∧ (∀ g, av.ownBlock = some g → g < w.heap.size) := ⟨Lw.lt H.st, Lw.lt H.arg⟩
end
theorem gb_refl (w : World) (o : Option Nat) : w.grownBy w o := ⟨rfl, rfl, rfl, Nat.le_refl _, fun _ _ _ => rfl⟩
theorem info_Ws : (Try.prog.info? 35).map (·.size) = some 1 := by kernel_rfl
set_option maxRecDepth 100000 in
set_option maxHeartbeats 4000000 in
theorem take_any (r T gs n : Nat) (pl : Value) (C : List Value) (h av stk : Value) (ss : List Nat) (l nx : Nat) (an : List Value) (ls : List Ins) (ags : List Nat) (x : Nat) (k0 w0 w : World) (H : Rn k0 w0 w r T gs n pl C h av stk (ss ++ [x]) l nx an ls ags) (hss : ss.length ≤ 1000) : Calls Try.prog 54 #[.pointer (some ⟨r, 0, none⟩)] w fun e w' => e = .returned (.agg (wq x).toArray) ∧ w.heap.size ≤ w'.heap.size ∧ (∀ {b : Nat} {cs : List Value} {t : TypeId}, Row w b cs t → b ≠ r → Row w' b cs t) ∧ ∃ stk', stk'.ownBlock = stk.ownBlock ∧ Rn k0 w0 w' r T gs n pl C h av stk' ss l nx an ls ags := by
  obtain ⟨g, cp, hst, hcp⟩ := Lw.open H.st (by rw [List.length_append]; exact Nat.succ_pos _)
  subst hst
  obtain ⟨k, hk⟩ : ∃ k, k = ss.length := ⟨_, rfl⟩
  have elen : (ss ++ [x]).length = k + 1 := by rw [List.length_append, hk]; rfl
  rw [elen] at H hcp
  have HH : Hid (Rn k0 w0 w r T gs n pl C h av (.slice (some ⟨g, 0, none⟩) (k + 1) cp) (ss ++ [x]) l nx an ls ags) := H
  have HK : Hid (k = ss.length) := hk
  have hk1 : k ≤ 1000 := by omega
  have HCP : Hid (k + 1 ≤ cp) := hcp
  obtain ⟨L, hL⟩ : ∃ L, L = wq x := ⟨_, rfl⟩
  have HI : Hid ((Try.prog.info? 29).map (·.size) = some L.length) := by show _ = _; rw [hL]; exact info_Wq _
  have HN4 : Hid (L.length = zW.length) := by show _ = _; rw [hL]; exact wq_len _
  have HO : Hid (L.toArray.all (·.oneCell') = true) := by show _ = _; rw [hL]; exact wq_one _
  have HLL : Hid (L = wq x) := hL
  rw [← hL]
  rw [elen]
  clear H hss hk hL elen
  go_enter Try.func54, Try.ntmps54
  go_upto_region 1 with (refine wpList_allocW rfl rfl ?_; intro X1 q1 q2 q3; have R1 : Hid (Row X1 w.heap.size zW 29) := q1; have B1 : Hid (Below w.heap.size w X1) := q2; have S1 : Hid (X1.heap.size = w.heap.size + 1) := q3; clear q1 q2 q3; simp only [Act.put, List.setIfInBounds_toArray, List.set_cons_zero, List.set_cons_succ])
  have HR1 : Hid (Rn k0 w0 X1 r T gs n pl C h av (.slice (some ⟨g, 0, none⟩) (k + 1) cp) (ss ++ [x]) l nx an ls ags) := HH.out.keep B1.out
  have c52 : X1.cell? ⟨r, 52, none⟩ = some (.slice (some ⟨g, 0, none⟩) (k + 1) cp) := HR1.out.row.cell 52 _ (rc_hi HR1.out.clen 1)
  have RGX : Hid (X1.rangeAt g (k * 4) L) := by
    have := HR1.out.st
    rw [show (ss ++ [x]).length = k + 1 by rw [List.length_append, HK.out]; rfl] at this
    rw [HLL.out]
    exact fw_at (Lw.range this) k x (by rw [HK.out, List.getElem?_append_right (Nat.le_refl _), Nat.sub_self]; rfl)
  have ek : ((k + 1 : Nat) : Int) - 1 = (k : Int) := by omega
  go_upto_region 3 with (first
    | (refine wpList_load_w rfl 29 (.tmp 16) rfl g (k * 4) rfl L _ RGX.out Try.underlying29 rfl HI.out ?_; simp only [Act.put, List.setIfInBounds_toArray, List.set_cons_zero, List.set_cons_succ])
    | (refine wpList_allocW rfl rfl ?_; intro X2 q1 q2 q3; have R2 : Hid (Row X2 X1.heap.size zW 29) := q1; have B2 : Hid (Below X1.heap.size X1 X2) := q2; clear q1 q2 q3; simp only [Act.put, List.setIfInBounds_toArray, List.set_cons_zero, List.set_cons_succ])
    | (refine wpList_storeL rfl 29 (.tmp 4) (.tmp 17) rfl X1.heap.size L zW 29 rfl rfl R2.out HN4.out HI.out HO.out ?_; intro X3 q1 q2; have E3 : Hid (X3 = _) := q1; have R3 : Hid (Row X3 X1.heap.size L 29) := q2; clear q1 q2; simp only [Act.put]))
  have B3 : Hid (Below X1.heap.size X1 X3) := by rw [E3.out]; exact below_setCells B2.out (Nat.le_refl _) _
  have HR3 : Hid (Rn k0 w0 X3 r T gs n pl C h av (.slice (some ⟨g, 0, none⟩) (k + 1) cp) (ss ++ [x]) l nx an ls ags) := HR1.out.keep B3.out
  have c53 : X3.cell? ⟨r, 52, none⟩ = some (.slice (some ⟨g, 0, none⟩) (k + 1) cp) := HR3.out.row.cell 52 _ (rc_hi HR3.out.clen 1)
  have R13 : Hid (Row X3 w.heap.size zW 29) := Row.below R1.out B3.out R1.out.lt
  obtain ⟨b4, hb4⟩ : ∃ b, b = X1.heap.size := ⟨_, rfl⟩
  obtain ⟨b2, hb2⟩ : ∃ b, b = w.heap.size := ⟨_, rfl⟩
  have HB4 : Hid (b4 = b2 + 1) := by show _ = _; rw [hb4, hb2]; exact S1.out
  have HB2 : Hid (b2 = w.heap.size) := hb2
  rw [← hb4] at R3
  rw [← hb2] at R13
  rw [← hb4, ← hb2]
  have hkc : k ≤ cp := by have := HCP.out; omega
  have HL52 : Hid (52 < (rc T pl (.slice (some ⟨gs, 0, none⟩) n n) C h (.slice (some ⟨g, 0, none⟩) (k + 1) cp) l nx an).length) := by show _ < _; rw [rc_len HR3.out.clen HR3.out.alen]; decide
  clear c52 RGX E3 R2 B2 R1 hb4 hb2
  go_upto_region 4 with (first
    | (refine wpList_set1 rfl 35 (.tmp 26) (.tmp 24) rfl r 52 (.slice (some ⟨g, 0, none⟩) k cp) (rc T pl (.slice (some ⟨gs, 0, none⟩) n n) C h (.slice (some ⟨g, 0, none⟩) (k + 1) cp) l nx an) 78 rfl rfl rfl HR3.out.row HL52.out info_Ws rfl ?_; intro X4 q1 q2 q3; have R4 : Hid (Row X4 r ((rc T pl (.slice (some ⟨gs, 0, none⟩) n n) C h (.slice (some ⟨g, 0, none⟩) (k + 1) cp) l nx an).set 52 (.slice (some ⟨g, 0, none⟩) k cp)) 78) := q1; have G4 : Hid (Gro (· = r) X3 X4) := q2; have S4 : Hid (X4.heap.size = X3.heap.size) := q3; clear q1 q2 q3; simp only [Act.put]))
  have HR4 : Hid (Rn k0 w0 X4 r T gs n pl C h av (.slice (some ⟨g, 0, none⟩) k cp) ss l nx an ls ags) := by
    refine Rn.stack HR3.out (gb_refl _ _) G4.out (.inl rfl) (by rw [← rc_set52 HR3.out.clen]; exact R4.out) ?_
    have := Lw.less (m := k) (by have := HR3.out.st; rw [show (ss ++ [x]).length = k + 1 by rw [List.length_append, HK.out]; rfl] at this; exact this) (Nat.le_succ _)
    rw [HK.out, fw_take] at this
    rw [HK.out]
    exact this
  have R34 : Hid (Row X4 b4 L 29) := G4.out.row R3.out (row_ne2 R3.out HR3.out.row (by decide))
  have R14 : Hid (Row X4 b2 zW 29) := G4.out.row R13.out (row_ne2 R13.out HR3.out.row (by decide))
  go_wp2_with (first
    | (refine wpList_load_w rfl 29 (.tmp 4) rfl b4 0 rfl L _ R34.out.all Try.underlying29 rfl HI.out ?_; simp only [Act.put, List.setIfInBounds_toArray, List.set_cons_zero, List.set_cons_succ])
    | (refine wpList_storeL rfl 29 (.tmp 2) (.tmp 27) rfl b2 L zW 29 rfl rfl R14.out HN4.out HI.out HO.out ?_; intro X5 q1 q2; have E5 : Hid (X5 = _) := q1; have R5 : Hid (Row X5 b2 L 29) := q2; clear q1 q2; simp only [Act.put]))
  have G5 : Gro (· = b2) X4 X5 := by rw [E5.out]; exact gro_over (Gro.refl _ _) b2 0 _ rfl
  have hf := HH.out.fresh
  refine bodyPost_ret (results_rowA Try.results54 _ _ b2 29 L rfl R5.out Try.underlying29 HI.out) rfl ⟨rfl, ?_, ?_, .slice (some ⟨g, 0, none⟩) k cp, rfl, HR4.out.aside R14.out ?_ ?_ ?_ G5⟩
  · rw [E5.out, size_setCells, S4.out]
    have := B3.out.size
    have := B1.out.size
    omega
  · intro b cs t rr hb
    have h1 : Row X3 b cs t := Row.below (Row.below rr B1.out rr.lt) B3.out (by have := rr.lt; have := B1.out.size; omega)
    exact G5.row (G4.out.row h1 hb) (by have := rr.lt; rw [HB2.out]; omega)
  · rw [HB2.out]; exact HH.out.be.size
  · intro q e; have := hf.1 q e; rw [HB2.out]; omega
  · intro q e; have := hf.2 q e; rw [HB2.out]; omega

end Go.Proofs.Ytdlmighfmkhpkaa
