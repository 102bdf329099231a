/-
  take.
-/
import Derived.Test.YtclbiophgnkggaaGreatDoorMkK
import Derived.Deep.RegionLaw
import Derived.Test.YtclbiophgnkggaaGreatDoorXMem
import Derived.BigRegion

namespace Go.Proofs.YtclbiophgnkggaaGreatDoor
open Go Go.RowKit
open Sha
open Wd

/-- A run's cells. -/
def rc (T : Nat) (pl ps : Value) (C : List Value) (h stk : Value) (l nx : Nat) (an : List Value) : List Value :=
  .slice (some ⟨T, 0, none⟩) 28 28 :: pl :: ps :: (C ++ (h :: stk :: .int .i64 (l : Int) :: .int .i64 (nx : Int) :: an))
section
variable {T : Nat} {pl ps : Value} {C : List Value} {h stk : Value} {l nx : Nat} {an : List Value}
theorem rc_low (hC : C.length = 48) (i : Nat) (hi : i < 48) : (rc T pl ps C h stk l nx an)[i + 3]? = C[i]? := by
  unfold rc
  rw [List.getElem?_cons_succ, List.getElem?_cons_succ, List.getElem?_cons_succ, List.getElem?_append_left (by omega)]
theorem rc_hi (hC : C.length = 48) (i : Nat) : (rc T pl ps C h stk l nx an)[i + 51]? = (h :: stk :: .int .i64 (l : Int) :: .int .i64 (nx : Int) :: an)[i]? := by
  unfold rc
  rw [show i + 51 = (i + 48) + 1 + 1 + 1 by omega, List.getElem?_cons_succ, List.getElem?_cons_succ, List.getElem?_cons_succ, List.getElem?_append_right (by omega), hC, Nat.add_sub_cancel]
theorem rc_len (hC : C.length = 48) (ha : an.length = 4) : (rc T pl ps C h stk l nx an).length = 59 := by
  unfold rc
  simp only [List.length_cons, List.length_append, hC, ha]
theorem rc_set52 (hC : C.length = 48) (v : Value) : (rc T pl ps C h stk l nx an).set 52 v = rc T pl ps C h v l nx an := by
  unfold rc
  rw [show 52 = (1 + 48) + 1 + 1 + 1 by omega, List.set_cons_succ, List.set_cons_succ, List.set_cons_succ, List.set_append, if_neg (by omega), hC, Nat.add_sub_cancel]
  rfl
theorem rc_set53 (hC : C.length = 48) (v : Nat) : (rc T pl ps C h stk l nx an).set 53 (.int .i64 (v : Int)) = rc T pl ps C h stk v nx an := by
  unfold rc
  rw [show 53 = (2 + 48) + 1 + 1 + 1 by omega, List.set_cons_succ, List.set_cons_succ, List.set_cons_succ, List.set_append, if_neg (by omega), hC, Nat.add_sub_cancel]
  rfl
theorem rc_set54 (hC : C.length = 48) (v : Nat) : (rc T pl ps C h stk l nx an).set 54 (.int .i64 (v : Int)) = rc T pl ps C h stk l v an := by
  unfold rc
  rw [show 54 = (3 + 48) + 1 + 1 + 1 by omega, List.set_cons_succ, List.set_cons_succ, List.set_cons_succ, List.set_append, if_neg (by omega), hC, Nat.add_sub_cancel]
  rfl
theorem rc_ans (hC : C.length = 48) (ha : an.length = 4) (bn : List Value) (hb : bn.length = 4) : (rc T pl ps C h stk l nx an).take 55 ++ bn ++ (rc T pl ps C h stk l nx an).drop (55 + bn.length) = rc T pl ps C h stk l nx bn := by
  have e : ∀ an, rc T pl ps C h stk l nx an = (.slice (some ⟨T, 0, none⟩) 28 28 :: pl :: ps :: (C ++ [h, stk, .int .i64 (l : Int), .int .i64 (nx : Int)])) ++ an := fun an => by unfold rc; simp
  have el : (Value.slice (some ⟨T, 0, none⟩) 28 28 :: pl :: ps :: (C ++ [h, stk, .int .i64 (l : Int), .int .i64 (nx : Int)])).length = 55 := by simp [hC]
  rw [List.drop_of_length_le (by rw [rc_len hC ha, hb]; decide), List.append_nil, e, e, List.take_append_of_le_length (by omega), List.take_of_length_le (by omega)]
end
def fw (ss : List Nat) : List Value := ss.flatMap wq
theorem fw_len (ss : List Nat) : (fw ss).length = ss.length * 4 := by
  induction ss with
  | nil => rfl
  | cons x r ih =>
    have e : fw (x :: r) = wq x ++ fw r := rfl
    rw [e, List.length_append, wq_len, ih, List.length_cons]
    omega
theorem fw_app (ss : List Nat) (x : Nat) : fw (ss ++ [x]) = fw ss ++ wq x := by
  unfold fw
  rw [List.flatMap_append]
  simp
theorem fw_get (ss : List Nat) (i : Nat) (x : Nat) (h : ss[i]? = some x) (j : Nat) (hj : j < 4) : (fw ss)[i * 4 + j]? = (wq x)[j]? := by
  induction ss generalizing i with
  | nil => cases h
  | cons y r ih =>
    have e : fw (y :: r) = wq y ++ fw r := rfl
    rw [e]
    cases i with
    | zero =>
      obtain rfl : y = x := by simpa using h
      rw [List.getElem?_append_left (by rw [wq_len]; omega), Nat.zero_mul, Nat.zero_add]
    | succ k =>
      rw [List.getElem?_append_right (by rw [wq_len]; omega), wq_len, show (k + 1) * 4 + j - 4 = k * 4 + j by omega]
      exact ih k (by simpa using h)
theorem fw_at {w : World} {g : Nat} {ss : List Nat} (h : w.rangeAt g 0 (fw ss)) (i : Nat) (x : Nat) (hx : ss[i]? = some x) : w.rangeAt g (i * 4) (wq x) := fun j v hj => by
  have hlt : j < 4 := by have := (List.getElem?_eq_some_iff.1 hj).1; rwa [wq_len] at this
  have := h (i * 4 + j) v (by rw [fw_get ss i x hx j hlt]; exact hj)
  rwa [Nat.zero_add] at this
theorem Lw.less {w : World} {e : TypeId} {s n cap m : Nat} {g : Nat} {xs : List Value} (h : Lw w e s (.slice (some ⟨g, 0, none⟩) n cap) n xs) (hm : m ≤ n) : Lw w e s (.slice (some ⟨g, 0, none⟩) m cap) m (xs.take (m * s)) := by
  obtain ⟨h1, h2⟩ := h
  have hms : m * s ≤ n * s := Nat.mul_le_mul_right _ hm
  refine ⟨by rw [List.length_take]; omega, ?_⟩
  rcases h2 with ⟨h2, _⟩ | ⟨g', cap', cur, hv, hg, hh, hc, hx, hs, ht⟩
  · cases h2
  · simp only [Value.slice.injEq, Option.some.injEq, Addr.mk.injEq] at hv
    obtain ⟨⟨rfl, _, _⟩, _, rfl⟩ := hv
    exact .inr ⟨g, cap, cur, rfl, hg, hh, by omega, hx, hs, by rw [← ht, List.take_take, Nat.min_eq_left hms]⟩
theorem Lw.alloc {w : World} {e : TypeId} {s n : Nat} {v : Value} {xs : List Value} (h : Lw w e s v n xs) (o : Obj) : Lw (w.alloc o) e s v n xs := Lw.be h ((Below.refl _ _).alloc (Nat.le_refl _) _)
theorem Lw.drew {w : World} {e : TypeId} {s n : Nat} {v : Value} {xs : List Value} (h : Lw w e s v n xs) : Lw w.drew e s v n xs := h
theorem fw_take (ss : List Nat) (x : Nat) : (fw (ss ++ [x])).take (ss.length * 4) = fw ss := by
  rw [fw_app, List.take_append_of_le_length (by rw [fw_len]; exact Nat.le_refl _), List.take_of_length_le (by rw [fw_len]; exact Nat.le_refl _)]
/-- A run, in memory. -/
structure Rn (k0 w0 w : World) (r T gs n : Nat) (pl : Value) (C : List Value) (h av stk : Value) (ss : List Nat) (l nx : Nat) (an : List Value) (ls : List Ins) (ags : List Nat) : Prop where
  row : Row w r (rc T pl (.slice (some ⟨gs, 0, none⟩) n n) C h stk l nx an) 100
  clen : C.length = 48
  alen : an.length = 4
  st : Lw w 37 4 stk ss.length (fw ss)
  tab : Row w T mtab 84
  prg : Lw w 53 7 pl ls.length (fl ls)
  sta : Row w gs (vI (sts ls n)) 3
  cargs : C[45]? = some av
  arg : Lw w 37 4 av ags.length (fw ags)
  apart : ∀ g, stk.ownBlock = some g → av.ownBlock ≠ some g
  be : Below w0.heap.size w0 w
  rlo : w0.heap.size ≤ r
  slo : ∀ g, stk.ownBlock = some g → w0.heap.size ≤ g
  kp : ∀ {b : Nat} {cs : List Value} {t : TypeId}, t ≠ 100 → t ≠ 37 → Row k0 b cs t → Row w b cs t
section
variable {k0 w0 w w' : World} {r T gs n : Nat} {pl : Value} {C : List Value} {h av stk : Value} {ss : List Nat} {l nx : Nat} {an : List Value} {ls : List Ins} {ags : List Nat}
theorem Rn.keep (H : Rn k0 w0 w r T gs n pl C h av stk ss l nx an ls ags) (k : Below w.heap.size w w') : Rn k0 w0 w' r T gs n pl C h av stk ss l nx an ls ags :=
  ⟨Row.below H.row k H.row.lt, H.clen, H.alen, Lw.be H.st k, Row.below H.tab k H.tab.lt, Lw.be H.prg k, Row.below H.sta k H.sta.lt, H.cargs, Lw.be H.arg k, H.apart, H.be.trans (k.mono H.be.size), H.rlo, H.slo, fun h1 h2 q => Row.below (H.kp h1 h2 q) k (H.kp h1 h2 q).lt⟩
theorem Rn.rebase (H : Rn k0 w0 w r T gs n pl C h av stk ss l nx an ls ags) : Rn w w0 w r T gs n pl C h av stk ss l nx an ls ags :=
  ⟨H.row, H.clen, H.alen, H.st, H.tab, H.prg, H.sta, H.cargs, H.arg, H.apart, H.be, H.rlo, H.slo, fun _ _ q => q⟩
theorem Rn.drewN (H : Rn k0 w0 w r T gs n pl C h av stk ss l nx an ls ags) (k : Nat) : Rn k0 w0 (w.drewN k) r T gs n pl C h av stk ss l nx an ls ags :=
  ⟨H.row, H.clen, H.alen, H.st, H.tab, H.prg, H.sta, H.cargs, H.arg, H.apart, below_drewN H.be k, H.rlo, H.slo, H.kp⟩
/-- The run's own cells written over. -/
theorem Rn.over (H : Rn k0 w0 w r T gs n pl C h av stk ss l nx an ls ags) (k : Gro (· = r) w w') {l2 nx2 : Nat} {an2 : List Value} (ha : an2.length = 4) (q : Row w' r (rc T pl (.slice (some ⟨gs, 0, none⟩) n n) C h stk l2 nx2 an2) 100) : Rn k0 w0 w' r T gs n pl C h av stk ss l2 nx2 an2 ls ags :=
  ⟨q, H.clen, ha, Lw.gro H.st k (Lw.ne H.st H.row (by decide)), k.row H.tab (row_ne2 H.tab H.row (by decide)), Lw.gro H.prg k (Lw.ne H.prg H.row (by decide)), k.row H.sta (row_ne2 H.sta H.row (by decide)), H.cargs, Lw.gro H.arg k (Lw.ne H.arg H.row (by decide)), H.apart, H.be.trans (k.to_below H.be.size (fun g e => by rw [e]; exact H.rlo)), H.rlo, H.slo, fun h1 h2 q => k.row (H.kp h1 h2 q) (row_ne2 (H.kp h1 h2 q) H.row h1)⟩
/-- The stack turned: its old block written into, the run's cell written over. -/
theorem Rn.stack (H : Rn k0 w0 w r T gs n pl C h av stk ss l nx an ls ags) {w2 : World} {stk2 : Value} {ss2 : List Nat} (k : w.grownBy w2 stk.ownBlock) (k2 : Gro (· = r) w2 w') (o : stk2.ownBlock = stk.ownBlock ∨ ∃ g, stk2.ownBlock = some g ∧ w.heap.size ≤ g) (q : Row w' r (rc T pl (.slice (some ⟨gs, 0, none⟩) n n) C h stk2 l nx an) 100) (hs : Lw w2 37 4 stk2 ss2.length (fw ss2)) : Rn k0 w0 w' r T gs n pl C h av stk2 ss2 l nx an ls ags := by
  have r2 : Row w2 r (rc T pl (.slice (some ⟨gs, 0, none⟩) n n) C h stk l nx an) 100 := row_gb H.row k (some_ne (Lw.ne H.st H.row (by decide)))
  have hneI : ∀ g, stk.ownBlock = some g → ∀ {b : Nat} {cs : List Value} {t : TypeId}, Row w b cs t → t ≠ 37 → g ≠ b := fun g e b cs t rr ht => Lw.ne H.st rr ht g e
  have hp : ∀ g, pl.ownBlock = some g → some g ≠ stk.ownBlock := fun g e q => by
    obtain ⟨_, h2⟩ := H.prg
    rcases h2 with ⟨h2, _⟩ | ⟨g', cap, cur, hv, hg, hh, _⟩
    · rw [h2] at e; cases e
    · rw [hv] at e
      obtain rfl : g' = g := by simpa [Value.ownBlock] using e
      have rr : Row w g' cur.toList 53 := by unfold Row; simpa using hh
      exact hneI g' q.symm rr (by decide) rfl
  refine ⟨q, H.clen, H.alen, Lw.gro hs k2 (Lw.ne hs r2 (by decide)), k2.row (row_gb H.tab k (some_ne (Lw.ne H.st H.tab (by decide)))) (row_ne2 H.tab H.row (by decide)), Lw.gro (Lw.block H.prg fun g e => k.block g (Lw.lt H.prg g e) (hp g e)) k2 (Lw.ne H.prg H.row (by decide)), k2.row (row_gb H.sta k (some_ne (Lw.ne H.st H.sta (by decide)))) (row_ne2 H.sta H.row (by decide)), H.cargs, Lw.gro (Lw.block H.arg fun g e => k.block g (Lw.lt H.arg g e) (fun q => H.apart g q.symm e)) k2 (Lw.ne H.arg H.row (by decide)), ?_, ?_, H.rlo, ?_, fun h1 h2 q => k2.row (row_gb (H.kp h1 h2 q) k (some_ne (Lw.ne H.st (H.kp h1 h2 q) h2))) (row_ne2 (H.kp h1 h2 q) H.row h1)⟩
  · intro g e q2
    rcases o with o | ⟨g2, o, hg2⟩
    · exact H.apart g (by rw [← o]; exact e) q2
    · rw [o] at e; cases e
      have := Lw.lt H.arg _ q2
      omega
  · exact (below_gb H.be k H.slo).trans (k2.to_below (Nat.le_trans H.be.size k.size) (fun g e => by rw [e]; exact H.rlo))
  · intro g e
    rcases o with o | ⟨g2, o, hg2⟩
    · exact H.slo g (by rw [← o]; exact e)
    · rw [o] at e; cases e
      exact Nat.le_trans H.be.size hg2
end

end Go.Proofs.YtclbiophgnkggaaGreatDoor

namespace Go.Proofs.YtclbiophgnkggaaGreatDoor
open Go Go.RowKit
open Sha
open Wd

theorem info_W_all : (Tryz.prog.info? 37).map (fun i => (i.zero, i.size, i.bytes)) = some (some (.agg zW.toArray), 4, 32) := by kernel_rfl
theorem info_W_open : ∃ ie z, Tryz.prog.info? 37 = some ie ∧ ie.zero = some z ∧ ie.size = 4 ∧ ie.bytes = 32 ∧ z.cells.size = 4 := by
  have i1 := info_W_all
  cases hi : Tryz.prog.info? 37 with
  | none => rw [hi] at i1; cases i1
  | some ie =>
    rw [hi] at i1
    simp only [Option.map_some, Option.some.injEq, Prod.mk.injEq] at i1
    exact ⟨ie, _, rfl, i1.1, i1.2.1, i1.2.2, rfl⟩
theorem info_W_open4 : ∃ ie z, Tryz.prog.info? 37 = some ie ∧ ie.zero = some z ∧ ie.size = 4 ∧ z.cells.size = 4 := by
  obtain ⟨ie, z, h1, h2, h3, _, h5⟩ := info_W_open
  exact ⟨ie, z, h1, h2, h3, h5⟩
theorem wq_mem (a : Nat) : ∀ v ∈ wq a, v.oneCell' = true := by
  have := wq_one a
  rw [← Array.all_toList] at this
  exact List.all_eq_true.1 this
section
variable {ops : Array Oper} {op : Oper} {a : Act} {w : World} {K : Act → World → Prop} {Q : Exit → Act → World → Prop} {E : Prop}
theorem stp_appW (hgd : op.guard = none) (s x : Operand) (ho : op.op = .call { callee := .builtin .append, args := #[s, x], argTypes := #[65, 65] }) (v : Value) (n : Nat) (l news : List Value) (hs : a.eval s = v) (hown : Lw w 37 4 v n l)
    (g2 : Nat) (hm : news.length = 4) (hx : a.eval x = .slice (some ⟨g2, 0, none⟩) 1 1) (hX : w.rangeAt g2 0 news) (h1 : ∀ v ∈ news, v.oneCell' = true) (hk : n ≤ 1000000)
    (h : ∀ v' w', Lw w' 37 4 v' (n + 1) (l ++ news) → w.grownBy w' v.ownBlock → (v'.ownBlock = v.ownBlock ∨ v'.ownBlock = some w.heap.size) → K (a.put op.dst v') w') : if Region.wanted op (yielded ops a.tmps) = true then Oper.wp Tryz.prog op a w K Q else E := by
  have hw : Region.wanted op (yielded ops a.tmps) = true := by simp [Region.wanted, hgd]
  rw [if_pos hw]
  exact wp_appL 65 37 4 32 Tryz.underlying65 info_W_open (by decide) (by decide) s x ho v n l news hs hown g2 hm hx hX h1 hk h
theorem stp_appR (hgd : op.guard = none) (s y : Operand) (ho : op.op = .call { callee := .builtin .append, args := #[s, y], argTypes := #[65, 65] }) (r T gs n : Nat) (pl : Value) (C : List Value) (h av : Value) (A : Option Addr) (cp : Nat) (ss : List Nat) (l nx : Nat) (an : List Value) (ls : List Ins) (ags : List Nat) (k0 w0 : World) (x : Nat) (X4 : List Value) (hx : wq x = X4) (hs : a.eval s = .slice A ss.length cp) (H : Rn k0 w0 w r T gs n pl C h av (.slice A ss.length cp) ss l nx an ls ags)
    (g2 : Nat) (hy : a.eval y = .slice (some ⟨g2, 0, none⟩) 1 1) (hX : w.rangeAt g2 0 X4) (hk : ss.length ≤ 1000)
    (hh : ∀ A' c' X6, X6.cell? ⟨r, 52, none⟩ = some (.slice A ss.length cp) → X6.frozen? ⟨r, 52, none⟩ = false → Hid (Row X6 r (rc T pl (.slice (some ⟨gs, 0, none⟩) n n) C h (.slice A ss.length cp) l nx an) 100) → Hid (∀ Y, Gro (· = r) X6 Y → Row Y r (rc T pl (.slice (some ⟨gs, 0, none⟩) n n) C h (.slice A' (ss.length + 1) c') l nx an) 100 → Rn k0 w0 Y r T gs n pl C h av (.slice A' (ss.length + 1) c') (ss ++ [x]) l nx an ls ags) → K (a.put op.dst (.slice A' (ss.length + 1) c')) X6) : if Region.wanted op (yielded ops a.tmps) = true then Oper.wp Tryz.prog op a w K Q else E := by
  subst hx
  refine stp_appW hgd s y ho (.slice A ss.length cp) ss.length (fw ss) (wq x) hs H.st g2 (wq_len x) hy hX (wq_mem x) (by omega) ?_
  intro v' X6 q1 q2 q3
  obtain ⟨A', c', rfl, _, _⟩ := Lw.form q1
  have hr6 := row_gb H.row q2 (some_ne (Lw.ne H.st H.row (by decide)))
  refine hh A' c' X6 (hr6.cell 52 _ (rc_hi H.clen 1)) (hr6.thaw 52) hr6 (fun Y k q => Rn.stack H q2 k (q3.imp id (fun e => ⟨_, e, Nat.le_refl _⟩)) q ?_)
  rw [fw_app, List.length_append, List.length_singleton]
  exact q1
end
set_option maxRecDepth 100000 in
set_option maxHeartbeats 4000000 in
theorem leave_any (r T gs n : Nat) (pl : Value) (C : List Value) (h av stk : Value) (ss : List Nat) (l nx : Nat) (an : List Value) (ls : List Ins) (ags : List Nat) (x : Nat) (k0 w0 w : World) (H : Rn k0 w0 w r T gs n pl C h av stk ss l nx an ls ags) (hss : ss.length ≤ 1000) : Calls Tryz.prog 66 #[.pointer (some ⟨r, 0, none⟩), .agg (wq x).toArray] w fun e w' => e = .returned (.int .i64 0) ∧ ∃ stk', Rn k0 w0 w' r T gs n pl C h av stk' (ss ++ [x]) l nx an ls ags := by
  obtain ⟨A, cp, hst, _, _⟩ := Lw.form H.st
  subst hst
  have HH : Hid (Rn k0 w0 w r T gs n pl C h av (.slice A ss.length cp) ss l nx an ls ags) := H
  have HSS : Hid (ss.length ≤ 1000) := hss
  obtain ⟨a0, ha0⟩ : ∃ a, a = ((lim x 0 : Nat) : Int) := ⟨_, rfl⟩
  obtain ⟨a1, ha1⟩ : ∃ a, a = ((lim x 1 : Nat) : Int) := ⟨_, rfl⟩
  obtain ⟨a2, ha2⟩ : ∃ a, a = ((lim x 2 : Nat) : Int) := ⟨_, rfl⟩
  obtain ⟨a3, ha3⟩ : ∃ a, a = ((lim x 3 : Nat) : Int) := ⟨_, rfl⟩
  have hx : wq x = [.int .u64 a0, .int .u64 a1, .int .u64 a2, .int .u64 a3] := by rw [wq_cells, ha0, ha1, ha2, ha3]
  have HX : Hid (wq x = [.int .u64 a0, .int .u64 a1, .int .u64 a2, .int .u64 a3]) := hx
  rw [hx]
  clear H hss hx ha0 ha1 ha2 ha3
  go_enter Tryz.func66, Tryz.ntmps66
  go_upto_region 1 with (refine wpList_boxG 37 rfl (.tmp 1) rfl [.int .u64 a0, .int .u64 a1, .int .u64 a2, .int .u64 a3] rfl ?_; intro X q1 q2 q3; have R1 : Hid (Row X w.heap.size [.int .u64 a0, .int .u64 a1, .int .u64 a2, .int .u64 a3] 37) := q1; have HR : Hid (Rn k0 w0 X r T gs n pl C h av (.slice A ss.length cp) ss l nx an ls ags) := HH.out.keep q2; clear q1 q2 q3; simp only [Act.put, List.setIfInBounds_toArray, List.set_cons_zero, List.set_cons_succ])
  have c0 := R1.out.cell 0 _ rfl
  have c1 := R1.out.cell 1 _ rfl
  have c2 := R1.out.cell 2 _ rfl
  have c3 := R1.out.cell 3 _ rfl
  have cs := HR.out.row.cell 52 _ (rc_hi HR.out.clen 1)
  have cs' : X.cell? ⟨r, 52, none⟩ = some (.slice A ss.length cp) := cs
  clear cs
  obtain ⟨b3, hb3⟩ : ∃ b, b = w.heap.size := ⟨_, rfl⟩
  rw [← hb3] at R1 c0 c1 c2 c3
  rw [← hb3]
  clear hb3
  have cs2 : (X.alloc (Obj.cells #[Value.int .u64 a0, .int .u64 a1, .int .u64 a2, .int .u64 a3] 37)).cell? ⟨r, 52, none⟩ = some (.slice A ss.length cp) := (Row.alloc HR.out.row _).cell 52 _ (rc_hi HR.out.clen 1)
  have HM : Hid (∀ v ∈ [Value.int .u64 a0, .int .u64 a1, .int .u64 a2, .int .u64 a3], v.oneCell' = true) := by rw [← HX.out]; exact wq_mem x
  go_region_law (refine stp_appR rfl (.tmp 9) (.tmp 11) rfl r T gs n pl C h av A cp ss l nx an ls ags k0 w0 x [.int .u64 a0, .int .u64 a1, .int .u64 a2, .int .u64 a3] HX.out (by simp [Act.eval]) (HR.out.keep ((Below.refl X.heap.size X).drew.alloc (Nat.le_refl _) _)) _ (by simp [Act.eval]) (Row.all (Row.new' rfl rfl)) HSS.out ?_; intro A' c' X6 d1 d2 R6 F6)
  all_goals
    clear c0 c1 c2 c3 cs' cs2
    go_wp2
    go_ret
    refine ⟨rfl, _, F6.out _ ((Gro.refl _ _).set r 52 _ rfl) ?_⟩
    have q := R6.out.set 52 (.slice A' (ss.length + 1) c')
    rw [rc_set52 HR.out.clen] at q
    exact q

end Go.Proofs.YtclbiophgnkggaaGreatDoor

namespace Go.Proofs.YtclbiophgnkggaaGreatDoor
open Go Go.RowKit
open Sha

theorem stp_fcall {P : Program} {ops : Array Oper} {o : Oper} {a : Act} {w : World} {K : Act → World → Prop} {Q : Exit → Act → World → Prop} {E : Prop} (hg : o.guard = none) (f : FuncId) (args : Array Value) (h : (execOp a.eval o).run P w = .ok (.enter f args) w)
    (hc : Calls P f args w fun e w' => ∃ v, e = .returned v ∧ K (a.put o.dst v) w') : if Region.wanted o (yielded ops a.tmps) = true then Oper.wp P o a w K Q else E := by
  have hw : Region.wanted o (yielded ops a.tmps) = true := by simp [Region.wanted, hg]
  rw [if_pos hw]
  unfold Oper.wp
  rw [h]
  exact hc.mono (fun e w' hk => by obtain ⟨v, he, hk⟩ := hk; subst he; exact hk)

/-- The same, where the function's number is held against the operation first: so that a wrong alternative fails at once. -/
theorem stp_fn {P : Program} {ops : Array Oper} {o : Oper} {a : Act} {w : World} {K : Act → World → Prop} {Q : Exit → Act → World → Prop} {E : Prop} (hg : o.guard = none) (f : FuncId) {xs : Array Operand} {ts : Array TypeId} (_ho : o.op = .call { callee := .value (.func f), args := xs, argTypes := ts }) (args : Array Value) (h : (execOp a.eval o).run P w = .ok (.enter f args) w)
    (hc : Calls P f args w fun e w' => ∃ v, e = .returned v ∧ K (a.put o.dst v) w') : if Region.wanted o (yielded ops a.tmps) = true then Oper.wp P o a w K Q else E := stp_fcall hg f args h hc

end Go.Proofs.YtclbiophgnkggaaGreatDoor

namespace Go.Proofs.YtclbiophgnkggaaGreatDoor
open Go Go.RowKit
open Sha
open Wd

section
variable {k0 w0 w w' : World} {r T gs n : Nat} {pl : Value} {C : List Value} {h av stk : Value} {ss : List Nat} {l nx : Nat} {an : List Value} {ls : List Ins} {ags : List Nat}
/-- A number of another's, written over. -/
theorem Rn.aside (H : Rn k0 w0 w r T gs n pl C h av stk ss l nx an ls ags) {b : Nat} {cs : List Value} (rb : Row w b cs 37) (hlo : w0.heap.size ≤ b) (h1 : ∀ g, stk.ownBlock = some g → g ≠ b) (h2 : ∀ g, av.ownBlock = some g → g ≠ b) (k : Gro (· = b) w w') : Rn k0 w0 w' r T gs n pl C h av stk ss l nx an ls ags :=
  ⟨k.row H.row (row_ne2 H.row rb (by decide)), H.clen, H.alen, Lw.gro H.st k h1, k.row H.tab (row_ne2 H.tab rb (by decide)), Lw.gro H.prg k (Lw.ne H.prg rb (by decide)), k.row H.sta (row_ne2 H.sta rb (by decide)), H.cargs, Lw.gro H.arg k h2, H.apart, H.be.trans (k.to_below H.be.size (fun g e => by rw [e]; exact hlo)), H.rlo, H.slo, fun h1 h2 q => k.row (H.kp h1 h2 q) (row_ne2 (H.kp h1 h2 q) rb h2)⟩
theorem Rn.fresh (H : Rn k0 w0 w r T gs n pl C h av stk ss l nx an ls ags) : (∀ g, stk.ownBlock = some g → g < w.heap.size) ∧ (∀ g, av.ownBlock = some g → g < w.heap.size) := ⟨Lw.lt H.st, Lw.lt H.arg⟩
end
theorem gb_refl (w : World) (o : Option Nat) : w.grownBy w o := ⟨rfl, rfl, rfl, Nat.le_refl _, fun _ _ _ => rfl⟩
theorem info_Ws : (Tryz.prog.info? 65).map (·.size) = some 1 := by kernel_rfl
set_option maxRecDepth 100000 in
set_option maxHeartbeats 4000000 in
theorem take_any (r T gs n : Nat) (pl : Value) (C : List Value) (h av stk : Value) (ss : List Nat) (l nx : Nat) (an : List Value) (ls : List Ins) (ags : List Nat) (x : Nat) (k0 w0 w : World) (H : Rn k0 w0 w r T gs n pl C h av stk (ss ++ [x]) l nx an ls ags) (hss : ss.length ≤ 1000) : Calls Tryz.prog 65 #[.pointer (some ⟨r, 0, none⟩)] w fun e w' => e = .returned (.agg (wq x).toArray) ∧ w.heap.size ≤ w'.heap.size ∧ (∀ {b : Nat} {cs : List Value} {t : TypeId}, Row w b cs t → b ≠ r → Row w' b cs t) ∧ ∃ stk', stk'.ownBlock = stk.ownBlock ∧ Rn k0 w0 w' r T gs n pl C h av stk' ss l nx an ls ags := by
  obtain ⟨g, cp, hst, hcp⟩ := Lw.open H.st (by rw [List.length_append]; exact Nat.succ_pos _)
  subst hst
  obtain ⟨k, hk⟩ : ∃ k, k = ss.length := ⟨_, rfl⟩
  have elen : (ss ++ [x]).length = k + 1 := by rw [List.length_append, hk]; rfl
  rw [elen] at H hcp
  have HH : Hid (Rn k0 w0 w r T gs n pl C h av (.slice (some ⟨g, 0, none⟩) (k + 1) cp) (ss ++ [x]) l nx an ls ags) := H
  have HK : Hid (k = ss.length) := hk
  have hk1 : k ≤ 1000 := by omega
  have HCP : Hid (k + 1 ≤ cp) := hcp
  obtain ⟨L, hL⟩ : ∃ L, L = wq x := ⟨_, rfl⟩
  have HI : Hid ((Tryz.prog.info? 37).map (·.size) = some L.length) := by show _ = _; rw [hL]; exact info_Wq _
  have HN4 : Hid (L.length = zW.length) := by show _ = _; rw [hL]; exact wq_len _
  have HO : Hid (L.toArray.all (·.oneCell') = true) := by show _ = _; rw [hL]; exact wq_one _
  have HLL : Hid (L = wq x) := hL
  rw [← hL]
  rw [elen]
  clear H hss hk hL elen
  go_enter Tryz.func65, Tryz.ntmps65
  go_upto_region 1 with (refine wpList_allocW rfl rfl ?_; intro X1 q1 q2 q3; have R1 : Hid (Row X1 w.heap.size zW 37) := q1; have B1 : Hid (Below w.heap.size w X1) := q2; have S1 : Hid (X1.heap.size = w.heap.size + 1) := q3; clear q1 q2 q3; simp only [Act.put, List.setIfInBounds_toArray, List.set_cons_zero, List.set_cons_succ])
  have HR1 : Hid (Rn k0 w0 X1 r T gs n pl C h av (.slice (some ⟨g, 0, none⟩) (k + 1) cp) (ss ++ [x]) l nx an ls ags) := HH.out.keep B1.out
  have c52 : X1.cell? ⟨r, 52, none⟩ = some (.slice (some ⟨g, 0, none⟩) (k + 1) cp) := HR1.out.row.cell 52 _ (rc_hi HR1.out.clen 1)
  have RGX : Hid (X1.rangeAt g (k * 4) L) := by
    have := HR1.out.st
    rw [show (ss ++ [x]).length = k + 1 by rw [List.length_append, HK.out]; rfl] at this
    rw [HLL.out]
    exact fw_at (Lw.range this) k x (by rw [HK.out, List.getElem?_append_right (Nat.le_refl _), Nat.sub_self]; rfl)
  have ek : ((k + 1 : Nat) : Int) - 1 = (k : Int) := by omega
  go_upto_region 3 with (first
    | (refine wpList_load_w rfl 37 (.tmp 16) rfl g (k * 4) rfl L _ RGX.out Tryz.underlying37 rfl HI.out ?_; simp only [Act.put, List.setIfInBounds_toArray, List.set_cons_zero, List.set_cons_succ])
    | (refine wpList_allocW rfl rfl ?_; intro X2 q1 q2 q3; have R2 : Hid (Row X2 X1.heap.size zW 37) := q1; have B2 : Hid (Below X1.heap.size X1 X2) := q2; clear q1 q2 q3; simp only [Act.put, List.setIfInBounds_toArray, List.set_cons_zero, List.set_cons_succ])
    | (refine wpList_storeL rfl 37 (.tmp 4) (.tmp 17) rfl X1.heap.size L zW 37 rfl rfl R2.out HN4.out HI.out HO.out ?_; intro X3 q1 q2; have E3 : Hid (X3 = _) := q1; have R3 : Hid (Row X3 X1.heap.size L 37) := q2; clear q1 q2; simp only [Act.put]))
  have B3 : Hid (Below X1.heap.size X1 X3) := by rw [E3.out]; exact below_setCells B2.out (Nat.le_refl _) _
  have HR3 : Hid (Rn k0 w0 X3 r T gs n pl C h av (.slice (some ⟨g, 0, none⟩) (k + 1) cp) (ss ++ [x]) l nx an ls ags) := HR1.out.keep B3.out
  have c53 : X3.cell? ⟨r, 52, none⟩ = some (.slice (some ⟨g, 0, none⟩) (k + 1) cp) := HR3.out.row.cell 52 _ (rc_hi HR3.out.clen 1)
  have R13 : Hid (Row X3 w.heap.size zW 37) := Row.below R1.out B3.out R1.out.lt
  obtain ⟨b4, hb4⟩ : ∃ b, b = X1.heap.size := ⟨_, rfl⟩
  obtain ⟨b2, hb2⟩ : ∃ b, b = w.heap.size := ⟨_, rfl⟩
  have HB4 : Hid (b4 = b2 + 1) := by show _ = _; rw [hb4, hb2]; exact S1.out
  have HB2 : Hid (b2 = w.heap.size) := hb2
  rw [← hb4] at R3
  rw [← hb2] at R13
  rw [← hb4, ← hb2]
  have hkc : k ≤ cp := by have := HCP.out; omega
  have HL52 : Hid (52 < (rc T pl (.slice (some ⟨gs, 0, none⟩) n n) C h (.slice (some ⟨g, 0, none⟩) (k + 1) cp) l nx an).length) := by show _ < _; rw [rc_len HR3.out.clen HR3.out.alen]; decide
  clear c52 RGX E3 R2 B2 R1 hb4 hb2
  go_upto_region 4 with (first
    | (refine wpList_set1 rfl 65 (.tmp 26) (.tmp 24) rfl r 52 (.slice (some ⟨g, 0, none⟩) k cp) (rc T pl (.slice (some ⟨gs, 0, none⟩) n n) C h (.slice (some ⟨g, 0, none⟩) (k + 1) cp) l nx an) 100 rfl rfl rfl HR3.out.row HL52.out info_Ws rfl ?_; intro X4 q1 q2 q3; have R4 : Hid (Row X4 r ((rc T pl (.slice (some ⟨gs, 0, none⟩) n n) C h (.slice (some ⟨g, 0, none⟩) (k + 1) cp) l nx an).set 52 (.slice (some ⟨g, 0, none⟩) k cp)) 100) := q1; have G4 : Hid (Gro (· = r) X3 X4) := q2; have S4 : Hid (X4.heap.size = X3.heap.size) := q3; clear q1 q2 q3; simp only [Act.put]))
  have HR4 : Hid (Rn k0 w0 X4 r T gs n pl C h av (.slice (some ⟨g, 0, none⟩) k cp) ss l nx an ls ags) := by
    refine Rn.stack HR3.out (gb_refl _ _) G4.out (.inl rfl) (by rw [← rc_set52 HR3.out.clen]; exact R4.out) ?_
    have := Lw.less (m := k) (by have := HR3.out.st; rw [show (ss ++ [x]).length = k + 1 by rw [List.length_append, HK.out]; rfl] at this; exact this) (Nat.le_succ _)
    rw [HK.out, fw_take] at this
    rw [HK.out]
    exact this
  have R34 : Hid (Row X4 b4 L 37) := G4.out.row R3.out (row_ne2 R3.out HR3.out.row (by decide))
  have R14 : Hid (Row X4 b2 zW 37) := G4.out.row R13.out (row_ne2 R13.out HR3.out.row (by decide))
  go_wp2_with (first
    | (refine wpList_load_w rfl 37 (.tmp 4) rfl b4 0 rfl L _ R34.out.all Tryz.underlying37 rfl HI.out ?_; simp only [Act.put, List.setIfInBounds_toArray, List.set_cons_zero, List.set_cons_succ])
    | (refine wpList_storeL rfl 37 (.tmp 2) (.tmp 27) rfl b2 L zW 37 rfl rfl R14.out HN4.out HI.out HO.out ?_; intro X5 q1 q2; have E5 : Hid (X5 = _) := q1; have R5 : Hid (Row X5 b2 L 37) := q2; clear q1 q2; simp only [Act.put]))
  have G5 : Gro (· = b2) X4 X5 := by rw [E5.out]; exact gro_over (Gro.refl _ _) b2 0 _ rfl
  have hf := HH.out.fresh
  refine bodyPost_ret (results_rowA Tryz.results65 _ _ b2 37 L rfl R5.out Tryz.underlying37 HI.out) rfl ⟨rfl, ?_, ?_, .slice (some ⟨g, 0, none⟩) k cp, rfl, HR4.out.aside R14.out ?_ ?_ ?_ G5⟩
  · rw [E5.out, size_setCells, S4.out]
    have := B3.out.size
    have := B1.out.size
    omega
  · intro b cs t rr hb
    have h1 : Row X3 b cs t := Row.below (Row.below rr B1.out rr.lt) B3.out (by have := rr.lt; have := B1.out.size; omega)
    exact G5.row (G4.out.row h1 hb) (by have := rr.lt; rw [HB2.out]; omega)
  · rw [HB2.out]; exact HH.out.be.size
  · intro q e; have := hf.1 q e; rw [HB2.out]; omega
  · intro q e; have := hf.2 q e; rw [HB2.out]; omega

end Go.Proofs.YtclbiophgnkggaaGreatDoor
