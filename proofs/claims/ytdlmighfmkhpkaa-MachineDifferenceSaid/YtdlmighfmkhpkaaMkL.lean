/-
  a run in memory.
-/
import Derived.Test.YtdlmighfmkhpkaaMkK
namespace Go.Proofs.Ytdlmighfmkhpkaa
open Go Go.RowKit
open Sha
open Wd

/-- A run's cells. -/
def rc (T : Nat) (pl ps : Value) (C : List Value) (h stk : Value) (l nx : Nat) (an : List Value) : List Value :=
  .slice (some ⟨T, 0, none⟩) 28 28 :: pl :: ps :: (C ++ (h :: stk :: .int .i64 (l : Int) :: .int .i64 (nx : Int) :: an))
section
variable {T : Nat} {pl ps : Value} {C : List Value} {h stk : Value} {l nx : Nat} {an : List Value}
theorem rc_low (hC : C.length = 48) (i : Nat) (hi : i < 48) : (rc T pl ps C h stk l nx an)[i + 3]? = C[i]? := by
  unfold rc
  rw [List.getElem?_cons_succ, List.getElem?_cons_succ, List.getElem?_cons_succ, List.getElem?_append_left (by omega)]
theorem rc_hi (hC : C.length = 48) (i : Nat) : (rc T pl ps C h stk l nx an)[i + 51]? = (h :: stk :: .int .i64 (l : Int) :: .int .i64 (nx : Int) :: an)[i]? := by
  unfold rc
  rw [show i + 51 = (i + 48) + 1 + 1 + 1 by omega, List.getElem?_cons_succ, List.getElem?_cons_succ, List.getElem?_cons_succ, List.getElem?_append_right (by omega), hC, Nat.add_sub_cancel]
theorem rc_len (hC : C.length = 48) (ha : an.length = 4) : (rc T pl ps C h stk l nx an).length = 59 := by
  unfold rc
  simp only [List.length_cons, List.length_append, hC, ha]
theorem rc_set52 (hC : C.length = 48) (v : Value) : (rc T pl ps C h stk l nx an).set 52 v = rc T pl ps C h v l nx an := by
  unfold rc
  rw [show 52 = (1 + 48) + 1 + 1 + 1 by omega, List.set_cons_succ, List.set_cons_succ, List.set_cons_succ, List.set_append, if_neg (by omega), hC, Nat.add_sub_cancel]
  rfl
theorem rc_set53 (hC : C.length = 48) (v : Nat) : (rc T pl ps C h stk l nx an).set 53 (.int .i64 (v : Int)) = rc T pl ps C h stk v nx an := by
  unfold rc
  rw [show 53 = (2 + 48) + 1 + 1 + 1 by omega, List.set_cons_succ, List.set_cons_succ, List.set_cons_succ, List.set_append, if_neg (by omega), hC, Nat.add_sub_cancel]
  rfl
theorem rc_set54 (hC : C.length = 48) (v : Nat) : (rc T pl ps C h stk l nx an).set 54 (.int .i64 (v : Int)) = rc T pl ps C h stk l v an := by
  unfold rc
  rw [show 54 = (3 + 48) + 1 + 1 + 1 by omega, List.set_cons_succ, List.set_cons_succ, List.set_cons_succ, List.set_append, if_neg (by omega), hC, Nat.add_sub_cancel]
  rfl
theorem rc_ans (hC : C.length = 48) (ha : an.length = 4) (bn : List Value) (hb : bn.length = 4) : (rc T pl ps C h stk l nx an).take 55 ++ bn ++ (rc T pl ps C h stk l nx an).drop (55 + bn.length) = rc T pl ps C h stk l nx bn := by
  have e : ∀ an, rc T pl ps C h stk l nx an = (.slice (some ⟨T, 0, none⟩) 28 28 :: pl :: ps :: (C ++ [h, stk, .int .i64 (l : Int), .int .i64 (nx : Int)])) ++ an := fun an => by unfold rc; simp
  have el : (Value.slice (some ⟨T, 0, none⟩) 28 28 :: pl :: ps :: (C ++ [h, stk, .int .i64 (l : Int), .int .i64 (nx : Int)])).length = 55 := by simp [hC]
  rw [List.drop_of_length_le (by rw [rc_len hC ha, hb]; decide), List.append_nil, e, e, List.take_append_of_le_length (by omega), List.take_of_length_le (by omega)]
end
def fw (ss : List Nat) : List Value := ss.flatMap wq
theorem fw_len (ss : List Nat) : (fw ss).length = ss.length * 4 := by
  induction ss with
  | nil => rfl
  | cons x r ih =>
    have e : fw (x :: r) = wq x ++ fw r := rfl
    rw [e, List.length_append, wq_len, ih, List.length_cons]
    omega
theorem fw_app (ss : List Nat) (x : Nat) : fw (ss ++ [x]) = fw ss ++ wq x := by
  unfold fw
  rw [List.flatMap_append]
  simp
theorem fw_get (ss : List Nat) (i : Nat) (x : Nat) (h : ss[i]? = some x) (j : Nat) (hj : j < 4) : (fw ss)[i * 4 + j]? = (wq x)[j]? := by
  induction ss generalizing i with
  | nil => cases h
  | cons y r ih =>
    have e : fw (y :: r) = wq y ++ fw r := rfl
    rw [e]
    cases i with
    | zero =>
      obtain rfl : y = x := by simpa using h
      rw [List.getElem?_append_left (by rw [wq_len]; omega), Nat.zero_mul, Nat.zero_add]
    | succ k =>
      rw [List.getElem?_append_right (by rw [wq_len]; omega), wq_len, show (k + 1) * 4 + j - 4 = k * 4 + j by omega]
      exact ih k (by simpa using h)
theorem fw_at {w : World} {g : Nat} {ss : List Nat} (h : w.rangeAt g 0 (fw ss)) (i : Nat) (x : Nat) (hx : ss[i]? = some x) : w.rangeAt g (i * 4) (wq x) := fun j v hj => by
  have hlt : j < 4 := by have := (List.getElem?_eq_some_iff.1 hj).1; rwa [wq_len] at this
  have := h (i * 4 + j) v (by rw [fw_get ss i x hx j hlt]; exact hj)
  rwa [Nat.zero_add] at this
theorem Lw.less {w : World} {e : TypeId} {s n cap m : Nat} {g : Nat} {xs : List Value} (h : Lw w e s (.slice (some ⟨g, 0, none⟩) n cap) n xs) (hm : m ≤ n) : Lw w e s (.slice (some ⟨g, 0, none⟩) m cap) m (xs.take (m * s)) := by
  obtain ⟨h1, h2⟩ := h
  have hms : m * s ≤ n * s := Nat.mul_le_mul_right _ hm
  refine ⟨by rw [List.length_take]; omega, ?_⟩
  rcases h2 with ⟨h2, _⟩ | ⟨g', cap', cur, hv, hg, hh, hc, hx, hs, ht⟩
  · cases h2
  · simp only [Value.slice.injEq, Option.some.injEq, Addr.mk.injEq] at hv
    obtain ⟨⟨rfl, _, _⟩, _, rfl⟩ := hv
    exact .inr ⟨g, cap, cur, rfl, hg, hh, by omega, hx, hs, by rw [← ht, List.take_take, Nat.min_eq_left hms]⟩
theorem Lw.alloc {w : World} {e : TypeId} {s n : Nat} {v : Value} {xs : List Value} (h : Lw w e s v n xs) (o : Obj) : Lw (w.alloc o) e s v n xs := Lw.be h ((Below.refl _ _).alloc (Nat.le_refl _) _)
theorem Lw.drew {w : World} {e : TypeId} {s n : Nat} {v : Value} {xs : List Value} (h : Lw w e s v n xs) : Lw w.drew e s v n xs := h
theorem fw_take (ss : List Nat) (x : Nat) : (fw (ss ++ [x])).take (ss.length * 4) = fw ss := by
  rw [fw_app, List.take_append_of_le_length (by rw [fw_len]; exact Nat.le_refl _), List.take_of_length_le (by rw [fw_len]; exact Nat.le_refl _)]
/-- A run, in memory. -/
structure Rn (k0 w0 w : World) (r T gs n : Nat) (pl : Value) (C : List Value) (h av stk : Value) (ss : List Nat) (l nx : Nat) (an : List Value) (ls : List Ins) (ags : List Nat) : Prop where
  row : Row w r (rc T pl (.slice (some ⟨gs, 0, none⟩) n n) C h stk l nx an) 78
  clen : C.length = 48
  alen : an.length = 4
  st : Lw w 29 4 stk ss.length (fw ss)
  tab : Row w T mtab 72
  prg : Lw w 64 7 pl ls.length (fl ls)
  sta : Row w gs (vI (sts ls n)) 3
  cargs : C[45]? = some av
  arg : Lw w 29 4 av ags.length (fw ags)
  apart : ∀ g, stk.ownBlock = some g → av.ownBlock ≠ some g
  be : Below w0.heap.size w0 w
  rlo : w0.heap.size ≤ r
  slo : ∀ g, stk.ownBlock = some g → w0.heap.size ≤ g
  kp : ∀ {b : Nat} {cs : List Value} {t : TypeId}, t ≠ 78 → t ≠ 29 → Row k0 b cs t → Row w b cs t
section
variable {k0 w0 w w' : World} {r T gs n : Nat} {pl : Value} {C : List Value} {h av stk : Value} {ss : List Nat} {l nx : Nat} {an : List Value} {ls : List Ins} {ags : List Nat}
theorem Rn.keep (H : Rn k0 w0 w r T gs n pl C h av stk ss l nx an ls ags) (k : Below w.heap.size w w') : Rn k0 w0 w' r T gs n pl C h av stk ss l nx an ls ags :=
  ⟨Row.below H.row k H.row.lt, H.clen, H.alen, Lw.be H.st k, Row.below H.tab k H.tab.lt, Lw.be H.prg k, Row.below H.sta k H.sta.lt, H.cargs, Lw.be H.arg k, H.apart, H.be.trans (k.mono H.be.size), H.rlo, H.slo, fun h1 h2 q => Row.below (H.kp h1 h2 q) k (H.kp h1 h2 q).lt⟩
theorem Rn.rebase (H : Rn k0 w0 w r T gs n pl C h av stk ss l nx an ls ags) : Rn w w0 w r T gs n pl C h av stk ss l nx an ls ags :=
  ⟨H.row, H.clen, H.alen, H.st, H.tab, H.prg, H.sta, H.cargs, H.arg, H.apart, H.be, H.rlo, H.slo, fun _ _ q => q⟩
theorem Rn.drewN (H : Rn k0 w0 w r T gs n pl C h av stk ss l nx an ls ags) (k : Nat) : Rn k0 w0 (w.drewN k) r T gs n pl C h av stk ss l nx an ls ags :=
  ⟨H.row, H.clen, H.alen, H.st, H.tab, H.prg, H.sta, H.cargs, H.arg, H.apart, below_drewN H.be k, H.rlo, H.slo, H.kp⟩
/-- The run's own cells written over. -/
theorem Rn.over (H : Rn k0 w0 w r T gs n pl C h av stk ss l nx an ls ags) (k : Gro (· = r) w w') {l2 nx2 : Nat} {an2 : List Value} (ha : an2.length = 4) (q : Row w' r (rc T pl (.slice (some ⟨gs, 0, none⟩) n n) C h stk l2 nx2 an2) 78) : Rn k0 w0 w' r T gs n pl C h av stk ss l2 nx2 an2 ls ags :=
  ⟨q, H.clen, ha, Lw.gro H.st k (Lw.ne H.st H.row (by decide)), k.row H.tab (row_ne2 H.tab H.row (by decide)), Lw.gro H.prg k (Lw.ne H.prg H.row (by decide)), k.row H.sta (row_ne2 H.sta H.row (by decide)), H.cargs, Lw.gro H.arg k (Lw.ne H.arg H.row (by decide)), H.apart, H.be.trans (k.to_below H.be.size (fun g e => by rw [e]; exact H.rlo)), H.rlo, H.slo, fun h1 h2 q => k.row (H.kp h1 h2 q) (row_ne2 (H.kp h1 h2 q) H.row h1)⟩
/-- The stack turned: its old block written into, the run's cell written over. -/
theorem Rn.stack (H : Rn k0 w0 w r T gs n pl C h av stk ss l nx an ls ags) {w2 : World} {stk2 : Value} {ss2 : List Nat} (k : w.grownBy w2 stk.ownBlock) (k2 : Gro (· = r) w2 w') (o : stk2.ownBlock = stk.ownBlock ∨ ∃ g, stk2.ownBlock = some g ∧ w.heap.size ≤ g) (q : Row w' r (rc T pl (.slice (some ⟨gs, 0, none⟩) n n) C h stk2 l nx an) 78) (hs : Lw w2 29 4 stk2 ss2.length (fw ss2)) : Rn k0 w0 w' r T gs n pl C h av stk2 ss2 l nx an ls ags := by
  have r2 : Row w2 r (rc T pl (.slice (some ⟨gs, 0, none⟩) n n) C h stk l nx an) 78 := row_gb H.row k (some_ne (Lw.ne H.st H.row (by decide)))
  have hneI : ∀ g, stk.ownBlock = some g → ∀ {b : Nat} {cs : List Value} {t : TypeId}, Row w b cs t → t ≠ 29 → g ≠ b := fun g e b cs t rr ht => Lw.ne H.st rr ht g e
  have hp : ∀ g, pl.ownBlock = some g → some g ≠ stk.ownBlock := fun g e q => by
    obtain ⟨_, h2⟩ := H.prg
    rcases h2 with ⟨h2, _⟩ | ⟨g', cap, cur, hv, hg, hh, _⟩
    · rw [h2] at e; cases e
    · rw [hv] at e
      obtain rfl : g' = g := by simpa [Value.ownBlock] using e
      have rr : Row w g' cur.toList 64 := by unfold Row; simpa using hh
      exact hneI g' q.symm rr (by decide) rfl
  refine ⟨q, H.clen, H.alen, Lw.gro hs k2 (Lw.ne hs r2 (by decide)), k2.row (row_gb H.tab k (some_ne (Lw.ne H.st H.tab (by decide)))) (row_ne2 H.tab H.row (by decide)), Lw.gro (Lw.block H.prg fun g e => k.block g (Lw.lt H.prg g e) (hp g e)) k2 (Lw.ne H.prg H.row (by decide)), k2.row (row_gb H.sta k (some_ne (Lw.ne H.st H.sta (by decide)))) (row_ne2 H.sta H.row (by decide)), H.cargs, Lw.gro (Lw.block H.arg fun g e => k.block g (Lw.lt H.arg g e) (fun q => H.apart g q.symm e)) k2 (Lw.ne H.arg H.row (by decide)), ?_, ?_, H.rlo, ?_, fun h1 h2 q => k2.row (row_gb (H.kp h1 h2 q) k (some_ne (Lw.ne H.st (H.kp h1 h2 q) h2))) (row_ne2 (H.kp h1 h2 q) H.row h1)⟩
  · intro g e q2
    rcases o with o | ⟨g2, o, hg2⟩
    · exact H.apart g (by rw [← o]; exact e) q2
    · rw [o] at e; cases e
      have := Lw.lt H.arg _ q2
      omega
  · exact (below_gb H.be k H.slo).trans (k2.to_below (Nat.le_trans H.be.size k.size) (fun g e => by rw [e]; exact H.rlo))
  · intro g e
    rcases o with o | ⟨g2, o, hg2⟩
    · exact H.slo g (by rw [← o]; exact e)
    · rw [o] at e; cases e
      exact Nat.le_trans H.be.size hg2
end

end Go.Proofs.Ytdlmighfmkhpkaa
