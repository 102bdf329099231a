/-
  TreeLogs: what the callees do at three logs side by side.
-/
import Derived.Test.YtkgfaioinajkjaaDoorTlD
namespace Go.Proofs.YtkgfaioinajkjaaDoor
open Go Go.RowKit
open Sha

/-- The program's logs are the document's. -/
def E3 (s : S3) : Prop := ∀ k, k < 3 → s.m k = s.n k ∧ s.G k = s.F k ∧ (s.F k).length = pc (s.n k) ∧ s.n k ≤ 1099511627776
structure Tb (w : World) : Prop where
  giv : Given w
  d64 : TabAt 1 Lib.deBruijn64tab w
  lt : 1 < w.heap.size
/-- Rows that no log owns are kept. -/
def Kq (w w' : World) : Prop := ∀ g cs t, t ≠ tL → t ≠ 42 → Row w g cs t → Row w' g cs t
theorem E3.len {s : S3} (h : E3 s) (k : Nat) (hk : k < 3) : (s.F k).length ≤ 41 := by rw [(h k hk).2.2.1]; exact pc_le41 _ (h k hk).2.2.2
section
variable {w0 : World} {bt bd : Nat} {s : S3}
theorem T3.cp {X : World} (h : T3 w0 X bt bd s) (k : Nat) (hk : k < 3) : X.cell? ⟨bt, k, none⟩ = some (.pointer (some ⟨s.p k, 0, none⟩)) := h.rt.cell k _ (tcs_at _ _ hk)
theorem T3.cm {X : World} (h : T3 w0 X bt bd s) (k : Nat) (hk : k < 3) : X.cell? ⟨bd, k * 2, none⟩ = some (.int .i64 (s.m k : Int)) := h.rd.cell (k * 2) _ (dcs_m _ _ _ hk)
theorem T3.cu {X : World} (h : T3 w0 X bt bd s) (k : Nat) (hk : k < 3) : X.cell? ⟨bd, k * 2 + 1, none⟩ = some (s.u k) := h.rd.cell (k * 2 + 1) _ (dcs_u _ _ _ hk)
theorem T3.rg {X : World} (h : T3 w0 X bt bd s) (k : Nat) (hk : k < 3) : X.rangeAt bd (k * 2) [.int .i64 (s.m k : Int), s.u k] := fun j u hj => by
  match j, hj with
  | 0, hj => simp at hj; subst hj; exact h.cm k hk
  | 1, hj => simp at hj; subst hj; exact h.cu k hk
  | j + 2, hj => simp at hj
theorem T3.uform {X : World} (h : T3 w0 X bt bd s) (hE : E3 s) (k : Nat) (hk : k < 3) : ∃ A c, s.u k = .slice A (s.F k).length c := by
  obtain ⟨A, c, e, _⟩ := Ow.form (h.dg k hk).1
  rw [(hE k hk).2.1] at e
  exact ⟨A, c, e⟩
theorem T3.pat {X : World} (h : T3 w0 X bt bd s) (hE : E3 s) (k : Nat) (hk : k < 3) : PAt X (s.u k) (s.F k) := by
  have := Ow.pat (h.dg k hk).1 (h.dg k hk).2
  rw [(hE k hk).2.1] at this
  exact this
theorem t_size (k : Nat) (hk : k < 3) (X : World) (h : T3 w0 X bt bd s) : Calls Tryd.prog 11 #[.pointer (some ⟨s.p k, 0, none⟩)] X fun e w' => e = .returned (.int .i64 (s.n k : Int)) ∧ w' = X := lsize_any _ _ _ X (h.lg k hk).row
theorem t_front (hE : E3 s) (k : Nat) (hk : k < 3) (L : Nat) (hL : L = (s.F k).length) (X : World) (h : T3 w0 X bt bd s) : Calls Tryd.prog 14 #[.pointer (some ⟨s.p k, 0, none⟩)] X fun e w' => ∃ A c, e = .returned (.slice A L c) ∧ Ow w' (.slice A L c) L (vB (s.F k).flatten) ∧ Fresh X.heap.size (.slice A L c) ∧ Below X.heap.size X w' := by
  refine (lfront_any _ _ _ _ (by have := hE.len k hk; omega) X (h.lg k hk)).mono ?_
  rintro e w' ⟨v, h1, h2, h3, h4⟩
  subst hL
  obtain ⟨A, c, e9, _⟩ := Ow.form h2
  subst e9
  exact ⟨A, c, h1, h2, h3, h4⟩
theorem t_same (hE : E3 s) (k : Nat) (hk : k < 3) (L : Nat) (hL : L = (s.F k).length) (A B : Option Addr) (ca cb : Nat) (hu : s.u k = .slice B L cb) (X : World) (h : T3 w0 X bt bd s) (ho : Ow X (.slice A L ca) L (vB (s.F k).flatten)) : Calls Tryd.prog 15 #[.slice A L ca, .slice B L cb] X fun e w' => e = .returned (.bool true) ∧ Below X.heap.size X w' := by
  have hp := h.pat hE k hk
  rw [hu] at hp
  subst hL
  exact same_any (s.F k) _ rfl (by have := hE.len k hk; omega) A B ca cb X (Ow.pat ho (h.lg k hk).dl) hp
theorem t_owned (hE : E3 s) (k : Nat) (hk : k < 3) (L : Nat) (hL : L = (s.F k).length) (A B : Option Addr) (ca cb : Nat) (xa xb : List Value) (X0 X : World) (h : T3 w0 X0 bt bd s) (hB : Below X0.heap.size X0 X) (oa : Ow X (.slice A L ca) L xa) (ob : Ow X (.slice B L cb) L xb) (fa : Fresh X0.heap.size (.slice A L ca)) (fb : Fresh X0.heap.size (.slice B L cb)) (ap : Ap (.slice A L ca) (.slice B L cb)) :
    Calls Tryd.prog 16 #[.slice A L ca, .slice B L cb] X fun e w' => e = .returned (.bool true) ∧ T3 w0 w' bt bd s := by
  have h41 := hE.len k hk
  refine (owned_any L L (by omega) (by omega) _ _ rfl rfl A B ca cb xa xb X oa ob ap).mono ?_
  rintro e w' ⟨h1, h2, h3, h4⟩
  exact ⟨h1, h.keep (hB.trans (h4.to_below hB.size (fun g q => q.elim (fa g) (fb g))))⟩
/-- The roots that the two sides answer are one. -/
theorem t_roots (hT : Tb w0) (hE : E3 s) (k : Nat) (hk : k < 3) (h9 : ∃ X, T3 w0 X bt bd s) : ∃ dd : List (BitVec 8), dd.length = 32 ∧ (∀ X, T3 w0 X bt bd s → Calls Tryd.prog 12 #[.pointer (some ⟨s.p k, 0, none⟩)] X fun e w' => e = .returned (.agg (vB dd).toArray) ∧ Below X.heap.size X w')
    ∧ ∀ X (LG : List Value), LG = [.int .i64 (s.m k : Int), s.u k] → T3 w0 X bt bd s → Calls Tryd.prog 13 #[.agg LG.toArray] X fun e w' => e = .returned (.agg (vB dd).toArray) ∧ Below X.heap.size X w' := by
  have h41 := hE.len k hk
  obtain ⟨X9, h9⟩ := h9
  rcases List.eq_nil_or_concat (s.F k) with hF | ⟨G, z, hF⟩
  · refine ⟨dig [], dig_length _, fun X h => ?_, fun X LG hLG h => ?_⟩
    · have hl := h.lg k hk
      rw [hF] at hl
      obtain ⟨A, c, e, _⟩ := Ow.form hl.own
      rw [e] at hl
      exact lroot_nil (s.p k) _ A c _ rfl X (hT.giv.low h.be).cub hl.row
    · obtain ⟨A, c, e⟩ := h.uform hE k hk
      rw [hF] at e
      exact rlroot_nil _ A c LG (by rw [hLG, e]; rfl) _ rfl X (hT.giv.low h.be)
  · replace hF : s.F k = G ++ [z] := by rw [hF, List.concat_eq_append]
    rw [hF, List.length_append] at h41
    have h32 : ∀ d ∈ G ++ [z], d.length = 32 := by have := (h9.lg k hk).dl; rw [hF] at this; exact this
    refine ⟨G.foldr nd z, fold_len G z (h32 z (by simp)), fun X h => ?_, fun X LG hLG h => ?_⟩
    · have hl := h.lg k hk
      rw [hF] at hl
      exact lroot_some (s.p k) _ _ G z G.length rfl (by omega) _ rfl X (hT.giv.low h.be).cub hl
    · have ho := (h.dg k hk).1
      rw [(hE k hk).2.1, hF, List.length_append] at ho
      exact rlroot_some _ G z G.length rfl (by omega) _ rfl h32 (s.u k) LG hLG X (hT.giv.low h.be) ho
/-- What a log is behind an Add. -/
def Nx (n : Nat) (F : List (List (BitVec 8))) (p0 : List (BitVec 8)) (n1 : Nat) (F1 : List (List (BitVec 8))) (r : Int) : Prop :=
  (n < 1099511627776 ∧ n1 = n + 1 ∧ F1 = addF (t1 n) F p0 ∧ r = (n : Int)) ∨ (n = 1099511627776 ∧ n1 = n ∧ F1 = F ∧ r = -1)
theorem nx_is (n : Nat) (hn : n ≤ 1099511627776) (F : List (List (BitVec 8))) (p0 : List (BitVec 8)) : ∃ n1 F1 r, Nx n F p0 n1 F1 r := by
  by_cases h : n < 1099511627776
  · exact ⟨_, _, _, .inl ⟨h, rfl, rfl, rfl⟩⟩
  · exact ⟨_, _, _, .inr ⟨by omega, rfl, rfl, rfl⟩⟩
theorem Nx.ok {n n1 : Nat} {F F1 : List (List (BitVec 8))} {p0 : List (BitVec 8)} {r : Int} (h : Nx n F p0 n1 F1 r) (hF : F.length = pc n) : F1.length = pc n1 ∧ n1 ≤ 1099511627776 := by
  rcases h with ⟨h1, h2, h3, _⟩ | ⟨h1, h2, h3, _⟩
  · subst h2 h3
    have a := addF_len (t1 n) F p0 (by rw [hF]; exact t1_le n)
    have b := pc_next n
    exact ⟨by omega, by omega⟩
  · subst h2 h3
    exact ⟨hF, by omega⟩
theorem up_self {α : Type} (f : Nat → α) (k : Nat) : up f k (f k) = f := by
  funext i
  unfold up
  split
  · next h => rw [h]
  · rfl
theorem upL_self (s : S3) (k : Nat) : s.upL k (s.n k) (s.v k) (s.F k) = s := by
  unfold S3.upL
  rw [up_self, up_self, up_self]
theorem t_add (hT : Tb w0) (hE : E3 s) (k : Nat) (hk : k < 3) (d p0 : List (BitVec 8)) (hp0 : p0 = dig ([0#8] ++ d)) (hd : d.length < 1152921504606846975) (n1 : Nat) (F1 : List (List (BitVec 8))) (r : Int) (hN : Nx (s.n k) (s.F k) p0 n1 F1 r) (lv : Value) (X : World) (h : T3 w0 X bt bd s) (hlv : SlAt X lv d) :
    Calls Tryd.prog 8 #[.pointer (some ⟨s.p k, 0, none⟩), lv] X fun e w' => ∃ v', e = .returned (.int .i64 r) ∧ T3 w0 w' bt bd (s.upL k n1 v' F1) ∧ Kq X w' := by
  have h41 := hE.len k hk
  rcases hN with ⟨a1, a2, a3, a4⟩ | ⟨a1, a2, a3, a4⟩
  · subst a2 a3 a4
    refine (ladd_any w0.heap.size (s.p k) (s.n k) (s.v k) (s.F k) (by omega) a1 (by rw [(hE k hk).2.2.1]; exact t1_le _) (h.lo k hk).1 (h.lo k hk).2 hT.giv.cub.lt hT.lt lv d p0 hp0 hd X h.be.size (hT.giv.low h.be).cub (fun j hj => (h.be.cell (p := ⟨1, j, none⟩) hT.lt).trans (hT.d64 j hj)) hlv (h.lg k hk)).mono ?_
    rintro e w' ⟨h1, v', h2, h3, h4⟩
    refine ⟨v', h1, h.add k hk _ v' _ h2 h3 h4, fun g cs t t1 t2 hr => h4.row hr (fun q => ?_)⟩
    rcases q with q | q
    · subst q; exact t1 (lrow_ty hr (h.lg k hk).row)
    · obtain ⟨cs2, r2⟩ := ow_brow (h.lg k hk).own q
      exact t2 (lrow_ty hr r2)
  · subst a2 a3 a4
    refine (ladd_end (s.p k) (s.n k) (s.v k) lv (by omega) X (h.lg k hk).row).mono ?_
    rintro e w' ⟨h1, h2⟩
    subst h2
    exact ⟨s.v k, h1, by rw [upL_self]; exact h, fun g cs t _ _ hr => hr⟩
/-- The document's Add. -/
theorem t_dadd (hT : Tb w0) (k : Nat) (hk : k < 3) (n L : Nat) (A : Option Addr) (c : Nat) (F : List (List (BitVec 8))) (hm : s.m k = n) (hu : s.u k = .slice A L c) (hG : s.G k = F) (hL : L = F.length) (hF : F.length = pc n) (hn : n ≤ 1099511627776) (d p0 : List (BitVec 8)) (hp0 : p0 = dig ([0#8] ++ d)) (Al : Option Addr) (nl cl : Nat) (hd : d.length = nl) (hl : nl + 1 ≤ 140737488355000) (hnil : Al = none → cl = 0) (n1 L1 : Nat) (F1 : List (List (BitVec 8))) (r : Int) (hN : Nx n F p0 n1 F1 r) (hL1 : L1 = F1.length) (LG : List Value) (hLG : LG = [.int .i64 (n : Int), .slice A L c]) (X : World) (h : T3 w0 X bt bd s) (hlv : SlAt X (.slice Al nl cl) d) :
    Calls Tryd.prog 10 #[.agg LG.toArray, .slice Al nl cl] X fun e w' => ∃ A' c', e = .returned (.tuple #[.agg #[.int .i64 (n1 : Int), .slice A' L1 c'], .int .i64 r]) ∧ Ow w' (.slice A' L1 c') L1 (vB F1.flatten) ∧ (∀ d ∈ F1, d.length = 32) ∧ (Fresh X.heap.size (.slice A' L1 c') ∨ .slice A' L1 c' = s.u k) ∧ Below X.heap.size X w' := by
  have h41 := pc_le41 n hn
  have ho := h.dg k hk
  rw [hG, hu] at ho
  rcases hN with ⟨a1, a2, a3, a4⟩ | ⟨a1, a2, a3, a4⟩
  · subst a2 a3 a4 hL
    have hp := Ow.pat ho.1 ho.2
    refine (radd_ok n a1 A F.length c F rfl (by rw [hF]; exact t1_le _) (by omega) LG hLG Al nl cl d p0 hp0 hd hl hnil L1 hL1 X (hT.giv.low h.be) hlv hp).mono ?_
    rintro e w' ⟨A', c', h1, h2, h3, h4⟩
    exact ⟨A', c', h1, h2, addF_32 _ _ _ ho.2 (by rw [hp0]; exact dig_length _), .inl h3, h4⟩
  · subst a2 a3 a4 hL
    refine (radd_end n1 (by omega) A F1.length c LG hLG _ X).mono ?_
    rintro e w' ⟨h1, h2⟩
    subst hL1
    exact ⟨A, c, by rw [h1, hLG], ho.1.be h2, ho.2, .inr hu.symm, h2⟩
end

theorem T3.below {w0 w w' : World} {bt bd : Nat} {s : S3} (h : T3 w0 w bt bd s) (k : Below w.heap.size w w') : T3 w0 w' bt bd s := h.keep k
theorem run_load_pl (w : World) (b f : Nat) (v : Value) (h : w.cell? ⟨b, f, none⟩ = some v) : (loadVar 24 ⟨b, f, none⟩).run Tryd.prog w = .ok v w := by
  simp [loadVar, isAgg, run_underlying Tryd.underlying24, h]
theorem run_load_by (w : World) (b f : Nat) (v : Value) (h : w.cell? ⟨b, f, none⟩ = some v) : (loadVar 31 ⟨b, f, none⟩).run Tryd.prog w = .ok v w := by
  simp [loadVar, isAgg, run_underlying Tryd.underlying31, h]
theorem run_load_df (w : World) (b f : Nat) (v : Value) (h : w.cell? ⟨b, f, none⟩ = some v) : (loadVar 26 ⟨b, f, none⟩).run Tryd.prog w = .ok v w := by
  simp [loadVar, isAgg, run_underlying Tryd.underlying26, h]
theorem run_load_in (w : World) (b f : Nat) (v : Value) (h : w.cell? ⟨b, f, none⟩ = some v) : (loadVar 3 ⟨b, f, none⟩).run Tryd.prog w = .ok v w := by
  simp [loadVar, isAgg, run_underlying Tryd.underlying3, h]
section
variable {Q : Exit → Act → World → Prop} {o : Oper} {a : Act} {w : World} {K : Act → World → Prop}
theorem wp_opf2 {x : Operand} (b : Nat) (ho : o.op = .fieldAddr 33 x 2) (hx : a.eval x = .pointer (some ⟨b, 0, none⟩)) (h : K (a.put o.dst (.pointer (some ⟨b, 2, none⟩))) w) : Oper.wp Tryd.prog o a w K Q := by
  obtain ⟨dst, op, ty, pos, after, guard⟩ := o
  simp only at ho
  subst ho
  unfold Oper.wp execOp
  simp only [hx]
  go_simp
  exact h
theorem wp_opf3 {x : Operand} (b : Nat) (ho : o.op = .fieldAddr 33 x 3) (hx : a.eval x = .pointer (some ⟨b, 0, none⟩)) (h : K (a.put o.dst (.pointer (some ⟨b, 3, none⟩))) w) : Oper.wp Tryd.prog o a w K Q := by
  obtain ⟨dst, op, ty, pos, after, guard⟩ := o
  simp only at ho
  subst ho
  unfold Oper.wp execOp
  simp only [hx]
  go_simp
  exact h
theorem wp_opf4 {x : Operand} (b : Nat) (ho : o.op = .fieldAddr 33 x 4) (hx : a.eval x = .pointer (some ⟨b, 0, none⟩)) (h : K (a.put o.dst (.pointer (some ⟨b, 4, none⟩))) w) : Oper.wp Tryd.prog o a w K Q := by
  obtain ⟨dst, op, ty, pos, after, guard⟩ := o
  simp only at ho
  subst ho
  unfold Oper.wp execOp
  simp only [hx]
  go_simp
  exact h
theorem wp_allocRL (ho : o.op = .alloc tRL) (h : K (a.put o.dst (.pointer (some ⟨w.heap.size, 0, none⟩))) (w.alloc (.cells zLg.toArray tRL))) : Oper.wp Tryd.prog o a w K Q := by
  obtain ⟨dst, op, ty, pos, after, guard⟩ := o
  simp only at ho
  subst ho
  unfold Oper.wp
  go_simp
  exact h
end
/-- What the document's Add answers. -/
def Ra (V : Nat) (L : Nat) (F : List (List (BitVec 8))) (U : Value) (W : World) (A : Option Addr) (c : Nat) : Prop := Ow W (.slice A L c) L (vB F.flatten) ∧ (∀ d ∈ F, d.length = 32) ∧ (Fresh V (.slice A L c) ∨ .slice A L c = U)
theorem Ra.be {V L c : Nat} {F : List (List (BitVec 8))} {U : Value} {W W' : World} {A : Option Addr} (h : Ra V L F U W A c) (k : Below W.heap.size W W') : Ra V L F U W' A c := ⟨h.1.be k, h.2⟩
theorem Ra.set {V L c N f : Nat} {F : List (List (BitVec 8))} {U : Value} {W : World} {A : Option Addr} {cs : List Value} (h : Ra V L F U W A c) (r : Row W N cs tRL) (vs : List Value) : Ra V L F U (W.setCells N f vs) A c := ⟨h.1.set_other (fun g e q => by
  subst q
  obtain ⟨ds, r2⟩ := ow_brow h.1 e
  exact absurd (lrow_ty r2 r) (by decide)), h.2⟩
def SP.rl (V nn L : Nat) (rr : Int) (F : List (List (BitVec 8))) (U : Value) : SP := ⟨fun W v => ∃ A c, v = .tuple #[.agg #[.int .i64 (nn : Int), .slice A L c], .int .i64 rr] ∧ Ra V L F U W A c, fun _ _ _ hB h => by
  obtain ⟨A, c, e, r⟩ := h
  exact ⟨A, c, e, r.be hB⟩⟩
def SP.ra (V nn L : Nat) (F : List (List (BitVec 8))) (U : Value) : SP := ⟨fun W v => ∃ A c, v = .agg #[.int .i64 (nn : Int), .slice A L c] ∧ Ra V L F U W A c, fun _ _ _ hB h => by
  obtain ⟨A, c, e, r⟩ := h
  exact ⟨A, c, e, r.be hB⟩⟩
/-- What the program's Resume answers. -/
def SP.rs (V m : Nat) (F : List (List (BitVec 8))) : SP := ⟨fun W v => ∃ P v', v = .tuple #[.pointer (some ⟨P, 0, none⟩), .int .i64 0] ∧ Lg W P m v' F ∧ V ≤ P ∧ Fresh V v', fun _ _ _ hB h => by
  obtain ⟨P, v', e, r, q⟩ := h
  exact ⟨P, v', e, r.be hB, q⟩⟩
def SP.rp (V m : Nat) (F : List (List (BitVec 8))) : SP := ⟨fun W v => ∃ P v', v = .pointer (some ⟨P, 0, none⟩) ∧ Lg W P m v' F ∧ V ≤ P ∧ Fresh V v', fun _ _ _ hB h => by
  obtain ⟨P, v', e, r, q⟩ := h
  exact ⟨P, v', e, r.be hB, q⟩⟩
theorem slat_lent {W : World} {y nl : Nat} {d : List (BitVec 8)} (hn : nl = d.length) (r : Row W y (vB (d ++ marks70)) 5) : SlAt W (.slice (some ⟨y, 0, none⟩) nl (nl + 70)) d := .inr ⟨y, 0, nl + 70, by rw [hn], by rw [hn]; omega, fun j v hj => r.all j v (by rw [vB_append, List.getElem?_append_left (List.getElem?_eq_some_iff.1 hj).1]; exact hj)⟩

end Go.Proofs.YtkgfaioinajkjaaDoor
