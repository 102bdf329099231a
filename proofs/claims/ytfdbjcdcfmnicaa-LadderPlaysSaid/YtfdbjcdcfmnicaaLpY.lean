/-
  LadderPlays: begun.
-/
import Derived.Test.YtfdbjcdcfmnicaaLpX
import Derived.Test.YtfdbjcdcfmnicaaLpR
import Derived.Test.YtfdbjcdcfmnicaaLaN
namespace Go.Proofs.Ytfdbjcdcfmnicaa
open Go Go.RowKit
open Sha

/-- The ladders of both kinds stand alike. -/
def Ms (Ls : List (Nat × Value × La)) (Es : List (Value × La)) : Prop := ∀ k, k < 3 → ∃ p v st e, Ls[k]? = some (p, v, st) ∧ Es[k]? = some (e, st)
theorem Ms.set {Ls : List (Nat × Value × La)} {Es : List (Value × La)} (h : Ms Ls Es) (hl : Ls.length = 3) (he : Es.length = 3) (j : Nat) (p : Nat) (v e : Value) (st : La) : Ms (Ls.set j (p, v, st)) (Es.set j (e, st)) := fun k hk => by
  by_cases z : j = k
  · subst z
    exact ⟨p, v, st, e, List.getElem?_set_self (by omega), List.getElem?_set_self (by omega)⟩
  · rw [List.getElem?_set_ne z, List.getElem?_set_ne z]
    exact h k hk
def prv (P : List Value) (Ds : List (List Value)) (T : Value) : List Value := P ++ (Ds.flatten ++ [T])
theorem prv_len {P : List Value} {Ds : List (List Value)} {T : Value} (hp : P.length = 3) (hd : Ds.length = 3) (h : ∀ d ∈ Ds, d.length = 70) : (prv P Ds T).length = 214 := by
  unfold prv
  rw [List.length_append, List.length_append, flat_len h, hp, hd]
  rfl
theorem prv_set {P : List Value} {Ds : List (List Value)} {T : Value} (hp : P.length = 3) {k : Nat} (hk : k < 3) (v : Value) : (prv P Ds T).set k v = prv (P.set k v) Ds T := by
  unfold prv
  rw [List.set_append_left _ _ (by rw [hp]; exact hk)]
theorem prv_setd {P : List Value} {Ds : List (List Value)} {T : Value} (hp : P.length = 3) (hd : Ds.length = 3) (h : ∀ d ∈ Ds, d.length = 70) {k : Nat} (hk : k < 3) (d : List Value) (hl : d.length = 70) : (prv P Ds T).take (3 + k * 70) ++ d ++ (prv P Ds T).drop (3 + k * 70 + d.length) = prv P (Ds.set k d) T := by
  have fl : Ds.flatten.length = 210 := by rw [flat_len h, hd]
  unfold prv
  rw [← flat_set h (by rw [hd]; exact hk) d, hl, show 3 + k * 70 = P.length + k * 70 by rw [hp], List.take_length_add_append, show P.length + k * 70 + 70 = P.length + (k * 70 + 70) by omega, List.drop_length_add_append, List.take_append_of_le_length (by omega), List.drop_append_of_le_length (by omega)]
  simp only [List.append_assoc]
theorem rep_put {α : Type} (A : List α) (z x : α) (n : Nat) (h : A.length < n) : (A ++ List.replicate (n - A.length) z).set A.length x = (A ++ [x]) ++ List.replicate (n - (A.length + 1)) z := by
  rw [List.set_append_right _ _ (Nat.le_refl _), Nat.sub_self]
  cases hk : n - A.length with
  | zero => omega
  | succ m => rw [List.replicate_succ, List.set_cons_zero, show n - (A.length + 1) = m by omega, List.append_assoc]; rfl
section
variable {w0 w w' X : World} {rs : List (Nat × List Value × TypeId)} {ls : List (Nat × Value × Int × La)}
theorem Hp.addE (h : Hp w0 w rs ls) (k : Below w.heap.size w w') {p : Nat} {v : Value} {B : Int} {st : La} (d : Ld w' p v B st) (hn : ∀ g, Tb p v g → w.heap.size ≤ g) : Hp w0 w' rs (ls ++ [(p, v, B, st)]) := by
  have h2 := h.addL k d hn
  have hm : ∀ l ∈ ls ++ [(p, v, B, st)], l ∈ (p, v, B, st) :: ls := fun l hl => by
    rcases List.mem_append.1 hl with z | z
    · exact List.mem_cons_of_mem _ z
    · rw [List.mem_singleton.1 z]; exact List.mem_cons_self ..
  have hp := List.pairwise_cons.1 h2.ll
  refine ⟨h2.be, h2.row, fun l hl => h2.lad l (hm l hl), fun l hl => h2.new l (hm l hl), fun r hr l hl => h2.rl r hr l (hm l hl), ?_⟩
  rw [List.pairwise_append]
  refine ⟨hp.2, List.pairwise_singleton .., fun a ha b hb g e1 e2 => ?_⟩
  rw [List.mem_singleton.1 hb] at e2
  exact hp.1 a ha g e2 e1
theorem Hp.setR {q : Nat} {cs cs' : List Value} {t : TypeId} (h : Hp w0 w ((q, cs, t) :: rs) ls) (hq : w0.heap.size ≤ q) (hne : ∀ r ∈ rs, r.1 ≠ q) (r : Row X q cs' t) (g : Gro (· = q) w X) : Hp w0 X ((q, cs', t) :: rs) ls := by
  refine ⟨h.be.trans (g.to_below h.be.size (fun k e => by rw [e]; exact hq)), fun x hx => ?_, fun l hl => (h.lad l hl).gro g (fun b tb e => ?_), h.new, fun x hx l hl => ?_, h.ll⟩
  · rcases List.mem_cons.1 hx with rfl | hx
    · exact r
    · exact g.row (h.row x (List.mem_cons_of_mem _ hx)) (hne x hx)
  · subst e
    exact h.rl (b, cs, t) (List.mem_cons_self ..) l hl tb
  · rcases List.mem_cons.1 hx with rfl | hx
    · exact h.rl (q, cs, t) (List.mem_cons_self ..) l hl
    · exact h.rl x (List.mem_cons_of_mem _ hx) l hl
end
def zPr0 : List Value := prv (List.replicate 3 (.pointer none)) (List.replicate 3 zRL) (.slice none 0 0)
theorem built_Pr0 : Try.prog.built tPr [] = some zPr0.toArray := by kernel_rfl
theorem zPr0_len : zPr0.length = 214 := by kernel_rfl
theorem zRL70 : ∀ d ∈ List.replicate 3 zRL, d.length = 70 := fun d hd => by rw [(List.mem_replicate.1 hd).2]; exact zRL_len
theorem zRL_one : zRL.toArray.all (·.oneCell') = true := by kernel_rfl
/-- The pair when t of its ladders are laid. -/
def bcs (ps : List Nat) (Lz : List Value) : List Value := prv (ps.map ptL ++ List.replicate (3 - ps.length) (.pointer none)) (List.replicate ps.length Lz ++ List.replicate (3 - ps.length) zRL) (.slice none 0 0)
theorem bcs_0 (Lz : List Value) : bcs [] Lz = zPr0 := rfl
theorem bcs70 {Lz : List Value} (h : Lz.length = 70) (a b : Nat) : ∀ d ∈ List.replicate a Lz ++ List.replicate b zRL, d.length = 70 := fun d hd => by
  rcases List.mem_append.1 hd with z | z
  · rw [(List.mem_replicate.1 z).2]; exact h
  · rw [(List.mem_replicate.1 z).2]; exact zRL_len
theorem bcs_len {ps : List Nat} {Lz : List Value} {t : Nat} (hp : ps.length = t) (ht : t ≤ 3) (h : Lz.length = 70) : (bcs ps Lz).length = 214 := by
  unfold bcs
  rw [hp]
  exact prv_len (by rw [List.length_append, List.length_map, List.length_replicate, hp]; omega) (by rw [List.length_append, List.length_replicate, List.length_replicate]; omega) (bcs70 h _ _)
theorem Ms.same {ps : List Nat} (st : La) (h : ps.length = 3) : Ms (ps.map fun p => (p, Value.slice none 0 0, st)) (List.replicate 3 (Value.slice none 0 0, st)) := fun k hk => by
  refine ⟨ps[k]'(by omega), .slice none 0 0, st, .slice none 0 0, by rw [List.getElem?_map, List.getElem?_eq_getElem (by omega)]; rfl, ?_⟩
  rw [List.getElem?_replicate]
  simp [hk]
set_option maxRecDepth 100000 in
set_option maxHeartbeats 16000000 in
theorem begun_no (c : Cm) (hc : c.Wf) (win : Int) (Lc : List Value) (hLc : Lc = c.cells) (hnew : newE c win ≠ 0) (w : World) : Calls Try.prog 15 #[.agg Lc.toArray, .int .i64 win] w fun r w' => ∃ q cs, r = .returned (.pointer (some ⟨q, 0, none⟩)) ∧ Row w' q cs tPr ∧ cs[0]? = some (.pointer none) ∧ Below w.heap.size w w' := by
  obtain ⟨E, hE⟩ : ∃ E, newE c win = E := ⟨_, rfl⟩
  have HIC : Hid ((Try.prog.info? tC).map (·.size) = some Lc.length) := by show _ = _; rw [hLc]; exact Cm.info hc
  have hE0 : E ≠ 0 := by rw [← hE]; exact hnew
  have hE1 : (E != 0) = true := by simpa using hE0
  have HNW : Hid (∀ W, Calls Try.prog 21 #[.agg Lc.toArray, .int .i64 win] W fun e w' => e = .returned (.tuple #[.pointer none, .int .i64 E]) ∧ Below W.heap.size W w') := fun W => new_no c hc win Lc hLc E hE hE0 W
  obtain ⟨Lz, hLz⟩ : ∃ M, M = zRL := ⟨_, rfl⟩
  have HZE : Hid (Lz = zRL) := hLz
  have HRN : Hid (∀ W, Calls Try.prog 55 #[.agg Lc.toArray, .int .i64 win] W fun e w' => e = .returned (.tuple #[.agg Lz.toArray, .int .i64 E]) ∧ Below W.heap.size W w') := fun W => by
    have := rnew_any c hc win Lc hLc E hE W
    rw [show newV c win = Lz by unfold newV; rw [if_neg hnew, hLz]] at this
    exact this
  have HZ70 : Hid (Lz.length = 70) := by show _ = _; rw [hLz]; exact zRL_len
  have HZN : Hid (Lz.length = zRL.length) := HZ70.out.trans zRL_len.symm
  have HZO : Hid (Lz.toArray.all (·.oneCell') = true) := by show _ = _; rw [hLz]; exact zRL_one
  have HZI : Hid ((Try.prog.info? tRL).map (·.size) = some Lz.length) := by show _ = _; rw [HZ70.out]; exact info_RL
  have HZJ : Hid ((Try.prog.info? tRL).map (·.size) = some Lz.toArray.size) := by show _ = _; rw [List.size_toArray]; exact HZI.out
  clear hLz
  clear hE hnew hc hLc
  go_enter Try.func15, Try.ntmps15
  go_upto_region 2 with (first
        | (refine wpList_bxG tC rfl (.tmp 0) rfl Lc rfl ?_; intro X0 q1 q2 q3; clear q3; have H0 : Hid (Hp w X0 [(w.heap.size, Lc, tC)] []) := (Hp.nil w).addR q2 q1 (Nat.le_refl _); have HX0 : Hid (w.heap.size ≤ X0.heap.size) := q2.size; have HR0 : Hid (Row X0 w.heap.size Lc tC) := q1; clear q1 q2; simp only [Act.put, List.setIfInBounds_toArray, List.set_cons_zero, List.set_cons_succ])
        | (refine wpList_blt rfl tPr _ rfl [] rfl zPr0 built_Pr0 ?_; simp only [Act.put, List.setIfInBounds_toArray, List.set_cons_zero, List.set_cons_succ])
        | (refine wpList_bxG tPr rfl (.tmp 11) rfl zPr0 rfl ?_; intro X1 q1 q2 q3; clear q3; have H1 : Hid (Hp w X1 [(X0.heap.size, zPr0, tPr), (w.heap.size, Lc, tC)] []) := H0.out.addR q2 q1 (Nat.le_refl _); clear q1 q2; simp only [Act.put, List.setIfInBounds_toArray, List.set_cons_zero, List.set_cons_succ]))
  obtain ⟨q, hq⟩ : ∃ q, q = X0.heap.size := ⟨_, rfl⟩
  obtain ⟨b2, hb2⟩ : ∃ b, b = w.heap.size := ⟨_, rfl⟩
  have hqw : w.heap.size ≤ q := by rw [hq]; exact HX0.out
  have hqb : b2 ≠ q := by have := HR0.out.lt; rw [hb2, hq]; omega
  rw [← hq, ← hb2] at H1 ⊢
  clear hq hb2 HX0 HR0 H0
  go_wp2_with fail
  go_loopw [6] (fun i wr => ∃ (t : Nat), t ≤ 3 ∧ i = .int .i64 (t : Int) ∧ Hid (Hp w wr [(q, zPr0, tPr), (b2, Lc, tC)] [])) (fun i _ => 3 - (intOf i).toNat)
  case atStart => exact ⟨0, Nat.zero_le _, rfl, H1.out⟩
  case round =>
    clear H1
    obtain ⟨t, ht, rfl, HH⟩ := hrel
    by_cases hlt : t < 3
    · have hlt2 : (t : Int) < 3 := by omega
      have HLT : Hid (t < 3) := hlt
      go_upto_region 6 with (first
        | (refine wpList_ldS rfl tC (.tmp 2) rfl b2 0 rfl Lc _ (HH.out.row _ (List.mem_cons_of_mem _ (List.mem_cons_self ..))).all Try.underlying25 rfl HIC.out ?_; simp only [Act.put, List.setIfInBounds_toArray, List.set_cons_zero, List.set_cons_succ])
        | (go_at_call 21; refine Calls.mono (HNW.out _) ?_; rintro e X2 ⟨rfl, q3⟩; have HH2 : Hid (Hp w X2 [(q, zPr0, tPr), (b2, Lc, tC)] []) := HH.out.below q3; clear q3))
      go_upto_region 9 with (first
        | (refine wpList_ldS rfl tC (.tmp 2) rfl b2 0 rfl Lc _ (HH2.out.row _ (List.mem_cons_of_mem _ (List.mem_cons_self ..))).all Try.underlying25 rfl HIC.out ?_; simp only [Act.put, List.setIfInBounds_toArray, List.set_cons_zero, List.set_cons_succ])
        | (go_at_call 55; refine Calls.mono (HRN.out _) ?_; rintro e X3 ⟨rfl, q3⟩; have HH3 : Hid (Hp w X3 [(q, zPr0, tPr), (b2, Lc, tC)] []) := HH2.out.below q3; clear q3)
        | (refine wpList_alRL rfl rfl ?_; intro X4 q1 q2 q3; clear q3; have HZR : Hid (Row X4 X3.heap.size zRL tRL ∧ Below X3.heap.size X3 X4) := ⟨q1, q2⟩; clear q1 q2; simp only [Act.put, List.setIfInBounds_toArray, List.set_cons_zero, List.set_cons_succ])
        | (refine wpList_stL rfl tRL (.tmp 9) (.tmp 27) rfl X3.heap.size Lz zRL tRL rfl rfl HZR.out.1 HZN.out HZI.out HZO.out ?_; intro X5 q1 q2; have HH5 : Hid (Hp w X5 ((X3.heap.size, Lz, tRL) :: [(q, zPr0, tPr), (b2, Lc, tC)]) []) := HH3.out.addR (gro_newL HZR.out.2 (Nat.le_refl _) q2) q1 (Nat.le_refl _); clear q1 q2; simp only [Act.put]))
      clear HH HH2 HH3 HZR
      obtain ⟨b9, hb9⟩ : ∃ b, b = X3.heap.size := ⟨_, rfl⟩
      rw [← hb9] at HH5 ⊢
      clear hb9
      go_upto_region 10 with (first
        | (refine wpList_plain rfl (fun _ hK => wp_ixO tL3 tLp rfl q 3 t 1 0 t rfl rfl HLT.out und_L3 info_Lp (by omega) (hK _ _ ?_)); simp only [Act.put, List.setIfInBounds_toArray, List.set_cons_zero, List.set_cons_succ])
        | (refine wpList_st1 rfl tLp (.tmp 44) (.tmp 41) rfl q t (.pointer none) (zPr0) tPr rfl rfl rfl (HH5.out.row _ (List.mem_cons_of_mem _ (List.mem_cons_self ..))) (by { rw [zPr0_len]; have := HLT.out; omega }) info_Lp rfl ?_; intro X6 q1 q2; have RQ : Hid (Row X6 q ((zPr0).set t (.pointer none)) tPr ∧ Gro (· = q) X5 X6) := ⟨q1, q2⟩; clear q1 q2; simp only [Act.put]))
      have HR6 : Hid (Row X6 q zPr0 tPr) := by
        have := RQ.out.1
        unfold zPr0 at this
        rw [prv_set (List.length_replicate ..) HLT.out, List.set_replicate_self] at this
        exact this
      obtain ⟨PC, hPC⟩ : ∃ M, M = zPr0 := ⟨_, rfl⟩
      have HPC : Hid (PC = zPr0) := hPC
      have HH6 : Hid (Hp w X6 [(q, PC, tPr), (b2, Lc, tC), (b9, Lz, tRL)] []) := by
        have h5 : Hp w X5 ((q, zPr0, tPr) :: [(b2, Lc, tC), (b9, Lz, tRL)]) [] := HH5.out.dropR (fun r hr => by
          simp only [List.mem_cons, List.not_mem_nil, or_false] at hr ⊢
          rcases hr with z | z | z
          · exact .inr (.inl z)
          · exact .inr (.inr z)
          · exact .inl z)
        rw [hPC]
        refine h5.setR hqw (fun r hr => ?_) HR6.out RQ.out.2
        rcases List.mem_cons.1 hr with rfl | hr
        · exact hqb
        · rw [List.mem_singleton.1 hr]
          exact rows_ne (HH5.out.row _ (List.mem_cons_self ..)) (HH5.out.row _ (List.mem_cons_of_mem _ (List.mem_cons_self ..))) (show tRL ≠ tPr by decide)
      have rq : Row X6 q PC tPr := HH6.out.row _ (List.mem_cons_self ..)
      have r9 : Row X6 b9 Lz tRL := HH6.out.row _ (List.mem_cons_of_mem _ (List.mem_cons_of_mem _ (List.mem_cons_self ..)))
      have hne : b9 ≠ q := rows_ne r9 rq (by decide)
      have HPN : Hid (3 + t * 70 + Lz.toArray.size ≤ PC.length) := by show _ ≤ _; rw [List.size_toArray, HZ70.out, hPC, zPr0_len]; have := HLT.out; omega
      have gQ : Gro (· = q) X6 X6 := Gro.refl _ _
      have hb1 : Below w.heap.size w X6 := HH6.out.be
      clear hPC HH5 HR6 RQ
      refine wp_named fun a0 ha0 => ?_
      have hsz : a0.tmps.size = 52 := by rw [ha0]; rfl
      have zs5 : a0.eval (.tmp 5) = .pointer (some ⟨q, 0, none⟩) := by rw [ha0]; rfl
      have zs6 : a0.eval (.tmp 6) = .int .i64 (t : Int) := by rw [ha0]; rfl
      have zs9 : a0.eval (.tmp 9) = .pointer (some ⟨b9, 0, none⟩) := by rw [ha0]; rfl
      obtain ⟨D, hD⟩ : ∃ D : List (Tmp × SP), D = [(45, SP.is (.pointer (some ⟨q, 0, none⟩))), (46, SP.is (.int .i64 (t : Int))), (47, SP.is (.agg Lz.toArray)), (48, SP.is (.pointer (some ⟨q, 0, none⟩))), (49, SP.is (.pointer (some ⟨q, 3, none⟩))), (50, SP.is (.pointer (some ⟨q, 3 + t * 70, none⟩))), (1000, SP.any)] := ⟨_, rfl⟩
      refine wp_region_down (by kernel_rfl) (fun listed ac W => listed.size = 7 ∧ Fp D a0 listed ac W ∧ Below w.heap.size w W ∧ Row W q (if listed.getD 6 false = true then (PC.take (3 + t * 70) ++ Lz ++ PC.drop (3 + t * 70 + Lz.length)) else PC) tPr ∧ Row W b9 Lz tRL ∧ Gro (· = q) X6 W) ?_ ?_ ?_
      · exact ⟨by simp, Fp.start D a0 _ _, Below.drew hb1, (by rw [if_neg (fun h => start_no h)]; exact Row.drew rq), Row.drew r9, gQ.below (Below.drew (Below.refl _ _))⟩
      · clear ha0 hb1 rq r9 gQ 
        intro listed ac W k hI hdn hk
        obtain ⟨hl, hF, hb1, rq, r9, gQ⟩ := hI
        have hk1 : k < 7 := List.mem_range.1 (List.mem_filter.1 hk).1
        have hl2 : ∀ j, (listed.setIfInBounds j true).size = 7 := fun j => by rw [Array.size_setIfInBounds]; exact hl
        rcases (show k = 0 ∨ k = 1 ∨ k = 2 ∨ k = 3 ∨ k = 4 ∨ k = 5 ∨ k = 6 by omega) with rfl | rfl | rfl | rfl | rfl | rfl | rfl
        · have hk3 := hk
          exact wpOp_plain rfl rfl (wp_move_v (ac.eval (.tmp 5)) rfl rfl ⟨hl2 0, (hF.put 0 45 (SP.is (.pointer (some ⟨q, 0, none⟩))) (ac.eval (.tmp 5)) (by rw [hD]; rfl) (((hF.keep 5 (by rw [hD]; rfl)).trans zs5)) (by rw [hD]; rfl) (by rw [hsz]; decide) (by rw [hl]; decide)), hb1, (by rw [getD_set _ _ _ (by decide)]; exact rq), r9, gQ⟩)
        · have hk3 := hk
          exact wpOp_plain rfl rfl (wp_move_v (ac.eval (.tmp 6)) rfl rfl ⟨hl2 1, (hF.put 1 46 (SP.is (.int .i64 (t : Int))) (ac.eval (.tmp 6)) (by rw [hD]; rfl) (((hF.keep 6 (by rw [hD]; rfl)).trans zs6)) (by rw [hD]; rfl) (by rw [hsz]; decide) (by rw [hl]; decide)), hb1, (by rw [getD_set _ _ _ (by decide)]; exact rq), r9, gQ⟩)
        · have hk3 := hk
          exact wpOp_plain rfl rfl (wp_load_mid tRL (.tmp 9) rfl b9 0 ((hF.keep 9 (by rw [hD]; rfl)).trans zs9) Lz _ r9.all Try.underlying44 rfl HZI.out ⟨hl2 2, (hF.put 2 47 (SP.is (.agg Lz.toArray)) (.agg Lz.toArray) (by rw [hD]; rfl) rfl (by rw [hD]; rfl) (by rw [hsz]; decide) (by rw [hl]; decide)), hb1, (by rw [getD_set _ _ _ (by decide)]; exact rq), r9, gQ⟩)
        · have hk3 := hk
          have ea := (hF.done 0 (45, SP.is (.pointer (some ⟨q, 0, none⟩))) (by rw [hD]; rfl) (ready_dep hk 0 (by kernel_rfl)))
          exact wpOp_plain rfl rfl (wp_nilL rfl q ea ⟨hl2 3, (hF.put 3 48 (SP.is (.pointer (some ⟨q, 0, none⟩))) (.pointer (some ⟨q, 0, none⟩)) (by rw [hD]; rfl) rfl (by rw [hD]; rfl) (by rw [hsz]; decide) (by rw [hl]; decide)), hb1, (by rw [getD_set _ _ _ (by decide)]; exact rq), r9, gQ⟩)
        · have hk3 := hk
          have ea := (hF.done 3 (48, SP.is (.pointer (some ⟨q, 0, none⟩))) (by rw [hD]; rfl) (ready_dep hk 3 (by kernel_rfl)))
          exact wpOp_plain rfl rfl (wp_fPr1 rfl q ea ⟨hl2 4, (hF.put 4 49 (SP.is (.pointer (some ⟨q, 3, none⟩))) (.pointer (some ⟨q, 3, none⟩)) (by rw [hD]; rfl) rfl (by rw [hD]; rfl) (by rw [hsz]; decide) (by rw [hl]; decide)), hb1, (by rw [getD_set _ _ _ (by decide)]; exact rq), r9, gQ⟩)
        · have hk3 := hk
          have ea := (hF.done 4 (49, SP.is (.pointer (some ⟨q, 3, none⟩))) (by rw [hD]; rfl) (ready_dep hk 4 (by kernel_rfl)))
          have eb := (hF.done 1 (46, SP.is (.int .i64 (t : Int))) (by rw [hD]; rfl) (ready_dep hk 1 (by kernel_rfl)))
          exact wpOp_plain rfl rfl (wp_ixO tR3 tRL rfl q 3 t 70 3 (3 + t * 70) ea eb HLT.out und_R3 info_RL rfl ⟨hl2 5, (hF.put 5 50 (SP.is (.pointer (some ⟨q, 3 + t * 70, none⟩))) (.pointer (some ⟨q, 3 + t * 70, none⟩)) (by rw [hD]; rfl) rfl (by rw [hD]; rfl) (by rw [hsz]; decide) (by rw [hl]; decide)), hb1, (by rw [getD_set _ _ _ (by decide)]; exact rq), r9, gQ⟩)
        · have hk3 := hk
          have hno : ¬ listed.getD 6 false = true := not_yet hk
          rw [if_neg hno] at rq
          have T := rq.there (3 + t * 70) Lz.toArray.size HPN.out
          have fin := Row.setCells (3 + t * 70) Lz rq (by have := HPN.out; rwa [List.size_toArray] at this)
          have hT : Fp D a0 listed ac (W.setCells q (3 + t * 70) Lz) := hF.turn (by rw [hD]; simp only [List.forall_mem_cons, List.not_mem_nil, false_implies, implies_true, and_true]; exact ⟨fun _ h => h, fun _ h => h, fun _ h => h, fun _ h => h, fun _ h => h, fun _ h => h, fun _ h => h⟩)
          exact wpOp_plain rfl rfl (wp_store_mid tRL (.tmp 50) (.tmp 47) rfl q (3 + t * 70) Lz.toArray (hF.done 5 (50, SP.is (.pointer (some ⟨q, 3 + t * 70, none⟩))) (by rw [hD]; rfl) (ready_dep hk 5 (by kernel_rfl))) (hF.done 2 (47, SP.is (.agg Lz.toArray)) (by rw [hD]; rfl) (ready_dep hk 2 (by kernel_rfl))) T HZJ.out HZO.out ⟨hl2 6, (hT.skip 6 1000 (by rw [hD]; rfl) (by rw [hl]; decide)), below_setCells hb1 (by omega) _, (by rw [if_pos (getD_same (by rw [hl]; decide))]; exact fin), Row.setCells_other r9 _ _ _ (by omega), gQ.trans (gro_setsL W q (3 + t * 70) Lz)⟩)
      · clear hb1 rq r9 gQ 
        intro listed ac W hI hr
        obtain ⟨hl, hF, hb1, rq, r9, gQ⟩ := hI
        have hall := all_listed (by kernel_rfl) hl hr
        rw [if_pos (hall 6 (by decide))] at rq
        have h45 : ac.eval (.tmp 45) = .pointer (some ⟨q, 0, none⟩) := hF.done 0 (45, SP.is (.pointer (some ⟨q, 0, none⟩))) (by rw [hD]; rfl) (hall 0 (by decide))
        have h46 : ac.eval (.tmp 46) = .int .i64 (t : Int) := hF.done 1 (46, SP.is (.int .i64 (t : Int))) (by rw [hD]; rfl) (hall 1 (by decide))
        have h47 : ac.eval (.tmp 47) = .agg Lz.toArray := hF.done 2 (47, SP.is (.agg Lz.toArray)) (by rw [hD]; rfl) (hall 2 (by decide))
        have h48 : ac.eval (.tmp 48) = .pointer (some ⟨q, 0, none⟩) := hF.done 3 (48, SP.is (.pointer (some ⟨q, 0, none⟩))) (by rw [hD]; rfl) (hall 3 (by decide))
        have h49 : ac.eval (.tmp 49) = .pointer (some ⟨q, 3, none⟩) := hF.done 4 (49, SP.is (.pointer (some ⟨q, 3, none⟩))) (by rw [hD]; rfl) (hall 4 (by decide))
        have h50 : ac.eval (.tmp 50) = .pointer (some ⟨q, 3 + t * 70, none⟩) := hF.done 5 (50, SP.is (.pointer (some ⟨q, 3 + t * 70, none⟩))) (by rw [hD]; rfl) (hall 5 (by decide))
        have ea := hF.lay [(45, .pointer (some ⟨q, 0, none⟩)), (46, .int .i64 (t : Int)), (47, .agg Lz.toArray), (48, .pointer (some ⟨q, 0, none⟩)), (49, .pointer (some ⟨q, 3, none⟩)), (50, .pointer (some ⟨q, 3 + t * 70, none⟩))] (by rw [hD, hsz]; rfl) (by simp only [List.forall_mem_cons, List.not_mem_nil, false_implies, implies_true, and_true]; exact ⟨h45, h46, h47, h48, h49, h50⟩)
        rw [ha0] at ea
        simp only [List.foldl_cons, List.foldl_nil, List.setIfInBounds_toArray, List.set_cons_zero, List.set_cons_succ] at ea
        clear hF hall hr hl hD  zs5 zs6 zs9 ha0 hsz h45 h46 h47 h48 h49 h50
        subst ea
        have FR : Hid (Row W q (zPr0) tPr) := by
          rw [HPC.out, HZE.out] at rq
          unfold zPr0 at rq
          rw [prv_setd (List.length_replicate ..) (List.length_replicate ..) zRL70 HLT.out zRL zRL_len, List.set_replicate_self] at rq
          exact rq
        have FH : Hid (Hp w W [(q, zPr0, tPr), (b2, Lc, tC)] []) := by
          have h6 := HH6.out.setR hqw (fun r hr => by
            rcases List.mem_cons.1 hr with rfl | hr
            · exact hqb
            · rw [List.mem_singleton.1 hr]; exact hne) FR.out gQ
          exact h6.dropR (fun r hr => by
            simp only [List.mem_cons, List.not_mem_nil, or_false] at hr ⊢
            rcases hr with z | z
            · exact .inl z
            · exact .inr (.inl z))
        clear rq r9 gQ hb1 HH6 FR
        go_wp2_with fail
        exact ⟨⟨t + 1, by omega, by go_num, FH.out⟩, by simp [intOf]; omega⟩
    have hlt2 : ¬ ((t : Int) < 3) := by omega
    clear hlt ht
    go_wp2_with fail
    go_ret
    exact ⟨q, rfl, zPr0, HH.out.row _ (List.mem_cons_self ..), rfl, HH.out.be⟩
set_option maxRecDepth 100000 in
set_option maxHeartbeats 16000000 in
theorem begun_ok (c : Cm) (hc : c.Wf) (win : Int) (Lc : List Value) (hLc : Lc = c.cells) (hnew : newE c win = 0) (w : World) : Calls Try.prog 15 #[.agg Lc.toArray, .int .i64 win] w fun r w' => ∃ q Ls Es, r = .returned (.pointer (some ⟨q, 0, none⟩)) ∧ Pl w w' q 0 Ls Es (.slice none 0 0) [] ∧ Ms Ls Es := by
  have HIC : Hid ((Try.prog.info? tC).map (·.size) = some Lc.length) := by show _ = _; rw [hLc]; exact Cm.info hc
  obtain ⟨S0, hS0⟩ : ∃ S, S = La0 c win := ⟨_, rfl⟩
  obtain ⟨Lz, hLz⟩ : ∃ M, M = S0.dc (.slice none 0 0) := ⟨_, rfl⟩
  have HLZ : Hid (Lz = S0.dc (.slice none 0 0)) := hLz
  have HPD : Hid (S0.pend = []) := by show _ = _; rw [hS0]; rfl
  have HOK : Hid (S0.Ok 0) := by
    obtain ⟨h1, h2, h3⟩ := newE_cases hnew
    rw [hS0]
    exact La0_ok hc h1 h2 h3 (Int.le_refl 0)
  have HNW : Hid (∀ W, Calls Try.prog 21 #[.agg Lc.toArray, .int .i64 win] W fun e w' => ∃ p, e = .returned (.tuple #[.pointer (some ⟨p, 0, none⟩), .int .i64 0]) ∧ Ld w' p (.slice none 0 0) 0 S0 ∧ W.heap.size ≤ p ∧ Below W.heap.size W w') := fun W => by rw [hS0]; exact new_ok c hc win Lc hLc hnew (Int.le_refl 0) W
  have HRN : Hid (∀ W, Calls Try.prog 55 #[.agg Lc.toArray, .int .i64 win] W fun e w' => e = .returned (.tuple #[.agg Lz.toArray, .int .i64 0]) ∧ Below W.heap.size W w') := fun W => by
    have := rnew_any c hc win Lc hLc 0 hnew W
    rw [show newV c win = Lz by rw [hLz, hS0]; unfold newV; rw [if_pos hnew]] at this
    exact this
  have HZ70 : Hid (Lz.length = 70) := by show _ = _; rw [hLz]; exact La.dlen HOK.out.cf _
  have HZN : Hid (Lz.length = zRL.length) := HZ70.out.trans zRL_len.symm
  have HZO : Hid (Lz.toArray.all (·.oneCell') = true) := by show _ = _; rw [hLz]; exact all_one (La.done _ _ _ _)
  have HZI : Hid ((Try.prog.info? tRL).map (·.size) = some Lz.length) := by show _ = _; rw [HZ70.out]; exact info_RL
  have HZJ : Hid ((Try.prog.info? tRL).map (·.size) = some Lz.toArray.size) := by show _ = _; rw [List.size_toArray]; exact HZI.out
  clear hnew hc hLc hS0 hLz
  go_enter Try.func15, Try.ntmps15
  go_upto_region 2 with (first
        | (refine wpList_bxG tC rfl (.tmp 0) rfl Lc rfl ?_; intro X0 q1 q2 q3; clear q3; have H0 : Hid (Hp w X0 [(w.heap.size, Lc, tC)] []) := (Hp.nil w).addR q2 q1 (Nat.le_refl _); have HX0 : Hid (w.heap.size ≤ X0.heap.size) := q2.size; have HR0 : Hid (Row X0 w.heap.size Lc tC) := q1; clear q1 q2; simp only [Act.put, List.setIfInBounds_toArray, List.set_cons_zero, List.set_cons_succ])
        | (refine wpList_blt rfl tPr _ rfl [] rfl zPr0 built_Pr0 ?_; simp only [Act.put, List.setIfInBounds_toArray, List.set_cons_zero, List.set_cons_succ])
        | (refine wpList_bxG tPr rfl (.tmp 11) rfl zPr0 rfl ?_; intro X1 q1 q2 q3; clear q3; have H1 : Hid (Hp w X1 [(X0.heap.size, zPr0, tPr), (w.heap.size, Lc, tC)] []) := H0.out.addR q2 q1 (Nat.le_refl _); clear q1 q2; simp only [Act.put, List.setIfInBounds_toArray, List.set_cons_zero, List.set_cons_succ]))
  obtain ⟨q, hq⟩ : ∃ q, q = X0.heap.size := ⟨_, rfl⟩
  obtain ⟨b2, hb2⟩ : ∃ b, b = w.heap.size := ⟨_, rfl⟩
  have hqw : w.heap.size ≤ q := by rw [hq]; exact HX0.out
  have hqb : b2 ≠ q := by have := HR0.out.lt; rw [hb2, hq]; omega
  rw [← hq, ← hb2] at H1 ⊢
  clear hq hb2 HX0 HR0 H0
  go_wp2_with fail
  go_loopw [6] (fun i wr => ∃ (t : Nat) (ps : List Nat), t ≤ 3 ∧ ps.length = t ∧ i = .int .i64 (t : Int) ∧ Hid (Hp w wr [(q, bcs ps Lz, tPr), (b2, Lc, tC)] (ps.map fun p => (p, Value.slice none 0 0, (0 : Int), S0)))) (fun i _ => 3 - (intOf i).toNat)
  case atStart => exact ⟨0, [], Nat.zero_le _, rfl, rfl, by rw [bcs_0]; exact H1.out⟩
  case round =>
    clear H1
    obtain ⟨t, ps, ht, hps, rfl, HH⟩ := hrel
    by_cases hlt : t < 3
    · have hlt2 : (t : Int) < 3 := by omega
      have HLT : Hid (t < 3) := hlt
      have HPS : Hid (ps.length = t) := hps
      clear hps
      have HBL : Hid ((bcs ps Lz).length = 214) := bcs_len HPS.out (Nat.le_of_lt hlt) HZ70.out
      go_upto_region 6 with (first
        | (refine wpList_ldS rfl tC (.tmp 2) rfl b2 0 rfl Lc _ (HH.out.row _ (List.mem_cons_of_mem _ (List.mem_cons_self ..))).all Try.underlying25 rfl HIC.out ?_; simp only [Act.put, List.setIfInBounds_toArray, List.set_cons_zero, List.set_cons_succ])
        | (go_at_call 21; refine Calls.mono (HNW.out _) ?_; rintro e X2 ⟨p, rfl, q1, q2, q3⟩; have HH2 : Hid (Hp w X2 [(q, bcs ps Lz, tPr), (b2, Lc, tC)] ((ps ++ [p]).map fun p => (p, Value.slice none 0 0, (0 : Int), S0))) := (by { rw [List.map_append]; exact HH.out.addE q3 q1 (fun g hg => by { rcases hg with rfl | hg; exact q2; cases hg }) }); clear q1 q2 q3))
      go_upto_region 9 with (first
        | (refine wpList_ldS rfl tC (.tmp 2) rfl b2 0 rfl Lc _ (HH2.out.row _ (List.mem_cons_of_mem _ (List.mem_cons_self ..))).all Try.underlying25 rfl HIC.out ?_; simp only [Act.put, List.setIfInBounds_toArray, List.set_cons_zero, List.set_cons_succ])
        | (go_at_call 55; refine Calls.mono (HRN.out _) ?_; rintro e X3 ⟨rfl, q3⟩; have HH3 : Hid (Hp w X3 [(q, bcs ps Lz, tPr), (b2, Lc, tC)] ((ps ++ [p]).map fun p => (p, Value.slice none 0 0, (0 : Int), S0))) := HH2.out.below q3; clear q3)
        | (refine wpList_alRL rfl rfl ?_; intro X4 q1 q2 q3; clear q3; have HZR : Hid (Row X4 X3.heap.size zRL tRL ∧ Below X3.heap.size X3 X4) := ⟨q1, q2⟩; clear q1 q2; simp only [Act.put, List.setIfInBounds_toArray, List.set_cons_zero, List.set_cons_succ])
        | (refine wpList_stL rfl tRL (.tmp 9) (.tmp 27) rfl X3.heap.size Lz zRL tRL rfl rfl HZR.out.1 HZN.out HZI.out HZO.out ?_; intro X5 q1 q2; have HH5 : Hid (Hp w X5 ((X3.heap.size, Lz, tRL) :: [(q, bcs ps Lz, tPr), (b2, Lc, tC)]) ((ps ++ [p]).map fun p => (p, Value.slice none 0 0, (0 : Int), S0))) := HH3.out.addR (gro_newL HZR.out.2 (Nat.le_refl _) q2) q1 (Nat.le_refl _); clear q1 q2; simp only [Act.put]))
      clear HH HH2 HH3 HZR
      obtain ⟨b9, hb9⟩ : ∃ b, b = X3.heap.size := ⟨_, rfl⟩
      rw [← hb9] at HH5 ⊢
      clear hb9
      go_upto_region 10 with (first
        | (refine wpList_plain rfl (fun _ hK => wp_ixO tL3 tLp rfl q 3 t 1 0 t rfl rfl HLT.out und_L3 info_Lp (by omega) (hK _ _ ?_)); simp only [Act.put, List.setIfInBounds_toArray, List.set_cons_zero, List.set_cons_succ])
        | (refine wpList_st1 rfl tLp (.tmp 44) (.tmp 41) rfl q t (.pointer (some ⟨p, 0, none⟩)) (bcs ps Lz) tPr rfl rfl rfl (HH5.out.row _ (List.mem_cons_of_mem _ (List.mem_cons_self ..))) (by { rw [HBL.out]; have := HLT.out; omega }) info_Lp rfl ?_; intro X6 q1 q2; have RQ : Hid (Row X6 q ((bcs ps Lz).set t (.pointer (some ⟨p, 0, none⟩))) tPr ∧ Gro (· = q) X5 X6) := ⟨q1, q2⟩; clear q1 q2; simp only [Act.put]))
      have HR6 : Hid (Row X6 q (prv ((ps ++ [p]).map ptL ++ List.replicate (3 - (ps ++ [p]).length) (.pointer none)) (List.replicate ps.length Lz ++ List.replicate (3 - ps.length) zRL) (.slice none 0 0)) tPr) := by
        have := RQ.out.1
        have hl : (ps.map ptL).length = ps.length := List.length_map ..
        unfold bcs at this
        rw [prv_set (by rw [List.length_append, hl, List.length_replicate]; have := HPS.out; have := HLT.out; omega) HLT.out] at this
        have e := rep_put (ps.map ptL) (.pointer none) (ptL p) 3 (by rw [hl, HPS.out]; exact HLT.out)
        rw [hl, HPS.out] at e
        rw [HPS.out] at this ⊢
        rw [show (Value.pointer (some ⟨p, 0, none⟩)) = ptL p from rfl, e] at this
        rw [List.map_append, List.length_append, HPS.out]
        exact this
      obtain ⟨PC, hPC⟩ : ∃ M, M = (prv ((ps ++ [p]).map ptL ++ List.replicate (3 - (ps ++ [p]).length) (.pointer none)) (List.replicate ps.length Lz ++ List.replicate (3 - ps.length) zRL) (.slice none 0 0)) := ⟨_, rfl⟩
      have HPC : Hid (PC = (prv ((ps ++ [p]).map ptL ++ List.replicate (3 - (ps ++ [p]).length) (.pointer none)) (List.replicate ps.length Lz ++ List.replicate (3 - ps.length) zRL) (.slice none 0 0))) := hPC
      have HH6 : Hid (Hp w X6 [(q, PC, tPr), (b2, Lc, tC), (b9, Lz, tRL)] ((ps ++ [p]).map fun p => (p, Value.slice none 0 0, (0 : Int), S0))) := by
        have h5 : Hp w X5 ((q, bcs ps Lz, tPr) :: [(b2, Lc, tC), (b9, Lz, tRL)]) ((ps ++ [p]).map fun p => (p, Value.slice none 0 0, (0 : Int), S0)) := HH5.out.dropR (fun r hr => by
          simp only [List.mem_cons, List.not_mem_nil, or_false] at hr ⊢
          rcases hr with z | z | z
          · exact .inr (.inl z)
          · exact .inr (.inr z)
          · exact .inl z)
        rw [hPC]
        refine h5.setR hqw (fun r hr => ?_) HR6.out RQ.out.2
        rcases List.mem_cons.1 hr with rfl | hr
        · exact hqb
        · rw [List.mem_singleton.1 hr]
          exact rows_ne (HH5.out.row _ (List.mem_cons_self ..)) (HH5.out.row _ (List.mem_cons_of_mem _ (List.mem_cons_self ..))) (show tRL ≠ tPr by decide)
      have rq : Row X6 q PC tPr := HH6.out.row _ (List.mem_cons_self ..)
      have r9 : Row X6 b9 Lz tRL := HH6.out.row _ (List.mem_cons_of_mem _ (List.mem_cons_of_mem _ (List.mem_cons_self ..)))
      have hne : b9 ≠ q := rows_ne r9 rq (by decide)
      have HPN : Hid (3 + t * 70 + Lz.toArray.size ≤ PC.length) := by show _ ≤ _; rw [List.size_toArray, HZ70.out, hPC, prv_len (by rw [List.length_append, List.length_map, List.length_replicate, List.length_append, HPS.out]; have := HLT.out; rw [List.length_singleton]; omega) (by rw [List.length_append, List.length_replicate, List.length_replicate, HPS.out]; have := HLT.out; omega) (bcs70 HZ70.out _ _)]; have := HLT.out; omega
      have gQ : Gro (· = q) X6 X6 := Gro.refl _ _
      have hb1 : Below w.heap.size w X6 := HH6.out.be
      clear hPC HH5 HR6 RQ
      refine wp_named fun a0 ha0 => ?_
      have hsz : a0.tmps.size = 52 := by rw [ha0]; rfl
      have zs5 : a0.eval (.tmp 5) = .pointer (some ⟨q, 0, none⟩) := by rw [ha0]; rfl
      have zs6 : a0.eval (.tmp 6) = .int .i64 (t : Int) := by rw [ha0]; rfl
      have zs9 : a0.eval (.tmp 9) = .pointer (some ⟨b9, 0, none⟩) := by rw [ha0]; rfl
      obtain ⟨D, hD⟩ : ∃ D : List (Tmp × SP), D = [(45, SP.is (.pointer (some ⟨q, 0, none⟩))), (46, SP.is (.int .i64 (t : Int))), (47, SP.is (.agg Lz.toArray)), (48, SP.is (.pointer (some ⟨q, 0, none⟩))), (49, SP.is (.pointer (some ⟨q, 3, none⟩))), (50, SP.is (.pointer (some ⟨q, 3 + t * 70, none⟩))), (1000, SP.any)] := ⟨_, rfl⟩
      refine wp_region_down (by kernel_rfl) (fun listed ac W => listed.size = 7 ∧ Fp D a0 listed ac W ∧ Below w.heap.size w W ∧ Row W q (if listed.getD 6 false = true then (PC.take (3 + t * 70) ++ Lz ++ PC.drop (3 + t * 70 + Lz.length)) else PC) tPr ∧ Row W b9 Lz tRL ∧ Gro (· = q) X6 W) ?_ ?_ ?_
      · exact ⟨by simp, Fp.start D a0 _ _, Below.drew hb1, (by rw [if_neg (fun h => start_no h)]; exact Row.drew rq), Row.drew r9, gQ.below (Below.drew (Below.refl _ _))⟩
      · clear ha0 hb1 rq r9 gQ 
        intro listed ac W k hI hdn hk
        obtain ⟨hl, hF, hb1, rq, r9, gQ⟩ := hI
        have hk1 : k < 7 := List.mem_range.1 (List.mem_filter.1 hk).1
        have hl2 : ∀ j, (listed.setIfInBounds j true).size = 7 := fun j => by rw [Array.size_setIfInBounds]; exact hl
        rcases (show k = 0 ∨ k = 1 ∨ k = 2 ∨ k = 3 ∨ k = 4 ∨ k = 5 ∨ k = 6 by omega) with rfl | rfl | rfl | rfl | rfl | rfl | rfl
        · have hk3 := hk
          exact wpOp_plain rfl rfl (wp_move_v (ac.eval (.tmp 5)) rfl rfl ⟨hl2 0, (hF.put 0 45 (SP.is (.pointer (some ⟨q, 0, none⟩))) (ac.eval (.tmp 5)) (by rw [hD]; rfl) (((hF.keep 5 (by rw [hD]; rfl)).trans zs5)) (by rw [hD]; rfl) (by rw [hsz]; decide) (by rw [hl]; decide)), hb1, (by rw [getD_set _ _ _ (by decide)]; exact rq), r9, gQ⟩)
        · have hk3 := hk
          exact wpOp_plain rfl rfl (wp_move_v (ac.eval (.tmp 6)) rfl rfl ⟨hl2 1, (hF.put 1 46 (SP.is (.int .i64 (t : Int))) (ac.eval (.tmp 6)) (by rw [hD]; rfl) (((hF.keep 6 (by rw [hD]; rfl)).trans zs6)) (by rw [hD]; rfl) (by rw [hsz]; decide) (by rw [hl]; decide)), hb1, (by rw [getD_set _ _ _ (by decide)]; exact rq), r9, gQ⟩)
        · have hk3 := hk
          exact wpOp_plain rfl rfl (wp_load_mid tRL (.tmp 9) rfl b9 0 ((hF.keep 9 (by rw [hD]; rfl)).trans zs9) Lz _ r9.all Try.underlying44 rfl HZI.out ⟨hl2 2, (hF.put 2 47 (SP.is (.agg Lz.toArray)) (.agg Lz.toArray) (by rw [hD]; rfl) rfl (by rw [hD]; rfl) (by rw [hsz]; decide) (by rw [hl]; decide)), hb1, (by rw [getD_set _ _ _ (by decide)]; exact rq), r9, gQ⟩)
        · have hk3 := hk
          have ea := (hF.done 0 (45, SP.is (.pointer (some ⟨q, 0, none⟩))) (by rw [hD]; rfl) (ready_dep hk 0 (by kernel_rfl)))
          exact wpOp_plain rfl rfl (wp_nilL rfl q ea ⟨hl2 3, (hF.put 3 48 (SP.is (.pointer (some ⟨q, 0, none⟩))) (.pointer (some ⟨q, 0, none⟩)) (by rw [hD]; rfl) rfl (by rw [hD]; rfl) (by rw [hsz]; decide) (by rw [hl]; decide)), hb1, (by rw [getD_set _ _ _ (by decide)]; exact rq), r9, gQ⟩)
        · have hk3 := hk
          have ea := (hF.done 3 (48, SP.is (.pointer (some ⟨q, 0, none⟩))) (by rw [hD]; rfl) (ready_dep hk 3 (by kernel_rfl)))
          exact wpOp_plain rfl rfl (wp_fPr1 rfl q ea ⟨hl2 4, (hF.put 4 49 (SP.is (.pointer (some ⟨q, 3, none⟩))) (.pointer (some ⟨q, 3, none⟩)) (by rw [hD]; rfl) rfl (by rw [hD]; rfl) (by rw [hsz]; decide) (by rw [hl]; decide)), hb1, (by rw [getD_set _ _ _ (by decide)]; exact rq), r9, gQ⟩)
        · have hk3 := hk
          have ea := (hF.done 4 (49, SP.is (.pointer (some ⟨q, 3, none⟩))) (by rw [hD]; rfl) (ready_dep hk 4 (by kernel_rfl)))
          have eb := (hF.done 1 (46, SP.is (.int .i64 (t : Int))) (by rw [hD]; rfl) (ready_dep hk 1 (by kernel_rfl)))
          exact wpOp_plain rfl rfl (wp_ixO tR3 tRL rfl q 3 t 70 3 (3 + t * 70) ea eb HLT.out und_R3 info_RL rfl ⟨hl2 5, (hF.put 5 50 (SP.is (.pointer (some ⟨q, 3 + t * 70, none⟩))) (.pointer (some ⟨q, 3 + t * 70, none⟩)) (by rw [hD]; rfl) rfl (by rw [hD]; rfl) (by rw [hsz]; decide) (by rw [hl]; decide)), hb1, (by rw [getD_set _ _ _ (by decide)]; exact rq), r9, gQ⟩)
        · have hk3 := hk
          have hno : ¬ listed.getD 6 false = true := not_yet hk
          rw [if_neg hno] at rq
          have T := rq.there (3 + t * 70) Lz.toArray.size HPN.out
          have fin := Row.setCells (3 + t * 70) Lz rq (by have := HPN.out; rwa [List.size_toArray] at this)
          have hT : Fp D a0 listed ac (W.setCells q (3 + t * 70) Lz) := hF.turn (by rw [hD]; simp only [List.forall_mem_cons, List.not_mem_nil, false_implies, implies_true, and_true]; exact ⟨fun _ h => h, fun _ h => h, fun _ h => h, fun _ h => h, fun _ h => h, fun _ h => h, fun _ h => h⟩)
          exact wpOp_plain rfl rfl (wp_store_mid tRL (.tmp 50) (.tmp 47) rfl q (3 + t * 70) Lz.toArray (hF.done 5 (50, SP.is (.pointer (some ⟨q, 3 + t * 70, none⟩))) (by rw [hD]; rfl) (ready_dep hk 5 (by kernel_rfl))) (hF.done 2 (47, SP.is (.agg Lz.toArray)) (by rw [hD]; rfl) (ready_dep hk 2 (by kernel_rfl))) T HZJ.out HZO.out ⟨hl2 6, (hT.skip 6 1000 (by rw [hD]; rfl) (by rw [hl]; decide)), below_setCells hb1 (by omega) _, (by rw [if_pos (getD_same (by rw [hl]; decide))]; exact fin), Row.setCells_other r9 _ _ _ (by omega), gQ.trans (gro_setsL W q (3 + t * 70) Lz)⟩)
      · clear hb1 rq r9 gQ 
        intro listed ac W hI hr
        obtain ⟨hl, hF, hb1, rq, r9, gQ⟩ := hI
        have hall := all_listed (by kernel_rfl) hl hr
        rw [if_pos (hall 6 (by decide))] at rq
        have h45 : ac.eval (.tmp 45) = .pointer (some ⟨q, 0, none⟩) := hF.done 0 (45, SP.is (.pointer (some ⟨q, 0, none⟩))) (by rw [hD]; rfl) (hall 0 (by decide))
        have h46 : ac.eval (.tmp 46) = .int .i64 (t : Int) := hF.done 1 (46, SP.is (.int .i64 (t : Int))) (by rw [hD]; rfl) (hall 1 (by decide))
        have h47 : ac.eval (.tmp 47) = .agg Lz.toArray := hF.done 2 (47, SP.is (.agg Lz.toArray)) (by rw [hD]; rfl) (hall 2 (by decide))
        have h48 : ac.eval (.tmp 48) = .pointer (some ⟨q, 0, none⟩) := hF.done 3 (48, SP.is (.pointer (some ⟨q, 0, none⟩))) (by rw [hD]; rfl) (hall 3 (by decide))
        have h49 : ac.eval (.tmp 49) = .pointer (some ⟨q, 3, none⟩) := hF.done 4 (49, SP.is (.pointer (some ⟨q, 3, none⟩))) (by rw [hD]; rfl) (hall 4 (by decide))
        have h50 : ac.eval (.tmp 50) = .pointer (some ⟨q, 3 + t * 70, none⟩) := hF.done 5 (50, SP.is (.pointer (some ⟨q, 3 + t * 70, none⟩))) (by rw [hD]; rfl) (hall 5 (by decide))
        have ea := hF.lay [(45, .pointer (some ⟨q, 0, none⟩)), (46, .int .i64 (t : Int)), (47, .agg Lz.toArray), (48, .pointer (some ⟨q, 0, none⟩)), (49, .pointer (some ⟨q, 3, none⟩)), (50, .pointer (some ⟨q, 3 + t * 70, none⟩))] (by rw [hD, hsz]; rfl) (by simp only [List.forall_mem_cons, List.not_mem_nil, false_implies, implies_true, and_true]; exact ⟨h45, h46, h47, h48, h49, h50⟩)
        rw [ha0] at ea
        simp only [List.foldl_cons, List.foldl_nil, List.setIfInBounds_toArray, List.set_cons_zero, List.set_cons_succ] at ea
        clear hF hall hr hl hD  zs5 zs6 zs9 ha0 hsz h45 h46 h47 h48 h49 h50
        subst ea
        have FR : Hid (Row W q (bcs (ps ++ [p]) Lz) tPr) := by
          rw [HPC.out] at rq
          have hl : (ps.map ptL).length = ps.length := List.length_map ..
          rw [prv_setd (by rw [List.length_append, List.length_map, List.length_replicate, List.length_append, HPS.out]; have := HLT.out; rw [List.length_singleton]; omega) (by rw [List.length_append, List.length_replicate, List.length_replicate, HPS.out]; have := HLT.out; omega) (bcs70 HZ70.out _ _) HLT.out Lz HZ70.out] at rq
          have e := rep_put (List.replicate t Lz) zRL Lz 3 (by rw [List.length_replicate]; exact HLT.out)
          rw [List.length_replicate, ← List.replicate_succ'] at e
          unfold bcs
          rw [show (ps ++ [p]).length = t + 1 by rw [List.length_append, HPS.out]; rfl]
          rw [HPS.out, e, show (ps ++ [p]).length = t + 1 by rw [List.length_append, HPS.out]; rfl] at rq
          exact rq
        have FH : Hid (Hp w W [(q, bcs (ps ++ [p]) Lz, tPr), (b2, Lc, tC)] ((ps ++ [p]).map fun p => (p, Value.slice none 0 0, (0 : Int), S0))) := by
          have h6 := HH6.out.setR hqw (fun r hr => by
            rcases List.mem_cons.1 hr with rfl | hr
            · exact hqb
            · rw [List.mem_singleton.1 hr]; exact hne) FR.out gQ
          exact h6.dropR (fun r hr => by
            simp only [List.mem_cons, List.not_mem_nil, or_false] at hr ⊢
            rcases hr with z | z
            · exact .inl z
            · exact .inr (.inl z))
        clear rq r9 gQ hb1 HH6 FR
        go_wp2_with fail
        exact ⟨⟨t + 1, ps ++ [p], by omega, by rw [List.length_append, HPS.out]; rfl, by go_num, FH.out⟩, by simp [intOf]; omega⟩
    have hlt2 : ¬ ((t : Int) < 3) := by omega
    have HPS : Hid (ps.length = 3) := by show _ = _; omega
    clear hlt ht hps
    go_wp2_with fail
    go_ret
    refine ⟨q, rfl, ps.map fun p => (p, Value.slice none 0 0, S0), List.replicate 3 (Value.slice none 0 0, S0), ?_, Ms.same S0 HPS.out⟩
    have hh := HH.out
    have hz : Hp w wr [] ((ps.map fun p => (p, Value.slice none 0 0, S0)).map fun l => (l.1, l.2.1, 0, l.2.2)) := by
      rw [List.map_map]
      exact hh.dropR (fun _ z => by cases z)
    have rq := hh.row _ (List.mem_cons_self ..)
    refine ⟨hz, by rw [List.length_map]; exact HPS.out, List.length_replicate .., ?_, hqw, fun e he => ?_, fun e he g z => ?_, Lw.nil .., (fun _ z => by cases z), (fun j y hy => by cases hy), (fun y hy => by cases hy)⟩
    · have e1 : bcs ps Lz = prc ((ps.map fun p => (p, Value.slice none 0 0, S0)).map (·.1)) ((List.replicate 3 (Value.slice none 0 0, S0)).map fun e => e.2.dc e.1) (.slice none 0 0) := by
        unfold bcs prc prv
        rw [HPS.out, List.map_map, List.map_map, List.map_replicate, HLZ.out, Nat.sub_self, List.replicate_zero, List.replicate_zero, List.append_nil, List.append_nil]
        rfl
      rw [← e1]
      exact rq
    · rw [(List.mem_replicate.1 he).2]
      exact ⟨by show Lo wr tP 90 (.slice none 0 0) S0.pend.length (pcs S0.pend); rw [HPD.out]; exact Lo.nil _ _ _, HOK.out⟩
    · rw [(List.mem_replicate.1 he).2] at z
      cases z

end Go.Proofs.Ytfdbjcdcfmnicaa
