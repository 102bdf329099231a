/-
  what stands there is read: mathematics of the readers at a form.
-/
import Derived.Test.YtekgojokhjihfaaDoorLeA
import Derived.Test.YtekgojokhjihfaaDoorLtD
import Derived.Deep.CutRange
import Derived.Test.YtekgojokhjihfaaDoorLtE
import Derived.Test.YtekgojokhjihfaaDoorLtF
import Derived.Test.YtekgojokhjihfaaDoorXStp
import Derived.Deep.RegionLaw
import Derived.Test.YtekgojokhjihfaaDoorLeI
import Derived.Test.YtekgojokhjihfaaDoorXFmB

namespace Go.Proofs.YtekgojokhjihfaaDoor
open Go Go.RowKit
open Sha

end Go.Proofs.YtekgojokhjihfaaDoor

namespace Go.Proofs.YtekgojokhjihfaaDoor
open Go Go.RowKit
open Sha

/-- A number's form. -/
def nf (n : Int) : List (BitVec 8) := fm [n.toNat, 0, 0, 0] (nb n.toNat 0 0 0)
/-- Four parts' form. -/
def wf (am : List Nat) : List (BitVec 8) := fm am (nb (am.getD 0 0) (am.getD 1 0) (am.getD 2 0) (am.getD 3 0))
theorem nf_len (n : Int) : (nf n).length ≤ 33 := by
  have := nb_le n.toNat 0 0 0
  unfold nf
  rw [fm_len]
  omega
theorem wf_len (am : List Nat) : (wf am).length ≤ 33 := by
  have := nb_le (am.getD 0 0) (am.getD 1 0) (am.getD 2 0) (am.getD 3 0)
  unfold wf
  rw [fm_len]
  omega
theorem wrB_in (bs d : List (BitVec 8)) (h : bs.length + d.length ≤ 4194304) : wrB bs 0 d = bs ++ d := by
  unfold wrB
  rw [if_pos rfl, if_pos h]
theorem wrF_in (bs d : List (BitVec 8)) (h : bs.length + d.length ≤ 4194304) : wrF bs 0 d = 0 := by
  unfold wrF
  rw [if_pos rfl, if_pos h]
theorem nuB_in (bs : List (BitVec 8)) (n : Int) (h0 : 0 ≤ n) (h : bs.length + (nf n).length ≤ 4194304) : nuB bs 0 n = bs ++ nf n := by
  unfold nuB
  rw [if_pos rfl, if_neg (by omega)]
  exact wrB_in bs (nf n) h
theorem nuF_in (bs : List (BitVec 8)) (n : Int) (h0 : 0 ≤ n) (h : bs.length + (nf n).length ≤ 4194304) : nuF bs 0 n = 0 := by
  unfold nuF
  rw [if_pos rfl, if_neg (by omega)]
  exact wrF_in bs (nf n) h

end Go.Proofs.YtekgojokhjihfaaDoor

namespace Go.Proofs.YtekgojokhjihfaaDoor
open Go Go.RowKit
open Sha

/-- A deposit's bytes. -/
def eb1 (sd : List (BitVec 8)) (tm tk : Int) (rc : List (BitVec 8)) (am : List Nat) (gs : Int) : List (BitVec 8) := [1#8] ++ sd ++ nf tm ++ nf tk ++ rc ++ wf am ++ nf gs
/-- A call's bytes. -/
def eb2 (sd : List (BitVec 8)) (tm : Int) (n : Nat) (d : List (BitVec 8)) : List (BitVec 8) := [2#8] ++ sd ++ nf tm ++ (fm [n, 0, 0, 0] (nb n 0 0 0) ++ d)

end Go.Proofs.YtekgojokhjihfaaDoor

namespace Go.Proofs.YtekgojokhjihfaaDoor
open Go Go.RowKit
open Sha

theorem sub_mid (p q r bs : List (BitVec 8)) (a n : Nat) (hb : bs = p ++ (q ++ r)) (ha : p.length = a) (hq : q.length = n) : sub bs a n = q ∧ a + n ≤ bs.length := by
  subst hb ha hq
  refine ⟨?_, by simp only [List.length_append]; omega⟩
  unfold sub
  rw [List.drop_left' rfl, List.take_left' rfl]
theorem at_adr (p r x bs : List (BitVec 8)) (a : Nat) (hb : bs = p ++ (x ++ r)) (ha : p.length = a) (hx : x.length = 20) : dgE 20 bs a = 0 ∧ sub bs a 20 = x := by
  obtain ⟨h1, h2⟩ := sub_mid p x r bs a 20 hb ha hx
  exact ⟨by unfold dgE; rw [if_neg (by omega)], h1⟩
theorem nf_size (n : Int) : (nf n).length = 1 + nb n.toNat 0 0 0 := by
  unfold nf
  rw [fm_len]
  omega
theorem at_num (p r bs : List (BitVec 8)) (n : Int) (a : Nat) (h0 : 0 ≤ n) (h1 : n < 9223372036854775808) (hb : bs = p ++ (nf n ++ r)) (ha : p.length = a) : nuE bs a = 0 ∧ ((nuW bs a : Nat) : Int) = n ∧ a + 1 + at8 bs a = a + (nf n).length := by
  have hl := nf_size n
  obtain ⟨s1, s2⟩ := sub_mid p (nf n) r bs a _ hb ha hl
  obtain ⟨k1, k2, k3⟩ := read_num n.toNat (by omega) bs a _ rfl s2 s1
  exact ⟨k2, by rw [k3]; omega, by rw [k1, hl]; omega⟩
theorem at_wide (p r bs : List (BitVec 8)) (am : List Nat) (a : Nat) (h4 : am.length = 4) (hq : ∀ x ∈ am, x < 18446744073709551616) (hb : bs = p ++ (wf am ++ r)) (ha : p.length = a) : hiF 32 bs a = 0 ∧ qd bs (a + 1 + at8 bs a) (at8 bs a) = vQ am ∧ a + 1 + at8 bs a = a + (wf am).length := by
  obtain ⟨m0, m1, m2, m3, rfl⟩ : ∃ m0 m1 m2 m3, am = [m0, m1, m2, m3] := by
    rcases am with _ | ⟨m0, _ | ⟨m1, _ | ⟨m2, _ | ⟨m3, _ | ⟨m4, r⟩⟩⟩⟩⟩
    all_goals first | exact ⟨_, _, _, _, rfl⟩ | (simp at h4)
  have hl : (wf [m0, m1, m2, m3]).length = 1 + nb m0 m1 m2 m3 := by
    show (fm [m0, m1, m2, m3] (nb m0 m1 m2 m3)).length = _
    rw [fm_len]
    omega
  obtain ⟨s1, s2⟩ := sub_mid p (wf [m0, m1, m2, m3]) r bs a _ hb ha hl
  obtain ⟨k1, k2, k3⟩ := read_form m0 m1 m2 m3 (hq _ (by simp)) (hq _ (by simp)) (hq _ (by simp)) (hq _ (by simp)) 32 bs a _ rfl (nb_le _ _ _ _) s2 s1
  refine ⟨k2, ?_, by rw [k1, hl]; omega⟩
  rw [k1]
  unfold qd
  rw [k3 0 (by decide), k3 1 (by decide), k3 2 (by decide), k3 3 (by decide)]
  rfl
theorem at_body (p r d bs : List (BitVec 8)) (n a : Nat) (hd : d.length = n) (hn : n ≤ 4096) (hb : bs = p ++ (fm [n, 0, 0, 0] (nb n 0 0 0) ++ d ++ r)) (ha : p.length = a) : cnE bs a 4096 = 0 ∧ nuW bs a = n ∧ sub bs (a + 1 + at8 bs a) n = d ∧ a + 1 + at8 bs a + n = a + (fm [n, 0, 0, 0] (nb n 0 0 0) ++ d).length := by
  have hl : (fm [n, 0, 0, 0] (nb n 0 0 0)).length = 1 + nb n 0 0 0 := by
    rw [fm_len]
    omega
  obtain ⟨s1, s2⟩ := sub_mid p (fm [n, 0, 0, 0] (nb n 0 0 0)) (d ++ r) bs a _ (by rw [hb, List.append_assoc]) ha hl
  obtain ⟨k1, k2, k3⟩ := read_num n (by omega) bs a _ rfl s2 s1
  obtain ⟨t1, t2⟩ := sub_mid (p ++ fm [n, 0, 0, 0] (nb n 0 0 0)) d r bs (a + 1 + nb n 0 0 0) n (by rw [hb, List.append_assoc, List.append_assoc]) (by rw [List.length_append, hl, ha]; omega) hd
  rw [k1, k3]
  refine ⟨?_, rfl, t1, by rw [List.length_append, hl, hd]; omega⟩
  unfold cnE
  rw [if_pos k2, k3, k1, if_neg (by omega), if_neg (by omega)]
theorem nuE_short {bs : List (BitVec 8)} {a : Nat} (h : nuE bs a = 0) : a < bs.length ∧ a + 1 + at8 bs a ≤ bs.length := by
  have h1 : hiF 8 bs a = 0 := by
    unfold nuE at h
    by_cases q : hiF 8 bs a = 0
    · exact q
    · rw [if_neg q] at h
      exact h
  unfold hiF at h1
  by_cases q1 : bs.length ≤ a
  · rw [if_pos q1] at h1
    cases h1
  by_cases q2 : 8 < at8 bs a
  · rw [if_neg q1, if_pos q2] at h1
    cases h1
  by_cases q3 : bs.length < a + 1 + at8 bs a
  · rw [if_neg q1, if_neg q2, if_pos q3] at h1
    cases h1
  omega
theorem cut_num (p bs : List (BitVec 8)) (n : Int) (a : Nat) (hb : bs = p ++ (nf n).take ((nf n).length - 1)) (ha : p.length = a) : ¬ nuE bs a = 0 := by
  intro h
  obtain ⟨h1, h2⟩ := nuE_short h
  have hl := nf_size n
  have hn := nb_le n.toNat 0 0 0
  have hbl : bs.length = a + nb n.toNat 0 0 0 := by
    rw [hb, List.length_append, List.length_take, ha, hl]
    omega
  have h8 : at8 bs a = nb n.toNat 0 0 0 := by
    obtain ⟨k, hk⟩ : ∃ k, nb n.toNat 0 0 0 = k + 1 := ⟨nb n.toNat 0 0 0 - 1, by omega⟩
    have e : (nf n).take ((nf n).length - 1) = BitVec.ofNat 8 (nb n.toNat 0 0 0) :: ((nf n).drop 1).take k := by
      rw [hl, show 1 + nb n.toNat 0 0 0 - 1 = k + 1 by omega]
      rfl
    unfold at8
    rw [hb, e, ← ha, List.getD_eq_getElem?_getD, List.getElem?_append_right (Nat.le_refl _), Nat.sub_self]
    show (BitVec.ofNat 8 (nb n.toNat 0 0 0)).toNat = _
    rw [BitVec.toNat_ofNat]
    exact Nat.mod_eq_of_lt (by omega)
  omega
theorem cut_body (p d bs : List (BitVec 8)) (n a : Nat) (hd : d.length = n) (hn : n ≤ 4096) (hb : bs = p ++ (fm [n, 0, 0, 0] (nb n 0 0 0) ++ d).take ((fm [n, 0, 0, 0] (nb n 0 0 0) ++ d).length - 1)) (ha : p.length = a) : ¬ cnE bs a 4096 = 0 := by
  intro h
  obtain ⟨h1, h2, h3⟩ := cnE_ok h
  have hl : (fm [n, 0, 0, 0] (nb n 0 0 0)).length = 1 + nb n 0 0 0 := by
    rw [fm_len]
    omega
  by_cases h0 : n = 0
  · subst h0
    obtain rfl := List.length_eq_zero_iff.1 hd
    refine cut_num p bs 0 a ?_ ha h1
    rw [hb, List.append_nil]
    rfl
  · have hbl : bs.length = a + nb n 0 0 0 + n := by
      rw [hb, List.length_append, List.length_take, List.length_append, ha, hl, hd]
      omega
    have e : (fm [n, 0, 0, 0] (nb n 0 0 0) ++ d).take ((fm [n, 0, 0, 0] (nb n 0 0 0) ++ d).length - 1) = fm [n, 0, 0, 0] (nb n 0 0 0) ++ d.take (n - 1) := by
      rw [List.take_append, List.length_append, hl, hd]
      congr 1
      · exact List.take_of_length_le (by rw [hl]; omega)
      · congr 1
        omega
    rw [e] at hb
    obtain ⟨s1, s2⟩ := sub_mid p _ _ bs a _ hb ha hl
    obtain ⟨k1, k2, k3⟩ := read_num n (by omega) bs a _ rfl s2 s1
    rw [k1, k3] at h3
    omega

end Go.Proofs.YtekgojokhjihfaaDoor
