/-
  the ladder: Drop, Confirm.
-/
import Derived.Test.YtddkmpbcjieolaaLaG
namespace Go.Proofs.Ytddkmpbcjieolaa
open Go Go.RowKit
open Sha

def La.drop (st : La) (nr : Int) : La × List Pn × Int := match fiN st.pend nr with
  | none => (st, [], 164)
  | some i => ({ st with pend := st.pend.take i }, st.pend.drop i, 0)
theorem La.take_ok {B : Int} {st : La} (h : st.Ok B) (i : Nat) : La.Ok B { st with pend := st.pend.take i } :=
  ⟨h.w1, h.w2, h.l0, h.l1, h.g0, h.g1, h.cf, h.cm, fun p hp => h.pw p (List.mem_of_mem_take hp), fun p hp => h.pm p (List.mem_of_mem_take hp), fun p hp => h.pd p (List.mem_of_mem_take hp), by show (st.pend.take i).length ≤ 32; rw [List.length_take]; have := h.pl; omega⟩
theorem cutL_some {g o cap i s : Nat} (h : i < cap) : cutL (some ⟨g, o, none⟩) cap i s = some ⟨g, o + i * s, none⟩ := by
  unfold cutL
  rw [if_neg (by omega), Option.map_some, Addr.add_mid]
theorem cutL_any (g o cap i s : Nat) : ∃ o2, cutL (some ⟨g, o, none⟩) cap i s = some ⟨g, o2, none⟩ ∧ (o2 = o ∧ cap = i ∨ o2 = o + i * s ∧ cap ≠ i) := by
  unfold cutL
  by_cases h : cap = i
  · exact ⟨o, by rw [if_pos h], .inl ⟨rfl, h⟩⟩
  · exact ⟨o + i * s, by rw [if_neg h, Option.map_some, Addr.add_mid], .inr ⟨rfl, h⟩⟩
def La.confirm (st : La) (now : Int) : La × Pn × Int := if (tmB now && decide (st.last ≤ now)) = false then (st, zP, 168) else match st.pend with
  | [] => (st, zP, 164)
  | x :: rest => if 0 < x.du then (st, zP, 166) else if now < x.dl then (st, zP, 165) else ({ st with last := now, conf := x.c, pend := rest }, x, 0)
theorem La.confirm_ok {B : Int} {st : La} (h : st.Ok B) {now : Int} (h0 : 0 ≤ now) (h1 : now ≤ 4611686018427387904) {x : Pn} {rest : List Pn} (hp : st.pend = x :: rest) : La.Ok B { st with last := now, conf := x.c, pend := rest } := by
  have hx : x ∈ st.pend := by rw [hp]; exact List.mem_cons_self ..
  have hr : ∀ q ∈ rest, q ∈ st.pend := fun q hq => by rw [hp]; exact List.mem_cons_of_mem _ hq
  exact ⟨h.w1, h.w2, h0, h1, h.g0, h.g1, (h.pw x hx).c, h.pm x hx, fun p hp => h.pw p (hr p hp), fun p hp => h.pm p (hr p hp), fun p hp => h.pd p (hr p hp), by have := h.pl; rw [hp, List.length_cons] at this; show rest.length ≤ 32; omega⟩
theorem La.set_conf {B : Int} {st : La} (h : st.Ok B) (v : Value) (c : Cm) (hc : c.Wf) : (st.cells v).take 3 ++ c.cells ++ (st.cells v).drop (3 + c.cells.length) = La.cells { st with conf := c } v := by
  rw [Cm.len hc]
  unfold La.cells
  simp only [List.take_succ_cons, List.take_zero, List.cons_append, List.nil_append]
  congr 4
  show List.drop 69 (_ :: _ :: _ :: (st.conf.cells ++ [v])) = [v]
  rw [List.drop_succ_cons, List.drop_succ_cons, List.drop_succ_cons, List.drop_append_of_le_length (by rw [Cm.len h.cf]; decide), List.drop_of_length_le (by rw [Cm.len h.cf]; decide), List.nil_append]
end Go.Proofs.Ytddkmpbcjieolaa
