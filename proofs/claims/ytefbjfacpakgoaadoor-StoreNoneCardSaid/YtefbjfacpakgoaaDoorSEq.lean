/-
  Slices, maps and interfaces against nil.
-/
import Derived.Test.YtefbjfacpakgoaaDoorXMem
namespace Go.Proofs.YtefbjfacpakgoaaDoor
open Go Go.RowKit
open Sha

theorem slnil_eq (w : World) : (binOp .eql 22 (.slice none 0 0) (.slice none 0 0)).run Tryd.prog w = .ok (.bool true) w := by
  have h1 : ∀ d, (Op.equalIn (d + 1) 22 (.slice none 0 0) (.slice none 0 0)).run Tryd.prog w = .ok true w := fun d => by simp [Op.equalIn, run_underlying Tryd.underlying22]
  have h2 : (Op.equal 22 (.slice none 0 0) (.slice none 0 0)).run Tryd.prog w = .ok true w := h1 9999
  simp only [binOp]
  simp [h2]
theorem slsome_eq (a : Addr) (n c : Nat) (w : World) : (binOp .eql 22 (.slice (some a) n c) (.slice none 0 0)).run Tryd.prog w = .ok (.bool false) w := by
  have h1 : ∀ d, (Op.equalIn (d + 1) 22 (.slice (some a) n c) (.slice none 0 0)).run Tryd.prog w = .ok false w := fun d => by simp [Op.equalIn, run_underlying Tryd.underlying22]
  have h2 : (Op.equal 22 (.slice (some a) n c) (.slice none 0 0)).run Tryd.prog w = .ok false w := h1 9999
  simp only [binOp]
  simp [h2]
theorem mapnil_eq (w : World) : (binOp .eql 42 (.map none) (.map none)).run Tryd.prog w = .ok (.bool true) w := by
  have h1 : ∀ d, (Op.equalIn (d + 1) 42 (.map none) (.map none)).run Tryd.prog w = .ok true w := fun d => by simp [Op.equalIn, run_underlying Tryd.underlying42]
  have h2 : (Op.equal 42 (.map none) (.map none)).run Tryd.prog w = .ok true w := h1 9999
  simp only [binOp]
  simp [h2]
theorem mapsome_eq (b : Nat) (w : World) : (binOp .eql 42 (.map (some b)) (.map none)).run Tryd.prog w = .ok (.bool false) w := by
  have h1 : ∀ d, (Op.equalIn (d + 1) 42 (.map (some b)) (.map none)).run Tryd.prog w = .ok false w := fun d => by simp [Op.equalIn, run_underlying Tryd.underlying42]
  have h2 : (Op.equal 42 (.map (some b)) (.map none)).run Tryd.prog w = .ok false w := h1 9999
  simp only [binOp]
  simp [h2]
theorem ifnil_eq (w : World) : (binOp .eql 36 .nilIface .nilIface).run Tryd.prog w = .ok (.bool true) w := by
  have h1 : ∀ d, (Op.equalIn (d + 1) 36 .nilIface .nilIface).run Tryd.prog w = .ok true w := fun d => by simp [Op.equalIn, run_underlying Tryd.underlying36]
  have h2 : (Op.equal 36 .nilIface .nilIface).run Tryd.prog w = .ok true w := h1 9999
  simp only [binOp]
  simp [h2]
theorem ifsome_eq (t : TypeId) (v : Value) (w : World) : (binOp .eql 36 (.iface t v) .nilIface).run Tryd.prog w = .ok (.bool false) w := by
  have h1 : ∀ d, (Op.equalIn (d + 1) 36 (.iface t v) .nilIface).run Tryd.prog w = .ok false w := fun d => by simp [Op.equalIn, run_underlying Tryd.underlying36]
  have h2 : (Op.equal 36 (.iface t v) .nilIface).run Tryd.prog w = .ok false w := h1 9999
  simp only [binOp]
  simp [h2]

end Go.Proofs.YtefbjfacpakgoaaDoor
