/-
  No cell of these rows narrows 'for every input' (looked for: loops, veiled, ifaces, maps, wideKeys, modest, calm, conditions, laid).
  DERIVED. THE GIVEN ROWS OF THIS SEAT. 3 by the template 'for every input the law returns true; each argument reads behind the call as it read before'; 0 by the template 'total and deterministic' (their statements: YtabcglakdlkdcaaTotals.lean).
  GIVEN WITH THE SEED: the statements are not yours to turn. If you find one false, say at which input.
  Laid BY PROGRAM, IN A SANDBOX (cutbox-rows.mjs): the forced cells as the released guide's own fill.sh prints them over the translation 21f0f6ff685a52c7… (all of the seat's roots in one cut). By AI agents, Wed Nov 11 2026. No macro, syntax, notation, axiom, sorry.
-/
import Derived.Test.YtabcglakdlkdcaaChecked
import GoSem.Claim
import GoSem.ClaimJoined
import GoSem.ClaimMapViews
import Derived.JoinedTies
import Derived.KernelRfl
namespace Go.Proofs.Ytabcglakdlkdcaa
/- THE CELL 'sum', in the pinned program and in every row, IS THE sha256 OF THE DUMP (.gsa) THAT YtabcglakdlkdcaaProg.lean LOADS. Nothing in Lean hashes anything: it is a label: what it is worth is what the hold of that sum in a sandbox is worth. -/
noncomputable def Try.pinned : Pinned := { name := "ytabcglakdlkdcaa", sum := "21f0f6ff685a52c73e818a85ac3a71ba1e7bc579bf2b4875f8610735d153f286", checked := Try.checked }
namespace Rows
def none {H : Type} : Left H := { results := [], args := [] }

/-- 'causewaylaw10.MachineMeters': WHATEVER THE INPUT: true; the input reads as it did. -/
def machineMetersSpec : ChangeSpec := { name := "machineMeters", fn := fun _ => fun
  | [d1, d2] => { results := [.lit (.bool true)], args := [d1, d2] }
  | _ => none }
def machineMetersRow : OpenClaim := { program := "ytabcglakdlkdcaa", sum := "21f0f6ff685a52c73e818a85ac3a71ba1e7bc579bf2b4875f8610735d153f286", func := "causeway/causewaylaw10.MachineMeters", spec := "machineMeters", inPlace := ["math/bits.Add64", "math/bits.Sub64"], unfollowed := true, recurses := true, named := ["math/bits.divideError", "math/bits.overflowError"], apart := false }
def MachineMetersSaid : Prop := machineMetersRow.holds Try.pinned (OpenSpec.ofChange machineMetersSpec)

/-- ITS FALSE NEIGHBOUR: 'it returns false'. Refute it at one input. -/
def machineMetersWrong : ChangeSpec := { name := "machineMeters", fn := fun _ => fun
  | [d1, d2] => { results := [.lit (.bool false)], args := [d1, d2] }
  | _ => none }
def MachineMetersWrongFalsely : Prop := machineMetersRow.holds Try.pinned (OpenSpec.ofChange machineMetersWrong)

/-- 'causewaylaw10.MachineHosts': WHATEVER THE INPUT: true; the input reads as it did. -/
def machineHostsSpec : ChangeSpec := { name := "machineHosts", fn := fun _ => fun
  | [d1, d2, d3] => { results := [.lit (.bool true)], args := [d1, d2, d3] }
  | _ => none }
def machineHostsRow : OpenClaim := { program := "ytabcglakdlkdcaa", sum := "21f0f6ff685a52c73e818a85ac3a71ba1e7bc579bf2b4875f8610735d153f286", func := "causeway/causewaylaw10.MachineHosts", spec := "machineHosts", inPlace := ["math/bits.Add64", "math/bits.Sub64"], unfollowed := true, recurses := true, named := ["math/bits.divideError", "math/bits.overflowError"], apart := false }
def MachineHostsSaid : Prop := machineHostsRow.holds Try.pinned (OpenSpec.ofChange machineHostsSpec)

/-- ITS FALSE NEIGHBOUR: 'it returns false'. Refute it at one input. -/
def machineHostsWrong : ChangeSpec := { name := "machineHosts", fn := fun _ => fun
  | [d1, d2, d3] => { results := [.lit (.bool false)], args := [d1, d2, d3] }
  | _ => none }
def MachineHostsWrongFalsely : Prop := machineHostsRow.holds Try.pinned (OpenSpec.ofChange machineHostsWrong)

/-- 'causewaylaw10.MachineNested': WHATEVER THE INPUT: true; the input reads as it did. -/
def machineNestedSpec : ChangeSpec := { name := "machineNested", fn := fun _ => fun
  | [d1, d2] => { results := [.lit (.bool true)], args := [d1, d2] }
  | _ => none }
def machineNestedRow : OpenClaim := { program := "ytabcglakdlkdcaa", sum := "21f0f6ff685a52c73e818a85ac3a71ba1e7bc579bf2b4875f8610735d153f286", func := "causeway/causewaylaw10.MachineNested", spec := "machineNested", inPlace := ["math/bits.Add64", "math/bits.Sub64"], unfollowed := true, recurses := true, named := ["math/bits.divideError", "math/bits.overflowError"], apart := false }
def MachineNestedSaid : Prop := machineNestedRow.holds Try.pinned (OpenSpec.ofChange machineNestedSpec)

/-- ITS FALSE NEIGHBOUR: 'it returns false'. Refute it at one input. -/
def machineNestedWrong : ChangeSpec := { name := "machineNested", fn := fun _ => fun
  | [d1, d2] => { results := [.lit (.bool false)], args := [d1, d2] }
  | _ => none }
def MachineNestedWrongFalsely : Prop := machineNestedRow.holds Try.pinned (OpenSpec.ofChange machineNestedWrong)

/- THE SECOND FORM. 'bulk': how many values and letters a reading holds, each counted each time it is reached (what is shared counts as often as it is met; a slice's spare places count too). A statement '..UptoSaid' is the law's where the arguments, and the package variables that the reading takes, are together of bulk at most 1048576: NARROWER than '..Said'. Prove '..Said' where nothing that the law and all that it calls make is longer than what came in: it says more and counts as full. Else prove '..UptoSaid'. A law counts once. -/
mutual
def uptoBulk {H : Type} : DataW H → Nat
  | .lit (.string bytes) => bytes.length + 1
  | .lit _ => 1
  | .nil => 1
  | .ptr d => uptoBulk d + 1
  | .slice elems spare => uptoBulkAll elems + uptoBulkAll spare + 1
  | .agg parts => uptoBulkAll parts + 1
  | .iface _ d => uptoBulk d + 1
  | .map entries => uptoBulkEntries entries + 1
  | .held _ => 1
def uptoBulkAll {H : Type} : List (DataW H) → Nat
  | [] => 0
  | d :: r => uptoBulk d + uptoBulkAll r
def uptoBulkEntries {H : Type} : List (Lit × DataW H) → Nat
  | [] => 0
  | x :: r => uptoBulkEntry x + uptoBulkEntries r
def uptoBulkEntry {H : Type} : Lit × DataW H → Nat
  | (.string bytes, d) => bytes.length + uptoBulk d + 1
  | (_, d) => uptoBulk d + 1
 end
def uptoSmall : (H : Type) → List (DataW H) → Bool := fun _ ds => decide (uptoBulkAll ds ≤ 1048576)
def OpenSpec.upto (s : _root_.Go.ChangeSpec) : _root_.Go.OpenSpec := { _root_.Go.OpenSpec.ofChange s with cond := some uptoSmall }

/-- 'causewaylaw10.MachineMeters', WHERE WHAT IT READS IS OF BULK AT MOST 1048576: true; the input reads as it did. -/
def machineMetersUptoRow : OpenClaim := { program := "ytabcglakdlkdcaa", sum := "21f0f6ff685a52c73e818a85ac3a71ba1e7bc579bf2b4875f8610735d153f286", func := "causeway/causewaylaw10.MachineMeters", spec := "machineMeters", inPlace := ["math/bits.Add64", "math/bits.Sub64"], unfollowed := true, recurses := true, named := ["math/bits.divideError", "math/bits.overflowError"], apart := false, narrowed := true }
def MachineMetersUptoSaid : Prop := machineMetersUptoRow.holds Try.pinned (OpenSpec.upto machineMetersSpec)

/-- 'causewaylaw10.MachineHosts', WHERE WHAT IT READS IS OF BULK AT MOST 1048576: true; the input reads as it did. -/
def machineHostsUptoRow : OpenClaim := { program := "ytabcglakdlkdcaa", sum := "21f0f6ff685a52c73e818a85ac3a71ba1e7bc579bf2b4875f8610735d153f286", func := "causeway/causewaylaw10.MachineHosts", spec := "machineHosts", inPlace := ["math/bits.Add64", "math/bits.Sub64"], unfollowed := true, recurses := true, named := ["math/bits.divideError", "math/bits.overflowError"], apart := false, narrowed := true }
def MachineHostsUptoSaid : Prop := machineHostsUptoRow.holds Try.pinned (OpenSpec.upto machineHostsSpec)

/-- 'causewaylaw10.MachineNested', WHERE WHAT IT READS IS OF BULK AT MOST 1048576: true; the input reads as it did. -/
def machineNestedUptoRow : OpenClaim := { program := "ytabcglakdlkdcaa", sum := "21f0f6ff685a52c73e818a85ac3a71ba1e7bc579bf2b4875f8610735d153f286", func := "causeway/causewaylaw10.MachineNested", spec := "machineNested", inPlace := ["math/bits.Add64", "math/bits.Sub64"], unfollowed := true, recurses := true, named := ["math/bits.divideError", "math/bits.overflowError"], apart := false, narrowed := true }
def MachineNestedUptoSaid : Prop := machineNestedUptoRow.holds Try.pinned (OpenSpec.upto machineNestedSpec)

end Rows
end Go.Proofs.Ytabcglakdlkdcaa
