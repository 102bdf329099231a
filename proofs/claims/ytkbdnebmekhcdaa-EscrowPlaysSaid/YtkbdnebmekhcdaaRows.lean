/-
  No cell of these rows narrows 'for every input' (looked for: loops, veiled, ifaces, maps, wideKeys, modest, calm, conditions, laid).
  DERIVED. THE GIVEN ROWS OF THIS SEAT. 5 by the template 'for every input the law returns true; each argument reads behind the call as it read before'; 0 by the template 'total and deterministic' (their statements: YtkbdnebmekhcdaaTotals.lean).
  GIVEN WITH THE SEED: the statements are not yours to turn. If you find one false, say at which input.
  Laid BY PROGRAM, IN A SANDBOX (cutbox-rows.mjs): the forced cells as the released guide's own fill.sh prints them over the translation 88c99939a6ebb849… (all of the seat's roots in one cut). By AI agents, Wed Nov 11 2026. No macro, syntax, notation, axiom, sorry.
-/
import Derived.Test.YtkbdnebmekhcdaaChecked
import GoSem.Claim
import GoSem.ClaimJoined
import GoSem.ClaimMapViews
import Derived.JoinedTies
import Derived.KernelRfl
namespace Go.Proofs.Ytkbdnebmekhcdaa
/- THE CELL 'sum', in the pinned program and in every row, IS THE sha256 OF THE DUMP (.gsa) THAT YtkbdnebmekhcdaaProg.lean LOADS. Nothing in Lean hashes anything: it is a label: what it is worth is what the hold of that sum in a sandbox is worth. -/
noncomputable def Try.pinned : Pinned := { name := "ytkbdnebmekhcdaa", sum := "88c99939a6ebb8494c62c86408117deba96794e1bd8bcb7e1973955e2e67ea7c", checked := Try.checked }
namespace Rows
def none {H : Type} : Left H := { results := [], args := [] }

/-- 'causewaylaw14.EscrowPlays': WHATEVER THE INPUT: true; the input reads as it did. -/
def escrowPlaysSpec : ChangeSpec := { name := "escrowPlays", fn := fun _ => fun
  | [d] => { results := [.lit (.bool true)], args := [d] }
  | _ => none }
def escrowPlaysRow : OpenClaim := { program := "ytkbdnebmekhcdaa", sum := "88c99939a6ebb8494c62c86408117deba96794e1bd8bcb7e1973955e2e67ea7c", func := "causeway/causewaylaw14.EscrowPlays", spec := "escrowPlays", inPlace := ["math/bits.Add64", "math/bits.Sub64", "maps.clone"], apart := false }
def EscrowPlaysSaid : Prop := escrowPlaysRow.holds Try.pinned (OpenSpec.ofChange escrowPlaysSpec)

/-- ITS FALSE NEIGHBOUR: 'it returns false'. Refute it at one input. -/
def escrowPlaysWrong : ChangeSpec := { name := "escrowPlays", fn := fun _ => fun
  | [d] => { results := [.lit (.bool false)], args := [d] }
  | _ => none }
def EscrowPlaysWrongFalsely : Prop := escrowPlaysRow.holds Try.pinned (OpenSpec.ofChange escrowPlaysWrong)

/-- 'causewaylaw14.EscrowHeld': WHATEVER THE INPUT: true; the input reads as it did. -/
def escrowHeldSpec : ChangeSpec := { name := "escrowHeld", fn := fun _ => fun
  | [d] => { results := [.lit (.bool true)], args := [d] }
  | _ => none }
def escrowHeldRow : OpenClaim := { program := "ytkbdnebmekhcdaa", sum := "88c99939a6ebb8494c62c86408117deba96794e1bd8bcb7e1973955e2e67ea7c", func := "causeway/causewaylaw14.EscrowHeld", spec := "escrowHeld", inPlace := ["math/bits.Add64", "math/bits.Sub64"], apart := false }
def EscrowHeldSaid : Prop := escrowHeldRow.holds Try.pinned (OpenSpec.ofChange escrowHeldSpec)

/-- ITS FALSE NEIGHBOUR: 'it returns false'. Refute it at one input. -/
def escrowHeldWrong : ChangeSpec := { name := "escrowHeld", fn := fun _ => fun
  | [d] => { results := [.lit (.bool false)], args := [d] }
  | _ => none }
def EscrowHeldWrongFalsely : Prop := escrowHeldRow.holds Try.pinned (OpenSpec.ofChange escrowHeldWrong)

/-- 'causewaylaw14.EscrowOnce': WHATEVER THE INPUT: true; the input reads as it did. -/
def escrowOnceSpec : ChangeSpec := { name := "escrowOnce", fn := fun _ => fun
  | [d] => { results := [.lit (.bool true)], args := [d] }
  | _ => none }
def escrowOnceRow : OpenClaim := { program := "ytkbdnebmekhcdaa", sum := "88c99939a6ebb8494c62c86408117deba96794e1bd8bcb7e1973955e2e67ea7c", func := "causeway/causewaylaw14.EscrowOnce", spec := "escrowOnce", inPlace := ["math/bits.Add64", "math/bits.Sub64", "maps.clone"], apart := false }
def EscrowOnceSaid : Prop := escrowOnceRow.holds Try.pinned (OpenSpec.ofChange escrowOnceSpec)

/-- ITS FALSE NEIGHBOUR: 'it returns false'. Refute it at one input. -/
def escrowOnceWrong : ChangeSpec := { name := "escrowOnce", fn := fun _ => fun
  | [d] => { results := [.lit (.bool false)], args := [d] }
  | _ => none }
def EscrowOnceWrongFalsely : Prop := escrowOnceRow.holds Try.pinned (OpenSpec.ofChange escrowOnceWrong)

/-- 'causewaylaw14.EscrowRefused': WHATEVER THE INPUT: true; the input reads as it did. -/
def escrowRefusedSpec : ChangeSpec := { name := "escrowRefused", fn := fun _ => fun
  | [d] => { results := [.lit (.bool true)], args := [d] }
  | _ => none }
def escrowRefusedRow : OpenClaim := { program := "ytkbdnebmekhcdaa", sum := "88c99939a6ebb8494c62c86408117deba96794e1bd8bcb7e1973955e2e67ea7c", func := "causeway/causewaylaw14.EscrowRefused", spec := "escrowRefused", inPlace := ["math/bits.Add64", "math/bits.Sub64"], apart := false }
def EscrowRefusedSaid : Prop := escrowRefusedRow.holds Try.pinned (OpenSpec.ofChange escrowRefusedSpec)

/-- ITS FALSE NEIGHBOUR: 'it returns false'. Refute it at one input. -/
def escrowRefusedWrong : ChangeSpec := { name := "escrowRefused", fn := fun _ => fun
  | [d] => { results := [.lit (.bool false)], args := [d] }
  | _ => none }
def EscrowRefusedWrongFalsely : Prop := escrowRefusedRow.holds Try.pinned (OpenSpec.ofChange escrowRefusedWrong)

/-- 'causewaylaw14.EscrowGives': WHATEVER THE INPUT: true; the input reads as it did. -/
def escrowGivesSpec : ChangeSpec := { name := "escrowGives", fn := fun _ => fun
  | [d] => { results := [.lit (.bool true)], args := [d] }
  | _ => none }
def escrowGivesRow : OpenClaim := { program := "ytkbdnebmekhcdaa", sum := "88c99939a6ebb8494c62c86408117deba96794e1bd8bcb7e1973955e2e67ea7c", func := "causeway/causewaylaw14.EscrowGives", spec := "escrowGives", inPlace := ["math/bits.Add64", "math/bits.Sub64"], apart := false }
def EscrowGivesSaid : Prop := escrowGivesRow.holds Try.pinned (OpenSpec.ofChange escrowGivesSpec)

/-- ITS FALSE NEIGHBOUR: 'it returns false'. Refute it at one input. -/
def escrowGivesWrong : ChangeSpec := { name := "escrowGives", fn := fun _ => fun
  | [d] => { results := [.lit (.bool false)], args := [d] }
  | _ => none }
def EscrowGivesWrongFalsely : Prop := escrowGivesRow.holds Try.pinned (OpenSpec.ofChange escrowGivesWrong)

/- THE SECOND FORM. 'bulk': how many values and letters a reading holds, each counted each time it is reached (what is shared counts as often as it is met; a slice's spare places count too). A statement '..UptoSaid' is the law's where the arguments, and the package variables that the reading takes, are together of bulk at most 1048576: NARROWER than '..Said'. Prove '..Said' where nothing that the law and all that it calls make is longer than what came in: it says more and counts as full. Else prove '..UptoSaid'. A law counts once. -/
mutual
def uptoBulk {H : Type} : DataW H → Nat
  | .lit (.string bytes) => bytes.length + 1
  | .lit _ => 1
  | .nil => 1
  | .ptr d => uptoBulk d + 1
  | .slice elems spare => uptoBulkAll elems + uptoBulkAll spare + 1
  | .agg parts => uptoBulkAll parts + 1
  | .iface _ d => uptoBulk d + 1
  | .map entries => uptoBulkEntries entries + 1
  | .held _ => 1
def uptoBulkAll {H : Type} : List (DataW H) → Nat
  | [] => 0
  | d :: r => uptoBulk d + uptoBulkAll r
def uptoBulkEntries {H : Type} : List (Lit × DataW H) → Nat
  | [] => 0
  | x :: r => uptoBulkEntry x + uptoBulkEntries r
def uptoBulkEntry {H : Type} : Lit × DataW H → Nat
  | (.string bytes, d) => bytes.length + uptoBulk d + 1
  | (_, d) => uptoBulk d + 1
 end
def uptoSmall : (H : Type) → List (DataW H) → Bool := fun _ ds => decide (uptoBulkAll ds ≤ 1048576)
def OpenSpec.upto (s : _root_.Go.ChangeSpec) : _root_.Go.OpenSpec := { _root_.Go.OpenSpec.ofChange s with cond := some uptoSmall }

/-- 'causewaylaw14.EscrowPlays', WHERE WHAT IT READS IS OF BULK AT MOST 1048576: true; the input reads as it did. -/
def escrowPlaysUptoRow : OpenClaim := { program := "ytkbdnebmekhcdaa", sum := "88c99939a6ebb8494c62c86408117deba96794e1bd8bcb7e1973955e2e67ea7c", func := "causeway/causewaylaw14.EscrowPlays", spec := "escrowPlays", inPlace := ["math/bits.Add64", "math/bits.Sub64", "maps.clone"], apart := false, narrowed := true }
def EscrowPlaysUptoSaid : Prop := escrowPlaysUptoRow.holds Try.pinned (OpenSpec.upto escrowPlaysSpec)

/-- 'causewaylaw14.EscrowHeld', WHERE WHAT IT READS IS OF BULK AT MOST 1048576: true; the input reads as it did. -/
def escrowHeldUptoRow : OpenClaim := { program := "ytkbdnebmekhcdaa", sum := "88c99939a6ebb8494c62c86408117deba96794e1bd8bcb7e1973955e2e67ea7c", func := "causeway/causewaylaw14.EscrowHeld", spec := "escrowHeld", inPlace := ["math/bits.Add64", "math/bits.Sub64"], apart := false, narrowed := true }
def EscrowHeldUptoSaid : Prop := escrowHeldUptoRow.holds Try.pinned (OpenSpec.upto escrowHeldSpec)

/-- 'causewaylaw14.EscrowOnce', WHERE WHAT IT READS IS OF BULK AT MOST 1048576: true; the input reads as it did. -/
def escrowOnceUptoRow : OpenClaim := { program := "ytkbdnebmekhcdaa", sum := "88c99939a6ebb8494c62c86408117deba96794e1bd8bcb7e1973955e2e67ea7c", func := "causeway/causewaylaw14.EscrowOnce", spec := "escrowOnce", inPlace := ["math/bits.Add64", "math/bits.Sub64", "maps.clone"], apart := false, narrowed := true }
def EscrowOnceUptoSaid : Prop := escrowOnceUptoRow.holds Try.pinned (OpenSpec.upto escrowOnceSpec)

/-- 'causewaylaw14.EscrowRefused', WHERE WHAT IT READS IS OF BULK AT MOST 1048576: true; the input reads as it did. -/
def escrowRefusedUptoRow : OpenClaim := { program := "ytkbdnebmekhcdaa", sum := "88c99939a6ebb8494c62c86408117deba96794e1bd8bcb7e1973955e2e67ea7c", func := "causeway/causewaylaw14.EscrowRefused", spec := "escrowRefused", inPlace := ["math/bits.Add64", "math/bits.Sub64"], apart := false, narrowed := true }
def EscrowRefusedUptoSaid : Prop := escrowRefusedUptoRow.holds Try.pinned (OpenSpec.upto escrowRefusedSpec)

/-- 'causewaylaw14.EscrowGives', WHERE WHAT IT READS IS OF BULK AT MOST 1048576: true; the input reads as it did. -/
def escrowGivesUptoRow : OpenClaim := { program := "ytkbdnebmekhcdaa", sum := "88c99939a6ebb8494c62c86408117deba96794e1bd8bcb7e1973955e2e67ea7c", func := "causeway/causewaylaw14.EscrowGives", spec := "escrowGives", inPlace := ["math/bits.Add64", "math/bits.Sub64"], apart := false, narrowed := true }
def EscrowGivesUptoSaid : Prop := escrowGivesUptoRow.holds Try.pinned (OpenSpec.upto escrowGivesSpec)

end Rows
end Go.Proofs.Ytkbdnebmekhcdaa
