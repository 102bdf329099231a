/-
  DERIVED. GIVEN WITH THE SEED: THE CARDS: each row of YtehccmlbnfhhmaaDoorRows.lean that lists a variable, with what it lists TIED to the program's text (the seventh form; the later family's looks); each row that meets fmt, with fmt's text TOLD by the authors' own Lean function (tested against real Go, not proved from fmt's source: count such statements apart). THE CARD IS WHAT COUNTS. Prove the row's statement (the work); the ties are given (YtehccmlbnfhhmaaDoorTie.lean); close each card by the builder's one call (the guide's Derived/Test/ToyasCard.lean, 'card_holds'). Laid BY PROGRAM, IN A SANDBOX (cutbox-door.mjs). By AI agents, Wed Nov 11 2026. No macro, syntax, notation, axiom, sorry.
-/
import Derived.Test.YtehccmlbnfhhmaaDoorRows
import GoSem.ClaimSeven
namespace Go.Proofs.YtehccmlbnfhhmaaDoor
namespace Rows

/-- THE TIED CARD OF 'causewaylaw02.WideSums'. -/
def wideSumsCard : Claim7 := { stood := { row := wideSumsRow, standIns := [], harness := (true, "2541995ed3c78ed74cac4147868a97d8a022701a02492224682c93fdab25dc99"), looks := false }, kinds := [], alts := [], laidByText := true, laidKinds := [.data, .data, .data], laidTests := true, laidLooks := .later }
def WideSumsCardSaid : Prop := Claim7.holds Tryd.pinned (.plain (OpenSpec.ofChange wideSumsSpec)) wideSumsCard

/-- THE TIED CARD OF 'causewaylaw02.WideParts'. -/
def widePartsCard : Claim7 := { stood := { row := widePartsRow, standIns := [], harness := (true, "2541995ed3c78ed74cac4147868a97d8a022701a02492224682c93fdab25dc99"), looks := false }, kinds := [], alts := [], laidByText := true, laidKinds := [.data, .data, .data], laidTests := true, laidLooks := .later }
def WidePartsCardSaid : Prop := Claim7.holds Tryd.pinned (.plain (OpenSpec.ofChange widePartsSpec)) widePartsCard

/-- THE TIED CARD OF 'causewaylaw02.WideOrders'. -/
def wideOrdersCard : Claim7 := { stood := { row := wideOrdersRow, standIns := [], harness := (true, "2541995ed3c78ed74cac4147868a97d8a022701a02492224682c93fdab25dc99"), looks := false }, kinds := [], alts := [], laidByText := true, laidKinds := [.data, .data, .data], laidTests := true, laidLooks := .later }
def WideOrdersCardSaid : Prop := Claim7.holds Tryd.pinned (.plain (OpenSpec.ofChange wideOrdersSpec)) wideOrdersCard

/-- THE TIED CARD OF 'causewaylaw02.WideLists'. -/
def wideListsCard : Claim7 := { stood := { row := wideListsRow, standIns := [], harness := (true, "2541995ed3c78ed74cac4147868a97d8a022701a02492224682c93fdab25dc99"), looks := false }, kinds := [], alts := [], laidByText := true, laidKinds := [.data, .data, .data], laidTests := true, laidLooks := .later }
def WideListsCardSaid : Prop := Claim7.holds Tryd.pinned (.plain (OpenSpec.ofChange wideListsSpec)) wideListsCard

/-- THE TIED CARD OF 'causewaylaw02.WideBytes'. -/
def wideBytesCard : Claim7 := { stood := { row := wideBytesRow, standIns := [], harness := (true, "2541995ed3c78ed74cac4147868a97d8a022701a02492224682c93fdab25dc99"), looks := false }, kinds := [], alts := [], laidByText := true, laidKinds := [.data, .data, .data], laidTests := true, laidLooks := .later }
def WideBytesCardSaid : Prop := Claim7.holds Tryd.pinned (.plain (OpenSpec.ofChange wideBytesSpec)) wideBytesCard

/-- THE TIED CARD OF 'causewaylaw02.WideTexts'. -/
def wideTextsCard : Claim7 := { stood := { row := wideTextsRow, standIns := [], harness := (true, "2541995ed3c78ed74cac4147868a97d8a022701a02492224682c93fdab25dc99"), looks := false }, kinds := [], alts := [], laidByText := true, laidKinds := [.data, .data, .data], laidTests := true, laidLooks := .later }
def WideTextsCardSaid : Prop := Claim7.holds Tryd.pinned (.plain (OpenSpec.ofChange wideTextsSpec)) wideTextsCard

/-- THE SECOND FORM's CARD OF 'causewaylaw02.WideSums'. -/
def wideSumsUptoCard : Claim7 := { stood := { row := wideSumsUptoRow, standIns := [], harness := (true, "2541995ed3c78ed74cac4147868a97d8a022701a02492224682c93fdab25dc99"), looks := false }, kinds := [], alts := [], laidByText := true, laidKinds := [.data, .data, .data], laidTests := true, laidLooks := .later }
def WideSumsUptoCardSaid : Prop := Claim7.holds Tryd.pinned (.plain (OpenSpec.upto wideSumsSpec)) wideSumsUptoCard

/-- THE SECOND FORM's CARD OF 'causewaylaw02.WideParts'. -/
def widePartsUptoCard : Claim7 := { stood := { row := widePartsUptoRow, standIns := [], harness := (true, "2541995ed3c78ed74cac4147868a97d8a022701a02492224682c93fdab25dc99"), looks := false }, kinds := [], alts := [], laidByText := true, laidKinds := [.data, .data, .data], laidTests := true, laidLooks := .later }
def WidePartsUptoCardSaid : Prop := Claim7.holds Tryd.pinned (.plain (OpenSpec.upto widePartsSpec)) widePartsUptoCard

/-- THE SECOND FORM's CARD OF 'causewaylaw02.WideOrders'. -/
def wideOrdersUptoCard : Claim7 := { stood := { row := wideOrdersUptoRow, standIns := [], harness := (true, "2541995ed3c78ed74cac4147868a97d8a022701a02492224682c93fdab25dc99"), looks := false }, kinds := [], alts := [], laidByText := true, laidKinds := [.data, .data, .data], laidTests := true, laidLooks := .later }
def WideOrdersUptoCardSaid : Prop := Claim7.holds Tryd.pinned (.plain (OpenSpec.upto wideOrdersSpec)) wideOrdersUptoCard

/-- THE SECOND FORM's CARD OF 'causewaylaw02.WideLists'. -/
def wideListsUptoCard : Claim7 := { stood := { row := wideListsUptoRow, standIns := [], harness := (true, "2541995ed3c78ed74cac4147868a97d8a022701a02492224682c93fdab25dc99"), looks := false }, kinds := [], alts := [], laidByText := true, laidKinds := [.data, .data, .data], laidTests := true, laidLooks := .later }
def WideListsUptoCardSaid : Prop := Claim7.holds Tryd.pinned (.plain (OpenSpec.upto wideListsSpec)) wideListsUptoCard

/-- THE SECOND FORM's CARD OF 'causewaylaw02.WideBytes'. -/
def wideBytesUptoCard : Claim7 := { stood := { row := wideBytesUptoRow, standIns := [], harness := (true, "2541995ed3c78ed74cac4147868a97d8a022701a02492224682c93fdab25dc99"), looks := false }, kinds := [], alts := [], laidByText := true, laidKinds := [.data, .data, .data], laidTests := true, laidLooks := .later }
def WideBytesUptoCardSaid : Prop := Claim7.holds Tryd.pinned (.plain (OpenSpec.upto wideBytesSpec)) wideBytesUptoCard

/-- THE SECOND FORM's CARD OF 'causewaylaw02.WideTexts'. -/
def wideTextsUptoCard : Claim7 := { stood := { row := wideTextsUptoRow, standIns := [], harness := (true, "2541995ed3c78ed74cac4147868a97d8a022701a02492224682c93fdab25dc99"), looks := false }, kinds := [], alts := [], laidByText := true, laidKinds := [.data, .data, .data], laidTests := true, laidLooks := .later }
def WideTextsUptoCardSaid : Prop := Claim7.holds Tryd.pinned (.plain (OpenSpec.upto wideTextsSpec)) wideTextsUptoCard
end Rows
end Go.Proofs.YtehccmlbnfhhmaaDoor
