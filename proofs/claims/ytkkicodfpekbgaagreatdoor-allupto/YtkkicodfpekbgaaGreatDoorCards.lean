/-
  DERIVED. GIVEN WITH THE SEED: THE CARDS: each row of YtkkicodfpekbgaaGreatDoorRows.lean that lists a variable, with what it lists TIED to the program's text (the seventh form; the later family's looks); each row that meets fmt, with fmt's text TOLD by the authors' own Lean function (tested against real Go, not proved from fmt's source: count such statements apart). THE CARD IS WHAT COUNTS. Prove the row's statement (the work); the ties are given (YtkkicodfpekbgaaGreatDoorTie.lean); close each card by the builder's one call (the guide's Derived/Test/ToyasCard.lean, 'card_holds'). Laid BY PROGRAM, IN A SANDBOX (cutbox-door.mjs). By AI agents, Wed Nov 11 2026. No macro, syntax, notation, axiom, sorry.
-/
import Derived.Test.YtkkicodfpekbgaaGreatDoorRows
import GoSem.ClaimSeven
namespace Go.Proofs.YtkkicodfpekbgaaGreatDoor
namespace Rows

/-- THE TIED CARD OF 'hallmarklaw.Checks'. -/
def checksCard : Claim7 := { stood := { row := checksRow, standIns := [], harness := (true, "ee222bce397d541b0c121dd7ebb517b4f538ad9e0923e2a35328a4fd5bb8f56a"), looks := true }, kinds := [], alts := [], laidByText := true, laidKinds := [.data, .sentinel, .sentinel, .sentinel, .sentinel, .sentinel, .sentinel, .sentinel, .sentinel, .sentinel, .sentinel, .sentinel, .sentinel, .sentinel, .data, .data, .pinned], laidTests := true, laidLooks := .later }
def ChecksCardSaid : Prop := Claim7.holds Tryz.pinned (.plain (OpenSpec.ofChange checksSpec)) checksCard

/-- THE TIED CARD OF 'hallmarklaw.Decodes'. -/
def decodesCard : Claim7 := { stood := { row := decodesRow, standIns := [], harness := (true, "ee222bce397d541b0c121dd7ebb517b4f538ad9e0923e2a35328a4fd5bb8f56a"), looks := true }, kinds := [], alts := [], laidByText := true, laidKinds := [.data, .handle, .sentinel, .sentinel, .sentinel, .sentinel, .sentinel, .sentinel, .sentinel, .sentinel, .sentinel, .sentinel, .sentinel, .sentinel, .sentinel, .data, .data, .pinned], laidTests := true, laidLooks := .later }
def DecodesCardSaid : Prop := Claim7.holds Tryz.pinned (.plain (OpenSpec.ofChange decodesSpec)) decodesCard

/-- THE TIED CARD OF 'hallmarklaw.Encodes'. -/
def encodesCard : Claim7 := { stood := { row := encodesRow, standIns := [], harness := (true, "ee222bce397d541b0c121dd7ebb517b4f538ad9e0923e2a35328a4fd5bb8f56a"), looks := true }, kinds := [], alts := [], laidByText := true, laidKinds := [.data, .sentinel, .sentinel, .sentinel, .sentinel, .sentinel, .sentinel, .sentinel, .sentinel, .sentinel, .sentinel, .sentinel, .sentinel, .sentinel, .data, .data, .pinned], laidTests := true, laidLooks := .later }
def EncodesCardSaid : Prop := Claim7.holds Tryz.pinned (.plain (OpenSpec.ofChange encodesSpec)) encodesCard

/-- THE TIED CARD OF 'hallmarkkeep.Round'. -/
def roundCard : Claim7 := { stood := { row := roundRow, standIns := [], harness := (true, "ee222bce397d541b0c121dd7ebb517b4f538ad9e0923e2a35328a4fd5bb8f56a"), looks := true }, kinds := [], alts := [], laidByText := true, laidKinds := [.data, .handle, .sentinel, .sentinel, .sentinel, .sentinel, .sentinel, .sentinel, .sentinel, .sentinel, .sentinel, .sentinel, .sentinel, .sentinel, .sentinel, .data, .data, .pinned], laidTests := true, laidLooks := .later }
def RoundCardSaid : Prop := Claim7.holds Tryz.pinned (.plain (OpenSpec.ofChange roundSpec)) roundCard

/-- THE TIED CARD OF 'hallmarkkeep.Unique'. -/
def uniqueCard : Claim7 := { stood := { row := uniqueRow, standIns := [], harness := (true, "ee222bce397d541b0c121dd7ebb517b4f538ad9e0923e2a35328a4fd5bb8f56a"), looks := true }, kinds := [], alts := [], laidByText := true, laidKinds := [.data, .handle, .sentinel, .sentinel, .sentinel, .sentinel, .sentinel, .sentinel, .sentinel, .sentinel, .sentinel, .sentinel, .sentinel, .sentinel, .sentinel, .data, .data, .pinned], laidTests := true, laidLooks := .later }
def UniqueCardSaid : Prop := Claim7.holds Tryz.pinned (.plain (OpenSpec.ofChange uniqueSpec)) uniqueCard

/-- THE TIED CARD OF 'hallmarkkeep.Sorted'. -/
def sortedCard : Claim7 := { stood := { row := sortedRow, standIns := [], harness := (true, "ee222bce397d541b0c121dd7ebb517b4f538ad9e0923e2a35328a4fd5bb8f56a"), looks := true }, kinds := [], alts := [], laidByText := true, laidKinds := [.data, .handle, .sentinel, .sentinel, .sentinel, .sentinel, .sentinel, .sentinel, .sentinel, .sentinel, .sentinel, .sentinel, .sentinel, .sentinel, .sentinel, .data, .data, .pinned], laidTests := true, laidLooks := .later }
def SortedCardSaid : Prop := Claim7.holds Tryz.pinned (.plain (OpenSpec.ofChange sortedSpec)) sortedCard

/-- THE TIED CARD OF 'hallmarklaw.Cards'. -/
def cardsCard : Claim7 := { stood := { row := cardsRow, standIns := [], harness := (true, "ee222bce397d541b0c121dd7ebb517b4f538ad9e0923e2a35328a4fd5bb8f56a"), looks := true }, kinds := [], alts := [], laidByText := true, laidKinds := [.data, .handle, .sentinel, .sentinel, .sentinel, .sentinel, .sentinel, .sentinel, .sentinel, .sentinel, .sentinel, .sentinel, .sentinel, .sentinel, .sentinel, .data, .data, .pinned], laidTests := true, laidLooks := .later }
def CardsCardSaid : Prop := Claim7.holds Tryz.pinned (.plain (OpenSpec.ofChange cardsSpec)) cardsCard

/-- THE TIED CARD OF 'hallmarkkeep.Carried'. -/
def carriedCard : Claim7 := { stood := { row := carriedRow, standIns := [], harness := (true, "ee222bce397d541b0c121dd7ebb517b4f538ad9e0923e2a35328a4fd5bb8f56a"), looks := true }, kinds := [], alts := [], laidByText := true, laidKinds := [.data, .handle, .sentinel, .sentinel, .sentinel, .sentinel, .sentinel, .sentinel, .sentinel, .sentinel, .sentinel, .sentinel, .sentinel, .sentinel, .sentinel, .data, .data, .pinned], laidTests := true, laidLooks := .later }
def CarriedCardSaid : Prop := Claim7.holds Tryz.pinned (.plain (OpenSpec.ofChange carriedSpec)) carriedCard

/-- THE TIED CARD OF 'hallmarkkeep.Refused'. -/
def refusedCard : Claim7 := { stood := { row := refusedRow, standIns := [], harness := (true, "ee222bce397d541b0c121dd7ebb517b4f538ad9e0923e2a35328a4fd5bb8f56a"), looks := true }, kinds := [], alts := [], laidByText := true, laidKinds := [.data, .sentinel, .sentinel, .sentinel, .sentinel, .sentinel, .sentinel, .sentinel, .sentinel, .sentinel, .sentinel, .sentinel, .sentinel, .sentinel, .data, .data, .pinned], laidTests := true, laidLooks := .later }
def RefusedCardSaid : Prop := Claim7.holds Tryz.pinned (.plain (OpenSpec.ofChange refusedSpec)) refusedCard

/-- THE TIED CARD OF 'hallmarklaw.All'. -/
def allCard : Claim7 := { stood := { row := allRow, standIns := [], harness := (true, "ee222bce397d541b0c121dd7ebb517b4f538ad9e0923e2a35328a4fd5bb8f56a"), looks := true }, kinds := [], alts := [], laidByText := true, laidKinds := [.data, .handle, .sentinel, .sentinel, .sentinel, .sentinel, .sentinel, .sentinel, .sentinel, .sentinel, .sentinel, .sentinel, .sentinel, .sentinel, .sentinel, .data, .data, .pinned], laidTests := true, laidLooks := .later }
def AllCardSaid : Prop := Claim7.holds Tryz.pinned (.plain (OpenSpec.ofChange allSpec)) allCard

/-- THE SECOND FORM's CARD OF 'hallmarklaw.Checks'. -/
def checksUptoCard : Claim7 := { stood := { row := checksUptoRow, standIns := [], harness := (true, "ee222bce397d541b0c121dd7ebb517b4f538ad9e0923e2a35328a4fd5bb8f56a"), looks := true }, kinds := [], alts := [], laidByText := true, laidKinds := [.data, .sentinel, .sentinel, .sentinel, .sentinel, .sentinel, .sentinel, .sentinel, .sentinel, .sentinel, .sentinel, .sentinel, .sentinel, .sentinel, .data, .data, .pinned], laidTests := true, laidLooks := .later }
def ChecksUptoCardSaid : Prop := Claim7.holds Tryz.pinned (.plain (OpenSpec.upto checksSpec)) checksUptoCard

/-- THE SECOND FORM's CARD OF 'hallmarklaw.Decodes'. -/
def decodesUptoCard : Claim7 := { stood := { row := decodesUptoRow, standIns := [], harness := (true, "ee222bce397d541b0c121dd7ebb517b4f538ad9e0923e2a35328a4fd5bb8f56a"), looks := true }, kinds := [], alts := [], laidByText := true, laidKinds := [.data, .handle, .sentinel, .sentinel, .sentinel, .sentinel, .sentinel, .sentinel, .sentinel, .sentinel, .sentinel, .sentinel, .sentinel, .sentinel, .sentinel, .data, .data, .pinned], laidTests := true, laidLooks := .later }
def DecodesUptoCardSaid : Prop := Claim7.holds Tryz.pinned (.plain (OpenSpec.upto decodesSpec)) decodesUptoCard

/-- THE SECOND FORM's CARD OF 'hallmarklaw.Encodes'. -/
def encodesUptoCard : Claim7 := { stood := { row := encodesUptoRow, standIns := [], harness := (true, "ee222bce397d541b0c121dd7ebb517b4f538ad9e0923e2a35328a4fd5bb8f56a"), looks := true }, kinds := [], alts := [], laidByText := true, laidKinds := [.data, .sentinel, .sentinel, .sentinel, .sentinel, .sentinel, .sentinel, .sentinel, .sentinel, .sentinel, .sentinel, .sentinel, .sentinel, .sentinel, .data, .data, .pinned], laidTests := true, laidLooks := .later }
def EncodesUptoCardSaid : Prop := Claim7.holds Tryz.pinned (.plain (OpenSpec.upto encodesSpec)) encodesUptoCard

/-- THE SECOND FORM's CARD OF 'hallmarkkeep.Round'. -/
def roundUptoCard : Claim7 := { stood := { row := roundUptoRow, standIns := [], harness := (true, "ee222bce397d541b0c121dd7ebb517b4f538ad9e0923e2a35328a4fd5bb8f56a"), looks := true }, kinds := [], alts := [], laidByText := true, laidKinds := [.data, .handle, .sentinel, .sentinel, .sentinel, .sentinel, .sentinel, .sentinel, .sentinel, .sentinel, .sentinel, .sentinel, .sentinel, .sentinel, .sentinel, .data, .data, .pinned], laidTests := true, laidLooks := .later }
def RoundUptoCardSaid : Prop := Claim7.holds Tryz.pinned (.plain (OpenSpec.upto roundSpec)) roundUptoCard

/-- THE SECOND FORM's CARD OF 'hallmarkkeep.Unique'. -/
def uniqueUptoCard : Claim7 := { stood := { row := uniqueUptoRow, standIns := [], harness := (true, "ee222bce397d541b0c121dd7ebb517b4f538ad9e0923e2a35328a4fd5bb8f56a"), looks := true }, kinds := [], alts := [], laidByText := true, laidKinds := [.data, .handle, .sentinel, .sentinel, .sentinel, .sentinel, .sentinel, .sentinel, .sentinel, .sentinel, .sentinel, .sentinel, .sentinel, .sentinel, .sentinel, .data, .data, .pinned], laidTests := true, laidLooks := .later }
def UniqueUptoCardSaid : Prop := Claim7.holds Tryz.pinned (.plain (OpenSpec.upto uniqueSpec)) uniqueUptoCard

/-- THE SECOND FORM's CARD OF 'hallmarkkeep.Sorted'. -/
def sortedUptoCard : Claim7 := { stood := { row := sortedUptoRow, standIns := [], harness := (true, "ee222bce397d541b0c121dd7ebb517b4f538ad9e0923e2a35328a4fd5bb8f56a"), looks := true }, kinds := [], alts := [], laidByText := true, laidKinds := [.data, .handle, .sentinel, .sentinel, .sentinel, .sentinel, .sentinel, .sentinel, .sentinel, .sentinel, .sentinel, .sentinel, .sentinel, .sentinel, .sentinel, .data, .data, .pinned], laidTests := true, laidLooks := .later }
def SortedUptoCardSaid : Prop := Claim7.holds Tryz.pinned (.plain (OpenSpec.upto sortedSpec)) sortedUptoCard

/-- THE SECOND FORM's CARD OF 'hallmarklaw.Cards'. -/
def cardsUptoCard : Claim7 := { stood := { row := cardsUptoRow, standIns := [], harness := (true, "ee222bce397d541b0c121dd7ebb517b4f538ad9e0923e2a35328a4fd5bb8f56a"), looks := true }, kinds := [], alts := [], laidByText := true, laidKinds := [.data, .handle, .sentinel, .sentinel, .sentinel, .sentinel, .sentinel, .sentinel, .sentinel, .sentinel, .sentinel, .sentinel, .sentinel, .sentinel, .sentinel, .data, .data, .pinned], laidTests := true, laidLooks := .later }
def CardsUptoCardSaid : Prop := Claim7.holds Tryz.pinned (.plain (OpenSpec.upto cardsSpec)) cardsUptoCard

/-- THE SECOND FORM's CARD OF 'hallmarkkeep.Carried'. -/
def carriedUptoCard : Claim7 := { stood := { row := carriedUptoRow, standIns := [], harness := (true, "ee222bce397d541b0c121dd7ebb517b4f538ad9e0923e2a35328a4fd5bb8f56a"), looks := true }, kinds := [], alts := [], laidByText := true, laidKinds := [.data, .handle, .sentinel, .sentinel, .sentinel, .sentinel, .sentinel, .sentinel, .sentinel, .sentinel, .sentinel, .sentinel, .sentinel, .sentinel, .sentinel, .data, .data, .pinned], laidTests := true, laidLooks := .later }
def CarriedUptoCardSaid : Prop := Claim7.holds Tryz.pinned (.plain (OpenSpec.upto carriedSpec)) carriedUptoCard

/-- THE SECOND FORM's CARD OF 'hallmarkkeep.Refused'. -/
def refusedUptoCard : Claim7 := { stood := { row := refusedUptoRow, standIns := [], harness := (true, "ee222bce397d541b0c121dd7ebb517b4f538ad9e0923e2a35328a4fd5bb8f56a"), looks := true }, kinds := [], alts := [], laidByText := true, laidKinds := [.data, .sentinel, .sentinel, .sentinel, .sentinel, .sentinel, .sentinel, .sentinel, .sentinel, .sentinel, .sentinel, .sentinel, .sentinel, .sentinel, .data, .data, .pinned], laidTests := true, laidLooks := .later }
def RefusedUptoCardSaid : Prop := Claim7.holds Tryz.pinned (.plain (OpenSpec.upto refusedSpec)) refusedUptoCard

/-- THE SECOND FORM's CARD OF 'hallmarklaw.All'. -/
def allUptoCard : Claim7 := { stood := { row := allUptoRow, standIns := [], harness := (true, "ee222bce397d541b0c121dd7ebb517b4f538ad9e0923e2a35328a4fd5bb8f56a"), looks := true }, kinds := [], alts := [], laidByText := true, laidKinds := [.data, .handle, .sentinel, .sentinel, .sentinel, .sentinel, .sentinel, .sentinel, .sentinel, .sentinel, .sentinel, .sentinel, .sentinel, .sentinel, .sentinel, .data, .data, .pinned], laidTests := true, laidLooks := .later }
def AllUptoCardSaid : Prop := Claim7.holds Tryz.pinned (.plain (OpenSpec.upto allSpec)) allUptoCard
end Rows
end Go.Proofs.YtkkicodfpekbgaaGreatDoor
