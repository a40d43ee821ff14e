/-
  DERIVED. GIVEN WITH THE SEED: THE CARDS: each row of YtkkicodfpekbgaaDoorRows.lean that lists a variable, with what it lists TIED to the program's text (the seventh form; the later family's looks); each row that meets fmt, with fmt's text TOLD by the authors' own Lean function (tested against real Go, not proved from fmt's source: count such statements apart). THE CARD IS WHAT COUNTS. Prove the row's statement (the work); the ties are given (YtkkicodfpekbgaaDoorTie.lean); close each card by the builder's one call (the guide's Derived/Test/ToyasCard.lean, 'card_holds'). Laid BY PROGRAM, IN A SANDBOX (cutbox-door.mjs). By AI agents, Wed Nov 11 2026. No macro, syntax, notation, axiom, sorry.
-/
import Derived.Test.YtkkicodfpekbgaaDoorRows
import GoSem.ClaimSeven
namespace Go.Proofs.YtkkicodfpekbgaaDoor
namespace Rows

/-- THE TIED CARD OF 'hallmarklaw.Heads'. -/
def headsCard : Claim7 := { stood := { row := headsRow, standIns := [], harness := (true, "068c4e65143b12e28677517c7e4df1b42d0a9809df331ddfae59783ba6c83777"), looks := true }, kinds := [], alts := [], laidByText := true, laidKinds := [.sentinel, .sentinel, .sentinel, .sentinel, .sentinel, .sentinel, .sentinel, .sentinel, .sentinel, .sentinel, .sentinel, .sentinel], laidTests := true, laidLooks := .later }
def HeadsCardSaid : Prop := Claim7.holds Tryd.pinned (.plain (OpenSpec.ofChange headsSpec)) headsCard

/-- THE TIED CARD OF 'hallmarkkeep.Headed'. -/
def headedCard : Claim7 := { stood := { row := headedRow, standIns := [], harness := (true, "068c4e65143b12e28677517c7e4df1b42d0a9809df331ddfae59783ba6c83777"), looks := true }, kinds := [], alts := [], laidByText := true, laidKinds := [.sentinel, .sentinel, .sentinel, .sentinel, .sentinel, .sentinel, .sentinel, .sentinel, .sentinel, .sentinel, .sentinel, .sentinel], laidTests := true, laidLooks := .later }
def HeadedCardSaid : Prop := Claim7.holds Tryd.pinned (.plain (OpenSpec.ofChange headedSpec)) headedCard

/-- THE SECOND FORM's CARD OF 'hallmarklaw.Heads'. -/
def headsUptoCard : Claim7 := { stood := { row := headsUptoRow, standIns := [], harness := (true, "068c4e65143b12e28677517c7e4df1b42d0a9809df331ddfae59783ba6c83777"), looks := true }, kinds := [], alts := [], laidByText := true, laidKinds := [.sentinel, .sentinel, .sentinel, .sentinel, .sentinel, .sentinel, .sentinel, .sentinel, .sentinel, .sentinel, .sentinel, .sentinel], laidTests := true, laidLooks := .later }
def HeadsUptoCardSaid : Prop := Claim7.holds Tryd.pinned (.plain (OpenSpec.upto headsSpec)) headsUptoCard

/-- THE SECOND FORM's CARD OF 'hallmarkkeep.Headed'. -/
def headedUptoCard : Claim7 := { stood := { row := headedUptoRow, standIns := [], harness := (true, "068c4e65143b12e28677517c7e4df1b42d0a9809df331ddfae59783ba6c83777"), looks := true }, kinds := [], alts := [], laidByText := true, laidKinds := [.sentinel, .sentinel, .sentinel, .sentinel, .sentinel, .sentinel, .sentinel, .sentinel, .sentinel, .sentinel, .sentinel, .sentinel], laidTests := true, laidLooks := .later }
def HeadedUptoCardSaid : Prop := Claim7.holds Tryd.pinned (.plain (OpenSpec.upto headedSpec)) headedUptoCard
end Rows
end Go.Proofs.YtkkicodfpekbgaaDoor
