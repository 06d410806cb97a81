/-
  DERIVED. GIVEN WITH THE SEED: THE CARDS: each row of YtnphlpebeflpkaaDoorRows.lean that lists a variable, with what it lists TIED to the program's text (the seventh form; the later family's looks); each row that meets fmt, with fmt's text TOLD by the authors' own Lean function (tested against real Go, not proved from fmt's source: count such statements apart). THE CARD IS WHAT COUNTS. Prove the row's statement (the work); the ties are given (YtnphlpebeflpkaaDoorTie.lean); close each card by the builder's one call (the guide's Derived/Test/ToyasCard.lean, 'card_holds'). Laid BY PROGRAM, IN A SANDBOX (cutbox-door.mjs). By AI agents, Wed Nov 11 2026. No macro, syntax, notation, axiom, sorry.
-/
import Derived.Test.YtnphlpebeflpkaaDoorRows
import GoSem.ClaimSeven
namespace Go.Proofs.YtnphlpebeflpkaaDoor
namespace Rows

/-- THE TIED CARD OF 'anabranchlaw10.CommitTells'. -/
def commitTellsCard : Claim7 := { stood := { row := commitTellsRow, standIns := [], harness := (true, "0f97ce0b13decbfdb20e28351a4b6300f4061d1f52be9a2a32630863a1690ddd"), looks := true }, kinds := [], alts := [], laidByText := true, laidKinds := [.data], laidTests := true, laidLooks := .later }
def CommitTellsCardSaid : Prop := Claim7.holds Tryd.pinned (.plain (OpenSpec.ofChange commitTellsSpec)) commitTellsCard

/-- THE TIED CARD OF 'anabranchlaw10.CommitGets'. -/
def commitGetsCard : Claim7 := { stood := { row := commitGetsRow, standIns := [], harness := (true, "0f97ce0b13decbfdb20e28351a4b6300f4061d1f52be9a2a32630863a1690ddd"), looks := true }, kinds := [], alts := [], laidByText := true, laidKinds := [.data], laidTests := true, laidLooks := .later }
def CommitGetsCardSaid : Prop := Claim7.holds Tryd.pinned (.plain (OpenSpec.ofChange commitGetsSpec)) commitGetsCard

/-- THE TIED CARD OF 'anabranchlaw10.CommitBack'. -/
def commitBackCard : Claim7 := { stood := { row := commitBackRow, standIns := [], harness := (true, "0f97ce0b13decbfdb20e28351a4b6300f4061d1f52be9a2a32630863a1690ddd"), looks := true }, kinds := [], alts := [], laidByText := true, laidKinds := [.data], laidTests := true, laidLooks := .later }
def CommitBackCardSaid : Prop := Claim7.holds Tryd.pinned (.plain (OpenSpec.ofChange commitBackSpec)) commitBackCard

/-- THE TIED CARD OF 'anabranchlaw10.CommitOnly'. -/
def commitOnlyCard : Claim7 := { stood := { row := commitOnlyRow, standIns := [], harness := (true, "0f97ce0b13decbfdb20e28351a4b6300f4061d1f52be9a2a32630863a1690ddd"), looks := true }, kinds := [], alts := [], laidByText := true, laidKinds := [.data], laidTests := true, laidLooks := .later }
def CommitOnlyCardSaid : Prop := Claim7.holds Tryd.pinned (.plain (OpenSpec.ofChange commitOnlySpec)) commitOnlyCard

/-- THE TIED CARD OF 'anabranchlaw10.CommitKinds'. -/
def commitKindsCard : Claim7 := { stood := { row := commitKindsRow, standIns := [], harness := (true, "0f97ce0b13decbfdb20e28351a4b6300f4061d1f52be9a2a32630863a1690ddd"), looks := true }, kinds := [], alts := [], laidByText := true, laidKinds := [.data], laidTests := true, laidLooks := .later }
def CommitKindsCardSaid : Prop := Claim7.holds Tryd.pinned (.plain (OpenSpec.ofChange commitKindsSpec)) commitKindsCard

/-- THE TIED CARD OF 'anabranchlaw10.CommitParts'. -/
def commitPartsCard : Claim7 := { stood := { row := commitPartsRow, standIns := [], harness := (true, "0f97ce0b13decbfdb20e28351a4b6300f4061d1f52be9a2a32630863a1690ddd"), looks := true }, kinds := [], alts := [], laidByText := true, laidKinds := [.data], laidTests := true, laidLooks := .later }
def CommitPartsCardSaid : Prop := Claim7.holds Tryd.pinned (.plain (OpenSpec.ofChange commitPartsSpec)) commitPartsCard

/-- THE SECOND FORM's CARD OF 'anabranchlaw10.CommitTells'. -/
def commitTellsUptoCard : Claim7 := { stood := { row := commitTellsUptoRow, standIns := [], harness := (true, "0f97ce0b13decbfdb20e28351a4b6300f4061d1f52be9a2a32630863a1690ddd"), looks := true }, kinds := [], alts := [], laidByText := true, laidKinds := [.data], laidTests := true, laidLooks := .later }
def CommitTellsUptoCardSaid : Prop := Claim7.holds Tryd.pinned (.plain (OpenSpec.upto commitTellsSpec)) commitTellsUptoCard

/-- THE SECOND FORM's CARD OF 'anabranchlaw10.CommitGets'. -/
def commitGetsUptoCard : Claim7 := { stood := { row := commitGetsUptoRow, standIns := [], harness := (true, "0f97ce0b13decbfdb20e28351a4b6300f4061d1f52be9a2a32630863a1690ddd"), looks := true }, kinds := [], alts := [], laidByText := true, laidKinds := [.data], laidTests := true, laidLooks := .later }
def CommitGetsUptoCardSaid : Prop := Claim7.holds Tryd.pinned (.plain (OpenSpec.upto commitGetsSpec)) commitGetsUptoCard

/-- THE SECOND FORM's CARD OF 'anabranchlaw10.CommitBack'. -/
def commitBackUptoCard : Claim7 := { stood := { row := commitBackUptoRow, standIns := [], harness := (true, "0f97ce0b13decbfdb20e28351a4b6300f4061d1f52be9a2a32630863a1690ddd"), looks := true }, kinds := [], alts := [], laidByText := true, laidKinds := [.data], laidTests := true, laidLooks := .later }
def CommitBackUptoCardSaid : Prop := Claim7.holds Tryd.pinned (.plain (OpenSpec.upto commitBackSpec)) commitBackUptoCard

/-- THE SECOND FORM's CARD OF 'anabranchlaw10.CommitOnly'. -/
def commitOnlyUptoCard : Claim7 := { stood := { row := commitOnlyUptoRow, standIns := [], harness := (true, "0f97ce0b13decbfdb20e28351a4b6300f4061d1f52be9a2a32630863a1690ddd"), looks := true }, kinds := [], alts := [], laidByText := true, laidKinds := [.data], laidTests := true, laidLooks := .later }
def CommitOnlyUptoCardSaid : Prop := Claim7.holds Tryd.pinned (.plain (OpenSpec.upto commitOnlySpec)) commitOnlyUptoCard

/-- THE SECOND FORM's CARD OF 'anabranchlaw10.CommitKinds'. -/
def commitKindsUptoCard : Claim7 := { stood := { row := commitKindsUptoRow, standIns := [], harness := (true, "0f97ce0b13decbfdb20e28351a4b6300f4061d1f52be9a2a32630863a1690ddd"), looks := true }, kinds := [], alts := [], laidByText := true, laidKinds := [.data], laidTests := true, laidLooks := .later }
def CommitKindsUptoCardSaid : Prop := Claim7.holds Tryd.pinned (.plain (OpenSpec.upto commitKindsSpec)) commitKindsUptoCard

/-- THE SECOND FORM's CARD OF 'anabranchlaw10.CommitParts'. -/
def commitPartsUptoCard : Claim7 := { stood := { row := commitPartsUptoRow, standIns := [], harness := (true, "0f97ce0b13decbfdb20e28351a4b6300f4061d1f52be9a2a32630863a1690ddd"), looks := true }, kinds := [], alts := [], laidByText := true, laidKinds := [.data], laidTests := true, laidLooks := .later }
def CommitPartsUptoCardSaid : Prop := Claim7.holds Tryd.pinned (.plain (OpenSpec.upto commitPartsSpec)) commitPartsUptoCard
end Rows
end Go.Proofs.YtnphlpebeflpkaaDoor
