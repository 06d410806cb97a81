/-
  DERIVED. GIVEN WITH THE SEED: THE CARDS: each row of YtechkdhehipliaaGreatDoorRows.lean that lists a variable, with what it lists TIED to the program's text (the seventh form; the later family's looks); each row that meets fmt, with fmt's text TOLD by the authors' own Lean function (tested against real Go, not proved from fmt's source: count such statements apart). THE CARD IS WHAT COUNTS. Prove the row's statement (the work); the ties are given (YtechkdhehipliaaGreatDoorTie.lean); close each card by the builder's one call (the guide's Derived/Test/ToyasCard.lean, 'card_holds'). Laid BY PROGRAM, IN A SANDBOX (cutbox-door.mjs). By AI agents, Wed Nov 11 2026. No macro, syntax, notation, axiom, sorry.
-/
import Derived.Test.YtechkdhehipliaaGreatDoorRows
import GoSem.ClaimSeven
namespace Go.Proofs.YtechkdhehipliaaGreatDoor
namespace Rows

/-- THE TIED CARD OF 'anabranchlaw11.DagTells'. -/
def dagTellsCard : Claim7 := { stood := { row := dagTellsRow, standIns := [], harness := (true, "b15ab0af0945fd88c5810334c90bc03b2c6587f05261fc1c86d45016999b1208"), looks := false }, kinds := [], alts := [], laidByText := true, laidKinds := [.data], laidTests := true, laidLooks := .later }
def DagTellsCardSaid : Prop := Claim7.holds Tryz.pinned (.plain (OpenSpec.ofChange dagTellsSpec)) dagTellsCard

/-- THE TIED CARD OF 'anabranchlaw11.DagAnc'. -/
def dagAncCard : Claim7 := { stood := { row := dagAncRow, standIns := [], harness := (true, "b15ab0af0945fd88c5810334c90bc03b2c6587f05261fc1c86d45016999b1208"), looks := false }, kinds := [], alts := [], laidByText := true, laidKinds := [.data], laidTests := true, laidLooks := .later }
def DagAncCardSaid : Prop := Claim7.holds Tryz.pinned (.plain (OpenSpec.ofChange dagAncSpec)) dagAncCard

/-- THE TIED CARD OF 'anabranchlaw12.FrontTells'. -/
def frontTellsCard : Claim7 := { stood := { row := frontTellsRow, standIns := [], harness := (true, "b15ab0af0945fd88c5810334c90bc03b2c6587f05261fc1c86d45016999b1208"), looks := false }, kinds := [], alts := [], laidByText := true, laidKinds := [.data], laidTests := true, laidLooks := .later }
def FrontTellsCardSaid : Prop := Claim7.holds Tryz.pinned (.plain (OpenSpec.ofChange frontTellsSpec)) frontTellsCard

/-- THE TIED CARD OF 'anabranchlaw12.FrontJoins'. -/
def frontJoinsCard : Claim7 := { stood := { row := frontJoinsRow, standIns := [], harness := (true, "b15ab0af0945fd88c5810334c90bc03b2c6587f05261fc1c86d45016999b1208"), looks := false }, kinds := [], alts := [], laidByText := true, laidKinds := [.data], laidTests := true, laidLooks := .later }
def FrontJoinsCardSaid : Prop := Claim7.holds Tryz.pinned (.plain (OpenSpec.ofChange frontJoinsSpec)) frontJoinsCard

/-- THE TIED CARD OF 'anabranchlaw12.FrontSame'. -/
def frontSameCard : Claim7 := { stood := { row := frontSameRow, standIns := [], harness := (true, "b15ab0af0945fd88c5810334c90bc03b2c6587f05261fc1c86d45016999b1208"), looks := false }, kinds := [], alts := [], laidByText := true, laidKinds := [.data], laidTests := true, laidLooks := .later }
def FrontSameCardSaid : Prop := Claim7.holds Tryz.pinned (.plain (OpenSpec.ofChange frontSameSpec)) frontSameCard

/-- THE TIED CARD OF 'anabranchlaw12.FrontLast'. -/
def frontLastCard : Claim7 := { stood := { row := frontLastRow, standIns := [], harness := (true, "b15ab0af0945fd88c5810334c90bc03b2c6587f05261fc1c86d45016999b1208"), looks := false }, kinds := [], alts := [], laidByText := true, laidKinds := [.data], laidTests := true, laidLooks := .later }
def FrontLastCardSaid : Prop := Claim7.holds Tryz.pinned (.plain (OpenSpec.ofChange frontLastSpec)) frontLastCard

/-- THE TIED CARD OF 'anabranchlaw12.FrontNext'. -/
def frontNextCard : Claim7 := { stood := { row := frontNextRow, standIns := [], harness := (true, "b15ab0af0945fd88c5810334c90bc03b2c6587f05261fc1c86d45016999b1208"), looks := false }, kinds := [], alts := [], laidByText := true, laidKinds := [.data], laidTests := true, laidLooks := .later }
def FrontNextCardSaid : Prop := Claim7.holds Tryz.pinned (.plain (OpenSpec.ofChange frontNextSpec)) frontNextCard

/-- THE TIED CARD OF 'anabranchlaw12.FrontGen'. -/
def frontGenCard : Claim7 := { stood := { row := frontGenRow, standIns := [], harness := (true, "b15ab0af0945fd88c5810334c90bc03b2c6587f05261fc1c86d45016999b1208"), looks := false }, kinds := [], alts := [], laidByText := true, laidKinds := [.data], laidTests := true, laidLooks := .later }
def FrontGenCardSaid : Prop := Claim7.holds Tryz.pinned (.plain (OpenSpec.ofChange frontGenSpec)) frontGenCard

/-- THE TIED CARD OF 'anabranchlaw12.FrontBase'. -/
def frontBaseCard : Claim7 := { stood := { row := frontBaseRow, standIns := [], harness := (true, "b15ab0af0945fd88c5810334c90bc03b2c6587f05261fc1c86d45016999b1208"), looks := false }, kinds := [], alts := [], laidByText := true, laidKinds := [.data], laidTests := true, laidLooks := .later }
def FrontBaseCardSaid : Prop := Claim7.holds Tryz.pinned (.plain (OpenSpec.ofChange frontBaseSpec)) frontBaseCard

/-- THE SECOND FORM's CARD OF 'anabranchlaw11.DagTells'. -/
def dagTellsUptoCard : Claim7 := { stood := { row := dagTellsUptoRow, standIns := [], harness := (true, "b15ab0af0945fd88c5810334c90bc03b2c6587f05261fc1c86d45016999b1208"), looks := false }, kinds := [], alts := [], laidByText := true, laidKinds := [.data], laidTests := true, laidLooks := .later }
def DagTellsUptoCardSaid : Prop := Claim7.holds Tryz.pinned (.plain (OpenSpec.upto dagTellsSpec)) dagTellsUptoCard

/-- THE SECOND FORM's CARD OF 'anabranchlaw11.DagAnc'. -/
def dagAncUptoCard : Claim7 := { stood := { row := dagAncUptoRow, standIns := [], harness := (true, "b15ab0af0945fd88c5810334c90bc03b2c6587f05261fc1c86d45016999b1208"), looks := false }, kinds := [], alts := [], laidByText := true, laidKinds := [.data], laidTests := true, laidLooks := .later }
def DagAncUptoCardSaid : Prop := Claim7.holds Tryz.pinned (.plain (OpenSpec.upto dagAncSpec)) dagAncUptoCard

/-- THE SECOND FORM's CARD OF 'anabranchlaw12.FrontTells'. -/
def frontTellsUptoCard : Claim7 := { stood := { row := frontTellsUptoRow, standIns := [], harness := (true, "b15ab0af0945fd88c5810334c90bc03b2c6587f05261fc1c86d45016999b1208"), looks := false }, kinds := [], alts := [], laidByText := true, laidKinds := [.data], laidTests := true, laidLooks := .later }
def FrontTellsUptoCardSaid : Prop := Claim7.holds Tryz.pinned (.plain (OpenSpec.upto frontTellsSpec)) frontTellsUptoCard

/-- THE SECOND FORM's CARD OF 'anabranchlaw12.FrontJoins'. -/
def frontJoinsUptoCard : Claim7 := { stood := { row := frontJoinsUptoRow, standIns := [], harness := (true, "b15ab0af0945fd88c5810334c90bc03b2c6587f05261fc1c86d45016999b1208"), looks := false }, kinds := [], alts := [], laidByText := true, laidKinds := [.data], laidTests := true, laidLooks := .later }
def FrontJoinsUptoCardSaid : Prop := Claim7.holds Tryz.pinned (.plain (OpenSpec.upto frontJoinsSpec)) frontJoinsUptoCard

/-- THE SECOND FORM's CARD OF 'anabranchlaw12.FrontSame'. -/
def frontSameUptoCard : Claim7 := { stood := { row := frontSameUptoRow, standIns := [], harness := (true, "b15ab0af0945fd88c5810334c90bc03b2c6587f05261fc1c86d45016999b1208"), looks := false }, kinds := [], alts := [], laidByText := true, laidKinds := [.data], laidTests := true, laidLooks := .later }
def FrontSameUptoCardSaid : Prop := Claim7.holds Tryz.pinned (.plain (OpenSpec.upto frontSameSpec)) frontSameUptoCard

/-- THE SECOND FORM's CARD OF 'anabranchlaw12.FrontLast'. -/
def frontLastUptoCard : Claim7 := { stood := { row := frontLastUptoRow, standIns := [], harness := (true, "b15ab0af0945fd88c5810334c90bc03b2c6587f05261fc1c86d45016999b1208"), looks := false }, kinds := [], alts := [], laidByText := true, laidKinds := [.data], laidTests := true, laidLooks := .later }
def FrontLastUptoCardSaid : Prop := Claim7.holds Tryz.pinned (.plain (OpenSpec.upto frontLastSpec)) frontLastUptoCard

/-- THE SECOND FORM's CARD OF 'anabranchlaw12.FrontNext'. -/
def frontNextUptoCard : Claim7 := { stood := { row := frontNextUptoRow, standIns := [], harness := (true, "b15ab0af0945fd88c5810334c90bc03b2c6587f05261fc1c86d45016999b1208"), looks := false }, kinds := [], alts := [], laidByText := true, laidKinds := [.data], laidTests := true, laidLooks := .later }
def FrontNextUptoCardSaid : Prop := Claim7.holds Tryz.pinned (.plain (OpenSpec.upto frontNextSpec)) frontNextUptoCard

/-- THE SECOND FORM's CARD OF 'anabranchlaw12.FrontGen'. -/
def frontGenUptoCard : Claim7 := { stood := { row := frontGenUptoRow, standIns := [], harness := (true, "b15ab0af0945fd88c5810334c90bc03b2c6587f05261fc1c86d45016999b1208"), looks := false }, kinds := [], alts := [], laidByText := true, laidKinds := [.data], laidTests := true, laidLooks := .later }
def FrontGenUptoCardSaid : Prop := Claim7.holds Tryz.pinned (.plain (OpenSpec.upto frontGenSpec)) frontGenUptoCard

/-- THE SECOND FORM's CARD OF 'anabranchlaw12.FrontBase'. -/
def frontBaseUptoCard : Claim7 := { stood := { row := frontBaseUptoRow, standIns := [], harness := (true, "b15ab0af0945fd88c5810334c90bc03b2c6587f05261fc1c86d45016999b1208"), looks := false }, kinds := [], alts := [], laidByText := true, laidKinds := [.data], laidTests := true, laidLooks := .later }
def FrontBaseUptoCardSaid : Prop := Claim7.holds Tryz.pinned (.plain (OpenSpec.upto frontBaseSpec)) frontBaseUptoCard
end Rows
end Go.Proofs.YtechkdhehipliaaGreatDoor
