/-
  DERIVED. GIVEN WITH THE SEED: THE CARDS: each row of YtgmdhaepiclkcaaGreatDoorRows.lean that lists a variable, with what it lists TIED to the program's text (the seventh form; the later family's looks); each row that meets fmt, with fmt's text TOLD by the authors' own Lean function (tested against real Go, not proved from fmt's source: count such statements apart). THE CARD IS WHAT COUNTS. Prove the row's statement (the work); the ties are given (YtgmdhaepiclkcaaGreatDoorTie.lean); close each card by the builder's one call (the guide's Derived/Test/ToyasCard.lean, 'card_holds'). Laid BY PROGRAM, IN A SANDBOX (cutbox-door.mjs). By AI agents, Wed Nov 11 2026. No macro, syntax, notation, axiom, sorry.
-/
import Derived.Test.YtgmdhaepiclkcaaGreatDoorRows
import GoSem.ClaimSeven
namespace Go.Proofs.YtgmdhaepiclkcaaGreatDoor
namespace Rows

/-- THE TIED CARD OF 'anabranchlaw13.EvalTells'. -/
def evalTellsCard : Claim7 := { stood := { row := evalTellsRow, standIns := [], harness := (true, "7bd35c5e0bb3ee09fd8b97a89d7f5b557a2f4460e73f74c83ceb8414c93848f0"), looks := false }, kinds := [], alts := [], laidByText := true, laidKinds := [.data], laidTests := true, laidLooks := .later }
def EvalTellsCardSaid : Prop := Claim7.holds Tryz.pinned (.plain (OpenSpec.ofChange evalTellsSpec)) evalTellsCard

/-- THE TIED CARD OF 'anabranchlaw13.EvalThree'. -/
def evalThreeCard : Claim7 := { stood := { row := evalThreeRow, standIns := [], harness := (true, "7bd35c5e0bb3ee09fd8b97a89d7f5b557a2f4460e73f74c83ceb8414c93848f0"), looks := false }, kinds := [], alts := [], laidByText := true, laidKinds := [.data], laidTests := true, laidLooks := .later }
def EvalThreeCardSaid : Prop := Claim7.holds Tryz.pinned (.plain (OpenSpec.ofChange evalThreeSpec)) evalThreeCard

/-- THE TIED CARD OF 'anabranchlaw13.EvalNext'. -/
def evalNextCard : Claim7 := { stood := { row := evalNextRow, standIns := [], harness := (true, "7bd35c5e0bb3ee09fd8b97a89d7f5b557a2f4460e73f74c83ceb8414c93848f0"), looks := false }, kinds := [], alts := [], laidByText := true, laidKinds := [.data], laidTests := true, laidLooks := .later }
def EvalNextCardSaid : Prop := Claim7.holds Tryz.pinned (.plain (OpenSpec.ofChange evalNextSpec)) evalNextCard

/-- THE TIED CARD OF 'anabranchlaw13.EvalOrder'. -/
def evalOrderCard : Claim7 := { stood := { row := evalOrderRow, standIns := [], harness := (true, "7bd35c5e0bb3ee09fd8b97a89d7f5b557a2f4460e73f74c83ceb8414c93848f0"), looks := false }, kinds := [], alts := [], laidByText := true, laidKinds := [.data], laidTests := true, laidLooks := .later }
def EvalOrderCardSaid : Prop := Claim7.holds Tryz.pinned (.plain (OpenSpec.ofChange evalOrderSpec)) evalOrderCard

/-- THE TIED CARD OF 'anabranchlaw13.EvalWins'. -/
def evalWinsCard : Claim7 := { stood := { row := evalWinsRow, standIns := [], harness := (true, "7bd35c5e0bb3ee09fd8b97a89d7f5b557a2f4460e73f74c83ceb8414c93848f0"), looks := false }, kinds := [], alts := [], laidByText := true, laidKinds := [.data], laidTests := true, laidLooks := .later }
def EvalWinsCardSaid : Prop := Claim7.holds Tryz.pinned (.plain (OpenSpec.ofChange evalWinsSpec)) evalWinsCard

/-- THE TIED CARD OF 'anabranchlaw13.EvalSums'. -/
def evalSumsCard : Claim7 := { stood := { row := evalSumsRow, standIns := [], harness := (true, "7bd35c5e0bb3ee09fd8b97a89d7f5b557a2f4460e73f74c83ceb8414c93848f0"), looks := false }, kinds := [], alts := [], laidByText := true, laidKinds := [.data], laidTests := true, laidLooks := .later }
def EvalSumsCardSaid : Prop := Claim7.holds Tryz.pinned (.plain (OpenSpec.ofChange evalSumsSpec)) evalSumsCard

/-- THE TIED CARD OF 'anabranchlaw13.EvalNewest'. -/
def evalNewestCard : Claim7 := { stood := { row := evalNewestRow, standIns := [], harness := (true, "7bd35c5e0bb3ee09fd8b97a89d7f5b557a2f4460e73f74c83ceb8414c93848f0"), looks := false }, kinds := [], alts := [], laidByText := true, laidKinds := [.data], laidTests := true, laidLooks := .later }
def EvalNewestCardSaid : Prop := Claim7.holds Tryz.pinned (.plain (OpenSpec.ofChange evalNewestSpec)) evalNewestCard

/-- THE SECOND FORM's CARD OF 'anabranchlaw13.EvalTells'. -/
def evalTellsUptoCard : Claim7 := { stood := { row := evalTellsUptoRow, standIns := [], harness := (true, "7bd35c5e0bb3ee09fd8b97a89d7f5b557a2f4460e73f74c83ceb8414c93848f0"), looks := false }, kinds := [], alts := [], laidByText := true, laidKinds := [.data], laidTests := true, laidLooks := .later }
def EvalTellsUptoCardSaid : Prop := Claim7.holds Tryz.pinned (.plain (OpenSpec.upto evalTellsSpec)) evalTellsUptoCard

/-- THE SECOND FORM's CARD OF 'anabranchlaw13.EvalThree'. -/
def evalThreeUptoCard : Claim7 := { stood := { row := evalThreeUptoRow, standIns := [], harness := (true, "7bd35c5e0bb3ee09fd8b97a89d7f5b557a2f4460e73f74c83ceb8414c93848f0"), looks := false }, kinds := [], alts := [], laidByText := true, laidKinds := [.data], laidTests := true, laidLooks := .later }
def EvalThreeUptoCardSaid : Prop := Claim7.holds Tryz.pinned (.plain (OpenSpec.upto evalThreeSpec)) evalThreeUptoCard

/-- THE SECOND FORM's CARD OF 'anabranchlaw13.EvalNext'. -/
def evalNextUptoCard : Claim7 := { stood := { row := evalNextUptoRow, standIns := [], harness := (true, "7bd35c5e0bb3ee09fd8b97a89d7f5b557a2f4460e73f74c83ceb8414c93848f0"), looks := false }, kinds := [], alts := [], laidByText := true, laidKinds := [.data], laidTests := true, laidLooks := .later }
def EvalNextUptoCardSaid : Prop := Claim7.holds Tryz.pinned (.plain (OpenSpec.upto evalNextSpec)) evalNextUptoCard

/-- THE SECOND FORM's CARD OF 'anabranchlaw13.EvalOrder'. -/
def evalOrderUptoCard : Claim7 := { stood := { row := evalOrderUptoRow, standIns := [], harness := (true, "7bd35c5e0bb3ee09fd8b97a89d7f5b557a2f4460e73f74c83ceb8414c93848f0"), looks := false }, kinds := [], alts := [], laidByText := true, laidKinds := [.data], laidTests := true, laidLooks := .later }
def EvalOrderUptoCardSaid : Prop := Claim7.holds Tryz.pinned (.plain (OpenSpec.upto evalOrderSpec)) evalOrderUptoCard

/-- THE SECOND FORM's CARD OF 'anabranchlaw13.EvalWins'. -/
def evalWinsUptoCard : Claim7 := { stood := { row := evalWinsUptoRow, standIns := [], harness := (true, "7bd35c5e0bb3ee09fd8b97a89d7f5b557a2f4460e73f74c83ceb8414c93848f0"), looks := false }, kinds := [], alts := [], laidByText := true, laidKinds := [.data], laidTests := true, laidLooks := .later }
def EvalWinsUptoCardSaid : Prop := Claim7.holds Tryz.pinned (.plain (OpenSpec.upto evalWinsSpec)) evalWinsUptoCard

/-- THE SECOND FORM's CARD OF 'anabranchlaw13.EvalSums'. -/
def evalSumsUptoCard : Claim7 := { stood := { row := evalSumsUptoRow, standIns := [], harness := (true, "7bd35c5e0bb3ee09fd8b97a89d7f5b557a2f4460e73f74c83ceb8414c93848f0"), looks := false }, kinds := [], alts := [], laidByText := true, laidKinds := [.data], laidTests := true, laidLooks := .later }
def EvalSumsUptoCardSaid : Prop := Claim7.holds Tryz.pinned (.plain (OpenSpec.upto evalSumsSpec)) evalSumsUptoCard

/-- THE SECOND FORM's CARD OF 'anabranchlaw13.EvalNewest'. -/
def evalNewestUptoCard : Claim7 := { stood := { row := evalNewestUptoRow, standIns := [], harness := (true, "7bd35c5e0bb3ee09fd8b97a89d7f5b557a2f4460e73f74c83ceb8414c93848f0"), looks := false }, kinds := [], alts := [], laidByText := true, laidKinds := [.data], laidTests := true, laidLooks := .later }
def EvalNewestUptoCardSaid : Prop := Claim7.holds Tryz.pinned (.plain (OpenSpec.upto evalNewestSpec)) evalNewestUptoCard
end Rows
end Go.Proofs.YtgmdhaepiclkcaaGreatDoor
