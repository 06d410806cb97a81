/-
  DERIVED. GIVEN WITH THE SEED: THE CARDS: each row of YteojkfbnenfmkaaGreatDoorRows.lean that lists a variable, with what it lists TIED to the program's text (the seventh form; the later family's looks); each row that meets fmt, with fmt's text TOLD by the authors' own Lean function (tested against real Go, not proved from fmt's source: count such statements apart). THE CARD IS WHAT COUNTS. Prove the row's statement (the work); the ties are given (YteojkfbnenfmkaaGreatDoorTie.lean); close each card by the builder's one call (the guide's Derived/Test/ToyasCard.lean, 'card_holds'). Laid BY PROGRAM, IN A SANDBOX (cutbox-door.mjs). By AI agents, Wed Nov 11 2026. No macro, syntax, notation, axiom, sorry.
-/
import Derived.Test.YteojkfbnenfmkaaGreatDoorRows
import GoSem.ClaimSeven
namespace Go.Proofs.YteojkfbnenfmkaaGreatDoor
namespace Rows

/-- THE TIED CARD OF 'anabranchlaw16.WaitTells'. -/
def waitTellsCard : Claim7 := { stood := { row := waitTellsRow, standIns := [], harness := (true, "45fe96432b38aacc5a66039d9d4f3498472f9c9a585c88bdddb6dfa1017b1b49"), looks := false }, kinds := [], alts := [], laidByText := true, laidKinds := [.data], laidTests := true, laidLooks := .later }
def WaitTellsCardSaid : Prop := Claim7.holds Tryz.pinned (.plain (OpenSpec.ofChange waitTellsSpec)) waitTellsCard

/-- THE SECOND FORM's CARD OF 'anabranchlaw16.WaitTells'. -/
def waitTellsUptoCard : Claim7 := { stood := { row := waitTellsUptoRow, standIns := [], harness := (true, "45fe96432b38aacc5a66039d9d4f3498472f9c9a585c88bdddb6dfa1017b1b49"), looks := false }, kinds := [], alts := [], laidByText := true, laidKinds := [.data], laidTests := true, laidLooks := .later }
def WaitTellsUptoCardSaid : Prop := Claim7.holds Tryz.pinned (.plain (OpenSpec.upto waitTellsSpec)) waitTellsUptoCard
end Rows
end Go.Proofs.YteojkfbnenfmkaaGreatDoor
