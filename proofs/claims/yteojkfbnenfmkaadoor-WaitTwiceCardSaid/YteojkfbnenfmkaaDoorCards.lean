/-
  DERIVED. GIVEN WITH THE SEED: THE CARDS: each row of YteojkfbnenfmkaaDoorRows.lean that lists a variable, with what it lists TIED to the program's text (the seventh form; the later family's looks); each row that meets fmt, with fmt's text TOLD by the authors' own Lean function (tested against real Go, not proved from fmt's source: count such statements apart). THE CARD IS WHAT COUNTS. Prove the row's statement (the work); the ties are given (YteojkfbnenfmkaaDoorTie.lean); close each card by the builder's one call (the guide's Derived/Test/ToyasCard.lean, 'card_holds'). Laid BY PROGRAM, IN A SANDBOX (cutbox-door.mjs). By AI agents, Wed Nov 11 2026. No macro, syntax, notation, axiom, sorry.
-/
import Derived.Test.YteojkfbnenfmkaaDoorRows
import GoSem.ClaimSeven
namespace Go.Proofs.YteojkfbnenfmkaaDoor
namespace Rows

/-- THE TIED CARD OF 'anabranchlaw16.WaitBound'. -/
def waitBoundCard : Claim7 := { stood := { row := waitBoundRow, standIns := [], harness := (true, "f6ff5fc68d4966376d01d7ea9c4c93ace784a7513ff4f69fc072a71fce9ba535"), looks := false }, kinds := [], alts := [], laidByText := true, laidKinds := [.data], laidTests := true, laidLooks := .later }
def WaitBoundCardSaid : Prop := Claim7.holds Tryd.pinned (.plain (OpenSpec.ofChange waitBoundSpec)) waitBoundCard

/-- THE TIED CARD OF 'anabranchlaw16.WaitReady'. -/
def waitReadyCard : Claim7 := { stood := { row := waitReadyRow, standIns := [], harness := (true, "f6ff5fc68d4966376d01d7ea9c4c93ace784a7513ff4f69fc072a71fce9ba535"), looks := false }, kinds := [], alts := [], laidByText := true, laidKinds := [.data], laidTests := true, laidLooks := .later }
def WaitReadyCardSaid : Prop := Claim7.holds Tryd.pinned (.plain (OpenSpec.ofChange waitReadySpec)) waitReadyCard

/-- THE TIED CARD OF 'anabranchlaw16.WaitMissing'. -/
def waitMissingCard : Claim7 := { stood := { row := waitMissingRow, standIns := [], harness := (true, "f6ff5fc68d4966376d01d7ea9c4c93ace784a7513ff4f69fc072a71fce9ba535"), looks := false }, kinds := [], alts := [], laidByText := true, laidKinds := [.data], laidTests := true, laidLooks := .later }
def WaitMissingCardSaid : Prop := Claim7.holds Tryd.pinned (.plain (OpenSpec.ofChange waitMissingSpec)) waitMissingCard

/-- THE TIED CARD OF 'anabranchlaw16.WaitTwice'. -/
def waitTwiceCard : Claim7 := { stood := { row := waitTwiceRow, standIns := [], harness := (true, "f6ff5fc68d4966376d01d7ea9c4c93ace784a7513ff4f69fc072a71fce9ba535"), looks := false }, kinds := [], alts := [], laidByText := true, laidKinds := [.data], laidTests := true, laidLooks := .later }
def WaitTwiceCardSaid : Prop := Claim7.holds Tryd.pinned (.plain (OpenSpec.ofChange waitTwiceSpec)) waitTwiceCard

/-- THE TIED CARD OF 'anabranchlaw16.WaitFree'. -/
def waitFreeCard : Claim7 := { stood := { row := waitFreeRow, standIns := [], harness := (true, "f6ff5fc68d4966376d01d7ea9c4c93ace784a7513ff4f69fc072a71fce9ba535"), looks := false }, kinds := [], alts := [], laidByText := true, laidKinds := [.data], laidTests := true, laidLooks := .later }
def WaitFreeCardSaid : Prop := Claim7.holds Tryd.pinned (.plain (OpenSpec.ofChange waitFreeSpec)) waitFreeCard

/-- THE SECOND FORM's CARD OF 'anabranchlaw16.WaitBound'. -/
def waitBoundUptoCard : Claim7 := { stood := { row := waitBoundUptoRow, standIns := [], harness := (true, "f6ff5fc68d4966376d01d7ea9c4c93ace784a7513ff4f69fc072a71fce9ba535"), looks := false }, kinds := [], alts := [], laidByText := true, laidKinds := [.data], laidTests := true, laidLooks := .later }
def WaitBoundUptoCardSaid : Prop := Claim7.holds Tryd.pinned (.plain (OpenSpec.upto waitBoundSpec)) waitBoundUptoCard

/-- THE SECOND FORM's CARD OF 'anabranchlaw16.WaitReady'. -/
def waitReadyUptoCard : Claim7 := { stood := { row := waitReadyUptoRow, standIns := [], harness := (true, "f6ff5fc68d4966376d01d7ea9c4c93ace784a7513ff4f69fc072a71fce9ba535"), looks := false }, kinds := [], alts := [], laidByText := true, laidKinds := [.data], laidTests := true, laidLooks := .later }
def WaitReadyUptoCardSaid : Prop := Claim7.holds Tryd.pinned (.plain (OpenSpec.upto waitReadySpec)) waitReadyUptoCard

/-- THE SECOND FORM's CARD OF 'anabranchlaw16.WaitMissing'. -/
def waitMissingUptoCard : Claim7 := { stood := { row := waitMissingUptoRow, standIns := [], harness := (true, "f6ff5fc68d4966376d01d7ea9c4c93ace784a7513ff4f69fc072a71fce9ba535"), looks := false }, kinds := [], alts := [], laidByText := true, laidKinds := [.data], laidTests := true, laidLooks := .later }
def WaitMissingUptoCardSaid : Prop := Claim7.holds Tryd.pinned (.plain (OpenSpec.upto waitMissingSpec)) waitMissingUptoCard

/-- THE SECOND FORM's CARD OF 'anabranchlaw16.WaitTwice'. -/
def waitTwiceUptoCard : Claim7 := { stood := { row := waitTwiceUptoRow, standIns := [], harness := (true, "f6ff5fc68d4966376d01d7ea9c4c93ace784a7513ff4f69fc072a71fce9ba535"), looks := false }, kinds := [], alts := [], laidByText := true, laidKinds := [.data], laidTests := true, laidLooks := .later }
def WaitTwiceUptoCardSaid : Prop := Claim7.holds Tryd.pinned (.plain (OpenSpec.upto waitTwiceSpec)) waitTwiceUptoCard

/-- THE SECOND FORM's CARD OF 'anabranchlaw16.WaitFree'. -/
def waitFreeUptoCard : Claim7 := { stood := { row := waitFreeUptoRow, standIns := [], harness := (true, "f6ff5fc68d4966376d01d7ea9c4c93ace784a7513ff4f69fc072a71fce9ba535"), looks := false }, kinds := [], alts := [], laidByText := true, laidKinds := [.data], laidTests := true, laidLooks := .later }
def WaitFreeUptoCardSaid : Prop := Claim7.holds Tryd.pinned (.plain (OpenSpec.upto waitFreeSpec)) waitFreeUptoCard
end Rows
end Go.Proofs.YteojkfbnenfmkaaDoor
