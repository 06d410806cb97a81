/-
  DERIVED. GIVEN WITH THE SEED: THE CARDS: each row of YthdpipllighegaaDoorRows.lean that lists a variable, with what it lists TIED to the program's text (the seventh form; the later family's looks); each row that meets fmt, with fmt's text TOLD by the authors' own Lean function (tested against real Go, not proved from fmt's source: count such statements apart). THE CARD IS WHAT COUNTS. Prove the row's statement (the work); the ties are given (YthdpipllighegaaDoorTie.lean); close each card by the builder's one call (the guide's Derived/Test/ToyasCard.lean, 'card_holds'). Laid BY PROGRAM, IN A SANDBOX (cutbox-door.mjs). By AI agents, Wed Nov 11 2026. No macro, syntax, notation, axiom, sorry.
-/
import Derived.Test.YthdpipllighegaaDoorRows
import GoSem.ClaimSeven
namespace Go.Proofs.YthdpipllighegaaDoor
namespace Rows

/-- THE TIED CARD OF 'anabranchlaw14.LogTells'. -/
def logTellsCard : Claim7 := { stood := { row := logTellsRow, standIns := [], harness := (true, "3c7055c8c3b6f612b0eb8e46c53a046a9bc04966e5eeea424ab094556c22c5bf"), looks := false }, kinds := [], alts := [], laidByText := true, laidKinds := [.data], laidTests := true, laidLooks := .later }
def LogTellsCardSaid : Prop := Claim7.holds Tryd.pinned (.plain (OpenSpec.ofChange logTellsSpec)) logTellsCard

/-- THE TIED CARD OF 'anabranchlaw14.LogCuts'. -/
def logCutsCard : Claim7 := { stood := { row := logCutsRow, standIns := [], harness := (true, "3c7055c8c3b6f612b0eb8e46c53a046a9bc04966e5eeea424ab094556c22c5bf"), looks := false }, kinds := [], alts := [], laidByText := true, laidKinds := [.data], laidTests := true, laidLooks := .later }
def LogCutsCardSaid : Prop := Claim7.holds Tryd.pinned (.plain (OpenSpec.ofChange logCutsSpec)) logCutsCard

/-- THE TIED CARD OF 'anabranchlaw14.LogAgain'. -/
def logAgainCard : Claim7 := { stood := { row := logAgainRow, standIns := [], harness := (true, "3c7055c8c3b6f612b0eb8e46c53a046a9bc04966e5eeea424ab094556c22c5bf"), looks := false }, kinds := [], alts := [], laidByText := true, laidKinds := [.data], laidTests := true, laidLooks := .later }
def LogAgainCardSaid : Prop := Claim7.holds Tryd.pinned (.plain (OpenSpec.ofChange logAgainSpec)) logAgainCard

/-- THE TIED CARD OF 'anabranchlaw14.LogLongs'. -/
def logLongsCard : Claim7 := { stood := { row := logLongsRow, standIns := [], harness := (true, "3c7055c8c3b6f612b0eb8e46c53a046a9bc04966e5eeea424ab094556c22c5bf"), looks := false }, kinds := [], alts := [], laidByText := true, laidKinds := [.data], laidTests := true, laidLooks := .later }
def LogLongsCardSaid : Prop := Claim7.holds Tryd.pinned (.plain (OpenSpec.ofChange logLongsSpec)) logLongsCard

/-- THE SECOND FORM's CARD OF 'anabranchlaw14.LogTells'. -/
def logTellsUptoCard : Claim7 := { stood := { row := logTellsUptoRow, standIns := [], harness := (true, "3c7055c8c3b6f612b0eb8e46c53a046a9bc04966e5eeea424ab094556c22c5bf"), looks := false }, kinds := [], alts := [], laidByText := true, laidKinds := [.data], laidTests := true, laidLooks := .later }
def LogTellsUptoCardSaid : Prop := Claim7.holds Tryd.pinned (.plain (OpenSpec.upto logTellsSpec)) logTellsUptoCard

/-- THE SECOND FORM's CARD OF 'anabranchlaw14.LogCuts'. -/
def logCutsUptoCard : Claim7 := { stood := { row := logCutsUptoRow, standIns := [], harness := (true, "3c7055c8c3b6f612b0eb8e46c53a046a9bc04966e5eeea424ab094556c22c5bf"), looks := false }, kinds := [], alts := [], laidByText := true, laidKinds := [.data], laidTests := true, laidLooks := .later }
def LogCutsUptoCardSaid : Prop := Claim7.holds Tryd.pinned (.plain (OpenSpec.upto logCutsSpec)) logCutsUptoCard

/-- THE SECOND FORM's CARD OF 'anabranchlaw14.LogAgain'. -/
def logAgainUptoCard : Claim7 := { stood := { row := logAgainUptoRow, standIns := [], harness := (true, "3c7055c8c3b6f612b0eb8e46c53a046a9bc04966e5eeea424ab094556c22c5bf"), looks := false }, kinds := [], alts := [], laidByText := true, laidKinds := [.data], laidTests := true, laidLooks := .later }
def LogAgainUptoCardSaid : Prop := Claim7.holds Tryd.pinned (.plain (OpenSpec.upto logAgainSpec)) logAgainUptoCard

/-- THE SECOND FORM's CARD OF 'anabranchlaw14.LogLongs'. -/
def logLongsUptoCard : Claim7 := { stood := { row := logLongsUptoRow, standIns := [], harness := (true, "3c7055c8c3b6f612b0eb8e46c53a046a9bc04966e5eeea424ab094556c22c5bf"), looks := false }, kinds := [], alts := [], laidByText := true, laidKinds := [.data], laidTests := true, laidLooks := .later }
def LogLongsUptoCardSaid : Prop := Claim7.holds Tryd.pinned (.plain (OpenSpec.upto logLongsSpec)) logLongsUptoCard
end Rows
end Go.Proofs.YthdpipllighegaaDoor
