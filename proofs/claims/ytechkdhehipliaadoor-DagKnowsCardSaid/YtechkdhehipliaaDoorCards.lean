/-
  DERIVED. GIVEN WITH THE SEED: THE CARDS: each row of YtechkdhehipliaaDoorRows.lean that lists a variable, with what it lists TIED to the program's text (the seventh form; the later family's looks); each row that meets fmt, with fmt's text TOLD by the authors' own Lean function (tested against real Go, not proved from fmt's source: count such statements apart). THE CARD IS WHAT COUNTS. Prove the row's statement (the work); the ties are given (YtechkdhehipliaaDoorTie.lean); close each card by the builder's one call (the guide's Derived/Test/ToyasCard.lean, 'card_holds'). Laid BY PROGRAM, IN A SANDBOX (cutbox-door.mjs). By AI agents, Wed Nov 11 2026. No macro, syntax, notation, axiom, sorry.
-/
import Derived.Test.YtechkdhehipliaaDoorRows
import GoSem.ClaimSeven
namespace Go.Proofs.YtechkdhehipliaaDoor
namespace Rows

/-- THE TIED CARD OF 'anabranchlaw11.DagSorted'. -/
def dagSortedCard : Claim7 := { stood := { row := dagSortedRow, standIns := [], harness := (true, "ea562f8cff4c3e4a5e4a490f00d2f3c62a74dfc05b662f73a77644bef591d17d"), looks := false }, kinds := [], alts := [], laidByText := true, laidKinds := [.data], laidTests := true, laidLooks := .later }
def DagSortedCardSaid : Prop := Claim7.holds Tryd.pinned (.plain (OpenSpec.ofChange dagSortedSpec)) dagSortedCard

/-- THE TIED CARD OF 'anabranchlaw11.DagWhole'. -/
def dagWholeCard : Claim7 := { stood := { row := dagWholeRow, standIns := [], harness := (true, "ea562f8cff4c3e4a5e4a490f00d2f3c62a74dfc05b662f73a77644bef591d17d"), looks := false }, kinds := [], alts := [], laidByText := true, laidKinds := [.data], laidTests := true, laidLooks := .later }
def DagWholeCardSaid : Prop := Claim7.holds Tryd.pinned (.plain (OpenSpec.ofChange dagWholeSpec)) dagWholeCard

/-- THE TIED CARD OF 'anabranchlaw11.DagKnows'. -/
def dagKnowsCard : Claim7 := { stood := { row := dagKnowsRow, standIns := [], harness := (true, "ea562f8cff4c3e4a5e4a490f00d2f3c62a74dfc05b662f73a77644bef591d17d"), looks := false }, kinds := [], alts := [], laidByText := true, laidKinds := [.data], laidTests := true, laidLooks := .later }
def DagKnowsCardSaid : Prop := Claim7.holds Tryd.pinned (.plain (OpenSpec.ofChange dagKnowsSpec)) dagKnowsCard

/-- THE SECOND FORM's CARD OF 'anabranchlaw11.DagSorted'. -/
def dagSortedUptoCard : Claim7 := { stood := { row := dagSortedUptoRow, standIns := [], harness := (true, "ea562f8cff4c3e4a5e4a490f00d2f3c62a74dfc05b662f73a77644bef591d17d"), looks := false }, kinds := [], alts := [], laidByText := true, laidKinds := [.data], laidTests := true, laidLooks := .later }
def DagSortedUptoCardSaid : Prop := Claim7.holds Tryd.pinned (.plain (OpenSpec.upto dagSortedSpec)) dagSortedUptoCard

/-- THE SECOND FORM's CARD OF 'anabranchlaw11.DagWhole'. -/
def dagWholeUptoCard : Claim7 := { stood := { row := dagWholeUptoRow, standIns := [], harness := (true, "ea562f8cff4c3e4a5e4a490f00d2f3c62a74dfc05b662f73a77644bef591d17d"), looks := false }, kinds := [], alts := [], laidByText := true, laidKinds := [.data], laidTests := true, laidLooks := .later }
def DagWholeUptoCardSaid : Prop := Claim7.holds Tryd.pinned (.plain (OpenSpec.upto dagWholeSpec)) dagWholeUptoCard

/-- THE SECOND FORM's CARD OF 'anabranchlaw11.DagKnows'. -/
def dagKnowsUptoCard : Claim7 := { stood := { row := dagKnowsUptoRow, standIns := [], harness := (true, "ea562f8cff4c3e4a5e4a490f00d2f3c62a74dfc05b662f73a77644bef591d17d"), looks := false }, kinds := [], alts := [], laidByText := true, laidKinds := [.data], laidTests := true, laidLooks := .later }
def DagKnowsUptoCardSaid : Prop := Claim7.holds Tryd.pinned (.plain (OpenSpec.upto dagKnowsSpec)) dagKnowsUptoCard
end Rows
end Go.Proofs.YtechkdhehipliaaDoor
