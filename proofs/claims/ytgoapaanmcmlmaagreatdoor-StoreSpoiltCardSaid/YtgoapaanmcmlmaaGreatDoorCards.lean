/-
  DERIVED. GIVEN WITH THE SEED: THE CARDS: each row of YtgoapaanmcmlmaaGreatDoorRows.lean that lists a variable, with what it lists TIED to the program's text (the seventh form; the later family's looks); each row that meets fmt, with fmt's text TOLD by the authors' own Lean function (tested against real Go, not proved from fmt's source: count such statements apart). THE CARD IS WHAT COUNTS. Prove the row's statement (the work); the ties are given (YtgoapaanmcmlmaaGreatDoorTie.lean); close each card by the builder's one call (the guide's Derived/Test/ToyasCard.lean, 'card_holds'). Laid BY PROGRAM, IN A SANDBOX (cutbox-door.mjs). By AI agents, Wed Nov 11 2026. No macro, syntax, notation, axiom, sorry.
-/
import Derived.Test.YtgoapaanmcmlmaaGreatDoorRows
import GoSem.ClaimSeven
namespace Go.Proofs.YtgoapaanmcmlmaaGreatDoor
namespace Rows

/-- THE TIED CARD OF 'anabranchlaw15.StoreTells'. -/
def storeTellsCard : Claim7 := { stood := { row := storeTellsRow, standIns := [], harness := (true, "a840d392d43e7bfa4c1a3beeb852b2c3b453a43c1eee88e026d3470266c0d0ed"), looks := true }, kinds := [], alts := [], laidByText := true, laidKinds := [.data], laidTests := true, laidLooks := .later }
def StoreTellsCardSaid : Prop := Claim7.holds Tryz.pinned (.plain (OpenSpec.ofChange storeTellsSpec)) storeTellsCard

/-- THE TIED CARD OF 'anabranchlaw15.StoreCuts'. -/
def storeCutsCard : Claim7 := { stood := { row := storeCutsRow, standIns := [], harness := (true, "a840d392d43e7bfa4c1a3beeb852b2c3b453a43c1eee88e026d3470266c0d0ed"), looks := true }, kinds := [], alts := [], laidByText := true, laidKinds := [.data], laidTests := true, laidLooks := .later }
def StoreCutsCardSaid : Prop := Claim7.holds Tryz.pinned (.plain (OpenSpec.ofChange storeCutsSpec)) storeCutsCard

/-- THE TIED CARD OF 'anabranchlaw15.StoreMore'. -/
def storeMoreCard : Claim7 := { stood := { row := storeMoreRow, standIns := [], harness := (true, "a840d392d43e7bfa4c1a3beeb852b2c3b453a43c1eee88e026d3470266c0d0ed"), looks := true }, kinds := [], alts := [], laidByText := true, laidKinds := [.data], laidTests := true, laidLooks := .later }
def StoreMoreCardSaid : Prop := Claim7.holds Tryz.pinned (.plain (OpenSpec.ofChange storeMoreSpec)) storeMoreCard

/-- THE TIED CARD OF 'anabranchlaw15.StoreFull'. -/
def storeFullCard : Claim7 := { stood := { row := storeFullRow, standIns := [], harness := (true, "a840d392d43e7bfa4c1a3beeb852b2c3b453a43c1eee88e026d3470266c0d0ed"), looks := true }, kinds := [], alts := [], laidByText := true, laidKinds := [.data], laidTests := true, laidLooks := .later }
def StoreFullCardSaid : Prop := Claim7.holds Tryz.pinned (.plain (OpenSpec.ofChange storeFullSpec)) storeFullCard

/-- THE TIED CARD OF 'anabranchlaw15.StoreSpoilt'. -/
def storeSpoiltCard : Claim7 := { stood := { row := storeSpoiltRow, standIns := [], harness := (true, "a840d392d43e7bfa4c1a3beeb852b2c3b453a43c1eee88e026d3470266c0d0ed"), looks := true }, kinds := [], alts := [], laidByText := true, laidKinds := [.data], laidTests := true, laidLooks := .later }
def StoreSpoiltCardSaid : Prop := Claim7.holds Tryz.pinned (.plain (OpenSpec.ofChange storeSpoiltSpec)) storeSpoiltCard

/-- THE SECOND FORM's CARD OF 'anabranchlaw15.StoreTells'. -/
def storeTellsUptoCard : Claim7 := { stood := { row := storeTellsUptoRow, standIns := [], harness := (true, "a840d392d43e7bfa4c1a3beeb852b2c3b453a43c1eee88e026d3470266c0d0ed"), looks := true }, kinds := [], alts := [], laidByText := true, laidKinds := [.data], laidTests := true, laidLooks := .later }
def StoreTellsUptoCardSaid : Prop := Claim7.holds Tryz.pinned (.plain (OpenSpec.upto storeTellsSpec)) storeTellsUptoCard

/-- THE SECOND FORM's CARD OF 'anabranchlaw15.StoreCuts'. -/
def storeCutsUptoCard : Claim7 := { stood := { row := storeCutsUptoRow, standIns := [], harness := (true, "a840d392d43e7bfa4c1a3beeb852b2c3b453a43c1eee88e026d3470266c0d0ed"), looks := true }, kinds := [], alts := [], laidByText := true, laidKinds := [.data], laidTests := true, laidLooks := .later }
def StoreCutsUptoCardSaid : Prop := Claim7.holds Tryz.pinned (.plain (OpenSpec.upto storeCutsSpec)) storeCutsUptoCard

/-- THE SECOND FORM's CARD OF 'anabranchlaw15.StoreMore'. -/
def storeMoreUptoCard : Claim7 := { stood := { row := storeMoreUptoRow, standIns := [], harness := (true, "a840d392d43e7bfa4c1a3beeb852b2c3b453a43c1eee88e026d3470266c0d0ed"), looks := true }, kinds := [], alts := [], laidByText := true, laidKinds := [.data], laidTests := true, laidLooks := .later }
def StoreMoreUptoCardSaid : Prop := Claim7.holds Tryz.pinned (.plain (OpenSpec.upto storeMoreSpec)) storeMoreUptoCard

/-- THE SECOND FORM's CARD OF 'anabranchlaw15.StoreFull'. -/
def storeFullUptoCard : Claim7 := { stood := { row := storeFullUptoRow, standIns := [], harness := (true, "a840d392d43e7bfa4c1a3beeb852b2c3b453a43c1eee88e026d3470266c0d0ed"), looks := true }, kinds := [], alts := [], laidByText := true, laidKinds := [.data], laidTests := true, laidLooks := .later }
def StoreFullUptoCardSaid : Prop := Claim7.holds Tryz.pinned (.plain (OpenSpec.upto storeFullSpec)) storeFullUptoCard

/-- THE SECOND FORM's CARD OF 'anabranchlaw15.StoreSpoilt'. -/
def storeSpoiltUptoCard : Claim7 := { stood := { row := storeSpoiltUptoRow, standIns := [], harness := (true, "a840d392d43e7bfa4c1a3beeb852b2c3b453a43c1eee88e026d3470266c0d0ed"), looks := true }, kinds := [], alts := [], laidByText := true, laidKinds := [.data], laidTests := true, laidLooks := .later }
def StoreSpoiltUptoCardSaid : Prop := Claim7.holds Tryz.pinned (.plain (OpenSpec.upto storeSpoiltSpec)) storeSpoiltUptoCard
end Rows
end Go.Proofs.YtgoapaanmcmlmaaGreatDoor
