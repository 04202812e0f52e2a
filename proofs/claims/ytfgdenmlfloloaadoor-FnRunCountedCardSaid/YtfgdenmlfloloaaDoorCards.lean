/-
  DERIVED. GIVEN WITH THE SEED: THE CARDS: each row of YtfgdenmlfloloaaDoorRows.lean that lists a variable, with what it lists TIED to the program's text (the seventh form; the later family's looks); each row that meets fmt, with fmt's text TOLD by the authors' own Lean function (tested against real Go, not proved from fmt's source: count such statements apart). THE CARD IS WHAT COUNTS. Prove the row's statement (the work); the ties are given (YtfgdenmlfloloaaDoorTie.lean); close each card by the builder's one call (the guide's Derived/Test/ToyasCard.lean, 'card_holds'). Laid BY PROGRAM, IN A SANDBOX (cutbox-door.mjs). By AI agents, Wed Nov 11 2026. No macro, syntax, notation, axiom, sorry.
-/
import Derived.Test.YtfgdenmlfloloaaDoorRows
import GoSem.ClaimSeven
namespace Go.Proofs.YtfgdenmlfloloaaDoor
namespace Rows

/-- THE TIED CARD OF 'laws.FnUsedCells'. -/
def fnUsedCellsCard : Claim7 := { stood := { row := fnUsedCellsRow, standIns := [], harness := (true, "35d358086fdd68d94153c462e1a955f62dca517cf2a79b8da4deb23e4b076222"), looks := false }, kinds := [], alts := [], laidByText := true, laidKinds := [.data], laidTests := true, laidLooks := .later }
def FnUsedCellsCardSaid : Prop := Claim7.holds Tryd.pinned (.plain (OpenSpec.ofChange fnUsedCellsSpec)) fnUsedCellsCard

/-- THE TIED CARD OF 'laws.FnStepCounted'. -/
def fnStepCountedCard : Claim7 := { stood := { row := fnStepCountedRow, standIns := [], harness := (true, "35d358086fdd68d94153c462e1a955f62dca517cf2a79b8da4deb23e4b076222"), looks := false }, kinds := [], alts := [], laidByText := true, laidKinds := [.data], laidTests := true, laidLooks := .later }
def FnStepCountedCardSaid : Prop := Claim7.holds Tryd.pinned (.plain (OpenSpec.ofChange fnStepCountedSpec)) fnStepCountedCard

/-- THE TIED CARD OF 'laws.FnRunCounted'. -/
def fnRunCountedCard : Claim7 := { stood := { row := fnRunCountedRow, standIns := [], harness := (true, "35d358086fdd68d94153c462e1a955f62dca517cf2a79b8da4deb23e4b076222"), looks := false }, kinds := [], alts := [], laidByText := true, laidKinds := [.data], laidTests := true, laidLooks := .later }
def FnRunCountedCardSaid : Prop := Claim7.holds Tryd.pinned (.plain (OpenSpec.ofChange fnRunCountedSpec)) fnRunCountedCard

/-- THE TIED CARD OF 'laws.FnExactStepCounted'. -/
def fnExactStepCountedCard : Claim7 := { stood := { row := fnExactStepCountedRow, standIns := [], harness := (true, "35d358086fdd68d94153c462e1a955f62dca517cf2a79b8da4deb23e4b076222"), looks := false }, kinds := [], alts := [], laidByText := true, laidKinds := [.data], laidTests := true, laidLooks := .later }
def FnExactStepCountedCardSaid : Prop := Claim7.holds Tryd.pinned (.plain (OpenSpec.ofChange fnExactStepCountedSpec)) fnExactStepCountedCard

/-- THE TIED CARD OF 'laws.FnExactRunCounted'. -/
def fnExactRunCountedCard : Claim7 := { stood := { row := fnExactRunCountedRow, standIns := [], harness := (true, "35d358086fdd68d94153c462e1a955f62dca517cf2a79b8da4deb23e4b076222"), looks := false }, kinds := [], alts := [], laidByText := true, laidKinds := [.data], laidTests := true, laidLooks := .later }
def FnExactRunCountedCardSaid : Prop := Claim7.holds Tryd.pinned (.plain (OpenSpec.ofChange fnExactRunCountedSpec)) fnExactRunCountedCard

/-- THE TIED CARD OF 'laws.FnExactLeakedCells'. -/
def fnExactLeakedCellsCard : Claim7 := { stood := { row := fnExactLeakedCellsRow, standIns := [], harness := (true, "35d358086fdd68d94153c462e1a955f62dca517cf2a79b8da4deb23e4b076222"), looks := false }, kinds := [], alts := [], laidByText := true, laidKinds := [.data], laidTests := true, laidLooks := .later }
def FnExactLeakedCellsCardSaid : Prop := Claim7.holds Tryd.pinned (.plain (OpenSpec.ofChange fnExactLeakedCellsSpec)) fnExactLeakedCellsCard

/-- THE SECOND FORM's CARD OF 'laws.FnUsedCells'. -/
def fnUsedCellsUptoCard : Claim7 := { stood := { row := fnUsedCellsUptoRow, standIns := [], harness := (true, "35d358086fdd68d94153c462e1a955f62dca517cf2a79b8da4deb23e4b076222"), looks := false }, kinds := [], alts := [], laidByText := true, laidKinds := [.data], laidTests := true, laidLooks := .later }
def FnUsedCellsUptoCardSaid : Prop := Claim7.holds Tryd.pinned (.plain (OpenSpec.upto fnUsedCellsSpec)) fnUsedCellsUptoCard

/-- THE SECOND FORM's CARD OF 'laws.FnStepCounted'. -/
def fnStepCountedUptoCard : Claim7 := { stood := { row := fnStepCountedUptoRow, standIns := [], harness := (true, "35d358086fdd68d94153c462e1a955f62dca517cf2a79b8da4deb23e4b076222"), looks := false }, kinds := [], alts := [], laidByText := true, laidKinds := [.data], laidTests := true, laidLooks := .later }
def FnStepCountedUptoCardSaid : Prop := Claim7.holds Tryd.pinned (.plain (OpenSpec.upto fnStepCountedSpec)) fnStepCountedUptoCard

/-- THE SECOND FORM's CARD OF 'laws.FnRunCounted'. -/
def fnRunCountedUptoCard : Claim7 := { stood := { row := fnRunCountedUptoRow, standIns := [], harness := (true, "35d358086fdd68d94153c462e1a955f62dca517cf2a79b8da4deb23e4b076222"), looks := false }, kinds := [], alts := [], laidByText := true, laidKinds := [.data], laidTests := true, laidLooks := .later }
def FnRunCountedUptoCardSaid : Prop := Claim7.holds Tryd.pinned (.plain (OpenSpec.upto fnRunCountedSpec)) fnRunCountedUptoCard

/-- THE SECOND FORM's CARD OF 'laws.FnExactStepCounted'. -/
def fnExactStepCountedUptoCard : Claim7 := { stood := { row := fnExactStepCountedUptoRow, standIns := [], harness := (true, "35d358086fdd68d94153c462e1a955f62dca517cf2a79b8da4deb23e4b076222"), looks := false }, kinds := [], alts := [], laidByText := true, laidKinds := [.data], laidTests := true, laidLooks := .later }
def FnExactStepCountedUptoCardSaid : Prop := Claim7.holds Tryd.pinned (.plain (OpenSpec.upto fnExactStepCountedSpec)) fnExactStepCountedUptoCard

/-- THE SECOND FORM's CARD OF 'laws.FnExactRunCounted'. -/
def fnExactRunCountedUptoCard : Claim7 := { stood := { row := fnExactRunCountedUptoRow, standIns := [], harness := (true, "35d358086fdd68d94153c462e1a955f62dca517cf2a79b8da4deb23e4b076222"), looks := false }, kinds := [], alts := [], laidByText := true, laidKinds := [.data], laidTests := true, laidLooks := .later }
def FnExactRunCountedUptoCardSaid : Prop := Claim7.holds Tryd.pinned (.plain (OpenSpec.upto fnExactRunCountedSpec)) fnExactRunCountedUptoCard

/-- THE SECOND FORM's CARD OF 'laws.FnExactLeakedCells'. -/
def fnExactLeakedCellsUptoCard : Claim7 := { stood := { row := fnExactLeakedCellsUptoRow, standIns := [], harness := (true, "35d358086fdd68d94153c462e1a955f62dca517cf2a79b8da4deb23e4b076222"), looks := false }, kinds := [], alts := [], laidByText := true, laidKinds := [.data], laidTests := true, laidLooks := .later }
def FnExactLeakedCellsUptoCardSaid : Prop := Claim7.holds Tryd.pinned (.plain (OpenSpec.upto fnExactLeakedCellsSpec)) fnExactLeakedCellsUptoCard
end Rows
end Go.Proofs.YtfgdenmlfloloaaDoor
