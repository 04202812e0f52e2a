/-
  DERIVED. GIVEN WITH THE SEED: THE CARDS: each row of YtiojoailjiojjaaDoorRows.lean that lists a variable, with what it lists TIED to the program's text (the seventh form; the later family's looks); each row that meets fmt, with fmt's text TOLD by the authors' own Lean function (tested against real Go, not proved from fmt's source: count such statements apart). THE CARD IS WHAT COUNTS. Prove the row's statement (the work); the ties are given (YtiojoailjiojjaaDoorTie.lean); close each card by the builder's one call (the guide's Derived/Test/ToyasCard.lean, 'card_holds'). Laid BY PROGRAM, IN A SANDBOX (cutbox-door.mjs). By AI agents, Wed Nov 11 2026. No macro, syntax, notation, axiom, sorry.
-/
import Derived.Test.YtiojoailjiojjaaDoorRows
import GoSem.ClaimSeven
namespace Go.Proofs.YtiojoailjiojjaaDoor
namespace Rows

/-- THE TIED CARD OF 'laws.FnDeadCycle'. -/
def fnDeadCycleCard : Claim7 := { stood := { row := fnDeadCycleRow, standIns := [], harness := (true, "a5362f91ca7ca34c8f374f8e4f43119b95f76125fc8bc1d7973ca0f0d2f308b8"), looks := false }, kinds := [], alts := [], laidByText := true, laidKinds := [.data], laidTests := true, laidLooks := .later }
def FnDeadCycleCardSaid : Prop := Claim7.holds Tryd.pinned (.plain (OpenSpec.ofChange fnDeadCycleSpec)) fnDeadCycleCard

/-- THE TIED CARD OF 'laws.FnCollectCycles'. -/
def fnCollectCyclesCard : Claim7 := { stood := { row := fnCollectCyclesRow, standIns := [], harness := (true, "a5362f91ca7ca34c8f374f8e4f43119b95f76125fc8bc1d7973ca0f0d2f308b8"), looks := false }, kinds := [], alts := [], laidByText := true, laidKinds := [.data], laidTests := true, laidLooks := .later }
def FnCollectCyclesCardSaid : Prop := Claim7.holds Tryd.pinned (.plain (OpenSpec.ofChange fnCollectCyclesSpec)) fnCollectCyclesCard

/-- THE TIED CARD OF 'laws.FnCountsComplete'. -/
def fnCountsCompleteCard : Claim7 := { stood := { row := fnCountsCompleteRow, standIns := [], harness := (true, "a5362f91ca7ca34c8f374f8e4f43119b95f76125fc8bc1d7973ca0f0d2f308b8"), looks := false }, kinds := [], alts := [], laidByText := true, laidKinds := [.data], laidTests := true, laidLooks := .later }
def FnCountsCompleteCardSaid : Prop := Claim7.holds Tryd.pinned (.plain (OpenSpec.ofChange fnCountsCompleteSpec)) fnCountsCompleteCard

/-- THE TIED CARD OF 'laws.FnDeadLeaked'. -/
def fnDeadLeakedCard : Claim7 := { stood := { row := fnDeadLeakedRow, standIns := [], harness := (true, "a5362f91ca7ca34c8f374f8e4f43119b95f76125fc8bc1d7973ca0f0d2f308b8"), looks := false }, kinds := [], alts := [], laidByText := true, laidKinds := [.data], laidTests := true, laidLooks := .later }
def FnDeadLeakedCardSaid : Prop := Claim7.holds Tryd.pinned (.plain (OpenSpec.ofChange fnDeadLeakedSpec)) fnDeadLeakedCard

/-- THE TIED CARD OF 'laws.FnExactDeadCycle'. -/
def fnExactDeadCycleCard : Claim7 := { stood := { row := fnExactDeadCycleRow, standIns := [], harness := (true, "a5362f91ca7ca34c8f374f8e4f43119b95f76125fc8bc1d7973ca0f0d2f308b8"), looks := false }, kinds := [], alts := [], laidByText := true, laidKinds := [.data], laidTests := true, laidLooks := .later }
def FnExactDeadCycleCardSaid : Prop := Claim7.holds Tryd.pinned (.plain (OpenSpec.ofChange fnExactDeadCycleSpec)) fnExactDeadCycleCard

/-- THE TIED CARD OF 'laws.FnExactCollectCycles'. -/
def fnExactCollectCyclesCard : Claim7 := { stood := { row := fnExactCollectCyclesRow, standIns := [], harness := (true, "a5362f91ca7ca34c8f374f8e4f43119b95f76125fc8bc1d7973ca0f0d2f308b8"), looks := false }, kinds := [], alts := [], laidByText := true, laidKinds := [.data], laidTests := true, laidLooks := .later }
def FnExactCollectCyclesCardSaid : Prop := Claim7.holds Tryd.pinned (.plain (OpenSpec.ofChange fnExactCollectCyclesSpec)) fnExactCollectCyclesCard

/-- THE SECOND FORM's CARD OF 'laws.FnDeadCycle'. -/
def fnDeadCycleUptoCard : Claim7 := { stood := { row := fnDeadCycleUptoRow, standIns := [], harness := (true, "a5362f91ca7ca34c8f374f8e4f43119b95f76125fc8bc1d7973ca0f0d2f308b8"), looks := false }, kinds := [], alts := [], laidByText := true, laidKinds := [.data], laidTests := true, laidLooks := .later }
def FnDeadCycleUptoCardSaid : Prop := Claim7.holds Tryd.pinned (.plain (OpenSpec.upto fnDeadCycleSpec)) fnDeadCycleUptoCard

/-- THE SECOND FORM's CARD OF 'laws.FnCollectCycles'. -/
def fnCollectCyclesUptoCard : Claim7 := { stood := { row := fnCollectCyclesUptoRow, standIns := [], harness := (true, "a5362f91ca7ca34c8f374f8e4f43119b95f76125fc8bc1d7973ca0f0d2f308b8"), looks := false }, kinds := [], alts := [], laidByText := true, laidKinds := [.data], laidTests := true, laidLooks := .later }
def FnCollectCyclesUptoCardSaid : Prop := Claim7.holds Tryd.pinned (.plain (OpenSpec.upto fnCollectCyclesSpec)) fnCollectCyclesUptoCard

/-- THE SECOND FORM's CARD OF 'laws.FnCountsComplete'. -/
def fnCountsCompleteUptoCard : Claim7 := { stood := { row := fnCountsCompleteUptoRow, standIns := [], harness := (true, "a5362f91ca7ca34c8f374f8e4f43119b95f76125fc8bc1d7973ca0f0d2f308b8"), looks := false }, kinds := [], alts := [], laidByText := true, laidKinds := [.data], laidTests := true, laidLooks := .later }
def FnCountsCompleteUptoCardSaid : Prop := Claim7.holds Tryd.pinned (.plain (OpenSpec.upto fnCountsCompleteSpec)) fnCountsCompleteUptoCard

/-- THE SECOND FORM's CARD OF 'laws.FnDeadLeaked'. -/
def fnDeadLeakedUptoCard : Claim7 := { stood := { row := fnDeadLeakedUptoRow, standIns := [], harness := (true, "a5362f91ca7ca34c8f374f8e4f43119b95f76125fc8bc1d7973ca0f0d2f308b8"), looks := false }, kinds := [], alts := [], laidByText := true, laidKinds := [.data], laidTests := true, laidLooks := .later }
def FnDeadLeakedUptoCardSaid : Prop := Claim7.holds Tryd.pinned (.plain (OpenSpec.upto fnDeadLeakedSpec)) fnDeadLeakedUptoCard

/-- THE SECOND FORM's CARD OF 'laws.FnExactDeadCycle'. -/
def fnExactDeadCycleUptoCard : Claim7 := { stood := { row := fnExactDeadCycleUptoRow, standIns := [], harness := (true, "a5362f91ca7ca34c8f374f8e4f43119b95f76125fc8bc1d7973ca0f0d2f308b8"), looks := false }, kinds := [], alts := [], laidByText := true, laidKinds := [.data], laidTests := true, laidLooks := .later }
def FnExactDeadCycleUptoCardSaid : Prop := Claim7.holds Tryd.pinned (.plain (OpenSpec.upto fnExactDeadCycleSpec)) fnExactDeadCycleUptoCard

/-- THE SECOND FORM's CARD OF 'laws.FnExactCollectCycles'. -/
def fnExactCollectCyclesUptoCard : Claim7 := { stood := { row := fnExactCollectCyclesUptoRow, standIns := [], harness := (true, "a5362f91ca7ca34c8f374f8e4f43119b95f76125fc8bc1d7973ca0f0d2f308b8"), looks := false }, kinds := [], alts := [], laidByText := true, laidKinds := [.data], laidTests := true, laidLooks := .later }
def FnExactCollectCyclesUptoCardSaid : Prop := Claim7.holds Tryd.pinned (.plain (OpenSpec.upto fnExactCollectCyclesSpec)) fnExactCollectCyclesUptoCard
end Rows
end Go.Proofs.YtiojoailjiojjaaDoor
