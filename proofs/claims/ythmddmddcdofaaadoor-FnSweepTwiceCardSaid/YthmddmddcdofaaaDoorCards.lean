/-
  DERIVED. GIVEN WITH THE SEED: THE CARDS: each row of YthmddmddcdofaaaDoorRows.lean that lists a variable, with what it lists TIED to the program's text (the seventh form; the later family's looks); each row that meets fmt, with fmt's text TOLD by the authors' own Lean function (tested against real Go, not proved from fmt's source: count such statements apart). THE CARD IS WHAT COUNTS. Prove the row's statement (the work); the ties are given (YthmddmddcdofaaaDoorTie.lean); close each card by the builder's one call (the guide's Derived/Test/ToyasCard.lean, 'card_holds'). Laid BY PROGRAM, IN A SANDBOX (cutbox-door.mjs). By AI agents, Wed Nov 11 2026. No macro, syntax, notation, axiom, sorry.
-/
import Derived.Test.YthmddmddcdofaaaDoorRows
import GoSem.ClaimSeven
namespace Go.Proofs.YthmddmddcdofaaaDoor
namespace Rows

/-- THE TIED CARD OF 'laws.FnViewOf'. -/
def fnViewOfCard : Claim7 := { stood := { row := fnViewOfRow, standIns := [], harness := (true, "7c79535c8f629499a63d1a7a02e1930914c911ba5411137931243258cbd7ffa4"), looks := false }, kinds := [], alts := [], laidByText := true, laidKinds := [.data], laidTests := true, laidLooks := .later }
def FnViewOfCardSaid : Prop := Claim7.holds Tryd.pinned (.plain (OpenSpec.ofChange fnViewOfSpec)) fnViewOfCard

/-- THE TIED CARD OF 'laws.FnLeakedCells'. -/
def fnLeakedCellsCard : Claim7 := { stood := { row := fnLeakedCellsRow, standIns := [], harness := (true, "7c79535c8f629499a63d1a7a02e1930914c911ba5411137931243258cbd7ffa4"), looks := false }, kinds := [], alts := [], laidByText := true, laidKinds := [.data], laidTests := true, laidLooks := .later }
def FnLeakedCellsCardSaid : Prop := Claim7.holds Tryd.pinned (.plain (OpenSpec.ofChange fnLeakedCellsSpec)) fnLeakedCellsCard

/-- THE TIED CARD OF 'laws.FnSweepCells'. -/
def fnSweepCellsCard : Claim7 := { stood := { row := fnSweepCellsRow, standIns := [], harness := (true, "7c79535c8f629499a63d1a7a02e1930914c911ba5411137931243258cbd7ffa4"), looks := false }, kinds := [], alts := [], laidByText := true, laidKinds := [.data], laidTests := true, laidLooks := .later }
def FnSweepCellsCardSaid : Prop := Claim7.holds Tryd.pinned (.plain (OpenSpec.ofChange fnSweepCellsSpec)) fnSweepCellsCard

/-- THE TIED CARD OF 'laws.FnCollectSweep'. -/
def fnCollectSweepCard : Claim7 := { stood := { row := fnCollectSweepRow, standIns := [], harness := (true, "7c79535c8f629499a63d1a7a02e1930914c911ba5411137931243258cbd7ffa4"), looks := false }, kinds := [], alts := [], laidByText := true, laidKinds := [.data], laidTests := true, laidLooks := .later }
def FnCollectSweepCardSaid : Prop := Claim7.holds Tryd.pinned (.plain (OpenSpec.ofChange fnCollectSweepSpec)) fnCollectSweepCard

/-- THE TIED CARD OF 'laws.FnStepSweep'. -/
def fnStepSweepCard : Claim7 := { stood := { row := fnStepSweepRow, standIns := [], harness := (true, "7c79535c8f629499a63d1a7a02e1930914c911ba5411137931243258cbd7ffa4"), looks := false }, kinds := [], alts := [], laidByText := true, laidKinds := [.data], laidTests := true, laidLooks := .later }
def FnStepSweepCardSaid : Prop := Claim7.holds Tryd.pinned (.plain (OpenSpec.ofChange fnStepSweepSpec)) fnStepSweepCard

/-- THE TIED CARD OF 'laws.FnSweepTwice'. -/
def fnSweepTwiceCard : Claim7 := { stood := { row := fnSweepTwiceRow, standIns := [], harness := (true, "7c79535c8f629499a63d1a7a02e1930914c911ba5411137931243258cbd7ffa4"), looks := false }, kinds := [], alts := [], laidByText := true, laidKinds := [.data], laidTests := true, laidLooks := .later }
def FnSweepTwiceCardSaid : Prop := Claim7.holds Tryd.pinned (.plain (OpenSpec.ofChange fnSweepTwiceSpec)) fnSweepTwiceCard

/-- THE TIED CARD OF 'laws.FnExactSweepCells'. -/
def fnExactSweepCellsCard : Claim7 := { stood := { row := fnExactSweepCellsRow, standIns := [], harness := (true, "7c79535c8f629499a63d1a7a02e1930914c911ba5411137931243258cbd7ffa4"), looks := false }, kinds := [], alts := [], laidByText := true, laidKinds := [.data], laidTests := true, laidLooks := .later }
def FnExactSweepCellsCardSaid : Prop := Claim7.holds Tryd.pinned (.plain (OpenSpec.ofChange fnExactSweepCellsSpec)) fnExactSweepCellsCard

/-- THE TIED CARD OF 'laws.FnExactCollectSweep'. -/
def fnExactCollectSweepCard : Claim7 := { stood := { row := fnExactCollectSweepRow, standIns := [], harness := (true, "7c79535c8f629499a63d1a7a02e1930914c911ba5411137931243258cbd7ffa4"), looks := false }, kinds := [], alts := [], laidByText := true, laidKinds := [.data], laidTests := true, laidLooks := .later }
def FnExactCollectSweepCardSaid : Prop := Claim7.holds Tryd.pinned (.plain (OpenSpec.ofChange fnExactCollectSweepSpec)) fnExactCollectSweepCard

/-- THE TIED CARD OF 'laws.FnExactStepSweep'. -/
def fnExactStepSweepCard : Claim7 := { stood := { row := fnExactStepSweepRow, standIns := [], harness := (true, "7c79535c8f629499a63d1a7a02e1930914c911ba5411137931243258cbd7ffa4"), looks := false }, kinds := [], alts := [], laidByText := true, laidKinds := [.data], laidTests := true, laidLooks := .later }
def FnExactStepSweepCardSaid : Prop := Claim7.holds Tryd.pinned (.plain (OpenSpec.ofChange fnExactStepSweepSpec)) fnExactStepSweepCard

/-- THE TIED CARD OF 'laws.FnExactRunSweep'. -/
def fnExactRunSweepCard : Claim7 := { stood := { row := fnExactRunSweepRow, standIns := [], harness := (true, "7c79535c8f629499a63d1a7a02e1930914c911ba5411137931243258cbd7ffa4"), looks := false }, kinds := [], alts := [], laidByText := true, laidKinds := [.data], laidTests := true, laidLooks := .later }
def FnExactRunSweepCardSaid : Prop := Claim7.holds Tryd.pinned (.plain (OpenSpec.ofChange fnExactRunSweepSpec)) fnExactRunSweepCard

/-- THE SECOND FORM's CARD OF 'laws.FnViewOf'. -/
def fnViewOfUptoCard : Claim7 := { stood := { row := fnViewOfUptoRow, standIns := [], harness := (true, "7c79535c8f629499a63d1a7a02e1930914c911ba5411137931243258cbd7ffa4"), looks := false }, kinds := [], alts := [], laidByText := true, laidKinds := [.data], laidTests := true, laidLooks := .later }
def FnViewOfUptoCardSaid : Prop := Claim7.holds Tryd.pinned (.plain (OpenSpec.upto fnViewOfSpec)) fnViewOfUptoCard

/-- THE SECOND FORM's CARD OF 'laws.FnLeakedCells'. -/
def fnLeakedCellsUptoCard : Claim7 := { stood := { row := fnLeakedCellsUptoRow, standIns := [], harness := (true, "7c79535c8f629499a63d1a7a02e1930914c911ba5411137931243258cbd7ffa4"), looks := false }, kinds := [], alts := [], laidByText := true, laidKinds := [.data], laidTests := true, laidLooks := .later }
def FnLeakedCellsUptoCardSaid : Prop := Claim7.holds Tryd.pinned (.plain (OpenSpec.upto fnLeakedCellsSpec)) fnLeakedCellsUptoCard

/-- THE SECOND FORM's CARD OF 'laws.FnSweepCells'. -/
def fnSweepCellsUptoCard : Claim7 := { stood := { row := fnSweepCellsUptoRow, standIns := [], harness := (true, "7c79535c8f629499a63d1a7a02e1930914c911ba5411137931243258cbd7ffa4"), looks := false }, kinds := [], alts := [], laidByText := true, laidKinds := [.data], laidTests := true, laidLooks := .later }
def FnSweepCellsUptoCardSaid : Prop := Claim7.holds Tryd.pinned (.plain (OpenSpec.upto fnSweepCellsSpec)) fnSweepCellsUptoCard

/-- THE SECOND FORM's CARD OF 'laws.FnCollectSweep'. -/
def fnCollectSweepUptoCard : Claim7 := { stood := { row := fnCollectSweepUptoRow, standIns := [], harness := (true, "7c79535c8f629499a63d1a7a02e1930914c911ba5411137931243258cbd7ffa4"), looks := false }, kinds := [], alts := [], laidByText := true, laidKinds := [.data], laidTests := true, laidLooks := .later }
def FnCollectSweepUptoCardSaid : Prop := Claim7.holds Tryd.pinned (.plain (OpenSpec.upto fnCollectSweepSpec)) fnCollectSweepUptoCard

/-- THE SECOND FORM's CARD OF 'laws.FnStepSweep'. -/
def fnStepSweepUptoCard : Claim7 := { stood := { row := fnStepSweepUptoRow, standIns := [], harness := (true, "7c79535c8f629499a63d1a7a02e1930914c911ba5411137931243258cbd7ffa4"), looks := false }, kinds := [], alts := [], laidByText := true, laidKinds := [.data], laidTests := true, laidLooks := .later }
def FnStepSweepUptoCardSaid : Prop := Claim7.holds Tryd.pinned (.plain (OpenSpec.upto fnStepSweepSpec)) fnStepSweepUptoCard

/-- THE SECOND FORM's CARD OF 'laws.FnSweepTwice'. -/
def fnSweepTwiceUptoCard : Claim7 := { stood := { row := fnSweepTwiceUptoRow, standIns := [], harness := (true, "7c79535c8f629499a63d1a7a02e1930914c911ba5411137931243258cbd7ffa4"), looks := false }, kinds := [], alts := [], laidByText := true, laidKinds := [.data], laidTests := true, laidLooks := .later }
def FnSweepTwiceUptoCardSaid : Prop := Claim7.holds Tryd.pinned (.plain (OpenSpec.upto fnSweepTwiceSpec)) fnSweepTwiceUptoCard

/-- THE SECOND FORM's CARD OF 'laws.FnExactSweepCells'. -/
def fnExactSweepCellsUptoCard : Claim7 := { stood := { row := fnExactSweepCellsUptoRow, standIns := [], harness := (true, "7c79535c8f629499a63d1a7a02e1930914c911ba5411137931243258cbd7ffa4"), looks := false }, kinds := [], alts := [], laidByText := true, laidKinds := [.data], laidTests := true, laidLooks := .later }
def FnExactSweepCellsUptoCardSaid : Prop := Claim7.holds Tryd.pinned (.plain (OpenSpec.upto fnExactSweepCellsSpec)) fnExactSweepCellsUptoCard

/-- THE SECOND FORM's CARD OF 'laws.FnExactCollectSweep'. -/
def fnExactCollectSweepUptoCard : Claim7 := { stood := { row := fnExactCollectSweepUptoRow, standIns := [], harness := (true, "7c79535c8f629499a63d1a7a02e1930914c911ba5411137931243258cbd7ffa4"), looks := false }, kinds := [], alts := [], laidByText := true, laidKinds := [.data], laidTests := true, laidLooks := .later }
def FnExactCollectSweepUptoCardSaid : Prop := Claim7.holds Tryd.pinned (.plain (OpenSpec.upto fnExactCollectSweepSpec)) fnExactCollectSweepUptoCard

/-- THE SECOND FORM's CARD OF 'laws.FnExactStepSweep'. -/
def fnExactStepSweepUptoCard : Claim7 := { stood := { row := fnExactStepSweepUptoRow, standIns := [], harness := (true, "7c79535c8f629499a63d1a7a02e1930914c911ba5411137931243258cbd7ffa4"), looks := false }, kinds := [], alts := [], laidByText := true, laidKinds := [.data], laidTests := true, laidLooks := .later }
def FnExactStepSweepUptoCardSaid : Prop := Claim7.holds Tryd.pinned (.plain (OpenSpec.upto fnExactStepSweepSpec)) fnExactStepSweepUptoCard

/-- THE SECOND FORM's CARD OF 'laws.FnExactRunSweep'. -/
def fnExactRunSweepUptoCard : Claim7 := { stood := { row := fnExactRunSweepUptoRow, standIns := [], harness := (true, "7c79535c8f629499a63d1a7a02e1930914c911ba5411137931243258cbd7ffa4"), looks := false }, kinds := [], alts := [], laidByText := true, laidKinds := [.data], laidTests := true, laidLooks := .later }
def FnExactRunSweepUptoCardSaid : Prop := Claim7.holds Tryd.pinned (.plain (OpenSpec.upto fnExactRunSweepSpec)) fnExactRunSweepUptoCard
end Rows
end Go.Proofs.YthmddmddcdofaaaDoor
