/-
  DERIVED. GIVEN WITH THE SEED: THE CARDS: each row of YtaacoedmlfcdbaaDoorRows.lean that lists a variable, with what it lists TIED to the program's text (the seventh form; the later family's looks); each row that meets fmt, with fmt's text TOLD by the authors' own Lean function (tested against real Go, not proved from fmt's source: count such statements apart). THE CARD IS WHAT COUNTS. Prove the row's statement (the work); the ties are given (YtaacoedmlfcdbaaDoorTie.lean); close each card by the builder's one call (the guide's Derived/Test/ToyasCard.lean, 'card_holds'). Laid BY PROGRAM, IN A SANDBOX (cutbox-door.mjs). By AI agents, Wed Nov 11 2026. No macro, syntax, notation, axiom, sorry.
-/
import Derived.Test.YtaacoedmlfcdbaaDoorRows
import GoSem.ClaimSeven
namespace Go.Proofs.YtaacoedmlfcdbaaDoor
namespace Rows

/-- THE TIED CARD OF 'laws.FnClassSize'. -/
def fnClassSizeCard : Claim7 := { stood := { row := fnClassSizeRow, standIns := [], harness := (true, "567502de5446e65bd9f0263cee807ec905837399faa5d6a5a09472f6bfcc7d1e"), looks := false }, kinds := [], alts := [], laidByText := true, laidKinds := [.data], laidTests := true, laidLooks := .later }
def FnClassSizeCardSaid : Prop := Claim7.holds Tryd.pinned (.plain (OpenSpec.ofChange fnClassSizeSpec)) fnClassSizeCard

/-- THE TIED CARD OF 'laws.FnClassFor'. -/
def fnClassForCard : Claim7 := { stood := { row := fnClassForRow, standIns := [], harness := (true, "567502de5446e65bd9f0263cee807ec905837399faa5d6a5a09472f6bfcc7d1e"), looks := false }, kinds := [], alts := [], laidByText := true, laidKinds := [.data], laidTests := true, laidLooks := .later }
def FnClassForCardSaid : Prop := Claim7.holds Tryd.pinned (.plain (OpenSpec.ofChange fnClassForSpec)) fnClassForCard

/-- THE TIED CARD OF 'laws.FnSlabTake'. -/
def fnSlabTakeCard : Claim7 := { stood := { row := fnSlabTakeRow, standIns := [], harness := (true, "567502de5446e65bd9f0263cee807ec905837399faa5d6a5a09472f6bfcc7d1e"), looks := false }, kinds := [], alts := [], laidByText := true, laidKinds := [.data, .data], laidTests := true, laidLooks := .later }
def FnSlabTakeCardSaid : Prop := Claim7.holds Tryd.pinned (.plain (OpenSpec.ofChange fnSlabTakeSpec)) fnSlabTakeCard

/-- THE TIED CARD OF 'laws.FnSlabWaste'. -/
def fnSlabWasteCard : Claim7 := { stood := { row := fnSlabWasteRow, standIns := [], harness := (true, "567502de5446e65bd9f0263cee807ec905837399faa5d6a5a09472f6bfcc7d1e"), looks := false }, kinds := [], alts := [], laidByText := true, laidKinds := [.data], laidTests := true, laidLooks := .later }
def FnSlabWasteCardSaid : Prop := Claim7.holds Tryd.pinned (.plain (OpenSpec.ofChange fnSlabWasteSpec)) fnSlabWasteCard

/-- THE TIED CARD OF 'laws.FnSlabAll'. -/
def fnSlabAllCard : Claim7 := { stood := { row := fnSlabAllRow, standIns := [], harness := (true, "567502de5446e65bd9f0263cee807ec905837399faa5d6a5a09472f6bfcc7d1e"), looks := false }, kinds := [], alts := [], laidByText := true, laidKinds := [.data, .data], laidTests := true, laidLooks := .later }
def FnSlabAllCardSaid : Prop := Claim7.holds Tryd.pinned (.plain (OpenSpec.ofChange fnSlabAllSpec)) fnSlabAllCard

/-- THE TIED CARD OF 'laws.FnExactClassSize'. -/
def fnExactClassSizeCard : Claim7 := { stood := { row := fnExactClassSizeRow, standIns := [], harness := (true, "567502de5446e65bd9f0263cee807ec905837399faa5d6a5a09472f6bfcc7d1e"), looks := false }, kinds := [], alts := [], laidByText := true, laidKinds := [.data], laidTests := true, laidLooks := .later }
def FnExactClassSizeCardSaid : Prop := Claim7.holds Tryd.pinned (.plain (OpenSpec.ofChange fnExactClassSizeSpec)) fnExactClassSizeCard

/-- THE TIED CARD OF 'laws.FnExactClassFor'. -/
def fnExactClassForCard : Claim7 := { stood := { row := fnExactClassForRow, standIns := [], harness := (true, "567502de5446e65bd9f0263cee807ec905837399faa5d6a5a09472f6bfcc7d1e"), looks := false }, kinds := [], alts := [], laidByText := true, laidKinds := [.data], laidTests := true, laidLooks := .later }
def FnExactClassForCardSaid : Prop := Claim7.holds Tryd.pinned (.plain (OpenSpec.ofChange fnExactClassForSpec)) fnExactClassForCard

/-- THE TIED CARD OF 'laws.FnExactSlabTake'. -/
def fnExactSlabTakeCard : Claim7 := { stood := { row := fnExactSlabTakeRow, standIns := [], harness := (true, "567502de5446e65bd9f0263cee807ec905837399faa5d6a5a09472f6bfcc7d1e"), looks := false }, kinds := [], alts := [], laidByText := true, laidKinds := [.data, .data], laidTests := true, laidLooks := .later }
def FnExactSlabTakeCardSaid : Prop := Claim7.holds Tryd.pinned (.plain (OpenSpec.ofChange fnExactSlabTakeSpec)) fnExactSlabTakeCard

/-- THE TIED CARD OF 'laws.FnExactSlabWaste'. -/
def fnExactSlabWasteCard : Claim7 := { stood := { row := fnExactSlabWasteRow, standIns := [], harness := (true, "567502de5446e65bd9f0263cee807ec905837399faa5d6a5a09472f6bfcc7d1e"), looks := false }, kinds := [], alts := [], laidByText := true, laidKinds := [.data], laidTests := true, laidLooks := .later }
def FnExactSlabWasteCardSaid : Prop := Claim7.holds Tryd.pinned (.plain (OpenSpec.ofChange fnExactSlabWasteSpec)) fnExactSlabWasteCard

/-- THE SECOND FORM's CARD OF 'laws.FnClassSize'. -/
def fnClassSizeUptoCard : Claim7 := { stood := { row := fnClassSizeUptoRow, standIns := [], harness := (true, "567502de5446e65bd9f0263cee807ec905837399faa5d6a5a09472f6bfcc7d1e"), looks := false }, kinds := [], alts := [], laidByText := true, laidKinds := [.data], laidTests := true, laidLooks := .later }
def FnClassSizeUptoCardSaid : Prop := Claim7.holds Tryd.pinned (.plain (OpenSpec.upto fnClassSizeSpec)) fnClassSizeUptoCard

/-- THE SECOND FORM's CARD OF 'laws.FnClassFor'. -/
def fnClassForUptoCard : Claim7 := { stood := { row := fnClassForUptoRow, standIns := [], harness := (true, "567502de5446e65bd9f0263cee807ec905837399faa5d6a5a09472f6bfcc7d1e"), looks := false }, kinds := [], alts := [], laidByText := true, laidKinds := [.data], laidTests := true, laidLooks := .later }
def FnClassForUptoCardSaid : Prop := Claim7.holds Tryd.pinned (.plain (OpenSpec.upto fnClassForSpec)) fnClassForUptoCard

/-- THE SECOND FORM's CARD OF 'laws.FnSlabTake'. -/
def fnSlabTakeUptoCard : Claim7 := { stood := { row := fnSlabTakeUptoRow, standIns := [], harness := (true, "567502de5446e65bd9f0263cee807ec905837399faa5d6a5a09472f6bfcc7d1e"), looks := false }, kinds := [], alts := [], laidByText := true, laidKinds := [.data, .data], laidTests := true, laidLooks := .later }
def FnSlabTakeUptoCardSaid : Prop := Claim7.holds Tryd.pinned (.plain (OpenSpec.upto fnSlabTakeSpec)) fnSlabTakeUptoCard

/-- THE SECOND FORM's CARD OF 'laws.FnSlabWaste'. -/
def fnSlabWasteUptoCard : Claim7 := { stood := { row := fnSlabWasteUptoRow, standIns := [], harness := (true, "567502de5446e65bd9f0263cee807ec905837399faa5d6a5a09472f6bfcc7d1e"), looks := false }, kinds := [], alts := [], laidByText := true, laidKinds := [.data], laidTests := true, laidLooks := .later }
def FnSlabWasteUptoCardSaid : Prop := Claim7.holds Tryd.pinned (.plain (OpenSpec.upto fnSlabWasteSpec)) fnSlabWasteUptoCard

/-- THE SECOND FORM's CARD OF 'laws.FnSlabAll'. -/
def fnSlabAllUptoCard : Claim7 := { stood := { row := fnSlabAllUptoRow, standIns := [], harness := (true, "567502de5446e65bd9f0263cee807ec905837399faa5d6a5a09472f6bfcc7d1e"), looks := false }, kinds := [], alts := [], laidByText := true, laidKinds := [.data, .data], laidTests := true, laidLooks := .later }
def FnSlabAllUptoCardSaid : Prop := Claim7.holds Tryd.pinned (.plain (OpenSpec.upto fnSlabAllSpec)) fnSlabAllUptoCard

/-- THE SECOND FORM's CARD OF 'laws.FnExactClassSize'. -/
def fnExactClassSizeUptoCard : Claim7 := { stood := { row := fnExactClassSizeUptoRow, standIns := [], harness := (true, "567502de5446e65bd9f0263cee807ec905837399faa5d6a5a09472f6bfcc7d1e"), looks := false }, kinds := [], alts := [], laidByText := true, laidKinds := [.data], laidTests := true, laidLooks := .later }
def FnExactClassSizeUptoCardSaid : Prop := Claim7.holds Tryd.pinned (.plain (OpenSpec.upto fnExactClassSizeSpec)) fnExactClassSizeUptoCard

/-- THE SECOND FORM's CARD OF 'laws.FnExactClassFor'. -/
def fnExactClassForUptoCard : Claim7 := { stood := { row := fnExactClassForUptoRow, standIns := [], harness := (true, "567502de5446e65bd9f0263cee807ec905837399faa5d6a5a09472f6bfcc7d1e"), looks := false }, kinds := [], alts := [], laidByText := true, laidKinds := [.data], laidTests := true, laidLooks := .later }
def FnExactClassForUptoCardSaid : Prop := Claim7.holds Tryd.pinned (.plain (OpenSpec.upto fnExactClassForSpec)) fnExactClassForUptoCard

/-- THE SECOND FORM's CARD OF 'laws.FnExactSlabTake'. -/
def fnExactSlabTakeUptoCard : Claim7 := { stood := { row := fnExactSlabTakeUptoRow, standIns := [], harness := (true, "567502de5446e65bd9f0263cee807ec905837399faa5d6a5a09472f6bfcc7d1e"), looks := false }, kinds := [], alts := [], laidByText := true, laidKinds := [.data, .data], laidTests := true, laidLooks := .later }
def FnExactSlabTakeUptoCardSaid : Prop := Claim7.holds Tryd.pinned (.plain (OpenSpec.upto fnExactSlabTakeSpec)) fnExactSlabTakeUptoCard

/-- THE SECOND FORM's CARD OF 'laws.FnExactSlabWaste'. -/
def fnExactSlabWasteUptoCard : Claim7 := { stood := { row := fnExactSlabWasteUptoRow, standIns := [], harness := (true, "567502de5446e65bd9f0263cee807ec905837399faa5d6a5a09472f6bfcc7d1e"), looks := false }, kinds := [], alts := [], laidByText := true, laidKinds := [.data], laidTests := true, laidLooks := .later }
def FnExactSlabWasteUptoCardSaid : Prop := Claim7.holds Tryd.pinned (.plain (OpenSpec.upto fnExactSlabWasteSpec)) fnExactSlabWasteUptoCard
end Rows
end Go.Proofs.YtaacoedmlfcdbaaDoor
