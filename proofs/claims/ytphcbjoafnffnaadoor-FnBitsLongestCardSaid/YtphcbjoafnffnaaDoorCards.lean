/-
  DERIVED. GIVEN WITH THE SEED: THE CARDS: each row of YtphcbjoafnffnaaDoorRows.lean that lists a variable, with what it lists TIED to the program's text (the seventh form; the later family's looks); each row that meets fmt, with fmt's text TOLD by the authors' own Lean function (tested against real Go, not proved from fmt's source: count such statements apart). THE CARD IS WHAT COUNTS. Prove the row's statement (the work); the ties are given (YtphcbjoafnffnaaDoorTie.lean); close each card by the builder's one call (the guide's Derived/Test/ToyasCard.lean, 'card_holds'). Laid BY PROGRAM, IN A SANDBOX (cutbox-door.mjs). By AI agents, Wed Nov 11 2026. No macro, syntax, notation, axiom, sorry.
-/
import Derived.Test.YtphcbjoafnffnaaDoorRows
import GoSem.ClaimSeven
namespace Go.Proofs.YtphcbjoafnffnaaDoor
namespace Rows

/-- THE TIED CARD OF 'laws.FnBitsFind'. -/
def fnBitsFindCard : Claim7 := { stood := { row := fnBitsFindRow, standIns := [], harness := (true, "e0ef870507b696e961abc6216c44e3db0348f6e394ecf6f0836d753bc9ff3114"), looks := false }, kinds := [], alts := [], laidByText := true, laidKinds := [.data], laidTests := true, laidLooks := .later }
def FnBitsFindCardSaid : Prop := Claim7.holds Tryd.pinned (.plain (OpenSpec.ofChange fnBitsFindSpec)) fnBitsFindCard

/-- THE TIED CARD OF 'laws.FnBitsLongest'. -/
def fnBitsLongestCard : Claim7 := { stood := { row := fnBitsLongestRow, standIns := [], harness := (true, "e0ef870507b696e961abc6216c44e3db0348f6e394ecf6f0836d753bc9ff3114"), looks := false }, kinds := [], alts := [], laidByText := true, laidKinds := [.data], laidTests := true, laidLooks := .later }
def FnBitsLongestCardSaid : Prop := Claim7.holds Tryd.pinned (.plain (OpenSpec.ofChange fnBitsLongestSpec)) fnBitsLongestCard

/-- THE TIED CARD OF 'laws.FnExactBitsFind'. -/
def fnExactBitsFindCard : Claim7 := { stood := { row := fnExactBitsFindRow, standIns := [], harness := (true, "e0ef870507b696e961abc6216c44e3db0348f6e394ecf6f0836d753bc9ff3114"), looks := false }, kinds := [], alts := [], laidByText := true, laidKinds := [.data], laidTests := true, laidLooks := .later }
def FnExactBitsFindCardSaid : Prop := Claim7.holds Tryd.pinned (.plain (OpenSpec.ofChange fnExactBitsFindSpec)) fnExactBitsFindCard

/-- THE SECOND FORM's CARD OF 'laws.FnBitsFind'. -/
def fnBitsFindUptoCard : Claim7 := { stood := { row := fnBitsFindUptoRow, standIns := [], harness := (true, "e0ef870507b696e961abc6216c44e3db0348f6e394ecf6f0836d753bc9ff3114"), looks := false }, kinds := [], alts := [], laidByText := true, laidKinds := [.data], laidTests := true, laidLooks := .later }
def FnBitsFindUptoCardSaid : Prop := Claim7.holds Tryd.pinned (.plain (OpenSpec.upto fnBitsFindSpec)) fnBitsFindUptoCard

/-- THE SECOND FORM's CARD OF 'laws.FnBitsLongest'. -/
def fnBitsLongestUptoCard : Claim7 := { stood := { row := fnBitsLongestUptoRow, standIns := [], harness := (true, "e0ef870507b696e961abc6216c44e3db0348f6e394ecf6f0836d753bc9ff3114"), looks := false }, kinds := [], alts := [], laidByText := true, laidKinds := [.data], laidTests := true, laidLooks := .later }
def FnBitsLongestUptoCardSaid : Prop := Claim7.holds Tryd.pinned (.plain (OpenSpec.upto fnBitsLongestSpec)) fnBitsLongestUptoCard

/-- THE SECOND FORM's CARD OF 'laws.FnExactBitsFind'. -/
def fnExactBitsFindUptoCard : Claim7 := { stood := { row := fnExactBitsFindUptoRow, standIns := [], harness := (true, "e0ef870507b696e961abc6216c44e3db0348f6e394ecf6f0836d753bc9ff3114"), looks := false }, kinds := [], alts := [], laidByText := true, laidKinds := [.data], laidTests := true, laidLooks := .later }
def FnExactBitsFindUptoCardSaid : Prop := Claim7.holds Tryd.pinned (.plain (OpenSpec.upto fnExactBitsFindSpec)) fnExactBitsFindUptoCard
end Rows
end Go.Proofs.YtphcbjoafnffnaaDoor
