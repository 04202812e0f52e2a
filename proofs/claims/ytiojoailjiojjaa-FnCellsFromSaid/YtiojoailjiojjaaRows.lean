/-
  No cell of these rows narrows 'for every input' (looked for: loops, veiled, ifaces, maps, wideKeys, modest, calm, conditions, laid).
  DERIVED. THE GIVEN ROWS OF THIS SEAT. 4 by the template 'for every input the law returns true; each argument reads behind the call as it read before'; 0 by the template 'total and deterministic' (their statements: YtiojoailjiojjaaTotals.lean).
  GIVEN WITH THE SEED: the statements are not yours to turn. If you find one false, say at which input.
  Laid BY PROGRAM, IN A SANDBOX (cutbox-rows.mjs): the forced cells as the released guide's own fill.sh prints them over the translation 776de85fd5cfd950… (all of the seat's roots in one cut). By AI agents, Wed Nov 11 2026. No macro, syntax, notation, axiom, sorry.
-/
import Derived.Test.YtiojoailjiojjaaChecked
import GoSem.Claim
import GoSem.ClaimJoined
import GoSem.ClaimMapViews
import Derived.JoinedTies
import Derived.KernelRfl
namespace Go.Proofs.Ytiojoailjiojjaa
/- THE CELL 'sum', in the pinned program and in every row, IS THE sha256 OF THE DUMP (.gsa) THAT YtiojoailjiojjaaProg.lean LOADS. Nothing in Lean hashes anything: it is a label: what it is worth is what the hold of that sum in a sandbox is worth. -/
noncomputable def Try.pinned : Pinned := { name := "ytiojoailjiojjaa", sum := "776de85fd5cfd950d1ee3769fdd862afe133914d4c8fce613858f30c0a473881", checked := Try.checked }
namespace Rows
def none {H : Type} : Left H := { results := [], args := [] }

/-- 'laws.FnTrialCounts': WHATEVER THE INPUT: true; the input reads as it did. -/
def fnTrialCountsSpec : ChangeSpec := { name := "fnTrialCounts", fn := fun _ => fun
  | [d] => { results := [.lit (.bool true)], args := [d] }
  | _ => none }
def fnTrialCountsRow : OpenClaim := { program := "ytiojoailjiojjaa", sum := "776de85fd5cfd950d1ee3769fdd862afe133914d4c8fce613858f30c0a473881", func := "loop.example/memorymanagers/laws.FnTrialCounts", spec := "fnTrialCounts", apart := false }
def FnTrialCountsSaid : Prop := fnTrialCountsRow.holds Try.pinned (OpenSpec.ofChange fnTrialCountsSpec)

/-- ITS FALSE NEIGHBOUR: 'it returns false'. Refute it at one input. -/
def fnTrialCountsWrong : ChangeSpec := { name := "fnTrialCounts", fn := fun _ => fun
  | [d] => { results := [.lit (.bool false)], args := [d] }
  | _ => none }
def FnTrialCountsWrongFalsely : Prop := fnTrialCountsRow.holds Try.pinned (OpenSpec.ofChange fnTrialCountsWrong)

/-- 'laws.FnCellsFrom': WHATEVER THE INPUT: true; the input reads as it did. -/
def fnCellsFromSpec : ChangeSpec := { name := "fnCellsFrom", fn := fun _ => fun
  | [d] => { results := [.lit (.bool true)], args := [d] }
  | _ => none }
def fnCellsFromRow : OpenClaim := { program := "ytiojoailjiojjaa", sum := "776de85fd5cfd950d1ee3769fdd862afe133914d4c8fce613858f30c0a473881", func := "loop.example/memorymanagers/laws.FnCellsFrom", spec := "fnCellsFrom", apart := false }
def FnCellsFromSaid : Prop := fnCellsFromRow.holds Try.pinned (OpenSpec.ofChange fnCellsFromSpec)

/-- ITS FALSE NEIGHBOUR: 'it returns false'. Refute it at one input. -/
def fnCellsFromWrong : ChangeSpec := { name := "fnCellsFrom", fn := fun _ => fun
  | [d] => { results := [.lit (.bool false)], args := [d] }
  | _ => none }
def FnCellsFromWrongFalsely : Prop := fnCellsFromRow.holds Try.pinned (OpenSpec.ofChange fnCellsFromWrong)

/-- 'laws.FnExactTrialCounts': WHATEVER THE INPUT: true; the input reads as it did. -/
def fnExactTrialCountsSpec : ChangeSpec := { name := "fnExactTrialCounts", fn := fun _ => fun
  | [d1, d2] => { results := [.lit (.bool true)], args := [d1, d2] }
  | _ => none }
def fnExactTrialCountsRow : OpenClaim := { program := "ytiojoailjiojjaa", sum := "776de85fd5cfd950d1ee3769fdd862afe133914d4c8fce613858f30c0a473881", func := "loop.example/memorymanagers/laws.FnExactTrialCounts", spec := "fnExactTrialCounts", apart := false }
def FnExactTrialCountsSaid : Prop := fnExactTrialCountsRow.holds Try.pinned (OpenSpec.ofChange fnExactTrialCountsSpec)

/-- ITS FALSE NEIGHBOUR: 'it returns false'. Refute it at one input. -/
def fnExactTrialCountsWrong : ChangeSpec := { name := "fnExactTrialCounts", fn := fun _ => fun
  | [d1, d2] => { results := [.lit (.bool false)], args := [d1, d2] }
  | _ => none }
def FnExactTrialCountsWrongFalsely : Prop := fnExactTrialCountsRow.holds Try.pinned (OpenSpec.ofChange fnExactTrialCountsWrong)

/-- 'laws.FnExactCellsFrom': WHATEVER THE INPUT: true; the input reads as it did. -/
def fnExactCellsFromSpec : ChangeSpec := { name := "fnExactCellsFrom", fn := fun _ => fun
  | [d1, d2] => { results := [.lit (.bool true)], args := [d1, d2] }
  | _ => none }
def fnExactCellsFromRow : OpenClaim := { program := "ytiojoailjiojjaa", sum := "776de85fd5cfd950d1ee3769fdd862afe133914d4c8fce613858f30c0a473881", func := "loop.example/memorymanagers/laws.FnExactCellsFrom", spec := "fnExactCellsFrom", apart := false }
def FnExactCellsFromSaid : Prop := fnExactCellsFromRow.holds Try.pinned (OpenSpec.ofChange fnExactCellsFromSpec)

/-- ITS FALSE NEIGHBOUR: 'it returns false'. Refute it at one input. -/
def fnExactCellsFromWrong : ChangeSpec := { name := "fnExactCellsFrom", fn := fun _ => fun
  | [d1, d2] => { results := [.lit (.bool false)], args := [d1, d2] }
  | _ => none }
def FnExactCellsFromWrongFalsely : Prop := fnExactCellsFromRow.holds Try.pinned (OpenSpec.ofChange fnExactCellsFromWrong)

/- THE SECOND FORM. 'bulk': how many values and letters a reading holds, each counted each time it is reached (what is shared counts as often as it is met; a slice's spare places count too). A statement '..UptoSaid' is the law's where the arguments, and the package variables that the reading takes, are together of bulk at most 1048576: NARROWER than '..Said'. Prove '..Said' where nothing that the law and all that it calls make is longer than what came in: it says more and counts as full. Else prove '..UptoSaid'. A law counts once. -/
mutual
def uptoBulk {H : Type} : DataW H → Nat
  | .lit (.string bytes) => bytes.length + 1
  | .lit _ => 1
  | .nil => 1
  | .ptr d => uptoBulk d + 1
  | .slice elems spare => uptoBulkAll elems + uptoBulkAll spare + 1
  | .agg parts => uptoBulkAll parts + 1
  | .iface _ d => uptoBulk d + 1
  | .map entries => uptoBulkEntries entries + 1
  | .held _ => 1
def uptoBulkAll {H : Type} : List (DataW H) → Nat
  | [] => 0
  | d :: r => uptoBulk d + uptoBulkAll r
def uptoBulkEntries {H : Type} : List (Lit × DataW H) → Nat
  | [] => 0
  | x :: r => uptoBulkEntry x + uptoBulkEntries r
def uptoBulkEntry {H : Type} : Lit × DataW H → Nat
  | (.string bytes, d) => bytes.length + uptoBulk d + 1
  | (_, d) => uptoBulk d + 1
 end
def uptoSmall : (H : Type) → List (DataW H) → Bool := fun _ ds => decide (uptoBulkAll ds ≤ 1048576)
def OpenSpec.upto (s : _root_.Go.ChangeSpec) : _root_.Go.OpenSpec := { _root_.Go.OpenSpec.ofChange s with cond := some uptoSmall }

/-- 'laws.FnTrialCounts', WHERE WHAT IT READS IS OF BULK AT MOST 1048576: true; the input reads as it did. -/
def fnTrialCountsUptoRow : OpenClaim := { program := "ytiojoailjiojjaa", sum := "776de85fd5cfd950d1ee3769fdd862afe133914d4c8fce613858f30c0a473881", func := "loop.example/memorymanagers/laws.FnTrialCounts", spec := "fnTrialCounts", apart := false, narrowed := true }
def FnTrialCountsUptoSaid : Prop := fnTrialCountsUptoRow.holds Try.pinned (OpenSpec.upto fnTrialCountsSpec)

/-- 'laws.FnCellsFrom', WHERE WHAT IT READS IS OF BULK AT MOST 1048576: true; the input reads as it did. -/
def fnCellsFromUptoRow : OpenClaim := { program := "ytiojoailjiojjaa", sum := "776de85fd5cfd950d1ee3769fdd862afe133914d4c8fce613858f30c0a473881", func := "loop.example/memorymanagers/laws.FnCellsFrom", spec := "fnCellsFrom", apart := false, narrowed := true }
def FnCellsFromUptoSaid : Prop := fnCellsFromUptoRow.holds Try.pinned (OpenSpec.upto fnCellsFromSpec)

/-- 'laws.FnExactTrialCounts', WHERE WHAT IT READS IS OF BULK AT MOST 1048576: true; the input reads as it did. -/
def fnExactTrialCountsUptoRow : OpenClaim := { program := "ytiojoailjiojjaa", sum := "776de85fd5cfd950d1ee3769fdd862afe133914d4c8fce613858f30c0a473881", func := "loop.example/memorymanagers/laws.FnExactTrialCounts", spec := "fnExactTrialCounts", apart := false, narrowed := true }
def FnExactTrialCountsUptoSaid : Prop := fnExactTrialCountsUptoRow.holds Try.pinned (OpenSpec.upto fnExactTrialCountsSpec)

/-- 'laws.FnExactCellsFrom', WHERE WHAT IT READS IS OF BULK AT MOST 1048576: true; the input reads as it did. -/
def fnExactCellsFromUptoRow : OpenClaim := { program := "ytiojoailjiojjaa", sum := "776de85fd5cfd950d1ee3769fdd862afe133914d4c8fce613858f30c0a473881", func := "loop.example/memorymanagers/laws.FnExactCellsFrom", spec := "fnExactCellsFrom", apart := false, narrowed := true }
def FnExactCellsFromUptoSaid : Prop := fnExactCellsFromUptoRow.holds Try.pinned (OpenSpec.upto fnExactCellsFromSpec)

end Rows
end Go.Proofs.Ytiojoailjiojjaa
