/-
  No cell of these rows narrows 'for every input' (looked for: loops, veiled, ifaces, maps, wideKeys, modest, calm, conditions, laid).
  DERIVED. THE GIVEN ROWS OF THIS SEAT. 12 by the template 'for every input the law returns true; each argument reads behind the call as it read before'; 0 by the template 'total and deterministic' (their statements: YtijgfpcpkmpdpaaTotals.lean).
  GIVEN WITH THE SEED: the statements are not yours to turn. If you find one false, say at which input.
  Laid BY PROGRAM, IN A SANDBOX (cutbox-rows.mjs): the forced cells as the released guide's own fill.sh prints them over the translation 54d28f4f29fe3894… (all of the seat's roots in one cut). By AI agents, Wed Nov 11 2026. No macro, syntax, notation, axiom, sorry.
-/
import Derived.Test.YtijgfpcpkmpdpaaChecked
import GoSem.Claim
import GoSem.ClaimJoined
import GoSem.ClaimMapViews
import Derived.JoinedTies
import Derived.KernelRfl
namespace Go.Proofs.Ytijgfpcpkmpdpaa
/- THE CELL 'sum', in the pinned program and in every row, IS THE sha256 OF THE DUMP (.gsa) THAT YtijgfpcpkmpdpaaProg.lean LOADS. Nothing in Lean hashes anything: it is a label: what it is worth is what the hold of that sum in a sandbox is worth. -/
noncomputable def Try.pinned : Pinned := { name := "ytijgfpcpkmpdpaa", sum := "54d28f4f29fe38947a8468cf7b77d2a26ac740486f48d39c95a43fcd85a8dd43", checked := Try.checked }
namespace Rows
def none {H : Type} : Left H := { results := [], args := [] }

/-- 'laws.FnEmptyHeap': WHATEVER THE INPUT: true; the input reads as it did. -/
def fnEmptyHeapSpec : ChangeSpec := { name := "fnEmptyHeap", fn := fun _ => fun
  | [d] => { results := [.lit (.bool true)], args := [d] }
  | _ => none }
def fnEmptyHeapRow : OpenClaim := { program := "ytijgfpcpkmpdpaa", sum := "54d28f4f29fe38947a8468cf7b77d2a26ac740486f48d39c95a43fcd85a8dd43", func := "loop.example/memorymanagers/laws.FnEmptyHeap", spec := "fnEmptyHeap", apart := false }
def FnEmptyHeapSaid : Prop := fnEmptyHeapRow.holds Try.pinned (OpenSpec.ofChange fnEmptyHeapSpec)

/-- ITS FALSE NEIGHBOUR: 'it returns false'. Refute it at one input. -/
def fnEmptyHeapWrong : ChangeSpec := { name := "fnEmptyHeap", fn := fun _ => fun
  | [d] => { results := [.lit (.bool false)], args := [d] }
  | _ => none }
def FnEmptyHeapWrongFalsely : Prop := fnEmptyHeapRow.holds Try.pinned (OpenSpec.ofChange fnEmptyHeapWrong)

/-- 'laws.FnReachable': WHATEVER THE INPUT: true; the input reads as it did. -/
def fnReachableSpec : ChangeSpec := { name := "fnReachable", fn := fun _ => fun
  | [d] => { results := [.lit (.bool true)], args := [d] }
  | _ => none }
def fnReachableRow : OpenClaim := { program := "ytijgfpcpkmpdpaa", sum := "54d28f4f29fe38947a8468cf7b77d2a26ac740486f48d39c95a43fcd85a8dd43", func := "loop.example/memorymanagers/laws.FnReachable", spec := "fnReachable", apart := false }
def FnReachableSaid : Prop := fnReachableRow.holds Try.pinned (OpenSpec.ofChange fnReachableSpec)

/-- ITS FALSE NEIGHBOUR: 'it returns false'. Refute it at one input. -/
def fnReachableWrong : ChangeSpec := { name := "fnReachable", fn := fun _ => fun
  | [d] => { results := [.lit (.bool false)], args := [d] }
  | _ => none }
def FnReachableWrongFalsely : Prop := fnReachableRow.holds Try.pinned (OpenSpec.ofChange fnReachableWrong)

/-- 'laws.FnRefCounts': WHATEVER THE INPUT: true; the input reads as it did. -/
def fnRefCountsSpec : ChangeSpec := { name := "fnRefCounts", fn := fun _ => fun
  | [d] => { results := [.lit (.bool true)], args := [d] }
  | _ => none }
def fnRefCountsRow : OpenClaim := { program := "ytijgfpcpkmpdpaa", sum := "54d28f4f29fe38947a8468cf7b77d2a26ac740486f48d39c95a43fcd85a8dd43", func := "loop.example/memorymanagers/laws.FnRefCounts", spec := "fnRefCounts", apart := false }
def FnRefCountsSaid : Prop := fnRefCountsRow.holds Try.pinned (OpenSpec.ofChange fnRefCountsSpec)

/-- ITS FALSE NEIGHBOUR: 'it returns false'. Refute it at one input. -/
def fnRefCountsWrong : ChangeSpec := { name := "fnRefCounts", fn := fun _ => fun
  | [d] => { results := [.lit (.bool false)], args := [d] }
  | _ => none }
def FnRefCountsWrongFalsely : Prop := fnRefCountsRow.holds Try.pinned (OpenSpec.ofChange fnRefCountsWrong)

/-- 'laws.FnCommandValid': WHATEVER THE INPUT: true; the input reads as it did. -/
def fnCommandValidSpec : ChangeSpec := { name := "fnCommandValid", fn := fun _ => fun
  | [d] => { results := [.lit (.bool true)], args := [d] }
  | _ => none }
def fnCommandValidRow : OpenClaim := { program := "ytijgfpcpkmpdpaa", sum := "54d28f4f29fe38947a8468cf7b77d2a26ac740486f48d39c95a43fcd85a8dd43", func := "loop.example/memorymanagers/laws.FnCommandValid", spec := "fnCommandValid", apart := false }
def FnCommandValidSaid : Prop := fnCommandValidRow.holds Try.pinned (OpenSpec.ofChange fnCommandValidSpec)

/-- ITS FALSE NEIGHBOUR: 'it returns false'. Refute it at one input. -/
def fnCommandValidWrong : ChangeSpec := { name := "fnCommandValid", fn := fun _ => fun
  | [d] => { results := [.lit (.bool false)], args := [d] }
  | _ => none }
def FnCommandValidWrongFalsely : Prop := fnCommandValidRow.holds Try.pinned (OpenSpec.ofChange fnCommandValidWrong)

/-- 'laws.FnCommandsValid': WHATEVER THE INPUT: true; the input reads as it did. -/
def fnCommandsValidSpec : ChangeSpec := { name := "fnCommandsValid", fn := fun _ => fun
  | [d] => { results := [.lit (.bool true)], args := [d] }
  | _ => none }
def fnCommandsValidRow : OpenClaim := { program := "ytijgfpcpkmpdpaa", sum := "54d28f4f29fe38947a8468cf7b77d2a26ac740486f48d39c95a43fcd85a8dd43", func := "loop.example/memorymanagers/laws.FnCommandsValid", spec := "fnCommandsValid", apart := false }
def FnCommandsValidSaid : Prop := fnCommandsValidRow.holds Try.pinned (OpenSpec.ofChange fnCommandsValidSpec)

/-- ITS FALSE NEIGHBOUR: 'it returns false'. Refute it at one input. -/
def fnCommandsValidWrong : ChangeSpec := { name := "fnCommandsValid", fn := fun _ => fun
  | [d] => { results := [.lit (.bool false)], args := [d] }
  | _ => none }
def FnCommandsValidWrongFalsely : Prop := fnCommandsValidRow.holds Try.pinned (OpenSpec.ofChange fnCommandsValidWrong)

/-- 'laws.FnCountedValid': WHATEVER THE INPUT: true; the input reads as it did. -/
def fnCountedValidSpec : ChangeSpec := { name := "fnCountedValid", fn := fun _ => fun
  | [d] => { results := [.lit (.bool true)], args := [d] }
  | _ => none }
def fnCountedValidRow : OpenClaim := { program := "ytijgfpcpkmpdpaa", sum := "54d28f4f29fe38947a8468cf7b77d2a26ac740486f48d39c95a43fcd85a8dd43", func := "loop.example/memorymanagers/laws.FnCountedValid", spec := "fnCountedValid", apart := false }
def FnCountedValidSaid : Prop := fnCountedValidRow.holds Try.pinned (OpenSpec.ofChange fnCountedValidSpec)

/-- ITS FALSE NEIGHBOUR: 'it returns false'. Refute it at one input. -/
def fnCountedValidWrong : ChangeSpec := { name := "fnCountedValid", fn := fun _ => fun
  | [d] => { results := [.lit (.bool false)], args := [d] }
  | _ => none }
def FnCountedValidWrongFalsely : Prop := fnCountedValidRow.holds Try.pinned (OpenSpec.ofChange fnCountedValidWrong)

/-- 'laws.FnExactCountedValid': WHATEVER THE INPUT: true; the input reads as it did. -/
def fnExactCountedValidSpec : ChangeSpec := { name := "fnExactCountedValid", fn := fun _ => fun
  | [d] => { results := [.lit (.bool true)], args := [d] }
  | _ => none }
def fnExactCountedValidRow : OpenClaim := { program := "ytijgfpcpkmpdpaa", sum := "54d28f4f29fe38947a8468cf7b77d2a26ac740486f48d39c95a43fcd85a8dd43", func := "loop.example/memorymanagers/laws.FnExactCountedValid", spec := "fnExactCountedValid", apart := false }
def FnExactCountedValidSaid : Prop := fnExactCountedValidRow.holds Try.pinned (OpenSpec.ofChange fnExactCountedValidSpec)

/-- ITS FALSE NEIGHBOUR: 'it returns false'. Refute it at one input. -/
def fnExactCountedValidWrong : ChangeSpec := { name := "fnExactCountedValid", fn := fun _ => fun
  | [d] => { results := [.lit (.bool false)], args := [d] }
  | _ => none }
def FnExactCountedValidWrongFalsely : Prop := fnExactCountedValidRow.holds Try.pinned (OpenSpec.ofChange fnExactCountedValidWrong)

/-- 'laws.FnExactReachable': WHATEVER THE INPUT: true; the input reads as it did. -/
def fnExactReachableSpec : ChangeSpec := { name := "fnExactReachable", fn := fun _ => fun
  | [d] => { results := [.lit (.bool true)], args := [d] }
  | _ => none }
def fnExactReachableRow : OpenClaim := { program := "ytijgfpcpkmpdpaa", sum := "54d28f4f29fe38947a8468cf7b77d2a26ac740486f48d39c95a43fcd85a8dd43", func := "loop.example/memorymanagers/laws.FnExactReachable", spec := "fnExactReachable", apart := false }
def FnExactReachableSaid : Prop := fnExactReachableRow.holds Try.pinned (OpenSpec.ofChange fnExactReachableSpec)

/-- ITS FALSE NEIGHBOUR: 'it returns false'. Refute it at one input. -/
def fnExactReachableWrong : ChangeSpec := { name := "fnExactReachable", fn := fun _ => fun
  | [d] => { results := [.lit (.bool false)], args := [d] }
  | _ => none }
def FnExactReachableWrongFalsely : Prop := fnExactReachableRow.holds Try.pinned (OpenSpec.ofChange fnExactReachableWrong)

/-- 'laws.FnExactUsedCells': WHATEVER THE INPUT: true; the input reads as it did. -/
def fnExactUsedCellsSpec : ChangeSpec := { name := "fnExactUsedCells", fn := fun _ => fun
  | [d] => { results := [.lit (.bool true)], args := [d] }
  | _ => none }
def fnExactUsedCellsRow : OpenClaim := { program := "ytijgfpcpkmpdpaa", sum := "54d28f4f29fe38947a8468cf7b77d2a26ac740486f48d39c95a43fcd85a8dd43", func := "loop.example/memorymanagers/laws.FnExactUsedCells", spec := "fnExactUsedCells", apart := false }
def FnExactUsedCellsSaid : Prop := fnExactUsedCellsRow.holds Try.pinned (OpenSpec.ofChange fnExactUsedCellsSpec)

/-- ITS FALSE NEIGHBOUR: 'it returns false'. Refute it at one input. -/
def fnExactUsedCellsWrong : ChangeSpec := { name := "fnExactUsedCells", fn := fun _ => fun
  | [d] => { results := [.lit (.bool false)], args := [d] }
  | _ => none }
def FnExactUsedCellsWrongFalsely : Prop := fnExactUsedCellsRow.holds Try.pinned (OpenSpec.ofChange fnExactUsedCellsWrong)

/-- 'laws.FnExactRefCounts': WHATEVER THE INPUT: true; the input reads as it did. -/
def fnExactRefCountsSpec : ChangeSpec := { name := "fnExactRefCounts", fn := fun _ => fun
  | [d] => { results := [.lit (.bool true)], args := [d] }
  | _ => none }
def fnExactRefCountsRow : OpenClaim := { program := "ytijgfpcpkmpdpaa", sum := "54d28f4f29fe38947a8468cf7b77d2a26ac740486f48d39c95a43fcd85a8dd43", func := "loop.example/memorymanagers/laws.FnExactRefCounts", spec := "fnExactRefCounts", apart := false }
def FnExactRefCountsSaid : Prop := fnExactRefCountsRow.holds Try.pinned (OpenSpec.ofChange fnExactRefCountsSpec)

/-- ITS FALSE NEIGHBOUR: 'it returns false'. Refute it at one input. -/
def fnExactRefCountsWrong : ChangeSpec := { name := "fnExactRefCounts", fn := fun _ => fun
  | [d] => { results := [.lit (.bool false)], args := [d] }
  | _ => none }
def FnExactRefCountsWrongFalsely : Prop := fnExactRefCountsRow.holds Try.pinned (OpenSpec.ofChange fnExactRefCountsWrong)

/-- 'laws.FnExactCommandValid': WHATEVER THE INPUT: true; the input reads as it did. -/
def fnExactCommandValidSpec : ChangeSpec := { name := "fnExactCommandValid", fn := fun _ => fun
  | [d] => { results := [.lit (.bool true)], args := [d] }
  | _ => none }
def fnExactCommandValidRow : OpenClaim := { program := "ytijgfpcpkmpdpaa", sum := "54d28f4f29fe38947a8468cf7b77d2a26ac740486f48d39c95a43fcd85a8dd43", func := "loop.example/memorymanagers/laws.FnExactCommandValid", spec := "fnExactCommandValid", apart := false }
def FnExactCommandValidSaid : Prop := fnExactCommandValidRow.holds Try.pinned (OpenSpec.ofChange fnExactCommandValidSpec)

/-- ITS FALSE NEIGHBOUR: 'it returns false'. Refute it at one input. -/
def fnExactCommandValidWrong : ChangeSpec := { name := "fnExactCommandValid", fn := fun _ => fun
  | [d] => { results := [.lit (.bool false)], args := [d] }
  | _ => none }
def FnExactCommandValidWrongFalsely : Prop := fnExactCommandValidRow.holds Try.pinned (OpenSpec.ofChange fnExactCommandValidWrong)

/-- 'laws.FnExactCommandsValid': WHATEVER THE INPUT: true; the input reads as it did. -/
def fnExactCommandsValidSpec : ChangeSpec := { name := "fnExactCommandsValid", fn := fun _ => fun
  | [d] => { results := [.lit (.bool true)], args := [d] }
  | _ => none }
def fnExactCommandsValidRow : OpenClaim := { program := "ytijgfpcpkmpdpaa", sum := "54d28f4f29fe38947a8468cf7b77d2a26ac740486f48d39c95a43fcd85a8dd43", func := "loop.example/memorymanagers/laws.FnExactCommandsValid", spec := "fnExactCommandsValid", apart := false }
def FnExactCommandsValidSaid : Prop := fnExactCommandsValidRow.holds Try.pinned (OpenSpec.ofChange fnExactCommandsValidSpec)

/-- ITS FALSE NEIGHBOUR: 'it returns false'. Refute it at one input. -/
def fnExactCommandsValidWrong : ChangeSpec := { name := "fnExactCommandsValid", fn := fun _ => fun
  | [d] => { results := [.lit (.bool false)], args := [d] }
  | _ => none }
def FnExactCommandsValidWrongFalsely : Prop := fnExactCommandsValidRow.holds Try.pinned (OpenSpec.ofChange fnExactCommandsValidWrong)

/- THE SECOND FORM. 'bulk': how many values and letters a reading holds, each counted each time it is reached (what is shared counts as often as it is met; a slice's spare places count too). A statement '..UptoSaid' is the law's where the arguments, and the package variables that the reading takes, are together of bulk at most 1048576: NARROWER than '..Said'. Prove '..Said' where nothing that the law and all that it calls make is longer than what came in: it says more and counts as full. Else prove '..UptoSaid'. A law counts once. -/
mutual
def uptoBulk {H : Type} : DataW H → Nat
  | .lit (.string bytes) => bytes.length + 1
  | .lit _ => 1
  | .nil => 1
  | .ptr d => uptoBulk d + 1
  | .slice elems spare => uptoBulkAll elems + uptoBulkAll spare + 1
  | .agg parts => uptoBulkAll parts + 1
  | .iface _ d => uptoBulk d + 1
  | .map entries => uptoBulkEntries entries + 1
  | .held _ => 1
def uptoBulkAll {H : Type} : List (DataW H) → Nat
  | [] => 0
  | d :: r => uptoBulk d + uptoBulkAll r
def uptoBulkEntries {H : Type} : List (Lit × DataW H) → Nat
  | [] => 0
  | x :: r => uptoBulkEntry x + uptoBulkEntries r
def uptoBulkEntry {H : Type} : Lit × DataW H → Nat
  | (.string bytes, d) => bytes.length + uptoBulk d + 1
  | (_, d) => uptoBulk d + 1
 end
def uptoSmall : (H : Type) → List (DataW H) → Bool := fun _ ds => decide (uptoBulkAll ds ≤ 1048576)
def OpenSpec.upto (s : _root_.Go.ChangeSpec) : _root_.Go.OpenSpec := { _root_.Go.OpenSpec.ofChange s with cond := some uptoSmall }

/-- 'laws.FnEmptyHeap', WHERE WHAT IT READS IS OF BULK AT MOST 1048576: true; the input reads as it did. -/
def fnEmptyHeapUptoRow : OpenClaim := { program := "ytijgfpcpkmpdpaa", sum := "54d28f4f29fe38947a8468cf7b77d2a26ac740486f48d39c95a43fcd85a8dd43", func := "loop.example/memorymanagers/laws.FnEmptyHeap", spec := "fnEmptyHeap", apart := false, narrowed := true }
def FnEmptyHeapUptoSaid : Prop := fnEmptyHeapUptoRow.holds Try.pinned (OpenSpec.upto fnEmptyHeapSpec)

/-- 'laws.FnReachable', WHERE WHAT IT READS IS OF BULK AT MOST 1048576: true; the input reads as it did. -/
def fnReachableUptoRow : OpenClaim := { program := "ytijgfpcpkmpdpaa", sum := "54d28f4f29fe38947a8468cf7b77d2a26ac740486f48d39c95a43fcd85a8dd43", func := "loop.example/memorymanagers/laws.FnReachable", spec := "fnReachable", apart := false, narrowed := true }
def FnReachableUptoSaid : Prop := fnReachableUptoRow.holds Try.pinned (OpenSpec.upto fnReachableSpec)

/-- 'laws.FnRefCounts', WHERE WHAT IT READS IS OF BULK AT MOST 1048576: true; the input reads as it did. -/
def fnRefCountsUptoRow : OpenClaim := { program := "ytijgfpcpkmpdpaa", sum := "54d28f4f29fe38947a8468cf7b77d2a26ac740486f48d39c95a43fcd85a8dd43", func := "loop.example/memorymanagers/laws.FnRefCounts", spec := "fnRefCounts", apart := false, narrowed := true }
def FnRefCountsUptoSaid : Prop := fnRefCountsUptoRow.holds Try.pinned (OpenSpec.upto fnRefCountsSpec)

/-- 'laws.FnCommandValid', WHERE WHAT IT READS IS OF BULK AT MOST 1048576: true; the input reads as it did. -/
def fnCommandValidUptoRow : OpenClaim := { program := "ytijgfpcpkmpdpaa", sum := "54d28f4f29fe38947a8468cf7b77d2a26ac740486f48d39c95a43fcd85a8dd43", func := "loop.example/memorymanagers/laws.FnCommandValid", spec := "fnCommandValid", apart := false, narrowed := true }
def FnCommandValidUptoSaid : Prop := fnCommandValidUptoRow.holds Try.pinned (OpenSpec.upto fnCommandValidSpec)

/-- 'laws.FnCommandsValid', WHERE WHAT IT READS IS OF BULK AT MOST 1048576: true; the input reads as it did. -/
def fnCommandsValidUptoRow : OpenClaim := { program := "ytijgfpcpkmpdpaa", sum := "54d28f4f29fe38947a8468cf7b77d2a26ac740486f48d39c95a43fcd85a8dd43", func := "loop.example/memorymanagers/laws.FnCommandsValid", spec := "fnCommandsValid", apart := false, narrowed := true }
def FnCommandsValidUptoSaid : Prop := fnCommandsValidUptoRow.holds Try.pinned (OpenSpec.upto fnCommandsValidSpec)

/-- 'laws.FnCountedValid', WHERE WHAT IT READS IS OF BULK AT MOST 1048576: true; the input reads as it did. -/
def fnCountedValidUptoRow : OpenClaim := { program := "ytijgfpcpkmpdpaa", sum := "54d28f4f29fe38947a8468cf7b77d2a26ac740486f48d39c95a43fcd85a8dd43", func := "loop.example/memorymanagers/laws.FnCountedValid", spec := "fnCountedValid", apart := false, narrowed := true }
def FnCountedValidUptoSaid : Prop := fnCountedValidUptoRow.holds Try.pinned (OpenSpec.upto fnCountedValidSpec)

/-- 'laws.FnExactCountedValid', WHERE WHAT IT READS IS OF BULK AT MOST 1048576: true; the input reads as it did. -/
def fnExactCountedValidUptoRow : OpenClaim := { program := "ytijgfpcpkmpdpaa", sum := "54d28f4f29fe38947a8468cf7b77d2a26ac740486f48d39c95a43fcd85a8dd43", func := "loop.example/memorymanagers/laws.FnExactCountedValid", spec := "fnExactCountedValid", apart := false, narrowed := true }
def FnExactCountedValidUptoSaid : Prop := fnExactCountedValidUptoRow.holds Try.pinned (OpenSpec.upto fnExactCountedValidSpec)

/-- 'laws.FnExactReachable', WHERE WHAT IT READS IS OF BULK AT MOST 1048576: true; the input reads as it did. -/
def fnExactReachableUptoRow : OpenClaim := { program := "ytijgfpcpkmpdpaa", sum := "54d28f4f29fe38947a8468cf7b77d2a26ac740486f48d39c95a43fcd85a8dd43", func := "loop.example/memorymanagers/laws.FnExactReachable", spec := "fnExactReachable", apart := false, narrowed := true }
def FnExactReachableUptoSaid : Prop := fnExactReachableUptoRow.holds Try.pinned (OpenSpec.upto fnExactReachableSpec)

/-- 'laws.FnExactUsedCells', WHERE WHAT IT READS IS OF BULK AT MOST 1048576: true; the input reads as it did. -/
def fnExactUsedCellsUptoRow : OpenClaim := { program := "ytijgfpcpkmpdpaa", sum := "54d28f4f29fe38947a8468cf7b77d2a26ac740486f48d39c95a43fcd85a8dd43", func := "loop.example/memorymanagers/laws.FnExactUsedCells", spec := "fnExactUsedCells", apart := false, narrowed := true }
def FnExactUsedCellsUptoSaid : Prop := fnExactUsedCellsUptoRow.holds Try.pinned (OpenSpec.upto fnExactUsedCellsSpec)

/-- 'laws.FnExactRefCounts', WHERE WHAT IT READS IS OF BULK AT MOST 1048576: true; the input reads as it did. -/
def fnExactRefCountsUptoRow : OpenClaim := { program := "ytijgfpcpkmpdpaa", sum := "54d28f4f29fe38947a8468cf7b77d2a26ac740486f48d39c95a43fcd85a8dd43", func := "loop.example/memorymanagers/laws.FnExactRefCounts", spec := "fnExactRefCounts", apart := false, narrowed := true }
def FnExactRefCountsUptoSaid : Prop := fnExactRefCountsUptoRow.holds Try.pinned (OpenSpec.upto fnExactRefCountsSpec)

/-- 'laws.FnExactCommandValid', WHERE WHAT IT READS IS OF BULK AT MOST 1048576: true; the input reads as it did. -/
def fnExactCommandValidUptoRow : OpenClaim := { program := "ytijgfpcpkmpdpaa", sum := "54d28f4f29fe38947a8468cf7b77d2a26ac740486f48d39c95a43fcd85a8dd43", func := "loop.example/memorymanagers/laws.FnExactCommandValid", spec := "fnExactCommandValid", apart := false, narrowed := true }
def FnExactCommandValidUptoSaid : Prop := fnExactCommandValidUptoRow.holds Try.pinned (OpenSpec.upto fnExactCommandValidSpec)

/-- 'laws.FnExactCommandsValid', WHERE WHAT IT READS IS OF BULK AT MOST 1048576: true; the input reads as it did. -/
def fnExactCommandsValidUptoRow : OpenClaim := { program := "ytijgfpcpkmpdpaa", sum := "54d28f4f29fe38947a8468cf7b77d2a26ac740486f48d39c95a43fcd85a8dd43", func := "loop.example/memorymanagers/laws.FnExactCommandsValid", spec := "fnExactCommandsValid", apart := false, narrowed := true }
def FnExactCommandsValidUptoSaid : Prop := fnExactCommandsValidUptoRow.holds Try.pinned (OpenSpec.upto fnExactCommandsValidSpec)

end Rows
end Go.Proofs.Ytijgfpcpkmpdpaa
