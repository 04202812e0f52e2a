/-
  No cell of these rows narrows 'for every input' (looked for: loops, veiled, ifaces, maps, wideKeys, modest, calm, conditions, laid).
  DERIVED. THE GIVEN ROWS OF THIS SEAT. 9 by the template 'for every input the law returns true; each argument reads behind the call as it read before'; 0 by the template 'total and deterministic' (their statements: YtkdoolilggkjpaaTotals.lean).
  GIVEN WITH THE SEED: the statements are not yours to turn. If you find one false, say at which input.
  Laid BY PROGRAM, IN A SANDBOX (cutbox-rows.mjs): the forced cells as the released guide's own fill.sh prints them over the translation ff8c04965a58e3c0… (all of the seat's roots in one cut). By AI agents, Wed Nov 11 2026. No macro, syntax, notation, axiom, sorry.
-/
import Derived.Test.YtkdoolilggkjpaaChecked
import GoSem.Claim
import GoSem.ClaimJoined
import GoSem.ClaimMapViews
import Derived.JoinedTies
import Derived.KernelRfl
namespace Go.Proofs.Ytkdoolilggkjpaa
/- THE CELL 'sum', in the pinned program and in every row, IS THE sha256 OF THE DUMP (.gsa) THAT YtkdoolilggkjpaaProg.lean LOADS. Nothing in Lean hashes anything: it is a label: what it is worth is what the hold of that sum in a sandbox is worth. -/
noncomputable def Try.pinned : Pinned := { name := "ytkdoolilggkjpaa", sum := "ff8c04965a58e3c0b45c5a352075c4ca457ebfa933200d8e96e9f4a605b7f338", checked := Try.checked }
namespace Rows
def none {H : Type} : Left H := { results := [], args := [] }

/-- 'laws.FnHeapValid': WHATEVER THE INPUT: true; the input reads as it did. -/
def fnHeapValidSpec : ChangeSpec := { name := "fnHeapValid", fn := fun _ => fun
  | [d] => { results := [.lit (.bool true)], args := [d] }
  | _ => none }
def fnHeapValidRow : OpenClaim := { program := "ytkdoolilggkjpaa", sum := "ff8c04965a58e3c0b45c5a352075c4ca457ebfa933200d8e96e9f4a605b7f338", func := "loop.example/memorymanagers/laws.FnHeapValid", spec := "fnHeapValid", apart := false }
def FnHeapValidSaid : Prop := fnHeapValidRow.holds Try.pinned (OpenSpec.ofChange fnHeapValidSpec)

/-- ITS FALSE NEIGHBOUR: 'it returns false'. Refute it at one input. -/
def fnHeapValidWrong : ChangeSpec := { name := "fnHeapValid", fn := fun _ => fun
  | [d] => { results := [.lit (.bool false)], args := [d] }
  | _ => none }
def FnHeapValidWrongFalsely : Prop := fnHeapValidRow.holds Try.pinned (OpenSpec.ofChange fnHeapValidWrong)

/-- 'laws.FnEmptyHeap': WHATEVER THE INPUT: true; the input reads as it did. -/
def fnEmptyHeapSpec : ChangeSpec := { name := "fnEmptyHeap", fn := fun _ => fun
  | [d] => { results := [.lit (.bool true)], args := [d] }
  | _ => none }
def fnEmptyHeapRow : OpenClaim := { program := "ytkdoolilggkjpaa", sum := "ff8c04965a58e3c0b45c5a352075c4ca457ebfa933200d8e96e9f4a605b7f338", func := "loop.example/memorymanagers/laws.FnEmptyHeap", spec := "fnEmptyHeap", apart := false }
def FnEmptyHeapSaid : Prop := fnEmptyHeapRow.holds Try.pinned (OpenSpec.ofChange fnEmptyHeapSpec)

/-- ITS FALSE NEIGHBOUR: 'it returns false'. Refute it at one input. -/
def fnEmptyHeapWrong : ChangeSpec := { name := "fnEmptyHeap", fn := fun _ => fun
  | [d] => { results := [.lit (.bool false)], args := [d] }
  | _ => none }
def FnEmptyHeapWrongFalsely : Prop := fnEmptyHeapRow.holds Try.pinned (OpenSpec.ofChange fnEmptyHeapWrong)

/-- 'laws.FnReachable': WHATEVER THE INPUT: true; the input reads as it did. -/
def fnReachableSpec : ChangeSpec := { name := "fnReachable", fn := fun _ => fun
  | [d] => { results := [.lit (.bool true)], args := [d] }
  | _ => none }
def fnReachableRow : OpenClaim := { program := "ytkdoolilggkjpaa", sum := "ff8c04965a58e3c0b45c5a352075c4ca457ebfa933200d8e96e9f4a605b7f338", func := "loop.example/memorymanagers/laws.FnReachable", spec := "fnReachable", apart := false }
def FnReachableSaid : Prop := fnReachableRow.holds Try.pinned (OpenSpec.ofChange fnReachableSpec)

/-- ITS FALSE NEIGHBOUR: 'it returns false'. Refute it at one input. -/
def fnReachableWrong : ChangeSpec := { name := "fnReachable", fn := fun _ => fun
  | [d] => { results := [.lit (.bool false)], args := [d] }
  | _ => none }
def FnReachableWrongFalsely : Prop := fnReachableRow.holds Try.pinned (OpenSpec.ofChange fnReachableWrong)

/-- 'laws.FnRefCounts': WHATEVER THE INPUT: true; the input reads as it did. -/
def fnRefCountsSpec : ChangeSpec := { name := "fnRefCounts", fn := fun _ => fun
  | [d] => { results := [.lit (.bool true)], args := [d] }
  | _ => none }
def fnRefCountsRow : OpenClaim := { program := "ytkdoolilggkjpaa", sum := "ff8c04965a58e3c0b45c5a352075c4ca457ebfa933200d8e96e9f4a605b7f338", func := "loop.example/memorymanagers/laws.FnRefCounts", spec := "fnRefCounts", apart := false }
def FnRefCountsSaid : Prop := fnRefCountsRow.holds Try.pinned (OpenSpec.ofChange fnRefCountsSpec)

/-- ITS FALSE NEIGHBOUR: 'it returns false'. Refute it at one input. -/
def fnRefCountsWrong : ChangeSpec := { name := "fnRefCounts", fn := fun _ => fun
  | [d] => { results := [.lit (.bool false)], args := [d] }
  | _ => none }
def FnRefCountsWrongFalsely : Prop := fnRefCountsRow.holds Try.pinned (OpenSpec.ofChange fnRefCountsWrong)

/-- 'laws.FnExactHeapValid': WHATEVER THE INPUT: true; the input reads as it did. -/
def fnExactHeapValidSpec : ChangeSpec := { name := "fnExactHeapValid", fn := fun _ => fun
  | [d] => { results := [.lit (.bool true)], args := [d] }
  | _ => none }
def fnExactHeapValidRow : OpenClaim := { program := "ytkdoolilggkjpaa", sum := "ff8c04965a58e3c0b45c5a352075c4ca457ebfa933200d8e96e9f4a605b7f338", func := "loop.example/memorymanagers/laws.FnExactHeapValid", spec := "fnExactHeapValid", apart := false }
def FnExactHeapValidSaid : Prop := fnExactHeapValidRow.holds Try.pinned (OpenSpec.ofChange fnExactHeapValidSpec)

/-- ITS FALSE NEIGHBOUR: 'it returns false'. Refute it at one input. -/
def fnExactHeapValidWrong : ChangeSpec := { name := "fnExactHeapValid", fn := fun _ => fun
  | [d] => { results := [.lit (.bool false)], args := [d] }
  | _ => none }
def FnExactHeapValidWrongFalsely : Prop := fnExactHeapValidRow.holds Try.pinned (OpenSpec.ofChange fnExactHeapValidWrong)

/-- 'laws.FnExactEmptyHeap': WHATEVER THE INPUT: true; the input reads as it did. -/
def fnExactEmptyHeapSpec : ChangeSpec := { name := "fnExactEmptyHeap", fn := fun _ => fun
  | [] => { results := [.lit (.bool true)], args := [] }
  | _ => none }
def fnExactEmptyHeapRow : OpenClaim := { program := "ytkdoolilggkjpaa", sum := "ff8c04965a58e3c0b45c5a352075c4ca457ebfa933200d8e96e9f4a605b7f338", func := "loop.example/memorymanagers/laws.FnExactEmptyHeap", spec := "fnExactEmptyHeap", apart := false }
def FnExactEmptyHeapSaid : Prop := fnExactEmptyHeapRow.holds Try.pinned (OpenSpec.ofChange fnExactEmptyHeapSpec)

/-- ITS FALSE NEIGHBOUR: 'it returns false'. Refute it at one input. -/
def fnExactEmptyHeapWrong : ChangeSpec := { name := "fnExactEmptyHeap", fn := fun _ => fun
  | [] => { results := [.lit (.bool false)], args := [] }
  | _ => none }
def FnExactEmptyHeapWrongFalsely : Prop := fnExactEmptyHeapRow.holds Try.pinned (OpenSpec.ofChange fnExactEmptyHeapWrong)

/-- 'laws.FnExactReachable': WHATEVER THE INPUT: true; the input reads as it did. -/
def fnExactReachableSpec : ChangeSpec := { name := "fnExactReachable", fn := fun _ => fun
  | [d] => { results := [.lit (.bool true)], args := [d] }
  | _ => none }
def fnExactReachableRow : OpenClaim := { program := "ytkdoolilggkjpaa", sum := "ff8c04965a58e3c0b45c5a352075c4ca457ebfa933200d8e96e9f4a605b7f338", func := "loop.example/memorymanagers/laws.FnExactReachable", spec := "fnExactReachable", apart := false }
def FnExactReachableSaid : Prop := fnExactReachableRow.holds Try.pinned (OpenSpec.ofChange fnExactReachableSpec)

/-- ITS FALSE NEIGHBOUR: 'it returns false'. Refute it at one input. -/
def fnExactReachableWrong : ChangeSpec := { name := "fnExactReachable", fn := fun _ => fun
  | [d] => { results := [.lit (.bool false)], args := [d] }
  | _ => none }
def FnExactReachableWrongFalsely : Prop := fnExactReachableRow.holds Try.pinned (OpenSpec.ofChange fnExactReachableWrong)

/-- 'laws.FnExactUsedCells': WHATEVER THE INPUT: true; the input reads as it did. -/
def fnExactUsedCellsSpec : ChangeSpec := { name := "fnExactUsedCells", fn := fun _ => fun
  | [d] => { results := [.lit (.bool true)], args := [d] }
  | _ => none }
def fnExactUsedCellsRow : OpenClaim := { program := "ytkdoolilggkjpaa", sum := "ff8c04965a58e3c0b45c5a352075c4ca457ebfa933200d8e96e9f4a605b7f338", func := "loop.example/memorymanagers/laws.FnExactUsedCells", spec := "fnExactUsedCells", apart := false }
def FnExactUsedCellsSaid : Prop := fnExactUsedCellsRow.holds Try.pinned (OpenSpec.ofChange fnExactUsedCellsSpec)

/-- ITS FALSE NEIGHBOUR: 'it returns false'. Refute it at one input. -/
def fnExactUsedCellsWrong : ChangeSpec := { name := "fnExactUsedCells", fn := fun _ => fun
  | [d] => { results := [.lit (.bool false)], args := [d] }
  | _ => none }
def FnExactUsedCellsWrongFalsely : Prop := fnExactUsedCellsRow.holds Try.pinned (OpenSpec.ofChange fnExactUsedCellsWrong)

/-- 'laws.FnExactRefCounts': WHATEVER THE INPUT: true; the input reads as it did. -/
def fnExactRefCountsSpec : ChangeSpec := { name := "fnExactRefCounts", fn := fun _ => fun
  | [d] => { results := [.lit (.bool true)], args := [d] }
  | _ => none }
def fnExactRefCountsRow : OpenClaim := { program := "ytkdoolilggkjpaa", sum := "ff8c04965a58e3c0b45c5a352075c4ca457ebfa933200d8e96e9f4a605b7f338", func := "loop.example/memorymanagers/laws.FnExactRefCounts", spec := "fnExactRefCounts", apart := false }
def FnExactRefCountsSaid : Prop := fnExactRefCountsRow.holds Try.pinned (OpenSpec.ofChange fnExactRefCountsSpec)

/-- ITS FALSE NEIGHBOUR: 'it returns false'. Refute it at one input. -/
def fnExactRefCountsWrong : ChangeSpec := { name := "fnExactRefCounts", fn := fun _ => fun
  | [d] => { results := [.lit (.bool false)], args := [d] }
  | _ => none }
def FnExactRefCountsWrongFalsely : Prop := fnExactRefCountsRow.holds Try.pinned (OpenSpec.ofChange fnExactRefCountsWrong)

/- THE SECOND FORM. 'bulk': how many values and letters a reading holds, each counted each time it is reached (what is shared counts as often as it is met; a slice's spare places count too). A statement '..UptoSaid' is the law's where the arguments, and the package variables that the reading takes, are together of bulk at most 1048576: NARROWER than '..Said'. Prove '..Said' where nothing that the law and all that it calls make is longer than what came in: it says more and counts as full. Else prove '..UptoSaid'. A law counts once. -/
mutual
def uptoBulk {H : Type} : DataW H → Nat
  | .lit (.string bytes) => bytes.length + 1
  | .lit _ => 1
  | .nil => 1
  | .ptr d => uptoBulk d + 1
  | .slice elems spare => uptoBulkAll elems + uptoBulkAll spare + 1
  | .agg parts => uptoBulkAll parts + 1
  | .iface _ d => uptoBulk d + 1
  | .map entries => uptoBulkEntries entries + 1
  | .held _ => 1
def uptoBulkAll {H : Type} : List (DataW H) → Nat
  | [] => 0
  | d :: r => uptoBulk d + uptoBulkAll r
def uptoBulkEntries {H : Type} : List (Lit × DataW H) → Nat
  | [] => 0
  | x :: r => uptoBulkEntry x + uptoBulkEntries r
def uptoBulkEntry {H : Type} : Lit × DataW H → Nat
  | (.string bytes, d) => bytes.length + uptoBulk d + 1
  | (_, d) => uptoBulk d + 1
 end
def uptoSmall : (H : Type) → List (DataW H) → Bool := fun _ ds => decide (uptoBulkAll ds ≤ 1048576)
def OpenSpec.upto (s : _root_.Go.ChangeSpec) : _root_.Go.OpenSpec := { _root_.Go.OpenSpec.ofChange s with cond := some uptoSmall }

/-- 'laws.FnHeapValid', WHERE WHAT IT READS IS OF BULK AT MOST 1048576: true; the input reads as it did. -/
def fnHeapValidUptoRow : OpenClaim := { program := "ytkdoolilggkjpaa", sum := "ff8c04965a58e3c0b45c5a352075c4ca457ebfa933200d8e96e9f4a605b7f338", func := "loop.example/memorymanagers/laws.FnHeapValid", spec := "fnHeapValid", apart := false, narrowed := true }
def FnHeapValidUptoSaid : Prop := fnHeapValidUptoRow.holds Try.pinned (OpenSpec.upto fnHeapValidSpec)

/-- 'laws.FnEmptyHeap', WHERE WHAT IT READS IS OF BULK AT MOST 1048576: true; the input reads as it did. -/
def fnEmptyHeapUptoRow : OpenClaim := { program := "ytkdoolilggkjpaa", sum := "ff8c04965a58e3c0b45c5a352075c4ca457ebfa933200d8e96e9f4a605b7f338", func := "loop.example/memorymanagers/laws.FnEmptyHeap", spec := "fnEmptyHeap", apart := false, narrowed := true }
def FnEmptyHeapUptoSaid : Prop := fnEmptyHeapUptoRow.holds Try.pinned (OpenSpec.upto fnEmptyHeapSpec)

/-- 'laws.FnReachable', WHERE WHAT IT READS IS OF BULK AT MOST 1048576: true; the input reads as it did. -/
def fnReachableUptoRow : OpenClaim := { program := "ytkdoolilggkjpaa", sum := "ff8c04965a58e3c0b45c5a352075c4ca457ebfa933200d8e96e9f4a605b7f338", func := "loop.example/memorymanagers/laws.FnReachable", spec := "fnReachable", apart := false, narrowed := true }
def FnReachableUptoSaid : Prop := fnReachableUptoRow.holds Try.pinned (OpenSpec.upto fnReachableSpec)

/-- 'laws.FnRefCounts', WHERE WHAT IT READS IS OF BULK AT MOST 1048576: true; the input reads as it did. -/
def fnRefCountsUptoRow : OpenClaim := { program := "ytkdoolilggkjpaa", sum := "ff8c04965a58e3c0b45c5a352075c4ca457ebfa933200d8e96e9f4a605b7f338", func := "loop.example/memorymanagers/laws.FnRefCounts", spec := "fnRefCounts", apart := false, narrowed := true }
def FnRefCountsUptoSaid : Prop := fnRefCountsUptoRow.holds Try.pinned (OpenSpec.upto fnRefCountsSpec)

/-- 'laws.FnExactHeapValid', WHERE WHAT IT READS IS OF BULK AT MOST 1048576: true; the input reads as it did. -/
def fnExactHeapValidUptoRow : OpenClaim := { program := "ytkdoolilggkjpaa", sum := "ff8c04965a58e3c0b45c5a352075c4ca457ebfa933200d8e96e9f4a605b7f338", func := "loop.example/memorymanagers/laws.FnExactHeapValid", spec := "fnExactHeapValid", apart := false, narrowed := true }
def FnExactHeapValidUptoSaid : Prop := fnExactHeapValidUptoRow.holds Try.pinned (OpenSpec.upto fnExactHeapValidSpec)

/-- 'laws.FnExactEmptyHeap', WHERE WHAT IT READS IS OF BULK AT MOST 1048576: true; the input reads as it did. -/
def fnExactEmptyHeapUptoRow : OpenClaim := { program := "ytkdoolilggkjpaa", sum := "ff8c04965a58e3c0b45c5a352075c4ca457ebfa933200d8e96e9f4a605b7f338", func := "loop.example/memorymanagers/laws.FnExactEmptyHeap", spec := "fnExactEmptyHeap", apart := false, narrowed := true }
def FnExactEmptyHeapUptoSaid : Prop := fnExactEmptyHeapUptoRow.holds Try.pinned (OpenSpec.upto fnExactEmptyHeapSpec)

/-- 'laws.FnExactReachable', WHERE WHAT IT READS IS OF BULK AT MOST 1048576: true; the input reads as it did. -/
def fnExactReachableUptoRow : OpenClaim := { program := "ytkdoolilggkjpaa", sum := "ff8c04965a58e3c0b45c5a352075c4ca457ebfa933200d8e96e9f4a605b7f338", func := "loop.example/memorymanagers/laws.FnExactReachable", spec := "fnExactReachable", apart := false, narrowed := true }
def FnExactReachableUptoSaid : Prop := fnExactReachableUptoRow.holds Try.pinned (OpenSpec.upto fnExactReachableSpec)

/-- 'laws.FnExactUsedCells', WHERE WHAT IT READS IS OF BULK AT MOST 1048576: true; the input reads as it did. -/
def fnExactUsedCellsUptoRow : OpenClaim := { program := "ytkdoolilggkjpaa", sum := "ff8c04965a58e3c0b45c5a352075c4ca457ebfa933200d8e96e9f4a605b7f338", func := "loop.example/memorymanagers/laws.FnExactUsedCells", spec := "fnExactUsedCells", apart := false, narrowed := true }
def FnExactUsedCellsUptoSaid : Prop := fnExactUsedCellsUptoRow.holds Try.pinned (OpenSpec.upto fnExactUsedCellsSpec)

/-- 'laws.FnExactRefCounts', WHERE WHAT IT READS IS OF BULK AT MOST 1048576: true; the input reads as it did. -/
def fnExactRefCountsUptoRow : OpenClaim := { program := "ytkdoolilggkjpaa", sum := "ff8c04965a58e3c0b45c5a352075c4ca457ebfa933200d8e96e9f4a605b7f338", func := "loop.example/memorymanagers/laws.FnExactRefCounts", spec := "fnExactRefCounts", apart := false, narrowed := true }
def FnExactRefCountsUptoSaid : Prop := fnExactRefCountsUptoRow.holds Try.pinned (OpenSpec.upto fnExactRefCountsSpec)

end Rows
end Go.Proofs.Ytkdoolilggkjpaa
