/-
  No cell of these rows narrows 'for every input' (looked for: loops, veiled, ifaces, maps, wideKeys, modest, calm, conditions, laid).
  DERIVED. THE GIVEN ROWS OF THIS SEAT. 11 by the template 'for every input the law returns true; each argument reads behind the call as it read before'; 0 by the template 'total and deterministic' (their statements: YtfffilgghogiaaaTotals.lean).
  GIVEN WITH THE SEED: the statements are not yours to turn. If you find one false, say at which input.
  Laid BY PROGRAM, IN A SANDBOX (cutbox-rows.mjs): the forced cells as the released guide's own fill.sh prints them over the translation 651247e3bad86e04… (all of the seat's roots in one cut). By AI agents, Wed Nov 11 2026. No macro, syntax, notation, axiom, sorry.
-/
import Derived.Test.YtfffilgghogiaaaChecked
import GoSem.Claim
import GoSem.ClaimJoined
import GoSem.ClaimMapViews
import Derived.JoinedTies
import Derived.KernelRfl
namespace Go.Proofs.Ytfffilgghogiaaa
/- THE CELL 'sum', in the pinned program and in every row, IS THE sha256 OF THE DUMP (.gsa) THAT YtfffilgghogiaaaProg.lean LOADS. Nothing in Lean hashes anything: it is a label: what it is worth is what the hold of that sum in a sandbox is worth. -/
noncomputable def Try.pinned : Pinned := { name := "ytfffilgghogiaaa", sum := "651247e3bad86e040833f0c1d7abcd5527c6fb8533d5945987e56c41428b4d05", checked := Try.checked }
namespace Rows
def none {H : Type} : Left H := { results := [], args := [] }

/-- 'laws.FnLargestFree': WHATEVER THE INPUT: true; the input reads as it did. -/
def fnLargestFreeSpec : ChangeSpec := { name := "fnLargestFree", fn := fun _ => fun
  | [d] => { results := [.lit (.bool true)], args := [d] }
  | _ => none }
def fnLargestFreeRow : OpenClaim := { program := "ytfffilgghogiaaa", sum := "651247e3bad86e040833f0c1d7abcd5527c6fb8533d5945987e56c41428b4d05", func := "loop.example/memorymanagers/laws.FnLargestFree", spec := "fnLargestFree", apart := false }
def FnLargestFreeSaid : Prop := fnLargestFreeRow.holds Try.pinned (OpenSpec.ofChange fnLargestFreeSpec)

/-- ITS FALSE NEIGHBOUR: 'it returns false'. Refute it at one input. -/
def fnLargestFreeWrong : ChangeSpec := { name := "fnLargestFree", fn := fun _ => fun
  | [d] => { results := [.lit (.bool false)], args := [d] }
  | _ => none }
def FnLargestFreeWrongFalsely : Prop := fnLargestFreeRow.holds Try.pinned (OpenSpec.ofChange fnLargestFreeWrong)

/-- 'laws.FnFirstFit': WHATEVER THE INPUT: true; the input reads as it did. -/
def fnFirstFitSpec : ChangeSpec := { name := "fnFirstFit", fn := fun _ => fun
  | [d] => { results := [.lit (.bool true)], args := [d] }
  | _ => none }
def fnFirstFitRow : OpenClaim := { program := "ytfffilgghogiaaa", sum := "651247e3bad86e040833f0c1d7abcd5527c6fb8533d5945987e56c41428b4d05", func := "loop.example/memorymanagers/laws.FnFirstFit", spec := "fnFirstFit", apart := false }
def FnFirstFitSaid : Prop := fnFirstFitRow.holds Try.pinned (OpenSpec.ofChange fnFirstFitSpec)

/-- ITS FALSE NEIGHBOUR: 'it returns false'. Refute it at one input. -/
def fnFirstFitWrong : ChangeSpec := { name := "fnFirstFit", fn := fun _ => fun
  | [d] => { results := [.lit (.bool false)], args := [d] }
  | _ => none }
def FnFirstFitWrongFalsely : Prop := fnFirstFitRow.holds Try.pinned (OpenSpec.ofChange fnFirstFitWrong)

/-- 'laws.FnBestFit': WHATEVER THE INPUT: true; the input reads as it did. -/
def fnBestFitSpec : ChangeSpec := { name := "fnBestFit", fn := fun _ => fun
  | [d] => { results := [.lit (.bool true)], args := [d] }
  | _ => none }
def fnBestFitRow : OpenClaim := { program := "ytfffilgghogiaaa", sum := "651247e3bad86e040833f0c1d7abcd5527c6fb8533d5945987e56c41428b4d05", func := "loop.example/memorymanagers/laws.FnBestFit", spec := "fnBestFit", apart := false }
def FnBestFitSaid : Prop := fnBestFitRow.holds Try.pinned (OpenSpec.ofChange fnBestFitSpec)

/-- ITS FALSE NEIGHBOUR: 'it returns false'. Refute it at one input. -/
def fnBestFitWrong : ChangeSpec := { name := "fnBestFit", fn := fun _ => fun
  | [d] => { results := [.lit (.bool false)], args := [d] }
  | _ => none }
def FnBestFitWrongFalsely : Prop := fnBestFitRow.holds Try.pinned (OpenSpec.ofChange fnBestFitWrong)

/-- 'laws.FnTakeBlock': WHATEVER THE INPUT: true; the input reads as it did. -/
def fnTakeBlockSpec : ChangeSpec := { name := "fnTakeBlock", fn := fun _ => fun
  | [d] => { results := [.lit (.bool true)], args := [d] }
  | _ => none }
def fnTakeBlockRow : OpenClaim := { program := "ytfffilgghogiaaa", sum := "651247e3bad86e040833f0c1d7abcd5527c6fb8533d5945987e56c41428b4d05", func := "loop.example/memorymanagers/laws.FnTakeBlock", spec := "fnTakeBlock", apart := false }
def FnTakeBlockSaid : Prop := fnTakeBlockRow.holds Try.pinned (OpenSpec.ofChange fnTakeBlockSpec)

/-- ITS FALSE NEIGHBOUR: 'it returns false'. Refute it at one input. -/
def fnTakeBlockWrong : ChangeSpec := { name := "fnTakeBlock", fn := fun _ => fun
  | [d] => { results := [.lit (.bool false)], args := [d] }
  | _ => none }
def FnTakeBlockWrongFalsely : Prop := fnTakeBlockRow.holds Try.pinned (OpenSpec.ofChange fnTakeBlockWrong)

/-- 'laws.FnGiveBlock': WHATEVER THE INPUT: true; the input reads as it did. -/
def fnGiveBlockSpec : ChangeSpec := { name := "fnGiveBlock", fn := fun _ => fun
  | [d] => { results := [.lit (.bool true)], args := [d] }
  | _ => none }
def fnGiveBlockRow : OpenClaim := { program := "ytfffilgghogiaaa", sum := "651247e3bad86e040833f0c1d7abcd5527c6fb8533d5945987e56c41428b4d05", func := "loop.example/memorymanagers/laws.FnGiveBlock", spec := "fnGiveBlock", apart := false }
def FnGiveBlockSaid : Prop := fnGiveBlockRow.holds Try.pinned (OpenSpec.ofChange fnGiveBlockSpec)

/-- ITS FALSE NEIGHBOUR: 'it returns false'. Refute it at one input. -/
def fnGiveBlockWrong : ChangeSpec := { name := "fnGiveBlock", fn := fun _ => fun
  | [d] => { results := [.lit (.bool false)], args := [d] }
  | _ => none }
def FnGiveBlockWrongFalsely : Prop := fnGiveBlockRow.holds Try.pinned (OpenSpec.ofChange fnGiveBlockWrong)

/-- 'laws.FnBlocksOrder': WHATEVER THE INPUT: true; the input reads as it did. -/
def fnBlocksOrderSpec : ChangeSpec := { name := "fnBlocksOrder", fn := fun _ => fun
  | [d] => { results := [.lit (.bool true)], args := [d] }
  | _ => none }
def fnBlocksOrderRow : OpenClaim := { program := "ytfffilgghogiaaa", sum := "651247e3bad86e040833f0c1d7abcd5527c6fb8533d5945987e56c41428b4d05", func := "loop.example/memorymanagers/laws.FnBlocksOrder", spec := "fnBlocksOrder", unfollowed := true, recurses := true, apart := false }
def FnBlocksOrderSaid : Prop := fnBlocksOrderRow.holds Try.pinned (OpenSpec.ofChange fnBlocksOrderSpec)

/-- ITS FALSE NEIGHBOUR: 'it returns false'. Refute it at one input. -/
def fnBlocksOrderWrong : ChangeSpec := { name := "fnBlocksOrder", fn := fun _ => fun
  | [d] => { results := [.lit (.bool false)], args := [d] }
  | _ => none }
def FnBlocksOrderWrongFalsely : Prop := fnBlocksOrderRow.holds Try.pinned (OpenSpec.ofChange fnBlocksOrderWrong)

/-- 'laws.FnFitsBoth': WHATEVER THE INPUT: true; the input reads as it did. -/
def fnFitsBothSpec : ChangeSpec := { name := "fnFitsBoth", fn := fun _ => fun
  | [d] => { results := [.lit (.bool true)], args := [d] }
  | _ => none }
def fnFitsBothRow : OpenClaim := { program := "ytfffilgghogiaaa", sum := "651247e3bad86e040833f0c1d7abcd5527c6fb8533d5945987e56c41428b4d05", func := "loop.example/memorymanagers/laws.FnFitsBoth", spec := "fnFitsBoth", apart := false }
def FnFitsBothSaid : Prop := fnFitsBothRow.holds Try.pinned (OpenSpec.ofChange fnFitsBothSpec)

/-- ITS FALSE NEIGHBOUR: 'it returns false'. Refute it at one input. -/
def fnFitsBothWrong : ChangeSpec := { name := "fnFitsBoth", fn := fun _ => fun
  | [d] => { results := [.lit (.bool false)], args := [d] }
  | _ => none }
def FnFitsBothWrongFalsely : Prop := fnFitsBothRow.holds Try.pinned (OpenSpec.ofChange fnFitsBothWrong)

/-- 'laws.FnExactFirstFit': WHATEVER THE INPUT: true; the input reads as it did. -/
def fnExactFirstFitSpec : ChangeSpec := { name := "fnExactFirstFit", fn := fun _ => fun
  | [d1, d2, d3] => { results := [.lit (.bool true)], args := [d1, d2, d3] }
  | _ => none }
def fnExactFirstFitRow : OpenClaim := { program := "ytfffilgghogiaaa", sum := "651247e3bad86e040833f0c1d7abcd5527c6fb8533d5945987e56c41428b4d05", func := "loop.example/memorymanagers/laws.FnExactFirstFit", spec := "fnExactFirstFit", apart := false }
def FnExactFirstFitSaid : Prop := fnExactFirstFitRow.holds Try.pinned (OpenSpec.ofChange fnExactFirstFitSpec)

/-- ITS FALSE NEIGHBOUR: 'it returns false'. Refute it at one input. -/
def fnExactFirstFitWrong : ChangeSpec := { name := "fnExactFirstFit", fn := fun _ => fun
  | [d1, d2, d3] => { results := [.lit (.bool false)], args := [d1, d2, d3] }
  | _ => none }
def FnExactFirstFitWrongFalsely : Prop := fnExactFirstFitRow.holds Try.pinned (OpenSpec.ofChange fnExactFirstFitWrong)

/-- 'laws.FnExactBestFit': WHATEVER THE INPUT: true; the input reads as it did. -/
def fnExactBestFitSpec : ChangeSpec := { name := "fnExactBestFit", fn := fun _ => fun
  | [d1, d2, d3] => { results := [.lit (.bool true)], args := [d1, d2, d3] }
  | _ => none }
def fnExactBestFitRow : OpenClaim := { program := "ytfffilgghogiaaa", sum := "651247e3bad86e040833f0c1d7abcd5527c6fb8533d5945987e56c41428b4d05", func := "loop.example/memorymanagers/laws.FnExactBestFit", spec := "fnExactBestFit", apart := false }
def FnExactBestFitSaid : Prop := fnExactBestFitRow.holds Try.pinned (OpenSpec.ofChange fnExactBestFitSpec)

/-- ITS FALSE NEIGHBOUR: 'it returns false'. Refute it at one input. -/
def fnExactBestFitWrong : ChangeSpec := { name := "fnExactBestFit", fn := fun _ => fun
  | [d1, d2, d3] => { results := [.lit (.bool false)], args := [d1, d2, d3] }
  | _ => none }
def FnExactBestFitWrongFalsely : Prop := fnExactBestFitRow.holds Try.pinned (OpenSpec.ofChange fnExactBestFitWrong)

/-- 'laws.FnExactTakeBlock': WHATEVER THE INPUT: true; the input reads as it did. -/
def fnExactTakeBlockSpec : ChangeSpec := { name := "fnExactTakeBlock", fn := fun _ => fun
  | [d1, d2, d3, d4] => { results := [.lit (.bool true)], args := [d1, d2, d3, d4] }
  | _ => none }
def fnExactTakeBlockRow : OpenClaim := { program := "ytfffilgghogiaaa", sum := "651247e3bad86e040833f0c1d7abcd5527c6fb8533d5945987e56c41428b4d05", func := "loop.example/memorymanagers/laws.FnExactTakeBlock", spec := "fnExactTakeBlock", apart := false }
def FnExactTakeBlockSaid : Prop := fnExactTakeBlockRow.holds Try.pinned (OpenSpec.ofChange fnExactTakeBlockSpec)

/-- ITS FALSE NEIGHBOUR: 'it returns false'. Refute it at one input. -/
def fnExactTakeBlockWrong : ChangeSpec := { name := "fnExactTakeBlock", fn := fun _ => fun
  | [d1, d2, d3, d4] => { results := [.lit (.bool false)], args := [d1, d2, d3, d4] }
  | _ => none }
def FnExactTakeBlockWrongFalsely : Prop := fnExactTakeBlockRow.holds Try.pinned (OpenSpec.ofChange fnExactTakeBlockWrong)

/-- 'laws.FnExactGiveBlock': WHATEVER THE INPUT: true; the input reads as it did. -/
def fnExactGiveBlockSpec : ChangeSpec := { name := "fnExactGiveBlock", fn := fun _ => fun
  | [d1, d2, d3] => { results := [.lit (.bool true)], args := [d1, d2, d3] }
  | _ => none }
def fnExactGiveBlockRow : OpenClaim := { program := "ytfffilgghogiaaa", sum := "651247e3bad86e040833f0c1d7abcd5527c6fb8533d5945987e56c41428b4d05", func := "loop.example/memorymanagers/laws.FnExactGiveBlock", spec := "fnExactGiveBlock", apart := false }
def FnExactGiveBlockSaid : Prop := fnExactGiveBlockRow.holds Try.pinned (OpenSpec.ofChange fnExactGiveBlockSpec)

/-- ITS FALSE NEIGHBOUR: 'it returns false'. Refute it at one input. -/
def fnExactGiveBlockWrong : ChangeSpec := { name := "fnExactGiveBlock", fn := fun _ => fun
  | [d1, d2, d3] => { results := [.lit (.bool false)], args := [d1, d2, d3] }
  | _ => none }
def FnExactGiveBlockWrongFalsely : Prop := fnExactGiveBlockRow.holds Try.pinned (OpenSpec.ofChange fnExactGiveBlockWrong)

/- THE SECOND FORM. 'bulk': how many values and letters a reading holds, each counted each time it is reached (what is shared counts as often as it is met; a slice's spare places count too). A statement '..UptoSaid' is the law's where the arguments, and the package variables that the reading takes, are together of bulk at most 1048576: NARROWER than '..Said'. Prove '..Said' where nothing that the law and all that it calls make is longer than what came in: it says more and counts as full. Else prove '..UptoSaid'. A law counts once. -/
mutual
def uptoBulk {H : Type} : DataW H → Nat
  | .lit (.string bytes) => bytes.length + 1
  | .lit _ => 1
  | .nil => 1
  | .ptr d => uptoBulk d + 1
  | .slice elems spare => uptoBulkAll elems + uptoBulkAll spare + 1
  | .agg parts => uptoBulkAll parts + 1
  | .iface _ d => uptoBulk d + 1
  | .map entries => uptoBulkEntries entries + 1
  | .held _ => 1
def uptoBulkAll {H : Type} : List (DataW H) → Nat
  | [] => 0
  | d :: r => uptoBulk d + uptoBulkAll r
def uptoBulkEntries {H : Type} : List (Lit × DataW H) → Nat
  | [] => 0
  | x :: r => uptoBulkEntry x + uptoBulkEntries r
def uptoBulkEntry {H : Type} : Lit × DataW H → Nat
  | (.string bytes, d) => bytes.length + uptoBulk d + 1
  | (_, d) => uptoBulk d + 1
 end
def uptoSmall : (H : Type) → List (DataW H) → Bool := fun _ ds => decide (uptoBulkAll ds ≤ 1048576)
def OpenSpec.upto (s : _root_.Go.ChangeSpec) : _root_.Go.OpenSpec := { _root_.Go.OpenSpec.ofChange s with cond := some uptoSmall }

/-- 'laws.FnLargestFree', WHERE WHAT IT READS IS OF BULK AT MOST 1048576: true; the input reads as it did. -/
def fnLargestFreeUptoRow : OpenClaim := { program := "ytfffilgghogiaaa", sum := "651247e3bad86e040833f0c1d7abcd5527c6fb8533d5945987e56c41428b4d05", func := "loop.example/memorymanagers/laws.FnLargestFree", spec := "fnLargestFree", apart := false, narrowed := true }
def FnLargestFreeUptoSaid : Prop := fnLargestFreeUptoRow.holds Try.pinned (OpenSpec.upto fnLargestFreeSpec)

/-- 'laws.FnFirstFit', WHERE WHAT IT READS IS OF BULK AT MOST 1048576: true; the input reads as it did. -/
def fnFirstFitUptoRow : OpenClaim := { program := "ytfffilgghogiaaa", sum := "651247e3bad86e040833f0c1d7abcd5527c6fb8533d5945987e56c41428b4d05", func := "loop.example/memorymanagers/laws.FnFirstFit", spec := "fnFirstFit", apart := false, narrowed := true }
def FnFirstFitUptoSaid : Prop := fnFirstFitUptoRow.holds Try.pinned (OpenSpec.upto fnFirstFitSpec)

/-- 'laws.FnBestFit', WHERE WHAT IT READS IS OF BULK AT MOST 1048576: true; the input reads as it did. -/
def fnBestFitUptoRow : OpenClaim := { program := "ytfffilgghogiaaa", sum := "651247e3bad86e040833f0c1d7abcd5527c6fb8533d5945987e56c41428b4d05", func := "loop.example/memorymanagers/laws.FnBestFit", spec := "fnBestFit", apart := false, narrowed := true }
def FnBestFitUptoSaid : Prop := fnBestFitUptoRow.holds Try.pinned (OpenSpec.upto fnBestFitSpec)

/-- 'laws.FnTakeBlock', WHERE WHAT IT READS IS OF BULK AT MOST 1048576: true; the input reads as it did. -/
def fnTakeBlockUptoRow : OpenClaim := { program := "ytfffilgghogiaaa", sum := "651247e3bad86e040833f0c1d7abcd5527c6fb8533d5945987e56c41428b4d05", func := "loop.example/memorymanagers/laws.FnTakeBlock", spec := "fnTakeBlock", apart := false, narrowed := true }
def FnTakeBlockUptoSaid : Prop := fnTakeBlockUptoRow.holds Try.pinned (OpenSpec.upto fnTakeBlockSpec)

/-- 'laws.FnGiveBlock', WHERE WHAT IT READS IS OF BULK AT MOST 1048576: true; the input reads as it did. -/
def fnGiveBlockUptoRow : OpenClaim := { program := "ytfffilgghogiaaa", sum := "651247e3bad86e040833f0c1d7abcd5527c6fb8533d5945987e56c41428b4d05", func := "loop.example/memorymanagers/laws.FnGiveBlock", spec := "fnGiveBlock", apart := false, narrowed := true }
def FnGiveBlockUptoSaid : Prop := fnGiveBlockUptoRow.holds Try.pinned (OpenSpec.upto fnGiveBlockSpec)

/-- 'laws.FnBlocksOrder', WHERE WHAT IT READS IS OF BULK AT MOST 1048576: true; the input reads as it did. -/
def fnBlocksOrderUptoRow : OpenClaim := { program := "ytfffilgghogiaaa", sum := "651247e3bad86e040833f0c1d7abcd5527c6fb8533d5945987e56c41428b4d05", func := "loop.example/memorymanagers/laws.FnBlocksOrder", spec := "fnBlocksOrder", unfollowed := true, recurses := true, apart := false, narrowed := true }
def FnBlocksOrderUptoSaid : Prop := fnBlocksOrderUptoRow.holds Try.pinned (OpenSpec.upto fnBlocksOrderSpec)

/-- 'laws.FnFitsBoth', WHERE WHAT IT READS IS OF BULK AT MOST 1048576: true; the input reads as it did. -/
def fnFitsBothUptoRow : OpenClaim := { program := "ytfffilgghogiaaa", sum := "651247e3bad86e040833f0c1d7abcd5527c6fb8533d5945987e56c41428b4d05", func := "loop.example/memorymanagers/laws.FnFitsBoth", spec := "fnFitsBoth", apart := false, narrowed := true }
def FnFitsBothUptoSaid : Prop := fnFitsBothUptoRow.holds Try.pinned (OpenSpec.upto fnFitsBothSpec)

/-- 'laws.FnExactFirstFit', WHERE WHAT IT READS IS OF BULK AT MOST 1048576: true; the input reads as it did. -/
def fnExactFirstFitUptoRow : OpenClaim := { program := "ytfffilgghogiaaa", sum := "651247e3bad86e040833f0c1d7abcd5527c6fb8533d5945987e56c41428b4d05", func := "loop.example/memorymanagers/laws.FnExactFirstFit", spec := "fnExactFirstFit", apart := false, narrowed := true }
def FnExactFirstFitUptoSaid : Prop := fnExactFirstFitUptoRow.holds Try.pinned (OpenSpec.upto fnExactFirstFitSpec)

/-- 'laws.FnExactBestFit', WHERE WHAT IT READS IS OF BULK AT MOST 1048576: true; the input reads as it did. -/
def fnExactBestFitUptoRow : OpenClaim := { program := "ytfffilgghogiaaa", sum := "651247e3bad86e040833f0c1d7abcd5527c6fb8533d5945987e56c41428b4d05", func := "loop.example/memorymanagers/laws.FnExactBestFit", spec := "fnExactBestFit", apart := false, narrowed := true }
def FnExactBestFitUptoSaid : Prop := fnExactBestFitUptoRow.holds Try.pinned (OpenSpec.upto fnExactBestFitSpec)

/-- 'laws.FnExactTakeBlock', WHERE WHAT IT READS IS OF BULK AT MOST 1048576: true; the input reads as it did. -/
def fnExactTakeBlockUptoRow : OpenClaim := { program := "ytfffilgghogiaaa", sum := "651247e3bad86e040833f0c1d7abcd5527c6fb8533d5945987e56c41428b4d05", func := "loop.example/memorymanagers/laws.FnExactTakeBlock", spec := "fnExactTakeBlock", apart := false, narrowed := true }
def FnExactTakeBlockUptoSaid : Prop := fnExactTakeBlockUptoRow.holds Try.pinned (OpenSpec.upto fnExactTakeBlockSpec)

/-- 'laws.FnExactGiveBlock', WHERE WHAT IT READS IS OF BULK AT MOST 1048576: true; the input reads as it did. -/
def fnExactGiveBlockUptoRow : OpenClaim := { program := "ytfffilgghogiaaa", sum := "651247e3bad86e040833f0c1d7abcd5527c6fb8533d5945987e56c41428b4d05", func := "loop.example/memorymanagers/laws.FnExactGiveBlock", spec := "fnExactGiveBlock", apart := false, narrowed := true }
def FnExactGiveBlockUptoSaid : Prop := fnExactGiveBlockUptoRow.holds Try.pinned (OpenSpec.upto fnExactGiveBlockSpec)

end Rows
end Go.Proofs.Ytfffilgghogiaaa
