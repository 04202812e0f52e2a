/-
  No cell of these rows narrows 'for every input' (looked for: loops, veiled, ifaces, maps, wideKeys, modest, calm, conditions, laid).
  DERIVED. THE GIVEN ROWS OF THIS SEAT. 7 by the template 'for every input the law returns true; each argument reads behind the call as it read before'; 0 by the template 'total and deterministic' (their statements: YtkejbggffbkdaaaTotals.lean).
  GIVEN WITH THE SEED: the statements are not yours to turn. If you find one false, say at which input.
  Laid BY PROGRAM, IN A SANDBOX (cutbox-rows.mjs): the forced cells as the released guide's own fill.sh prints them over the translation 80c7989396c8ebe7… (all of the seat's roots in one cut). By AI agents, Wed Nov 11 2026. No macro, syntax, notation, axiom, sorry.
-/
import Derived.Test.YtkejbggffbkdaaaChecked
import GoSem.Claim
import GoSem.ClaimJoined
import GoSem.ClaimMapViews
import Derived.JoinedTies
import Derived.KernelRfl
namespace Go.Proofs.Ytkejbggffbkdaaa
/- THE CELL 'sum', in the pinned program and in every row, IS THE sha256 OF THE DUMP (.gsa) THAT YtkejbggffbkdaaaProg.lean LOADS. Nothing in Lean hashes anything: it is a label: what it is worth is what the hold of that sum in a sandbox is worth. -/
noncomputable def Try.pinned : Pinned := { name := "ytkejbggffbkdaaa", sum := "80c7989396c8ebe7d46cd27f261e0c6d486a320227689755c4b8a1e72f6aef39", checked := Try.checked }
namespace Rows
def none {H : Type} : Left H := { results := [], args := [] }

/-- 'laws.FnFragmented': WHATEVER THE INPUT: true; the input reads as it did. -/
def fnFragmentedSpec : ChangeSpec := { name := "fnFragmented", fn := fun _ => fun
  | [d] => { results := [.lit (.bool true)], args := [d] }
  | _ => none }
def fnFragmentedRow : OpenClaim := { program := "ytkejbggffbkdaaa", sum := "80c7989396c8ebe7d46cd27f261e0c6d486a320227689755c4b8a1e72f6aef39", func := "loop.example/memorymanagers/laws.FnFragmented", spec := "fnFragmented", apart := false }
def FnFragmentedSaid : Prop := fnFragmentedRow.holds Try.pinned (OpenSpec.ofChange fnFragmentedSpec)

/-- ITS FALSE NEIGHBOUR: 'it returns false'. Refute it at one input. -/
def fnFragmentedWrong : ChangeSpec := { name := "fnFragmented", fn := fun _ => fun
  | [d] => { results := [.lit (.bool false)], args := [d] }
  | _ => none }
def FnFragmentedWrongFalsely : Prop := fnFragmentedRow.holds Try.pinned (OpenSpec.ofChange fnFragmentedWrong)

/-- 'laws.FnSlideBlocks': WHATEVER THE INPUT: true; the input reads as it did. -/
def fnSlideBlocksSpec : ChangeSpec := { name := "fnSlideBlocks", fn := fun _ => fun
  | [d] => { results := [.lit (.bool true)], args := [d] }
  | _ => none }
def fnSlideBlocksRow : OpenClaim := { program := "ytkejbggffbkdaaa", sum := "80c7989396c8ebe7d46cd27f261e0c6d486a320227689755c4b8a1e72f6aef39", func := "loop.example/memorymanagers/laws.FnSlideBlocks", spec := "fnSlideBlocks", apart := false }
def FnSlideBlocksSaid : Prop := fnSlideBlocksRow.holds Try.pinned (OpenSpec.ofChange fnSlideBlocksSpec)

/-- ITS FALSE NEIGHBOUR: 'it returns false'. Refute it at one input. -/
def fnSlideBlocksWrong : ChangeSpec := { name := "fnSlideBlocks", fn := fun _ => fun
  | [d] => { results := [.lit (.bool false)], args := [d] }
  | _ => none }
def FnSlideBlocksWrongFalsely : Prop := fnSlideBlocksRow.holds Try.pinned (OpenSpec.ofChange fnSlideBlocksWrong)

/-- 'laws.FnTakeSliding': WHATEVER THE INPUT: true; the input reads as it did. -/
def fnTakeSlidingSpec : ChangeSpec := { name := "fnTakeSliding", fn := fun _ => fun
  | [d] => { results := [.lit (.bool true)], args := [d] }
  | _ => none }
def fnTakeSlidingRow : OpenClaim := { program := "ytkejbggffbkdaaa", sum := "80c7989396c8ebe7d46cd27f261e0c6d486a320227689755c4b8a1e72f6aef39", func := "loop.example/memorymanagers/laws.FnTakeSliding", spec := "fnTakeSliding", apart := false }
def FnTakeSlidingSaid : Prop := fnTakeSlidingRow.holds Try.pinned (OpenSpec.ofChange fnTakeSlidingSpec)

/-- ITS FALSE NEIGHBOUR: 'it returns false'. Refute it at one input. -/
def fnTakeSlidingWrong : ChangeSpec := { name := "fnTakeSliding", fn := fun _ => fun
  | [d] => { results := [.lit (.bool false)], args := [d] }
  | _ => none }
def FnTakeSlidingWrongFalsely : Prop := fnTakeSlidingRow.holds Try.pinned (OpenSpec.ofChange fnTakeSlidingWrong)

/-- 'laws.FnSlideFit': WHATEVER THE INPUT: true; the input reads as it did. -/
def fnSlideFitSpec : ChangeSpec := { name := "fnSlideFit", fn := fun _ => fun
  | [d] => { results := [.lit (.bool true)], args := [d] }
  | _ => none }
def fnSlideFitRow : OpenClaim := { program := "ytkejbggffbkdaaa", sum := "80c7989396c8ebe7d46cd27f261e0c6d486a320227689755c4b8a1e72f6aef39", func := "loop.example/memorymanagers/laws.FnSlideFit", spec := "fnSlideFit", apart := false }
def FnSlideFitSaid : Prop := fnSlideFitRow.holds Try.pinned (OpenSpec.ofChange fnSlideFitSpec)

/-- ITS FALSE NEIGHBOUR: 'it returns false'. Refute it at one input. -/
def fnSlideFitWrong : ChangeSpec := { name := "fnSlideFit", fn := fun _ => fun
  | [d] => { results := [.lit (.bool false)], args := [d] }
  | _ => none }
def FnSlideFitWrongFalsely : Prop := fnSlideFitRow.holds Try.pinned (OpenSpec.ofChange fnSlideFitWrong)

/-- 'laws.FnExactFragmented': WHATEVER THE INPUT: true; the input reads as it did. -/
def fnExactFragmentedSpec : ChangeSpec := { name := "fnExactFragmented", fn := fun _ => fun
  | [d1, d2] => { results := [.lit (.bool true)], args := [d1, d2] }
  | _ => none }
def fnExactFragmentedRow : OpenClaim := { program := "ytkejbggffbkdaaa", sum := "80c7989396c8ebe7d46cd27f261e0c6d486a320227689755c4b8a1e72f6aef39", func := "loop.example/memorymanagers/laws.FnExactFragmented", spec := "fnExactFragmented", apart := false }
def FnExactFragmentedSaid : Prop := fnExactFragmentedRow.holds Try.pinned (OpenSpec.ofChange fnExactFragmentedSpec)

/-- ITS FALSE NEIGHBOUR: 'it returns false'. Refute it at one input. -/
def fnExactFragmentedWrong : ChangeSpec := { name := "fnExactFragmented", fn := fun _ => fun
  | [d1, d2] => { results := [.lit (.bool false)], args := [d1, d2] }
  | _ => none }
def FnExactFragmentedWrongFalsely : Prop := fnExactFragmentedRow.holds Try.pinned (OpenSpec.ofChange fnExactFragmentedWrong)

/-- 'laws.FnExactSlideBlocks': WHATEVER THE INPUT: true; the input reads as it did. -/
def fnExactSlideBlocksSpec : ChangeSpec := { name := "fnExactSlideBlocks", fn := fun _ => fun
  | [d1, d2] => { results := [.lit (.bool true)], args := [d1, d2] }
  | _ => none }
def fnExactSlideBlocksRow : OpenClaim := { program := "ytkejbggffbkdaaa", sum := "80c7989396c8ebe7d46cd27f261e0c6d486a320227689755c4b8a1e72f6aef39", func := "loop.example/memorymanagers/laws.FnExactSlideBlocks", spec := "fnExactSlideBlocks", apart := false }
def FnExactSlideBlocksSaid : Prop := fnExactSlideBlocksRow.holds Try.pinned (OpenSpec.ofChange fnExactSlideBlocksSpec)

/-- ITS FALSE NEIGHBOUR: 'it returns false'. Refute it at one input. -/
def fnExactSlideBlocksWrong : ChangeSpec := { name := "fnExactSlideBlocks", fn := fun _ => fun
  | [d1, d2] => { results := [.lit (.bool false)], args := [d1, d2] }
  | _ => none }
def FnExactSlideBlocksWrongFalsely : Prop := fnExactSlideBlocksRow.holds Try.pinned (OpenSpec.ofChange fnExactSlideBlocksWrong)

/-- 'laws.FnExactTakeSliding': WHATEVER THE INPUT: true; the input reads as it did. -/
def fnExactTakeSlidingSpec : ChangeSpec := { name := "fnExactTakeSliding", fn := fun _ => fun
  | [d1, d2, d3] => { results := [.lit (.bool true)], args := [d1, d2, d3] }
  | _ => none }
def fnExactTakeSlidingRow : OpenClaim := { program := "ytkejbggffbkdaaa", sum := "80c7989396c8ebe7d46cd27f261e0c6d486a320227689755c4b8a1e72f6aef39", func := "loop.example/memorymanagers/laws.FnExactTakeSliding", spec := "fnExactTakeSliding", apart := false }
def FnExactTakeSlidingSaid : Prop := fnExactTakeSlidingRow.holds Try.pinned (OpenSpec.ofChange fnExactTakeSlidingSpec)

/-- ITS FALSE NEIGHBOUR: 'it returns false'. Refute it at one input. -/
def fnExactTakeSlidingWrong : ChangeSpec := { name := "fnExactTakeSliding", fn := fun _ => fun
  | [d1, d2, d3] => { results := [.lit (.bool false)], args := [d1, d2, d3] }
  | _ => none }
def FnExactTakeSlidingWrongFalsely : Prop := fnExactTakeSlidingRow.holds Try.pinned (OpenSpec.ofChange fnExactTakeSlidingWrong)

/- THE SECOND FORM. 'bulk': how many values and letters a reading holds, each counted each time it is reached (what is shared counts as often as it is met; a slice's spare places count too). A statement '..UptoSaid' is the law's where the arguments, and the package variables that the reading takes, are together of bulk at most 1048576: NARROWER than '..Said'. Prove '..Said' where nothing that the law and all that it calls make is longer than what came in: it says more and counts as full. Else prove '..UptoSaid'. A law counts once. -/
mutual
def uptoBulk {H : Type} : DataW H → Nat
  | .lit (.string bytes) => bytes.length + 1
  | .lit _ => 1
  | .nil => 1
  | .ptr d => uptoBulk d + 1
  | .slice elems spare => uptoBulkAll elems + uptoBulkAll spare + 1
  | .agg parts => uptoBulkAll parts + 1
  | .iface _ d => uptoBulk d + 1
  | .map entries => uptoBulkEntries entries + 1
  | .held _ => 1
def uptoBulkAll {H : Type} : List (DataW H) → Nat
  | [] => 0
  | d :: r => uptoBulk d + uptoBulkAll r
def uptoBulkEntries {H : Type} : List (Lit × DataW H) → Nat
  | [] => 0
  | x :: r => uptoBulkEntry x + uptoBulkEntries r
def uptoBulkEntry {H : Type} : Lit × DataW H → Nat
  | (.string bytes, d) => bytes.length + uptoBulk d + 1
  | (_, d) => uptoBulk d + 1
 end
def uptoSmall : (H : Type) → List (DataW H) → Bool := fun _ ds => decide (uptoBulkAll ds ≤ 1048576)
def OpenSpec.upto (s : _root_.Go.ChangeSpec) : _root_.Go.OpenSpec := { _root_.Go.OpenSpec.ofChange s with cond := some uptoSmall }

/-- 'laws.FnFragmented', WHERE WHAT IT READS IS OF BULK AT MOST 1048576: true; the input reads as it did. -/
def fnFragmentedUptoRow : OpenClaim := { program := "ytkejbggffbkdaaa", sum := "80c7989396c8ebe7d46cd27f261e0c6d486a320227689755c4b8a1e72f6aef39", func := "loop.example/memorymanagers/laws.FnFragmented", spec := "fnFragmented", apart := false, narrowed := true }
def FnFragmentedUptoSaid : Prop := fnFragmentedUptoRow.holds Try.pinned (OpenSpec.upto fnFragmentedSpec)

/-- 'laws.FnSlideBlocks', WHERE WHAT IT READS IS OF BULK AT MOST 1048576: true; the input reads as it did. -/
def fnSlideBlocksUptoRow : OpenClaim := { program := "ytkejbggffbkdaaa", sum := "80c7989396c8ebe7d46cd27f261e0c6d486a320227689755c4b8a1e72f6aef39", func := "loop.example/memorymanagers/laws.FnSlideBlocks", spec := "fnSlideBlocks", apart := false, narrowed := true }
def FnSlideBlocksUptoSaid : Prop := fnSlideBlocksUptoRow.holds Try.pinned (OpenSpec.upto fnSlideBlocksSpec)

/-- 'laws.FnTakeSliding', WHERE WHAT IT READS IS OF BULK AT MOST 1048576: true; the input reads as it did. -/
def fnTakeSlidingUptoRow : OpenClaim := { program := "ytkejbggffbkdaaa", sum := "80c7989396c8ebe7d46cd27f261e0c6d486a320227689755c4b8a1e72f6aef39", func := "loop.example/memorymanagers/laws.FnTakeSliding", spec := "fnTakeSliding", apart := false, narrowed := true }
def FnTakeSlidingUptoSaid : Prop := fnTakeSlidingUptoRow.holds Try.pinned (OpenSpec.upto fnTakeSlidingSpec)

/-- 'laws.FnSlideFit', WHERE WHAT IT READS IS OF BULK AT MOST 1048576: true; the input reads as it did. -/
def fnSlideFitUptoRow : OpenClaim := { program := "ytkejbggffbkdaaa", sum := "80c7989396c8ebe7d46cd27f261e0c6d486a320227689755c4b8a1e72f6aef39", func := "loop.example/memorymanagers/laws.FnSlideFit", spec := "fnSlideFit", apart := false, narrowed := true }
def FnSlideFitUptoSaid : Prop := fnSlideFitUptoRow.holds Try.pinned (OpenSpec.upto fnSlideFitSpec)

/-- 'laws.FnExactFragmented', WHERE WHAT IT READS IS OF BULK AT MOST 1048576: true; the input reads as it did. -/
def fnExactFragmentedUptoRow : OpenClaim := { program := "ytkejbggffbkdaaa", sum := "80c7989396c8ebe7d46cd27f261e0c6d486a320227689755c4b8a1e72f6aef39", func := "loop.example/memorymanagers/laws.FnExactFragmented", spec := "fnExactFragmented", apart := false, narrowed := true }
def FnExactFragmentedUptoSaid : Prop := fnExactFragmentedUptoRow.holds Try.pinned (OpenSpec.upto fnExactFragmentedSpec)

/-- 'laws.FnExactSlideBlocks', WHERE WHAT IT READS IS OF BULK AT MOST 1048576: true; the input reads as it did. -/
def fnExactSlideBlocksUptoRow : OpenClaim := { program := "ytkejbggffbkdaaa", sum := "80c7989396c8ebe7d46cd27f261e0c6d486a320227689755c4b8a1e72f6aef39", func := "loop.example/memorymanagers/laws.FnExactSlideBlocks", spec := "fnExactSlideBlocks", apart := false, narrowed := true }
def FnExactSlideBlocksUptoSaid : Prop := fnExactSlideBlocksUptoRow.holds Try.pinned (OpenSpec.upto fnExactSlideBlocksSpec)

/-- 'laws.FnExactTakeSliding', WHERE WHAT IT READS IS OF BULK AT MOST 1048576: true; the input reads as it did. -/
def fnExactTakeSlidingUptoRow : OpenClaim := { program := "ytkejbggffbkdaaa", sum := "80c7989396c8ebe7d46cd27f261e0c6d486a320227689755c4b8a1e72f6aef39", func := "loop.example/memorymanagers/laws.FnExactTakeSliding", spec := "fnExactTakeSliding", apart := false, narrowed := true }
def FnExactTakeSlidingUptoSaid : Prop := fnExactTakeSlidingUptoRow.holds Try.pinned (OpenSpec.upto fnExactTakeSlidingSpec)

end Rows
end Go.Proofs.Ytkejbggffbkdaaa
