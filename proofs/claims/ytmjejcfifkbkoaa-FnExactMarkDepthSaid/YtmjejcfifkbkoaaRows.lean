/-
  No cell of these rows narrows 'for every input' (looked for: loops, veiled, ifaces, maps, wideKeys, modest, calm, conditions, laid).
  DERIVED. THE GIVEN ROWS OF THIS SEAT. 11 by the template 'for every input the law returns true; each argument reads behind the call as it read before'; 0 by the template 'total and deterministic' (their statements: YtmjejcfifkbkoaaTotals.lean).
  GIVEN WITH THE SEED: the statements are not yours to turn. If you find one false, say at which input.
  Laid BY PROGRAM, IN A SANDBOX (cutbox-rows.mjs): the forced cells as the released guide's own fill.sh prints them over the translation 4555656f338d7486… (all of the seat's roots in one cut). By AI agents, Wed Nov 11 2026. No macro, syntax, notation, axiom, sorry.
-/
import Derived.Test.YtmjejcfifkbkoaaChecked
import GoSem.Claim
import GoSem.ClaimJoined
import GoSem.ClaimMapViews
import Derived.JoinedTies
import Derived.KernelRfl
namespace Go.Proofs.Ytmjejcfifkbkoaa
/- THE CELL 'sum', in the pinned program and in every row, IS THE sha256 OF THE DUMP (.gsa) THAT YtmjejcfifkbkoaaProg.lean LOADS. Nothing in Lean hashes anything: it is a label: what it is worth is what the hold of that sum in a sandbox is worth. -/
noncomputable def Try.pinned : Pinned := { name := "ytmjejcfifkbkoaa", sum := "4555656f338d7486e6c5cf3994708548f16f48546538268316faedba78b4be8c", checked := Try.checked }
namespace Rows
def none {H : Type} : Left H := { results := [], args := [] }

/-- 'laws.FnRunHeap': WHATEVER THE INPUT: true; the input reads as it did. -/
def fnRunHeapSpec : ChangeSpec := { name := "fnRunHeap", fn := fun _ => fun
  | [d] => { results := [.lit (.bool true)], args := [d] }
  | _ => none }
def fnRunHeapRow : OpenClaim := { program := "ytmjejcfifkbkoaa", sum := "4555656f338d7486e6c5cf3994708548f16f48546538268316faedba78b4be8c", func := "loop.example/memorymanagers/laws.FnRunHeap", spec := "fnRunHeap", unfollowed := true, recurses := true, apart := false }
def FnRunHeapSaid : Prop := fnRunHeapRow.holds Try.pinned (OpenSpec.ofChange fnRunHeapSpec)

/-- ITS FALSE NEIGHBOUR: 'it returns false'. Refute it at one input. -/
def fnRunHeapWrong : ChangeSpec := { name := "fnRunHeap", fn := fun _ => fun
  | [d] => { results := [.lit (.bool false)], args := [d] }
  | _ => none }
def FnRunHeapWrongFalsely : Prop := fnRunHeapRow.holds Try.pinned (OpenSpec.ofChange fnRunHeapWrong)

/-- 'laws.FnSameView': WHATEVER THE INPUT: true; the input reads as it did. -/
def fnSameViewSpec : ChangeSpec := { name := "fnSameView", fn := fun _ => fun
  | [d1, d2] => { results := [.lit (.bool true)], args := [d1, d2] }
  | _ => none }
def fnSameViewRow : OpenClaim := { program := "ytmjejcfifkbkoaa", sum := "4555656f338d7486e6c5cf3994708548f16f48546538268316faedba78b4be8c", func := "loop.example/memorymanagers/laws.FnSameView", spec := "fnSameView", unfollowed := true, recurses := true, apart := false }
def FnSameViewSaid : Prop := fnSameViewRow.holds Try.pinned (OpenSpec.ofChange fnSameViewSpec)

/-- ITS FALSE NEIGHBOUR: 'it returns false'. Refute it at one input. -/
def fnSameViewWrong : ChangeSpec := { name := "fnSameView", fn := fun _ => fun
  | [d1, d2] => { results := [.lit (.bool false)], args := [d1, d2] }
  | _ => none }
def FnSameViewWrongFalsely : Prop := fnSameViewRow.holds Try.pinned (OpenSpec.ofChange fnSameViewWrong)

/-- 'laws.FnHeapOf': WHATEVER THE INPUT: true; the input reads as it did. -/
def fnHeapOfSpec : ChangeSpec := { name := "fnHeapOf", fn := fun _ => fun
  | [d] => { results := [.lit (.bool true)], args := [d] }
  | _ => none }
def fnHeapOfRow : OpenClaim := { program := "ytmjejcfifkbkoaa", sum := "4555656f338d7486e6c5cf3994708548f16f48546538268316faedba78b4be8c", func := "loop.example/memorymanagers/laws.FnHeapOf", spec := "fnHeapOf", apart := false }
def FnHeapOfSaid : Prop := fnHeapOfRow.holds Try.pinned (OpenSpec.ofChange fnHeapOfSpec)

/-- ITS FALSE NEIGHBOUR: 'it returns false'. Refute it at one input. -/
def fnHeapOfWrong : ChangeSpec := { name := "fnHeapOf", fn := fun _ => fun
  | [d] => { results := [.lit (.bool false)], args := [d] }
  | _ => none }
def FnHeapOfWrongFalsely : Prop := fnHeapOfRow.holds Try.pinned (OpenSpec.ofChange fnHeapOfWrong)

/-- 'laws.FnMarkDepth': WHATEVER THE INPUT: true; the input reads as it did. -/
def fnMarkDepthSpec : ChangeSpec := { name := "fnMarkDepth", fn := fun _ => fun
  | [d] => { results := [.lit (.bool true)], args := [d] }
  | _ => none }
def fnMarkDepthRow : OpenClaim := { program := "ytmjejcfifkbkoaa", sum := "4555656f338d7486e6c5cf3994708548f16f48546538268316faedba78b4be8c", func := "loop.example/memorymanagers/laws.FnMarkDepth", spec := "fnMarkDepth", unfollowed := true, recurses := true, apart := false }
def FnMarkDepthSaid : Prop := fnMarkDepthRow.holds Try.pinned (OpenSpec.ofChange fnMarkDepthSpec)

/-- ITS FALSE NEIGHBOUR: 'it returns false'. Refute it at one input. -/
def fnMarkDepthWrong : ChangeSpec := { name := "fnMarkDepth", fn := fun _ => fun
  | [d] => { results := [.lit (.bool false)], args := [d] }
  | _ => none }
def FnMarkDepthWrongFalsely : Prop := fnMarkDepthRow.holds Try.pinned (OpenSpec.ofChange fnMarkDepthWrong)

/-- 'laws.FnMarkBounded': WHATEVER THE INPUT: true; the input reads as it did. -/
def fnMarkBoundedSpec : ChangeSpec := { name := "fnMarkBounded", fn := fun _ => fun
  | [d] => { results := [.lit (.bool true)], args := [d] }
  | _ => none }
def fnMarkBoundedRow : OpenClaim := { program := "ytmjejcfifkbkoaa", sum := "4555656f338d7486e6c5cf3994708548f16f48546538268316faedba78b4be8c", func := "loop.example/memorymanagers/laws.FnMarkBounded", spec := "fnMarkBounded", unfollowed := true, recurses := true, apart := false }
def FnMarkBoundedSaid : Prop := fnMarkBoundedRow.holds Try.pinned (OpenSpec.ofChange fnMarkBoundedSpec)

/-- ITS FALSE NEIGHBOUR: 'it returns false'. Refute it at one input. -/
def fnMarkBoundedWrong : ChangeSpec := { name := "fnMarkBounded", fn := fun _ => fun
  | [d] => { results := [.lit (.bool false)], args := [d] }
  | _ => none }
def FnMarkBoundedWrongFalsely : Prop := fnMarkBoundedRow.holds Try.pinned (OpenSpec.ofChange fnMarkBoundedWrong)

/-- 'laws.FnNewLives': WHATEVER THE INPUT: true; the input reads as it did. -/
def fnNewLivesSpec : ChangeSpec := { name := "fnNewLives", fn := fun _ => fun
  | [d] => { results := [.lit (.bool true)], args := [d] }
  | _ => none }
def fnNewLivesRow : OpenClaim := { program := "ytmjejcfifkbkoaa", sum := "4555656f338d7486e6c5cf3994708548f16f48546538268316faedba78b4be8c", func := "loop.example/memorymanagers/laws.FnNewLives", spec := "fnNewLives", unfollowed := true, recurses := true, apart := false }
def FnNewLivesSaid : Prop := fnNewLivesRow.holds Try.pinned (OpenSpec.ofChange fnNewLivesSpec)

/-- ITS FALSE NEIGHBOUR: 'it returns false'. Refute it at one input. -/
def fnNewLivesWrong : ChangeSpec := { name := "fnNewLives", fn := fun _ => fun
  | [d] => { results := [.lit (.bool false)], args := [d] }
  | _ => none }
def FnNewLivesWrongFalsely : Prop := fnNewLivesRow.holds Try.pinned (OpenSpec.ofChange fnNewLivesWrong)

/-- 'laws.FnDropLess': WHATEVER THE INPUT: true; the input reads as it did. -/
def fnDropLessSpec : ChangeSpec := { name := "fnDropLess", fn := fun _ => fun
  | [d] => { results := [.lit (.bool true)], args := [d] }
  | _ => none }
def fnDropLessRow : OpenClaim := { program := "ytmjejcfifkbkoaa", sum := "4555656f338d7486e6c5cf3994708548f16f48546538268316faedba78b4be8c", func := "loop.example/memorymanagers/laws.FnDropLess", spec := "fnDropLess", unfollowed := true, recurses := true, apart := false }
def FnDropLessSaid : Prop := fnDropLessRow.holds Try.pinned (OpenSpec.ofChange fnDropLessSpec)

/-- ITS FALSE NEIGHBOUR: 'it returns false'. Refute it at one input. -/
def fnDropLessWrong : ChangeSpec := { name := "fnDropLess", fn := fun _ => fun
  | [d] => { results := [.lit (.bool false)], args := [d] }
  | _ => none }
def FnDropLessWrongFalsely : Prop := fnDropLessRow.holds Try.pinned (OpenSpec.ofChange fnDropLessWrong)

/-- 'laws.FnMarkSame': WHATEVER THE INPUT: true; the input reads as it did. -/
def fnMarkSameSpec : ChangeSpec := { name := "fnMarkSame", fn := fun _ => fun
  | [d] => { results := [.lit (.bool true)], args := [d] }
  | _ => none }
def fnMarkSameRow : OpenClaim := { program := "ytmjejcfifkbkoaa", sum := "4555656f338d7486e6c5cf3994708548f16f48546538268316faedba78b4be8c", func := "loop.example/memorymanagers/laws.FnMarkSame", spec := "fnMarkSame", unfollowed := true, recurses := true, apart := false }
def FnMarkSameSaid : Prop := fnMarkSameRow.holds Try.pinned (OpenSpec.ofChange fnMarkSameSpec)

/-- ITS FALSE NEIGHBOUR: 'it returns false'. Refute it at one input. -/
def fnMarkSameWrong : ChangeSpec := { name := "fnMarkSame", fn := fun _ => fun
  | [d] => { results := [.lit (.bool false)], args := [d] }
  | _ => none }
def FnMarkSameWrongFalsely : Prop := fnMarkSameRow.holds Try.pinned (OpenSpec.ofChange fnMarkSameWrong)

/-- 'laws.FnExactMarkDepth': WHATEVER THE INPUT: true; the input reads as it did. -/
def fnExactMarkDepthSpec : ChangeSpec := { name := "fnExactMarkDepth", fn := fun _ => fun
  | [d] => { results := [.lit (.bool true)], args := [d] }
  | _ => none }
def fnExactMarkDepthRow : OpenClaim := { program := "ytmjejcfifkbkoaa", sum := "4555656f338d7486e6c5cf3994708548f16f48546538268316faedba78b4be8c", func := "loop.example/memorymanagers/laws.FnExactMarkDepth", spec := "fnExactMarkDepth", unfollowed := true, recurses := true, apart := false }
def FnExactMarkDepthSaid : Prop := fnExactMarkDepthRow.holds Try.pinned (OpenSpec.ofChange fnExactMarkDepthSpec)

/-- ITS FALSE NEIGHBOUR: 'it returns false'. Refute it at one input. -/
def fnExactMarkDepthWrong : ChangeSpec := { name := "fnExactMarkDepth", fn := fun _ => fun
  | [d] => { results := [.lit (.bool false)], args := [d] }
  | _ => none }
def FnExactMarkDepthWrongFalsely : Prop := fnExactMarkDepthRow.holds Try.pinned (OpenSpec.ofChange fnExactMarkDepthWrong)

/-- 'laws.FnExactMarkBounded': WHATEVER THE INPUT: true; the input reads as it did. -/
def fnExactMarkBoundedSpec : ChangeSpec := { name := "fnExactMarkBounded", fn := fun _ => fun
  | [d1, d2] => { results := [.lit (.bool true)], args := [d1, d2] }
  | _ => none }
def fnExactMarkBoundedRow : OpenClaim := { program := "ytmjejcfifkbkoaa", sum := "4555656f338d7486e6c5cf3994708548f16f48546538268316faedba78b4be8c", func := "loop.example/memorymanagers/laws.FnExactMarkBounded", spec := "fnExactMarkBounded", unfollowed := true, recurses := true, apart := false }
def FnExactMarkBoundedSaid : Prop := fnExactMarkBoundedRow.holds Try.pinned (OpenSpec.ofChange fnExactMarkBoundedSpec)

/-- ITS FALSE NEIGHBOUR: 'it returns false'. Refute it at one input. -/
def fnExactMarkBoundedWrong : ChangeSpec := { name := "fnExactMarkBounded", fn := fun _ => fun
  | [d1, d2] => { results := [.lit (.bool false)], args := [d1, d2] }
  | _ => none }
def FnExactMarkBoundedWrongFalsely : Prop := fnExactMarkBoundedRow.holds Try.pinned (OpenSpec.ofChange fnExactMarkBoundedWrong)

/-- 'laws.FnExactRunHeap': WHATEVER THE INPUT: true; the input reads as it did. -/
def fnExactRunHeapSpec : ChangeSpec := { name := "fnExactRunHeap", fn := fun _ => fun
  | [d] => { results := [.lit (.bool true)], args := [d] }
  | _ => none }
def fnExactRunHeapRow : OpenClaim := { program := "ytmjejcfifkbkoaa", sum := "4555656f338d7486e6c5cf3994708548f16f48546538268316faedba78b4be8c", func := "loop.example/memorymanagers/laws.FnExactRunHeap", spec := "fnExactRunHeap", unfollowed := true, recurses := true, apart := false }
def FnExactRunHeapSaid : Prop := fnExactRunHeapRow.holds Try.pinned (OpenSpec.ofChange fnExactRunHeapSpec)

/-- ITS FALSE NEIGHBOUR: 'it returns false'. Refute it at one input. -/
def fnExactRunHeapWrong : ChangeSpec := { name := "fnExactRunHeap", fn := fun _ => fun
  | [d] => { results := [.lit (.bool false)], args := [d] }
  | _ => none }
def FnExactRunHeapWrongFalsely : Prop := fnExactRunHeapRow.holds Try.pinned (OpenSpec.ofChange fnExactRunHeapWrong)

/- THE SECOND FORM. 'bulk': how many values and letters a reading holds, each counted each time it is reached (what is shared counts as often as it is met; a slice's spare places count too). A statement '..UptoSaid' is the law's where the arguments, and the package variables that the reading takes, are together of bulk at most 1048576: NARROWER than '..Said'. Prove '..Said' where nothing that the law and all that it calls make is longer than what came in: it says more and counts as full. Else prove '..UptoSaid'. A law counts once. -/
mutual
def uptoBulk {H : Type} : DataW H → Nat
  | .lit (.string bytes) => bytes.length + 1
  | .lit _ => 1
  | .nil => 1
  | .ptr d => uptoBulk d + 1
  | .slice elems spare => uptoBulkAll elems + uptoBulkAll spare + 1
  | .agg parts => uptoBulkAll parts + 1
  | .iface _ d => uptoBulk d + 1
  | .map entries => uptoBulkEntries entries + 1
  | .held _ => 1
def uptoBulkAll {H : Type} : List (DataW H) → Nat
  | [] => 0
  | d :: r => uptoBulk d + uptoBulkAll r
def uptoBulkEntries {H : Type} : List (Lit × DataW H) → Nat
  | [] => 0
  | x :: r => uptoBulkEntry x + uptoBulkEntries r
def uptoBulkEntry {H : Type} : Lit × DataW H → Nat
  | (.string bytes, d) => bytes.length + uptoBulk d + 1
  | (_, d) => uptoBulk d + 1
 end
def uptoSmall : (H : Type) → List (DataW H) → Bool := fun _ ds => decide (uptoBulkAll ds ≤ 1048576)
def OpenSpec.upto (s : _root_.Go.ChangeSpec) : _root_.Go.OpenSpec := { _root_.Go.OpenSpec.ofChange s with cond := some uptoSmall }

/-- 'laws.FnRunHeap', WHERE WHAT IT READS IS OF BULK AT MOST 1048576: true; the input reads as it did. -/
def fnRunHeapUptoRow : OpenClaim := { program := "ytmjejcfifkbkoaa", sum := "4555656f338d7486e6c5cf3994708548f16f48546538268316faedba78b4be8c", func := "loop.example/memorymanagers/laws.FnRunHeap", spec := "fnRunHeap", unfollowed := true, recurses := true, apart := false, narrowed := true }
def FnRunHeapUptoSaid : Prop := fnRunHeapUptoRow.holds Try.pinned (OpenSpec.upto fnRunHeapSpec)

/-- 'laws.FnSameView', WHERE WHAT IT READS IS OF BULK AT MOST 1048576: true; the input reads as it did. -/
def fnSameViewUptoRow : OpenClaim := { program := "ytmjejcfifkbkoaa", sum := "4555656f338d7486e6c5cf3994708548f16f48546538268316faedba78b4be8c", func := "loop.example/memorymanagers/laws.FnSameView", spec := "fnSameView", unfollowed := true, recurses := true, apart := false, narrowed := true }
def FnSameViewUptoSaid : Prop := fnSameViewUptoRow.holds Try.pinned (OpenSpec.upto fnSameViewSpec)

/-- 'laws.FnHeapOf', WHERE WHAT IT READS IS OF BULK AT MOST 1048576: true; the input reads as it did. -/
def fnHeapOfUptoRow : OpenClaim := { program := "ytmjejcfifkbkoaa", sum := "4555656f338d7486e6c5cf3994708548f16f48546538268316faedba78b4be8c", func := "loop.example/memorymanagers/laws.FnHeapOf", spec := "fnHeapOf", apart := false, narrowed := true }
def FnHeapOfUptoSaid : Prop := fnHeapOfUptoRow.holds Try.pinned (OpenSpec.upto fnHeapOfSpec)

/-- 'laws.FnMarkDepth', WHERE WHAT IT READS IS OF BULK AT MOST 1048576: true; the input reads as it did. -/
def fnMarkDepthUptoRow : OpenClaim := { program := "ytmjejcfifkbkoaa", sum := "4555656f338d7486e6c5cf3994708548f16f48546538268316faedba78b4be8c", func := "loop.example/memorymanagers/laws.FnMarkDepth", spec := "fnMarkDepth", unfollowed := true, recurses := true, apart := false, narrowed := true }
def FnMarkDepthUptoSaid : Prop := fnMarkDepthUptoRow.holds Try.pinned (OpenSpec.upto fnMarkDepthSpec)

/-- 'laws.FnMarkBounded', WHERE WHAT IT READS IS OF BULK AT MOST 1048576: true; the input reads as it did. -/
def fnMarkBoundedUptoRow : OpenClaim := { program := "ytmjejcfifkbkoaa", sum := "4555656f338d7486e6c5cf3994708548f16f48546538268316faedba78b4be8c", func := "loop.example/memorymanagers/laws.FnMarkBounded", spec := "fnMarkBounded", unfollowed := true, recurses := true, apart := false, narrowed := true }
def FnMarkBoundedUptoSaid : Prop := fnMarkBoundedUptoRow.holds Try.pinned (OpenSpec.upto fnMarkBoundedSpec)

/-- 'laws.FnNewLives', WHERE WHAT IT READS IS OF BULK AT MOST 1048576: true; the input reads as it did. -/
def fnNewLivesUptoRow : OpenClaim := { program := "ytmjejcfifkbkoaa", sum := "4555656f338d7486e6c5cf3994708548f16f48546538268316faedba78b4be8c", func := "loop.example/memorymanagers/laws.FnNewLives", spec := "fnNewLives", unfollowed := true, recurses := true, apart := false, narrowed := true }
def FnNewLivesUptoSaid : Prop := fnNewLivesUptoRow.holds Try.pinned (OpenSpec.upto fnNewLivesSpec)

/-- 'laws.FnDropLess', WHERE WHAT IT READS IS OF BULK AT MOST 1048576: true; the input reads as it did. -/
def fnDropLessUptoRow : OpenClaim := { program := "ytmjejcfifkbkoaa", sum := "4555656f338d7486e6c5cf3994708548f16f48546538268316faedba78b4be8c", func := "loop.example/memorymanagers/laws.FnDropLess", spec := "fnDropLess", unfollowed := true, recurses := true, apart := false, narrowed := true }
def FnDropLessUptoSaid : Prop := fnDropLessUptoRow.holds Try.pinned (OpenSpec.upto fnDropLessSpec)

/-- 'laws.FnMarkSame', WHERE WHAT IT READS IS OF BULK AT MOST 1048576: true; the input reads as it did. -/
def fnMarkSameUptoRow : OpenClaim := { program := "ytmjejcfifkbkoaa", sum := "4555656f338d7486e6c5cf3994708548f16f48546538268316faedba78b4be8c", func := "loop.example/memorymanagers/laws.FnMarkSame", spec := "fnMarkSame", unfollowed := true, recurses := true, apart := false, narrowed := true }
def FnMarkSameUptoSaid : Prop := fnMarkSameUptoRow.holds Try.pinned (OpenSpec.upto fnMarkSameSpec)

/-- 'laws.FnExactMarkDepth', WHERE WHAT IT READS IS OF BULK AT MOST 1048576: true; the input reads as it did. -/
def fnExactMarkDepthUptoRow : OpenClaim := { program := "ytmjejcfifkbkoaa", sum := "4555656f338d7486e6c5cf3994708548f16f48546538268316faedba78b4be8c", func := "loop.example/memorymanagers/laws.FnExactMarkDepth", spec := "fnExactMarkDepth", unfollowed := true, recurses := true, apart := false, narrowed := true }
def FnExactMarkDepthUptoSaid : Prop := fnExactMarkDepthUptoRow.holds Try.pinned (OpenSpec.upto fnExactMarkDepthSpec)

/-- 'laws.FnExactMarkBounded', WHERE WHAT IT READS IS OF BULK AT MOST 1048576: true; the input reads as it did. -/
def fnExactMarkBoundedUptoRow : OpenClaim := { program := "ytmjejcfifkbkoaa", sum := "4555656f338d7486e6c5cf3994708548f16f48546538268316faedba78b4be8c", func := "loop.example/memorymanagers/laws.FnExactMarkBounded", spec := "fnExactMarkBounded", unfollowed := true, recurses := true, apart := false, narrowed := true }
def FnExactMarkBoundedUptoSaid : Prop := fnExactMarkBoundedUptoRow.holds Try.pinned (OpenSpec.upto fnExactMarkBoundedSpec)

/-- 'laws.FnExactRunHeap', WHERE WHAT IT READS IS OF BULK AT MOST 1048576: true; the input reads as it did. -/
def fnExactRunHeapUptoRow : OpenClaim := { program := "ytmjejcfifkbkoaa", sum := "4555656f338d7486e6c5cf3994708548f16f48546538268316faedba78b4be8c", func := "loop.example/memorymanagers/laws.FnExactRunHeap", spec := "fnExactRunHeap", unfollowed := true, recurses := true, apart := false, narrowed := true }
def FnExactRunHeapUptoSaid : Prop := fnExactRunHeapUptoRow.holds Try.pinned (OpenSpec.upto fnExactRunHeapSpec)

end Rows
end Go.Proofs.Ytmjejcfifkbkoaa
