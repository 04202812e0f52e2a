/-
  No cell of these rows narrows 'for every input' (looked for: loops, veiled, ifaces, maps, wideKeys, modest, calm, conditions, laid).
  DERIVED. THE GIVEN ROWS OF THIS SEAT. 12 by the template 'for every input the law returns true; each argument reads behind the call as it read before'; 0 by the template 'total and deterministic' (their statements: YtdkdfeogalhmlaaTotals.lean).
  GIVEN WITH THE SEED: the statements are not yours to turn. If you find one false, say at which input.
  Laid BY PROGRAM, IN A SANDBOX (cutbox-rows.mjs): the forced cells as the released guide's own fill.sh prints them over the translation 8006bdc942ef3ac2… (all of the seat's roots in one cut). By AI agents, Wed Nov 11 2026. No macro, syntax, notation, axiom, sorry.
-/
import Derived.Test.YtdkdfeogalhmlaaChecked
import GoSem.Claim
import GoSem.ClaimJoined
import GoSem.ClaimMapViews
import Derived.JoinedTies
import Derived.KernelRfl
namespace Go.Proofs.Ytdkdfeogalhmlaa
/- THE CELL 'sum', in the pinned program and in every row, IS THE sha256 OF THE DUMP (.gsa) THAT YtdkdfeogalhmlaaProg.lean LOADS. Nothing in Lean hashes anything: it is a label: what it is worth is what the hold of that sum in a sandbox is worth. -/
noncomputable def Try.pinned : Pinned := { name := "ytdkdfeogalhmlaa", sum := "8006bdc942ef3ac216d2a413695a0d0001513b6e0fb6650e2482694577cb006b", checked := Try.checked }
namespace Rows
def none {H : Type} : Left H := { results := [], args := [] }

/-- 'laws.FnCommandValid': WHATEVER THE INPUT: true; the input reads as it did. -/
def fnCommandValidSpec : ChangeSpec := { name := "fnCommandValid", fn := fun _ => fun
  | [d] => { results := [.lit (.bool true)], args := [d] }
  | _ => none }
def fnCommandValidRow : OpenClaim := { program := "ytdkdfeogalhmlaa", sum := "8006bdc942ef3ac216d2a413695a0d0001513b6e0fb6650e2482694577cb006b", func := "loop.example/memorymanagers/laws.FnCommandValid", spec := "fnCommandValid", apart := false }
def FnCommandValidSaid : Prop := fnCommandValidRow.holds Try.pinned (OpenSpec.ofChange fnCommandValidSpec)

/-- ITS FALSE NEIGHBOUR: 'it returns false'. Refute it at one input. -/
def fnCommandValidWrong : ChangeSpec := { name := "fnCommandValid", fn := fun _ => fun
  | [d] => { results := [.lit (.bool false)], args := [d] }
  | _ => none }
def FnCommandValidWrongFalsely : Prop := fnCommandValidRow.holds Try.pinned (OpenSpec.ofChange fnCommandValidWrong)

/-- 'laws.FnCommandsValid': WHATEVER THE INPUT: true; the input reads as it did. -/
def fnCommandsValidSpec : ChangeSpec := { name := "fnCommandsValid", fn := fun _ => fun
  | [d] => { results := [.lit (.bool true)], args := [d] }
  | _ => none }
def fnCommandsValidRow : OpenClaim := { program := "ytdkdfeogalhmlaa", sum := "8006bdc942ef3ac216d2a413695a0d0001513b6e0fb6650e2482694577cb006b", func := "loop.example/memorymanagers/laws.FnCommandsValid", spec := "fnCommandsValid", apart := false }
def FnCommandsValidSaid : Prop := fnCommandsValidRow.holds Try.pinned (OpenSpec.ofChange fnCommandsValidSpec)

/-- ITS FALSE NEIGHBOUR: 'it returns false'. Refute it at one input. -/
def fnCommandsValidWrong : ChangeSpec := { name := "fnCommandsValid", fn := fun _ => fun
  | [d] => { results := [.lit (.bool false)], args := [d] }
  | _ => none }
def FnCommandsValidWrongFalsely : Prop := fnCommandsValidRow.holds Try.pinned (OpenSpec.ofChange fnCommandsValidWrong)

/-- 'laws.FnCommandPossible': WHATEVER THE INPUT: true; the input reads as it did. -/
def fnCommandPossibleSpec : ChangeSpec := { name := "fnCommandPossible", fn := fun _ => fun
  | [d] => { results := [.lit (.bool true)], args := [d] }
  | _ => none }
def fnCommandPossibleRow : OpenClaim := { program := "ytdkdfeogalhmlaa", sum := "8006bdc942ef3ac216d2a413695a0d0001513b6e0fb6650e2482694577cb006b", func := "loop.example/memorymanagers/laws.FnCommandPossible", spec := "fnCommandPossible", unfollowed := true, recurses := true, apart := false }
def FnCommandPossibleSaid : Prop := fnCommandPossibleRow.holds Try.pinned (OpenSpec.ofChange fnCommandPossibleSpec)

/-- ITS FALSE NEIGHBOUR: 'it returns false'. Refute it at one input. -/
def fnCommandPossibleWrong : ChangeSpec := { name := "fnCommandPossible", fn := fun _ => fun
  | [d] => { results := [.lit (.bool false)], args := [d] }
  | _ => none }
def FnCommandPossibleWrongFalsely : Prop := fnCommandPossibleRow.holds Try.pinned (OpenSpec.ofChange fnCommandPossibleWrong)

/-- 'laws.FnStepHeap': WHATEVER THE INPUT: true; the input reads as it did. -/
def fnStepHeapSpec : ChangeSpec := { name := "fnStepHeap", fn := fun _ => fun
  | [d] => { results := [.lit (.bool true)], args := [d] }
  | _ => none }
def fnStepHeapRow : OpenClaim := { program := "ytdkdfeogalhmlaa", sum := "8006bdc942ef3ac216d2a413695a0d0001513b6e0fb6650e2482694577cb006b", func := "loop.example/memorymanagers/laws.FnStepHeap", spec := "fnStepHeap", unfollowed := true, recurses := true, apart := false }
def FnStepHeapSaid : Prop := fnStepHeapRow.holds Try.pinned (OpenSpec.ofChange fnStepHeapSpec)

/-- ITS FALSE NEIGHBOUR: 'it returns false'. Refute it at one input. -/
def fnStepHeapWrong : ChangeSpec := { name := "fnStepHeap", fn := fun _ => fun
  | [d] => { results := [.lit (.bool false)], args := [d] }
  | _ => none }
def FnStepHeapWrongFalsely : Prop := fnStepHeapRow.holds Try.pinned (OpenSpec.ofChange fnStepHeapWrong)

/-- 'laws.FnRunHeap': WHATEVER THE INPUT: true; the input reads as it did. -/
def fnRunHeapSpec : ChangeSpec := { name := "fnRunHeap", fn := fun _ => fun
  | [d] => { results := [.lit (.bool true)], args := [d] }
  | _ => none }
def fnRunHeapRow : OpenClaim := { program := "ytdkdfeogalhmlaa", sum := "8006bdc942ef3ac216d2a413695a0d0001513b6e0fb6650e2482694577cb006b", func := "loop.example/memorymanagers/laws.FnRunHeap", spec := "fnRunHeap", unfollowed := true, recurses := true, apart := false }
def FnRunHeapSaid : Prop := fnRunHeapRow.holds Try.pinned (OpenSpec.ofChange fnRunHeapSpec)

/-- ITS FALSE NEIGHBOUR: 'it returns false'. Refute it at one input. -/
def fnRunHeapWrong : ChangeSpec := { name := "fnRunHeap", fn := fun _ => fun
  | [d] => { results := [.lit (.bool false)], args := [d] }
  | _ => none }
def FnRunHeapWrongFalsely : Prop := fnRunHeapRow.holds Try.pinned (OpenSpec.ofChange fnRunHeapWrong)

/-- 'laws.FnNewLives': WHATEVER THE INPUT: true; the input reads as it did. -/
def fnNewLivesSpec : ChangeSpec := { name := "fnNewLives", fn := fun _ => fun
  | [d] => { results := [.lit (.bool true)], args := [d] }
  | _ => none }
def fnNewLivesRow : OpenClaim := { program := "ytdkdfeogalhmlaa", sum := "8006bdc942ef3ac216d2a413695a0d0001513b6e0fb6650e2482694577cb006b", func := "loop.example/memorymanagers/laws.FnNewLives", spec := "fnNewLives", unfollowed := true, recurses := true, apart := false }
def FnNewLivesSaid : Prop := fnNewLivesRow.holds Try.pinned (OpenSpec.ofChange fnNewLivesSpec)

/-- ITS FALSE NEIGHBOUR: 'it returns false'. Refute it at one input. -/
def fnNewLivesWrong : ChangeSpec := { name := "fnNewLives", fn := fun _ => fun
  | [d] => { results := [.lit (.bool false)], args := [d] }
  | _ => none }
def FnNewLivesWrongFalsely : Prop := fnNewLivesRow.holds Try.pinned (OpenSpec.ofChange fnNewLivesWrong)

/-- 'laws.FnDropLess': WHATEVER THE INPUT: true; the input reads as it did. -/
def fnDropLessSpec : ChangeSpec := { name := "fnDropLess", fn := fun _ => fun
  | [d] => { results := [.lit (.bool true)], args := [d] }
  | _ => none }
def fnDropLessRow : OpenClaim := { program := "ytdkdfeogalhmlaa", sum := "8006bdc942ef3ac216d2a413695a0d0001513b6e0fb6650e2482694577cb006b", func := "loop.example/memorymanagers/laws.FnDropLess", spec := "fnDropLess", unfollowed := true, recurses := true, apart := false }
def FnDropLessSaid : Prop := fnDropLessRow.holds Try.pinned (OpenSpec.ofChange fnDropLessSpec)

/-- ITS FALSE NEIGHBOUR: 'it returns false'. Refute it at one input. -/
def fnDropLessWrong : ChangeSpec := { name := "fnDropLess", fn := fun _ => fun
  | [d] => { results := [.lit (.bool false)], args := [d] }
  | _ => none }
def FnDropLessWrongFalsely : Prop := fnDropLessRow.holds Try.pinned (OpenSpec.ofChange fnDropLessWrong)

/-- 'laws.FnExactCommandValid': WHATEVER THE INPUT: true; the input reads as it did. -/
def fnExactCommandValidSpec : ChangeSpec := { name := "fnExactCommandValid", fn := fun _ => fun
  | [d] => { results := [.lit (.bool true)], args := [d] }
  | _ => none }
def fnExactCommandValidRow : OpenClaim := { program := "ytdkdfeogalhmlaa", sum := "8006bdc942ef3ac216d2a413695a0d0001513b6e0fb6650e2482694577cb006b", func := "loop.example/memorymanagers/laws.FnExactCommandValid", spec := "fnExactCommandValid", apart := false }
def FnExactCommandValidSaid : Prop := fnExactCommandValidRow.holds Try.pinned (OpenSpec.ofChange fnExactCommandValidSpec)

/-- ITS FALSE NEIGHBOUR: 'it returns false'. Refute it at one input. -/
def fnExactCommandValidWrong : ChangeSpec := { name := "fnExactCommandValid", fn := fun _ => fun
  | [d] => { results := [.lit (.bool false)], args := [d] }
  | _ => none }
def FnExactCommandValidWrongFalsely : Prop := fnExactCommandValidRow.holds Try.pinned (OpenSpec.ofChange fnExactCommandValidWrong)

/-- 'laws.FnExactCommandsValid': WHATEVER THE INPUT: true; the input reads as it did. -/
def fnExactCommandsValidSpec : ChangeSpec := { name := "fnExactCommandsValid", fn := fun _ => fun
  | [d] => { results := [.lit (.bool true)], args := [d] }
  | _ => none }
def fnExactCommandsValidRow : OpenClaim := { program := "ytdkdfeogalhmlaa", sum := "8006bdc942ef3ac216d2a413695a0d0001513b6e0fb6650e2482694577cb006b", func := "loop.example/memorymanagers/laws.FnExactCommandsValid", spec := "fnExactCommandsValid", apart := false }
def FnExactCommandsValidSaid : Prop := fnExactCommandsValidRow.holds Try.pinned (OpenSpec.ofChange fnExactCommandsValidSpec)

/-- ITS FALSE NEIGHBOUR: 'it returns false'. Refute it at one input. -/
def fnExactCommandsValidWrong : ChangeSpec := { name := "fnExactCommandsValid", fn := fun _ => fun
  | [d] => { results := [.lit (.bool false)], args := [d] }
  | _ => none }
def FnExactCommandsValidWrongFalsely : Prop := fnExactCommandsValidRow.holds Try.pinned (OpenSpec.ofChange fnExactCommandsValidWrong)

/-- 'laws.FnExactCommandPossible': WHATEVER THE INPUT: true; the input reads as it did. -/
def fnExactCommandPossibleSpec : ChangeSpec := { name := "fnExactCommandPossible", fn := fun _ => fun
  | [d1, d2] => { results := [.lit (.bool true)], args := [d1, d2] }
  | _ => none }
def fnExactCommandPossibleRow : OpenClaim := { program := "ytdkdfeogalhmlaa", sum := "8006bdc942ef3ac216d2a413695a0d0001513b6e0fb6650e2482694577cb006b", func := "loop.example/memorymanagers/laws.FnExactCommandPossible", spec := "fnExactCommandPossible", unfollowed := true, recurses := true, apart := false }
def FnExactCommandPossibleSaid : Prop := fnExactCommandPossibleRow.holds Try.pinned (OpenSpec.ofChange fnExactCommandPossibleSpec)

/-- ITS FALSE NEIGHBOUR: 'it returns false'. Refute it at one input. -/
def fnExactCommandPossibleWrong : ChangeSpec := { name := "fnExactCommandPossible", fn := fun _ => fun
  | [d1, d2] => { results := [.lit (.bool false)], args := [d1, d2] }
  | _ => none }
def FnExactCommandPossibleWrongFalsely : Prop := fnExactCommandPossibleRow.holds Try.pinned (OpenSpec.ofChange fnExactCommandPossibleWrong)

/-- 'laws.FnExactStepHeap': WHATEVER THE INPUT: true; the input reads as it did. -/
def fnExactStepHeapSpec : ChangeSpec := { name := "fnExactStepHeap", fn := fun _ => fun
  | [d1, d2] => { results := [.lit (.bool true)], args := [d1, d2] }
  | _ => none }
def fnExactStepHeapRow : OpenClaim := { program := "ytdkdfeogalhmlaa", sum := "8006bdc942ef3ac216d2a413695a0d0001513b6e0fb6650e2482694577cb006b", func := "loop.example/memorymanagers/laws.FnExactStepHeap", spec := "fnExactStepHeap", unfollowed := true, recurses := true, apart := false }
def FnExactStepHeapSaid : Prop := fnExactStepHeapRow.holds Try.pinned (OpenSpec.ofChange fnExactStepHeapSpec)

/-- ITS FALSE NEIGHBOUR: 'it returns false'. Refute it at one input. -/
def fnExactStepHeapWrong : ChangeSpec := { name := "fnExactStepHeap", fn := fun _ => fun
  | [d1, d2] => { results := [.lit (.bool false)], args := [d1, d2] }
  | _ => none }
def FnExactStepHeapWrongFalsely : Prop := fnExactStepHeapRow.holds Try.pinned (OpenSpec.ofChange fnExactStepHeapWrong)

/-- 'laws.FnExactRunHeap': WHATEVER THE INPUT: true; the input reads as it did. -/
def fnExactRunHeapSpec : ChangeSpec := { name := "fnExactRunHeap", fn := fun _ => fun
  | [d] => { results := [.lit (.bool true)], args := [d] }
  | _ => none }
def fnExactRunHeapRow : OpenClaim := { program := "ytdkdfeogalhmlaa", sum := "8006bdc942ef3ac216d2a413695a0d0001513b6e0fb6650e2482694577cb006b", func := "loop.example/memorymanagers/laws.FnExactRunHeap", spec := "fnExactRunHeap", unfollowed := true, recurses := true, apart := false }
def FnExactRunHeapSaid : Prop := fnExactRunHeapRow.holds Try.pinned (OpenSpec.ofChange fnExactRunHeapSpec)

/-- ITS FALSE NEIGHBOUR: 'it returns false'. Refute it at one input. -/
def fnExactRunHeapWrong : ChangeSpec := { name := "fnExactRunHeap", fn := fun _ => fun
  | [d] => { results := [.lit (.bool false)], args := [d] }
  | _ => none }
def FnExactRunHeapWrongFalsely : Prop := fnExactRunHeapRow.holds Try.pinned (OpenSpec.ofChange fnExactRunHeapWrong)

/- THE SECOND FORM. 'bulk': how many values and letters a reading holds, each counted each time it is reached (what is shared counts as often as it is met; a slice's spare places count too). A statement '..UptoSaid' is the law's where the arguments, and the package variables that the reading takes, are together of bulk at most 1048576: NARROWER than '..Said'. Prove '..Said' where nothing that the law and all that it calls make is longer than what came in: it says more and counts as full. Else prove '..UptoSaid'. A law counts once. -/
mutual
def uptoBulk {H : Type} : DataW H → Nat
  | .lit (.string bytes) => bytes.length + 1
  | .lit _ => 1
  | .nil => 1
  | .ptr d => uptoBulk d + 1
  | .slice elems spare => uptoBulkAll elems + uptoBulkAll spare + 1
  | .agg parts => uptoBulkAll parts + 1
  | .iface _ d => uptoBulk d + 1
  | .map entries => uptoBulkEntries entries + 1
  | .held _ => 1
def uptoBulkAll {H : Type} : List (DataW H) → Nat
  | [] => 0
  | d :: r => uptoBulk d + uptoBulkAll r
def uptoBulkEntries {H : Type} : List (Lit × DataW H) → Nat
  | [] => 0
  | x :: r => uptoBulkEntry x + uptoBulkEntries r
def uptoBulkEntry {H : Type} : Lit × DataW H → Nat
  | (.string bytes, d) => bytes.length + uptoBulk d + 1
  | (_, d) => uptoBulk d + 1
 end
def uptoSmall : (H : Type) → List (DataW H) → Bool := fun _ ds => decide (uptoBulkAll ds ≤ 1048576)
def OpenSpec.upto (s : _root_.Go.ChangeSpec) : _root_.Go.OpenSpec := { _root_.Go.OpenSpec.ofChange s with cond := some uptoSmall }

/-- 'laws.FnCommandValid', WHERE WHAT IT READS IS OF BULK AT MOST 1048576: true; the input reads as it did. -/
def fnCommandValidUptoRow : OpenClaim := { program := "ytdkdfeogalhmlaa", sum := "8006bdc942ef3ac216d2a413695a0d0001513b6e0fb6650e2482694577cb006b", func := "loop.example/memorymanagers/laws.FnCommandValid", spec := "fnCommandValid", apart := false, narrowed := true }
def FnCommandValidUptoSaid : Prop := fnCommandValidUptoRow.holds Try.pinned (OpenSpec.upto fnCommandValidSpec)

/-- 'laws.FnCommandsValid', WHERE WHAT IT READS IS OF BULK AT MOST 1048576: true; the input reads as it did. -/
def fnCommandsValidUptoRow : OpenClaim := { program := "ytdkdfeogalhmlaa", sum := "8006bdc942ef3ac216d2a413695a0d0001513b6e0fb6650e2482694577cb006b", func := "loop.example/memorymanagers/laws.FnCommandsValid", spec := "fnCommandsValid", apart := false, narrowed := true }
def FnCommandsValidUptoSaid : Prop := fnCommandsValidUptoRow.holds Try.pinned (OpenSpec.upto fnCommandsValidSpec)

/-- 'laws.FnCommandPossible', WHERE WHAT IT READS IS OF BULK AT MOST 1048576: true; the input reads as it did. -/
def fnCommandPossibleUptoRow : OpenClaim := { program := "ytdkdfeogalhmlaa", sum := "8006bdc942ef3ac216d2a413695a0d0001513b6e0fb6650e2482694577cb006b", func := "loop.example/memorymanagers/laws.FnCommandPossible", spec := "fnCommandPossible", unfollowed := true, recurses := true, apart := false, narrowed := true }
def FnCommandPossibleUptoSaid : Prop := fnCommandPossibleUptoRow.holds Try.pinned (OpenSpec.upto fnCommandPossibleSpec)

/-- 'laws.FnStepHeap', WHERE WHAT IT READS IS OF BULK AT MOST 1048576: true; the input reads as it did. -/
def fnStepHeapUptoRow : OpenClaim := { program := "ytdkdfeogalhmlaa", sum := "8006bdc942ef3ac216d2a413695a0d0001513b6e0fb6650e2482694577cb006b", func := "loop.example/memorymanagers/laws.FnStepHeap", spec := "fnStepHeap", unfollowed := true, recurses := true, apart := false, narrowed := true }
def FnStepHeapUptoSaid : Prop := fnStepHeapUptoRow.holds Try.pinned (OpenSpec.upto fnStepHeapSpec)

/-- 'laws.FnRunHeap', WHERE WHAT IT READS IS OF BULK AT MOST 1048576: true; the input reads as it did. -/
def fnRunHeapUptoRow : OpenClaim := { program := "ytdkdfeogalhmlaa", sum := "8006bdc942ef3ac216d2a413695a0d0001513b6e0fb6650e2482694577cb006b", func := "loop.example/memorymanagers/laws.FnRunHeap", spec := "fnRunHeap", unfollowed := true, recurses := true, apart := false, narrowed := true }
def FnRunHeapUptoSaid : Prop := fnRunHeapUptoRow.holds Try.pinned (OpenSpec.upto fnRunHeapSpec)

/-- 'laws.FnNewLives', WHERE WHAT IT READS IS OF BULK AT MOST 1048576: true; the input reads as it did. -/
def fnNewLivesUptoRow : OpenClaim := { program := "ytdkdfeogalhmlaa", sum := "8006bdc942ef3ac216d2a413695a0d0001513b6e0fb6650e2482694577cb006b", func := "loop.example/memorymanagers/laws.FnNewLives", spec := "fnNewLives", unfollowed := true, recurses := true, apart := false, narrowed := true }
def FnNewLivesUptoSaid : Prop := fnNewLivesUptoRow.holds Try.pinned (OpenSpec.upto fnNewLivesSpec)

/-- 'laws.FnDropLess', WHERE WHAT IT READS IS OF BULK AT MOST 1048576: true; the input reads as it did. -/
def fnDropLessUptoRow : OpenClaim := { program := "ytdkdfeogalhmlaa", sum := "8006bdc942ef3ac216d2a413695a0d0001513b6e0fb6650e2482694577cb006b", func := "loop.example/memorymanagers/laws.FnDropLess", spec := "fnDropLess", unfollowed := true, recurses := true, apart := false, narrowed := true }
def FnDropLessUptoSaid : Prop := fnDropLessUptoRow.holds Try.pinned (OpenSpec.upto fnDropLessSpec)

/-- 'laws.FnExactCommandValid', WHERE WHAT IT READS IS OF BULK AT MOST 1048576: true; the input reads as it did. -/
def fnExactCommandValidUptoRow : OpenClaim := { program := "ytdkdfeogalhmlaa", sum := "8006bdc942ef3ac216d2a413695a0d0001513b6e0fb6650e2482694577cb006b", func := "loop.example/memorymanagers/laws.FnExactCommandValid", spec := "fnExactCommandValid", apart := false, narrowed := true }
def FnExactCommandValidUptoSaid : Prop := fnExactCommandValidUptoRow.holds Try.pinned (OpenSpec.upto fnExactCommandValidSpec)

/-- 'laws.FnExactCommandsValid', WHERE WHAT IT READS IS OF BULK AT MOST 1048576: true; the input reads as it did. -/
def fnExactCommandsValidUptoRow : OpenClaim := { program := "ytdkdfeogalhmlaa", sum := "8006bdc942ef3ac216d2a413695a0d0001513b6e0fb6650e2482694577cb006b", func := "loop.example/memorymanagers/laws.FnExactCommandsValid", spec := "fnExactCommandsValid", apart := false, narrowed := true }
def FnExactCommandsValidUptoSaid : Prop := fnExactCommandsValidUptoRow.holds Try.pinned (OpenSpec.upto fnExactCommandsValidSpec)

/-- 'laws.FnExactCommandPossible', WHERE WHAT IT READS IS OF BULK AT MOST 1048576: true; the input reads as it did. -/
def fnExactCommandPossibleUptoRow : OpenClaim := { program := "ytdkdfeogalhmlaa", sum := "8006bdc942ef3ac216d2a413695a0d0001513b6e0fb6650e2482694577cb006b", func := "loop.example/memorymanagers/laws.FnExactCommandPossible", spec := "fnExactCommandPossible", unfollowed := true, recurses := true, apart := false, narrowed := true }
def FnExactCommandPossibleUptoSaid : Prop := fnExactCommandPossibleUptoRow.holds Try.pinned (OpenSpec.upto fnExactCommandPossibleSpec)

/-- 'laws.FnExactStepHeap', WHERE WHAT IT READS IS OF BULK AT MOST 1048576: true; the input reads as it did. -/
def fnExactStepHeapUptoRow : OpenClaim := { program := "ytdkdfeogalhmlaa", sum := "8006bdc942ef3ac216d2a413695a0d0001513b6e0fb6650e2482694577cb006b", func := "loop.example/memorymanagers/laws.FnExactStepHeap", spec := "fnExactStepHeap", unfollowed := true, recurses := true, apart := false, narrowed := true }
def FnExactStepHeapUptoSaid : Prop := fnExactStepHeapUptoRow.holds Try.pinned (OpenSpec.upto fnExactStepHeapSpec)

/-- 'laws.FnExactRunHeap', WHERE WHAT IT READS IS OF BULK AT MOST 1048576: true; the input reads as it did. -/
def fnExactRunHeapUptoRow : OpenClaim := { program := "ytdkdfeogalhmlaa", sum := "8006bdc942ef3ac216d2a413695a0d0001513b6e0fb6650e2482694577cb006b", func := "loop.example/memorymanagers/laws.FnExactRunHeap", spec := "fnExactRunHeap", unfollowed := true, recurses := true, apart := false, narrowed := true }
def FnExactRunHeapUptoSaid : Prop := fnExactRunHeapUptoRow.holds Try.pinned (OpenSpec.upto fnExactRunHeapSpec)

end Rows
end Go.Proofs.Ytdkdfeogalhmlaa
