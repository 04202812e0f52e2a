/-
  No cell of these rows narrows 'for every input' (looked for: loops, veiled, ifaces, maps, wideKeys, modest, calm, conditions, laid).
  DERIVED. THE GIVEN ROWS OF THIS SEAT. 5 by the template 'for every input the law returns true; each argument reads behind the call as it read before'; 0 by the template 'total and deterministic' (their statements: YtnhgibbcggegmaaTotals.lean).
  GIVEN WITH THE SEED: the statements are not yours to turn. If you find one false, say at which input.
  Laid BY PROGRAM, IN A SANDBOX (cutbox-rows.mjs): the forced cells as the released guide's own fill.sh prints them over the translation 171beb43a94eeef3… (all of the seat's roots in one cut). By AI agents, Wed Nov 11 2026. No macro, syntax, notation, axiom, sorry.
-/
import Derived.Test.YtnhgibbcggegmaaChecked
import GoSem.Claim
import GoSem.ClaimJoined
import GoSem.ClaimMapViews
import Derived.JoinedTies
import Derived.KernelRfl
namespace Go.Proofs.Ytnhgibbcggegmaa
/- THE CELL 'sum', in the pinned program and in every row, IS THE sha256 OF THE DUMP (.gsa) THAT YtnhgibbcggegmaaProg.lean LOADS. Nothing in Lean hashes anything: it is a label: what it is worth is what the hold of that sum in a sandbox is worth. -/
noncomputable def Try.pinned : Pinned := { name := "ytnhgibbcggegmaa", sum := "171beb43a94eeef34569295099ab39af20a90d52ca2bf669027040e7008b15b9", checked := Try.checked }
namespace Rows
def none {H : Type} : Left H := { results := [], args := [] }

/-- 'laws.FnCommandPossible': WHATEVER THE INPUT: true; the input reads as it did. -/
def fnCommandPossibleSpec : ChangeSpec := { name := "fnCommandPossible", fn := fun _ => fun
  | [d] => { results := [.lit (.bool true)], args := [d] }
  | _ => none }
def fnCommandPossibleRow : OpenClaim := { program := "ytnhgibbcggegmaa", sum := "171beb43a94eeef34569295099ab39af20a90d52ca2bf669027040e7008b15b9", func := "loop.example/memorymanagers/laws.FnCommandPossible", spec := "fnCommandPossible", unfollowed := true, recurses := true, apart := false }
def FnCommandPossibleSaid : Prop := fnCommandPossibleRow.holds Try.pinned (OpenSpec.ofChange fnCommandPossibleSpec)

/-- ITS FALSE NEIGHBOUR: 'it returns false'. Refute it at one input. -/
def fnCommandPossibleWrong : ChangeSpec := { name := "fnCommandPossible", fn := fun _ => fun
  | [d] => { results := [.lit (.bool false)], args := [d] }
  | _ => none }
def FnCommandPossibleWrongFalsely : Prop := fnCommandPossibleRow.holds Try.pinned (OpenSpec.ofChange fnCommandPossibleWrong)

/-- 'laws.FnStepHeap': WHATEVER THE INPUT: true; the input reads as it did. -/
def fnStepHeapSpec : ChangeSpec := { name := "fnStepHeap", fn := fun _ => fun
  | [d] => { results := [.lit (.bool true)], args := [d] }
  | _ => none }
def fnStepHeapRow : OpenClaim := { program := "ytnhgibbcggegmaa", sum := "171beb43a94eeef34569295099ab39af20a90d52ca2bf669027040e7008b15b9", func := "loop.example/memorymanagers/laws.FnStepHeap", spec := "fnStepHeap", unfollowed := true, recurses := true, apart := false }
def FnStepHeapSaid : Prop := fnStepHeapRow.holds Try.pinned (OpenSpec.ofChange fnStepHeapSpec)

/-- ITS FALSE NEIGHBOUR: 'it returns false'. Refute it at one input. -/
def fnStepHeapWrong : ChangeSpec := { name := "fnStepHeap", fn := fun _ => fun
  | [d] => { results := [.lit (.bool false)], args := [d] }
  | _ => none }
def FnStepHeapWrongFalsely : Prop := fnStepHeapRow.holds Try.pinned (OpenSpec.ofChange fnStepHeapWrong)

/-- 'laws.FnMetOrder': WHATEVER THE INPUT: true; the input reads as it did. -/
def fnMetOrderSpec : ChangeSpec := { name := "fnMetOrder", fn := fun _ => fun
  | [d] => { results := [.lit (.bool true)], args := [d] }
  | _ => none }
def fnMetOrderRow : OpenClaim := { program := "ytnhgibbcggegmaa", sum := "171beb43a94eeef34569295099ab39af20a90d52ca2bf669027040e7008b15b9", func := "loop.example/memorymanagers/laws.FnMetOrder", spec := "fnMetOrder", apart := false }
def FnMetOrderSaid : Prop := fnMetOrderRow.holds Try.pinned (OpenSpec.ofChange fnMetOrderSpec)

/-- ITS FALSE NEIGHBOUR: 'it returns false'. Refute it at one input. -/
def fnMetOrderWrong : ChangeSpec := { name := "fnMetOrder", fn := fun _ => fun
  | [d] => { results := [.lit (.bool false)], args := [d] }
  | _ => none }
def FnMetOrderWrongFalsely : Prop := fnMetOrderRow.holds Try.pinned (OpenSpec.ofChange fnMetOrderWrong)

/-- 'laws.FnExactCommandPossible': WHATEVER THE INPUT: true; the input reads as it did. -/
def fnExactCommandPossibleSpec : ChangeSpec := { name := "fnExactCommandPossible", fn := fun _ => fun
  | [d1, d2] => { results := [.lit (.bool true)], args := [d1, d2] }
  | _ => none }
def fnExactCommandPossibleRow : OpenClaim := { program := "ytnhgibbcggegmaa", sum := "171beb43a94eeef34569295099ab39af20a90d52ca2bf669027040e7008b15b9", func := "loop.example/memorymanagers/laws.FnExactCommandPossible", spec := "fnExactCommandPossible", unfollowed := true, recurses := true, apart := false }
def FnExactCommandPossibleSaid : Prop := fnExactCommandPossibleRow.holds Try.pinned (OpenSpec.ofChange fnExactCommandPossibleSpec)

/-- ITS FALSE NEIGHBOUR: 'it returns false'. Refute it at one input. -/
def fnExactCommandPossibleWrong : ChangeSpec := { name := "fnExactCommandPossible", fn := fun _ => fun
  | [d1, d2] => { results := [.lit (.bool false)], args := [d1, d2] }
  | _ => none }
def FnExactCommandPossibleWrongFalsely : Prop := fnExactCommandPossibleRow.holds Try.pinned (OpenSpec.ofChange fnExactCommandPossibleWrong)

/-- 'laws.FnExactStepHeap': WHATEVER THE INPUT: true; the input reads as it did. -/
def fnExactStepHeapSpec : ChangeSpec := { name := "fnExactStepHeap", fn := fun _ => fun
  | [d1, d2] => { results := [.lit (.bool true)], args := [d1, d2] }
  | _ => none }
def fnExactStepHeapRow : OpenClaim := { program := "ytnhgibbcggegmaa", sum := "171beb43a94eeef34569295099ab39af20a90d52ca2bf669027040e7008b15b9", func := "loop.example/memorymanagers/laws.FnExactStepHeap", spec := "fnExactStepHeap", unfollowed := true, recurses := true, apart := false }
def FnExactStepHeapSaid : Prop := fnExactStepHeapRow.holds Try.pinned (OpenSpec.ofChange fnExactStepHeapSpec)

/-- ITS FALSE NEIGHBOUR: 'it returns false'. Refute it at one input. -/
def fnExactStepHeapWrong : ChangeSpec := { name := "fnExactStepHeap", fn := fun _ => fun
  | [d1, d2] => { results := [.lit (.bool false)], args := [d1, d2] }
  | _ => none }
def FnExactStepHeapWrongFalsely : Prop := fnExactStepHeapRow.holds Try.pinned (OpenSpec.ofChange fnExactStepHeapWrong)

/- THE SECOND FORM. 'bulk': how many values and letters a reading holds, each counted each time it is reached (what is shared counts as often as it is met; a slice's spare places count too). A statement '..UptoSaid' is the law's where the arguments, and the package variables that the reading takes, are together of bulk at most 1048576: NARROWER than '..Said'. Prove '..Said' where nothing that the law and all that it calls make is longer than what came in: it says more and counts as full. Else prove '..UptoSaid'. A law counts once. -/
mutual
def uptoBulk {H : Type} : DataW H → Nat
  | .lit (.string bytes) => bytes.length + 1
  | .lit _ => 1
  | .nil => 1
  | .ptr d => uptoBulk d + 1
  | .slice elems spare => uptoBulkAll elems + uptoBulkAll spare + 1
  | .agg parts => uptoBulkAll parts + 1
  | .iface _ d => uptoBulk d + 1
  | .map entries => uptoBulkEntries entries + 1
  | .held _ => 1
def uptoBulkAll {H : Type} : List (DataW H) → Nat
  | [] => 0
  | d :: r => uptoBulk d + uptoBulkAll r
def uptoBulkEntries {H : Type} : List (Lit × DataW H) → Nat
  | [] => 0
  | x :: r => uptoBulkEntry x + uptoBulkEntries r
def uptoBulkEntry {H : Type} : Lit × DataW H → Nat
  | (.string bytes, d) => bytes.length + uptoBulk d + 1
  | (_, d) => uptoBulk d + 1
 end
def uptoSmall : (H : Type) → List (DataW H) → Bool := fun _ ds => decide (uptoBulkAll ds ≤ 1048576)
def OpenSpec.upto (s : _root_.Go.ChangeSpec) : _root_.Go.OpenSpec := { _root_.Go.OpenSpec.ofChange s with cond := some uptoSmall }

/-- 'laws.FnCommandPossible', WHERE WHAT IT READS IS OF BULK AT MOST 1048576: true; the input reads as it did. -/
def fnCommandPossibleUptoRow : OpenClaim := { program := "ytnhgibbcggegmaa", sum := "171beb43a94eeef34569295099ab39af20a90d52ca2bf669027040e7008b15b9", func := "loop.example/memorymanagers/laws.FnCommandPossible", spec := "fnCommandPossible", unfollowed := true, recurses := true, apart := false, narrowed := true }
def FnCommandPossibleUptoSaid : Prop := fnCommandPossibleUptoRow.holds Try.pinned (OpenSpec.upto fnCommandPossibleSpec)

/-- 'laws.FnStepHeap', WHERE WHAT IT READS IS OF BULK AT MOST 1048576: true; the input reads as it did. -/
def fnStepHeapUptoRow : OpenClaim := { program := "ytnhgibbcggegmaa", sum := "171beb43a94eeef34569295099ab39af20a90d52ca2bf669027040e7008b15b9", func := "loop.example/memorymanagers/laws.FnStepHeap", spec := "fnStepHeap", unfollowed := true, recurses := true, apart := false, narrowed := true }
def FnStepHeapUptoSaid : Prop := fnStepHeapUptoRow.holds Try.pinned (OpenSpec.upto fnStepHeapSpec)

/-- 'laws.FnMetOrder', WHERE WHAT IT READS IS OF BULK AT MOST 1048576: true; the input reads as it did. -/
def fnMetOrderUptoRow : OpenClaim := { program := "ytnhgibbcggegmaa", sum := "171beb43a94eeef34569295099ab39af20a90d52ca2bf669027040e7008b15b9", func := "loop.example/memorymanagers/laws.FnMetOrder", spec := "fnMetOrder", apart := false, narrowed := true }
def FnMetOrderUptoSaid : Prop := fnMetOrderUptoRow.holds Try.pinned (OpenSpec.upto fnMetOrderSpec)

/-- 'laws.FnExactCommandPossible', WHERE WHAT IT READS IS OF BULK AT MOST 1048576: true; the input reads as it did. -/
def fnExactCommandPossibleUptoRow : OpenClaim := { program := "ytnhgibbcggegmaa", sum := "171beb43a94eeef34569295099ab39af20a90d52ca2bf669027040e7008b15b9", func := "loop.example/memorymanagers/laws.FnExactCommandPossible", spec := "fnExactCommandPossible", unfollowed := true, recurses := true, apart := false, narrowed := true }
def FnExactCommandPossibleUptoSaid : Prop := fnExactCommandPossibleUptoRow.holds Try.pinned (OpenSpec.upto fnExactCommandPossibleSpec)

/-- 'laws.FnExactStepHeap', WHERE WHAT IT READS IS OF BULK AT MOST 1048576: true; the input reads as it did. -/
def fnExactStepHeapUptoRow : OpenClaim := { program := "ytnhgibbcggegmaa", sum := "171beb43a94eeef34569295099ab39af20a90d52ca2bf669027040e7008b15b9", func := "loop.example/memorymanagers/laws.FnExactStepHeap", spec := "fnExactStepHeap", unfollowed := true, recurses := true, apart := false, narrowed := true }
def FnExactStepHeapUptoSaid : Prop := fnExactStepHeapUptoRow.holds Try.pinned (OpenSpec.upto fnExactStepHeapSpec)

end Rows
end Go.Proofs.Ytnhgibbcggegmaa
