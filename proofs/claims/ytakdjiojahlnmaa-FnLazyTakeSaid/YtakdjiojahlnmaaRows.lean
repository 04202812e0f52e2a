/-
  No cell of these rows narrows 'for every input' (looked for: loops, veiled, ifaces, maps, wideKeys, modest, calm, conditions, laid).
  DERIVED. THE GIVEN ROWS OF THIS SEAT. 7 by the template 'for every input the law returns true; each argument reads behind the call as it read before'; 0 by the template 'total and deterministic' (their statements: YtakdjiojahlnmaaTotals.lean).
  GIVEN WITH THE SEED: the statements are not yours to turn. If you find one false, say at which input.
  Laid BY PROGRAM, IN A SANDBOX (cutbox-rows.mjs): the forced cells as the released guide's own fill.sh prints them over the translation 37fd7e8b257b1b49… (all of the seat's roots in one cut). By AI agents, Wed Nov 11 2026. No macro, syntax, notation, axiom, sorry.
-/
import Derived.Test.YtakdjiojahlnmaaChecked
import GoSem.Claim
import GoSem.ClaimJoined
import GoSem.ClaimMapViews
import Derived.JoinedTies
import Derived.KernelRfl
namespace Go.Proofs.Ytakdjiojahlnmaa
/- THE CELL 'sum', in the pinned program and in every row, IS THE sha256 OF THE DUMP (.gsa) THAT YtakdjiojahlnmaaProg.lean LOADS. Nothing in Lean hashes anything: it is a label: what it is worth is what the hold of that sum in a sandbox is worth. -/
noncomputable def Try.pinned : Pinned := { name := "ytakdjiojahlnmaa", sum := "37fd7e8b257b1b4948b02fa6a11bd84e3c96a43c127f9a27317d9ba71a094b40", checked := Try.checked }
namespace Rows
def none {H : Type} : Left H := { results := [], args := [] }

/-- 'laws.FnLazyStart': WHATEVER THE INPUT: true; the input reads as it did. -/
def fnLazyStartSpec : ChangeSpec := { name := "fnLazyStart", fn := fun _ => fun
  | [d] => { results := [.lit (.bool true)], args := [d] }
  | _ => none }
def fnLazyStartRow : OpenClaim := { program := "ytakdjiojahlnmaa", sum := "37fd7e8b257b1b4948b02fa6a11bd84e3c96a43c127f9a27317d9ba71a094b40", func := "loop.example/memorymanagers/laws.FnLazyStart", spec := "fnLazyStart", apart := false }
def FnLazyStartSaid : Prop := fnLazyStartRow.holds Try.pinned (OpenSpec.ofChange fnLazyStartSpec)

/-- ITS FALSE NEIGHBOUR: 'it returns false'. Refute it at one input. -/
def fnLazyStartWrong : ChangeSpec := { name := "fnLazyStart", fn := fun _ => fun
  | [d] => { results := [.lit (.bool false)], args := [d] }
  | _ => none }
def FnLazyStartWrongFalsely : Prop := fnLazyStartRow.holds Try.pinned (OpenSpec.ofChange fnLazyStartWrong)

/-- 'laws.FnLazyValid': WHATEVER THE INPUT: true; the input reads as it did. -/
def fnLazyValidSpec : ChangeSpec := { name := "fnLazyValid", fn := fun _ => fun
  | [d] => { results := [.lit (.bool true)], args := [d] }
  | _ => none }
def fnLazyValidRow : OpenClaim := { program := "ytakdjiojahlnmaa", sum := "37fd7e8b257b1b4948b02fa6a11bd84e3c96a43c127f9a27317d9ba71a094b40", func := "loop.example/memorymanagers/laws.FnLazyValid", spec := "fnLazyValid", apart := false }
def FnLazyValidSaid : Prop := fnLazyValidRow.holds Try.pinned (OpenSpec.ofChange fnLazyValidSpec)

/-- ITS FALSE NEIGHBOUR: 'it returns false'. Refute it at one input. -/
def fnLazyValidWrong : ChangeSpec := { name := "fnLazyValid", fn := fun _ => fun
  | [d] => { results := [.lit (.bool false)], args := [d] }
  | _ => none }
def FnLazyValidWrongFalsely : Prop := fnLazyValidRow.holds Try.pinned (OpenSpec.ofChange fnLazyValidWrong)

/-- 'laws.FnLazyTake': WHATEVER THE INPUT: true; the input reads as it did. -/
def fnLazyTakeSpec : ChangeSpec := { name := "fnLazyTake", fn := fun _ => fun
  | [d] => { results := [.lit (.bool true)], args := [d] }
  | _ => none }
def fnLazyTakeRow : OpenClaim := { program := "ytakdjiojahlnmaa", sum := "37fd7e8b257b1b4948b02fa6a11bd84e3c96a43c127f9a27317d9ba71a094b40", func := "loop.example/memorymanagers/laws.FnLazyTake", spec := "fnLazyTake", apart := false }
def FnLazyTakeSaid : Prop := fnLazyTakeRow.holds Try.pinned (OpenSpec.ofChange fnLazyTakeSpec)

/-- ITS FALSE NEIGHBOUR: 'it returns false'. Refute it at one input. -/
def fnLazyTakeWrong : ChangeSpec := { name := "fnLazyTake", fn := fun _ => fun
  | [d] => { results := [.lit (.bool false)], args := [d] }
  | _ => none }
def FnLazyTakeWrongFalsely : Prop := fnLazyTakeRow.holds Try.pinned (OpenSpec.ofChange fnLazyTakeWrong)

/-- 'laws.FnLazyAll': WHATEVER THE INPUT: true; the input reads as it did. -/
def fnLazyAllSpec : ChangeSpec := { name := "fnLazyAll", fn := fun _ => fun
  | [d] => { results := [.lit (.bool true)], args := [d] }
  | _ => none }
def fnLazyAllRow : OpenClaim := { program := "ytakdjiojahlnmaa", sum := "37fd7e8b257b1b4948b02fa6a11bd84e3c96a43c127f9a27317d9ba71a094b40", func := "loop.example/memorymanagers/laws.FnLazyAll", spec := "fnLazyAll", apart := false }
def FnLazyAllSaid : Prop := fnLazyAllRow.holds Try.pinned (OpenSpec.ofChange fnLazyAllSpec)

/-- ITS FALSE NEIGHBOUR: 'it returns false'. Refute it at one input. -/
def fnLazyAllWrong : ChangeSpec := { name := "fnLazyAll", fn := fun _ => fun
  | [d] => { results := [.lit (.bool false)], args := [d] }
  | _ => none }
def FnLazyAllWrongFalsely : Prop := fnLazyAllRow.holds Try.pinned (OpenSpec.ofChange fnLazyAllWrong)

/-- 'laws.FnExactLazyStart': WHATEVER THE INPUT: true; the input reads as it did. -/
def fnExactLazyStartSpec : ChangeSpec := { name := "fnExactLazyStart", fn := fun _ => fun
  | [d] => { results := [.lit (.bool true)], args := [d] }
  | _ => none }
def fnExactLazyStartRow : OpenClaim := { program := "ytakdjiojahlnmaa", sum := "37fd7e8b257b1b4948b02fa6a11bd84e3c96a43c127f9a27317d9ba71a094b40", func := "loop.example/memorymanagers/laws.FnExactLazyStart", spec := "fnExactLazyStart", apart := false }
def FnExactLazyStartSaid : Prop := fnExactLazyStartRow.holds Try.pinned (OpenSpec.ofChange fnExactLazyStartSpec)

/-- ITS FALSE NEIGHBOUR: 'it returns false'. Refute it at one input. -/
def fnExactLazyStartWrong : ChangeSpec := { name := "fnExactLazyStart", fn := fun _ => fun
  | [d] => { results := [.lit (.bool false)], args := [d] }
  | _ => none }
def FnExactLazyStartWrongFalsely : Prop := fnExactLazyStartRow.holds Try.pinned (OpenSpec.ofChange fnExactLazyStartWrong)

/-- 'laws.FnExactLazyValid': WHATEVER THE INPUT: true; the input reads as it did. -/
def fnExactLazyValidSpec : ChangeSpec := { name := "fnExactLazyValid", fn := fun _ => fun
  | [d] => { results := [.lit (.bool true)], args := [d] }
  | _ => none }
def fnExactLazyValidRow : OpenClaim := { program := "ytakdjiojahlnmaa", sum := "37fd7e8b257b1b4948b02fa6a11bd84e3c96a43c127f9a27317d9ba71a094b40", func := "loop.example/memorymanagers/laws.FnExactLazyValid", spec := "fnExactLazyValid", apart := false }
def FnExactLazyValidSaid : Prop := fnExactLazyValidRow.holds Try.pinned (OpenSpec.ofChange fnExactLazyValidSpec)

/-- ITS FALSE NEIGHBOUR: 'it returns false'. Refute it at one input. -/
def fnExactLazyValidWrong : ChangeSpec := { name := "fnExactLazyValid", fn := fun _ => fun
  | [d] => { results := [.lit (.bool false)], args := [d] }
  | _ => none }
def FnExactLazyValidWrongFalsely : Prop := fnExactLazyValidRow.holds Try.pinned (OpenSpec.ofChange fnExactLazyValidWrong)

/-- 'laws.FnExactLazyTake': WHATEVER THE INPUT: true; the input reads as it did. -/
def fnExactLazyTakeSpec : ChangeSpec := { name := "fnExactLazyTake", fn := fun _ => fun
  | [d] => { results := [.lit (.bool true)], args := [d] }
  | _ => none }
def fnExactLazyTakeRow : OpenClaim := { program := "ytakdjiojahlnmaa", sum := "37fd7e8b257b1b4948b02fa6a11bd84e3c96a43c127f9a27317d9ba71a094b40", func := "loop.example/memorymanagers/laws.FnExactLazyTake", spec := "fnExactLazyTake", apart := false }
def FnExactLazyTakeSaid : Prop := fnExactLazyTakeRow.holds Try.pinned (OpenSpec.ofChange fnExactLazyTakeSpec)

/-- ITS FALSE NEIGHBOUR: 'it returns false'. Refute it at one input. -/
def fnExactLazyTakeWrong : ChangeSpec := { name := "fnExactLazyTake", fn := fun _ => fun
  | [d] => { results := [.lit (.bool false)], args := [d] }
  | _ => none }
def FnExactLazyTakeWrongFalsely : Prop := fnExactLazyTakeRow.holds Try.pinned (OpenSpec.ofChange fnExactLazyTakeWrong)

/- THE SECOND FORM. 'bulk': how many values and letters a reading holds, each counted each time it is reached (what is shared counts as often as it is met; a slice's spare places count too). A statement '..UptoSaid' is the law's where the arguments, and the package variables that the reading takes, are together of bulk at most 1048576: NARROWER than '..Said'. Prove '..Said' where nothing that the law and all that it calls make is longer than what came in: it says more and counts as full. Else prove '..UptoSaid'. A law counts once. -/
mutual
def uptoBulk {H : Type} : DataW H → Nat
  | .lit (.string bytes) => bytes.length + 1
  | .lit _ => 1
  | .nil => 1
  | .ptr d => uptoBulk d + 1
  | .slice elems spare => uptoBulkAll elems + uptoBulkAll spare + 1
  | .agg parts => uptoBulkAll parts + 1
  | .iface _ d => uptoBulk d + 1
  | .map entries => uptoBulkEntries entries + 1
  | .held _ => 1
def uptoBulkAll {H : Type} : List (DataW H) → Nat
  | [] => 0
  | d :: r => uptoBulk d + uptoBulkAll r
def uptoBulkEntries {H : Type} : List (Lit × DataW H) → Nat
  | [] => 0
  | x :: r => uptoBulkEntry x + uptoBulkEntries r
def uptoBulkEntry {H : Type} : Lit × DataW H → Nat
  | (.string bytes, d) => bytes.length + uptoBulk d + 1
  | (_, d) => uptoBulk d + 1
 end
def uptoSmall : (H : Type) → List (DataW H) → Bool := fun _ ds => decide (uptoBulkAll ds ≤ 1048576)
def OpenSpec.upto (s : _root_.Go.ChangeSpec) : _root_.Go.OpenSpec := { _root_.Go.OpenSpec.ofChange s with cond := some uptoSmall }

/-- 'laws.FnLazyStart', WHERE WHAT IT READS IS OF BULK AT MOST 1048576: true; the input reads as it did. -/
def fnLazyStartUptoRow : OpenClaim := { program := "ytakdjiojahlnmaa", sum := "37fd7e8b257b1b4948b02fa6a11bd84e3c96a43c127f9a27317d9ba71a094b40", func := "loop.example/memorymanagers/laws.FnLazyStart", spec := "fnLazyStart", apart := false, narrowed := true }
def FnLazyStartUptoSaid : Prop := fnLazyStartUptoRow.holds Try.pinned (OpenSpec.upto fnLazyStartSpec)

/-- 'laws.FnLazyValid', WHERE WHAT IT READS IS OF BULK AT MOST 1048576: true; the input reads as it did. -/
def fnLazyValidUptoRow : OpenClaim := { program := "ytakdjiojahlnmaa", sum := "37fd7e8b257b1b4948b02fa6a11bd84e3c96a43c127f9a27317d9ba71a094b40", func := "loop.example/memorymanagers/laws.FnLazyValid", spec := "fnLazyValid", apart := false, narrowed := true }
def FnLazyValidUptoSaid : Prop := fnLazyValidUptoRow.holds Try.pinned (OpenSpec.upto fnLazyValidSpec)

/-- 'laws.FnLazyTake', WHERE WHAT IT READS IS OF BULK AT MOST 1048576: true; the input reads as it did. -/
def fnLazyTakeUptoRow : OpenClaim := { program := "ytakdjiojahlnmaa", sum := "37fd7e8b257b1b4948b02fa6a11bd84e3c96a43c127f9a27317d9ba71a094b40", func := "loop.example/memorymanagers/laws.FnLazyTake", spec := "fnLazyTake", apart := false, narrowed := true }
def FnLazyTakeUptoSaid : Prop := fnLazyTakeUptoRow.holds Try.pinned (OpenSpec.upto fnLazyTakeSpec)

/-- 'laws.FnLazyAll', WHERE WHAT IT READS IS OF BULK AT MOST 1048576: true; the input reads as it did. -/
def fnLazyAllUptoRow : OpenClaim := { program := "ytakdjiojahlnmaa", sum := "37fd7e8b257b1b4948b02fa6a11bd84e3c96a43c127f9a27317d9ba71a094b40", func := "loop.example/memorymanagers/laws.FnLazyAll", spec := "fnLazyAll", apart := false, narrowed := true }
def FnLazyAllUptoSaid : Prop := fnLazyAllUptoRow.holds Try.pinned (OpenSpec.upto fnLazyAllSpec)

/-- 'laws.FnExactLazyStart', WHERE WHAT IT READS IS OF BULK AT MOST 1048576: true; the input reads as it did. -/
def fnExactLazyStartUptoRow : OpenClaim := { program := "ytakdjiojahlnmaa", sum := "37fd7e8b257b1b4948b02fa6a11bd84e3c96a43c127f9a27317d9ba71a094b40", func := "loop.example/memorymanagers/laws.FnExactLazyStart", spec := "fnExactLazyStart", apart := false, narrowed := true }
def FnExactLazyStartUptoSaid : Prop := fnExactLazyStartUptoRow.holds Try.pinned (OpenSpec.upto fnExactLazyStartSpec)

/-- 'laws.FnExactLazyValid', WHERE WHAT IT READS IS OF BULK AT MOST 1048576: true; the input reads as it did. -/
def fnExactLazyValidUptoRow : OpenClaim := { program := "ytakdjiojahlnmaa", sum := "37fd7e8b257b1b4948b02fa6a11bd84e3c96a43c127f9a27317d9ba71a094b40", func := "loop.example/memorymanagers/laws.FnExactLazyValid", spec := "fnExactLazyValid", apart := false, narrowed := true }
def FnExactLazyValidUptoSaid : Prop := fnExactLazyValidUptoRow.holds Try.pinned (OpenSpec.upto fnExactLazyValidSpec)

/-- 'laws.FnExactLazyTake', WHERE WHAT IT READS IS OF BULK AT MOST 1048576: true; the input reads as it did. -/
def fnExactLazyTakeUptoRow : OpenClaim := { program := "ytakdjiojahlnmaa", sum := "37fd7e8b257b1b4948b02fa6a11bd84e3c96a43c127f9a27317d9ba71a094b40", func := "loop.example/memorymanagers/laws.FnExactLazyTake", spec := "fnExactLazyTake", apart := false, narrowed := true }
def FnExactLazyTakeUptoSaid : Prop := fnExactLazyTakeUptoRow.holds Try.pinned (OpenSpec.upto fnExactLazyTakeSpec)

end Rows
end Go.Proofs.Ytakdjiojahlnmaa
