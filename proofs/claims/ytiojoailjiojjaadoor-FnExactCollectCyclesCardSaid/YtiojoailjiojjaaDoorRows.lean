/-
  NARROWER THAN 'FOR EVERY INPUT', by the rows' own cells (each row's printed sentence says how): FnDeadCycle: laid · FnCollectCycles: laid · FnCountsComplete: laid · FnDeadLeaked: laid · FnExactDeadCycle: laid · FnExactCollectCycles: laid.
  DERIVED. THE GIVEN ROWS OF THIS SEAT. 6 by the template 'for every input the law returns true; each argument reads behind the call as it read before'; 0 by the template 'total and deterministic' (their statements: YtiojoailjiojjaaDoorTotals.lean).
  GIVEN WITH THE SEED: the statements are not yours to turn. If you find one false, say at which input.
  Laid BY PROGRAM, IN A SANDBOX (cutbox-rows.mjs): the forced cells as the released guide's own fill.sh prints them over the translation c5505ca8829d0ae1… (all of the seat's roots in one cut). By AI agents, Wed Nov 11 2026. No macro, syntax, notation, axiom, sorry.
-/
import Derived.Test.YtiojoailjiojjaaDoorChecked
import GoSem.Claim
import GoSem.ClaimJoined
import GoSem.ClaimMapViews
import Derived.JoinedTies
import Derived.KernelRfl
namespace Go.Proofs.YtiojoailjiojjaaDoor
/- THE CELL 'sum', in the pinned program and in every row, IS THE sha256 OF THE DUMP (.gsa) THAT YtiojoailjiojjaaDoorProg.lean LOADS. Nothing in Lean hashes anything: it is a label: what it is worth is what the hold of that sum in a sandbox is worth. -/
noncomputable def Tryd.pinned : Pinned := { name := "ytiojoailjiojjaadoor", sum := "c5505ca8829d0ae19c09b0a5607f138f54dfc424694ae90ffd4aa7ecc065306a", checked := Tryd.checked }
namespace Rows
def none {H : Type} : Left H := { results := [], args := [] }

/- WHAT THE LISTED PACKAGE-LEVEL VARIABLES READ AS WHEN THE CALL BEGINS. Each datum BY PROGRAM (the guide's laid-datum.mjs) off the statement by which the dump's own 'gosem.cut.vars' lays the variable. In a bare row this is a premise. The card (YtiojoailjiojjaaDoorCards.lean) ties it to the program's text. -/
def laid_math_bits_deBruijn64tab {H : Type} : DataW H := .agg [.lit (.int .u8 0), .lit (.int .u8 1), .lit (.int .u8 56), .lit (.int .u8 2), .lit (.int .u8 57), .lit (.int .u8 49), .lit (.int .u8 28), .lit (.int .u8 3), .lit (.int .u8 61), .lit (.int .u8 58), .lit (.int .u8 42), .lit (.int .u8 50), .lit (.int .u8 38), .lit (.int .u8 29), .lit (.int .u8 17), .lit (.int .u8 4), .lit (.int .u8 62), .lit (.int .u8 47), .lit (.int .u8 59), .lit (.int .u8 36), .lit (.int .u8 45), .lit (.int .u8 43), .lit (.int .u8 51), .lit (.int .u8 22), .lit (.int .u8 53), .lit (.int .u8 39), .lit (.int .u8 33), .lit (.int .u8 30), .lit (.int .u8 24), .lit (.int .u8 18), .lit (.int .u8 12), .lit (.int .u8 5), .lit (.int .u8 63), .lit (.int .u8 55), .lit (.int .u8 48), .lit (.int .u8 27), .lit (.int .u8 60), .lit (.int .u8 41), .lit (.int .u8 37), .lit (.int .u8 16), .lit (.int .u8 46), .lit (.int .u8 35), .lit (.int .u8 44), .lit (.int .u8 21), .lit (.int .u8 52), .lit (.int .u8 32), .lit (.int .u8 23), .lit (.int .u8 11), .lit (.int .u8 54), .lit (.int .u8 26), .lit (.int .u8 40), .lit (.int .u8 15), .lit (.int .u8 34), .lit (.int .u8 20), .lit (.int .u8 31), .lit (.int .u8 10), .lit (.int .u8 25), .lit (.int .u8 14), .lit (.int .u8 19), .lit (.int .u8 9), .lit (.int .u8 13), .lit (.int .u8 8), .lit (.int .u8 7), .lit (.int .u8 6)]

/-- 'laws.FnDeadCycle': WHATEVER THE INPUT: true; the input reads as it did. -/
def fnDeadCycleSpec : ChangeSpec := { name := "fnDeadCycle", fn := fun _ => fun
  | [d] => { results := [.lit (.bool true)], args := [d] }
  | _ => none }
def fnDeadCycleRow : OpenClaim := { program := "ytiojoailjiojjaadoor", sum := "c5505ca8829d0ae19c09b0a5607f138f54dfc424694ae90ffd4aa7ecc065306a", func := "loop.example/memorymanagers/laws.FnDeadCycle", spec := "fnDeadCycle", recurses := true, named := ["math/bits.deBruijn64tab"], apart := false, laid := [("math/bits.deBruijn64tab", laid_math_bits_deBruijn64tab)] }
def FnDeadCycleSaid : Prop := fnDeadCycleRow.holds Tryd.pinned (OpenSpec.ofChange fnDeadCycleSpec)

/-- ITS FALSE NEIGHBOUR: 'it returns false'. Refute it at one input. -/
def fnDeadCycleWrong : ChangeSpec := { name := "fnDeadCycle", fn := fun _ => fun
  | [d] => { results := [.lit (.bool false)], args := [d] }
  | _ => none }
def FnDeadCycleWrongFalsely : Prop := fnDeadCycleRow.holds Tryd.pinned (OpenSpec.ofChange fnDeadCycleWrong)

/-- 'laws.FnCollectCycles': WHATEVER THE INPUT: true; the input reads as it did. -/
def fnCollectCyclesSpec : ChangeSpec := { name := "fnCollectCycles", fn := fun _ => fun
  | [d] => { results := [.lit (.bool true)], args := [d] }
  | _ => none }
def fnCollectCyclesRow : OpenClaim := { program := "ytiojoailjiojjaadoor", sum := "c5505ca8829d0ae19c09b0a5607f138f54dfc424694ae90ffd4aa7ecc065306a", func := "loop.example/memorymanagers/laws.FnCollectCycles", spec := "fnCollectCycles", recurses := true, named := ["math/bits.deBruijn64tab"], apart := false, laid := [("math/bits.deBruijn64tab", laid_math_bits_deBruijn64tab)] }
def FnCollectCyclesSaid : Prop := fnCollectCyclesRow.holds Tryd.pinned (OpenSpec.ofChange fnCollectCyclesSpec)

/-- ITS FALSE NEIGHBOUR: 'it returns false'. Refute it at one input. -/
def fnCollectCyclesWrong : ChangeSpec := { name := "fnCollectCycles", fn := fun _ => fun
  | [d] => { results := [.lit (.bool false)], args := [d] }
  | _ => none }
def FnCollectCyclesWrongFalsely : Prop := fnCollectCyclesRow.holds Tryd.pinned (OpenSpec.ofChange fnCollectCyclesWrong)

/-- 'laws.FnCountsComplete': WHATEVER THE INPUT: true; the input reads as it did. -/
def fnCountsCompleteSpec : ChangeSpec := { name := "fnCountsComplete", fn := fun _ => fun
  | [d] => { results := [.lit (.bool true)], args := [d] }
  | _ => none }
def fnCountsCompleteRow : OpenClaim := { program := "ytiojoailjiojjaadoor", sum := "c5505ca8829d0ae19c09b0a5607f138f54dfc424694ae90ffd4aa7ecc065306a", func := "loop.example/memorymanagers/laws.FnCountsComplete", spec := "fnCountsComplete", unfollowed := true, recurses := true, named := ["math/bits.deBruijn64tab"], apart := false, laid := [("math/bits.deBruijn64tab", laid_math_bits_deBruijn64tab)] }
def FnCountsCompleteSaid : Prop := fnCountsCompleteRow.holds Tryd.pinned (OpenSpec.ofChange fnCountsCompleteSpec)

/-- ITS FALSE NEIGHBOUR: 'it returns false'. Refute it at one input. -/
def fnCountsCompleteWrong : ChangeSpec := { name := "fnCountsComplete", fn := fun _ => fun
  | [d] => { results := [.lit (.bool false)], args := [d] }
  | _ => none }
def FnCountsCompleteWrongFalsely : Prop := fnCountsCompleteRow.holds Tryd.pinned (OpenSpec.ofChange fnCountsCompleteWrong)

/-- 'laws.FnDeadLeaked': WHATEVER THE INPUT: true; the input reads as it did. -/
def fnDeadLeakedSpec : ChangeSpec := { name := "fnDeadLeaked", fn := fun _ => fun
  | [d] => { results := [.lit (.bool true)], args := [d] }
  | _ => none }
def fnDeadLeakedRow : OpenClaim := { program := "ytiojoailjiojjaadoor", sum := "c5505ca8829d0ae19c09b0a5607f138f54dfc424694ae90ffd4aa7ecc065306a", func := "loop.example/memorymanagers/laws.FnDeadLeaked", spec := "fnDeadLeaked", recurses := true, named := ["math/bits.deBruijn64tab"], apart := false, laid := [("math/bits.deBruijn64tab", laid_math_bits_deBruijn64tab)] }
def FnDeadLeakedSaid : Prop := fnDeadLeakedRow.holds Tryd.pinned (OpenSpec.ofChange fnDeadLeakedSpec)

/-- ITS FALSE NEIGHBOUR: 'it returns false'. Refute it at one input. -/
def fnDeadLeakedWrong : ChangeSpec := { name := "fnDeadLeaked", fn := fun _ => fun
  | [d] => { results := [.lit (.bool false)], args := [d] }
  | _ => none }
def FnDeadLeakedWrongFalsely : Prop := fnDeadLeakedRow.holds Tryd.pinned (OpenSpec.ofChange fnDeadLeakedWrong)

/-- 'laws.FnExactDeadCycle': WHATEVER THE INPUT: true; the input reads as it did. -/
def fnExactDeadCycleSpec : ChangeSpec := { name := "fnExactDeadCycle", fn := fun _ => fun
  | [d1, d2] => { results := [.lit (.bool true)], args := [d1, d2] }
  | _ => none }
def fnExactDeadCycleRow : OpenClaim := { program := "ytiojoailjiojjaadoor", sum := "c5505ca8829d0ae19c09b0a5607f138f54dfc424694ae90ffd4aa7ecc065306a", func := "loop.example/memorymanagers/laws.FnExactDeadCycle", spec := "fnExactDeadCycle", recurses := true, named := ["math/bits.deBruijn64tab"], apart := false, laid := [("math/bits.deBruijn64tab", laid_math_bits_deBruijn64tab)] }
def FnExactDeadCycleSaid : Prop := fnExactDeadCycleRow.holds Tryd.pinned (OpenSpec.ofChange fnExactDeadCycleSpec)

/-- ITS FALSE NEIGHBOUR: 'it returns false'. Refute it at one input. -/
def fnExactDeadCycleWrong : ChangeSpec := { name := "fnExactDeadCycle", fn := fun _ => fun
  | [d1, d2] => { results := [.lit (.bool false)], args := [d1, d2] }
  | _ => none }
def FnExactDeadCycleWrongFalsely : Prop := fnExactDeadCycleRow.holds Tryd.pinned (OpenSpec.ofChange fnExactDeadCycleWrong)

/-- 'laws.FnExactCollectCycles': WHATEVER THE INPUT: true; the input reads as it did. -/
def fnExactCollectCyclesSpec : ChangeSpec := { name := "fnExactCollectCycles", fn := fun _ => fun
  | [d] => { results := [.lit (.bool true)], args := [d] }
  | _ => none }
def fnExactCollectCyclesRow : OpenClaim := { program := "ytiojoailjiojjaadoor", sum := "c5505ca8829d0ae19c09b0a5607f138f54dfc424694ae90ffd4aa7ecc065306a", func := "loop.example/memorymanagers/laws.FnExactCollectCycles", spec := "fnExactCollectCycles", recurses := true, named := ["math/bits.deBruijn64tab"], apart := false, laid := [("math/bits.deBruijn64tab", laid_math_bits_deBruijn64tab)] }
def FnExactCollectCyclesSaid : Prop := fnExactCollectCyclesRow.holds Tryd.pinned (OpenSpec.ofChange fnExactCollectCyclesSpec)

/-- ITS FALSE NEIGHBOUR: 'it returns false'. Refute it at one input. -/
def fnExactCollectCyclesWrong : ChangeSpec := { name := "fnExactCollectCycles", fn := fun _ => fun
  | [d] => { results := [.lit (.bool false)], args := [d] }
  | _ => none }
def FnExactCollectCyclesWrongFalsely : Prop := fnExactCollectCyclesRow.holds Tryd.pinned (OpenSpec.ofChange fnExactCollectCyclesWrong)

/- THE SECOND FORM. 'bulk': how many values and letters a reading holds, each counted each time it is reached (what is shared counts as often as it is met; a slice's spare places count too). A statement '..UptoSaid' is the law's where the arguments, and the package variables that the reading takes, are together of bulk at most 1048576: NARROWER than '..Said'. Prove '..Said' where nothing that the law and all that it calls make is longer than what came in: it says more and counts as full. Else prove '..UptoSaid'. A law counts once. -/
mutual
def uptoBulk {H : Type} : DataW H → Nat
  | .lit (.string bytes) => bytes.length + 1
  | .lit _ => 1
  | .nil => 1
  | .ptr d => uptoBulk d + 1
  | .slice elems spare => uptoBulkAll elems + uptoBulkAll spare + 1
  | .agg parts => uptoBulkAll parts + 1
  | .iface _ d => uptoBulk d + 1
  | .map entries => uptoBulkEntries entries + 1
  | .held _ => 1
def uptoBulkAll {H : Type} : List (DataW H) → Nat
  | [] => 0
  | d :: r => uptoBulk d + uptoBulkAll r
def uptoBulkEntries {H : Type} : List (Lit × DataW H) → Nat
  | [] => 0
  | x :: r => uptoBulkEntry x + uptoBulkEntries r
def uptoBulkEntry {H : Type} : Lit × DataW H → Nat
  | (.string bytes, d) => bytes.length + uptoBulk d + 1
  | (_, d) => uptoBulk d + 1
 end
def uptoSmall : (H : Type) → List (DataW H) → Bool := fun _ ds => decide (uptoBulkAll ds ≤ 1048576)
def OpenSpec.upto (s : _root_.Go.ChangeSpec) : _root_.Go.OpenSpec := { _root_.Go.OpenSpec.ofChange s with cond := some uptoSmall }

/-- 'laws.FnDeadCycle', WHERE WHAT IT READS IS OF BULK AT MOST 1048576: true; the input reads as it did. -/
def fnDeadCycleUptoRow : OpenClaim := { program := "ytiojoailjiojjaadoor", sum := "c5505ca8829d0ae19c09b0a5607f138f54dfc424694ae90ffd4aa7ecc065306a", func := "loop.example/memorymanagers/laws.FnDeadCycle", spec := "fnDeadCycle", recurses := true, named := ["math/bits.deBruijn64tab"], apart := false, laid := [("math/bits.deBruijn64tab", laid_math_bits_deBruijn64tab)], narrowed := true }
def FnDeadCycleUptoSaid : Prop := fnDeadCycleUptoRow.holds Tryd.pinned (OpenSpec.upto fnDeadCycleSpec)

/-- 'laws.FnCollectCycles', WHERE WHAT IT READS IS OF BULK AT MOST 1048576: true; the input reads as it did. -/
def fnCollectCyclesUptoRow : OpenClaim := { program := "ytiojoailjiojjaadoor", sum := "c5505ca8829d0ae19c09b0a5607f138f54dfc424694ae90ffd4aa7ecc065306a", func := "loop.example/memorymanagers/laws.FnCollectCycles", spec := "fnCollectCycles", recurses := true, named := ["math/bits.deBruijn64tab"], apart := false, laid := [("math/bits.deBruijn64tab", laid_math_bits_deBruijn64tab)], narrowed := true }
def FnCollectCyclesUptoSaid : Prop := fnCollectCyclesUptoRow.holds Tryd.pinned (OpenSpec.upto fnCollectCyclesSpec)

/-- 'laws.FnCountsComplete', WHERE WHAT IT READS IS OF BULK AT MOST 1048576: true; the input reads as it did. -/
def fnCountsCompleteUptoRow : OpenClaim := { program := "ytiojoailjiojjaadoor", sum := "c5505ca8829d0ae19c09b0a5607f138f54dfc424694ae90ffd4aa7ecc065306a", func := "loop.example/memorymanagers/laws.FnCountsComplete", spec := "fnCountsComplete", unfollowed := true, recurses := true, named := ["math/bits.deBruijn64tab"], apart := false, laid := [("math/bits.deBruijn64tab", laid_math_bits_deBruijn64tab)], narrowed := true }
def FnCountsCompleteUptoSaid : Prop := fnCountsCompleteUptoRow.holds Tryd.pinned (OpenSpec.upto fnCountsCompleteSpec)

/-- 'laws.FnDeadLeaked', WHERE WHAT IT READS IS OF BULK AT MOST 1048576: true; the input reads as it did. -/
def fnDeadLeakedUptoRow : OpenClaim := { program := "ytiojoailjiojjaadoor", sum := "c5505ca8829d0ae19c09b0a5607f138f54dfc424694ae90ffd4aa7ecc065306a", func := "loop.example/memorymanagers/laws.FnDeadLeaked", spec := "fnDeadLeaked", recurses := true, named := ["math/bits.deBruijn64tab"], apart := false, laid := [("math/bits.deBruijn64tab", laid_math_bits_deBruijn64tab)], narrowed := true }
def FnDeadLeakedUptoSaid : Prop := fnDeadLeakedUptoRow.holds Tryd.pinned (OpenSpec.upto fnDeadLeakedSpec)

/-- 'laws.FnExactDeadCycle', WHERE WHAT IT READS IS OF BULK AT MOST 1048576: true; the input reads as it did. -/
def fnExactDeadCycleUptoRow : OpenClaim := { program := "ytiojoailjiojjaadoor", sum := "c5505ca8829d0ae19c09b0a5607f138f54dfc424694ae90ffd4aa7ecc065306a", func := "loop.example/memorymanagers/laws.FnExactDeadCycle", spec := "fnExactDeadCycle", recurses := true, named := ["math/bits.deBruijn64tab"], apart := false, laid := [("math/bits.deBruijn64tab", laid_math_bits_deBruijn64tab)], narrowed := true }
def FnExactDeadCycleUptoSaid : Prop := fnExactDeadCycleUptoRow.holds Tryd.pinned (OpenSpec.upto fnExactDeadCycleSpec)

/-- 'laws.FnExactCollectCycles', WHERE WHAT IT READS IS OF BULK AT MOST 1048576: true; the input reads as it did. -/
def fnExactCollectCyclesUptoRow : OpenClaim := { program := "ytiojoailjiojjaadoor", sum := "c5505ca8829d0ae19c09b0a5607f138f54dfc424694ae90ffd4aa7ecc065306a", func := "loop.example/memorymanagers/laws.FnExactCollectCycles", spec := "fnExactCollectCycles", recurses := true, named := ["math/bits.deBruijn64tab"], apart := false, laid := [("math/bits.deBruijn64tab", laid_math_bits_deBruijn64tab)], narrowed := true }
def FnExactCollectCyclesUptoSaid : Prop := fnExactCollectCyclesUptoRow.holds Tryd.pinned (OpenSpec.upto fnExactCollectCyclesSpec)

end Rows
end Go.Proofs.YtiojoailjiojjaaDoor
