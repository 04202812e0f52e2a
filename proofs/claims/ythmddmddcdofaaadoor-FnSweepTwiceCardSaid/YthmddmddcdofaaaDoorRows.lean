/-
  NARROWER THAN 'FOR EVERY INPUT', by the rows' own cells (each row's printed sentence says how): FnViewOf: laid · FnLeakedCells: laid · FnSweepCells: laid · FnCollectSweep: laid · FnStepSweep: laid · FnSweepTwice: laid · FnExactSweepCells: laid · FnExactCollectSweep: laid · FnExactStepSweep: laid · FnExactRunSweep: laid.
  DERIVED. THE GIVEN ROWS OF THIS SEAT. 10 by the template 'for every input the law returns true; each argument reads behind the call as it read before'; 0 by the template 'total and deterministic' (their statements: YthmddmddcdofaaaDoorTotals.lean).
  GIVEN WITH THE SEED: the statements are not yours to turn. If you find one false, say at which input.
  Laid BY PROGRAM, IN A SANDBOX (cutbox-rows.mjs): the forced cells as the released guide's own fill.sh prints them over the translation e59d7d2d8164fa83… (all of the seat's roots in one cut). By AI agents, Wed Nov 11 2026. No macro, syntax, notation, axiom, sorry.
-/
import Derived.Test.YthmddmddcdofaaaDoorChecked
import GoSem.Claim
import GoSem.ClaimJoined
import GoSem.ClaimMapViews
import Derived.JoinedTies
import Derived.KernelRfl
namespace Go.Proofs.YthmddmddcdofaaaDoor
/- THE CELL 'sum', in the pinned program and in every row, IS THE sha256 OF THE DUMP (.gsa) THAT YthmddmddcdofaaaDoorProg.lean LOADS. Nothing in Lean hashes anything: it is a label: what it is worth is what the hold of that sum in a sandbox is worth. -/
noncomputable def Tryd.pinned : Pinned := { name := "ythmddmddcdofaaadoor", sum := "e59d7d2d8164fa83b1ac0103faba042abc6e351b6762dcbe05f8db61942b2412", checked := Tryd.checked }
namespace Rows
def none {H : Type} : Left H := { results := [], args := [] }

/- WHAT THE LISTED PACKAGE-LEVEL VARIABLES READ AS WHEN THE CALL BEGINS. Each datum BY PROGRAM (the guide's laid-datum.mjs) off the statement by which the dump's own 'gosem.cut.vars' lays the variable. In a bare row this is a premise. The card (YthmddmddcdofaaaDoorCards.lean) ties it to the program's text. -/
def laid_math_bits_deBruijn64tab {H : Type} : DataW H := .agg [.lit (.int .u8 0), .lit (.int .u8 1), .lit (.int .u8 56), .lit (.int .u8 2), .lit (.int .u8 57), .lit (.int .u8 49), .lit (.int .u8 28), .lit (.int .u8 3), .lit (.int .u8 61), .lit (.int .u8 58), .lit (.int .u8 42), .lit (.int .u8 50), .lit (.int .u8 38), .lit (.int .u8 29), .lit (.int .u8 17), .lit (.int .u8 4), .lit (.int .u8 62), .lit (.int .u8 47), .lit (.int .u8 59), .lit (.int .u8 36), .lit (.int .u8 45), .lit (.int .u8 43), .lit (.int .u8 51), .lit (.int .u8 22), .lit (.int .u8 53), .lit (.int .u8 39), .lit (.int .u8 33), .lit (.int .u8 30), .lit (.int .u8 24), .lit (.int .u8 18), .lit (.int .u8 12), .lit (.int .u8 5), .lit (.int .u8 63), .lit (.int .u8 55), .lit (.int .u8 48), .lit (.int .u8 27), .lit (.int .u8 60), .lit (.int .u8 41), .lit (.int .u8 37), .lit (.int .u8 16), .lit (.int .u8 46), .lit (.int .u8 35), .lit (.int .u8 44), .lit (.int .u8 21), .lit (.int .u8 52), .lit (.int .u8 32), .lit (.int .u8 23), .lit (.int .u8 11), .lit (.int .u8 54), .lit (.int .u8 26), .lit (.int .u8 40), .lit (.int .u8 15), .lit (.int .u8 34), .lit (.int .u8 20), .lit (.int .u8 31), .lit (.int .u8 10), .lit (.int .u8 25), .lit (.int .u8 14), .lit (.int .u8 19), .lit (.int .u8 9), .lit (.int .u8 13), .lit (.int .u8 8), .lit (.int .u8 7), .lit (.int .u8 6)]

/-- 'laws.FnViewOf': WHATEVER THE INPUT: true; the input reads as it did. -/
def fnViewOfSpec : ChangeSpec := { name := "fnViewOf", fn := fun _ => fun
  | [d] => { results := [.lit (.bool true)], args := [d] }
  | _ => none }
def fnViewOfRow : OpenClaim := { program := "ythmddmddcdofaaadoor", sum := "e59d7d2d8164fa83b1ac0103faba042abc6e351b6762dcbe05f8db61942b2412", func := "loop.example/memorymanagers/laws.FnViewOf", spec := "fnViewOf", named := ["math/bits.deBruijn64tab"], apart := false, laid := [("math/bits.deBruijn64tab", laid_math_bits_deBruijn64tab)] }
def FnViewOfSaid : Prop := fnViewOfRow.holds Tryd.pinned (OpenSpec.ofChange fnViewOfSpec)

/-- ITS FALSE NEIGHBOUR: 'it returns false'. Refute it at one input. -/
def fnViewOfWrong : ChangeSpec := { name := "fnViewOf", fn := fun _ => fun
  | [d] => { results := [.lit (.bool false)], args := [d] }
  | _ => none }
def FnViewOfWrongFalsely : Prop := fnViewOfRow.holds Tryd.pinned (OpenSpec.ofChange fnViewOfWrong)

/-- 'laws.FnLeakedCells': WHATEVER THE INPUT: true; the input reads as it did. -/
def fnLeakedCellsSpec : ChangeSpec := { name := "fnLeakedCells", fn := fun _ => fun
  | [d] => { results := [.lit (.bool true)], args := [d] }
  | _ => none }
def fnLeakedCellsRow : OpenClaim := { program := "ythmddmddcdofaaadoor", sum := "e59d7d2d8164fa83b1ac0103faba042abc6e351b6762dcbe05f8db61942b2412", func := "loop.example/memorymanagers/laws.FnLeakedCells", spec := "fnLeakedCells", named := ["math/bits.deBruijn64tab"], apart := false, laid := [("math/bits.deBruijn64tab", laid_math_bits_deBruijn64tab)] }
def FnLeakedCellsSaid : Prop := fnLeakedCellsRow.holds Tryd.pinned (OpenSpec.ofChange fnLeakedCellsSpec)

/-- ITS FALSE NEIGHBOUR: 'it returns false'. Refute it at one input. -/
def fnLeakedCellsWrong : ChangeSpec := { name := "fnLeakedCells", fn := fun _ => fun
  | [d] => { results := [.lit (.bool false)], args := [d] }
  | _ => none }
def FnLeakedCellsWrongFalsely : Prop := fnLeakedCellsRow.holds Tryd.pinned (OpenSpec.ofChange fnLeakedCellsWrong)

/-- 'laws.FnSweepCells': WHATEVER THE INPUT: true; the input reads as it did. -/
def fnSweepCellsSpec : ChangeSpec := { name := "fnSweepCells", fn := fun _ => fun
  | [d] => { results := [.lit (.bool true)], args := [d] }
  | _ => none }
def fnSweepCellsRow : OpenClaim := { program := "ythmddmddcdofaaadoor", sum := "e59d7d2d8164fa83b1ac0103faba042abc6e351b6762dcbe05f8db61942b2412", func := "loop.example/memorymanagers/laws.FnSweepCells", spec := "fnSweepCells", named := ["math/bits.deBruijn64tab"], apart := false, laid := [("math/bits.deBruijn64tab", laid_math_bits_deBruijn64tab)] }
def FnSweepCellsSaid : Prop := fnSweepCellsRow.holds Tryd.pinned (OpenSpec.ofChange fnSweepCellsSpec)

/-- ITS FALSE NEIGHBOUR: 'it returns false'. Refute it at one input. -/
def fnSweepCellsWrong : ChangeSpec := { name := "fnSweepCells", fn := fun _ => fun
  | [d] => { results := [.lit (.bool false)], args := [d] }
  | _ => none }
def FnSweepCellsWrongFalsely : Prop := fnSweepCellsRow.holds Tryd.pinned (OpenSpec.ofChange fnSweepCellsWrong)

/-- 'laws.FnCollectSweep': WHATEVER THE INPUT: true; the input reads as it did. -/
def fnCollectSweepSpec : ChangeSpec := { name := "fnCollectSweep", fn := fun _ => fun
  | [d] => { results := [.lit (.bool true)], args := [d] }
  | _ => none }
def fnCollectSweepRow : OpenClaim := { program := "ythmddmddcdofaaadoor", sum := "e59d7d2d8164fa83b1ac0103faba042abc6e351b6762dcbe05f8db61942b2412", func := "loop.example/memorymanagers/laws.FnCollectSweep", spec := "fnCollectSweep", named := ["math/bits.deBruijn64tab"], apart := false, laid := [("math/bits.deBruijn64tab", laid_math_bits_deBruijn64tab)] }
def FnCollectSweepSaid : Prop := fnCollectSweepRow.holds Tryd.pinned (OpenSpec.ofChange fnCollectSweepSpec)

/-- ITS FALSE NEIGHBOUR: 'it returns false'. Refute it at one input. -/
def fnCollectSweepWrong : ChangeSpec := { name := "fnCollectSweep", fn := fun _ => fun
  | [d] => { results := [.lit (.bool false)], args := [d] }
  | _ => none }
def FnCollectSweepWrongFalsely : Prop := fnCollectSweepRow.holds Tryd.pinned (OpenSpec.ofChange fnCollectSweepWrong)

/-- 'laws.FnStepSweep': WHATEVER THE INPUT: true; the input reads as it did. -/
def fnStepSweepSpec : ChangeSpec := { name := "fnStepSweep", fn := fun _ => fun
  | [d] => { results := [.lit (.bool true)], args := [d] }
  | _ => none }
def fnStepSweepRow : OpenClaim := { program := "ythmddmddcdofaaadoor", sum := "e59d7d2d8164fa83b1ac0103faba042abc6e351b6762dcbe05f8db61942b2412", func := "loop.example/memorymanagers/laws.FnStepSweep", spec := "fnStepSweep", unfollowed := true, recurses := true, named := ["math/bits.deBruijn64tab"], apart := false, laid := [("math/bits.deBruijn64tab", laid_math_bits_deBruijn64tab)] }
def FnStepSweepSaid : Prop := fnStepSweepRow.holds Tryd.pinned (OpenSpec.ofChange fnStepSweepSpec)

/-- ITS FALSE NEIGHBOUR: 'it returns false'. Refute it at one input. -/
def fnStepSweepWrong : ChangeSpec := { name := "fnStepSweep", fn := fun _ => fun
  | [d] => { results := [.lit (.bool false)], args := [d] }
  | _ => none }
def FnStepSweepWrongFalsely : Prop := fnStepSweepRow.holds Tryd.pinned (OpenSpec.ofChange fnStepSweepWrong)

/-- 'laws.FnSweepTwice': WHATEVER THE INPUT: true; the input reads as it did. -/
def fnSweepTwiceSpec : ChangeSpec := { name := "fnSweepTwice", fn := fun _ => fun
  | [d] => { results := [.lit (.bool true)], args := [d] }
  | _ => none }
def fnSweepTwiceRow : OpenClaim := { program := "ythmddmddcdofaaadoor", sum := "e59d7d2d8164fa83b1ac0103faba042abc6e351b6762dcbe05f8db61942b2412", func := "loop.example/memorymanagers/laws.FnSweepTwice", spec := "fnSweepTwice", recurses := true, named := ["math/bits.deBruijn64tab"], apart := false, laid := [("math/bits.deBruijn64tab", laid_math_bits_deBruijn64tab)] }
def FnSweepTwiceSaid : Prop := fnSweepTwiceRow.holds Tryd.pinned (OpenSpec.ofChange fnSweepTwiceSpec)

/-- ITS FALSE NEIGHBOUR: 'it returns false'. Refute it at one input. -/
def fnSweepTwiceWrong : ChangeSpec := { name := "fnSweepTwice", fn := fun _ => fun
  | [d] => { results := [.lit (.bool false)], args := [d] }
  | _ => none }
def FnSweepTwiceWrongFalsely : Prop := fnSweepTwiceRow.holds Tryd.pinned (OpenSpec.ofChange fnSweepTwiceWrong)

/-- 'laws.FnExactSweepCells': WHATEVER THE INPUT: true; the input reads as it did. -/
def fnExactSweepCellsSpec : ChangeSpec := { name := "fnExactSweepCells", fn := fun _ => fun
  | [d1, d2] => { results := [.lit (.bool true)], args := [d1, d2] }
  | _ => none }
def fnExactSweepCellsRow : OpenClaim := { program := "ythmddmddcdofaaadoor", sum := "e59d7d2d8164fa83b1ac0103faba042abc6e351b6762dcbe05f8db61942b2412", func := "loop.example/memorymanagers/laws.FnExactSweepCells", spec := "fnExactSweepCells", named := ["math/bits.deBruijn64tab"], apart := false, laid := [("math/bits.deBruijn64tab", laid_math_bits_deBruijn64tab)] }
def FnExactSweepCellsSaid : Prop := fnExactSweepCellsRow.holds Tryd.pinned (OpenSpec.ofChange fnExactSweepCellsSpec)

/-- ITS FALSE NEIGHBOUR: 'it returns false'. Refute it at one input. -/
def fnExactSweepCellsWrong : ChangeSpec := { name := "fnExactSweepCells", fn := fun _ => fun
  | [d1, d2] => { results := [.lit (.bool false)], args := [d1, d2] }
  | _ => none }
def FnExactSweepCellsWrongFalsely : Prop := fnExactSweepCellsRow.holds Tryd.pinned (OpenSpec.ofChange fnExactSweepCellsWrong)

/-- 'laws.FnExactCollectSweep': WHATEVER THE INPUT: true; the input reads as it did. -/
def fnExactCollectSweepSpec : ChangeSpec := { name := "fnExactCollectSweep", fn := fun _ => fun
  | [d] => { results := [.lit (.bool true)], args := [d] }
  | _ => none }
def fnExactCollectSweepRow : OpenClaim := { program := "ythmddmddcdofaaadoor", sum := "e59d7d2d8164fa83b1ac0103faba042abc6e351b6762dcbe05f8db61942b2412", func := "loop.example/memorymanagers/laws.FnExactCollectSweep", spec := "fnExactCollectSweep", named := ["math/bits.deBruijn64tab"], apart := false, laid := [("math/bits.deBruijn64tab", laid_math_bits_deBruijn64tab)] }
def FnExactCollectSweepSaid : Prop := fnExactCollectSweepRow.holds Tryd.pinned (OpenSpec.ofChange fnExactCollectSweepSpec)

/-- ITS FALSE NEIGHBOUR: 'it returns false'. Refute it at one input. -/
def fnExactCollectSweepWrong : ChangeSpec := { name := "fnExactCollectSweep", fn := fun _ => fun
  | [d] => { results := [.lit (.bool false)], args := [d] }
  | _ => none }
def FnExactCollectSweepWrongFalsely : Prop := fnExactCollectSweepRow.holds Tryd.pinned (OpenSpec.ofChange fnExactCollectSweepWrong)

/-- 'laws.FnExactStepSweep': WHATEVER THE INPUT: true; the input reads as it did. -/
def fnExactStepSweepSpec : ChangeSpec := { name := "fnExactStepSweep", fn := fun _ => fun
  | [d1, d2, d3] => { results := [.lit (.bool true)], args := [d1, d2, d3] }
  | _ => none }
def fnExactStepSweepRow : OpenClaim := { program := "ythmddmddcdofaaadoor", sum := "e59d7d2d8164fa83b1ac0103faba042abc6e351b6762dcbe05f8db61942b2412", func := "loop.example/memorymanagers/laws.FnExactStepSweep", spec := "fnExactStepSweep", unfollowed := true, recurses := true, named := ["math/bits.deBruijn64tab"], apart := false, laid := [("math/bits.deBruijn64tab", laid_math_bits_deBruijn64tab)] }
def FnExactStepSweepSaid : Prop := fnExactStepSweepRow.holds Tryd.pinned (OpenSpec.ofChange fnExactStepSweepSpec)

/-- ITS FALSE NEIGHBOUR: 'it returns false'. Refute it at one input. -/
def fnExactStepSweepWrong : ChangeSpec := { name := "fnExactStepSweep", fn := fun _ => fun
  | [d1, d2, d3] => { results := [.lit (.bool false)], args := [d1, d2, d3] }
  | _ => none }
def FnExactStepSweepWrongFalsely : Prop := fnExactStepSweepRow.holds Tryd.pinned (OpenSpec.ofChange fnExactStepSweepWrong)

/-- 'laws.FnExactRunSweep': WHATEVER THE INPUT: true; the input reads as it did. -/
def fnExactRunSweepSpec : ChangeSpec := { name := "fnExactRunSweep", fn := fun _ => fun
  | [d1, d2] => { results := [.lit (.bool true)], args := [d1, d2] }
  | _ => none }
def fnExactRunSweepRow : OpenClaim := { program := "ythmddmddcdofaaadoor", sum := "e59d7d2d8164fa83b1ac0103faba042abc6e351b6762dcbe05f8db61942b2412", func := "loop.example/memorymanagers/laws.FnExactRunSweep", spec := "fnExactRunSweep", unfollowed := true, recurses := true, named := ["math/bits.deBruijn64tab"], apart := false, laid := [("math/bits.deBruijn64tab", laid_math_bits_deBruijn64tab)] }
def FnExactRunSweepSaid : Prop := fnExactRunSweepRow.holds Tryd.pinned (OpenSpec.ofChange fnExactRunSweepSpec)

/-- ITS FALSE NEIGHBOUR: 'it returns false'. Refute it at one input. -/
def fnExactRunSweepWrong : ChangeSpec := { name := "fnExactRunSweep", fn := fun _ => fun
  | [d1, d2] => { results := [.lit (.bool false)], args := [d1, d2] }
  | _ => none }
def FnExactRunSweepWrongFalsely : Prop := fnExactRunSweepRow.holds Tryd.pinned (OpenSpec.ofChange fnExactRunSweepWrong)

/- THE SECOND FORM. 'bulk': how many values and letters a reading holds, each counted each time it is reached (what is shared counts as often as it is met; a slice's spare places count too). A statement '..UptoSaid' is the law's where the arguments, and the package variables that the reading takes, are together of bulk at most 1048576: NARROWER than '..Said'. Prove '..Said' where nothing that the law and all that it calls make is longer than what came in: it says more and counts as full. Else prove '..UptoSaid'. A law counts once. -/
mutual
def uptoBulk {H : Type} : DataW H → Nat
  | .lit (.string bytes) => bytes.length + 1
  | .lit _ => 1
  | .nil => 1
  | .ptr d => uptoBulk d + 1
  | .slice elems spare => uptoBulkAll elems + uptoBulkAll spare + 1
  | .agg parts => uptoBulkAll parts + 1
  | .iface _ d => uptoBulk d + 1
  | .map entries => uptoBulkEntries entries + 1
  | .held _ => 1
def uptoBulkAll {H : Type} : List (DataW H) → Nat
  | [] => 0
  | d :: r => uptoBulk d + uptoBulkAll r
def uptoBulkEntries {H : Type} : List (Lit × DataW H) → Nat
  | [] => 0
  | x :: r => uptoBulkEntry x + uptoBulkEntries r
def uptoBulkEntry {H : Type} : Lit × DataW H → Nat
  | (.string bytes, d) => bytes.length + uptoBulk d + 1
  | (_, d) => uptoBulk d + 1
 end
def uptoSmall : (H : Type) → List (DataW H) → Bool := fun _ ds => decide (uptoBulkAll ds ≤ 1048576)
def OpenSpec.upto (s : _root_.Go.ChangeSpec) : _root_.Go.OpenSpec := { _root_.Go.OpenSpec.ofChange s with cond := some uptoSmall }

/-- 'laws.FnViewOf', WHERE WHAT IT READS IS OF BULK AT MOST 1048576: true; the input reads as it did. -/
def fnViewOfUptoRow : OpenClaim := { program := "ythmddmddcdofaaadoor", sum := "e59d7d2d8164fa83b1ac0103faba042abc6e351b6762dcbe05f8db61942b2412", func := "loop.example/memorymanagers/laws.FnViewOf", spec := "fnViewOf", named := ["math/bits.deBruijn64tab"], apart := false, laid := [("math/bits.deBruijn64tab", laid_math_bits_deBruijn64tab)], narrowed := true }
def FnViewOfUptoSaid : Prop := fnViewOfUptoRow.holds Tryd.pinned (OpenSpec.upto fnViewOfSpec)

/-- 'laws.FnLeakedCells', WHERE WHAT IT READS IS OF BULK AT MOST 1048576: true; the input reads as it did. -/
def fnLeakedCellsUptoRow : OpenClaim := { program := "ythmddmddcdofaaadoor", sum := "e59d7d2d8164fa83b1ac0103faba042abc6e351b6762dcbe05f8db61942b2412", func := "loop.example/memorymanagers/laws.FnLeakedCells", spec := "fnLeakedCells", named := ["math/bits.deBruijn64tab"], apart := false, laid := [("math/bits.deBruijn64tab", laid_math_bits_deBruijn64tab)], narrowed := true }
def FnLeakedCellsUptoSaid : Prop := fnLeakedCellsUptoRow.holds Tryd.pinned (OpenSpec.upto fnLeakedCellsSpec)

/-- 'laws.FnSweepCells', WHERE WHAT IT READS IS OF BULK AT MOST 1048576: true; the input reads as it did. -/
def fnSweepCellsUptoRow : OpenClaim := { program := "ythmddmddcdofaaadoor", sum := "e59d7d2d8164fa83b1ac0103faba042abc6e351b6762dcbe05f8db61942b2412", func := "loop.example/memorymanagers/laws.FnSweepCells", spec := "fnSweepCells", named := ["math/bits.deBruijn64tab"], apart := false, laid := [("math/bits.deBruijn64tab", laid_math_bits_deBruijn64tab)], narrowed := true }
def FnSweepCellsUptoSaid : Prop := fnSweepCellsUptoRow.holds Tryd.pinned (OpenSpec.upto fnSweepCellsSpec)

/-- 'laws.FnCollectSweep', WHERE WHAT IT READS IS OF BULK AT MOST 1048576: true; the input reads as it did. -/
def fnCollectSweepUptoRow : OpenClaim := { program := "ythmddmddcdofaaadoor", sum := "e59d7d2d8164fa83b1ac0103faba042abc6e351b6762dcbe05f8db61942b2412", func := "loop.example/memorymanagers/laws.FnCollectSweep", spec := "fnCollectSweep", named := ["math/bits.deBruijn64tab"], apart := false, laid := [("math/bits.deBruijn64tab", laid_math_bits_deBruijn64tab)], narrowed := true }
def FnCollectSweepUptoSaid : Prop := fnCollectSweepUptoRow.holds Tryd.pinned (OpenSpec.upto fnCollectSweepSpec)

/-- 'laws.FnStepSweep', WHERE WHAT IT READS IS OF BULK AT MOST 1048576: true; the input reads as it did. -/
def fnStepSweepUptoRow : OpenClaim := { program := "ythmddmddcdofaaadoor", sum := "e59d7d2d8164fa83b1ac0103faba042abc6e351b6762dcbe05f8db61942b2412", func := "loop.example/memorymanagers/laws.FnStepSweep", spec := "fnStepSweep", unfollowed := true, recurses := true, named := ["math/bits.deBruijn64tab"], apart := false, laid := [("math/bits.deBruijn64tab", laid_math_bits_deBruijn64tab)], narrowed := true }
def FnStepSweepUptoSaid : Prop := fnStepSweepUptoRow.holds Tryd.pinned (OpenSpec.upto fnStepSweepSpec)

/-- 'laws.FnSweepTwice', WHERE WHAT IT READS IS OF BULK AT MOST 1048576: true; the input reads as it did. -/
def fnSweepTwiceUptoRow : OpenClaim := { program := "ythmddmddcdofaaadoor", sum := "e59d7d2d8164fa83b1ac0103faba042abc6e351b6762dcbe05f8db61942b2412", func := "loop.example/memorymanagers/laws.FnSweepTwice", spec := "fnSweepTwice", recurses := true, named := ["math/bits.deBruijn64tab"], apart := false, laid := [("math/bits.deBruijn64tab", laid_math_bits_deBruijn64tab)], narrowed := true }
def FnSweepTwiceUptoSaid : Prop := fnSweepTwiceUptoRow.holds Tryd.pinned (OpenSpec.upto fnSweepTwiceSpec)

/-- 'laws.FnExactSweepCells', WHERE WHAT IT READS IS OF BULK AT MOST 1048576: true; the input reads as it did. -/
def fnExactSweepCellsUptoRow : OpenClaim := { program := "ythmddmddcdofaaadoor", sum := "e59d7d2d8164fa83b1ac0103faba042abc6e351b6762dcbe05f8db61942b2412", func := "loop.example/memorymanagers/laws.FnExactSweepCells", spec := "fnExactSweepCells", named := ["math/bits.deBruijn64tab"], apart := false, laid := [("math/bits.deBruijn64tab", laid_math_bits_deBruijn64tab)], narrowed := true }
def FnExactSweepCellsUptoSaid : Prop := fnExactSweepCellsUptoRow.holds Tryd.pinned (OpenSpec.upto fnExactSweepCellsSpec)

/-- 'laws.FnExactCollectSweep', WHERE WHAT IT READS IS OF BULK AT MOST 1048576: true; the input reads as it did. -/
def fnExactCollectSweepUptoRow : OpenClaim := { program := "ythmddmddcdofaaadoor", sum := "e59d7d2d8164fa83b1ac0103faba042abc6e351b6762dcbe05f8db61942b2412", func := "loop.example/memorymanagers/laws.FnExactCollectSweep", spec := "fnExactCollectSweep", named := ["math/bits.deBruijn64tab"], apart := false, laid := [("math/bits.deBruijn64tab", laid_math_bits_deBruijn64tab)], narrowed := true }
def FnExactCollectSweepUptoSaid : Prop := fnExactCollectSweepUptoRow.holds Tryd.pinned (OpenSpec.upto fnExactCollectSweepSpec)

/-- 'laws.FnExactStepSweep', WHERE WHAT IT READS IS OF BULK AT MOST 1048576: true; the input reads as it did. -/
def fnExactStepSweepUptoRow : OpenClaim := { program := "ythmddmddcdofaaadoor", sum := "e59d7d2d8164fa83b1ac0103faba042abc6e351b6762dcbe05f8db61942b2412", func := "loop.example/memorymanagers/laws.FnExactStepSweep", spec := "fnExactStepSweep", unfollowed := true, recurses := true, named := ["math/bits.deBruijn64tab"], apart := false, laid := [("math/bits.deBruijn64tab", laid_math_bits_deBruijn64tab)], narrowed := true }
def FnExactStepSweepUptoSaid : Prop := fnExactStepSweepUptoRow.holds Tryd.pinned (OpenSpec.upto fnExactStepSweepSpec)

/-- 'laws.FnExactRunSweep', WHERE WHAT IT READS IS OF BULK AT MOST 1048576: true; the input reads as it did. -/
def fnExactRunSweepUptoRow : OpenClaim := { program := "ythmddmddcdofaaadoor", sum := "e59d7d2d8164fa83b1ac0103faba042abc6e351b6762dcbe05f8db61942b2412", func := "loop.example/memorymanagers/laws.FnExactRunSweep", spec := "fnExactRunSweep", unfollowed := true, recurses := true, named := ["math/bits.deBruijn64tab"], apart := false, laid := [("math/bits.deBruijn64tab", laid_math_bits_deBruijn64tab)], narrowed := true }
def FnExactRunSweepUptoSaid : Prop := fnExactRunSweepUptoRow.holds Tryd.pinned (OpenSpec.upto fnExactRunSweepSpec)

end Rows
end Go.Proofs.YthmddmddcdofaaaDoor
