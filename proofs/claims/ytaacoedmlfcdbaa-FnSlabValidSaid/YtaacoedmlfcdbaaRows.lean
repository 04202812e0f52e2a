/-
  No cell of these rows narrows 'for every input' (looked for: loops, veiled, ifaces, maps, wideKeys, modest, calm, conditions, laid).
  DERIVED. THE GIVEN ROWS OF THIS SEAT. 4 by the template 'for every input the law returns true; each argument reads behind the call as it read before'; 0 by the template 'total and deterministic' (their statements: YtaacoedmlfcdbaaTotals.lean).
  GIVEN WITH THE SEED: the statements are not yours to turn. If you find one false, say at which input.
  Laid BY PROGRAM, IN A SANDBOX (cutbox-rows.mjs): the forced cells as the released guide's own fill.sh prints them over the translation 9e4d8bd89a5e523f… (all of the seat's roots in one cut). By AI agents, Wed Nov 11 2026. No macro, syntax, notation, axiom, sorry.
-/
import Derived.Test.YtaacoedmlfcdbaaChecked
import GoSem.Claim
import GoSem.ClaimJoined
import GoSem.ClaimMapViews
import Derived.JoinedTies
import Derived.KernelRfl
namespace Go.Proofs.Ytaacoedmlfcdbaa
/- THE CELL 'sum', in the pinned program and in every row, IS THE sha256 OF THE DUMP (.gsa) THAT YtaacoedmlfcdbaaProg.lean LOADS. Nothing in Lean hashes anything: it is a label: what it is worth is what the hold of that sum in a sandbox is worth. -/
noncomputable def Try.pinned : Pinned := { name := "ytaacoedmlfcdbaa", sum := "9e4d8bd89a5e523f9288c4d90c2a5fdd7fffc91e3dea6732d67f8f063ff97226", checked := Try.checked }
namespace Rows
def none {H : Type} : Left H := { results := [], args := [] }

/-- 'laws.FnSlabValid': WHATEVER THE INPUT: true; the input reads as it did. -/
def fnSlabValidSpec : ChangeSpec := { name := "fnSlabValid", fn := fun _ => fun
  | [d] => { results := [.lit (.bool true)], args := [d] }
  | _ => none }
def fnSlabValidRow : OpenClaim := { program := "ytaacoedmlfcdbaa", sum := "9e4d8bd89a5e523f9288c4d90c2a5fdd7fffc91e3dea6732d67f8f063ff97226", func := "loop.example/memorymanagers/laws.FnSlabValid", spec := "fnSlabValid", apart := false }
def FnSlabValidSaid : Prop := fnSlabValidRow.holds Try.pinned (OpenSpec.ofChange fnSlabValidSpec)

/-- ITS FALSE NEIGHBOUR: 'it returns false'. Refute it at one input. -/
def fnSlabValidWrong : ChangeSpec := { name := "fnSlabValid", fn := fun _ => fun
  | [d] => { results := [.lit (.bool false)], args := [d] }
  | _ => none }
def FnSlabValidWrongFalsely : Prop := fnSlabValidRow.holds Try.pinned (OpenSpec.ofChange fnSlabValidWrong)

/-- 'laws.FnSlabGive': WHATEVER THE INPUT: true; the input reads as it did. -/
def fnSlabGiveSpec : ChangeSpec := { name := "fnSlabGive", fn := fun _ => fun
  | [d] => { results := [.lit (.bool true)], args := [d] }
  | _ => none }
def fnSlabGiveRow : OpenClaim := { program := "ytaacoedmlfcdbaa", sum := "9e4d8bd89a5e523f9288c4d90c2a5fdd7fffc91e3dea6732d67f8f063ff97226", func := "loop.example/memorymanagers/laws.FnSlabGive", spec := "fnSlabGive", apart := false }
def FnSlabGiveSaid : Prop := fnSlabGiveRow.holds Try.pinned (OpenSpec.ofChange fnSlabGiveSpec)

/-- ITS FALSE NEIGHBOUR: 'it returns false'. Refute it at one input. -/
def fnSlabGiveWrong : ChangeSpec := { name := "fnSlabGive", fn := fun _ => fun
  | [d] => { results := [.lit (.bool false)], args := [d] }
  | _ => none }
def FnSlabGiveWrongFalsely : Prop := fnSlabGiveRow.holds Try.pinned (OpenSpec.ofChange fnSlabGiveWrong)

/-- 'laws.FnExactSlabValid': WHATEVER THE INPUT: true; the input reads as it did. -/
def fnExactSlabValidSpec : ChangeSpec := { name := "fnExactSlabValid", fn := fun _ => fun
  | [d] => { results := [.lit (.bool true)], args := [d] }
  | _ => none }
def fnExactSlabValidRow : OpenClaim := { program := "ytaacoedmlfcdbaa", sum := "9e4d8bd89a5e523f9288c4d90c2a5fdd7fffc91e3dea6732d67f8f063ff97226", func := "loop.example/memorymanagers/laws.FnExactSlabValid", spec := "fnExactSlabValid", apart := false }
def FnExactSlabValidSaid : Prop := fnExactSlabValidRow.holds Try.pinned (OpenSpec.ofChange fnExactSlabValidSpec)

/-- ITS FALSE NEIGHBOUR: 'it returns false'. Refute it at one input. -/
def fnExactSlabValidWrong : ChangeSpec := { name := "fnExactSlabValid", fn := fun _ => fun
  | [d] => { results := [.lit (.bool false)], args := [d] }
  | _ => none }
def FnExactSlabValidWrongFalsely : Prop := fnExactSlabValidRow.holds Try.pinned (OpenSpec.ofChange fnExactSlabValidWrong)

/-- 'laws.FnExactSlabGive': WHATEVER THE INPUT: true; the input reads as it did. -/
def fnExactSlabGiveSpec : ChangeSpec := { name := "fnExactSlabGive", fn := fun _ => fun
  | [d1, d2] => { results := [.lit (.bool true)], args := [d1, d2] }
  | _ => none }
def fnExactSlabGiveRow : OpenClaim := { program := "ytaacoedmlfcdbaa", sum := "9e4d8bd89a5e523f9288c4d90c2a5fdd7fffc91e3dea6732d67f8f063ff97226", func := "loop.example/memorymanagers/laws.FnExactSlabGive", spec := "fnExactSlabGive", apart := false }
def FnExactSlabGiveSaid : Prop := fnExactSlabGiveRow.holds Try.pinned (OpenSpec.ofChange fnExactSlabGiveSpec)

/-- ITS FALSE NEIGHBOUR: 'it returns false'. Refute it at one input. -/
def fnExactSlabGiveWrong : ChangeSpec := { name := "fnExactSlabGive", fn := fun _ => fun
  | [d1, d2] => { results := [.lit (.bool false)], args := [d1, d2] }
  | _ => none }
def FnExactSlabGiveWrongFalsely : Prop := fnExactSlabGiveRow.holds Try.pinned (OpenSpec.ofChange fnExactSlabGiveWrong)

/- THE SECOND FORM. 'bulk': how many values and letters a reading holds, each counted each time it is reached (what is shared counts as often as it is met; a slice's spare places count too). A statement '..UptoSaid' is the law's where the arguments, and the package variables that the reading takes, are together of bulk at most 1048576: NARROWER than '..Said'. Prove '..Said' where nothing that the law and all that it calls make is longer than what came in: it says more and counts as full. Else prove '..UptoSaid'. A law counts once. -/
mutual
def uptoBulk {H : Type} : DataW H → Nat
  | .lit (.string bytes) => bytes.length + 1
  | .lit _ => 1
  | .nil => 1
  | .ptr d => uptoBulk d + 1
  | .slice elems spare => uptoBulkAll elems + uptoBulkAll spare + 1
  | .agg parts => uptoBulkAll parts + 1
  | .iface _ d => uptoBulk d + 1
  | .map entries => uptoBulkEntries entries + 1
  | .held _ => 1
def uptoBulkAll {H : Type} : List (DataW H) → Nat
  | [] => 0
  | d :: r => uptoBulk d + uptoBulkAll r
def uptoBulkEntries {H : Type} : List (Lit × DataW H) → Nat
  | [] => 0
  | x :: r => uptoBulkEntry x + uptoBulkEntries r
def uptoBulkEntry {H : Type} : Lit × DataW H → Nat
  | (.string bytes, d) => bytes.length + uptoBulk d + 1
  | (_, d) => uptoBulk d + 1
 end
def uptoSmall : (H : Type) → List (DataW H) → Bool := fun _ ds => decide (uptoBulkAll ds ≤ 1048576)
def OpenSpec.upto (s : _root_.Go.ChangeSpec) : _root_.Go.OpenSpec := { _root_.Go.OpenSpec.ofChange s with cond := some uptoSmall }

/-- 'laws.FnSlabValid', WHERE WHAT IT READS IS OF BULK AT MOST 1048576: true; the input reads as it did. -/
def fnSlabValidUptoRow : OpenClaim := { program := "ytaacoedmlfcdbaa", sum := "9e4d8bd89a5e523f9288c4d90c2a5fdd7fffc91e3dea6732d67f8f063ff97226", func := "loop.example/memorymanagers/laws.FnSlabValid", spec := "fnSlabValid", apart := false, narrowed := true }
def FnSlabValidUptoSaid : Prop := fnSlabValidUptoRow.holds Try.pinned (OpenSpec.upto fnSlabValidSpec)

/-- 'laws.FnSlabGive', WHERE WHAT IT READS IS OF BULK AT MOST 1048576: true; the input reads as it did. -/
def fnSlabGiveUptoRow : OpenClaim := { program := "ytaacoedmlfcdbaa", sum := "9e4d8bd89a5e523f9288c4d90c2a5fdd7fffc91e3dea6732d67f8f063ff97226", func := "loop.example/memorymanagers/laws.FnSlabGive", spec := "fnSlabGive", apart := false, narrowed := true }
def FnSlabGiveUptoSaid : Prop := fnSlabGiveUptoRow.holds Try.pinned (OpenSpec.upto fnSlabGiveSpec)

/-- 'laws.FnExactSlabValid', WHERE WHAT IT READS IS OF BULK AT MOST 1048576: true; the input reads as it did. -/
def fnExactSlabValidUptoRow : OpenClaim := { program := "ytaacoedmlfcdbaa", sum := "9e4d8bd89a5e523f9288c4d90c2a5fdd7fffc91e3dea6732d67f8f063ff97226", func := "loop.example/memorymanagers/laws.FnExactSlabValid", spec := "fnExactSlabValid", apart := false, narrowed := true }
def FnExactSlabValidUptoSaid : Prop := fnExactSlabValidUptoRow.holds Try.pinned (OpenSpec.upto fnExactSlabValidSpec)

/-- 'laws.FnExactSlabGive', WHERE WHAT IT READS IS OF BULK AT MOST 1048576: true; the input reads as it did. -/
def fnExactSlabGiveUptoRow : OpenClaim := { program := "ytaacoedmlfcdbaa", sum := "9e4d8bd89a5e523f9288c4d90c2a5fdd7fffc91e3dea6732d67f8f063ff97226", func := "loop.example/memorymanagers/laws.FnExactSlabGive", spec := "fnExactSlabGive", apart := false, narrowed := true }
def FnExactSlabGiveUptoSaid : Prop := fnExactSlabGiveUptoRow.holds Try.pinned (OpenSpec.upto fnExactSlabGiveSpec)

end Rows
end Go.Proofs.Ytaacoedmlfcdbaa
