/-
  No cell of these rows narrows 'for every input' (looked for: loops, veiled, ifaces, maps, wideKeys, modest, calm, conditions, laid).
  DERIVED. THE GIVEN ROWS OF THIS SEAT. 7 by the template 'for every input the law returns true; each argument reads behind the call as it read before'; 0 by the template 'total and deterministic' (their statements: YtbcefmkgifkjiaaTotals.lean).
  GIVEN WITH THE SEED: the statements are not yours to turn. If you find one false, say at which input.
  Laid BY PROGRAM, IN A SANDBOX (cutbox-rows.mjs): the forced cells as the released guide's own fill.sh prints them over the translation a873f3cca3529bf9… (all of the seat's roots in one cut). By AI agents, Wed Nov 11 2026. No macro, syntax, notation, axiom, sorry.
-/
import Derived.Test.YtbcefmkgifkjiaaChecked
import GoSem.Claim
import GoSem.ClaimJoined
import GoSem.ClaimMapViews
import Derived.JoinedTies
import Derived.KernelRfl
namespace Go.Proofs.Ytbcefmkgifkjiaa
/- THE CELL 'sum', in the pinned program and in every row, IS THE sha256 OF THE DUMP (.gsa) THAT YtbcefmkgifkjiaaProg.lean LOADS. Nothing in Lean hashes anything: it is a label: what it is worth is what the hold of that sum in a sandbox is worth. -/
noncomputable def Try.pinned : Pinned := { name := "ytbcefmkgifkjiaa", sum := "a873f3cca3529bf9f3fe188c6ec95787bd8a8145d72cfa5f8222bdc0874d905b", checked := Try.checked }
namespace Rows
def none {H : Type} : Left H := { results := [], args := [] }

/-- 'laws.FnMetOrder': WHATEVER THE INPUT: true; the input reads as it did. -/
def fnMetOrderSpec : ChangeSpec := { name := "fnMetOrder", fn := fun _ => fun
  | [d] => { results := [.lit (.bool true)], args := [d] }
  | _ => none }
def fnMetOrderRow : OpenClaim := { program := "ytbcefmkgifkjiaa", sum := "a873f3cca3529bf9f3fe188c6ec95787bd8a8145d72cfa5f8222bdc0874d905b", func := "loop.example/memorymanagers/laws.FnMetOrder", spec := "fnMetOrder", apart := false }
def FnMetOrderSaid : Prop := fnMetOrderRow.holds Try.pinned (OpenSpec.ofChange fnMetOrderSpec)

/-- ITS FALSE NEIGHBOUR: 'it returns false'. Refute it at one input. -/
def fnMetOrderWrong : ChangeSpec := { name := "fnMetOrder", fn := fun _ => fun
  | [d] => { results := [.lit (.bool false)], args := [d] }
  | _ => none }
def FnMetOrderWrongFalsely : Prop := fnMetOrderRow.holds Try.pinned (OpenSpec.ofChange fnMetOrderWrong)

/-- 'laws.FnSameView': WHATEVER THE INPUT: true; the input reads as it did. -/
def fnSameViewSpec : ChangeSpec := { name := "fnSameView", fn := fun _ => fun
  | [d1, d2] => { results := [.lit (.bool true)], args := [d1, d2] }
  | _ => none }
def fnSameViewRow : OpenClaim := { program := "ytbcefmkgifkjiaa", sum := "a873f3cca3529bf9f3fe188c6ec95787bd8a8145d72cfa5f8222bdc0874d905b", func := "loop.example/memorymanagers/laws.FnSameView", spec := "fnSameView", unfollowed := true, recurses := true, apart := false }
def FnSameViewSaid : Prop := fnSameViewRow.holds Try.pinned (OpenSpec.ofChange fnSameViewSpec)

/-- ITS FALSE NEIGHBOUR: 'it returns false'. Refute it at one input. -/
def fnSameViewWrong : ChangeSpec := { name := "fnSameView", fn := fun _ => fun
  | [d1, d2] => { results := [.lit (.bool false)], args := [d1, d2] }
  | _ => none }
def FnSameViewWrongFalsely : Prop := fnSameViewRow.holds Try.pinned (OpenSpec.ofChange fnSameViewWrong)

/-- 'laws.FnHeapOf': WHATEVER THE INPUT: true; the input reads as it did. -/
def fnHeapOfSpec : ChangeSpec := { name := "fnHeapOf", fn := fun _ => fun
  | [d] => { results := [.lit (.bool true)], args := [d] }
  | _ => none }
def fnHeapOfRow : OpenClaim := { program := "ytbcefmkgifkjiaa", sum := "a873f3cca3529bf9f3fe188c6ec95787bd8a8145d72cfa5f8222bdc0874d905b", func := "loop.example/memorymanagers/laws.FnHeapOf", spec := "fnHeapOf", apart := false }
def FnHeapOfSaid : Prop := fnHeapOfRow.holds Try.pinned (OpenSpec.ofChange fnHeapOfSpec)

/-- ITS FALSE NEIGHBOUR: 'it returns false'. Refute it at one input. -/
def fnHeapOfWrong : ChangeSpec := { name := "fnHeapOf", fn := fun _ => fun
  | [d] => { results := [.lit (.bool false)], args := [d] }
  | _ => none }
def FnHeapOfWrongFalsely : Prop := fnHeapOfRow.holds Try.pinned (OpenSpec.ofChange fnHeapOfWrong)

/-- 'laws.FnExactMetOrder': WHATEVER THE INPUT: true; the input reads as it did. -/
def fnExactMetOrderSpec : ChangeSpec := { name := "fnExactMetOrder", fn := fun _ => fun
  | [d] => { results := [.lit (.bool true)], args := [d] }
  | _ => none }
def fnExactMetOrderRow : OpenClaim := { program := "ytbcefmkgifkjiaa", sum := "a873f3cca3529bf9f3fe188c6ec95787bd8a8145d72cfa5f8222bdc0874d905b", func := "loop.example/memorymanagers/laws.FnExactMetOrder", spec := "fnExactMetOrder", apart := false }
def FnExactMetOrderSaid : Prop := fnExactMetOrderRow.holds Try.pinned (OpenSpec.ofChange fnExactMetOrderSpec)

/-- ITS FALSE NEIGHBOUR: 'it returns false'. Refute it at one input. -/
def fnExactMetOrderWrong : ChangeSpec := { name := "fnExactMetOrder", fn := fun _ => fun
  | [d] => { results := [.lit (.bool false)], args := [d] }
  | _ => none }
def FnExactMetOrderWrongFalsely : Prop := fnExactMetOrderRow.holds Try.pinned (OpenSpec.ofChange fnExactMetOrderWrong)

/-- 'laws.FnExactViewOf': WHATEVER THE INPUT: true; the input reads as it did. -/
def fnExactViewOfSpec : ChangeSpec := { name := "fnExactViewOf", fn := fun _ => fun
  | [d] => { results := [.lit (.bool true)], args := [d] }
  | _ => none }
def fnExactViewOfRow : OpenClaim := { program := "ytbcefmkgifkjiaa", sum := "a873f3cca3529bf9f3fe188c6ec95787bd8a8145d72cfa5f8222bdc0874d905b", func := "loop.example/memorymanagers/laws.FnExactViewOf", spec := "fnExactViewOf", apart := false }
def FnExactViewOfSaid : Prop := fnExactViewOfRow.holds Try.pinned (OpenSpec.ofChange fnExactViewOfSpec)

/-- ITS FALSE NEIGHBOUR: 'it returns false'. Refute it at one input. -/
def fnExactViewOfWrong : ChangeSpec := { name := "fnExactViewOf", fn := fun _ => fun
  | [d] => { results := [.lit (.bool false)], args := [d] }
  | _ => none }
def FnExactViewOfWrongFalsely : Prop := fnExactViewOfRow.holds Try.pinned (OpenSpec.ofChange fnExactViewOfWrong)

/-- 'laws.FnExactSameView': WHATEVER THE INPUT: true; the input reads as it did. -/
def fnExactSameViewSpec : ChangeSpec := { name := "fnExactSameView", fn := fun _ => fun
  | [d1, d2] => { results := [.lit (.bool true)], args := [d1, d2] }
  | _ => none }
def fnExactSameViewRow : OpenClaim := { program := "ytbcefmkgifkjiaa", sum := "a873f3cca3529bf9f3fe188c6ec95787bd8a8145d72cfa5f8222bdc0874d905b", func := "loop.example/memorymanagers/laws.FnExactSameView", spec := "fnExactSameView", apart := false }
def FnExactSameViewSaid : Prop := fnExactSameViewRow.holds Try.pinned (OpenSpec.ofChange fnExactSameViewSpec)

/-- ITS FALSE NEIGHBOUR: 'it returns false'. Refute it at one input. -/
def fnExactSameViewWrong : ChangeSpec := { name := "fnExactSameView", fn := fun _ => fun
  | [d1, d2] => { results := [.lit (.bool false)], args := [d1, d2] }
  | _ => none }
def FnExactSameViewWrongFalsely : Prop := fnExactSameViewRow.holds Try.pinned (OpenSpec.ofChange fnExactSameViewWrong)

/-- 'laws.FnExactHeapOf': WHATEVER THE INPUT: true; the input reads as it did. -/
def fnExactHeapOfSpec : ChangeSpec := { name := "fnExactHeapOf", fn := fun _ => fun
  | [d] => { results := [.lit (.bool true)], args := [d] }
  | _ => none }
def fnExactHeapOfRow : OpenClaim := { program := "ytbcefmkgifkjiaa", sum := "a873f3cca3529bf9f3fe188c6ec95787bd8a8145d72cfa5f8222bdc0874d905b", func := "loop.example/memorymanagers/laws.FnExactHeapOf", spec := "fnExactHeapOf", apart := false }
def FnExactHeapOfSaid : Prop := fnExactHeapOfRow.holds Try.pinned (OpenSpec.ofChange fnExactHeapOfSpec)

/-- ITS FALSE NEIGHBOUR: 'it returns false'. Refute it at one input. -/
def fnExactHeapOfWrong : ChangeSpec := { name := "fnExactHeapOf", fn := fun _ => fun
  | [d] => { results := [.lit (.bool false)], args := [d] }
  | _ => none }
def FnExactHeapOfWrongFalsely : Prop := fnExactHeapOfRow.holds Try.pinned (OpenSpec.ofChange fnExactHeapOfWrong)

/- THE SECOND FORM. 'bulk': how many values and letters a reading holds, each counted each time it is reached (what is shared counts as often as it is met; a slice's spare places count too). A statement '..UptoSaid' is the law's where the arguments, and the package variables that the reading takes, are together of bulk at most 1048576: NARROWER than '..Said'. Prove '..Said' where nothing that the law and all that it calls make is longer than what came in: it says more and counts as full. Else prove '..UptoSaid'. A law counts once. -/
mutual
def uptoBulk {H : Type} : DataW H → Nat
  | .lit (.string bytes) => bytes.length + 1
  | .lit _ => 1
  | .nil => 1
  | .ptr d => uptoBulk d + 1
  | .slice elems spare => uptoBulkAll elems + uptoBulkAll spare + 1
  | .agg parts => uptoBulkAll parts + 1
  | .iface _ d => uptoBulk d + 1
  | .map entries => uptoBulkEntries entries + 1
  | .held _ => 1
def uptoBulkAll {H : Type} : List (DataW H) → Nat
  | [] => 0
  | d :: r => uptoBulk d + uptoBulkAll r
def uptoBulkEntries {H : Type} : List (Lit × DataW H) → Nat
  | [] => 0
  | x :: r => uptoBulkEntry x + uptoBulkEntries r
def uptoBulkEntry {H : Type} : Lit × DataW H → Nat
  | (.string bytes, d) => bytes.length + uptoBulk d + 1
  | (_, d) => uptoBulk d + 1
 end
def uptoSmall : (H : Type) → List (DataW H) → Bool := fun _ ds => decide (uptoBulkAll ds ≤ 1048576)
def OpenSpec.upto (s : _root_.Go.ChangeSpec) : _root_.Go.OpenSpec := { _root_.Go.OpenSpec.ofChange s with cond := some uptoSmall }

/-- 'laws.FnMetOrder', WHERE WHAT IT READS IS OF BULK AT MOST 1048576: true; the input reads as it did. -/
def fnMetOrderUptoRow : OpenClaim := { program := "ytbcefmkgifkjiaa", sum := "a873f3cca3529bf9f3fe188c6ec95787bd8a8145d72cfa5f8222bdc0874d905b", func := "loop.example/memorymanagers/laws.FnMetOrder", spec := "fnMetOrder", apart := false, narrowed := true }
def FnMetOrderUptoSaid : Prop := fnMetOrderUptoRow.holds Try.pinned (OpenSpec.upto fnMetOrderSpec)

/-- 'laws.FnSameView', WHERE WHAT IT READS IS OF BULK AT MOST 1048576: true; the input reads as it did. -/
def fnSameViewUptoRow : OpenClaim := { program := "ytbcefmkgifkjiaa", sum := "a873f3cca3529bf9f3fe188c6ec95787bd8a8145d72cfa5f8222bdc0874d905b", func := "loop.example/memorymanagers/laws.FnSameView", spec := "fnSameView", unfollowed := true, recurses := true, apart := false, narrowed := true }
def FnSameViewUptoSaid : Prop := fnSameViewUptoRow.holds Try.pinned (OpenSpec.upto fnSameViewSpec)

/-- 'laws.FnHeapOf', WHERE WHAT IT READS IS OF BULK AT MOST 1048576: true; the input reads as it did. -/
def fnHeapOfUptoRow : OpenClaim := { program := "ytbcefmkgifkjiaa", sum := "a873f3cca3529bf9f3fe188c6ec95787bd8a8145d72cfa5f8222bdc0874d905b", func := "loop.example/memorymanagers/laws.FnHeapOf", spec := "fnHeapOf", apart := false, narrowed := true }
def FnHeapOfUptoSaid : Prop := fnHeapOfUptoRow.holds Try.pinned (OpenSpec.upto fnHeapOfSpec)

/-- 'laws.FnExactMetOrder', WHERE WHAT IT READS IS OF BULK AT MOST 1048576: true; the input reads as it did. -/
def fnExactMetOrderUptoRow : OpenClaim := { program := "ytbcefmkgifkjiaa", sum := "a873f3cca3529bf9f3fe188c6ec95787bd8a8145d72cfa5f8222bdc0874d905b", func := "loop.example/memorymanagers/laws.FnExactMetOrder", spec := "fnExactMetOrder", apart := false, narrowed := true }
def FnExactMetOrderUptoSaid : Prop := fnExactMetOrderUptoRow.holds Try.pinned (OpenSpec.upto fnExactMetOrderSpec)

/-- 'laws.FnExactViewOf', WHERE WHAT IT READS IS OF BULK AT MOST 1048576: true; the input reads as it did. -/
def fnExactViewOfUptoRow : OpenClaim := { program := "ytbcefmkgifkjiaa", sum := "a873f3cca3529bf9f3fe188c6ec95787bd8a8145d72cfa5f8222bdc0874d905b", func := "loop.example/memorymanagers/laws.FnExactViewOf", spec := "fnExactViewOf", apart := false, narrowed := true }
def FnExactViewOfUptoSaid : Prop := fnExactViewOfUptoRow.holds Try.pinned (OpenSpec.upto fnExactViewOfSpec)

/-- 'laws.FnExactSameView', WHERE WHAT IT READS IS OF BULK AT MOST 1048576: true; the input reads as it did. -/
def fnExactSameViewUptoRow : OpenClaim := { program := "ytbcefmkgifkjiaa", sum := "a873f3cca3529bf9f3fe188c6ec95787bd8a8145d72cfa5f8222bdc0874d905b", func := "loop.example/memorymanagers/laws.FnExactSameView", spec := "fnExactSameView", apart := false, narrowed := true }
def FnExactSameViewUptoSaid : Prop := fnExactSameViewUptoRow.holds Try.pinned (OpenSpec.upto fnExactSameViewSpec)

/-- 'laws.FnExactHeapOf', WHERE WHAT IT READS IS OF BULK AT MOST 1048576: true; the input reads as it did. -/
def fnExactHeapOfUptoRow : OpenClaim := { program := "ytbcefmkgifkjiaa", sum := "a873f3cca3529bf9f3fe188c6ec95787bd8a8145d72cfa5f8222bdc0874d905b", func := "loop.example/memorymanagers/laws.FnExactHeapOf", spec := "fnExactHeapOf", apart := false, narrowed := true }
def FnExactHeapOfUptoSaid : Prop := fnExactHeapOfUptoRow.holds Try.pinned (OpenSpec.upto fnExactHeapOfSpec)

end Rows
end Go.Proofs.Ytbcefmkgifkjiaa
