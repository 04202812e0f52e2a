/-
  No cell of these rows narrows 'for every input' (looked for: loops, veiled, ifaces, maps, wideKeys, modest, calm, conditions, laid).
  DERIVED. THE GIVEN ROWS OF THIS SEAT. 9 by the template 'for every input the law returns true; each argument reads behind the call as it read before'; 0 by the template 'total and deterministic' (their statements: YtafnhapaaiokaaaTotals.lean).
  GIVEN WITH THE SEED: the statements are not yours to turn. If you find one false, say at which input.
  Laid BY PROGRAM, IN A SANDBOX (cutbox-rows.mjs): the forced cells as the released guide's own fill.sh prints them over the translation a8d81c7c3ac90070… (all of the seat's roots in one cut). By AI agents, Wed Nov 11 2026. No macro, syntax, notation, axiom, sorry.
-/
import Derived.Test.YtafnhapaaiokaaaChecked
import GoSem.Claim
import GoSem.ClaimJoined
import GoSem.ClaimMapViews
import Derived.JoinedTies
import Derived.KernelRfl
namespace Go.Proofs.Ytafnhapaaiokaaa
/- THE CELL 'sum', in the pinned program and in every row, IS THE sha256 OF THE DUMP (.gsa) THAT YtafnhapaaiokaaaProg.lean LOADS. Nothing in Lean hashes anything: it is a label: what it is worth is what the hold of that sum in a sandbox is worth. -/
noncomputable def Try.pinned : Pinned := { name := "ytafnhapaaiokaaa", sum := "a8d81c7c3ac90070e0d92bb9c4dbe9a4ba8d1a0beeda0550a111612fb48cce4f", checked := Try.checked }
namespace Rows
def none {H : Type} : Left H := { results := [], args := [] }

/-- 'laws.FnBlocksValid': WHATEVER THE INPUT: true; the input reads as it did. -/
def fnBlocksValidSpec : ChangeSpec := { name := "fnBlocksValid", fn := fun _ => fun
  | [d] => { results := [.lit (.bool true)], args := [d] }
  | _ => none }
def fnBlocksValidRow : OpenClaim := { program := "ytafnhapaaiokaaa", sum := "a8d81c7c3ac90070e0d92bb9c4dbe9a4ba8d1a0beeda0550a111612fb48cce4f", func := "loop.example/memorymanagers/laws.FnBlocksValid", spec := "fnBlocksValid", apart := false }
def FnBlocksValidSaid : Prop := fnBlocksValidRow.holds Try.pinned (OpenSpec.ofChange fnBlocksValidSpec)

/-- ITS FALSE NEIGHBOUR: 'it returns false'. Refute it at one input. -/
def fnBlocksValidWrong : ChangeSpec := { name := "fnBlocksValid", fn := fun _ => fun
  | [d] => { results := [.lit (.bool false)], args := [d] }
  | _ => none }
def FnBlocksValidWrongFalsely : Prop := fnBlocksValidRow.holds Try.pinned (OpenSpec.ofChange fnBlocksValidWrong)

/-- 'laws.FnNewBlocks': WHATEVER THE INPUT: true; the input reads as it did. -/
def fnNewBlocksSpec : ChangeSpec := { name := "fnNewBlocks", fn := fun _ => fun
  | [d] => { results := [.lit (.bool true)], args := [d] }
  | _ => none }
def fnNewBlocksRow : OpenClaim := { program := "ytafnhapaaiokaaa", sum := "a8d81c7c3ac90070e0d92bb9c4dbe9a4ba8d1a0beeda0550a111612fb48cce4f", func := "loop.example/memorymanagers/laws.FnNewBlocks", spec := "fnNewBlocks", apart := false }
def FnNewBlocksSaid : Prop := fnNewBlocksRow.holds Try.pinned (OpenSpec.ofChange fnNewBlocksSpec)

/-- ITS FALSE NEIGHBOUR: 'it returns false'. Refute it at one input. -/
def fnNewBlocksWrong : ChangeSpec := { name := "fnNewBlocks", fn := fun _ => fun
  | [d] => { results := [.lit (.bool false)], args := [d] }
  | _ => none }
def FnNewBlocksWrongFalsely : Prop := fnNewBlocksRow.holds Try.pinned (OpenSpec.ofChange fnNewBlocksWrong)

/-- 'laws.FnFreeWords': WHATEVER THE INPUT: true; the input reads as it did. -/
def fnFreeWordsSpec : ChangeSpec := { name := "fnFreeWords", fn := fun _ => fun
  | [d] => { results := [.lit (.bool true)], args := [d] }
  | _ => none }
def fnFreeWordsRow : OpenClaim := { program := "ytafnhapaaiokaaa", sum := "a8d81c7c3ac90070e0d92bb9c4dbe9a4ba8d1a0beeda0550a111612fb48cce4f", func := "loop.example/memorymanagers/laws.FnFreeWords", spec := "fnFreeWords", unfollowed := true, recurses := true, apart := false }
def FnFreeWordsSaid : Prop := fnFreeWordsRow.holds Try.pinned (OpenSpec.ofChange fnFreeWordsSpec)

/-- ITS FALSE NEIGHBOUR: 'it returns false'. Refute it at one input. -/
def fnFreeWordsWrong : ChangeSpec := { name := "fnFreeWords", fn := fun _ => fun
  | [d] => { results := [.lit (.bool false)], args := [d] }
  | _ => none }
def FnFreeWordsWrongFalsely : Prop := fnFreeWordsRow.holds Try.pinned (OpenSpec.ofChange fnFreeWordsWrong)

/-- 'laws.FnBlockAt': WHATEVER THE INPUT: true; the input reads as it did. -/
def fnBlockAtSpec : ChangeSpec := { name := "fnBlockAt", fn := fun _ => fun
  | [d] => { results := [.lit (.bool true)], args := [d] }
  | _ => none }
def fnBlockAtRow : OpenClaim := { program := "ytafnhapaaiokaaa", sum := "a8d81c7c3ac90070e0d92bb9c4dbe9a4ba8d1a0beeda0550a111612fb48cce4f", func := "loop.example/memorymanagers/laws.FnBlockAt", spec := "fnBlockAt", unfollowed := true, recurses := true, apart := false }
def FnBlockAtSaid : Prop := fnBlockAtRow.holds Try.pinned (OpenSpec.ofChange fnBlockAtSpec)

/-- ITS FALSE NEIGHBOUR: 'it returns false'. Refute it at one input. -/
def fnBlockAtWrong : ChangeSpec := { name := "fnBlockAt", fn := fun _ => fun
  | [d] => { results := [.lit (.bool false)], args := [d] }
  | _ => none }
def FnBlockAtWrongFalsely : Prop := fnBlockAtRow.holds Try.pinned (OpenSpec.ofChange fnBlockAtWrong)

/-- 'laws.FnExactBlocksValid': WHATEVER THE INPUT: true; the input reads as it did. -/
def fnExactBlocksValidSpec : ChangeSpec := { name := "fnExactBlocksValid", fn := fun _ => fun
  | [d1, d2] => { results := [.lit (.bool true)], args := [d1, d2] }
  | _ => none }
def fnExactBlocksValidRow : OpenClaim := { program := "ytafnhapaaiokaaa", sum := "a8d81c7c3ac90070e0d92bb9c4dbe9a4ba8d1a0beeda0550a111612fb48cce4f", func := "loop.example/memorymanagers/laws.FnExactBlocksValid", spec := "fnExactBlocksValid", apart := false }
def FnExactBlocksValidSaid : Prop := fnExactBlocksValidRow.holds Try.pinned (OpenSpec.ofChange fnExactBlocksValidSpec)

/-- ITS FALSE NEIGHBOUR: 'it returns false'. Refute it at one input. -/
def fnExactBlocksValidWrong : ChangeSpec := { name := "fnExactBlocksValid", fn := fun _ => fun
  | [d1, d2] => { results := [.lit (.bool false)], args := [d1, d2] }
  | _ => none }
def FnExactBlocksValidWrongFalsely : Prop := fnExactBlocksValidRow.holds Try.pinned (OpenSpec.ofChange fnExactBlocksValidWrong)

/-- 'laws.FnExactNewBlocks': WHATEVER THE INPUT: true; the input reads as it did. -/
def fnExactNewBlocksSpec : ChangeSpec := { name := "fnExactNewBlocks", fn := fun _ => fun
  | [d] => { results := [.lit (.bool true)], args := [d] }
  | _ => none }
def fnExactNewBlocksRow : OpenClaim := { program := "ytafnhapaaiokaaa", sum := "a8d81c7c3ac90070e0d92bb9c4dbe9a4ba8d1a0beeda0550a111612fb48cce4f", func := "loop.example/memorymanagers/laws.FnExactNewBlocks", spec := "fnExactNewBlocks", apart := false }
def FnExactNewBlocksSaid : Prop := fnExactNewBlocksRow.holds Try.pinned (OpenSpec.ofChange fnExactNewBlocksSpec)

/-- ITS FALSE NEIGHBOUR: 'it returns false'. Refute it at one input. -/
def fnExactNewBlocksWrong : ChangeSpec := { name := "fnExactNewBlocks", fn := fun _ => fun
  | [d] => { results := [.lit (.bool false)], args := [d] }
  | _ => none }
def FnExactNewBlocksWrongFalsely : Prop := fnExactNewBlocksRow.holds Try.pinned (OpenSpec.ofChange fnExactNewBlocksWrong)

/-- 'laws.FnExactFreeWords': WHATEVER THE INPUT: true; the input reads as it did. -/
def fnExactFreeWordsSpec : ChangeSpec := { name := "fnExactFreeWords", fn := fun _ => fun
  | [d1, d2] => { results := [.lit (.bool true)], args := [d1, d2] }
  | _ => none }
def fnExactFreeWordsRow : OpenClaim := { program := "ytafnhapaaiokaaa", sum := "a8d81c7c3ac90070e0d92bb9c4dbe9a4ba8d1a0beeda0550a111612fb48cce4f", func := "loop.example/memorymanagers/laws.FnExactFreeWords", spec := "fnExactFreeWords", apart := false }
def FnExactFreeWordsSaid : Prop := fnExactFreeWordsRow.holds Try.pinned (OpenSpec.ofChange fnExactFreeWordsSpec)

/-- ITS FALSE NEIGHBOUR: 'it returns false'. Refute it at one input. -/
def fnExactFreeWordsWrong : ChangeSpec := { name := "fnExactFreeWords", fn := fun _ => fun
  | [d1, d2] => { results := [.lit (.bool false)], args := [d1, d2] }
  | _ => none }
def FnExactFreeWordsWrongFalsely : Prop := fnExactFreeWordsRow.holds Try.pinned (OpenSpec.ofChange fnExactFreeWordsWrong)

/-- 'laws.FnExactLargestFree': WHATEVER THE INPUT: true; the input reads as it did. -/
def fnExactLargestFreeSpec : ChangeSpec := { name := "fnExactLargestFree", fn := fun _ => fun
  | [d1, d2] => { results := [.lit (.bool true)], args := [d1, d2] }
  | _ => none }
def fnExactLargestFreeRow : OpenClaim := { program := "ytafnhapaaiokaaa", sum := "a8d81c7c3ac90070e0d92bb9c4dbe9a4ba8d1a0beeda0550a111612fb48cce4f", func := "loop.example/memorymanagers/laws.FnExactLargestFree", spec := "fnExactLargestFree", apart := false }
def FnExactLargestFreeSaid : Prop := fnExactLargestFreeRow.holds Try.pinned (OpenSpec.ofChange fnExactLargestFreeSpec)

/-- ITS FALSE NEIGHBOUR: 'it returns false'. Refute it at one input. -/
def fnExactLargestFreeWrong : ChangeSpec := { name := "fnExactLargestFree", fn := fun _ => fun
  | [d1, d2] => { results := [.lit (.bool false)], args := [d1, d2] }
  | _ => none }
def FnExactLargestFreeWrongFalsely : Prop := fnExactLargestFreeRow.holds Try.pinned (OpenSpec.ofChange fnExactLargestFreeWrong)

/-- 'laws.FnExactBlockAt': WHATEVER THE INPUT: true; the input reads as it did. -/
def fnExactBlockAtSpec : ChangeSpec := { name := "fnExactBlockAt", fn := fun _ => fun
  | [d1, d2, d3] => { results := [.lit (.bool true)], args := [d1, d2, d3] }
  | _ => none }
def fnExactBlockAtRow : OpenClaim := { program := "ytafnhapaaiokaaa", sum := "a8d81c7c3ac90070e0d92bb9c4dbe9a4ba8d1a0beeda0550a111612fb48cce4f", func := "loop.example/memorymanagers/laws.FnExactBlockAt", spec := "fnExactBlockAt", unfollowed := true, recurses := true, apart := false }
def FnExactBlockAtSaid : Prop := fnExactBlockAtRow.holds Try.pinned (OpenSpec.ofChange fnExactBlockAtSpec)

/-- ITS FALSE NEIGHBOUR: 'it returns false'. Refute it at one input. -/
def fnExactBlockAtWrong : ChangeSpec := { name := "fnExactBlockAt", fn := fun _ => fun
  | [d1, d2, d3] => { results := [.lit (.bool false)], args := [d1, d2, d3] }
  | _ => none }
def FnExactBlockAtWrongFalsely : Prop := fnExactBlockAtRow.holds Try.pinned (OpenSpec.ofChange fnExactBlockAtWrong)

/- THE SECOND FORM. 'bulk': how many values and letters a reading holds, each counted each time it is reached (what is shared counts as often as it is met; a slice's spare places count too). A statement '..UptoSaid' is the law's where the arguments, and the package variables that the reading takes, are together of bulk at most 1048576: NARROWER than '..Said'. Prove '..Said' where nothing that the law and all that it calls make is longer than what came in: it says more and counts as full. Else prove '..UptoSaid'. A law counts once. -/
mutual
def uptoBulk {H : Type} : DataW H → Nat
  | .lit (.string bytes) => bytes.length + 1
  | .lit _ => 1
  | .nil => 1
  | .ptr d => uptoBulk d + 1
  | .slice elems spare => uptoBulkAll elems + uptoBulkAll spare + 1
  | .agg parts => uptoBulkAll parts + 1
  | .iface _ d => uptoBulk d + 1
  | .map entries => uptoBulkEntries entries + 1
  | .held _ => 1
def uptoBulkAll {H : Type} : List (DataW H) → Nat
  | [] => 0
  | d :: r => uptoBulk d + uptoBulkAll r
def uptoBulkEntries {H : Type} : List (Lit × DataW H) → Nat
  | [] => 0
  | x :: r => uptoBulkEntry x + uptoBulkEntries r
def uptoBulkEntry {H : Type} : Lit × DataW H → Nat
  | (.string bytes, d) => bytes.length + uptoBulk d + 1
  | (_, d) => uptoBulk d + 1
 end
def uptoSmall : (H : Type) → List (DataW H) → Bool := fun _ ds => decide (uptoBulkAll ds ≤ 1048576)
def OpenSpec.upto (s : _root_.Go.ChangeSpec) : _root_.Go.OpenSpec := { _root_.Go.OpenSpec.ofChange s with cond := some uptoSmall }

/-- 'laws.FnBlocksValid', WHERE WHAT IT READS IS OF BULK AT MOST 1048576: true; the input reads as it did. -/
def fnBlocksValidUptoRow : OpenClaim := { program := "ytafnhapaaiokaaa", sum := "a8d81c7c3ac90070e0d92bb9c4dbe9a4ba8d1a0beeda0550a111612fb48cce4f", func := "loop.example/memorymanagers/laws.FnBlocksValid", spec := "fnBlocksValid", apart := false, narrowed := true }
def FnBlocksValidUptoSaid : Prop := fnBlocksValidUptoRow.holds Try.pinned (OpenSpec.upto fnBlocksValidSpec)

/-- 'laws.FnNewBlocks', WHERE WHAT IT READS IS OF BULK AT MOST 1048576: true; the input reads as it did. -/
def fnNewBlocksUptoRow : OpenClaim := { program := "ytafnhapaaiokaaa", sum := "a8d81c7c3ac90070e0d92bb9c4dbe9a4ba8d1a0beeda0550a111612fb48cce4f", func := "loop.example/memorymanagers/laws.FnNewBlocks", spec := "fnNewBlocks", apart := false, narrowed := true }
def FnNewBlocksUptoSaid : Prop := fnNewBlocksUptoRow.holds Try.pinned (OpenSpec.upto fnNewBlocksSpec)

/-- 'laws.FnFreeWords', WHERE WHAT IT READS IS OF BULK AT MOST 1048576: true; the input reads as it did. -/
def fnFreeWordsUptoRow : OpenClaim := { program := "ytafnhapaaiokaaa", sum := "a8d81c7c3ac90070e0d92bb9c4dbe9a4ba8d1a0beeda0550a111612fb48cce4f", func := "loop.example/memorymanagers/laws.FnFreeWords", spec := "fnFreeWords", unfollowed := true, recurses := true, apart := false, narrowed := true }
def FnFreeWordsUptoSaid : Prop := fnFreeWordsUptoRow.holds Try.pinned (OpenSpec.upto fnFreeWordsSpec)

/-- 'laws.FnBlockAt', WHERE WHAT IT READS IS OF BULK AT MOST 1048576: true; the input reads as it did. -/
def fnBlockAtUptoRow : OpenClaim := { program := "ytafnhapaaiokaaa", sum := "a8d81c7c3ac90070e0d92bb9c4dbe9a4ba8d1a0beeda0550a111612fb48cce4f", func := "loop.example/memorymanagers/laws.FnBlockAt", spec := "fnBlockAt", unfollowed := true, recurses := true, apart := false, narrowed := true }
def FnBlockAtUptoSaid : Prop := fnBlockAtUptoRow.holds Try.pinned (OpenSpec.upto fnBlockAtSpec)

/-- 'laws.FnExactBlocksValid', WHERE WHAT IT READS IS OF BULK AT MOST 1048576: true; the input reads as it did. -/
def fnExactBlocksValidUptoRow : OpenClaim := { program := "ytafnhapaaiokaaa", sum := "a8d81c7c3ac90070e0d92bb9c4dbe9a4ba8d1a0beeda0550a111612fb48cce4f", func := "loop.example/memorymanagers/laws.FnExactBlocksValid", spec := "fnExactBlocksValid", apart := false, narrowed := true }
def FnExactBlocksValidUptoSaid : Prop := fnExactBlocksValidUptoRow.holds Try.pinned (OpenSpec.upto fnExactBlocksValidSpec)

/-- 'laws.FnExactNewBlocks', WHERE WHAT IT READS IS OF BULK AT MOST 1048576: true; the input reads as it did. -/
def fnExactNewBlocksUptoRow : OpenClaim := { program := "ytafnhapaaiokaaa", sum := "a8d81c7c3ac90070e0d92bb9c4dbe9a4ba8d1a0beeda0550a111612fb48cce4f", func := "loop.example/memorymanagers/laws.FnExactNewBlocks", spec := "fnExactNewBlocks", apart := false, narrowed := true }
def FnExactNewBlocksUptoSaid : Prop := fnExactNewBlocksUptoRow.holds Try.pinned (OpenSpec.upto fnExactNewBlocksSpec)

/-- 'laws.FnExactFreeWords', WHERE WHAT IT READS IS OF BULK AT MOST 1048576: true; the input reads as it did. -/
def fnExactFreeWordsUptoRow : OpenClaim := { program := "ytafnhapaaiokaaa", sum := "a8d81c7c3ac90070e0d92bb9c4dbe9a4ba8d1a0beeda0550a111612fb48cce4f", func := "loop.example/memorymanagers/laws.FnExactFreeWords", spec := "fnExactFreeWords", apart := false, narrowed := true }
def FnExactFreeWordsUptoSaid : Prop := fnExactFreeWordsUptoRow.holds Try.pinned (OpenSpec.upto fnExactFreeWordsSpec)

/-- 'laws.FnExactLargestFree', WHERE WHAT IT READS IS OF BULK AT MOST 1048576: true; the input reads as it did. -/
def fnExactLargestFreeUptoRow : OpenClaim := { program := "ytafnhapaaiokaaa", sum := "a8d81c7c3ac90070e0d92bb9c4dbe9a4ba8d1a0beeda0550a111612fb48cce4f", func := "loop.example/memorymanagers/laws.FnExactLargestFree", spec := "fnExactLargestFree", apart := false, narrowed := true }
def FnExactLargestFreeUptoSaid : Prop := fnExactLargestFreeUptoRow.holds Try.pinned (OpenSpec.upto fnExactLargestFreeSpec)

/-- 'laws.FnExactBlockAt', WHERE WHAT IT READS IS OF BULK AT MOST 1048576: true; the input reads as it did. -/
def fnExactBlockAtUptoRow : OpenClaim := { program := "ytafnhapaaiokaaa", sum := "a8d81c7c3ac90070e0d92bb9c4dbe9a4ba8d1a0beeda0550a111612fb48cce4f", func := "loop.example/memorymanagers/laws.FnExactBlockAt", spec := "fnExactBlockAt", unfollowed := true, recurses := true, apart := false, narrowed := true }
def FnExactBlockAtUptoSaid : Prop := fnExactBlockAtUptoRow.holds Try.pinned (OpenSpec.upto fnExactBlockAtSpec)

end Rows
end Go.Proofs.Ytafnhapaaiokaaa
