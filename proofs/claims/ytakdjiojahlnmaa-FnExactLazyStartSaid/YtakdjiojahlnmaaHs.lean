/- What the program's RefCounts and EmptyHeap return: for every heap. No conditions. -/
import Derived.Test.YtakdjiojahlnmaaHx
import Derived.Test.YtakdjiojahlnmaaHz
namespace Go.Proofs.Ytakdjiojahlnmaa
open Go.RowKit
set_option maxRecDepth 100000

namespace Hps
/-- the references of the roots and of those of the first i cells that are not in the set -/
def outW (h : Hp) (V : Nat) : Nat → List Int
  | 0 => h.rt
  | i + 1 => outW h V i ++ (if V.testBit i = true then [] else match h.cs[i]? with | some c => c.r | none => [])
theorem outW_in {h : Hp} {V i : Nat} (hs : V.testBit i = true) : outW h V (i + 1) = outW h V i := by rw [outW, if_pos hs, List.append_nil]
theorem outW_out {h : Hp} {V i : Nat} {c : Cl} (hs : V.testBit i = false) (hc : h.cs[i]? = some c) : outW h V (i + 1) = outW h V i ++ c.r := by rw [outW, if_neg (by rw [hs]; decide), hc]
theorem outW_zero (h : Hp) : ∀ i, i ≤ h.cs.length → outW h 0 i = refsTo h i
  | 0, _ => by rw [refsTo_zero]; rfl
  | i + 1, hi => by
    have hc := List.getElem?_eq_getElem (show i < h.cs.length by omega)
    rw [outW_out (by simp) hc, refsTo_succ hc, outW_zero h i (by omega)]
theorem outW_len (h : Hp) (V : Nat) : ∀ i, i ≤ h.cs.length → (outW h V i).length ≤ (refsTo h i).length
  | 0, _ => by rw [refsTo_zero]; exact Nat.le_refl _
  | i + 1, hi => by
    have ih := outW_len h V i (by omega)
    have hc := List.getElem?_eq_getElem (show i < h.cs.length by omega)
    rw [refsTo_succ hc, List.length_append]
    cases e : V.testBit i
    · rw [outW_out e hc, List.length_append]
      omega
    · rw [outW_in e]
      omega
end Hps

end Go.Proofs.Ytakdjiojahlnmaa
