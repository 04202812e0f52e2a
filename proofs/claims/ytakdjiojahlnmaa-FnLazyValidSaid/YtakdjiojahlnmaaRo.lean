/- What the program's isUsedCell and CellsFrom return: for every heap and every number. No conditions. -/
import Derived.Test.YtakdjiojahlnmaaRa
import Derived.Test.YtakdjiojahlnmaaHs
import Derived.Test.YtakdjiojahlnmaaGa
namespace Go.Proofs.Ytakdjiojahlnmaa
open Go.RowKit
set_option maxRecDepth 100000

namespace Hps
theorem outW_eq {h : Hp} {V : Nat} {s : List Bool} (hb : ∀ i, V.testBit i = decide (s[i]? = some true)) : ∀ i, outW h V i = outTo h s i
  | 0 => rfl
  | i + 1 => by
    rw [outW, outTo, outW_eq hb i, hb i]
    by_cases q : s[i]? = some true
    · rw [if_pos q, if_pos (decide_eq_true q)]
    · rw [if_neg q, if_neg (by rw [decide_eq_false q]; decide)]
      all_goals (cases h.cs[i]? <;> rfl)
/-- a used cell of a valid heap -/
def usedCell (h : Hp) (x : Int) : Bool := validH h && hasB (usedW h.cs) x
theorem usedCell_iff {h : Hp} {x : Int} : usedCell h x = true ↔ validH h = true ∧ 0 ≤ x ∧ usedAt h.cs x.toNat = true := by
  unfold usedCell hasB
  rw [usedW_bit]
  simp
theorem fromH_nil {h : Hp} {x : Int} (hu : usedCell h x = false) : fromH h x = [] := by
  rw [fromH, if_neg]
  intro q
  rw [usedCell_iff.2 q] at hu
  cases hu
end Hps

end Go.Proofs.Ytakdjiojahlnmaa
