/- What the draws of a heap return: a heap that a call can read, and that is small. No conditions. -/
import Derived.Test.YtakdjiojahlnmaaKn
namespace Go.Proofs.Ytakdjiojahlnmaa
open Go.RowKit
set_option maxRecDepth 100000

/-- a heap has been drawn -/
def DrawnH (w : World) (e : Ending) (w' : World) : Prop :=
  ∃ (A : Option Addr) (nn c : Nat) (R : Option Addr) (m d : Nat) (h : Hp), e = .returned (heapV A nn c R m d) ∧ nn ≤ c ∧ m ≤ d ∧ HS w' w'.heap.size A nn R m h ∧ SmallH h ∧ Below w.heap.size w w'

end Go.Proofs.Ytakdjiojahlnmaa
