/- The exact laws of HeapValid and UsedCells return true: for every heap. No conditions. -/
import Derived.Test.YthmddmddcdofaaaGd
import Derived.Test.YthmddmddcdofaaaHs
import Derived.Test.YthmddmddcdofaaaGa
import Derived.Deep.Cut
namespace Go.Proofs.Ythmddmddcdofaaa
open Go.RowKit
set_option maxRecDepth 100000

theorem small_size {h : Hp} (hz : sizeH h ≤ 1048576) : h.cs.length ≤ 1048576 ∧ h.rt.length ≤ 1048576 ∧ ∀ cl ∈ h.cs, cl.r.length ≤ 1048576 := by
  unfold sizeH at hz
  exact ⟨by omega, by omega, fun cl hcl => by have := refN_mem hcl; omega⟩

end Go.Proofs.Ythmddmddcdofaaa
