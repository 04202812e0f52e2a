/- What FirstFit and BestFit return, the program's and the model's: for every slice of blocks and all numbers. -/
import Derived.Test.YthihaclhlmpioaaWr
import Derived.Test.YthihaclhlmpioaaWe
import Derived.Deep.QuietTactic
import Derived.BigQuiet
namespace Go.Proofs.Ythihaclhlmpioaa
open Go.RowKit

theorem run_storeNew {P : Program} (w : World) (t : TypeId) (c c' : Array Value) (hs : c.size = c'.size) (h1 : c'.all (·.oneCell') = true) : (storeCells ⟨w.heap.size, 0, none⟩ c'.toList).run P (w.alloc (.cells c t)) = .ok () (w.alloc (.cells c' t)) := by
  rw [run_storeRow (Rw.new w t c) hs h1, World.setRow_alloc_new]

end Go.Proofs.Ythihaclhlmpioaa
