/- The exact laws of CommandPossible and StepHeap return true, over the program's contracts. No conditions. -/
import Derived.Test.YtmjejcfifkbkoaaNd
import Derived.Test.YtmjejcfifkbkoaaKz
import Derived.Test.YtmjejcfifkbkoaaKk
import Derived.Test.YtmjejcfifkbkoaaGa
import Derived.Deep.Cut
namespace Go.Proofs.Ytmjejcfifkbkoaa
open Go.RowKit
set_option maxRecDepth 100000

theorem size_small {h : Hp} (hz : sizeH h ≤ 1048576) : h.cs.length ≤ 1048576 ∧ h.rt.length ≤ 1048576 ∧ ∀ cl ∈ h.cs, cl.r.length ≤ 1048576 := by
  unfold sizeH at hz
  exact ⟨by omega, by omega, fun cl hcl => by have := refN_mem hcl; omega⟩
theorem OwnHx.apart_box {w : World} {base g : Nat} {vc vr : Value} {rvs : List Value} {h : Hp} {cs : Array Value} (o : OwnHx w base vc vr rvs h) (hr : Rw w g 28 cs) : Apart (some g) (vc :: vr :: rvs) := fun v hv => by
  right
  intro e
  simp only [List.mem_cons] at hv
  rcases hv with rfl | rfl | hv
  · exact row_type o.row hr (by decide) e.symm
  · exact row_type o.roots hr (by decide) e.symm
  · obtain ⟨i, hi⟩ := List.mem_iff_getElem?.1 hv
    have hlt := (List.getElem?_eq_some_iff.1 hi).1
    have hc := List.getElem?_eq_getElem (show i < h.cs.length by rw [← o.len]; exact hlt)
    exact row_type (o.refs i _ v hc hi) hr (by decide) e.symm
theorem OwnHx.put2 {w : World} {base g : Nat} {vc vr : Value} {rvs : List Value} {h : Hp} {cs : Array Value} (o : OwnHx w base vc vr rvs h) (hr : Rw w g 28 cs) (x y : Value) : OwnHx ((w.setCell ⟨g, 0, none⟩ x).setCell ⟨g, 1, none⟩ y) base vc vr rvs h :=
  (o.far (only_put (g := g) (World.grownBy.refl _ _) 0 x) (o.apart_box hr)).far (only_put (g := g) (World.grownBy.refl _ _) 1 y) (o.apart_box hr)

end Go.Proofs.Ytmjejcfifkbkoaa
