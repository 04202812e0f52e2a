/- What GiveBlock returns: for every slice of blocks and every number. -/
import Derived.Test.YthihaclhlmpioaaWp
import Derived.Test.YthihaclhlmpioaaFits5
import Derived.Deep.QuietTactic
import Derived.BigQuiet
import Derived.Deep.RegionWith
import Derived.Deep.DeepMust
namespace Go.Proofs.Ythihaclhlmpioaa
open Go.RowKit

theorem giveB_not {xs : List Bl} {num : Int} (h : isB xs num true = false) : Bks.giveB xs num = xs ∧ Bks.canGive xs num = false := by
  have hc : Bks.canGive xs num = false := by rw [canGive_isB]; exact h
  refine ⟨?_, hc⟩
  rw [Bks.giveB, hc]
  simp

theorem left_used {xs : List Bl} {k : Nat} (hk : k < xs.length) (h : isB xs ((k : Int) - 1) false = false) : k = 0 ∨ ∃ y, xs[k - 1]? = some y ∧ y.u = true := by
  rcases Nat.eq_zero_or_pos k with e | e
  · exact .inl e
  · right
    have hy : xs[k - 1]? = some (xs[k - 1]'(by omega)) := List.getElem?_eq_getElem (by omega)
    refine ⟨_, hy, ?_⟩
    rw [show (k : Int) - 1 = ((k - 1 : Nat) : Int) by omega, isB_at false hy] at h
    simpa using h
theorem right_used {xs : List Bl} {k : Nat} (h : isB xs ((k : Int) + 1) false = false) : ∀ y, xs[k + 1]? = some y → y.u = true := by
  intro y hy
  rw [show (k : Int) + 1 = ((k + 1 : Nat) : Int) by omega, isB_at false hy] at h
  simpa using h

/-- the cells of a block in a later world -/
theorem BS.later {w W : World} {g o n f : Nat} {xs : List Bl} {x : Bl} (h : BS w w.heap.size (some ⟨g, o, none⟩) n xs) (hx : xs[f]? = some x) (hb : Below w.heap.size w W) :
    W.cell? ⟨g, o + f * 3, none⟩ = some (.int .i64 x.s) ∧ W.cell? ⟨g, o + f * 3 + 1, none⟩ = some (.int .i64 x.z) := by
  have hl := h.1
  have hf := (List.getElem?_eq_some_iff.1 hx).1
  obtain ⟨g', o', e, _, hc⟩ := (h.below hb).2.2 (by omega)
  injection e with e
  injection e with e1 e2
  subst e1 e2
  exact ⟨(hc f x hx).1, (hc f x hx).2.1⟩

theorem parts_drew {w : World} {B g : Nat} {ps : List Part} (h : Parts w B g ps) : Parts w.drew B g ps := fun k p hp => ⟨(h k p hp).1, (h k p hp).2.below (Below.refl _ _).drew⟩

end Go.Proofs.Ythihaclhlmpioaa
