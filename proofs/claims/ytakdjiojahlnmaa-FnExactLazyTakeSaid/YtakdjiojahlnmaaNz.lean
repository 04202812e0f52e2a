/- Small heaps, and a heap of the call's own beside which other blocks are written. No conditions. -/
import Derived.Test.YtakdjiojahlnmaaGd
import Derived.Test.YtakdjiojahlnmaaHf
import Derived.Test.YtakdjiojahlnmaaGc
namespace Go.Proofs.Ytakdjiojahlnmaa
open Go.RowKit
set_option maxRecDepth 100000

theorem OwnHx.touched' {w w' : World} {base : Nat} {vc vr : Value} {rvs l : List Value} {h : Hp} (o : OwnHx w base vc vr rvs h) (ht : Touched w w' l) (hne : ∀ v ∈ vc :: vr :: rvs, ∀ u ∈ l, v.ownBlock = none ∨ v.ownBlock ≠ u.ownBlock) : OwnHx w' base vc vr rvs h :=
  ⟨o.len, row_touched o.row ht (hne vc (by simp)), fun k c v hc hv => row_touched (o.refs k c v hc hv) ht (hne v (by simp [List.mem_of_getElem? hv])), row_touched o.roots ht (hne vr (by simp)), o.sep⟩
theorem refN_le {cs : List Cl} {m : Nat} (h : ∀ cl ∈ cs, cl.r.length ≤ m) : ∀ k, k ≤ cs.length → refN cs k ≤ m * k
  | 0, _ => by simp [refN]
  | k + 1, hk => by
    have ih := refN_le h k (by omega)
    have hc := List.getElem?_eq_getElem (show k < cs.length by omega)
    have := h _ (List.mem_of_getElem? hc)
    rw [refN_succ hc, Nat.mul_add]
    omega
/-- what runs from an empty heap is small -/
def Tiny (h : Hp) : Prop := h.cs.length ≤ 40 ∧ h.rt.length ≤ 4 ∧ ∀ cl ∈ h.cs, cl.r.length ≤ 3
theorem Tiny.size {h : Hp} (t : Tiny h) : sizeH h ≤ 1000000000 := by
  have := refN_le t.2.2 _ (Nat.le_refl _)
  have h1 := t.1
  have h2 := t.2.1
  unfold sizeH
  omega
theorem tiny_zero : Tiny Hps.zeroH := ⟨by decide, by decide, fun cl hcl => by simp [Hps.zeroH] at hcl⟩
theorem tiny_valid {h : Hp} (hv : Hps.validH h = true) : Tiny h := by
  obtain ⟨a, b, c⟩ := Hps.valid_small hv
  exact ⟨a, by omega, c⟩
end Go.Proofs.Ytakdjiojahlnmaa
