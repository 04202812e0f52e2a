/- What the model's UsedCells and RefCounts return: for every heap. -/
import Derived.Test.YtakdjiojahlnmaaHf
import Derived.BigRegion
namespace Go.Proofs.Ytakdjiojahlnmaa
open Go.RowKit

namespace Hps
/-- how often each of the numbers 0..n-1 is in the list -/
def cntN (n : Nat) (xs : List Int) : List Int := (List.range n).map fun (k : Nat) => ((xs.count (k : Int) : Nat) : Int)
theorem cntN_len (n : Nat) (xs : List Int) : (cntN n xs).length = n := by simp [cntN]
theorem cntN_at {n k : Nat} (xs : List Int) (h : k < n) : (cntN n xs)[k]? = some ((xs.count (k : Int) : Nat) : Int) := by simp [cntN, h]
theorem cntN_nil (n : Nat) : cntN n [] = List.replicate n (0 : Int) := by
  apply List.ext_getElem?
  intro k
  rcases Nat.lt_or_ge k n with h | h
  · rw [cntN_at _ h]
    simp [h]
  · rw [List.getElem?_eq_none (by rw [cntN_len]; omega), List.getElem?_eq_none (by simp; omega)]
theorem cntN_neg {n : Nat} {xs : List Int} {x : Int} (h : ¬ 0 ≤ x) : cntN n (xs ++ [x]) = cntN n xs := by
  apply List.ext_getElem?
  intro k
  rcases Nat.lt_or_ge k n with hk | hk
  · rw [cntN_at _ hk, cntN_at _ hk, List.count_append, List.count_singleton]
    have : (x == (k : Int)) = false := by rw [beq_eq_false_iff_ne]; omega
    rw [this]
    simp
  · rw [List.getElem?_eq_none (by rw [cntN_len]; omega), List.getElem?_eq_none (by rw [cntN_len]; omega)]
theorem cntN_set {n y : Nat} {xs : List Int} (h : y < n) : (cntN n xs).set y (((xs.count (y : Int) : Nat) : Int) + 1) = cntN n (xs ++ [(y : Int)]) := by
  apply List.ext_getElem?
  intro k
  rw [List.getElem?_set, cntN_len]
  rcases Nat.lt_or_ge k n with hk | hk
  · rw [cntN_at _ hk, cntN_at _ hk, List.count_append, List.count_singleton]
    by_cases e : y = k
    · subst e
      rw [if_pos rfl, if_pos h]
      simp
    · rw [if_neg e]
      have : ((y : Int) == (k : Int)) = false := by rw [beq_eq_false_iff_ne]; omega
      rw [this]
      simp
  · rw [if_neg (by omega), List.getElem?_eq_none (by rw [cntN_len]; omega), List.getElem?_eq_none (by rw [cntN_len]; omega)]
/-- the references of the roots and of the first k cells -/
def refsTo (h : Hp) (k : Nat) : List Int := h.rt ++ ((h.cs.take k).map (·.r)).flatten
theorem refsTo_zero (h : Hp) : refsTo h 0 = h.rt := by simp [refsTo]
theorem refsTo_succ {h : Hp} {k : Nat} {c : Cl} (hc : h.cs[k]? = some c) : refsTo h (k + 1) = refsTo h k ++ c.r := by
  simp [refsTo, List.take_add_one, hc]
theorem refsTo_all (h : Hp) : refsTo h h.cs.length = refsOf h := by simp [refsTo, refsOf]
theorem refsTo_len {h : Hp} (hb : ∀ cl ∈ h.cs, cl.r.length ≤ 1000000) : ∀ k, k ≤ h.cs.length → (refsTo h k).length ≤ h.rt.length + k * 1000000
  | 0, _ => by rw [refsTo_zero]; omega
  | k + 1, hk => by
    have ih := refsTo_len hb k (by omega)
    have hc := List.getElem?_eq_getElem (show k < h.cs.length by omega)
    have := hb _ (List.mem_of_getElem? hc)
    rw [refsTo_succ hc, List.length_append]
    omega
theorem countsL_eq (h : Hp) : countsL h = cntN h.cs.length (refsOf h) := rfl
theorem count_le_len (xs : List Int) (x : Int) : xs.count x ≤ xs.length := List.count_le_length
end Hps

namespace Hps
def usedTo (cs : List Cl) (k : Nat) : Nat := (cs.take k).countP (·.u)
def liveTo (bs : List Bool) (k : Nat) : Nat := (bs.take k).count true
theorem usedTo_succ {cs : List Cl} {k : Nat} {c : Cl} (h : cs[k]? = some c) : usedTo cs (k + 1) = usedTo cs k + (if c.u = true then 1 else 0) := by
  simp [usedTo, List.take_add_one, h, List.countP_append, List.countP_cons]
theorem liveTo_succ {bs : List Bool} {k : Nat} {b : Bool} (h : bs[k]? = some b) : liveTo bs (k + 1) = liveTo bs k + (if b = true then 1 else 0) := by
  simp [liveTo, List.take_add_one, h, List.count_append, List.count_cons]
theorem usedTo_le (cs : List Cl) (k : Nat) : usedTo cs k ≤ k := Nat.le_trans List.countP_le_length (by rw [List.length_take]; omega)
theorem liveTo_le (bs : List Bool) (k : Nat) : liveTo bs k ≤ k := Nat.le_trans List.count_le_length (by rw [List.length_take]; omega)
/-- how many cells are used, and how many can be reached -/
noncomputable def usedH (h : Hp) : Int × Int := if validH h = true then ((usedTo h.cs h.cs.length : Int), (liveTo (reachL h.cs h.rt) h.cs.length : Int)) else (-1, -1)
end Hps

end Go.Proofs.Ytakdjiojahlnmaa
