/- Heaps with counts and a number as results; cells without those of a list. No conditions. -/
import Derived.Test.YthmddmddcdofaaaRa
import Derived.Test.YthmddmddcdofaaaCb
namespace Go.Proofs.Ythmddmddcdofaaa
open Go.RowKit
/-- a heap with counts of the call's own, and a number -/
def GaveCtI (w : World) (h : Hp) (l : List Int) (x : Int) (e : Ending) (w' : World) : Prop := ∃ vc vr vk, e = .returned (.tuple #[.agg #[vc, vr, vk], .int .i64 x]) ∧ OwnC w' w.heap.size vc vr vk h l ∧ Below w.heap.size w w'
namespace Hps
/-- cells without those of a list -/
def zapL (cs : List Cl) (l : List Int) : List Cl := l.foldl (fun cs x => cs.set x.toNat zeroCl) cs
theorem zapL_snoc (cs : List Cl) (l : List Int) (x : Int) : zapL cs (l ++ [x]) = (zapL cs l).set x.toNat zeroCl := by simp [zapL, List.foldl_append]
theorem zapL_len (l : List Int) : ∀ cs : List Cl, (zapL cs l).length = cs.length := by
  induction l with
  | nil => intro cs; rfl
  | cons x l ih =>
    intro cs
    show (zapL (cs.set x.toNat zeroCl) l).length = _
    rw [ih, List.length_set]
theorem zapL_at (l : List Int) : ∀ (cs : List Cl), (∀ x ∈ l, 0 ≤ x) → ∀ k : Nat, (zapL cs l)[k]? = if (k : Int) ∈ l then cs[k]?.map (fun _ => zeroCl) else cs[k]? := by
  induction l with
  | nil => intro cs _ k; simp [zapL]
  | cons x l ih =>
    intro cs hx k
    show (zapL (cs.set x.toNat zeroCl) l)[k]? = _
    rw [ih _ (fun y hy => hx y (by simp [hy])) k, List.getElem?_set]
    have h0 := hx x (by simp)
    by_cases e : x.toNat = k
    · have e2 : (k : Int) = x := by omega
      rw [if_pos e, e]
      by_cases q : k < cs.length
      · simp [e2, q]
      · simp [e2, q]
    · have e2 : ¬ (k : Int) = x := by omega
      rw [if_neg e]
      simp [e2]
theorem ccTo_free {h x : Hp} {k f : Nat} (hE : ccTo h k = (x, f)) (hu : usedAt x.cs k = false) : ccTo h (k + 1) = (x, f) := by
  rw [ccTo, hE, ccStep, if_neg (by rw [hu]; decide)]
theorem ccTo_used {h x : Hp} {k f : Nat} (hE : ccTo h k = (x, f)) (hu : usedAt x.cs k = true) : ccTo h (k + 1) = (dropH x (deadL x (k : Int)), f + (deadL x (k : Int)).count true) := by
  rw [ccTo, hE, ccStep, if_pos hu]
theorem usedN_le (h : Hp) : usedN h ≤ h.cs.length := by rw [usedN_eq]; exact List.countP_le_length
end Hps
end Go.Proofs.Ythmddmddcdofaaa
