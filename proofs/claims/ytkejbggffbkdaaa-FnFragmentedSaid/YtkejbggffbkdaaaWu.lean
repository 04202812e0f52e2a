/- What is known of blocks that TakeBlock and GiveBlock return; copies of blocks as rows of their own. No conditions. -/
import Derived.Test.YtkejbggffbkdaaaWq
import Derived.Test.YtkejbggffbkdaaaWj
namespace Go.Proofs.Ytkejbggffbkdaaa
open Go.RowKit

theorem allI_nil : AllI [] := fun k x hx => by simp at hx

theorem take_all (xs : List Bl) (t num size : Int) : AllI (if Bks.validB xs t = true then Bks.takeB xs num size else []) := by
  split
  · next h => exact valid_all_ (Bks.takeB_valid h)
  · exact allI_nil
theorem take_len (xs : List Bl) (t num size : Int) : (if Bks.validB xs t = true then Bks.takeB xs num size else []).length ≤ 256 := by
  split
  · next h => exact (Bks.valid_len (Bks.takeB_valid h)).2.1
  · simp
theorem give_all (xs : List Bl) (t num : Int) : AllI (if Bks.validB xs t = true then Bks.giveB xs num else []) := by
  split
  · next h => exact valid_all_ (Bks.giveB_valid h)
  · exact allI_nil
theorem give_len_ (xs : List Bl) (t num : Int) : (if Bks.validB xs t = true then Bks.giveB xs num else []).length ≤ 256 := by
  split
  · next h => exact (Bks.valid_len (Bks.giveB_valid h)).2.1
  · simp

theorem cs_flat {cs : Array Value} {xs : List Bl} (h : Cs cs xs) (hs : cs.size = xs.length * 3) : cs.toList = flat xs := by
  apply List.ext_getElem?
  intro j
  rcases Nat.lt_or_ge j (xs.length * 3) with hj | hj
  · have hk : j / 3 < xs.length := by omega
    have hx : xs[j / 3]? = some xs[j / 3] := List.getElem?_eq_getElem hk
    obtain ⟨a1, a2, a3⟩ := h _ _ hx
    obtain ⟨f1, f2, f3⟩ := flat_at xs _ _ hx
    rw [Array.getElem?_toList]
    have hm : j % 3 = 0 ∨ j % 3 = 1 ∨ j % 3 = 2 := by omega
    rcases hm with hm | hm | hm
    · rw [show j = j / 3 * 3 by omega, a1, f1]
    · rw [show j = j / 3 * 3 + 1 by omega, a2, f2]
    · rw [show j = j / 3 * 3 + 2 by omega, a3, f3]
  · rw [List.getElem?_eq_none (by simp; omega), List.getElem?_eq_none (by rw [flat_length]; omega)]

/-- copied blocks are a row of the call's own -/
theorem MadeBS.own {w w' : World} {xs : List Bl} {e : Ending} (h : MadeBS w xs e w') (hn : xs.length ≤ 1099511627776) :
    e = .returned (.slice (some ⟨w.heap.size, 0, none⟩) xs.length xs.length) ∧ OwnB w' w.heap.size (.slice (some ⟨w.heap.size, 0, none⟩) xs.length xs.length) xs ∧ Below w.heap.size w w' := by
  obtain ⟨cs, he, hr, hc, hs, hb⟩ := h
  refine ⟨he, ⟨flat_length xs, .inr ⟨w.heap.size, xs.length, cs, rfl, Nat.le_refl _, hr, Nat.le_refl _, by unfold maxLen; omega, hs, ?_⟩⟩, hb⟩
  rw [cs_flat hc hs, List.take_of_length_le (by rw [flat_length]; omega)]

theorem sep_swap {v0 v1 : Value} (h : v0.ownBlock = none ∨ v0.ownBlock ≠ v1.ownBlock) : v1.ownBlock = none ∨ v1.ownBlock ≠ v0.ownBlock := by
  rcases h with h | h
  · cases e : v1.ownBlock with
    | none => exact .inl rfl
    | some k => right; rw [h]; simp
  · exact .inr fun e => h e.symm
end Go.Proofs.Ytkejbggffbkdaaa
