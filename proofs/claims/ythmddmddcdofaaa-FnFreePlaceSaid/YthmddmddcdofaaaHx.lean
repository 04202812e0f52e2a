/- What the program's Reachable and UsedCells return: for every heap. No conditions. -/
import Derived.Test.YthmddmddcdofaaaHw
import Derived.Test.YthmddmddcdofaaaHd
import Derived.Test.YthmddmddcdofaaaGa
namespace Go.Proofs.Ythmddmddcdofaaa
open Go.RowKit
set_option maxRecDepth 100000

theorem cloneI_any (A : Option Addr) (n c : Nat) (xs : List Int) (w : World) (h : IS w w.heap.size A n xs) (hn : n ≤ 1099511627776) :
    Calls Try.prog 50 #[.slice A n c] w (GaveI w xs) := by
  have q : ∀ (w : World) (a : Option Addr) (n c n' c' : Nat), (binOp .eql 24 (.slice a n c) (.slice none n' c')).run Try.prog w = .ok (.bool a.isNone) w := fun w a n c n' c' => Lib.run_eql_slice_nil w _ _ a n c n' c' Try.underlying24
  cases A with
  | none =>
    have h0 : n = 0 := by
      rcases Nat.eq_zero_or_pos n with h0 | h0
      · exact h0
      · obtain ⟨g, o, e, _⟩ := h.2 h0
        cases e
    have : xs = [] := List.eq_nil_of_length_eq_zero (h.1.trans h0)
    subst this h0
    go_enter Try.func50, Try.ntmps50
    go_wp2
    go_ret
    exact ⟨_, rfl, World.ownsRow_nil _ _ _ _, Below.refl _ _⟩
  | some a =>
    have o0 := own_noneI w w.heap.size (Nat.le_refl _)
    have bl0 : Below w.heap.size w (w.alloc (.cells #[] 3)) := (Below.refl _ _).alloc (Nat.le_refl _) _
    have r0 := h.below bl0
    go_enter Try.func50, Try.ntmps50
    go_wp2_with (at_builtin; refine wpList_appendI rfl (.tmp 5) (.tmp 6) rfl w.heap.size _ [] rfl o0 (some a) n c w.heap.size xs rfl r0 (by simp <;> omega) (by simp) ?_; intro v1 w1 o1 g1 s1)
    go_ret
    exact ⟨_, rfl, OwnI.cast (by simp) o1, bl0.grown g1 (by simp) (fun k hk => (World.ownsRow.lt o0 k hk).1)⟩

/-- a slice of the call's own is cut short -/
theorem OwnI.cut {w : World} {base n c k : Nat} {A : Option Addr} {xs : List Int} (h : OwnI w base (.slice A n c) xs) (hk : k ≤ n) : OwnI w base (.slice A k c) (xs.take k) := by
  have hl : (xs.take k).length = k := by rw [List.length_take, ← h.cap.1]; omega
  unfold OwnI
  rw [hl]
  refine ⟨by rw [List.length_map, hl, Nat.mul_one], ?_⟩
  rcases h.2 with ⟨e, h0⟩ | ⟨g, cap, cur, e, hb, hh, hnc, hcap, hsz, hx⟩
  · injection e with e1 e2 e3
    subst e1 e3
    left
    have : k = 0 := by omega
    rw [this]
    exact ⟨rfl, rfl⟩
  · injection e with e1 e2 e3
    subst e1 e3
    right
    refine ⟨g, c, cur, rfl, hb, hh, by omega, hcap, hsz, ?_⟩
    rw [List.map_take, ← hx, Nat.mul_one, Nat.mul_one, List.take_take, Nat.min_eq_left (by omega)]

namespace Hps
/-- the first k of n cells as bools, the others false -/
def flagL (V n k : Nat) : List Bool := (List.range k).map V.testBit ++ List.replicate (n - k) false
theorem flagL_len {V n k : Nat} (h : k ≤ n) : (flagL V n k).length = n := by simp [flagL]; omega
theorem flagL_zero (V n : Nat) : flagL V n 0 = List.replicate n false := by simp [flagL]
theorem flagL_end (V n : Nat) : flagL V n n = (List.range n).map V.testBit := by simp [flagL]
theorem flagL_succ {V n k : Nat} (h : k < n) : (flagL V n k).set k (V.testBit k) = flagL V n (k + 1) := by
  apply List.ext_getElem?
  intro i
  unfold flagL
  rw [List.getElem?_set, List.length_append, List.length_map, List.length_range, List.length_replicate]
  rcases Nat.lt_trichotomy i k with h1 | h1 | h1
  · rw [if_neg (by omega), List.getElem?_append_left (by simp; omega), List.getElem?_append_left (by simp; omega), List.getElem?_map, List.getElem?_map, List.getElem?_range h1, List.getElem?_range (by omega)]
  · subst h1
    rw [if_pos rfl, if_pos (by omega), List.getElem?_append_left (by simp), List.getElem?_map, List.getElem?_range (by omega)]
    rfl
  · rw [if_neg (by omega), List.getElem?_append_right (by simp; omega), List.getElem?_append_right (by simp; omega)]
    simp only [List.length_map, List.length_range, List.getElem?_replicate]
    congr 1
    apply propext
    omega
end Hps

/-- what a round of the work list leaves to do -/
def stkLeft (n : Nat) : Value → Value → Nat
  | .int _ V, .slice _ m _ => m + 4 * (n - pcN V.toNat n)
  | _, _ => 0

end Go.Proofs.Ythmddmddcdofaaa
