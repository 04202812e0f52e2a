/- What GiveBlock returns: for every slice of blocks and every number. -/
import Derived.Test.YtkejbggffbkdaaaWp
import Derived.Test.YtkejbggffbkdaaaFits5
import Derived.Deep.QuietTactic
import Derived.BigQuiet
import Derived.Deep.RegionWith
import Derived.Deep.DeepMust
namespace Go.Proofs.Ytkejbggffbkdaaa
open Go.RowKit

theorem giveB_not {xs : List Bl} {num : Int} (h : isB xs num true = false) : Bks.giveB xs num = xs ∧ Bks.canGive xs num = false := by
  have hc : Bks.canGive xs num = false := by rw [canGive_isB]; exact h
  refine ⟨?_, hc⟩
  rw [Bks.giveB, hc]
  simp

theorem left_used {xs : List Bl} {k : Nat} (hk : k < xs.length) (h : isB xs ((k : Int) - 1) false = false) : k = 0 ∨ ∃ y, xs[k - 1]? = some y ∧ y.u = true := by
  rcases Nat.eq_zero_or_pos k with e | e
  · exact .inl e
  · right
    have hy : xs[k - 1]? = some (xs[k - 1]'(by omega)) := List.getElem?_eq_getElem (by omega)
    refine ⟨_, hy, ?_⟩
    rw [show (k : Int) - 1 = ((k - 1 : Nat) : Int) by omega, isB_at false hy] at h
    simpa using h
theorem right_used {xs : List Bl} {k : Nat} (h : isB xs ((k : Int) + 1) false = false) : ∀ y, xs[k + 1]? = some y → y.u = true := by
  intro y hy
  rw [show (k : Int) + 1 = ((k + 1 : Nat) : Int) by omega, isB_at false hy] at h
  simpa using h

/-- the cells of a block in a later world -/
theorem BS.later {w W : World} {g o n f : Nat} {xs : List Bl} {x : Bl} (h : BS w w.heap.size (some ⟨g, o, none⟩) n xs) (hx : xs[f]? = some x) (hb : Below w.heap.size w W) :
    W.cell? ⟨g, o + f * 3, none⟩ = some (.int .i64 x.s) ∧ W.cell? ⟨g, o + f * 3 + 1, none⟩ = some (.int .i64 x.z) := by
  have hl := h.1
  have hf := (List.getElem?_eq_some_iff.1 hx).1
  obtain ⟨g', o', e, _, hc⟩ := (h.below hb).2.2 (by omega)
  injection e with e
  injection e with e1 e2
  subst e1 e2
  exact ⟨(hc f x hx).1, (hc f x hx).2.1⟩

theorem parts_drew {w : World} {B g : Nat} {ps : List Part} (h : Parts w B g ps) : Parts w.drew B g ps := fun k p hp => ⟨(h k p hp).1, (h k p hp).2.below (Below.refl _ _).drew⟩

theorem concat_give (w3 : World) (t : TypeId) (a b : Int) (A0 A2 : Option Addr) (n0 n2 c0 c2 : Nat) (X0 X2 : List Bl) (h0 : BS w3 w3.heap.size A0 n0 X0) (h2 : BS w3 w3.heap.size A2 n2 X2) (hb : n0 + 1 + n2 ≤ 1099511627776) (q0 : 0 ≤ a) (q1 : a ≤ 256) (q2 : 0 ≤ b) (q3 : b ≤ 512) :
    Calls Try.prog 51 #[.slice (some ⟨w3.heap.size + 1, 0, none⟩) 3 3]
      ((w3.alloc (.cells #[.int .i64 a, .int .i64 b, .bool false] 32)).alloc (.cells #[.slice A0 n0 c0, .slice (some ⟨w3.heap.size, 0, none⟩) 1 1, .slice A2 n2 c2] t)).drew (GaveB w3 (X0 ++ [⟨a, b, false⟩] ++ X2)) := by
  have hw : Below w3.heap.size w3 (w3.alloc (.cells #[.int .i64 a, .int .i64 b, .bool false] 32)) := (Below.refl _ _).alloc (Nat.le_refl _) _
  have h1 := (own_one w3 a b false 0 (Nat.zero_le _)).reads (allI_one (by omega) (by omega) (by omega) (by omega))
  have hp := parts_drew (parts3 ⟨A0, n0, c0, X0⟩ ⟨_, _, 1, _⟩ ⟨A2, n2, c2, X2⟩ t (h0.up hw) h1 (h2.up hw))
  have hz : (w3.alloc (.cells #[.int .i64 a, .int .i64 b, .bool false] 32)).heap.size = w3.heap.size + 1 := by simp
  rw [hz] at hp
  refine (concat_any _ _ _ _ _ rfl hp (by simp) ?_ (by simp)).mono ?_
  · have e0 := h0.1
    have e2 := h2.1
    simp [catP]
    omega
  · rintro e w' ⟨v, rfl, ho, hb⟩
    exact ⟨v, rfl, (OwnB.cast (by simp [catP]) ho).base (by simp; omega), ((hw.alloc (by simp) _).drew).trans (hb.mono (by simp; omega))⟩


end Go.Proofs.Ytkejbggffbkdaaa
