/- What the model's ClassSize, ClassFor, SlabWaste and SlabValid return: for all numbers. -/
import Derived.Test.YtaacoedmlfcdbaaSa
namespace Go.Proofs.Ytaacoedmlfcdbaa
open Go.RowKit

/-- a slab as a value -/
abbrev slabV (c u : Int) : Value := .agg #[.int .i64 c, .int .i64 u]

set_option maxHeartbeats 1000000 in
theorem mSlabValid_box (c u : Int) (w : World) : Calls Try.prog 9 #[slabV c u] w fun e w' => e = .returned (.bool (Sl.okS c u)) ∧ w' = w.alloc (.cells #[.int .i64 c, .int .i64 u] 24) := by
  obtain ⟨b1, h1⟩ : ∃ b, (decide ((0 : Int) ≤ c) && decide (c ≤ 7)) = b := ⟨_, rfl⟩
  obtain ⟨b2, h2⟩ : ∃ b, (decide ((0 : Int) ≤ u) && decide (u ≤ 255)) = b := ⟨_, rfl⟩
  have HV := Lib.hid (show Sl.okS c u = (b1 && b2) by rw [Sl.okS, h1, h2])
  have H1 := Lib.hid h1
  have H2 := Lib.hid h2
  clear h1 h2
  cases b1
  · go_enter Try.func9, Try.ntmps9
    go_wp2_with fail
    refine (l1In_any _ _ _ _).mono ?_
    rw [H1.out]
    rintro e w' ⟨rfl, rfl⟩
    go_wp2_with fail
    go_ret
    exact ⟨by rw [HV.out]; rfl, rfl⟩
  · go_enter Try.func9, Try.ntmps9
    go_wp2_with fail
    refine (l1In_any _ _ _ _).mono ?_
    rw [H1.out]
    rintro e w' ⟨rfl, rfl⟩
    go_wp2_with fail
    refine (l1In_any _ _ _ _).mono ?_
    rw [H2.out]
    rintro e w' ⟨rfl, rfl⟩
    go_wp2_with fail
    go_ret
    exact ⟨by rw [HV.out]; rfl, rfl⟩
theorem mSlabValid_any (c u : Int) (w : World) : Calls Try.prog 9 #[slabV c u] w fun e w' => e = .returned (.bool (Sl.okS c u)) ∧ Below w.heap.size w w' :=
  (mSlabValid_box c u w).mono fun _ _ h => ⟨h.1, by rw [h.2]; exact (Below.refl _ _).alloc (Nat.le_refl _) _⟩
end Go.Proofs.Ytaacoedmlfcdbaa
