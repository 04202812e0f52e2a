/- The exact laws of chapter 4 return true: for all numbers. -/
import Derived.Test.YtaacoedmlfcdbaaSc
import Derived.Test.YtaacoedmlfcdbaaSe
namespace Go.Proofs.Ytaacoedmlfcdbaa
open Go.RowKit

theorem toSlab_any (a b : Int) (w : World) :
    Calls Try.prog 14 #[slabV a b] w fun e w' => e = .returned (slabV a b) ∧ Below w.heap.size w w' := by
  go_enter Try.func14, Try.ntmps14
  go_wp2
  exact bodyPost_ret (v := slabV a b) (by simp [results, Try.results14, go_sem]) rfl ⟨rfl, ((((Below.refl _ _).alloc (Nat.le_refl _) _).alloc (by simp) _).alloc (by simp; omega) _)⟩
theorem eqSlab_any (a b : Int) (w : World) :
    Calls Try.prog 15 #[slabV a b, slabV a b] w fun e w' => e = .returned (.bool true) ∧ Below w.heap.size w w' := by
  go_enter Try.func15, Try.ntmps15
  go_wp2
  go_ret
  exact ⟨rfl, ((Below.refl _ _).alloc (Nat.le_refl _) _).alloc (by simp) _⟩

theorem exactSlabValid_walk (a u : Int) (w : World) : Calls Try.prog 5 #[slabV a u] w fun e w' => e = .returned (.bool true) ∧ Below w.heap.size w w' := by
  obtain ⟨r, hr⟩ : ∃ r, Sl.okS a u = r := ⟨_, rfl⟩
  have q0 := Rw.new w 33 #[.int .i64 a, .int .i64 u]
  have bb0 := (Below.refl w.heap.size w).alloc (Nat.le_refl _) (.cells #[.int .i64 a, .int .i64 u] 33)
  go_enter Try.func5, Try.ntmps5
  go_wp2_with fail
  refine (toSlab_any _ _ _).mono ?_
  rintro e w1 ⟨rfl, b1⟩
  have q1 := q0.keep b1 q0.lt
  have bb1 := bb0.trans (b1.mono bb0.size)
  clear q0 bb0 b1
  go_wp2_with fail
  refine (mSlabValid_any _ _ _).mono ?_
  rw [hr]
  rintro e w2 ⟨rfl, b2⟩
  have q2 := q1.keep b2 q1.lt
  have bb2 := bb1.trans (b2.mono bb1.size)
  have x0 : w2.cell? ⟨w.heap.size, 0, none⟩ = some (.int .i64 a) := q2.cell 0
  have x1 : w2.cell? ⟨w.heap.size, 1, none⟩ = some (.int .i64 u) := q2.cell 1
  clear q1 bb1 b2
  go_wp2_with fail
  refine (toSlab_any _ _ _).mono ?_
  rintro e w3 ⟨rfl, b3⟩
  have bb3 := bb2.trans (b3.mono bb2.size)
  go_wp2_with fail
  refine (slabValid_any _ _ _).mono ?_
  rw [hr]
  rintro e w4 ⟨rfl, b4⟩
  go_wp2_with fail
  go_ret
  exact ⟨rfl, bb3.trans (b4.mono bb3.size)⟩

set_option maxHeartbeats 1000000 in
theorem exactSlabGive_walk (a u p : Int) (w : World) : Calls Try.prog 6 #[slabV a u, .int .i64 p] w fun e w' => e = .returned (.bool true) ∧ Below w.heap.size w w' := by
  obtain ⟨a', u', ok, hT⟩ : ∃ a' u' ok, Sl.giveU a u p = (a', u', ok) := ⟨_, _, _, rfl⟩
  have HT := Lib.hid hT
  clear hT
  have q0 := Rw.new w 33 #[.int .i64 a, .int .i64 u]
  have bb0 := (Below.refl w.heap.size w).alloc (Nat.le_refl _) (.cells #[.int .i64 a, .int .i64 u] 33)
  go_enter Try.func6, Try.ntmps6
  go_wp2_with fail
  refine (toSlab_any _ _ _).mono ?_
  rintro e w1 ⟨rfl, b1⟩
  have q1 := q0.keep b1 q0.lt
  have bb1 := bb0.trans (b1.mono bb0.size)
  clear q0 bb0 b1
  go_wp2_with fail
  refine (mSlabGive_any _ _ _ _).mono ?_
  rw [HT.out]
  rintro e w2 ⟨rfl, b2⟩
  have q2 := q1.keep b2 q1.lt
  have bb2 := bb1.trans (b2.mono bb1.size)
  have x0 : w2.cell? ⟨w.heap.size, 0, none⟩ = some (.int .i64 a) := q2.cell 0
  have x1 : w2.cell? ⟨w.heap.size, 1, none⟩ = some (.int .i64 u) := q2.cell 1
  have l2 := q2.lt
  have r2 := Rw.new w2 24 #[.int .i64 a', .int .i64 u']
  have bb2a := bb2.alloc bb2.size (.cells #[.int .i64 a', .int .i64 u'] 24)
  clear q1 bb1 b2 bb2 q2
  go_wp2_with fail
  refine (toSlab_any _ _ _).mono ?_
  rintro e w3 ⟨rfl, b3⟩
  have r3 := r2.keep b3 r2.lt
  have bb3 := bb2a.trans (b3.mono bb2a.size)
  clear x0 x1 r2 bb2a b3
  go_wp2_with fail
  refine (slabGive_any _ _ _ _).mono ?_
  rw [HT.out]
  rintro e w4 ⟨rfl, b4⟩
  have r4 := r3.keep b4 r3.lt
  have bb4 := bb3.trans (b4.mono bb3.size)
  have y0 : w4.cell? ⟨w2.heap.size, 0, none⟩ = some (.int .i64 a') := r4.cell 0
  have y1 : w4.cell? ⟨w2.heap.size, 1, none⟩ = some (.int .i64 u') := r4.cell 1
  have l4 := r4.lt
  have bb4a := bb4.alloc bb4.size (.cells #[.int .i64 a', .int .i64 u'] 24)
  clear r3 bb3 b4 bb4 r4
  go_wp2_with fail
  refine (eqSlab_any _ _ _).mono ?_
  rintro e w5 ⟨rfl, b5⟩
  go_wp2_with fail
  go_ret
  exact ⟨rfl, bb4a.trans (b5.mono bb4a.size)⟩
end Go.Proofs.Ytaacoedmlfcdbaa
