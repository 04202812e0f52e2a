/- The exact laws of chapter 4 return true: for all numbers. -/
import Derived.Test.YtaacoedmlfcdbaaDoorSc
import Derived.Test.YtaacoedmlfcdbaaDoorSe
namespace Go.Proofs.YtaacoedmlfcdbaaDoor
open Go.RowKit

theorem toSlab_any (a b : Int) (w : World) :
    Calls Tryd.prog 28 #[slabV a b] w fun e w' => e = .returned (slabV a b) ∧ Below w.heap.size w w' := by
  go_enter Tryd.func28, Tryd.ntmps28
  go_wp2
  exact bodyPost_ret (v := slabV a b) (by simp [results, Tryd.results28, go_sem]) rfl ⟨rfl, ((((Below.refl _ _).alloc (Nat.le_refl _) _).alloc (by simp) _).alloc (by simp; omega) _)⟩
theorem eqSlab_any (a b : Int) (w : World) :
    Calls Tryd.prog 29 #[slabV a b, slabV a b] w fun e w' => e = .returned (.bool true) ∧ Below w.heap.size w w' := by
  go_enter Tryd.func29, Tryd.ntmps29
  go_wp2
  go_ret
  exact ⟨rfl, ((Below.refl _ _).alloc (Nat.le_refl _) _).alloc (by simp) _⟩

theorem exactClassSize_walk (a1 : Int) (w : World) (hT : ClsT w) :
    Calls Tryd.prog 8 #[.int .i64 a1] w fun e w' => e = .returned (.bool true) ∧ Below w.heap.size w w' := by
  obtain ⟨r, hr⟩ : ∃ r, Sl.clsW a1 = r := ⟨_, rfl⟩
  go_enter Tryd.func8, Tryd.ntmps8
  go_wp2_with fail
  refine (mClassSize_any _ _).mono ?_
  rw [hr]
  rintro e w1 ⟨rfl, b1⟩
  go_wp2_with fail
  refine (classSize_any _ _ (hT.below b1)).mono ?_
  rw [hr]
  rintro e w2 ⟨rfl, b2⟩
  go_wp2_with fail
  go_ret
  exact ⟨rfl, b1.trans (b2.mono b1.size)⟩
theorem exactClassFor_walk (a1 : Int) (w : World) (hT : ClsT w) :
    Calls Tryd.prog 9 #[.int .i64 a1] w fun e w' => e = .returned (.bool true) ∧ Below w.heap.size w w' := by
  obtain ⟨r, hr⟩ : ∃ r, Sl.forW a1 = r := ⟨_, rfl⟩
  go_enter Tryd.func9, Tryd.ntmps9
  go_wp2_with fail
  refine (mClassFor_any _ _).mono ?_
  rw [hr]
  rintro e w1 ⟨rfl, b1⟩
  go_wp2_with fail
  refine (classFor_any _ _ (hT.below b1)).mono ?_
  rw [hr]
  rintro e w2 ⟨rfl, b2⟩
  go_wp2_with fail
  go_ret
  exact ⟨rfl, b1.trans (b2.mono b1.size)⟩
theorem exactSlabWaste_walk (a1 : Int) (w : World) (hT : ClsT w) :
    Calls Tryd.prog 11 #[.int .i64 a1] w fun e w' => e = .returned (.bool true) ∧ Below w.heap.size w w' := by
  obtain ⟨r, hr⟩ : ∃ r, Sl.wasteW a1 = r := ⟨_, rfl⟩
  go_enter Tryd.func11, Tryd.ntmps11
  go_wp2_with fail
  refine (mSlabWaste_any _ _).mono ?_
  rw [hr]
  rintro e w1 ⟨rfl, b1⟩
  go_wp2_with fail
  refine (slabWaste_any _ _ (hT.below b1)).mono ?_
  rw [hr]
  rintro e w2 ⟨rfl, b2⟩
  go_wp2_with fail
  go_ret
  exact ⟨rfl, b1.trans (b2.mono b1.size)⟩

set_option maxHeartbeats 1000000 in
theorem exactSlabTake_walk (a u : Int) (w : World) (hT : BitT w) :
    Calls Tryd.prog 10 #[slabV a u] w fun e w' => e = .returned (.bool true) ∧ Below w.heap.size w w' := by
  obtain ⟨a', u', p', ok, hT⟩ : ∃ a' u' p' ok, Sl.takeU a u = (a', u', p', ok) := ⟨_, _, _, _, rfl⟩
  have HT := Lib.hid hT
  clear hT
  have q0 := Rw.new w 36 #[.int .i64 a, .int .i64 u]
  have bb0 := (Below.refl w.heap.size w).alloc (Nat.le_refl _) (.cells #[.int .i64 a, .int .i64 u] 36)
  go_enter Tryd.func10, Tryd.ntmps10
  go_wp2_with fail
  refine (toSlab_any _ _ _).mono ?_
  rintro e w1 ⟨rfl, b1⟩
  have q1 := q0.keep b1 q0.lt
  have bb1 := bb0.trans (b1.mono bb0.size)
  clear q0 bb0 b1
  go_wp2_with fail
  refine (mSlabTake_any _ _ _).mono ?_
  rw [HT.out]
  rintro e w2 ⟨rfl, b2⟩
  have q2 := q1.keep b2 q1.lt
  have bb2 := bb1.trans (b2.mono bb1.size)
  have x0 : w2.cell? ⟨w.heap.size, 0, none⟩ = some (.int .i64 a) := q2.cell 0
  have x1 : w2.cell? ⟨w.heap.size, 1, none⟩ = some (.int .i64 u) := q2.cell 1
  have l2 := q2.lt
  have r2 := Rw.new w2 28 #[.int .i64 a', .int .i64 u']
  have bb2a := bb2.alloc bb2.size (.cells #[.int .i64 a', .int .i64 u'] 28)
  clear q1 bb1 b2 bb2 q2
  go_wp2_with fail
  refine (toSlab_any _ _ _).mono ?_
  rintro e w3 ⟨rfl, b3⟩
  have r3 := r2.keep b3 r2.lt
  have bb3 := bb2a.trans (b3.mono bb2a.size)
  clear x0 x1 r2 bb2a b3
  go_wp2_with fail
  refine (slabTake_any _ _ _ (hT.below bb3)).mono ?_
  rw [HT.out]
  rintro e w4 ⟨rfl, b4⟩
  have r4 := r3.keep b4 r3.lt
  have bb4 := bb3.trans (b4.mono bb3.size)
  have y0 : w4.cell? ⟨w2.heap.size, 0, none⟩ = some (.int .i64 a') := r4.cell 0
  have y1 : w4.cell? ⟨w2.heap.size, 1, none⟩ = some (.int .i64 u') := r4.cell 1
  have l4 := r4.lt
  have bb4a := bb4.alloc bb4.size (.cells #[.int .i64 a', .int .i64 u'] 28)
  clear r3 bb3 b4 bb4 r4
  go_wp2_with fail
  refine (eqSlab_any _ _ _).mono ?_
  rintro e w5 ⟨rfl, b5⟩
  go_wp2_with fail
  go_ret
  exact ⟨rfl, bb4a.trans (b5.mono bb4a.size)⟩

end Go.Proofs.YtaacoedmlfcdbaaDoor
