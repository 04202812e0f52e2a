/- Which instructions and programs the model calls valid, and which are possible. No conditions. -/
import Derived.Test.YtkdoolilggkjpaaHc
import Derived.Test.YtkdoolilggkjpaaKa
namespace Go.Proofs.Ytkdoolilggkjpaa
open Go.RowKit

/-- an instruction as a value -/
abbrev cmV (o : Cm) : Value := .agg #[.int .i64 o.op, .int .i64 o.a, .int .i64 o.b, .int .i64 o.c]

theorem l1In_is (n lo hi : Int) (x : Bool) (w : World) (h : Hps.inR n lo hi = x) : Calls Try.prog 45 #[.int .i64 n, .int .i64 lo, .int .i64 hi] w fun e w' => e = .returned (.bool x) ∧ w = w' :=
  (l1In_any n lo hi _).mono fun _ _ ⟨he, hw⟩ => ⟨by rw [he, ← h]; rfl, hw⟩

set_option maxHeartbeats 1000000 in
theorem mCV_new (a b c : Int) (w : World) (xa xb : Bool) (HA : Hid (Hps.inR a 0 3 = xa)) (HB : Hid (Hps.inR b 0 3 = xb)) (xc : Bool) (HC : Hid (Hps.inR c 0 99 = xc)) : Calls Try.prog 82 #[cmV ⟨1, a, b, c⟩] w fun e w' => e = .returned (.bool (xa && xb && xc)) ∧ Below w.heap.size w w' := by
  have bb : Below w.heap.size w (w.alloc (.cells #[.int .i64 1, .int .i64 a, .int .i64 b, .int .i64 c] 98)) := (Below.refl _ _).alloc (Nat.le_refl _) _
  go_enter Try.func82, Try.ntmps82
  go_wp2_with fail
  refine (l1In_is _ _ _ _ _ HA.out).mono ?_
  rintro e w1 ⟨rfl, rfl⟩
  go_wp2_with fail
  refine (l1In_is _ _ _ _ _ HB.out).mono ?_
  rintro e w1 ⟨rfl, rfl⟩
  cases xa
  · go_wp2_with fail
    go_ret
    exact ⟨rfl, bb⟩
  go_wp2_with fail
  refine (l1In_is _ _ _ _ _ HB.out).mono ?_
  rintro e w1 ⟨rfl, rfl⟩
  cases xb
  · go_wp2_with fail
    go_ret
    exact ⟨rfl, bb⟩
  go_wp2_with fail
  refine (l1In_is _ _ _ _ _ HC.out).mono ?_
  rintro e w1 ⟨rfl, rfl⟩
  go_wp2_with fail
  go_ret
  exact ⟨rfl, bb⟩
set_option maxHeartbeats 1000000 in
theorem mCV_get (a b c : Int) (w : World) (xa xb : Bool) (HA : Hid (Hps.inR a 0 3 = xa)) (HB : Hid (Hps.inR b 0 3 = xb)) (xc : Bool) (HC : Hid (Hps.inR c 0 2 = xc)) : Calls Try.prog 82 #[cmV ⟨2, a, b, c⟩] w fun e w' => e = .returned (.bool (xa && xb && xc)) ∧ Below w.heap.size w w' := by
  have bb : Below w.heap.size w (w.alloc (.cells #[.int .i64 2, .int .i64 a, .int .i64 b, .int .i64 c] 98)) := (Below.refl _ _).alloc (Nat.le_refl _) _
  go_enter Try.func82, Try.ntmps82
  go_wp2_with fail
  refine (l1In_is _ _ _ _ _ HA.out).mono ?_
  rintro e w1 ⟨rfl, rfl⟩
  go_wp2_with fail
  refine (l1In_is _ _ _ _ _ HB.out).mono ?_
  rintro e w1 ⟨rfl, rfl⟩
  cases xa
  · go_wp2_with fail
    go_ret
    exact ⟨rfl, bb⟩
  cases xb
  · go_wp2_with fail
    go_ret
    exact ⟨rfl, bb⟩
  go_wp2_with fail
  refine (l1In_is _ _ _ _ _ HC.out).mono ?_
  rintro e w1 ⟨rfl, rfl⟩
  go_wp2_with fail
  go_ret
  exact ⟨rfl, bb⟩
set_option maxHeartbeats 1000000 in
theorem mCV_set (a b c : Int) (w : World) (xa xb : Bool) (HA : Hid (Hps.inR a 0 3 = xa)) (HB : Hid (Hps.inR b 0 3 = xb)) (xc : Bool) (HC : Hid (Hps.inR c 0 2 = xc)) : Calls Try.prog 82 #[cmV ⟨3, a, b, c⟩] w fun e w' => e = .returned (.bool (xa && xb && xc)) ∧ Below w.heap.size w w' := by
  have bb : Below w.heap.size w (w.alloc (.cells #[.int .i64 3, .int .i64 a, .int .i64 b, .int .i64 c] 98)) := (Below.refl _ _).alloc (Nat.le_refl _) _
  go_enter Try.func82, Try.ntmps82
  go_wp2_with fail
  refine (l1In_is _ _ _ _ _ HA.out).mono ?_
  rintro e w1 ⟨rfl, rfl⟩
  go_wp2_with fail
  refine (l1In_is _ _ _ _ _ HB.out).mono ?_
  rintro e w1 ⟨rfl, rfl⟩
  cases xa
  · go_wp2_with fail
    go_ret
    exact ⟨rfl, bb⟩
  cases xb
  · go_wp2_with fail
    go_ret
    exact ⟨rfl, bb⟩
  go_wp2_with fail
  refine (l1In_is _ _ _ _ _ HC.out).mono ?_
  rintro e w1 ⟨rfl, rfl⟩
  go_wp2_with fail
  go_ret
  exact ⟨rfl, bb⟩
set_option maxHeartbeats 1000000 in
theorem mCV_copy (a b c : Int) (w : World) (xa xb : Bool) (HA : Hid (Hps.inR a 0 3 = xa)) (HB : Hid (Hps.inR b 0 3 = xb)) (xc : Bool) (hc : (c == 0) = xc) : Calls Try.prog 82 #[cmV ⟨4, a, b, c⟩] w fun e w' => e = .returned (.bool (xa && xb && xc)) ∧ Below w.heap.size w w' := by
  have bb : Below w.heap.size w (w.alloc (.cells #[.int .i64 4, .int .i64 a, .int .i64 b, .int .i64 c] 98)) := (Below.refl _ _).alloc (Nat.le_refl _) _
  go_enter Try.func82, Try.ntmps82
  go_wp2_with fail
  refine (l1In_is _ _ _ _ _ HA.out).mono ?_
  rintro e w1 ⟨rfl, rfl⟩
  go_wp2_with fail
  refine (l1In_is _ _ _ _ _ HB.out).mono ?_
  rintro e w1 ⟨rfl, rfl⟩
  cases xa
  · go_wp2_with fail
    go_ret
    exact ⟨rfl, bb⟩
  cases xb
  · go_wp2_with fail
    go_ret
    exact ⟨rfl, bb⟩
  go_wp2_with fail
  go_ret
  exact ⟨rfl, bb⟩
set_option maxHeartbeats 1000000 in
theorem mCV_drop (a b c : Int) (w : World) (xa xb : Bool) (HA : Hid (Hps.inR a 0 3 = xa)) (HB : Hid (Hps.inR b 0 3 = xb)) (xy xc : Bool) (hy : (b == 0) = xy) (hc : (c == 0) = xc) : Calls Try.prog 82 #[cmV ⟨5, a, b, c⟩] w fun e w' => e = .returned (.bool (xa && xy && xc)) ∧ Below w.heap.size w w' := by
  have bb : Below w.heap.size w (w.alloc (.cells #[.int .i64 5, .int .i64 a, .int .i64 b, .int .i64 c] 98)) := (Below.refl _ _).alloc (Nat.le_refl _) _
  go_enter Try.func82, Try.ntmps82
  go_wp2_with fail
  refine (l1In_is _ _ _ _ _ HA.out).mono ?_
  rintro e w1 ⟨rfl, rfl⟩
  go_wp2_with fail
  refine (l1In_is _ _ _ _ _ HB.out).mono ?_
  rintro e w1 ⟨rfl, rfl⟩
  cases xa
  · go_wp2_with fail
    go_ret
    exact ⟨rfl, bb⟩
  cases xy
  · go_wp2_with fail
    go_ret
    exact ⟨rfl, bb⟩
  go_wp2_with fail
  go_ret
  exact ⟨rfl, bb⟩
set_option maxHeartbeats 1000000 in
theorem mCV_data (a b c : Int) (w : World) (xa xb : Bool) (HA : Hid (Hps.inR a 0 3 = xa)) (HB : Hid (Hps.inR b 0 3 = xb)) (xy xc : Bool) (HY : Hid (Hps.inR b 0 99 = xy)) (hc : (c == 0) = xc) : Calls Try.prog 82 #[cmV ⟨6, a, b, c⟩] w fun e w' => e = .returned (.bool (xa && xy && xc)) ∧ Below w.heap.size w w' := by
  have bb : Below w.heap.size w (w.alloc (.cells #[.int .i64 6, .int .i64 a, .int .i64 b, .int .i64 c] 98)) := (Below.refl _ _).alloc (Nat.le_refl _) _
  go_enter Try.func82, Try.ntmps82
  go_wp2_with fail
  refine (l1In_is _ _ _ _ _ HA.out).mono ?_
  rintro e w1 ⟨rfl, rfl⟩
  go_wp2_with fail
  refine (l1In_is _ _ _ _ _ HB.out).mono ?_
  rintro e w1 ⟨rfl, rfl⟩
  cases xa
  · go_wp2_with fail
    go_ret
    exact ⟨rfl, bb⟩
  go_wp2_with fail
  refine (l1In_is _ _ _ _ _ HY.out).mono ?_
  rintro e w1 ⟨rfl, rfl⟩
  cases xy
  · go_wp2_with fail
    go_ret
    exact ⟨rfl, bb⟩
  go_wp2_with fail
  go_ret
  exact ⟨rfl, bb⟩
set_option maxHeartbeats 1000000 in
theorem mCV_none (op a b c : Int) (w : World) (xa xb : Bool) (HA : Hid (Hps.inR a 0 3 = xa)) (HB : Hid (Hps.inR b 0 3 = xb)) (h1 : ¬ op = 1) (h2 : ¬ op = 2) (h3 : ¬ op = 3) (h4 : ¬ op = 4) (h5 : ¬ op = 5) (h6 : ¬ op = 6) : Calls Try.prog 82 #[cmV ⟨op, a, b, c⟩] w fun e w' => e = .returned (.bool (false)) ∧ Below w.heap.size w w' := by
  have bb : Below w.heap.size w (w.alloc (.cells #[.int .i64 op, .int .i64 a, .int .i64 b, .int .i64 c] 98)) := (Below.refl _ _).alloc (Nat.le_refl _) _
  go_enter Try.func82, Try.ntmps82
  go_wp2_with fail
  refine (l1In_is _ _ _ _ _ HA.out).mono ?_
  rintro e w1 ⟨rfl, rfl⟩
  go_wp2_with fail
  refine (l1In_is _ _ _ _ _ HB.out).mono ?_
  rintro e w1 ⟨rfl, rfl⟩
  go_wp2_with fail
  go_ret
  exact ⟨rfl, bb⟩

theorem mCommandValid_any (o : Cm) (w : World) : Calls Try.prog 82 #[cmV o] w fun e w' => e = .returned (.bool (Hps.okCm o)) ∧ Below w.heap.size w w' := by
  obtain ⟨op, a, b, c⟩ := o
  have HA : Hid (Hps.inR a 0 3 = Hps.inR a 0 3) := Lib.hid rfl
  have HB : Hid (Hps.inR b 0 3 = Hps.inR b 0 3) := Lib.hid rfl
  have d0 : ∀ n : Int, (n == 0) = decide (n = 0) := fun _ => rfl
  by_cases h1 : op = 1
  · subst h1
    rw [show Hps.okCm ⟨1, a, b, c⟩ = (Hps.inR a 0 3 && Hps.inR b 0 3 && Hps.inR c 0 99) by simp [Hps.okCm]]
    exact mCV_new a b c w _ _ HA HB _ (Lib.hid rfl)
  by_cases h2 : op = 2
  · subst h2
    rw [show Hps.okCm ⟨2, a, b, c⟩ = (Hps.inR a 0 3 && Hps.inR b 0 3 && Hps.inR c 0 2) by simp [Hps.okCm]]
    exact mCV_get a b c w _ _ HA HB _ (Lib.hid rfl)
  by_cases h3 : op = 3
  · subst h3
    rw [show Hps.okCm ⟨3, a, b, c⟩ = (Hps.inR a 0 3 && Hps.inR b 0 3 && Hps.inR c 0 2) by simp [Hps.okCm]]
    exact mCV_set a b c w _ _ HA HB _ (Lib.hid rfl)
  by_cases h4 : op = 4
  · subst h4
    rw [show Hps.okCm ⟨4, a, b, c⟩ = (Hps.inR a 0 3 && Hps.inR b 0 3 && decide (c = 0)) by simp [Hps.okCm]]
    exact mCV_copy a b c w _ _ HA HB _ (d0 c)
  by_cases h5 : op = 5
  · subst h5
    rw [show Hps.okCm ⟨5, a, b, c⟩ = (Hps.inR a 0 3 && decide (b = 0) && decide (c = 0)) by simp [Hps.okCm]]
    exact mCV_drop a b c w _ _ HA HB _ _ (d0 b) (d0 c)
  by_cases h6 : op = 6
  · subst h6
    rw [show Hps.okCm ⟨6, a, b, c⟩ = (Hps.inR a 0 3 && Hps.inR b 0 99 && decide (c = 0)) by simp [Hps.okCm]]
    exact mCV_data a b c w _ _ HA HB _ _ (Lib.hid rfl) (d0 c)
  rw [show Hps.okCm ⟨op, a, b, c⟩ = false by simp [Hps.okCm, h1, h2, h3, h4, h5, h6]]
  exact mCV_none op a b c w _ _ HA HB h1 h2 h3 h4 h5 h6
end Go.Proofs.Ytkdoolilggkjpaa
