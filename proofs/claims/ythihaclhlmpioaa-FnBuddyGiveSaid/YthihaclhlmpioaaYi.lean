/- The draws of buddies for the laws P25 and P28, and the law P25: for every list of bytes. -/
import Derived.Test.YthihaclhlmpioaaYh
import Derived.Test.YthihaclhlmpioaaZb
import Derived.Test.YthihaclhlmpioaaWg
namespace Go.Proofs.Ythihaclhlmpioaa
open Go.RowKit

/-- buddies and a power have been drawn for a law -/
def DrawnY (w : World) (e : Ending) (w' : World) : Prop :=
  ∃ (v : Value) (xs : List Bl) (T : Int), e = .returned (.tuple #[v, .int .i64 T]) ∧ OwnY w' w.heap.size v xs ∧ AllI xs ∧ 1 ≤ xs.length ∧ xs.length ≤ 300 ∧ -1 ≤ T ∧ T ≤ 9 ∧ Below w.heap.size w w'
theorem drawBuddiesValid_any (A : Option Addr) (n c : Nat) (w : World) (h : Bytes w w.heap.size A n) (hc : n ≤ c) (hn : n ≤ 9223372036854775807) :
    Calls Try.prog 19 #[.slice A n c] w (DrawnY w) := by
  go_enter Try.func19, Try.ntmps19
  go_wp2_with fail
  refine (open_any _ _ _ _ h hc hn).mono ?_
  rintro e w1 ⟨rfl, hr1, b1⟩
  go_wp2_with fail
  refine (l20Buddies_any _ _ _ _ hr1 (by omega) (by omega) (by omega)).mono ?_
  rintro e w2 ⟨v, xs, T, rfl, ho, ha, h1, h2, h3, h4, _, hg⟩
  have HA := Lib.hid ha
  clear ha
  go_wp2_with fail
  go_ret2
  exact ⟨v, xs, T, rfl, ho.base b1.size, HA.out, h1, h2, h3, h4, b1.grown hg b1.size (fun k hk => by injection hk; omega)⟩
theorem drawBuddyFree_any (A : Option Addr) (n c : Nat) (w : World) (h : Bytes w w.heap.size A n) (hc : n ≤ c) (hn : n ≤ 9223372036854775807) :
    Calls Try.prog 30 #[.slice A n c] w (DrawnY w) := by
  go_enter Try.func30, Try.ntmps30
  go_wp2_with fail
  refine (open_any _ _ _ _ h hc hn).mono ?_
  rintro e w1 ⟨rfl, hr1, b1⟩
  go_wp2_with fail
  refine (l20Buddies_any _ _ _ _ hr1 (by omega) (by omega) (by omega)).mono ?_
  rintro e w2 ⟨v, xs, T, rfl, ho, ha, h1, h2, h3, h4, _, hg⟩
  have HA := Lib.hid ha
  clear ha
  go_wp2_with fail
  go_ret2
  exact ⟨v, xs, T, rfl, ho.base b1.size, HA.out, h1, h2, h3, h4, b1.grown hg b1.size (fun k hk => by injection hk; omega)⟩

namespace Bud
theorem not_more {xs : List Bl} {p : Int} (hv : validY xs p = true) : validY xs (p + 1) = false := by
  cases h : validY xs (p + 1)
  · rfl
  · obtain ⟨a1, a2, _, a4⟩ := (validY_iff xs p).1 hv
    obtain ⟨b1, b2, _, b4⟩ := (validY_iff xs (p + 1)).1 h
    rw [show (p + 1).toNat = p.toNat + 1 by omega, Nat.pow_succ] at b4
    have := Nat.two_pow_pos p.toNat
    omega
theorem not_less {xs : List Bl} {p : Int} (hv : validY xs p = true) : validY (xs.take (xs.length - 1)) p = false := by
  obtain ⟨l1, _, _, _, l5, _⟩ := validY_len hv
  have hx : xs[xs.length - 1]? = some xs[xs.length - 1] := List.getElem?_eq_getElem (by omega)
  have hs := atY_succ hx
  rw [show xs.length - 1 + 1 = xs.length by omega] at hs
  cases h : validY (xs.take (xs.length - 1)) p
  · rfl
  · obtain ⟨_, _, _, _, m5, _⟩ := validY_len h
    have e : atY (xs.take (xs.length - 1)) (xs.take (xs.length - 1)).length = atY xs (xs.length - 1) := by
      unfold atY
      rw [List.take_length]
    have := Nat.two_pow_pos (xs[xs.length - 1]).z.toNat
    rw [e] at m5
    omega
end Bud

set_option maxHeartbeats 2000000 in
theorem buddiesValidLaw_walk (A : Option Addr) (n c : Nat) (w : World) (h : Bytes w w.heap.size A n) (hc : n ≤ c) (hn : n ≤ 9223372036854775807) :
    Calls Try.prog 4 #[.slice A n c] w fun e w' => e = .returned (.bool true) ∧ Below w.heap.size w w' := by
  by_cases hs : n ≤ 1048576
  · go_enter Try.func4, Try.ntmps4
    go_wp2_with fail
    refine (drawBuddiesValid_any _ _ _ _ h hc hn).mono ?_
    rintro e w1 ⟨v, xs, T, rfl, o1, ha, l1, l2, t1, t2, b1⟩
    obtain ⟨A1, c1, rfl, f1⟩ := o1.form
    have hcap := o1.cap.2
    clear f1
    have HA := Lib.hid ha
    clear ha
    go_wp2_with fail
    refine (buddiesValid_any _ _ _ xs _ _ (o1.reads HA.out) (by omega)).mono ?_
    rintro e w2 ⟨rfl, b2⟩
    have bb2 := b1.trans (b2.mono b1.size)
    have o2 := o1.below b2 (Nat.le_refl _)
    go_wp2_with fail
    refine (mBuddiesValid_any _ _ _ xs _ _ (o2.reads HA.out) (by omega)).mono ?_
    rintro e w3 ⟨rfl, b3⟩
    have bb3 := bb2.trans (b3.mono bb2.size)
    have o3 := o2.below b3 (Nat.le_refl _)
    clear o1 o2 b1 b2 b3 bb2
    cases hv : Bud.validY xs T
    · clear hv
      go_wp2_with fail
      refine (alive_any _).mono ?_
      rintro e w4 ⟨rfl, b4⟩
      go_wp2_with fail
      go_ret
      exact ⟨rfl, bb3.trans (b4.mono bb3.size)⟩
    · have HM := Lib.hid (Bud.not_more hv)
      have HL := Lib.hid (Bud.not_less hv)
      have R3 := o3.reads HA.out
      have R4 := fun w' (hb : Below w3.heap.size w3 w') => ((R3.up hb).take (k := xs.length - 1) (by omega))
      have HR4 := Lib.hid R4
      clear hv R4
      have u0 : ((xs.length : Int) == 0) = false := by rw [beq_eq_false_iff_ne]; omega
      have u1 : (xs.length : Int) - 1 ≤ c1 := by omega
      have u2 : 0 ≤ (xs.length : Int) - 1 := by omega
      have u3 : ((xs.length : Int) - 1).toNat = xs.length - 1 := by omega
      have u4 : xs.length - 1 ≤ 300 := by omega
      go_wp2_with fail
      refine (buddiesValid_any _ _ _ xs _ _ R3 (by omega)).mono ?_
      rw [HM.out]
      rintro e w4 ⟨rfl, b4⟩
      go_wp2_with fail
      refine (buddiesValid_any _ _ _ (xs.take (xs.length - 1)) _ _ (HR4.out _ b4) (by omega)).mono ?_
      rw [HL.out]
      rintro e w5 ⟨rfl, b5⟩
      go_wp2_with fail
      go_ret
      have bb4 := bb3.trans (b4.mono bb3.size)
      exact ⟨rfl, bb4.trans (b5.mono bb4.size)⟩
  · have hs' : (1048576 : Int) < n := by omega
    go_enter Try.func4, Try.ntmps4
    go_wp2
    go_ret
    exact ⟨rfl, Below.refl _ _⟩
end Go.Proofs.Ythihaclhlmpioaa
