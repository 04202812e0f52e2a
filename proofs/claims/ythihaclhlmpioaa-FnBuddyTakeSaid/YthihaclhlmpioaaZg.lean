/- What leastFrom, has and joined of the program return: for nine slices of ascending numbers. -/
import Derived.Test.YthihaclhlmpioaaZf
import Derived.Test.YthihaclhlmpioaaWs
namespace Go.Proofs.Ythihaclhlmpioaa
open Go.RowKit

namespace Bud
/-- the first number of the first slice that has one, from slice j on -/
def leastF (FL : Nat → List Int) : Nat → Nat → Int
  | 0, _ => -1
  | d + 1, j => match FL j with
    | [] => leastF FL d (j + 1)
    | s :: _ => s

/-- the first word of both halves -/
def baseV (s j : Nat) : Nat := if (s / 2 ^ j) % 2 = 0 then s else s - 2 ^ j
/-- joined again and again -/
def joinF (FL : Nat → List Int) : Nat → Nat → Nat → Nat × Nat
  | 0, s, j => (s, j)
  | d + 1, s, j => if mateV s j ∈ FL j then joinF FL d (baseV s j) (j + 1) else (s, j)
theorem baseV_le (s j : Nat) : baseV s j ≤ s := by
  unfold baseV
  split
  · exact Nat.le_refl _
  · exact Nat.sub_le _ _
end Bud

theorem andNot_nat (a j : Nat) (ha : a < 256) (hj : j ≤ 8) : bits .andNot .i64 (a : Int) (2 ^ j) = (Bud.baseV a j : Nat) := by
  have h8 := Bud.two_pow_le hj
  rw [pow_int]
  have ea : (BitVec.ofInt 64 (a : Int)).toNat = a := by rw [BitVec.ofInt_natCast, BitVec.toNat_ofNat]; exact Nat.mod_eq_of_lt (by omega)
  have eb : (BitVec.ofInt 64 ((2 ^ j : Nat) : Int)).toNat = 2 ^ j := by rw [BitVec.ofInt_natCast, BitVec.toNat_ofNat]; exact Nat.mod_eq_of_lt (by omega)
  have ex : ∀ x y : BitVec 64, x &&& ~~~y = x ^^^ (x &&& y) := by
    intro x y
    ext i hi
    simp
    cases x[i] <;> cases y[i] <;> rfl
  show IntKind.i64.wrap ((BitVec.ofInt 64 (a : Int) &&& ~~~BitVec.ofInt 64 ((2 ^ j : Nat) : Int)).toNat : Int) = _
  rw [ex, BitVec.toNat_xor, BitVec.toNat_and, ea, eb]
  have hand : a &&& 2 ^ j = if (a / 2 ^ j) % 2 = 0 then 0 else 2 ^ j := by
    apply Nat.eq_of_testBit_eq
    intro i
    rw [Nat.testBit_and, Nat.testBit_two_pow]
    by_cases hi : j = i
    · subst hi
      rw [Nat.testBit_eq_decide_div_mod_eq]
      rcases Nat.mod_two_eq_zero_or_one (a / 2 ^ j) with h | h
      · simp [h]
      · simp [h]
    · split
      · simp [hi]
      · rw [Nat.testBit_two_pow]
        simp [hi]
  have hres : a ^^^ (a &&& 2 ^ j) = Bud.baseV a j := by
    rw [hand]
    unfold Bud.baseV
    by_cases h : (a / 2 ^ j) % 2 = 0
    · rw [if_pos h, if_pos h, Nat.xor_zero]
    · rw [if_neg h, if_neg h, xor_pow, if_neg h]
  rw [hres, IntKind.wrap_i64]
  have := Bud.baseV_le a j
  omega

set_option maxRecDepth 100000 in
set_option maxHeartbeats 2000000 in
theorem leastFrom_any (A : Nat → Option Addr) (N C : Nat → Nat) (FL : Nat → List Int) (m : Nat) (w : World) (hI : ∀ j, j < 9 → IS w w.heap.size (A j) (N j) (FL j)) (hm : m ≤ 8) (hN : ∀ j, j < 9 → N j ≤ 1099511627776) :
    Calls Try.prog 49 #[.agg (flv A N C), .int .i64 m] w fun e w' => e = .returned (.int .i64 (Bud.leastF FL (9 - m) m)) ∧ Below w.heap.size w w' := by
  have bW : Below w.heap.size w (w.alloc (.cells (flv A N C) 62)) := (Below.refl _ _).alloc (Nat.le_refl _) _
  have hrow := Rw.new w 62 (flv A N C)
  have HC := Lib.hid (fun j hj => (hrow.cell j).trans (flv_at A N C hj))
  have HI := Lib.hid (fun j hj => (hI j hj).below bW)
  have HB := Lib.hid bW
  have HN := Lib.hid hN
  clear hrow hI bW hN
  unfold flv at HC HI HB ⊢
  go_enter Try.func49, Try.ntmps49
  have hm' : (m : Int) ≤ 9 := by omega
  go_wp2_with fail
  generalize hW : w.alloc (.cells #[.slice (A 0) (N 0) (C 0), .slice (A 1) (N 1) (C 1), .slice (A 2) (N 2) (C 2), .slice (A 3) (N 3) (C 3), .slice (A 4) (N 4) (C 4), .slice (A 5) (N 5) (C 5), .slice (A 6) (N 6) (C 6), .slice (A 7) (N 7) (C 7), .slice (A 8) (N 8) (C 8)] 62) = W at *
  clear hW
  obtain ⟨d, hd⟩ : ∃ d, 9 - m = d := ⟨_, rfl⟩
  rw [hd]
  have hdm : d + m = 9 := by omega
  clear hd
  go_loop [10] (fun i => ∃ k : Nat, k ≤ d ∧ i = .int .i64 k ∧ Hid (Bud.leastF FL d m = Bud.leastF FL (d - k) (m + k))) (fun i => d - (intOf i).toNat)
  case atStart => exact ⟨0, Nat.zero_le _, rfl, rfl⟩
  case round =>
    obtain ⟨k, hk, rfl, hle⟩ := hrel
    by_cases hlt : k < d
    · have hlt' : (k : Int) < d := by omega
      have c0 := HC.out (m + k) (by omega)
      have h0 := HI.out (m + k) (by omega)
      have hNm := HN.out (m + k) (by omega)
      by_cases hp : 0 < N (m + k)
      · obtain ⟨g, o, v, hA, hg, hx, _, cv⟩ := h0.at_ hp
        rw [hA] at c0
        rw [Nat.add_zero] at cv
        have HR := Lib.hid (show Bud.leastF FL d m = v by
          rw [hle.out, show d - k = (d - k - 1) + 1 by omega, Bud.leastF]
          cases hf : FL (m + k) with
          | nil => rw [hf] at hx; simp at hx
          | cons a l => rw [hf] at hx; simp at hx; exact hx)
        have hp' : (0 : Int) < (N (m + k) : Int) := by omega
        generalize N (m + k) = q at *
        generalize C (m + k) = q2 at *
        clear h0 hx
        go_wp2
        go_ret
        exact ⟨by rw [show 9 - m = d by omega, HR.out]; rfl, HB.out⟩
      · have hz : N (m + k) = 0 := by omega
        have HR := Lib.hid (show Bud.leastF FL d m = Bud.leastF FL (d - (k + 1)) (m + (k + 1)) by
          rw [hle.out, show d - k = (d - (k + 1)) + 1 by omega, Bud.leastF]
          have : FL (m + k) = [] := List.eq_nil_of_length_eq_zero (h0.1.trans hz)
          rw [this]
          rfl)
        rw [hz] at c0
        clear h0
        generalize C (m + k) = q2 at *
        generalize A (m + k) = q3 at *
        go_wp2
        go_round
        case rel => exact ⟨k + 1, by omega, by go_num, HR⟩
        case measure => simp [intOf]; omega
    · have HR := Lib.hid (show Bud.leastF FL d m = -1 by
        rw [hle.out, show d - k = 0 by omega]
        rfl)
      have hlt' : ¬ ((k : Int) < d) := by omega
      go_wp2
      go_ret
      exact ⟨by rw [show 9 - m = d by omega, HR.out]; rfl, HB.out⟩

set_option maxRecDepth 100000 in
set_option maxHeartbeats 2000000 in
theorem has_any (A : Nat → Option Addr) (N C : Nat → Nat) (FL : Nat → List Int) (v : Int) (j : Nat) (w : World) (hI : IS w w.heap.size (A j) (N j) (FL j)) (hj : j ≤ 8) (hN : N j ≤ 1099511627776) (ha : AscN (FL j)) :
    Calls Try.prog 64 #[.agg (flv A N C), .int .i64 v, .int .i64 j] w fun e w' => e = .returned (.bool (decide (v ∈ FL j))) ∧ Below w.heap.size w w' := by
  have bW : Below w.heap.size w (w.alloc (.cells (flv A N C) 62)) := (Below.refl _ _).alloc (Nat.le_refl _) _
  have hrow := Rw.new w 62 (flv A N C)
  have c0 := (hrow.cell j).trans (flv_at A N C (show j < 9 by omega))
  have HI := Lib.hid (hI.up bW)
  have HB := Lib.hid bW
  clear hrow hI bW
  obtain ⟨q1, h1⟩ : ∃ q1, A j = q1 := ⟨_, rfl⟩
  obtain ⟨q2, h2⟩ : ∃ q2, N j = q2 := ⟨_, rfl⟩
  obtain ⟨q3, h3⟩ : ∃ q3, C j = q3 := ⟨_, rfl⟩
  rw [h1, h2, h3] at c0
  rw [h1, h2] at HI
  rw [h2] at hN
  clear h1 h2 h3
  unfold flv at c0 HI HB ⊢
  have hj' : (j : Int) < 9 := by omega
  go_enter Try.func64, Try.ntmps64
  go_wp2_with fail
  refine (binarySearch_any _ _ _ (FL j) v _ HI.out hN ha).mono ?_
  rintro e w' ⟨rfl, rfl⟩
  go_wp2_with fail
  go_ret
  exact ⟨rfl, HB.out⟩
end Go.Proofs.Ythihaclhlmpioaa
