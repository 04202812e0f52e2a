/- What the program's numbers and firstOutside of a set of cells return: for every word of bits, in every memory in which the table of math/bits lies as laid. -/
import Derived.Test.YthmddmddcdofaaaTz
import Derived.Test.YthmddmddcdofaaaGg
namespace Go.Proofs.Ythmddmddcdofaaa
open Go.RowKit
set_option maxRecDepth 100000

namespace Hps
/-- the numbers of the bits that are set, ascending -/
def numsB (V : Nat) : List Int := ((List.range 64).filter V.testBit).map fun (k : Nat) => (k : Int)
theorem filter_first {p : Nat → Bool} {k : Nat} (hp : p k = true) (hb : ∀ j, j < k → p j = false) : ∀ n, k < n → (List.range n).filter p = k :: (List.range n).filter (fun i => p i && decide (i ≠ k))
  | 0, h => by omega
  | n + 1, h => by
    have hnil : ∀ m, m ≤ k → ∀ q : Nat → Bool, (∀ j, j < k → q j = false) → (List.range m).filter q = [] := fun m hm q hq => by
      rw [List.filter_eq_nil_iff]
      intro a ha
      rw [hq a (by have := List.mem_range.1 ha; omega)]
      simp
    rw [List.range_succ, List.filter_append, List.filter_append]
    by_cases hk : k < n
    · rw [filter_first hp hb n hk]
      have e : (p n && decide (n ≠ k)) = p n := by rw [decide_eq_true (show n ≠ k by omega), Bool.and_true]
      rw [List.cons_append]
      congr 2
      rw [List.filter_cons, List.filter_cons, e, List.filter_nil, List.filter_nil]
    · obtain rfl : n = k := by omega
      rw [hnil n (Nat.le_refl _) p hb, hnil n (Nat.le_refl _) _ (fun j hj => by rw [hb j hj]; rfl)]
      simp [hp]
theorem clear_low {x : Nat} (h0 : x ≠ 0) (h : x < 18446744073709551616) (i : Nat) : (x &&& (x - 1)).testBit i = (x.testBit i && decide (i ≠ Lib.ctz 64 x)) := by
  obtain ⟨m, hm, hk⟩ := Lib.ctzFrom_spec 64 x (by omega) h
  have e : Lib.ctz 64 x = Lib.ctzFrom 64 x := by simp [Lib.ctz, h0]
  rw [e]
  obtain ⟨k, hkk⟩ : ∃ k, Lib.ctzFrom 64 x = k := ⟨_, rfl⟩
  rw [hkk] at hm ⊢
  have hp : 0 < 2 ^ k := Nat.two_pow_pos k
  have hx1 : x - 1 = (2 * m) * 2 ^ k + (2 ^ k - 1) := by
    have : 2 ^ k * (2 * m + 1) = (2 * m) * 2 ^ k + 2 ^ k := by rw [Nat.mul_add, Nat.mul_one, Nat.mul_comm]
    omega
  have hx : x = (2 * m + 1) * 2 ^ k := by rw [hm, Nat.mul_comm]
  have hdiv : (x - 1) / 2 ^ k = 2 * m := by
    rw [hx1, Nat.mul_comm, Nat.mul_add_div hp, Nat.div_eq_of_lt (show 2 ^ k - 1 < 2 ^ k by omega)]
    omega
  rw [Nat.testBit_and]
  rcases Nat.lt_trichotomy i k with h1 | h1 | h1
  · have : x.testBit i = false := by
      rw [hx, Nat.testBit_mul_two_pow]
      simp
      omega
    rw [this]
    rfl
  · subst h1
    have : (x - 1).testBit i = false := by
      rw [Nat.testBit, Nat.shiftRight_eq_div_pow, hdiv]
      simp
    rw [this]
    simp
  · have e1 : ∀ y, y.testBit i = (y / 2 ^ k).testBit (i - k) := fun y => by
      rw [← Nat.shiftRight_eq_div_pow, Nat.testBit_shiftRight]
      congr 1
      omega
    have e2 : x / 2 ^ k = 2 * m + 1 := by rw [hx, Nat.mul_div_cancel _ hp]
    obtain ⟨j, hj⟩ : ∃ j, i - k = j + 1 := ⟨i - k - 1, by omega⟩
    rw [e1 x, e1 (x - 1), hdiv, e2, hj, Nat.testBit_succ, Nat.testBit_succ, show (2 * m + 1) / 2 = m by omega, show 2 * m / 2 = m by omega, decide_eq_true (show i ≠ k by omega)]
    simp
theorem nums_zero : numsB 0 = [] := by simp [numsB]
theorem nums_next {x : Nat} (h0 : x ≠ 0) (h : x < 18446744073709551616) : numsB x = (Lib.ctz 64 x : Int) :: numsB (x &&& (x - 1)) := by
  obtain ⟨h1, h2⟩ := Bm.ctz_bit h0 h
  have h3 := (Lib.lowest_bit 64 x h0 h).2
  unfold numsB
  rw [filter_first h1 h2 64 h3, List.map_cons]
  congr 2
  exact List.filter_congr fun i _ => (clear_low h0 h i).symm
theorem nums_len (x : Nat) : (numsB x).length ≤ 64 := by
  unfold numsB
  rw [List.length_map]
  exact Nat.le_trans (List.length_filter_le _ _) (by simp)
end Hps

end Go.Proofs.Ythmddmddcdofaaa
