/- What PowerFor, buddyWords, otherHalf and freeHalves of the program return. -/
import Derived.Test.YthihaclhlmpioaaYd
import Derived.Lib.Strings
import Derived.Lib.Slices
import Derived.Lib.Small
import Derived.Lib.Walk
import Derived.Lib.BitFns
namespace Go.Proofs.Ythihaclhlmpioaa
open Go.RowKit

theorem bitLen_powN : ∀ n : Fin 256, Lib.bitLen n.val = powN ((n.val : Int) + 1) := by decide +kernel

set_option maxRecDepth 100000 in
set_option maxHeartbeats 4000000 in
theorem len64_any (n : Nat) (w : World) (hn : n < 256) : Calls Try.prog 57 #[.int .u64 n] w fun e w' => e = .returned (.int .i64 (powN ((n : Int) + 1))) ∧ w = w' := by
  have HP := Lib.hid (show Lib.bitLen n = powN ((n : Int) + 1) from bitLen_powN ⟨n, hn⟩)
  obtain ⟨x, hx⟩ : ∃ x : Int, (n : Int) = x := ⟨_, rfl⟩
  have h0 : 0 ≤ x := by omega
  have h1 : x ≤ 255 := by omega
  have HX := Lib.hid hx
  rw [hx]
  clear hx hn
  go_enter Try.func57, Try.ntmps57
  go_wp2
  go_ret
  refine ⟨ret_int ?_, rfl⟩
  have e := HP.out
  have ex := HX.out
  have l := Lib.bitLen_le8' x h0 h1
  rw [Lib.len8_of x h0 h1]
  have en : x.toNat = n := by omega
  rw [en] at l ⊢
  rw [← ex, ← e]
  unfold wrap64
  omega

theorem len_any (n : Nat) (w : World) (hn : n < 256) : Calls Try.prog 40 #[.int .u64 n] w fun e w' => e = .returned (.int .i64 (powN ((n : Int) + 1))) ∧ w = w' := by
  go_enter Try.func40, Try.ntmps40
  go_wp2_with fail
  refine (len64_any n w hn).mono ?_
  rintro e w' ⟨rfl, rfl⟩
  go_wp2_with fail
  go_ret
  exact ⟨rfl, rfl⟩

theorem powerFor_any (s : Int) (w : World) : Calls Try.prog 16 #[.int .i64 s] w fun e w' => e = .returned (.int .i64 (powW s)) ∧ w = w' := by
  by_cases hs : 1 ≤ s ∧ s ≤ 256
  · have hd : (decide ((1 : Int) ≤ s) && decide (s ≤ 256)) = true := by simpa using hs
    have HR := Lib.hid (show powW s = powN s by rw [powW, if_pos hs])
    obtain ⟨n, rfl⟩ : ∃ n : Nat, s = n + 1 := ⟨(s - 1).toNat, by omega⟩
    have hn : n < 256 := by omega
    have u1 : wrap64 ((n : Int) + 1 - 1) = n := by unfold wrap64; omega
    go_enter Try.func16, Try.ntmps16
    go_wp2_with fail
    refine (wordsValid_any _ _).mono ?_
    rw [hd]
    rintro e w' ⟨rfl, rfl⟩
    clear hd hs
    go_wp2_with fail
    refine (len_any n w hn).mono ?_
    rintro e w' ⟨rfl, rfl⟩
    go_wp2_with fail
    go_ret
    exact ⟨by rw [HR.out]; rfl, rfl⟩
  · have hd : (decide ((1 : Int) ≤ s) && decide (s ≤ 256)) = false := by simpa using hs
    have HR := Lib.hid (show powW s = -1 by rw [powW, if_neg hs])
    go_enter Try.func16, Try.ntmps16
    go_wp2_with fail
    refine (wordsValid_any _ _).mono ?_
    rw [hd]
    rintro e w' ⟨rfl, rfl⟩
    go_wp2_with fail
    go_ret
    exact ⟨by rw [HR.out]; rfl, rfl⟩

theorem buddyWords_any (j : Nat) (w : World) (hj : j ≤ 8) : Calls Try.prog 44 #[.int .i64 j] w fun e w' => e = .returned (.int .i64 (2 ^ j)) ∧ w = w' := by
  obtain ⟨w1, w2⟩ := wrap_pow hj
  have hj0 : ¬ ((j : Int) < 0) := by omega
  go_enter Try.func44, Try.ntmps44
  go_wp2
  go_ret
  exact ⟨rfl, rfl⟩

theorem xor_one (q : Nat) : q ^^^ 1 = if q % 2 = 0 then q + 1 else q - 1 := by
  have h1 : (q ^^^ 1) / 2 = q / 2 := by
    have := Nat.xor_div_two_pow (a := q) (b := 1) (n := 1)
    simpa using this
  have h2 : (q ^^^ 1) % 2 = (q + 1) % 2 := by
    have t : (q ^^^ 1) % 2 ^ 1 = q % 2 ^ 1 ^^^ 1 % 2 ^ 1 := Nat.xor_mod_two_pow
    rw [show (2 : Nat) ^ 1 = 2 from rfl] at t
    rcases Nat.mod_two_eq_zero_or_one q with e | e
    · rw [t, e]
      show 1 = _
      omega
    · rw [t, e]
      show 0 = _
      omega
  split <;> omega

theorem xor_pow (a j : Nat) : a ^^^ 2 ^ j = if (a / 2 ^ j) % 2 = 0 then a + 2 ^ j else a - 2 ^ j := by
  have hp := Nat.two_pow_pos j
  have h1 : (a ^^^ 2 ^ j) / 2 ^ j = a / 2 ^ j ^^^ 1 := by
    rw [Nat.xor_div_two_pow, Nat.div_self hp]
  have h2 : (a ^^^ 2 ^ j) % 2 ^ j = a % 2 ^ j := by
    rw [Nat.xor_mod_two_pow, Nat.mod_self, Nat.xor_zero]
  have h3 := Nat.div_add_mod (a ^^^ 2 ^ j) (2 ^ j)
  have h4 := Nat.div_add_mod a (2 ^ j)
  rw [h1, h2, xor_one] at h3
  generalize 2 ^ j = P at *
  split
  · next h =>
    rw [if_pos h, Nat.mul_add, Nat.mul_one] at h3
    omega
  · next h =>
    rw [if_neg h, Nat.mul_sub, Nat.mul_one] at h3
    have : P ≤ P * (a / P) := by
      have : 1 ≤ a / P := Nat.pos_of_ne_zero fun h0 => h (by rw [h0])
      calc P = P * 1 := (Nat.mul_one _).symm
        _ ≤ P * (a / P) := Nat.mul_le_mul_left _ this
    omega

theorem mateV_nat (a j : Nat) : mateV a j = ((a ^^^ 2 ^ j : Nat) : Int) := by
  rw [xor_pow]
  unfold mateV
  have hp := Nat.two_pow_pos j
  have e : ((a : Int) / 2 ^ j) % 2 = ((a / 2 ^ j % 2 : Nat) : Int) := by
    rw [pow_int]
    simp
  rw [e, pow_int]
  by_cases h : a / 2 ^ j % 2 = 0
  · rw [if_pos (by omega), if_pos h]
    simp
  · rw [if_neg (by omega), if_neg h]
    have : 2 ^ j ≤ a := by
      rcases Nat.lt_or_ge a (2 ^ j) with h1 | h1
      · rw [Nat.div_eq_of_lt h1] at h
        simp at h
      · exact h1
    omega

theorem xor_mate (a j : Nat) (ha : a ≤ 1125899906842624) (hj : j ≤ 8) : bits .xor .i64 (a : Int) (2 ^ j) = mateV a j := by
  have h8 := Bud.two_pow_le hj
  rw [mateV_nat, pow_int]
  generalize 2 ^ j = b at *
  have ea : (BitVec.ofInt 64 (a : Int)).toNat = a := by rw [BitVec.ofInt_natCast, BitVec.toNat_ofNat]; exact Nat.mod_eq_of_lt (by omega)
  have eb : (BitVec.ofInt 64 (b : Int)).toNat = b := by rw [BitVec.ofInt_natCast, BitVec.toNat_ofNat]; exact Nat.mod_eq_of_lt (by omega)
  have hlt : a ^^^ b < 2 ^ 63 := Nat.xor_lt_two_pow (by omega) (by omega)
  show IntKind.i64.wrap ((BitVec.ofInt 64 (a : Int) ^^^ BitVec.ofInt 64 (b : Int)).toNat : Int) = _
  rw [BitVec.toNat_xor, ea, eb, IntKind.wrap_i64]
  omega

theorem otherHalf_any (a j : Nat) (w : World) (ha : a ≤ 1125899906842624) (hj : j ≤ 8) : Calls Try.prog 60 #[.int .i64 a, .int .i64 j] w fun e w' => e = .returned (.int .i64 (mateV a j)) ∧ w = w' := by
  have hx := xor_mate a j ha hj
  go_enter Try.func60, Try.ntmps60
  go_wp2_with fail
  refine (buddyWords_any j w hj).mono ?_
  rintro e w' ⟨rfl, rfl⟩
  go_wp2_with fail
  go_ret
  exact ⟨rfl, rfl⟩
end Go.Proofs.Ythihaclhlmpioaa
