/- Bitmaps as words of bits, in plain mathematics: what the program's words of bits are, and what they have to do with runs. No program, no conditions. -/
import Derived.Test.YtkdoolilggkjpaaBa
import Derived.Laws.BitsAllLaws
import Derived.Lib.TrailingZeros
namespace Go.Proofs.Ytkdoolilggkjpaa
namespace Bm

/-- the bits of the first k words that are b -/
def setN (xs : List Bool) (b : Bool) : Nat → Nat
  | 0 => 0
  | k + 1 => if xs[k]? = some b then setN xs b k ||| 2 ^ k else setN xs b k
theorem setN_bit (xs : List Bool) (b : Bool) (i : Nat) : ∀ k, (setN xs b k).testBit i = (decide (i < k) && decide (xs[i]? = some b))
  | 0 => by simp [setN]
  | k + 1 => by
    have ih := setN_bit xs b i k
    unfold setN
    by_cases hx : xs[k]? = some b
    · rw [if_pos hx, Nat.testBit_or, ih, Nat.testBit_two_pow]
      rcases Nat.lt_trichotomy i k with h | h | h
      · have h1 : ¬ k = i := by omega
        have h2 : i < k + 1 := by omega
        simp [h, h1, h2]
      · subst h
        simp [hx]
      · have h1 : ¬ k = i := by omega
        have h2 : ¬ i < k + 1 := by omega
        have h3 : ¬ i < k := by omega
        simp [h1, h2, h3]
    · rw [if_neg hx, ih]
      rcases Nat.lt_trichotomy i k with h | h | h
      · have h2 : i < k + 1 := by omega
        simp [h, h2]
      · subst h
        simp [hx]
      · have h2 : ¬ i < k + 1 := by omega
        have h3 : ¬ i < k := by omega
        simp [h2, h3]
theorem setN_lt (xs : List Bool) (b : Bool) : ∀ k, setN xs b k < 2 ^ k
  | 0 => by simp [setN]
  | k + 1 => by
    have ih := setN_lt xs b k
    have h2 : 2 ^ k < 2 ^ (k + 1) := Nat.pow_lt_pow_right (by omega) (by omega)
    unfold setN
    split
    · exact Nat.or_lt_two_pow (by omega) h2
    · omega
theorem pow64 {k : Nat} (h : k ≤ 64) : 2 ^ k ≤ 18446744073709551616 := by
  rw [show (18446744073709551616 : Nat) = 2 ^ 64 by decide]
  exact Nat.pow_le_pow_right (by omega) h
theorem setN_64 (xs : List Bool) (b : Bool) {k : Nat} (h : k ≤ 64) : setN xs b k < 18446744073709551616 := Nat.lt_of_lt_of_le (setN_lt xs b k) (pow64 h)
/-- the bits of all words that are b -/
def wordN (xs : List Bool) (b : Bool) : Nat := setN xs b xs.length
theorem wordN_bit (xs : List Bool) (b : Bool) (i : Nat) : (wordN xs b).testBit i = decide (xs[i]? = some b) := by
  unfold wordN
  rw [setN_bit]
  by_cases h : i < xs.length
  · simp [h]
  · rw [List.getElem?_eq_none (by omega)]
    simp
theorem wordN_lt (xs : List Bool) (b : Bool) (h : xs.length ≤ 64) : wordN xs b < 18446744073709551616 := setN_64 xs b h

/-- the bits of m words from word s on -/
def maskN (s m : Nat) : Nat := (2 ^ m - 1) * 2 ^ s
theorem maskN_bit (s m i : Nat) : (maskN s m).testBit i = decide (s ≤ i ∧ i < s + m) := by
  unfold maskN
  rw [Nat.testBit_mul_two_pow, Nat.testBit_two_pow_sub_one]
  by_cases h : s ≤ i
  · by_cases h2 : i < s + m
    · have : i - s < m := by omega
      simp [h, h2, this]
    · have : ¬ i - s < m := by omega
      simp [h2, this]
  · simp [h]
theorem maskN_lt {s m : Nat} (h : s + m ≤ 64) : maskN s m < 18446744073709551616 := by
  have h1 : maskN s m < 2 ^ (s + m) := by
    apply Nat.lt_pow_two_of_testBit
    intro i hi
    rw [maskN_bit]
    simp
    omega
  exact Nat.lt_of_lt_of_le h1 (pow64 h)
theorem maskN_pos {s m : Nat} (h : 1 ≤ m) : maskN s m ≠ 0 := by
  intro e
  have := maskN_bit s m s
  rw [e] at this
  simp at this
  omega
theorem full_div {m : Nat} (h : m ≤ 64) : 18446744073709551615 / 2 ^ (64 - m) = 2 ^ m - 1 := by
  have e : (18446744073709551616 : Nat) = 2 ^ m * 2 ^ (64 - m) := by rw [← Nat.pow_add, show m + (64 - m) = 64 by omega]
  have hp : 0 < 2 ^ (64 - m) := Nat.pow_pos (by omega)
  have hm : 0 < 2 ^ m := Nat.pow_pos (by omega)
  apply Nat.div_eq_of_lt_le
  · have : (2 ^ m - 1) * 2 ^ (64 - m) = 2 ^ m * 2 ^ (64 - m) - 2 ^ (64 - m) := by rw [Nat.sub_mul, Nat.one_mul]
    omega
  · rw [show 2 ^ m - 1 + 1 = 2 ^ m by omega, ← e]
    omega

/-- a bit and nothing else -/
theorem and_pow (n i : Nat) : n &&& 2 ^ i = if n.testBit i = true then 2 ^ i else 0 := by
  apply Nat.eq_of_testBit_eq
  intro j
  rw [Nat.testBit_and, Nat.testBit_two_pow]
  by_cases h : i = j
  · subst h
    cases n.testBit i <;> simp
  · cases n.testBit i <;> simp [h]
theorem zero_bits {n : Nat} (h : ∀ i, n.testBit i = false) : n = 0 := Nat.eq_of_testBit_eq fun i => by rw [h i]; simp

/-- the first k words as bools -/
theorem word_list (xs : List Bool) {n : Nat} (h : xs.length = n) (W : Nat) (hb : ∀ i, i < n → W.testBit i = decide (xs[i]? = some true)) : (List.range n).map W.testBit = xs := by
  apply List.ext_getElem?
  intro i
  rw [List.getElem?_map]
  rcases Nat.lt_or_ge i n with h1 | h1
  · rw [List.getElem?_range h1]
    have h2 := List.getElem?_eq_getElem (show i < xs.length by omega)
    rw [h2]
    have := hb i h1
    rw [h2] at this
    show some (W.testBit i) = _
    rw [this]
    cases xs[i] <;> simp
  · rw [List.getElem?_eq_none (l := List.range n) (by rw [List.length_range]; exact h1), List.getElem?_eq_none (by omega)]
    rfl

/-- which words are asked for and are used -/
theorem clash {xs : List Bool} {S M : Nat} (b : Bool) (h : S + M ≤ xs.length) : maskN S M &&& wordN xs b = 0 ↔ runF xs S M (!b) = true := by
  rw [runF_iff]
  constructor
  · intro e i hi
    have hb := congrArg (fun n => Nat.testBit n (S + i)) e
    simp only [Nat.testBit_and, maskN_bit, wordN_bit, Nat.zero_testBit] at hb
    rw [decide_eq_true (by omega), Bool.true_and, decide_eq_false_iff_not] at hb
    rw [List.getElem?_eq_getElem (show S + i < xs.length by omega)] at hb ⊢
    revert hb
    cases xs[S + i] <;> cases b <;> simp
  · intro hr
    apply zero_bits
    intro i
    rw [Nat.testBit_and, maskN_bit, wordN_bit]
    by_cases hi : S ≤ i ∧ i < S + M
    · have := hr (i - S) (by omega)
      rw [show S + (i - S) = i by omega] at this
      rw [this]
      cases b <;> simp
    · rw [decide_eq_false hi]
      rfl
/-- the words asked for that are not used -/
theorem clash_not {xs : List Bool} {S M : Nat} (h : S + M ≤ xs.length) (hl : xs.length ≤ 64) : maskN S M &&& (18446744073709551615 - wordN xs true) = 0 ↔ runF xs S M true = true := by
  have hw := wordN_lt xs true hl
  have hn : ∀ i, i < xs.length → (18446744073709551615 - wordN xs true).testBit i = (wordN xs false).testBit i := by
    intro i hi
    have := Nat.testBit_two_pow_sub_succ (n := 64) hw i
    rw [show 2 ^ 64 - (wordN xs true + 1) = 18446744073709551615 - wordN xs true by omega] at this
    rw [this, wordN_bit, wordN_bit, decide_eq_true (show i < 64 by omega), List.getElem?_eq_getElem hi]
    cases xs[i] <;> simp
  rw [show maskN S M &&& (18446744073709551615 - wordN xs true) = maskN S M &&& wordN xs false from ?_, clash false h]
  · rfl
  · apply Nat.eq_of_testBit_eq
    intro i
    rw [Nat.testBit_and, Nat.testBit_and]
    by_cases hi : i < xs.length
    · rw [hn i hi]
    · rw [maskN_bit, decide_eq_false (show ¬ (S ≤ i ∧ i < S + M) by omega)]
      rfl
theorem take_bit {xs : List Bool} {S M : Nat} (h : S + M ≤ xs.length) (i : Nat) : (wordN xs true ||| maskN S M).testBit i = decide ((setR xs S M true)[i]? = some true) := by
  rw [Nat.testBit_or, wordN_bit, maskN_bit, setR_at true h]
  by_cases hi : S ≤ i ∧ i < S + M
  · rw [if_pos hi]
    simp [hi]
  · rw [if_neg hi, decide_eq_false hi]
    simp
theorem give_bit {xs : List Bool} {S M : Nat} (h : S + M ≤ xs.length) (hl : xs.length ≤ 64) {i : Nat} (hi64 : i < 64) : (wordN xs true &&& (18446744073709551615 - maskN S M)).testBit i = decide ((setR xs S M false)[i]? = some true) := by
  have hm := maskN_lt (s := S) (m := M) (by omega)
  have hn := Nat.testBit_two_pow_sub_succ (n := 64) hm i
  rw [show 2 ^ 64 - (maskN S M + 1) = 18446744073709551615 - maskN S M by omega] at hn
  rw [Nat.testBit_and, wordN_bit, hn, maskN_bit, setR_at false h, decide_eq_true hi64]
  by_cases hi : S ≤ i ∧ i < S + M
  · rw [if_pos hi]
    simp [hi]
  · rw [if_neg hi, decide_eq_false hi]
    simp

/-- the words from which on at least n words follow each other -/
def runsN (W n V : Nat) : Prop := ∀ i, V.testBit i = decide (∀ j, j < n → W.testBit (i + j) = true)
theorem runs_one (W : Nat) : runsN W 1 W := fun i => by
  cases h : W.testBit i
  · symm
    apply decide_eq_false
    intro hh
    have := hh 0 (by omega)
    rw [Nat.add_zero, h] at this
    cases this
  · symm
    apply decide_eq_true
    intro j hj
    obtain rfl : j = 0 := by omega
    exact h
theorem runs_step {W n V k : Nat} (h : runsN W n V) (hk : k ≤ n) : runsN W (n + k) (V &&& V / 2 ^ k) := fun i => by
  rw [Nat.testBit_and, Nat.testBit_div_two_pow, h, h, ← Bool.decide_and]
  congr 1
  apply propext
  constructor
  · rintro ⟨h1, h2⟩ j hj
    rcases Nat.lt_or_ge j n with h3 | h3
    · exact h1 j h3
    · have := h2 (j - k) (by omega)
      rwa [show i + k + (j - k) = i + j by omega] at this
  · intro h1
    refine ⟨fun j hj => h1 j (by omega), fun j hj => ?_⟩
    have := h1 (j + k) (by omega)
    rwa [show i + (j + k) = i + k + j by omega] at this
theorem runs_lt {V k : Nat} (h : V < 18446744073709551616) : V &&& V / 2 ^ k < 18446744073709551616 := Nat.lt_of_le_of_lt Nat.and_le_left h
theorem runs_free {xs : List Bool} {n V : Nat} (h : runsN (wordN xs false) n V) (i : Nat) : V.testBit i = runF xs i n false := by
  rw [h i]
  cases hr : runF xs i n false
  · apply decide_eq_false
    intro hh
    obtain ⟨j, h1, h2⟩ := runF_false hr
    have := hh j h1
    rw [wordN_bit, decide_eq_true_eq] at this
    exact h2 this
  · apply decide_eq_true
    intro j hj
    rw [wordN_bit, decide_eq_true_eq]
    exact runF_iff.1 hr j hj

/-- the lowest bit -/
theorem ctz_bit {x : Nat} (h0 : x ≠ 0) (h : x < 18446744073709551616) : x.testBit (Lib.ctz 64 x) = true ∧ ∀ i, i < Lib.ctz 64 x → x.testBit i = false := by
  obtain ⟨m, hm, hk⟩ := Lib.ctzFrom_spec 64 x (by omega) h
  have e : Lib.ctz 64 x = Lib.ctzFrom 64 x := by simp [Lib.ctz, h0]
  rw [e]
  obtain ⟨k, hkk⟩ : ∃ k, Lib.ctzFrom 64 x = k := ⟨_, rfl⟩
  rw [hkk] at hm ⊢
  rw [hm, Nat.mul_comm]
  constructor
  · rw [Nat.testBit_mul_two_pow]
    simp
  · intro i hi
    rw [Nat.testBit_mul_two_pow]
    simp
    omega
/-- the first word of a word of starts is what is found -/
theorem find_ctz {xs : List Bool} {m V : Nat} (hm : 1 ≤ m) (h : runsN (wordN xs false) m V) (h0 : V ≠ 0) (h64 : V < 18446744073709551616) : findN xs m = some (Lib.ctz 64 V) := by
  obtain ⟨h1, h2⟩ := ctz_bit h0 h64
  rw [runs_free h] at h1
  have hl := runF_len h1 (by omega)
  cases hf : findN xs m with
  | none => exact absurd ⟨hl, h1⟩ (find_none hf _)
  | some j =>
    obtain ⟨a1, a2, a3⟩ := find_some hf
    rcases Nat.lt_trichotomy j (Lib.ctz 64 V) with hj | hj | hj
    · have := h2 j hj
      rw [runs_free h, a2] at this
      cases this
    · rw [hj]
    · exact absurd ⟨hl, h1⟩ (a3 _ hj)
theorem find_zero {xs : List Bool} {m : Nat} (h : runsN (wordN xs false) m 0) : findN xs m = none := by
  cases hf : findN xs m with
  | none => rfl
  | some j =>
    obtain ⟨_, a2, _⟩ := find_some hf
    have := runs_free h j
    rw [a2] at this
    simp at this
/-- the longest run: as long as some word of starts is there -/
theorem long_zero {xs : List Bool} {t : Nat} (h : runsN (wordN xs false) (t + 1) 0) (hp : t = 0 ∨ ∃ s, runF xs s t false = true) : longN xs = t := by
  have h1 : ¬ (t + 1 ≤ longN xs) := by
    rw [long_iff xs (by omega)]
    rintro ⟨s, _, h2⟩
    have := runs_free h s
    rw [h2] at this
    simp at this
  rcases hp with rfl | ⟨s, hs⟩
  · omega
  · rcases Nat.eq_zero_or_pos t with ht | ht
    · omega
    · have := (long_iff xs ht).2 ⟨s, runF_len hs ht, hs⟩
      omega
theorem runs_some {xs : List Bool} {n V : Nat} (h : runsN (wordN xs false) n V) (h0 : V ≠ 0) : ∃ s, runF xs s n false = true := by
  rcases Classical.em (∃ s, runF xs s n false = true) with h1 | h1
  · exact h1
  · exfalso
    apply h0
    apply zero_bits
    intro i
    rw [runs_free h]
    cases hr : runF xs i n false
    · rfl
    · exact absurd ⟨i, hr⟩ h1
theorem half_lt {V : Nat} (h : V ≠ 0) : V &&& V / 2 < V := Nat.lt_of_le_of_lt Nat.and_le_right (by omega)
end Bm
end Go.Proofs.Ytkdoolilggkjpaa
