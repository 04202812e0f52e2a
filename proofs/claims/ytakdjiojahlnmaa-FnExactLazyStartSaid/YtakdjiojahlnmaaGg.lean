/- Bitmaps as words of bits, in plain mathematics: what the program's words of bits are, and what they have to do with runs. No program, no conditions. How many bits of a word are set, in plain mathematics: bytes side by side. No program, no conditions. What the program's sets of cells (words of bits) answer, and HeapValid: for every heap. No conditions. What the program's HeapValid returns: for every heap. No conditions. -/
import Derived.Test.YtakdjiojahlnmaaGb
import Derived.Laws.BitsAllLaws
import Derived.Lib.TrailingZeros
import Derived.Below
import Derived.Test.YtakdjiojahlnmaaHc
import Derived.BigQuiet
namespace Go.Proofs.Ytakdjiojahlnmaa
namespace Bm

/-- the bits of the first k words that are b -/
def setN (xs : List Bool) (b : Bool) : Nat → Nat
  | 0 => 0
  | k + 1 => if xs[k]? = some b then setN xs b k ||| 2 ^ k else setN xs b k
theorem setN_bit (xs : List Bool) (b : Bool) (i : Nat) : ∀ k, (setN xs b k).testBit i = (decide (i < k) && decide (xs[i]? = some b))
  | 0 => by simp [setN]
  | k + 1 => by
    have ih := setN_bit xs b i k
    unfold setN
    by_cases hx : xs[k]? = some b
    · rw [if_pos hx, Nat.testBit_or, ih, Nat.testBit_two_pow]
      rcases Nat.lt_trichotomy i k with h | h | h
      · have h1 : ¬ k = i := by omega
        have h2 : i < k + 1 := by omega
        simp [h, h1, h2]
      · subst h
        simp [hx]
      · have h1 : ¬ k = i := by omega
        have h2 : ¬ i < k + 1 := by omega
        have h3 : ¬ i < k := by omega
        simp [h1, h2, h3]
    · rw [if_neg hx, ih]
      rcases Nat.lt_trichotomy i k with h | h | h
      · have h2 : i < k + 1 := by omega
        simp [h, h2]
      · subst h
        simp [hx]
      · have h2 : ¬ i < k + 1 := by omega
        have h3 : ¬ i < k := by omega
        simp [h2, h3]
theorem setN_lt (xs : List Bool) (b : Bool) : ∀ k, setN xs b k < 2 ^ k
  | 0 => by simp [setN]
  | k + 1 => by
    have ih := setN_lt xs b k
    have h2 : 2 ^ k < 2 ^ (k + 1) := Nat.pow_lt_pow_right (by omega) (by omega)
    unfold setN
    split
    · exact Nat.or_lt_two_pow (by omega) h2
    · omega
theorem pow64 {k : Nat} (h : k ≤ 64) : 2 ^ k ≤ 18446744073709551616 := by
  rw [show (18446744073709551616 : Nat) = 2 ^ 64 by decide]
  exact Nat.pow_le_pow_right (by omega) h
theorem setN_64 (xs : List Bool) (b : Bool) {k : Nat} (h : k ≤ 64) : setN xs b k < 18446744073709551616 := Nat.lt_of_lt_of_le (setN_lt xs b k) (pow64 h)
/-- the bits of all words that are b -/
def wordN (xs : List Bool) (b : Bool) : Nat := setN xs b xs.length
theorem wordN_bit (xs : List Bool) (b : Bool) (i : Nat) : (wordN xs b).testBit i = decide (xs[i]? = some b) := by
  unfold wordN
  rw [setN_bit]
  by_cases h : i < xs.length
  · simp [h]
  · rw [List.getElem?_eq_none (by omega)]
    simp
theorem wordN_lt (xs : List Bool) (b : Bool) (h : xs.length ≤ 64) : wordN xs b < 18446744073709551616 := setN_64 xs b h

/-- the bits of m words from word s on -/
def maskN (s m : Nat) : Nat := (2 ^ m - 1) * 2 ^ s
theorem maskN_bit (s m i : Nat) : (maskN s m).testBit i = decide (s ≤ i ∧ i < s + m) := by
  unfold maskN
  rw [Nat.testBit_mul_two_pow, Nat.testBit_two_pow_sub_one]
  by_cases h : s ≤ i
  · by_cases h2 : i < s + m
    · have : i - s < m := by omega
      simp [h, h2, this]
    · have : ¬ i - s < m := by omega
      simp [h2, this]
  · simp [h]
theorem maskN_lt {s m : Nat} (h : s + m ≤ 64) : maskN s m < 18446744073709551616 := by
  have h1 : maskN s m < 2 ^ (s + m) := by
    apply Nat.lt_pow_two_of_testBit
    intro i hi
    rw [maskN_bit]
    simp
    omega
  exact Nat.lt_of_lt_of_le h1 (pow64 h)
theorem maskN_pos {s m : Nat} (h : 1 ≤ m) : maskN s m ≠ 0 := by
  intro e
  have := maskN_bit s m s
  rw [e] at this
  simp at this
  omega
theorem full_div {m : Nat} (h : m ≤ 64) : 18446744073709551615 / 2 ^ (64 - m) = 2 ^ m - 1 := by
  have e : (18446744073709551616 : Nat) = 2 ^ m * 2 ^ (64 - m) := by rw [← Nat.pow_add, show m + (64 - m) = 64 by omega]
  have hp : 0 < 2 ^ (64 - m) := Nat.pow_pos (by omega)
  have hm : 0 < 2 ^ m := Nat.pow_pos (by omega)
  apply Nat.div_eq_of_lt_le
  · have : (2 ^ m - 1) * 2 ^ (64 - m) = 2 ^ m * 2 ^ (64 - m) - 2 ^ (64 - m) := by rw [Nat.sub_mul, Nat.one_mul]
    omega
  · rw [show 2 ^ m - 1 + 1 = 2 ^ m by omega, ← e]
    omega

/-- a bit and nothing else -/
theorem and_pow (n i : Nat) : n &&& 2 ^ i = if n.testBit i = true then 2 ^ i else 0 := by
  apply Nat.eq_of_testBit_eq
  intro j
  rw [Nat.testBit_and, Nat.testBit_two_pow]
  by_cases h : i = j
  · subst h
    cases n.testBit i <;> simp
  · cases n.testBit i <;> simp [h]
theorem zero_bits {n : Nat} (h : ∀ i, n.testBit i = false) : n = 0 := Nat.eq_of_testBit_eq fun i => by rw [h i]; simp

/-- the first k words as bools -/
theorem word_list (xs : List Bool) {n : Nat} (h : xs.length = n) (W : Nat) (hb : ∀ i, i < n → W.testBit i = decide (xs[i]? = some true)) : (List.range n).map W.testBit = xs := by
  apply List.ext_getElem?
  intro i
  rw [List.getElem?_map]
  rcases Nat.lt_or_ge i n with h1 | h1
  · rw [List.getElem?_range h1]
    have h2 := List.getElem?_eq_getElem (show i < xs.length by omega)
    rw [h2]
    have := hb i h1
    rw [h2] at this
    show some (W.testBit i) = _
    rw [this]
    cases xs[i] <;> simp
  · rw [List.getElem?_eq_none (l := List.range n) (by rw [List.length_range]; exact h1), List.getElem?_eq_none (by omega)]
    rfl

/-- which words are asked for and are used -/
theorem clash {xs : List Bool} {S M : Nat} (b : Bool) (h : S + M ≤ xs.length) : maskN S M &&& wordN xs b = 0 ↔ runF xs S M (!b) = true := by
  rw [runF_iff]
  constructor
  · intro e i hi
    have hb := congrArg (fun n => Nat.testBit n (S + i)) e
    simp only [Nat.testBit_and, maskN_bit, wordN_bit, Nat.zero_testBit] at hb
    rw [decide_eq_true (by omega), Bool.true_and, decide_eq_false_iff_not] at hb
    rw [List.getElem?_eq_getElem (show S + i < xs.length by omega)] at hb ⊢
    revert hb
    cases xs[S + i] <;> cases b <;> simp
  · intro hr
    apply zero_bits
    intro i
    rw [Nat.testBit_and, maskN_bit, wordN_bit]
    by_cases hi : S ≤ i ∧ i < S + M
    · have := hr (i - S) (by omega)
      rw [show S + (i - S) = i by omega] at this
      rw [this]
      cases b <;> simp
    · rw [decide_eq_false hi]
      rfl
/-- the words asked for that are not used -/
theorem clash_not {xs : List Bool} {S M : Nat} (h : S + M ≤ xs.length) (hl : xs.length ≤ 64) : maskN S M &&& (18446744073709551615 - wordN xs true) = 0 ↔ runF xs S M true = true := by
  have hw := wordN_lt xs true hl
  have hn : ∀ i, i < xs.length → (18446744073709551615 - wordN xs true).testBit i = (wordN xs false).testBit i := by
    intro i hi
    have := Nat.testBit_two_pow_sub_succ (n := 64) hw i
    rw [show 2 ^ 64 - (wordN xs true + 1) = 18446744073709551615 - wordN xs true by omega] at this
    rw [this, wordN_bit, wordN_bit, decide_eq_true (show i < 64 by omega), List.getElem?_eq_getElem hi]
    cases xs[i] <;> simp
  rw [show maskN S M &&& (18446744073709551615 - wordN xs true) = maskN S M &&& wordN xs false from ?_, clash false h]
  · rfl
  · apply Nat.eq_of_testBit_eq
    intro i
    rw [Nat.testBit_and, Nat.testBit_and]
    by_cases hi : i < xs.length
    · rw [hn i hi]
    · rw [maskN_bit, decide_eq_false (show ¬ (S ≤ i ∧ i < S + M) by omega)]
      rfl
theorem take_bit {xs : List Bool} {S M : Nat} (h : S + M ≤ xs.length) (i : Nat) : (wordN xs true ||| maskN S M).testBit i = decide ((setR xs S M true)[i]? = some true) := by
  rw [Nat.testBit_or, wordN_bit, maskN_bit, setR_at true h]
  by_cases hi : S ≤ i ∧ i < S + M
  · rw [if_pos hi]
    simp [hi]
  · rw [if_neg hi, decide_eq_false hi]
    simp
theorem give_bit {xs : List Bool} {S M : Nat} (h : S + M ≤ xs.length) (hl : xs.length ≤ 64) {i : Nat} (hi64 : i < 64) : (wordN xs true &&& (18446744073709551615 - maskN S M)).testBit i = decide ((setR xs S M false)[i]? = some true) := by
  have hm := maskN_lt (s := S) (m := M) (by omega)
  have hn := Nat.testBit_two_pow_sub_succ (n := 64) hm i
  rw [show 2 ^ 64 - (maskN S M + 1) = 18446744073709551615 - maskN S M by omega] at hn
  rw [Nat.testBit_and, wordN_bit, hn, maskN_bit, setR_at false h, decide_eq_true hi64]
  by_cases hi : S ≤ i ∧ i < S + M
  · rw [if_pos hi]
    simp [hi]
  · rw [if_neg hi, decide_eq_false hi]
    simp

/-- the words from which on at least n words follow each other -/
def runsN (W n V : Nat) : Prop := ∀ i, V.testBit i = decide (∀ j, j < n → W.testBit (i + j) = true)
theorem runs_one (W : Nat) : runsN W 1 W := fun i => by
  cases h : W.testBit i
  · symm
    apply decide_eq_false
    intro hh
    have := hh 0 (by omega)
    rw [Nat.add_zero, h] at this
    cases this
  · symm
    apply decide_eq_true
    intro j hj
    obtain rfl : j = 0 := by omega
    exact h
theorem runs_step {W n V k : Nat} (h : runsN W n V) (hk : k ≤ n) : runsN W (n + k) (V &&& V / 2 ^ k) := fun i => by
  rw [Nat.testBit_and, Nat.testBit_div_two_pow, h, h, ← Bool.decide_and]
  congr 1
  apply propext
  constructor
  · rintro ⟨h1, h2⟩ j hj
    rcases Nat.lt_or_ge j n with h3 | h3
    · exact h1 j h3
    · have := h2 (j - k) (by omega)
      rwa [show i + k + (j - k) = i + j by omega] at this
  · intro h1
    refine ⟨fun j hj => h1 j (by omega), fun j hj => ?_⟩
    have := h1 (j + k) (by omega)
    rwa [show i + (j + k) = i + k + j by omega] at this
theorem runs_lt {V k : Nat} (h : V < 18446744073709551616) : V &&& V / 2 ^ k < 18446744073709551616 := Nat.lt_of_le_of_lt Nat.and_le_left h
theorem runs_free {xs : List Bool} {n V : Nat} (h : runsN (wordN xs false) n V) (i : Nat) : V.testBit i = runF xs i n false := by
  rw [h i]
  cases hr : runF xs i n false
  · apply decide_eq_false
    intro hh
    obtain ⟨j, h1, h2⟩ := runF_false hr
    have := hh j h1
    rw [wordN_bit, decide_eq_true_eq] at this
    exact h2 this
  · apply decide_eq_true
    intro j hj
    rw [wordN_bit, decide_eq_true_eq]
    exact runF_iff.1 hr j hj

/-- the lowest bit -/
theorem ctz_bit {x : Nat} (h0 : x ≠ 0) (h : x < 18446744073709551616) : x.testBit (Lib.ctz 64 x) = true ∧ ∀ i, i < Lib.ctz 64 x → x.testBit i = false := by
  obtain ⟨m, hm, hk⟩ := Lib.ctzFrom_spec 64 x (by omega) h
  have e : Lib.ctz 64 x = Lib.ctzFrom 64 x := by simp [Lib.ctz, h0]
  rw [e]
  obtain ⟨k, hkk⟩ : ∃ k, Lib.ctzFrom 64 x = k := ⟨_, rfl⟩
  rw [hkk] at hm ⊢
  rw [hm, Nat.mul_comm]
  constructor
  · rw [Nat.testBit_mul_two_pow]
    simp
  · intro i hi
    rw [Nat.testBit_mul_two_pow]
    simp
    omega
/-- the first word of a word of starts is what is found -/
theorem find_ctz {xs : List Bool} {m V : Nat} (hm : 1 ≤ m) (h : runsN (wordN xs false) m V) (h0 : V ≠ 0) (h64 : V < 18446744073709551616) : findN xs m = some (Lib.ctz 64 V) := by
  obtain ⟨h1, h2⟩ := ctz_bit h0 h64
  rw [runs_free h] at h1
  have hl := runF_len h1 (by omega)
  cases hf : findN xs m with
  | none => exact absurd ⟨hl, h1⟩ (find_none hf _)
  | some j =>
    obtain ⟨a1, a2, a3⟩ := find_some hf
    rcases Nat.lt_trichotomy j (Lib.ctz 64 V) with hj | hj | hj
    · have := h2 j hj
      rw [runs_free h, a2] at this
      cases this
    · rw [hj]
    · exact absurd ⟨hl, h1⟩ (a3 _ hj)
theorem find_zero {xs : List Bool} {m : Nat} (h : runsN (wordN xs false) m 0) : findN xs m = none := by
  cases hf : findN xs m with
  | none => rfl
  | some j =>
    obtain ⟨_, a2, _⟩ := find_some hf
    have := runs_free h j
    rw [a2] at this
    simp at this
/-- the longest run: as long as some word of starts is there -/
theorem long_zero {xs : List Bool} {t : Nat} (h : runsN (wordN xs false) (t + 1) 0) (hp : t = 0 ∨ ∃ s, runF xs s t false = true) : longN xs = t := by
  have h1 : ¬ (t + 1 ≤ longN xs) := by
    rw [long_iff xs (by omega)]
    rintro ⟨s, _, h2⟩
    have := runs_free h s
    rw [h2] at this
    simp at this
  rcases hp with rfl | ⟨s, hs⟩
  · omega
  · rcases Nat.eq_zero_or_pos t with ht | ht
    · omega
    · have := (long_iff xs ht).2 ⟨s, runF_len hs ht, hs⟩
      omega
theorem runs_some {xs : List Bool} {n V : Nat} (h : runsN (wordN xs false) n V) (h0 : V ≠ 0) : ∃ s, runF xs s n false = true := by
  rcases Classical.em (∃ s, runF xs s n false = true) with h1 | h1
  · exact h1
  · exfalso
    apply h0
    apply zero_bits
    intro i
    rw [runs_free h]
    cases hr : runF xs i n false
    · rfl
    · exact absurd ⟨i, hr⟩ h1
theorem half_lt {V : Nat} (h : V ≠ 0) : V &&& V / 2 < V := Nat.lt_of_le_of_lt Nat.and_le_right (by omega)
end Bm
end Go.Proofs.Ytakdjiojahlnmaa

namespace Go.Proofs.Ytakdjiojahlnmaa
/-- the bits of a number below k that are set -/
def pcN (V k : Nat) : Nat := (List.range k).countP V.testBit
namespace Pc
def val : List Nat → Nat
  | [] => 0
  | b :: bs => b + 256 * val bs
theorem and_split (b r c d : Nat) (hb : b < 256) (hc : c < 256) : (b + 256 * r) &&& (c + 256 * d) = (b &&& c) + 256 * (r &&& d) := by
  have h1 : ((b + 256 * r) &&& (c + 256 * d)) % 256 = b &&& c := by
    have := Nat.and_mod_two_pow (a := b + 256 * r) (b := c + 256 * d) (n := 8)
    rw [show (2 : Nat) ^ 8 = 256 by decide] at this
    rw [this, show (b + 256 * r) % 256 = b by omega, show (c + 256 * d) % 256 = c by omega]
  have h2 : ((b + 256 * r) &&& (c + 256 * d)) / 256 = r &&& d := by
    have := Nat.and_div_two_pow (a := b + 256 * r) (b := c + 256 * d) (n := 8)
    rw [show (2 : Nat) ^ 8 = 256 by decide] at this
    rw [this, show (b + 256 * r) / 256 = r by omega, show (c + 256 * d) / 256 = d by omega]
  omega
def s1 (x m : Nat) : Nat := (x / 2 &&& m) + (x &&& m)
def s2 (x m : Nat) : Nat := (x / 4 &&& m) + (x &&& m)
def s3 (x m : Nat) : Nat := (x / 16 + x) &&& m
theorem m1 : ∀ b : Fin 256, ∀ j : Fin 2, (b.val / 2 + 128 * j.val) &&& 85 = b.val / 2 &&& 85 := by decide +kernel
theorem m2 : ∀ b : Fin 256, ∀ j : Fin 4, (b.val / 4 + 64 * j.val) &&& 51 = b.val / 4 &&& 51 := by decide +kernel
theorem s1_split (b r d : Nat) (hb : b < 256) : s1 (b + 256 * r) (85 + 256 * d) = s1 b 85 + 256 * s1 r d := by
  unfold s1
  rw [show (b + 256 * r) / 2 = (b / 2 + 128 * (r % 2)) + 256 * (r / 2) by omega, and_split _ _ _ _ (by omega) (by omega), and_split _ _ _ _ hb (by omega)]
  have := m1 ⟨b, hb⟩ ⟨r % 2, by omega⟩
  simp only at this
  rw [this]
  omega
theorem s2_split (b r d : Nat) (hb : b < 256) : s2 (b + 256 * r) (51 + 256 * d) = s2 b 51 + 256 * s2 r d := by
  unfold s2
  rw [show (b + 256 * r) / 4 = (b / 4 + 64 * (r % 4)) + 256 * (r / 4) by omega, and_split _ _ _ _ (by omega) (by omega), and_split _ _ _ _ hb (by omega)]
  have := m2 ⟨b, hb⟩ ⟨r % 4, by omega⟩
  simp only at this
  rw [this]
  omega
theorem and15 (x : Nat) : x &&& 15 = x % 16 := Nat.and_two_pow_sub_one_eq_mod x 4
theorem s3_split (b r d : Nat) (hb : b / 16 ≤ 4) (hb2 : b % 16 ≤ 4) (hr : r % 16 ≤ 4) : s3 (b + 256 * r) (15 + 256 * d) = s3 b 15 + 256 * s3 r d := by
  unfold s3
  rw [show (b + 256 * r) / 16 + (b + 256 * r) = (b / 16 + b + 16 * (r % 16)) + 256 * (r / 16 + r) by omega, and_split _ _ _ _ (by omega) (by omega), and15, and15, show (b / 16 + b + 16 * (r % 16)) % 16 = (b / 16 + b) % 16 by omega]
theorem s1_lt : ∀ b : Fin 256, s1 b.val 85 < 256 := by decide +kernel
theorem s2_ok : ∀ b : Fin 256, s2 (s1 b.val 85) 51 / 16 ≤ 4 ∧ s2 (s1 b.val 85) 51 % 16 ≤ 4 := by decide +kernel
def g (b : Nat) : Nat := s3 (s2 (s1 b 85) 51) 15
theorem g_eq : ∀ b : Fin 256, g b.val = pcN b.val 8 := by decide +kernel
theorem pc_le (V k : Nat) : pcN V k ≤ k := Nat.le_trans List.countP_le_length (by simp)
theorem s1_val : ∀ bs : List Nat, (∀ b ∈ bs, b < 256) → s1 (val bs) (val (bs.map fun _ => 85)) = val (bs.map (s1 · 85))
  | [], _ => by decide
  | b :: bs, h => by
    have ih := s1_val bs fun x hx => h x (by simp [hx])
    simp only [List.map_cons, val]
    rw [s1_split _ _ _ (h b (by simp)), ih]
theorem s2_val : ∀ bs : List Nat, (∀ b ∈ bs, b < 256) → s2 (val bs) (val (bs.map fun _ => 51)) = val (bs.map (s2 · 51))
  | [], _ => by decide
  | b :: bs, h => by
    have ih := s2_val bs fun x hx => h x (by simp [hx])
    simp only [List.map_cons, val]
    rw [s2_split _ _ _ (h b (by simp)), ih]
theorem s3_val : ∀ bs : List Nat, (∀ b ∈ bs, b / 16 ≤ 4 ∧ b % 16 ≤ 4) → s3 (val bs) (val (bs.map fun _ => 15)) = val (bs.map (s3 · 15))
  | [], _ => by decide
  | b :: bs, h => by
    have ih := s3_val bs fun x hx => h x (by simp [hx])
    simp only [List.map_cons, val]
    have hb := h b (by simp)
    have hr : val bs % 16 ≤ 4 := by
      cases bs with
      | nil => simp [val]
      | cons c cs =>
        have := h c (by simp)
        simp only [val]
        omega
    rw [s3_split _ _ _ hb.1 hb.2 hr, ih]
/-- the bytes' counts side by side -/
theorem g_val (bs : List Nat) (h : ∀ b ∈ bs, b < 256) : s3 (s2 (s1 (val bs) (val (bs.map fun _ => 85))) (val (bs.map fun _ => 51))) (val (bs.map fun _ => 15)) = val (bs.map g) := by
  have e : ∀ (c : Nat) (f : Nat → Nat), (bs.map f).map (fun _ => c) = bs.map fun _ => c := fun c f => by rw [List.map_map]; rfl
  have h1 : ∀ b ∈ bs.map (s1 · 85), b < 256 := fun b hb => by
    obtain ⟨a, ha, rfl⟩ := List.mem_map.1 hb
    exact s1_lt ⟨a, h a ha⟩
  have h2 : ∀ b ∈ (bs.map (s1 · 85)).map (s2 · 51), b / 16 ≤ 4 ∧ b % 16 ≤ 4 := fun b hb => by
    obtain ⟨a', ha', rfl⟩ := List.mem_map.1 hb
    obtain ⟨a, ha, rfl⟩ := List.mem_map.1 ha'
    exact s2_ok ⟨a, h a ha⟩
  have e2 : ((bs.map (s1 · 85)).map (s2 · 51)).map (fun _ => 15) = bs.map fun _ => 15 := by
    rw [List.map_map, List.map_map]
    rfl
  rw [s1_val _ h, ← e 51 (s1 · 85), s2_val _ h1, ← e2, s3_val _ h2, List.map_map, List.map_map]
  rfl
theorem pc_byte {V : Nat} (j : Nat) : (List.range 8).countP (fun i => V.testBit (8 * j + i)) = pcN (V / 2 ^ (8 * j) % 256) 8 := by
  unfold pcN
  apply List.countP_congr
  intro i hi
  rw [List.mem_range] at hi
  rw [show (256 : Nat) = 2 ^ 8 by decide, Nat.testBit_mod_two_pow, decide_eq_true hi, Bool.true_and, Nat.testBit_div_two_pow, Nat.add_comm]
theorem pc64 (V : Nat) : pcN V 64 = pcN (V % 256) 8 + pcN (V / 256 % 256) 8 + pcN (V / 65536 % 256) 8 + pcN (V / 16777216 % 256) 8 + pcN (V / 4294967296 % 256) 8 + pcN (V / 1099511627776 % 256) 8 + pcN (V / 281474976710656 % 256) 8 + pcN (V / 72057594037927936 % 256) 8 := by
  have e : pcN V 64 = ((List.range 8).map fun j => (List.range 8).countP (fun i => V.testBit (8 * j + i))).sum := by
    unfold pcN
    rw [show List.range 64 = (List.range 8).flatMap fun j => (List.range 8).map fun i => 8 * j + i by decide +kernel, List.countP_flatMap]
    congr 1
  rw [e, show (List.range 8) = [0, 1, 2, 3, 4, 5, 6, 7] by decide]
  have q : ∀ j, ([0, 1, 2, 3, 4, 5, 6, 7] : List Nat).countP (fun i => V.testBit (8 * j + i)) = pcN (V / 2 ^ (8 * j) % 256) 8 := fun j => pc_byte j
  simp only [q, List.map_cons, List.map_nil, List.sum_cons, List.sum_nil]
  simp only [Nat.reduceMul, Nat.reducePow, Nat.pow_zero, Nat.div_one]
  omega
/-- OnesCount64's sums -/
theorem sums (V : Nat) (h : V < 18446744073709551616) (y z z2 : Nat) (hy : y = s3 (s2 (s1 V 6148914691236517205) 3689348814741910323) 1085102592571150095) (hz : z = y + y / 256) (hz2 : z2 = z + z / 65536) :
    z < 18446744073709551616 ∧ z2 < 18446744073709551616 ∧ z2 + z2 / 4294967296 < 9223372036854775808 ∧ (z2 + z2 / 4294967296) % 128 = pcN V 64 := by
  have hv : V = val [V % 256, V / 256 % 256, V / 65536 % 256, V / 16777216 % 256, V / 4294967296 % 256, V / 1099511627776 % 256, V / 281474976710656 % 256, V / 72057594037927936 % 256] := by
    simp only [val]
    omega
  have hp := pc64 V
  have hb : ∀ b ∈ [V % 256, V / 256 % 256, V / 65536 % 256, V / 16777216 % 256, V / 4294967296 % 256, V / 1099511627776 % 256, V / 281474976710656 % 256, V / 72057594037927936 % 256], b < 256 := by
    intro b hb
    simp only [List.mem_cons, List.not_mem_nil, or_false] at hb
    omega
  have hg := g_val _ hb
  have l0 := g_eq ⟨V % 256, by omega⟩
  have l1 := g_eq ⟨V / 256 % 256, by omega⟩
  have l2 := g_eq ⟨V / 65536 % 256, by omega⟩
  have l3 := g_eq ⟨V / 16777216 % 256, by omega⟩
  have l4 := g_eq ⟨V / 4294967296 % 256, by omega⟩
  have l5 := g_eq ⟨V / 1099511627776 % 256, by omega⟩
  have l6 := g_eq ⟨V / 281474976710656 % 256, by omega⟩
  have l7 := g_eq ⟨V / 72057594037927936 % 256, by omega⟩
  simp only at l0 l1 l2 l3 l4 l5 l6 l7
  rw [← hv] at hg
  simp only [List.map_cons, List.map_nil, l0, l1, l2, l3, l4, l5, l6, l7] at hg
  rw [show val [85, 85, 85, 85, 85, 85, 85, 85] = 6148914691236517205 by decide, show val [51, 51, 51, 51, 51, 51, 51, 51] = 3689348814741910323 by decide, show val [15, 15, 15, 15, 15, 15, 15, 15] = 1085102592571150095 by decide, ← hy] at hg
  rw [hp]
  clear hv hb hp l0 l1 l2 l3 l4 l5 l6 l7 hy h
  have q0 := pc_le (V % 256) 8
  have q1 := pc_le (V / 256 % 256) 8
  have q2 := pc_le (V / 65536 % 256) 8
  have q3 := pc_le (V / 16777216 % 256) 8
  have q4 := pc_le (V / 4294967296 % 256) 8
  have q5 := pc_le (V / 1099511627776 % 256) 8
  have q6 := pc_le (V / 281474976710656 % 256) 8
  have q7 := pc_le (V / 72057594037927936 % 256) 8
  generalize pcN (V % 256) 8 = p0 at *
  generalize pcN (V / 256 % 256) 8 = p1 at *
  generalize pcN (V / 65536 % 256) 8 = p2 at *
  generalize pcN (V / 16777216 % 256) 8 = p3 at *
  generalize pcN (V / 4294967296 % 256) 8 = p4 at *
  generalize pcN (V / 1099511627776 % 256) 8 = p5 at *
  generalize pcN (V / 281474976710656 % 256) 8 = p6 at *
  generalize pcN (V / 72057594037927936 % 256) 8 = p7 at *
  simp only [val] at hg
  subst hg
  have e1 : z = (p0 + p1) + 256 * (p1 + p2) + 65536 * (p2 + p3) + 16777216 * (p3 + p4) + 4294967296 * (p4 + p5) + 1099511627776 * (p5 + p6) + 281474976710656 * (p6 + p7) + 72057594037927936 * p7 := by omega
  clear hz
  have e2 : z2 = (p0 + p1 + p2 + p3) + 256 * (p1 + p2 + p3 + p4) + 65536 * (p2 + p3 + p4 + p5) + 16777216 * (p3 + p4 + p5 + p6) + 4294967296 * (p4 + p5 + p6 + p7) + 1099511627776 * (p5 + p6 + p7) + 281474976710656 * (p6 + p7) + 72057594037927936 * p7 := by omega
  clear hz2
  have e3 : z2 / 4294967296 = (p4 + p5 + p6 + p7) + 256 * (p5 + p6 + p7) + 65536 * (p6 + p7) + 16777216 * p7 := by omega
  rw [e3]
  have hzl : z < 18446744073709551616 := by omega
  clear e1
  exact ⟨hzl, by omega, by omega, by omega⟩
end Pc
end Go.Proofs.Ytakdjiojahlnmaa

namespace Go.Proofs.Ytakdjiojahlnmaa
open Go.RowKit

namespace Hps
theorem pow_in {k : Nat} (h : k < 64) : IntKind.u64.wrap (2 ^ k) = 2 ^ k ∧ (0 : Int) < 2 ^ k ∧ (2 : Int) ^ k < 18446744073709551616 := by
  have h1 : (2 : Nat) ^ k < 2 ^ 64 := Nat.pow_lt_pow_right (by omega) h
  have h2 : (0 : Nat) < 2 ^ k := Nat.pow_pos (by omega)
  have e : ((2 ^ k : Nat) : Int) = (2 : Int) ^ k := by rw [Int.natCast_pow]; rfl
  refine ⟨?_, by omega, by omega⟩
  rw [IntKind.wrap_u64]
  omega
theorem pow_out {k : Nat} (h : 64 ≤ k) : IntKind.u64.wrap (2 ^ k) = 0 := by
  have e : ((2 ^ k : Nat) : Int) = (2 : Int) ^ k := by rw [Int.natCast_pow]; rfl
  obtain ⟨j, rfl⟩ : ∃ j, k = 64 + j := ⟨k - 64, by omega⟩
  rw [IntKind.wrap_u64, ← e, Nat.pow_add, show (2 : Nat) ^ 64 = 18446744073709551616 by decide]
  omega
theorem or_in {V k : Nat} (hV : V < 18446744073709551616) (h : k < 64) : bits .or .u64 (V : Int) (2 ^ k) = ((V ||| 2 ^ k : Nat) : Int) := by
  have h1 : (2 : Nat) ^ k < 2 ^ 64 := Nat.pow_lt_pow_right (by omega) h
  have := u64_or_nat V (2 ^ k) hV (by omega)
  rw [← this, Int.natCast_pow]
  rfl
theorem and_in {V k : Nat} (hV : V < 18446744073709551616) (h : k < 64) : bits .and .u64 (V : Int) (2 ^ k) = if V.testBit k = true then 2 ^ k else 0 := by
  have h1 : (2 : Nat) ^ k < 2 ^ 64 := Nat.pow_lt_pow_right (by omega) h
  have := u64_and_nat V (2 ^ k) hV (by omega)
  rw [Int.natCast_pow] at this
  rw [show (2 : Int) ^ k = ((2 : Nat) : Int) ^ k from rfl, this, Bm.and_pow]
  split
  · rw [Int.natCast_pow]
  · rfl
/-- the number is that of a cell of the set -/
def hasB (V : Nat) (x : Int) : Bool := decide (0 ≤ x) && V.testBit x.toNat
def okV (V : Nat) (x : Int) : Bool := x == -1 || hasB V x
def okVs (V : Nat) (rs : List Int) : Bool := rs.all (okV V)
theorem okVs_iff {V : Nat} {rs : List Int} : okVs V rs = true ↔ ∀ n ∈ rs, okV V n = true := by simp [okVs]
theorem okVs_no {V : Nat} {rs : List Int} {k : Nat} {n : Int} (hn : rs[k]? = some n) (h : okV V n = false) : okVs V rs = false := by
  cases hh : okVs V rs
  · rfl
  · rw [okVs_iff.1 hh n (List.mem_of_getElem? hn)] at h
    cases h
/-- the set of the used cells -/
def usedW (cs : List Cl) : Nat := Bm.wordN (cs.map (·.u)) true
theorem usedW_lt {cs : List Cl} (h : cs.length ≤ 64) : usedW cs < 18446744073709551616 := Bm.wordN_lt _ _ (by simpa using h)
theorem usedW_bit (cs : List Cl) (i : Nat) : (usedW cs).testBit i = usedAt cs i := by
  unfold usedW
  rw [Bm.wordN_bit, List.getElem?_map]
  unfold usedAt
  cases cs[i]? with
  | none => simp
  | some c => cases h : c.u <;> simp [h]
theorem okV_used (cs : List Cl) (x : Int) : okV (usedW cs) x = okRef cs x := by
  unfold okV okRef hasB
  rw [usedW_bit]
theorem okVs_used (cs : List Cl) (rs : List Int) : okVs (usedW cs) rs = okRefs cs rs := by
  unfold okVs okRefs
  congr 1
  funext x
  exact okV_used cs x
/-- a cell is valid beside these used ones -/
def okCl (V : Nat) (c : Cl) : Bool := if c.u = true then (decide (0 ≤ c.d) && decide (c.d ≤ 99)) && (decide (c.r.length ≤ 3) && okVs V c.r) else c.d == 0 && decide (c.r.length = 0)
theorem okCl_used (cs : List Cl) (c : Cl) : okCl (usedW cs) c = okCell cs c := by
  unfold okCl okCell
  rw [okVs_used]
  cases hu : c.u
  · rw [if_neg (by decide), Bool.false_or]
    by_cases h : c.d = 0 ∧ c.r.length = 0
    · obtain ⟨h1, h2⟩ := h
      have : c.r = [] := List.eq_nil_of_length_eq_zero h2
      rw [h1, this]
      simp [okRefs]
    · have : (c.d == 0 && decide (c.r.length = 0)) = false := by
        rw [Bool.and_eq_false_iff, beq_eq_false_iff_ne, decide_eq_false_iff_not]
        omega
      rw [this]
      simp
  · rw [if_pos rfl, Bool.true_or, Bool.true_and]
    simp only [Bool.and_assoc]
end Hps

theorem has_any (V : Nat) (x : Int) (w : World) (hV : V < 18446744073709551616) :
    Calls Try.prog 86 #[.int .u64 V, .int .i64 x] w fun e w' => e = .returned (.bool (Hps.hasB V x)) ∧ w = w' := by
  by_cases h0 : 0 ≤ x
  · obtain ⟨k, rfl⟩ := Int.eq_ofNat_of_zero_le h0
    have h0' : (k : Int) ≥ 0 := h0
    have hkneg : ¬ ((k : Int) < 0) := by omega
    have HB := Lib.hid (show Hps.hasB V (k : Int) = V.testBit k by simp [Hps.hasB])
    by_cases h : k < 64
    · obtain ⟨p1, p2, p3⟩ := Hps.pow_in h
      have hand := Hps.and_in hV h
      cases ht : V.testBit k
      · rw [ht] at hand HB
        rw [if_neg (by decide)] at hand
        clear ht
        go_enter Try.func86, Try.ntmps86
        go_wp2_with fail
        go_ret
        exact ⟨by rw [HB.out]; rfl, rfl⟩
      · rw [ht] at hand HB
        rw [if_pos rfl] at hand
        have hz : ((2 : Int) ^ k != 0) = true := by rw [bne_iff_ne]; omega
        clear ht
        go_enter Try.func86, Try.ntmps86
        go_wp2_with fail
        go_ret
        exact ⟨by rw [HB.out]; rfl, rfl⟩
    · have HF := Lib.hid (show V.testBit k = false from Nat.testBit_lt_two_pow (Nat.lt_of_lt_of_le hV (by rw [show (18446744073709551616 : Nat) = 2 ^ 64 by decide]; exact Nat.pow_le_pow_right (by omega) (by omega))))
      have p1 : IntKind.u64.wrap (2 ^ min k 64) = 0 := by rw [show min k 64 = 64 by omega]; exact Hps.pow_out (Nat.le_refl _)
      have hand : bits .and .u64 (V : Int) 0 = 0 := by
        have := u64_and_nat V 0 hV (by omega)
        rw [Nat.and_zero] at this
        exact this
      go_enter Try.func86, Try.ntmps86
      go_wp2_with fail
      go_ret
      exact ⟨by rw [HB.out, HF.out]; first | rfl | (simp only [p1, hand]; rfl), rfl⟩
  · have h0' : decide (x ≥ 0) = false := decide_eq_false h0
    have HB := Lib.hid (show Hps.hasB V x = false by simp [Hps.hasB, h0])
    go_enter Try.func86, Try.ntmps86
    go_wp2_with fail
    go_ret
    exact ⟨by rw [HB.out]; rfl, rfl⟩

set_option maxHeartbeats 1000000 in
theorem hasTargets_any (F : Option Addr) (q e V : Nat) (rs : List Int) (w : World) (hf : IS w w.heap.size F q rs) (hV : V < 18446744073709551616) (hq : q ≤ 1099511627776) :
    Calls Try.prog 81 #[.int .u64 V, .slice F q e] w fun e w' => e = .returned (.bool (Hps.okVs V rs)) ∧ w = w' := by
  have hlr := hf.1
  go_enter Try.func81, Try.ntmps81
  go_wp2_with fail
  go_loopw [9] (fun i wr => ∃ k : Nat, k ≤ q ∧ i = .int .i64 k ∧ Hid (∀ j x, j < k → rs[j]? = some x → Hps.okV V x = true) ∧ wr = w) (fun i _ => q - (intOf i).toNat)
  case atStart => exact ⟨0, Nat.zero_le _, rfl, Lib.hid (fun j x hj => by omega), rfl⟩
  case round =>
    obtain ⟨k, hk, rfl, HP, rfl⟩ := hrel
    by_cases hlt : k < q
    · obtain ⟨g, o, x, rfl, hg, hx, c1⟩ := hf.at_ hlt
      have hlt' : (k : Int) < q := by omega
      have HN : Hps.okV V x = true → Hid (∀ j y, j < k + 1 → rs[j]? = some y → Hps.okV V y = true) := fun hok => Lib.hid fun j y hj hy => by
        rcases Nat.lt_or_ge j k with h1 | h1
        · exact HP.out j y h1 hy
        · obtain rfl : j = k := by omega
          rw [hx] at hy
          injection hy with hy
          rw [← hy]
          exact hok
      have HX := Lib.hid hx
      clear hx
      by_cases hm1 : x = -1
      · subst hm1
        have HN2 := HN (by simp [Hps.okV])
        clear HN
        go_wp2_with fail
        go_roundw
        case rel => exact ⟨k + 1, by omega, by go_num, HN2, trivial⟩
        case measure => simp [intOf]; omega
      · have hne : (x != -1) = true := by rw [bne_iff_ne]; exact hm1
        have HEQ := Lib.hid (show Hps.okV V x = Hps.hasB V x by simp [Hps.okV, hm1])
        cases hb : Hps.hasB V x
        · have HR := Lib.hid (Hps.okVs_no HX.out (HEQ.out.trans hb))
          have HB := Lib.hid hb
          clear hb HN
          go_wp2_with fail
          refine (has_any V x _ hV).mono ?_
          rw [HB.out]
          rintro e w1 ⟨rfl, rfl⟩
          go_wp2_with fail
          go_ret
          exact ⟨by rw [HR.out]; rfl, rfl⟩
        · have HN2 := HN (HEQ.out.trans hb)
          have HB := Lib.hid hb
          clear hb HN
          go_wp2_with fail
          refine (has_any V x _ hV).mono ?_
          rw [HB.out]
          rintro e w1 ⟨rfl, rfl⟩
          go_wp2_with fail
          go_roundw
          case rel => exact ⟨k + 1, by omega, by go_num, HN2, trivial⟩
          case measure => simp [intOf]; omega
    · obtain rfl : k = q := by omega
      have HR := Lib.hid (show Hps.okVs V rs = true by
        rw [Hps.okVs_iff]
        intro x hx
        obtain ⟨j, hj⟩ := List.mem_iff_getElem?.1 hx
        exact HP.out j x (by rw [← hlr]; exact (List.getElem?_eq_some_iff.1 hj).1) hj)
      go_wp2_with fail
      go_ret
      exact ⟨by rw [HR.out]; rfl, rfl⟩

set_option maxHeartbeats 1000000 in
theorem usedSet_any (A : Option Addr) (n c : Nat) (cs : List Cl) (w : World) (h : CS w w.heap.size A n cs) (hn : n ≤ 64) :
    Calls Try.prog 52 #[.slice A n c] w fun e w' => e = .returned (.int .u64 (Hps.usedW cs : Nat)) ∧ Below w.heap.size w w' := by
  have hlc := h.1
  obtain ⟨us, hus⟩ : ∃ us, cs.map (·.u) = us := ⟨_, rfl⟩
  have HW := Lib.hid (show Hps.usedW cs = Bm.setN us true n by rw [Hps.usedW, Bm.wordN, hus, ← hus, List.length_map, hlc])
  have HUS := Lib.hid hus
  clear hus
  go_enter Try.func52, Try.ntmps52
  go_wp2_with fail
  go_loopw [3, 8] (fun v i wr => ∃ k : Nat, k ≤ n ∧ i = .int .i64 k ∧ v = .int .u64 (Bm.setN us true k : Nat) ∧ Below w.heap.size w wr) (fun _ i _ => n - (intOf i).toNat)
  case atStart => exact ⟨0, Nat.zero_le _, rfl, rfl, Below.refl _ _⟩
  case round =>
    obtain ⟨k, hk, rfl, rfl, bb⟩ := hrel
    by_cases hlt : k < n
    · obtain ⟨g, o, cl, A', m', cc, rfl, hg, hcl, d1, d2, d3, hmc, hi⟩ := (h.below bb).at_ hlt
      have hlt' : (k : Int) < n := by omega
      have hV := Bm.setN_64 us true (k := k) (by omega)
      obtain ⟨p1, p2, p3⟩ := Hps.pow_in (k := k) (by omega)
      have hor := Hps.or_in (V := Bm.setN us true k) (k := k) hV (by omega)
      have hkneg : ¬ ((k : Int) < 0) := by omega
      have hux : us[k]? = some cl.u := by rw [← HUS.out, List.getElem?_map, hcl]; rfl
      clear hcl
      cases hu : cl.u
      · rw [hu] at d1 hux
        have HN := Lib.hid (show Bm.setN us true (k + 1) = Bm.setN us true k by rw [Bm.setN, if_neg (by rw [hux]; decide)])
        have bW := bb.alloc bb.size (.cells #[.bool false, .int .i64 cl.d, .slice A' m' cc] 45)
        clear hu hux
        go_wp2_with fail
        go_roundw
        case rel => exact ⟨k + 1, by omega, by go_num, by rw [HN.out], bW⟩
        case measure => simp [intOf]; omega
      · rw [hu] at d1 hux
        have HN := Lib.hid (show Bm.setN us true (k + 1) = Bm.setN us true k ||| 2 ^ k by rw [Bm.setN, if_pos hux])
        have bW := bb.alloc bb.size (.cells #[.bool true, .int .i64 cl.d, .slice A' m' cc] 45)
        clear hu hux
        go_wp2_with fail
        go_roundw
        case rel => exact ⟨k + 1, by omega, by go_num, by rw [HN.out], bW⟩
        case measure => simp [intOf]; omega
    · obtain rfl : k = n := by omega
      go_wp2_with fail
      go_ret
      exact ⟨by rw [HW.out]; rfl, bb⟩

set_option maxHeartbeats 1000000 in
theorem cellValid_any (cl : Cl) (A : Option Addr) (m cc V : Nat) (w : World) (hi : IS w w.heap.size A m cl.r) (hV : V < 18446744073709551616) :
    Calls Try.prog 80 #[.agg #[.bool cl.u, .int .i64 cl.d, .slice A m cc], .int .u64 V] w fun e w' => e = .returned (.bool (Hps.okCl V cl)) ∧ Below w.heap.size w w' := by
  have hlr := hi.1
  cases hu : cl.u
  · have bW := (Below.refl w.heap.size w).alloc (Nat.le_refl _) (.cells #[.bool false, .int .i64 cl.d, .slice A m cc] 45)
    have HC := Lib.hid (show Hps.okCl V cl = (cl.d == 0 && decide (m = 0)) by unfold Hps.okCl; rw [if_neg (by rw [hu]; decide), hlr])
    clear hu
    by_cases hd : cl.d = 0
    · have hd' : (cl.d == 0) = true := by rw [beq_iff_eq]; exact hd
      have HD := Lib.hid hd'
      clear hd
      by_cases hm0 : m = 0
      · subst hm0
        go_enter Try.func80, Try.ntmps80
        go_wp2_with fail
        go_ret
        exact ⟨by rw [HC.out, HD.out]; rfl, bW⟩
      · have hm0' : ((m : Int) == 0) = false := by rw [beq_eq_false_iff_ne]; omega
        have HM := Lib.hid (decide_eq_false hm0)
        go_enter Try.func80, Try.ntmps80
        go_wp2_with fail
        go_ret
        exact ⟨by rw [HC.out, HD.out, HM.out]; rfl, bW⟩
    · have hd' : (cl.d == 0) = false := by rw [beq_eq_false_iff_ne]; exact hd
      have HD := Lib.hid hd'
      go_enter Try.func80, Try.ntmps80
      go_wp2_with fail
      go_ret
      exact ⟨by rw [HC.out, HD.out]; rfl, bW⟩
  · have bW := (Below.refl w.heap.size w).alloc (Nat.le_refl _) (.cells #[.bool true, .int .i64 cl.d, .slice A m cc] 45)
    have hiW := (hi.below bW).more bW.size
    have HC := Lib.hid (show Hps.okCl V cl = ((decide (0 ≤ cl.d) && decide (cl.d ≤ 99)) && (decide (m ≤ 3) && Hps.okVs V cl.r)) by unfold Hps.okCl; rw [if_pos hu, hlr])
    clear hu
    by_cases h1 : 0 ≤ cl.d
    · by_cases h2 : cl.d ≤ 99
      · by_cases h3 : m ≤ 3
        · have h3' : (m : Int) ≤ 3 := by omega
          have H := Lib.hid (And.intro (decide_eq_true h1) (And.intro (decide_eq_true h2) (decide_eq_true h3)))
          go_enter Try.func80, Try.ntmps80
          go_wp2_with fail
          refine (hasTargets_any _ _ _ V cl.r _ hiW hV (by omega)).mono ?_
          rintro e w1 ⟨rfl, rfl⟩
          go_wp2_with fail
          go_ret
          exact ⟨by rw [HC.out, H.out.1, H.out.2.1, H.out.2.2]; simp, bW⟩
        · have h3' : ¬ (m : Int) ≤ 3 := by omega
          have H := Lib.hid (decide_eq_false h3)
          go_enter Try.func80, Try.ntmps80
          go_wp2_with fail
          go_ret
          exact ⟨by rw [HC.out, H.out]; simp, bW⟩
      · have H := Lib.hid (decide_eq_false h2)
        go_enter Try.func80, Try.ntmps80
        go_wp2_with fail
        go_ret
        exact ⟨by rw [HC.out, H.out]; simp, bW⟩
    · have H := Lib.hid (decide_eq_false h1)
      go_enter Try.func80, Try.ntmps80
      go_wp2_with fail
      go_ret
      exact ⟨by rw [HC.out, H.out]; simp, bW⟩
end Go.Proofs.Ytakdjiojahlnmaa

namespace Go.Proofs.Ytakdjiojahlnmaa
open Go.RowKit
set_option maxRecDepth 100000

set_option maxHeartbeats 1000000 in
theorem heapValid_any (A R : Option Addr) (n c m d : Nat) (h : Hp) (w : World) (hs : HS w w.heap.size A n R m h) (hn : n ≤ 1099511627776) (hm : m ≤ 1099511627776) (_hc : n ≤ c) (_hd : m ≤ d) :
    Calls Try.prog 39 #[heapV A n c R m d] w fun e w' => e = .returned (.bool (Hps.validH h)) ∧ Below w.heap.size w w' := by
  have hlc := hs.cells.1
  have hlr := hs.roots.1
  have b0 : Below w.heap.size w (w.alloc (.cells #[.slice A n c, .slice R m d] 26)) := (Below.refl _ _).alloc (Nat.le_refl _) _
  by_cases h40 : n ≤ 40
  · by_cases h4 : m = 4
    · subst h4
      have h40' : (n : Int) ≤ 40 := by omega
      have r0 := hs.up b0
      have hw0 := Rw.new w 26 #[.slice A n c, .slice R 4 d]
      have hV := Hps.usedW_lt (cs := h.cs) (by omega)
      have HOR := Lib.hid (Hps.okVs_used h.cs)
      have HOC := Lib.hid (Hps.okCl_used h.cs)
      go_enter Try.func39, Try.ntmps39
      go_wp2_with fail
      refine (usedSet_any _ _ _ h.cs _ r0.cells (by omega)).mono ?_
      rintro e w1 ⟨rfl, b1⟩
      obtain ⟨V, hVe⟩ : ∃ V, Hps.usedW h.cs = V := ⟨_, rfl⟩
      rw [hVe] at hV HOR HOC ⊢
      have bb1 := b0.trans (b1.mono b0.size)
      have hw1 := hw0.keep b1 (by simp)
      clear r0 hw0 hVe b1
      have z0 : w1.cell? ⟨w.heap.size, 0, none⟩ = some (.slice A n c) := hw1.cell 0
      go_wp2_with fail
      go_loopw [22] (fun i wr => ∃ k : Nat, k ≤ n ∧ i = .int .i64 k ∧ Hid (∀ j cl, j < k → h.cs[j]? = some cl → Hps.okCell h.cs cl = true) ∧ Below w.heap.size w wr ∧ Rw wr w.heap.size 26 #[.slice A n c, .slice R 4 d]) (fun i _ => n - (intOf i).toNat)
      case atStart => exact ⟨0, Nat.zero_le _, rfl, Lib.hid (fun j x hj => by omega), bb1, hw1⟩
      case round =>
        clear bb1 hw1 z0
        obtain ⟨k, hk, rfl, HP, bb, hw⟩ := hrel
        have z1 : wr.cell? ⟨w.heap.size, 1, none⟩ = some (.slice R 4 d) := hw.cell 1
        by_cases hlt : k < n
        · obtain ⟨g, o, cl, A', m', cc, e1, hg, hcl, d1, d2, d3, hmc, hi⟩ := hs.cells.at_ hlt
          subst e1
          replace d1 := (bb.cell (p := ⟨g, o + k * 3, none⟩) hg).trans d1
          replace d2 := (bb.cell (p := ⟨g, o + k * 3 + 1, none⟩) hg).trans d2
          replace d3 := (bb.cell (p := ⟨g, o + k * 3 + 2, none⟩) hg).trans d3
          have hlt' : (k : Int) < n := by omega
          have HCL := Lib.hid hcl
          have HM := Lib.hid hi.1
          have bW := bb.alloc bb.size (.cells #[.bool cl.u, .int .i64 cl.d, .slice A' m' cc] 45)
          have hwW := hw.alloc (.cells #[.bool cl.u, .int .i64 cl.d, .slice A' m' cc] 45)
          have hiW := (hi.below bW).more bW.size
          clear hcl
          go_wp2_with fail
          refine (cellValid_any cl A' m' cc V _ hiW hV).mono ?_
          rw [HOC.out]
          cases hok : Hps.okCell h.cs cl
          · have HR := Lib.hid (Hps.invalid_cell HCL.out hok)
            rintro e w2 ⟨rfl, b2⟩
            have bn := bW.trans (b2.mono bW.size)
            go_wp2_with fail
            go_ret
            exact ⟨by rw [HR.out]; rfl, bn⟩
          · have HN : Hid (∀ j c', j < k + 1 → h.cs[j]? = some c' → Hps.okCell h.cs c' = true) := Lib.hid fun j y hj hy => by
              rcases Nat.lt_or_ge j k with h1 | h1
              · exact HP.out j y h1 hy
              · obtain rfl : j = k := by omega
                rw [HCL.out] at hy
                injection hy with hy
                rw [← hy]
                exact hok
            clear hok
            rintro e w2 ⟨rfl, b2⟩
            have bn := bW.trans (b2.mono bW.size)
            have hwn := hwW.keep b2 hwW.lt
            go_wp2_with fail
            go_roundw
            case rel => exact ⟨k + 1, by omega, by go_num, HN, bn, hwn⟩
            case measure => simp [intOf]; omega
        · obtain rfl : k = n := by omega
          have hall : ∀ cl ∈ h.cs, Hps.okCell h.cs cl = true := fun cl hcl => by
            obtain ⟨j, hj⟩ := List.mem_iff_getElem?.1 hcl
            exact HP.out j cl (by rw [← hlc]; exact (List.getElem?_eq_some_iff.1 hj).1) hj
          have HR := Lib.hid (show Hps.validH h = Hps.okRefs h.cs h.rt by rw [Hps.valid_all hall, hlc, hlr, decide_eq_true h40]; simp)
          have rr := (hs.roots.below bb).more bb.size
          clear hall
          go_wp2_with fail
          refine (hasTargets_any _ _ _ V h.rt _ rr hV (by omega)).mono ?_
          rintro e w2 ⟨rfl, rfl⟩
          go_wp2_with fail
          go_ret
          exact ⟨by rw [HR.out, ← HOR.out]; rfl, bb⟩
    · have h40' : (n : Int) ≤ 40 := by omega
      have h4' : ((m : Int) != 4) = true := by rw [bne_iff_ne]; omega
      have HR := Lib.hid (show Hps.validH h = false by
        cases hv : Hps.validH h
        · rfl
        · have := (Hps.valid_iff.1 hv).2.2.1
          omega)
      clear h4
      go_enter Try.func39, Try.ntmps39
      go_wp2_with fail
      go_ret
      exact ⟨by rw [HR.out]; rfl, b0⟩
  · have h40' : ¬ (n : Int) ≤ 40 := by omega
    have h40'' : (40 : Int) < n := by omega
    have HR := Lib.hid (show Hps.validH h = false by
      cases hv : Hps.validH h
      · rfl
      · have := (Hps.valid_iff.1 hv).2.1
        omega)
    go_enter Try.func39, Try.ntmps39
    go_wp2_with fail
    go_ret
    exact ⟨by rw [HR.out]; rfl, b0⟩
end Go.Proofs.Ytakdjiojahlnmaa
