/- What the claim DSweepTwice stands on, part 3 of 5: texts of one seat put together, with what the claim needs of them. No conditions. -/
import Derived.Test.YthmddmddcdofaaaDoorShJb
namespace Go.Proofs.YthmddmddcdofaaaDoor
namespace Bm
/-- the bits of the first k words that are b -/
def setN (xs : List Bool) (b : Bool) : Nat → Nat
  | 0 => 0
  | k + 1 => if xs[k]? = some b then setN xs b k ||| 2 ^ k else setN xs b k
theorem setN_bit (xs : List Bool) (b : Bool) (i : Nat) : ∀ k, (setN xs b k).testBit i = (decide (i < k) && decide (xs[i]? = some b))
  | 0 => by simp [setN]
  | k + 1 => by
    have ih := setN_bit xs b i k
    unfold setN
    by_cases hx : xs[k]? = some b
    · rw [if_pos hx, Nat.testBit_or, ih, Nat.testBit_two_pow]
      rcases Nat.lt_trichotomy i k with h | h | h
      · have h1 : ¬ k = i := by omega
        have h2 : i < k + 1 := by omega
        simp [h, h1, h2]
      · subst h
        simp [hx]
      · have h1 : ¬ k = i := by omega
        have h2 : ¬ i < k + 1 := by omega
        have h3 : ¬ i < k := by omega
        simp [h1, h2, h3]
    · rw [if_neg hx, ih]
      rcases Nat.lt_trichotomy i k with h | h | h
      · have h2 : i < k + 1 := by omega
        simp [h, h2]
      · subst h
        simp [hx]
      · have h2 : ¬ i < k + 1 := by omega
        have h3 : ¬ i < k := by omega
        simp [h2, h3]
theorem setN_lt (xs : List Bool) (b : Bool) : ∀ k, setN xs b k < 2 ^ k
  | 0 => by simp [setN]
  | k + 1 => by
    have ih := setN_lt xs b k
    have h2 : 2 ^ k < 2 ^ (k + 1) := Nat.pow_lt_pow_right (by omega) (by omega)
    unfold setN
    split
    · exact Nat.or_lt_two_pow (by omega) h2
    · omega
theorem pow64 {k : Nat} (h : k ≤ 64) : 2 ^ k ≤ 18446744073709551616 := by
  rw [show (18446744073709551616 : Nat) = 2 ^ 64 by decide]
  exact Nat.pow_le_pow_right (by omega) h
theorem setN_64 (xs : List Bool) (b : Bool) {k : Nat} (h : k ≤ 64) : setN xs b k < 18446744073709551616 := Nat.lt_of_lt_of_le (setN_lt xs b k) (pow64 h)
/-- the bits of all words that are b -/
def wordN (xs : List Bool) (b : Bool) : Nat := setN xs b xs.length
theorem wordN_bit (xs : List Bool) (b : Bool) (i : Nat) : (wordN xs b).testBit i = decide (xs[i]? = some b) := by
  unfold wordN
  rw [setN_bit]
  by_cases h : i < xs.length
  · simp [h]
  · rw [List.getElem?_eq_none (by omega)]
    simp
theorem wordN_lt (xs : List Bool) (b : Bool) (h : xs.length ≤ 64) : wordN xs b < 18446744073709551616 := setN_64 xs b h
/-- a bit and nothing else -/
theorem and_pow (n i : Nat) : n &&& 2 ^ i = if n.testBit i = true then 2 ^ i else 0 := by
  apply Nat.eq_of_testBit_eq
  intro j
  rw [Nat.testBit_and, Nat.testBit_two_pow]
  by_cases h : i = j
  · subst h
    cases n.testBit i <;> simp
  · cases n.testBit i <;> simp [h]
/-- the first k words as bools -/
theorem word_list (xs : List Bool) {n : Nat} (h : xs.length = n) (W : Nat) (hb : ∀ i, i < n → W.testBit i = decide (xs[i]? = some true)) : (List.range n).map W.testBit = xs := by
  apply List.ext_getElem?
  intro i
  rw [List.getElem?_map]
  rcases Nat.lt_or_ge i n with h1 | h1
  · rw [List.getElem?_range h1]
    have h2 := List.getElem?_eq_getElem (show i < xs.length by omega)
    rw [h2]
    have := hb i h1
    rw [h2] at this
    show some (W.testBit i) = _
    rw [this]
    cases xs[i] <;> simp
  · rw [List.getElem?_eq_none (l := List.range n) (by rw [List.length_range]; exact h1), List.getElem?_eq_none (by omega)]
    rfl
/-- the lowest bit -/
theorem ctz_bit {x : Nat} (h0 : x ≠ 0) (h : x < 18446744073709551616) : x.testBit (Lib.ctz 64 x) = true ∧ ∀ i, i < Lib.ctz 64 x → x.testBit i = false := by
  obtain ⟨m, hm, hk⟩ := Lib.ctzFrom_spec 64 x (by omega) h
  have e : Lib.ctz 64 x = Lib.ctzFrom 64 x := by simp [Lib.ctz, h0]
  rw [e]
  obtain ⟨k, hkk⟩ : ∃ k, Lib.ctzFrom 64 x = k := ⟨_, rfl⟩
  rw [hkk] at hm ⊢
  rw [hm, Nat.mul_comm]
  constructor
  · rw [Nat.testBit_mul_two_pow]
    simp
  · intro i hi
    rw [Nat.testBit_mul_two_pow]
    simp
    omega
end Bm
end Go.Proofs.YthmddmddcdofaaaDoor
namespace Go.Proofs.YthmddmddcdofaaaDoor
/-- the bits of a number below k that are set -/
def pcN (V k : Nat) : Nat := (List.range k).countP V.testBit
namespace Pc
def val : List Nat → Nat
  | [] => 0
  | b :: bs => b + 256 * val bs
theorem and_split (b r c d : Nat) (hb : b < 256) (hc : c < 256) : (b + 256 * r) &&& (c + 256 * d) = (b &&& c) + 256 * (r &&& d) := by
  have h1 : ((b + 256 * r) &&& (c + 256 * d)) % 256 = b &&& c := by
    have := Nat.and_mod_two_pow (a := b + 256 * r) (b := c + 256 * d) (n := 8)
    rw [show (2 : Nat) ^ 8 = 256 by decide] at this
    rw [this, show (b + 256 * r) % 256 = b by omega, show (c + 256 * d) % 256 = c by omega]
  have h2 : ((b + 256 * r) &&& (c + 256 * d)) / 256 = r &&& d := by
    have := Nat.and_div_two_pow (a := b + 256 * r) (b := c + 256 * d) (n := 8)
    rw [show (2 : Nat) ^ 8 = 256 by decide] at this
    rw [this, show (b + 256 * r) / 256 = r by omega, show (c + 256 * d) / 256 = d by omega]
  omega
def s1 (x m : Nat) : Nat := (x / 2 &&& m) + (x &&& m)
def s2 (x m : Nat) : Nat := (x / 4 &&& m) + (x &&& m)
def s3 (x m : Nat) : Nat := (x / 16 + x) &&& m
theorem m1 : ∀ b : Fin 256, ∀ j : Fin 2, (b.val / 2 + 128 * j.val) &&& 85 = b.val / 2 &&& 85 := by decide +kernel
theorem m2 : ∀ b : Fin 256, ∀ j : Fin 4, (b.val / 4 + 64 * j.val) &&& 51 = b.val / 4 &&& 51 := by decide +kernel
theorem s1_split (b r d : Nat) (hb : b < 256) : s1 (b + 256 * r) (85 + 256 * d) = s1 b 85 + 256 * s1 r d := by
  unfold s1
  rw [show (b + 256 * r) / 2 = (b / 2 + 128 * (r % 2)) + 256 * (r / 2) by omega, and_split _ _ _ _ (by omega) (by omega), and_split _ _ _ _ hb (by omega)]
  have := m1 ⟨b, hb⟩ ⟨r % 2, by omega⟩
  simp only at this
  rw [this]
  omega
theorem s2_split (b r d : Nat) (hb : b < 256) : s2 (b + 256 * r) (51 + 256 * d) = s2 b 51 + 256 * s2 r d := by
  unfold s2
  rw [show (b + 256 * r) / 4 = (b / 4 + 64 * (r % 4)) + 256 * (r / 4) by omega, and_split _ _ _ _ (by omega) (by omega), and_split _ _ _ _ hb (by omega)]
  have := m2 ⟨b, hb⟩ ⟨r % 4, by omega⟩
  simp only at this
  rw [this]
  omega
theorem and15 (x : Nat) : x &&& 15 = x % 16 := Nat.and_two_pow_sub_one_eq_mod x 4
theorem s3_split (b r d : Nat) (hb : b / 16 ≤ 4) (hb2 : b % 16 ≤ 4) (hr : r % 16 ≤ 4) : s3 (b + 256 * r) (15 + 256 * d) = s3 b 15 + 256 * s3 r d := by
  unfold s3
  rw [show (b + 256 * r) / 16 + (b + 256 * r) = (b / 16 + b + 16 * (r % 16)) + 256 * (r / 16 + r) by omega, and_split _ _ _ _ (by omega) (by omega), and15, and15, show (b / 16 + b + 16 * (r % 16)) % 16 = (b / 16 + b) % 16 by omega]
theorem s1_lt : ∀ b : Fin 256, s1 b.val 85 < 256 := by decide +kernel
theorem s2_ok : ∀ b : Fin 256, s2 (s1 b.val 85) 51 / 16 ≤ 4 ∧ s2 (s1 b.val 85) 51 % 16 ≤ 4 := by decide +kernel
def g (b : Nat) : Nat := s3 (s2 (s1 b 85) 51) 15
theorem g_eq : ∀ b : Fin 256, g b.val = pcN b.val 8 := by decide +kernel
theorem pc_le (V k : Nat) : pcN V k ≤ k := Nat.le_trans List.countP_le_length (by simp)
theorem s1_val : ∀ bs : List Nat, (∀ b ∈ bs, b < 256) → s1 (val bs) (val (bs.map fun _ => 85)) = val (bs.map (s1 · 85))
  | [], _ => by decide
  | b :: bs, h => by
    have ih := s1_val bs fun x hx => h x (by simp [hx])
    simp only [List.map_cons, val]
    rw [s1_split _ _ _ (h b (by simp)), ih]
theorem s2_val : ∀ bs : List Nat, (∀ b ∈ bs, b < 256) → s2 (val bs) (val (bs.map fun _ => 51)) = val (bs.map (s2 · 51))
  | [], _ => by decide
  | b :: bs, h => by
    have ih := s2_val bs fun x hx => h x (by simp [hx])
    simp only [List.map_cons, val]
    rw [s2_split _ _ _ (h b (by simp)), ih]
theorem s3_val : ∀ bs : List Nat, (∀ b ∈ bs, b / 16 ≤ 4 ∧ b % 16 ≤ 4) → s3 (val bs) (val (bs.map fun _ => 15)) = val (bs.map (s3 · 15))
  | [], _ => by decide
  | b :: bs, h => by
    have ih := s3_val bs fun x hx => h x (by simp [hx])
    simp only [List.map_cons, val]
    have hb := h b (by simp)
    have hr : val bs % 16 ≤ 4 := by
      cases bs with
      | nil => simp [val]
      | cons c cs =>
        have := h c (by simp)
        simp only [val]
        omega
    rw [s3_split _ _ _ hb.1 hb.2 hr, ih]
/-- the bytes' counts side by side -/
theorem g_val (bs : List Nat) (h : ∀ b ∈ bs, b < 256) : s3 (s2 (s1 (val bs) (val (bs.map fun _ => 85))) (val (bs.map fun _ => 51))) (val (bs.map fun _ => 15)) = val (bs.map g) := by
  have e : ∀ (c : Nat) (f : Nat → Nat), (bs.map f).map (fun _ => c) = bs.map fun _ => c := fun c f => by rw [List.map_map]; rfl
  have h1 : ∀ b ∈ bs.map (s1 · 85), b < 256 := fun b hb => by
    obtain ⟨a, ha, rfl⟩ := List.mem_map.1 hb
    exact s1_lt ⟨a, h a ha⟩
  have h2 : ∀ b ∈ (bs.map (s1 · 85)).map (s2 · 51), b / 16 ≤ 4 ∧ b % 16 ≤ 4 := fun b hb => by
    obtain ⟨a', ha', rfl⟩ := List.mem_map.1 hb
    obtain ⟨a, ha, rfl⟩ := List.mem_map.1 ha'
    exact s2_ok ⟨a, h a ha⟩
  have e2 : ((bs.map (s1 · 85)).map (s2 · 51)).map (fun _ => 15) = bs.map fun _ => 15 := by
    rw [List.map_map, List.map_map]
    rfl
  rw [s1_val _ h, ← e 51 (s1 · 85), s2_val _ h1, ← e2, s3_val _ h2, List.map_map, List.map_map]
  rfl
theorem pc_byte {V : Nat} (j : Nat) : (List.range 8).countP (fun i => V.testBit (8 * j + i)) = pcN (V / 2 ^ (8 * j) % 256) 8 := by
  unfold pcN
  apply List.countP_congr
  intro i hi
  rw [List.mem_range] at hi
  rw [show (256 : Nat) = 2 ^ 8 by decide, Nat.testBit_mod_two_pow, decide_eq_true hi, Bool.true_and, Nat.testBit_div_two_pow, Nat.add_comm]
theorem pc64 (V : Nat) : pcN V 64 = pcN (V % 256) 8 + pcN (V / 256 % 256) 8 + pcN (V / 65536 % 256) 8 + pcN (V / 16777216 % 256) 8 + pcN (V / 4294967296 % 256) 8 + pcN (V / 1099511627776 % 256) 8 + pcN (V / 281474976710656 % 256) 8 + pcN (V / 72057594037927936 % 256) 8 := by
  have e : pcN V 64 = ((List.range 8).map fun j => (List.range 8).countP (fun i => V.testBit (8 * j + i))).sum := by
    unfold pcN
    rw [show List.range 64 = (List.range 8).flatMap fun j => (List.range 8).map fun i => 8 * j + i by decide +kernel, List.countP_flatMap]
    congr 1
  rw [e, show (List.range 8) = [0, 1, 2, 3, 4, 5, 6, 7] by decide]
  have q : ∀ j, ([0, 1, 2, 3, 4, 5, 6, 7] : List Nat).countP (fun i => V.testBit (8 * j + i)) = pcN (V / 2 ^ (8 * j) % 256) 8 := fun j => pc_byte j
  simp only [q, List.map_cons, List.map_nil, List.sum_cons, List.sum_nil]
  simp only [Nat.reduceMul, Nat.reducePow, Nat.pow_zero, Nat.div_one]
  omega
/-- OnesCount64's sums -/
theorem sums (V : Nat) (h : V < 18446744073709551616) (y z z2 : Nat) (hy : y = s3 (s2 (s1 V 6148914691236517205) 3689348814741910323) 1085102592571150095) (hz : z = y + y / 256) (hz2 : z2 = z + z / 65536) :
    z < 18446744073709551616 ∧ z2 < 18446744073709551616 ∧ z2 + z2 / 4294967296 < 9223372036854775808 ∧ (z2 + z2 / 4294967296) % 128 = pcN V 64 := by
  have hv : V = val [V % 256, V / 256 % 256, V / 65536 % 256, V / 16777216 % 256, V / 4294967296 % 256, V / 1099511627776 % 256, V / 281474976710656 % 256, V / 72057594037927936 % 256] := by
    simp only [val]
    omega
  have hp := pc64 V
  have hb : ∀ b ∈ [V % 256, V / 256 % 256, V / 65536 % 256, V / 16777216 % 256, V / 4294967296 % 256, V / 1099511627776 % 256, V / 281474976710656 % 256, V / 72057594037927936 % 256], b < 256 := by
    intro b hb
    simp only [List.mem_cons, List.not_mem_nil, or_false] at hb
    omega
  have hg := g_val _ hb
  have l0 := g_eq ⟨V % 256, by omega⟩
  have l1 := g_eq ⟨V / 256 % 256, by omega⟩
  have l2 := g_eq ⟨V / 65536 % 256, by omega⟩
  have l3 := g_eq ⟨V / 16777216 % 256, by omega⟩
  have l4 := g_eq ⟨V / 4294967296 % 256, by omega⟩
  have l5 := g_eq ⟨V / 1099511627776 % 256, by omega⟩
  have l6 := g_eq ⟨V / 281474976710656 % 256, by omega⟩
  have l7 := g_eq ⟨V / 72057594037927936 % 256, by omega⟩
  simp only at l0 l1 l2 l3 l4 l5 l6 l7
  rw [← hv] at hg
  simp only [List.map_cons, List.map_nil, l0, l1, l2, l3, l4, l5, l6, l7] at hg
  rw [show val [85, 85, 85, 85, 85, 85, 85, 85] = 6148914691236517205 by decide, show val [51, 51, 51, 51, 51, 51, 51, 51] = 3689348814741910323 by decide, show val [15, 15, 15, 15, 15, 15, 15, 15] = 1085102592571150095 by decide, ← hy] at hg
  rw [hp]
  clear hv hb hp l0 l1 l2 l3 l4 l5 l6 l7 hy h
  have q0 := pc_le (V % 256) 8
  have q1 := pc_le (V / 256 % 256) 8
  have q2 := pc_le (V / 65536 % 256) 8
  have q3 := pc_le (V / 16777216 % 256) 8
  have q4 := pc_le (V / 4294967296 % 256) 8
  have q5 := pc_le (V / 1099511627776 % 256) 8
  have q6 := pc_le (V / 281474976710656 % 256) 8
  have q7 := pc_le (V / 72057594037927936 % 256) 8
  generalize pcN (V % 256) 8 = p0 at *
  generalize pcN (V / 256 % 256) 8 = p1 at *
  generalize pcN (V / 65536 % 256) 8 = p2 at *
  generalize pcN (V / 16777216 % 256) 8 = p3 at *
  generalize pcN (V / 4294967296 % 256) 8 = p4 at *
  generalize pcN (V / 1099511627776 % 256) 8 = p5 at *
  generalize pcN (V / 281474976710656 % 256) 8 = p6 at *
  generalize pcN (V / 72057594037927936 % 256) 8 = p7 at *
  simp only [val] at hg
  subst hg
  have e1 : z = (p0 + p1) + 256 * (p1 + p2) + 65536 * (p2 + p3) + 16777216 * (p3 + p4) + 4294967296 * (p4 + p5) + 1099511627776 * (p5 + p6) + 281474976710656 * (p6 + p7) + 72057594037927936 * p7 := by omega
  clear hz
  have e2 : z2 = (p0 + p1 + p2 + p3) + 256 * (p1 + p2 + p3 + p4) + 65536 * (p2 + p3 + p4 + p5) + 16777216 * (p3 + p4 + p5 + p6) + 4294967296 * (p4 + p5 + p6 + p7) + 1099511627776 * (p5 + p6 + p7) + 281474976710656 * (p6 + p7) + 72057594037927936 * p7 := by omega
  clear hz2
  have e3 : z2 / 4294967296 = (p4 + p5 + p6 + p7) + 256 * (p5 + p6 + p7) + 65536 * (p6 + p7) + 16777216 * p7 := by omega
  rw [e3]
  have hzl : z < 18446744073709551616 := by omega
  clear e1
  exact ⟨hzl, by omega, by omega, by omega⟩
end Pc
end Go.Proofs.YthmddmddcdofaaaDoor
namespace Go.Proofs.YthmddmddcdofaaaDoor
open Go.RowKit
namespace Hps
theorem pow_in {k : Nat} (h : k < 64) : IntKind.u64.wrap (2 ^ k) = 2 ^ k ∧ (0 : Int) < 2 ^ k ∧ (2 : Int) ^ k < 18446744073709551616 := by
  have h1 : (2 : Nat) ^ k < 2 ^ 64 := Nat.pow_lt_pow_right (by omega) h
  have h2 : (0 : Nat) < 2 ^ k := Nat.pow_pos (by omega)
  have e : ((2 ^ k : Nat) : Int) = (2 : Int) ^ k := by rw [Int.natCast_pow]; rfl
  refine ⟨?_, by omega, by omega⟩
  rw [IntKind.wrap_u64]
  omega
theorem pow_out {k : Nat} (h : 64 ≤ k) : IntKind.u64.wrap (2 ^ k) = 0 := by
  have e : ((2 ^ k : Nat) : Int) = (2 : Int) ^ k := by rw [Int.natCast_pow]; rfl
  obtain ⟨j, rfl⟩ : ∃ j, k = 64 + j := ⟨k - 64, by omega⟩
  rw [IntKind.wrap_u64, ← e, Nat.pow_add, show (2 : Nat) ^ 64 = 18446744073709551616 by decide]
  omega
theorem or_in {V k : Nat} (hV : V < 18446744073709551616) (h : k < 64) : bits .or .u64 (V : Int) (2 ^ k) = ((V ||| 2 ^ k : Nat) : Int) := by
  have h1 : (2 : Nat) ^ k < 2 ^ 64 := Nat.pow_lt_pow_right (by omega) h
  have := u64_or_nat V (2 ^ k) hV (by omega)
  rw [← this, Int.natCast_pow]
  rfl
theorem and_in {V k : Nat} (hV : V < 18446744073709551616) (h : k < 64) : bits .and .u64 (V : Int) (2 ^ k) = if V.testBit k = true then 2 ^ k else 0 := by
  have h1 : (2 : Nat) ^ k < 2 ^ 64 := Nat.pow_lt_pow_right (by omega) h
  have := u64_and_nat V (2 ^ k) hV (by omega)
  rw [Int.natCast_pow] at this
  rw [show (2 : Int) ^ k = ((2 : Nat) : Int) ^ k from rfl, this, Bm.and_pow]
  split
  · rw [Int.natCast_pow]
  · rfl
/-- the number is that of a cell of the set -/
def hasB (V : Nat) (x : Int) : Bool := decide (0 ≤ x) && V.testBit x.toNat
def okV (V : Nat) (x : Int) : Bool := x == -1 || hasB V x
def okVs (V : Nat) (rs : List Int) : Bool := rs.all (okV V)
theorem okVs_iff {V : Nat} {rs : List Int} : okVs V rs = true ↔ ∀ n ∈ rs, okV V n = true := by simp [okVs]
theorem okVs_no {V : Nat} {rs : List Int} {k : Nat} {n : Int} (hn : rs[k]? = some n) (h : okV V n = false) : okVs V rs = false := by
  cases hh : okVs V rs
  · rfl
  · rw [okVs_iff.1 hh n (List.mem_of_getElem? hn)] at h
    cases h
/-- the set of the used cells -/
def usedW (cs : List Cl) : Nat := Bm.wordN (cs.map (·.u)) true
theorem usedW_lt {cs : List Cl} (h : cs.length ≤ 64) : usedW cs < 18446744073709551616 := Bm.wordN_lt _ _ (by simpa using h)
theorem usedW_bit (cs : List Cl) (i : Nat) : (usedW cs).testBit i = usedAt cs i := by
  unfold usedW
  rw [Bm.wordN_bit, List.getElem?_map]
  unfold usedAt
  cases cs[i]? with
  | none => simp
  | some c => cases h : c.u <;> simp [h]
theorem okV_used (cs : List Cl) (x : Int) : okV (usedW cs) x = okRef cs x := by
  unfold okV okRef hasB
  rw [usedW_bit]
theorem okVs_used (cs : List Cl) (rs : List Int) : okVs (usedW cs) rs = okRefs cs rs := by
  unfold okVs okRefs
  congr 1
  funext x
  exact okV_used cs x
/-- a cell is valid beside these used ones -/
def okCl (V : Nat) (c : Cl) : Bool := if c.u = true then (decide (0 ≤ c.d) && decide (c.d ≤ 99)) && (decide (c.r.length ≤ 3) && okVs V c.r) else c.d == 0 && decide (c.r.length = 0)
theorem okCl_used (cs : List Cl) (c : Cl) : okCl (usedW cs) c = okCell cs c := by
  unfold okCl okCell
  rw [okVs_used]
  cases hu : c.u
  · rw [if_neg (by decide), Bool.false_or]
    by_cases h : c.d = 0 ∧ c.r.length = 0
    · obtain ⟨h1, h2⟩ := h
      have : c.r = [] := List.eq_nil_of_length_eq_zero h2
      rw [h1, this]
      simp [okRefs]
    · have : (c.d == 0 && decide (c.r.length = 0)) = false := by
        rw [Bool.and_eq_false_iff, beq_eq_false_iff_ne, decide_eq_false_iff_not]
        omega
      rw [this]
      simp
  · rw [if_pos rfl, Bool.true_or, Bool.true_and]
    simp only [Bool.and_assoc]
end Hps
theorem has_any (V : Nat) (x : Int) (w : World) (hV : V < 18446744073709551616) :
    Calls Tryd.prog 124 #[.int .u64 V, .int .i64 x] w fun e w' => e = .returned (.bool (Hps.hasB V x)) ∧ w = w' := by
  by_cases h0 : 0 ≤ x
  · obtain ⟨k, rfl⟩ := Int.eq_ofNat_of_zero_le h0
    have h0' : (k : Int) ≥ 0 := h0
    have hkneg : ¬ ((k : Int) < 0) := by omega
    have HB := Lib.hid (show Hps.hasB V (k : Int) = V.testBit k by simp [Hps.hasB])
    by_cases h : k < 64
    · obtain ⟨p1, p2, p3⟩ := Hps.pow_in h
      have hand := Hps.and_in hV h
      cases ht : V.testBit k
      · rw [ht] at hand HB
        rw [if_neg (by decide)] at hand
        clear ht
        go_enter Tryd.func124, Tryd.ntmps124
        go_wp2_with fail
        go_ret
        exact ⟨by rw [HB.out]; rfl, rfl⟩
      · rw [ht] at hand HB
        rw [if_pos rfl] at hand
        have hz : ((2 : Int) ^ k != 0) = true := by rw [bne_iff_ne]; omega
        clear ht
        go_enter Tryd.func124, Tryd.ntmps124
        go_wp2_with fail
        go_ret
        exact ⟨by rw [HB.out]; rfl, rfl⟩
    · have HF := Lib.hid (show V.testBit k = false from Nat.testBit_lt_two_pow (Nat.lt_of_lt_of_le hV (by rw [show (18446744073709551616 : Nat) = 2 ^ 64 by decide]; exact Nat.pow_le_pow_right (by omega) (by omega))))
      have p1 : IntKind.u64.wrap (2 ^ min k 64) = 0 := by rw [show min k 64 = 64 by omega]; exact Hps.pow_out (Nat.le_refl _)
      have hand : bits .and .u64 (V : Int) 0 = 0 := by
        have := u64_and_nat V 0 hV (by omega)
        rw [Nat.and_zero] at this
        exact this
      go_enter Tryd.func124, Tryd.ntmps124
      go_wp2_with fail
      go_ret
      exact ⟨by rw [HB.out, HF.out]; first | rfl | (simp only [p1, hand]; rfl), rfl⟩
  · have h0' : decide (x ≥ 0) = false := decide_eq_false h0
    have HB := Lib.hid (show Hps.hasB V x = false by simp [Hps.hasB, h0])
    go_enter Tryd.func124, Tryd.ntmps124
    go_wp2_with fail
    go_ret
    exact ⟨by rw [HB.out]; rfl, rfl⟩
set_option maxHeartbeats 1000000 in
theorem hasTargets_any (F : Option Addr) (q e V : Nat) (rs : List Int) (w : World) (hf : IS w w.heap.size F q rs) (hV : V < 18446744073709551616) (hq : q ≤ 1099511627776) :
    Calls Tryd.prog 79 #[.int .u64 V, .slice F q e] w fun e w' => e = .returned (.bool (Hps.okVs V rs)) ∧ w = w' := by
  have hlr := hf.1
  go_enter Tryd.func79, Tryd.ntmps79
  go_wp2_with fail
  go_loopw [9] (fun i wr => ∃ k : Nat, k ≤ q ∧ i = .int .i64 k ∧ Hid (∀ j x, j < k → rs[j]? = some x → Hps.okV V x = true) ∧ wr = w) (fun i _ => q - (intOf i).toNat)
  case atStart => exact ⟨0, Nat.zero_le _, rfl, Lib.hid (fun j x hj => by omega), rfl⟩
  case round =>
    obtain ⟨k, hk, rfl, HP, rfl⟩ := hrel
    by_cases hlt : k < q
    · obtain ⟨g, o, x, rfl, hg, hx, c1⟩ := hf.at_ hlt
      have hlt' : (k : Int) < q := by omega
      have HN : Hps.okV V x = true → Hid (∀ j y, j < k + 1 → rs[j]? = some y → Hps.okV V y = true) := fun hok => Lib.hid fun j y hj hy => by
        rcases Nat.lt_or_ge j k with h1 | h1
        · exact HP.out j y h1 hy
        · obtain rfl : j = k := by omega
          rw [hx] at hy
          injection hy with hy
          rw [← hy]
          exact hok
      have HX := Lib.hid hx
      clear hx
      by_cases hm1 : x = -1
      · subst hm1
        have HN2 := HN (by simp [Hps.okV])
        clear HN
        go_wp2_with fail
        go_roundw
        case rel => exact ⟨k + 1, by omega, by go_num, HN2, trivial⟩
        case measure => simp [intOf]; omega
      · have hne : (x != -1) = true := by rw [bne_iff_ne]; exact hm1
        have HEQ := Lib.hid (show Hps.okV V x = Hps.hasB V x by simp [Hps.okV, hm1])
        cases hb : Hps.hasB V x
        · have HR := Lib.hid (Hps.okVs_no HX.out (HEQ.out.trans hb))
          have HB := Lib.hid hb
          clear hb HN
          go_wp2_with fail
          refine (has_any V x _ hV).mono ?_
          rw [HB.out]
          rintro e w1 ⟨rfl, rfl⟩
          go_wp2_with fail
          go_ret
          exact ⟨by rw [HR.out]; rfl, rfl⟩
        · have HN2 := HN (HEQ.out.trans hb)
          have HB := Lib.hid hb
          clear hb HN
          go_wp2_with fail
          refine (has_any V x _ hV).mono ?_
          rw [HB.out]
          rintro e w1 ⟨rfl, rfl⟩
          go_wp2_with fail
          go_roundw
          case rel => exact ⟨k + 1, by omega, by go_num, HN2, trivial⟩
          case measure => simp [intOf]; omega
    · obtain rfl : k = q := by omega
      have HR := Lib.hid (show Hps.okVs V rs = true by
        rw [Hps.okVs_iff]
        intro x hx
        obtain ⟨j, hj⟩ := List.mem_iff_getElem?.1 hx
        exact HP.out j x (by rw [← hlr]; exact (List.getElem?_eq_some_iff.1 hj).1) hj)
      go_wp2_with fail
      go_ret
      exact ⟨by rw [HR.out]; rfl, rfl⟩
set_option maxHeartbeats 1000000 in
theorem usedSet_any (A : Option Addr) (n c : Nat) (cs : List Cl) (w : World) (h : CS w w.heap.size A n cs) (hn : n ≤ 64) :
    Calls Tryd.prog 66 #[.slice A n c] w fun e w' => e = .returned (.int .u64 (Hps.usedW cs : Nat)) ∧ Below w.heap.size w w' := by
  have hlc := h.1
  obtain ⟨us, hus⟩ : ∃ us, cs.map (·.u) = us := ⟨_, rfl⟩
  have HW := Lib.hid (show Hps.usedW cs = Bm.setN us true n by rw [Hps.usedW, Bm.wordN, hus, ← hus, List.length_map, hlc])
  have HUS := Lib.hid hus
  clear hus
  go_enter Tryd.func66, Tryd.ntmps66
  go_wp2_with fail
  go_loopw [3, 8] (fun v i wr => ∃ k : Nat, k ≤ n ∧ i = .int .i64 k ∧ v = .int .u64 (Bm.setN us true k : Nat) ∧ Below w.heap.size w wr) (fun _ i _ => n - (intOf i).toNat)
  case atStart => exact ⟨0, Nat.zero_le _, rfl, rfl, Below.refl _ _⟩
  case round =>
    obtain ⟨k, hk, rfl, rfl, bb⟩ := hrel
    by_cases hlt : k < n
    · obtain ⟨g, o, cl, A', m', cc, rfl, hg, hcl, d1, d2, d3, hmc, hi⟩ := (h.below bb).at_ hlt
      have hlt' : (k : Int) < n := by omega
      have hV := Bm.setN_64 us true (k := k) (by omega)
      obtain ⟨p1, p2, p3⟩ := Hps.pow_in (k := k) (by omega)
      have hor := Hps.or_in (V := Bm.setN us true k) (k := k) hV (by omega)
      have hkneg : ¬ ((k : Int) < 0) := by omega
      have hux : us[k]? = some cl.u := by rw [← HUS.out, List.getElem?_map, hcl]; rfl
      clear hcl
      cases hu : cl.u
      · rw [hu] at d1 hux
        have HN := Lib.hid (show Bm.setN us true (k + 1) = Bm.setN us true k by rw [Bm.setN, if_neg (by rw [hux]; decide)])
        have bW := bb.alloc bb.size (.cells #[.bool false, .int .i64 cl.d, .slice A' m' cc] 40)
        clear hu hux
        go_wp2_with fail
        go_roundw
        case rel => exact ⟨k + 1, by omega, by go_num, by rw [HN.out], bW⟩
        case measure => simp [intOf]; omega
      · rw [hu] at d1 hux
        have HN := Lib.hid (show Bm.setN us true (k + 1) = Bm.setN us true k ||| 2 ^ k by rw [Bm.setN, if_pos hux])
        have bW := bb.alloc bb.size (.cells #[.bool true, .int .i64 cl.d, .slice A' m' cc] 40)
        clear hu hux
        go_wp2_with fail
        go_roundw
        case rel => exact ⟨k + 1, by omega, by go_num, by rw [HN.out], bW⟩
        case measure => simp [intOf]; omega
    · obtain rfl : k = n := by omega
      go_wp2_with fail
      go_ret
      exact ⟨by rw [HW.out]; rfl, bb⟩
set_option maxHeartbeats 1000000 in
theorem cellValid_any (cl : Cl) (A : Option Addr) (m cc V : Nat) (w : World) (hi : IS w w.heap.size A m cl.r) (hV : V < 18446744073709551616) :
    Calls Tryd.prog 78 #[.agg #[.bool cl.u, .int .i64 cl.d, .slice A m cc], .int .u64 V] w fun e w' => e = .returned (.bool (Hps.okCl V cl)) ∧ Below w.heap.size w w' := by
  have hlr := hi.1
  cases hu : cl.u
  · have bW := (Below.refl w.heap.size w).alloc (Nat.le_refl _) (.cells #[.bool false, .int .i64 cl.d, .slice A m cc] 40)
    have HC := Lib.hid (show Hps.okCl V cl = (cl.d == 0 && decide (m = 0)) by unfold Hps.okCl; rw [if_neg (by rw [hu]; decide), hlr])
    clear hu
    by_cases hd : cl.d = 0
    · have hd' : (cl.d == 0) = true := by rw [beq_iff_eq]; exact hd
      have HD := Lib.hid hd'
      clear hd
      by_cases hm0 : m = 0
      · subst hm0
        go_enter Tryd.func78, Tryd.ntmps78
        go_wp2_with fail
        go_ret
        exact ⟨by rw [HC.out, HD.out]; rfl, bW⟩
      · have hm0' : ((m : Int) == 0) = false := by rw [beq_eq_false_iff_ne]; omega
        have HM := Lib.hid (decide_eq_false hm0)
        go_enter Tryd.func78, Tryd.ntmps78
        go_wp2_with fail
        go_ret
        exact ⟨by rw [HC.out, HD.out, HM.out]; rfl, bW⟩
    · have hd' : (cl.d == 0) = false := by rw [beq_eq_false_iff_ne]; exact hd
      have HD := Lib.hid hd'
      go_enter Tryd.func78, Tryd.ntmps78
      go_wp2_with fail
      go_ret
      exact ⟨by rw [HC.out, HD.out]; rfl, bW⟩
  · have bW := (Below.refl w.heap.size w).alloc (Nat.le_refl _) (.cells #[.bool true, .int .i64 cl.d, .slice A m cc] 40)
    have hiW := (hi.below bW).more bW.size
    have HC := Lib.hid (show Hps.okCl V cl = ((decide (0 ≤ cl.d) && decide (cl.d ≤ 99)) && (decide (m ≤ 3) && Hps.okVs V cl.r)) by unfold Hps.okCl; rw [if_pos hu, hlr])
    clear hu
    by_cases h1 : 0 ≤ cl.d
    · by_cases h2 : cl.d ≤ 99
      · by_cases h3 : m ≤ 3
        · have h3' : (m : Int) ≤ 3 := by omega
          have H := Lib.hid (And.intro (decide_eq_true h1) (And.intro (decide_eq_true h2) (decide_eq_true h3)))
          go_enter Tryd.func78, Tryd.ntmps78
          go_wp2_with fail
          refine (hasTargets_any _ _ _ V cl.r _ hiW hV (by omega)).mono ?_
          rintro e w1 ⟨rfl, rfl⟩
          go_wp2_with fail
          go_ret
          exact ⟨by rw [HC.out, H.out.1, H.out.2.1, H.out.2.2]; simp, bW⟩
        · have h3' : ¬ (m : Int) ≤ 3 := by omega
          have H := Lib.hid (decide_eq_false h3)
          go_enter Tryd.func78, Tryd.ntmps78
          go_wp2_with fail
          go_ret
          exact ⟨by rw [HC.out, H.out]; simp, bW⟩
      · have H := Lib.hid (decide_eq_false h2)
        go_enter Tryd.func78, Tryd.ntmps78
        go_wp2_with fail
        go_ret
        exact ⟨by rw [HC.out, H.out]; simp, bW⟩
    · have H := Lib.hid (decide_eq_false h1)
      go_enter Tryd.func78, Tryd.ntmps78
      go_wp2_with fail
      go_ret
      exact ⟨by rw [HC.out, H.out]; simp, bW⟩
end Go.Proofs.YthmddmddcdofaaaDoor
namespace Go.Proofs.YthmddmddcdofaaaDoor
open Go.RowKit
set_option maxRecDepth 100000
set_option maxHeartbeats 1000000 in
theorem heapValid_any (A R : Option Addr) (n c m d : Nat) (h : Hp) (w : World) (hs : HS w w.heap.size A n R m h) (hn : n ≤ 1099511627776) (hm : m ≤ 1099511627776) (_hc : n ≤ c) (_hd : m ≤ d) :
    Calls Tryd.prog 29 #[heapV A n c R m d] w fun e w' => e = .returned (.bool (Hps.validH h)) ∧ Below w.heap.size w w' := by
  have hlc := hs.cells.1
  have hlr := hs.roots.1
  have b0 : Below w.heap.size w (w.alloc (.cells #[.slice A n c, .slice R m d] 26)) := (Below.refl _ _).alloc (Nat.le_refl _) _
  by_cases h40 : n ≤ 40
  · by_cases h4 : m = 4
    · subst h4
      have h40' : (n : Int) ≤ 40 := by omega
      have r0 := hs.up b0
      have hw0 := Rw.new w 26 #[.slice A n c, .slice R 4 d]
      have hV := Hps.usedW_lt (cs := h.cs) (by omega)
      have HOR := Lib.hid (Hps.okVs_used h.cs)
      have HOC := Lib.hid (Hps.okCl_used h.cs)
      go_enter Tryd.func29, Tryd.ntmps29
      go_wp2_with fail
      refine (usedSet_any _ _ _ h.cs _ r0.cells (by omega)).mono ?_
      rintro e w1 ⟨rfl, b1⟩
      obtain ⟨V, hVe⟩ : ∃ V, Hps.usedW h.cs = V := ⟨_, rfl⟩
      rw [hVe] at hV HOR HOC ⊢
      have bb1 := b0.trans (b1.mono b0.size)
      have hw1 := hw0.keep b1 (by simp)
      clear r0 hw0 hVe b1
      have z0 : w1.cell? ⟨w.heap.size, 0, none⟩ = some (.slice A n c) := hw1.cell 0
      go_wp2_with fail
      go_loopw [22] (fun i wr => ∃ k : Nat, k ≤ n ∧ i = .int .i64 k ∧ Hid (∀ j cl, j < k → h.cs[j]? = some cl → Hps.okCell h.cs cl = true) ∧ Below w.heap.size w wr ∧ Rw wr w.heap.size 26 #[.slice A n c, .slice R 4 d]) (fun i _ => n - (intOf i).toNat)
      case atStart => exact ⟨0, Nat.zero_le _, rfl, Lib.hid (fun j x hj => by omega), bb1, hw1⟩
      case round =>
        clear bb1 hw1 z0
        obtain ⟨k, hk, rfl, HP, bb, hw⟩ := hrel
        have z1 : wr.cell? ⟨w.heap.size, 1, none⟩ = some (.slice R 4 d) := hw.cell 1
        by_cases hlt : k < n
        · obtain ⟨g, o, cl, A', m', cc, e1, hg, hcl, d1, d2, d3, hmc, hi⟩ := hs.cells.at_ hlt
          subst e1
          replace d1 := (bb.cell (p := ⟨g, o + k * 3, none⟩) hg).trans d1
          replace d2 := (bb.cell (p := ⟨g, o + k * 3 + 1, none⟩) hg).trans d2
          replace d3 := (bb.cell (p := ⟨g, o + k * 3 + 2, none⟩) hg).trans d3
          have hlt' : (k : Int) < n := by omega
          have HCL := Lib.hid hcl
          have HM := Lib.hid hi.1
          have bW := bb.alloc bb.size (.cells #[.bool cl.u, .int .i64 cl.d, .slice A' m' cc] 40)
          have hwW := hw.alloc (.cells #[.bool cl.u, .int .i64 cl.d, .slice A' m' cc] 40)
          have hiW := (hi.below bW).more bW.size
          clear hcl
          go_wp2_with fail
          refine (cellValid_any cl A' m' cc V _ hiW hV).mono ?_
          rw [HOC.out]
          cases hok : Hps.okCell h.cs cl
          · have HR := Lib.hid (Hps.invalid_cell HCL.out hok)
            rintro e w2 ⟨rfl, b2⟩
            have bn := bW.trans (b2.mono bW.size)
            go_wp2_with fail
            go_ret
            exact ⟨by rw [HR.out]; rfl, bn⟩
          · have HN : Hid (∀ j c', j < k + 1 → h.cs[j]? = some c' → Hps.okCell h.cs c' = true) := Lib.hid fun j y hj hy => by
              rcases Nat.lt_or_ge j k with h1 | h1
              · exact HP.out j y h1 hy
              · obtain rfl : j = k := by omega
                rw [HCL.out] at hy
                injection hy with hy
                rw [← hy]
                exact hok
            clear hok
            rintro e w2 ⟨rfl, b2⟩
            have bn := bW.trans (b2.mono bW.size)
            have hwn := hwW.keep b2 hwW.lt
            go_wp2_with fail
            go_roundw
            case rel => exact ⟨k + 1, by omega, by go_num, HN, bn, hwn⟩
            case measure => simp [intOf]; omega
        · obtain rfl : k = n := by omega
          have hall : ∀ cl ∈ h.cs, Hps.okCell h.cs cl = true := fun cl hcl => by
            obtain ⟨j, hj⟩ := List.mem_iff_getElem?.1 hcl
            exact HP.out j cl (by rw [← hlc]; exact (List.getElem?_eq_some_iff.1 hj).1) hj
          have HR := Lib.hid (show Hps.validH h = Hps.okRefs h.cs h.rt by rw [Hps.valid_all hall, hlc, hlr, decide_eq_true h40]; simp)
          have rr := (hs.roots.below bb).more bb.size
          clear hall
          go_wp2_with fail
          refine (hasTargets_any _ _ _ V h.rt _ rr hV (by omega)).mono ?_
          rintro e w2 ⟨rfl, rfl⟩
          go_wp2_with fail
          go_ret
          exact ⟨by rw [HR.out, ← HOR.out]; rfl, bb⟩
    · have h40' : (n : Int) ≤ 40 := by omega
      have h4' : ((m : Int) != 4) = true := by rw [bne_iff_ne]; omega
      have HR := Lib.hid (show Hps.validH h = false by
        cases hv : Hps.validH h
        · rfl
        · have := (Hps.valid_iff.1 hv).2.2.1
          omega)
      clear h4
      go_enter Tryd.func29, Tryd.ntmps29
      go_wp2_with fail
      go_ret
      exact ⟨by rw [HR.out]; rfl, b0⟩
  · have h40' : ¬ (n : Int) ≤ 40 := by omega
    have h40'' : (40 : Int) < n := by omega
    have HR := Lib.hid (show Hps.validH h = false by
      cases hv : Hps.validH h
      · rfl
      · have := (Hps.valid_iff.1 hv).2.1
        omega)
    go_enter Tryd.func29, Tryd.ntmps29
    go_wp2_with fail
    go_ret
    exact ⟨by rw [HR.out]; rfl, b0⟩
end Go.Proofs.YthmddmddcdofaaaDoor

namespace Go.Proofs.YthmddmddcdofaaaDoor
open Go.RowKit
/-- the table of math/bits lies as laid -/
def TzT (w : World) : Prop := 0 < w.heap.size ∧ ∀ i : Nat, i < 64 → w.cell? ⟨0, i, none⟩ = some (.int .u8 (Lib.deBruijn64tab.getD i 0 : Nat))
theorem TzT.below {w w' : World} (h : TzT w) (hb : Below w.heap.size w w') : TzT w' := ⟨Nat.lt_of_lt_of_le h.1 hb.size, fun i hi => (hb.cell (p := ⟨0, i, none⟩) h.1).trans (h.2 i hi)⟩
namespace Bm
theorem tz_key (x : Nat) (hx : x < 18446744073709551616) (hx0 : x ≠ 0) : ∃ idx : Nat, idx < 64 ∧ IntKind.u64.wrap (bits BinOp.and IntKind.u64 (x : Int) (IntKind.u64.wrap (-(x : Int))) * 285870213051353865) / 288230376151711744 = (idx : Int) ∧ Lib.deBruijn64tab.getD idx 0 = Lib.ctz 64 x ∧ Lib.ctz 64 x < 64 := by
  obtain ⟨hlow, hk⟩ := Lib.lowest_bit 64 x hx0 hx
  obtain ⟨hi, htab⟩ := Lib.deBruijn64_at _ hk
  refine ⟨_, hi, ?_, htab, hk⟩
  have e1 : IntKind.u64.wrap (-(x : Int)) = ((18446744073709551616 - x : Nat) : Int) := by rw [IntKind.wrap_u64]; omega
  have hl2 : x &&& (18446744073709551616 - x) = 2 ^ Lib.ctz 64 x := hlow
  rw [e1, u64_and_nat x _ hx (by omega), hl2, IntKind.wrap_u64]
  generalize 2 ^ Lib.ctz 64 x = a
  omega
end Bm
set_option maxHeartbeats 1000000 in
theorem tz64_any (x : Nat) (w : World) (hT : TzT w) (h0 : x ≠ 0) (h1 : x < 18446744073709551616) :
    Calls Tryd.prog 122 #[.int .u64 x] w fun e w' => e = .returned (.int .i64 (Lib.ctz 64 x)) ∧ w = w' := by
  obtain ⟨idx, hi, key, htab, hk⟩ := Bm.tz_key x h1 h0
  have hcell := hT.2 idx hi
  rw [htab] at hcell
  have hx0 : ((x : Int) == 0) = false := by rw [beq_eq_false_iff_ne]; omega
  obtain ⟨k, hkk⟩ : ∃ k, Lib.ctz 64 x = k := ⟨_, rfl⟩
  rw [hkk] at hcell hk ⊢
  clear htab hkk
  go_enter Tryd.func122, Tryd.ntmps122
  go_wp2_with (simp only [key])
  go_ret
  exact ⟨rfl, rfl⟩
end Go.Proofs.YthmddmddcdofaaaDoor

namespace Go.Proofs.YthmddmddcdofaaaDoor
open Go.RowKit
set_option maxRecDepth 100000
namespace Hps
/-- the numbers of the bits that are set, ascending -/
def numsB (V : Nat) : List Int := ((List.range 64).filter V.testBit).map fun (k : Nat) => (k : Int)
theorem filter_first {p : Nat → Bool} {k : Nat} (hp : p k = true) (hb : ∀ j, j < k → p j = false) : ∀ n, k < n → (List.range n).filter p = k :: (List.range n).filter (fun i => p i && decide (i ≠ k))
  | 0, h => by omega
  | n + 1, h => by
    have hnil : ∀ m, m ≤ k → ∀ q : Nat → Bool, (∀ j, j < k → q j = false) → (List.range m).filter q = [] := fun m hm q hq => by
      rw [List.filter_eq_nil_iff]
      intro a ha
      rw [hq a (by have := List.mem_range.1 ha; omega)]
      simp
    rw [List.range_succ, List.filter_append, List.filter_append]
    by_cases hk : k < n
    · rw [filter_first hp hb n hk]
      have e : (p n && decide (n ≠ k)) = p n := by rw [decide_eq_true (show n ≠ k by omega), Bool.and_true]
      rw [List.cons_append]
      congr 2
      rw [List.filter_cons, List.filter_cons, e, List.filter_nil, List.filter_nil]
    · obtain rfl : n = k := by omega
      rw [hnil n (Nat.le_refl _) p hb, hnil n (Nat.le_refl _) _ (fun j hj => by rw [hb j hj]; rfl)]
      simp [hp]
theorem clear_low {x : Nat} (h0 : x ≠ 0) (h : x < 18446744073709551616) (i : Nat) : (x &&& (x - 1)).testBit i = (x.testBit i && decide (i ≠ Lib.ctz 64 x)) := by
  obtain ⟨m, hm, hk⟩ := Lib.ctzFrom_spec 64 x (by omega) h
  have e : Lib.ctz 64 x = Lib.ctzFrom 64 x := by simp [Lib.ctz, h0]
  rw [e]
  obtain ⟨k, hkk⟩ : ∃ k, Lib.ctzFrom 64 x = k := ⟨_, rfl⟩
  rw [hkk] at hm ⊢
  have hp : 0 < 2 ^ k := Nat.two_pow_pos k
  have hx1 : x - 1 = (2 * m) * 2 ^ k + (2 ^ k - 1) := by
    have : 2 ^ k * (2 * m + 1) = (2 * m) * 2 ^ k + 2 ^ k := by rw [Nat.mul_add, Nat.mul_one, Nat.mul_comm]
    omega
  have hx : x = (2 * m + 1) * 2 ^ k := by rw [hm, Nat.mul_comm]
  have hdiv : (x - 1) / 2 ^ k = 2 * m := by
    rw [hx1, Nat.mul_comm, Nat.mul_add_div hp, Nat.div_eq_of_lt (show 2 ^ k - 1 < 2 ^ k by omega)]
    omega
  rw [Nat.testBit_and]
  rcases Nat.lt_trichotomy i k with h1 | h1 | h1
  · have : x.testBit i = false := by
      rw [hx, Nat.testBit_mul_two_pow]
      simp
      omega
    rw [this]
    rfl
  · subst h1
    have : (x - 1).testBit i = false := by
      rw [Nat.testBit, Nat.shiftRight_eq_div_pow, hdiv]
      simp
    rw [this]
    simp
  · have e1 : ∀ y, y.testBit i = (y / 2 ^ k).testBit (i - k) := fun y => by
      rw [← Nat.shiftRight_eq_div_pow, Nat.testBit_shiftRight]
      congr 1
      omega
    have e2 : x / 2 ^ k = 2 * m + 1 := by rw [hx, Nat.mul_div_cancel _ hp]
    obtain ⟨j, hj⟩ : ∃ j, i - k = j + 1 := ⟨i - k - 1, by omega⟩
    rw [e1 x, e1 (x - 1), hdiv, e2, hj, Nat.testBit_succ, Nat.testBit_succ, show (2 * m + 1) / 2 = m by omega, show 2 * m / 2 = m by omega, decide_eq_true (show i ≠ k by omega)]
    simp
theorem nums_zero : numsB 0 = [] := by simp [numsB]
theorem nums_next {x : Nat} (h0 : x ≠ 0) (h : x < 18446744073709551616) : numsB x = (Lib.ctz 64 x : Int) :: numsB (x &&& (x - 1)) := by
  obtain ⟨h1, h2⟩ := Bm.ctz_bit h0 h
  have h3 := (Lib.lowest_bit 64 x h0 h).2
  unfold numsB
  rw [filter_first h1 h2 64 h3, List.map_cons]
  congr 2
  exact List.filter_congr fun i _ => (clear_low h0 h i).symm
theorem nums_len (x : Nat) : (numsB x).length ≤ 64 := by
  unfold numsB
  rw [List.length_map]
  exact Nat.le_trans (List.length_filter_le _ _) (by simp)
end Hps
set_option maxHeartbeats 1000000 in
theorem numbers_any (S : Nat) (w : World) (hT : TzT w) (hS : S < 18446744073709551616) :
    Calls Tryd.prog 68 #[.int .u64 S] w (GaveI w (Hps.numsB S)) := by
  go_enter Tryd.func68, Tryd.ntmps68
  go_wp2_with fail
  go_loopw [3, 4] (fun xs rest wr => ∃ (ys : List Int) (V : Nat), rest = .int .u64 V ∧ V < 18446744073709551616 ∧ OwnI wr w.heap.size xs ys ∧ ys ++ Hps.numsB V = Hps.numsB S ∧ Below w.heap.size w wr) (fun _ rest _ => match rest with | .int _ V => V.toNat | _ => 0)
  case atStart => exact ⟨[], S, rfl, hS, World.ownsRow_nil _ _ _ _, rfl, Below.refl _ _⟩
  case round =>
    obtain ⟨ys, V, rfl, hV, ho, hnum, hb⟩ := hrel
    obtain ⟨A, c, rfl, -⟩ := ho.form
    by_cases h0 : V = 0
    · subst h0
      rw [Hps.nums_zero, List.append_nil] at hnum
      go_wp2_with fail
      go_ret
      exact ⟨_, rfl, OwnI.cast hnum ho, hb⟩
    · have hV0 : ((V : Int) == 0) = false := by rw [beq_eq_false_iff_ne]; omega
      have hlen : ys.length ≤ 64 := by
        have := congrArg List.length hnum
        rw [List.length_append] at this
        have := Hps.nums_len S
        omega
      have hand : bits .and .u64 (V : Int) ((V : Int) - 1) = ((V &&& (V - 1) : Nat) : Int) := by
        rw [show (V : Int) - 1 = ((V - 1 : Nat) : Int) by omega]
        exact u64_and_nat _ _ hV (by omega)
      have hle : V &&& (V - 1) ≤ V - 1 := Nat.and_le_right
      have HN := Lib.hid (show (ys ++ [(Lib.ctz 64 V : Int)]) ++ Hps.numsB (V &&& (V - 1)) = Hps.numsB S by rw [← hnum, Hps.nums_next h0 hV]; simp)
      obtain ⟨kk, hkk⟩ : ∃ kk, Lib.ctz 64 V = kk := ⟨_, rfl⟩
      have TZ := tz64_any V wr (hT.below hb) h0 hV
      rw [hkk] at TZ HN
      clear hnum hkk
      go_wp2_with fail
      refine TZ.mono ?_
      rintro e w1 ⟨rfl, rfl⟩
      have ow := World.ownsRow.alloc ho (.cells #[.int .i64 kk] 3)
      have rr : IS (wr.alloc (.cells #[.int .i64 kk] 3)) (wr.alloc (.cells #[.int .i64 kk] 3)).heap.size (some ⟨wr.heap.size, 0, none⟩) 1 [(kk : Int)] := (own_oneI wr kk 0 (Nat.zero_le _)).reads
      have hsz := hb.size
      have hw1 : w.heap.size ≤ (wr.alloc (.cells #[.int .i64 kk] 3)).heap.size := by simp; omega
      clear TZ
      go_wp2_with (at_builtin; refine wpList_appendI rfl (.tmp 12) (.tmp 15) rfl w.heap.size _ ys rfl ow (some ⟨wr.heap.size, 0, none⟩) 1 1 _ [(kk : Int)] rfl rr (by simp; omega) hw1 ?_; intro v5 w5 o5 g5 s5)
      have bn : Below w.heap.size w w5 := (hb.alloc hb.size _).grown g5 (by simp; omega) (fun k hk => (World.ownsRow.lt ho k hk).1)
      clear ow rr g5 s5 ho
      go_roundw
      case rel => exact ⟨ys ++ [(kk : Int)], V &&& (V - 1), rfl, by omega, o5, HN.out, bn⟩
      case measure => simp; omega
end Go.Proofs.YthmddmddcdofaaaDoor

namespace Go.Proofs.YthmddmddcdofaaaDoor
namespace Hps
/-- the numbers of the cells that are not used, among the first n -/
def gapsTo (cs : List Cl) : Nat → List Int
  | 0 => []
  | n + 1 => gapsTo cs n ++ (if usedAt cs n = true then [] else [(n : Int)])
def gapsL (cs : List Cl) : List Int := gapsTo cs cs.length
theorem gapsTo_len (cs : List Cl) : ∀ n, (gapsTo cs n).length ≤ n
  | 0 => Nat.le_refl _
  | n + 1 => by
    have := gapsTo_len cs n
    rw [gapsTo, List.length_append]
    split <;> simp <;> omega
def lostW (cs : List Cl) (marks : List Bool) : Nat := usedW cs &&& (18446744073709551615 - Bm.wordN marks true)
theorem lostW_lt {cs : List Cl} (marks : List Bool) (h : cs.length ≤ 64) : lostW cs marks < 18446744073709551616 := Nat.lt_of_le_of_lt Nat.and_le_left (usedW_lt h)
theorem lostW_bit {cs : List Cl} {marks : List Bool} (hl : marks.length = cs.length) (h64 : cs.length ≤ 64) (i : Nat) : (lostW cs marks).testBit i = (usedAt cs i && decide (marks[i]? = some false)) := by
  have hM : Bm.wordN marks true < 18446744073709551616 := Bm.wordN_lt _ _ (by omega)
  rw [lostW, Nat.testBit_and, usedW_bit, show 18446744073709551615 - Bm.wordN marks true = 2 ^ 64 - (Bm.wordN marks true + 1) by omega, Nat.testBit_two_pow_sub_succ (by omega), Bm.wordN_bit]
  rcases Nat.lt_or_ge i cs.length with hi | hi
  · have hm := List.getElem?_eq_getElem (show i < marks.length by omega)
    rw [hm, decide_eq_true (show i < 64 by omega)]
    cases marks[i] <;> simp
  · have : usedAt cs i = false := by
      unfold usedAt
      rw [List.getElem?_eq_none hi]
    rw [this, Bool.false_and, Bool.false_and]
theorem mem_nums {V : Nat} {x : Int} : x ∈ numsB V ↔ ∃ k : Nat, x = k ∧ k < 64 ∧ V.testBit k = true := by
  unfold numsB
  simp only [List.mem_map, List.mem_filter, List.mem_range]
  constructor
  · rintro ⟨k, ⟨h1, h2⟩, rfl⟩
    exact ⟨k, rfl, h1, h2⟩
  · rintro ⟨k, rfl, h1, h2⟩
    exact ⟨k, ⟨h1, h2⟩, rfl⟩
/-- freeing what is used and not marked frees what is not marked -/
theorem zap_lost {cs : List Cl} {marks : List Bool} (hl : marks.length = cs.length) (h64 : cs.length ≤ 64) (hz : ∀ c ∈ cs, c.u = false → c = zeroCl) : zapL cs (numsB (lostW cs marks)) = dropL cs (marks.map (!·)) := by
  apply List.ext_getElem?
  intro k
  rw [zapL_at _ _ fun x hx => by obtain ⟨j, h1, _⟩ := mem_nums.1 hx; omega]
  rcases Nat.lt_or_ge k cs.length with hk | hk
  · have hc := List.getElem?_eq_getElem hk
    rw [dropL_at _ _ _ _ hc, hc]
    by_cases q : marks[k]? = some false
    · rw [if_pos (not_at.2 q)]
      by_cases u : usedAt cs k = true
      · rw [if_pos (mem_nums.2 ⟨k, rfl, by omega, by rw [lostW_bit hl h64, u, decide_eq_true q]; rfl⟩)]
        rfl
      · rw [if_neg fun e => by
          obtain ⟨j, e1, _, e2⟩ := mem_nums.1 e
          obtain rfl : k = j := by omega
          rw [lostW_bit hl h64, Bool.and_eq_true] at e2
          exact u e2.1]
        rw [hz cs[k] (List.getElem_mem hk) (by
          rw [usedAt, hc] at u
          simpa using u)]
    · rw [if_neg (fun e => q (not_at.1 e)), if_neg fun e => by
        obtain ⟨j, e1, _, e2⟩ := mem_nums.1 e
        obtain rfl : k = j := by omega
        rw [lostW_bit hl h64, Bool.and_eq_true, decide_eq_true_eq] at e2
        exact q e2.2]
  · rw [List.getElem?_eq_none hk, List.getElem?_eq_none (by rw [dropL_len]; exact hk)]
    split <;> rfl
theorem pcN_succ (V k : Nat) : pcN V (k + 1) = pcN V k + (if V.testBit k = true then 1 else 0) := by
  unfold pcN
  rw [List.range_succ, List.countP_append, List.countP_singleton]
/-- how many are lost -/
theorem pc_lost {cs : List Cl} {marks : List Bool} (hl : marks.length = cs.length) (h64 : cs.length ≤ 64) : pcN (lostW cs marks) 64 = freedTo cs marks marks.length := by
  have h1 : ∀ n, pcN (lostW cs marks) n = freedTo cs marks n := by
    intro n
    induction n with
    | zero => rfl
    | succ n ih =>
      rw [pcN_succ, ih, freedTo, lostW_bit hl h64]
      congr 1
      by_cases a : usedAt cs n = true <;> by_cases b : marks[n]? = some false <;> simp [a, b]
  have h2 : ∀ d, freedTo cs marks (marks.length + d) = freedTo cs marks marks.length := by
    intro d
    induction d with
    | zero => rfl
    | succ d ih =>
      rw [← Nat.add_assoc, freedTo, ih, if_neg, Nat.add_zero]
      rw [List.getElem?_eq_none (by omega)]
      simp
  rw [h1, show 64 = marks.length + (64 - marks.length) by omega, h2]
theorem valid_zero {h : Hp} (hv : validH h = true) : ∀ c ∈ h.cs, c.u = false → c = zeroCl := fun c hc hu => by
  have h1 := (okCell_iff.1 ((valid_iff.1 hv).1 c hc)).1
  rw [hu] at h1
  obtain ⟨u, d, r⟩ := c
  rcases h1 with h1 | ⟨h1, h2⟩
  · cases h1
  · simp only at hu h1 h2
    rw [hu, h1, h2, zeroCl]
/-! marks that keep what is referred to -/
section
variable {h : Hp} {marks : List Bool}
theorem keep_ref (hl : marks.length = h.cs.length) {x : Int} (hx : okRef h.cs x = true) : okV (Bm.wordN marks true) x = okRef (dropL h.cs (marks.map (!·))) x := by
  rw [Bool.eq_iff_iff, okRef_iff]
  unfold okV hasB
  rw [Bool.or_eq_true, beq_iff_eq, Bool.and_eq_true, decide_eq_true_eq, Bm.wordN_bit, decide_eq_true_eq, drop_used hl]
  rcases okRef_iff.1 hx with e | ⟨e1, e2⟩
  · simp [e]
  · simp [e2]
theorem keep_refs (hl : marks.length = h.cs.length) {rs : List Int} (hx : okRefs h.cs rs = true) : okVs (Bm.wordN marks true) rs = okRefs (dropL h.cs (marks.map (!·))) rs := by
  rw [Bool.eq_iff_iff, okVs_iff, okRefs_iff]
  constructor
  · intro H n hn
    rw [← keep_ref hl (okRefs_iff.1 hx n hn)]
    exact H n hn
  · intro H n hn
    rw [keep_ref hl (okRefs_iff.1 hx n hn)]
    exact H n hn
theorem cell_refs (hv : validH h = true) {k : Nat} {c : Cl} (hc : h.cs[k]? = some c) : okRefs h.cs c.r = true := (okCell_iff.1 (valid_cell hv hc)).2.2.2
theorem keep_no_root (hv : validH h = true) (hl : marks.length = h.cs.length) (e : okVs (Bm.wordN marks true) h.rt = false) : validH (dropH h (marks.map (!·))) = false := by
  rw [keep_refs hl (valid_iff.1 hv).2.2.2] at e
  cases hx : validH (dropH h (marks.map (!·)))
  · rfl
  · have := (valid_iff.1 hx).2.2.2
    rw [show (dropH h (marks.map (!·))).cs = dropL h.cs (marks.map (!·)) from rfl, show (dropH h (marks.map (!·))).rt = h.rt from rfl, e] at this
    cases this
theorem keep_no_cell (hv : validH h = true) (hl : marks.length = h.cs.length) {k : Nat} {c : Cl} (hc : h.cs[k]? = some c) (hm : (Bm.wordN marks true).testBit k = true) (e : okVs (Bm.wordN marks true) c.r = false) : validH (dropH h (marks.map (!·))) = false := by
  rw [keep_refs hl (cell_refs hv hc)] at e
  rw [Bm.wordN_bit, decide_eq_true_eq] at hm
  cases hx : validH (dropH h (marks.map (!·)))
  · rfl
  · have h1 : (dropH h (marks.map (!·))).cs[k]? = some c := (drop_stays (fun q => by rw [not_at.1 q] at hm; cases hm)).trans hc
    have := cell_refs hx h1
    rw [show (dropH h (marks.map (!·))).cs = dropL h.cs (marks.map (!·)) from rfl, e] at this
    cases this
theorem keep_all (hv : validH h = true) (hl : marks.length = h.cs.length) (hr : okVs (Bm.wordN marks true) h.rt = true) (hc : ∀ (k : Nat) (c : Cl), h.cs[k]? = some c → (Bm.wordN marks true).testBit k = true → okVs (Bm.wordN marks true) c.r = true) : validH (dropH h (marks.map (!·))) = true := by
  obtain ⟨h1, h2, h3, h4⟩ := valid_iff.1 hv
  refine valid_iff.2 ⟨fun c hcm => ?_, by rw [drop_len]; exact h2, h3, ?_⟩
  · obtain ⟨k, hk⟩ := List.mem_iff_getElem?.1 hcm
    rcases drop_cases hk with ⟨d1, d2⟩ | ⟨_, rfl⟩
    · obtain ⟨c1, c2, c3, c4⟩ := okCell_iff.1 (valid_cell hv d2)
      have hkl := (List.getElem?_eq_some_iff.1 d2).1
      refine okCell_iff.2 ⟨c1, c2, c3, ?_⟩
      show okRefs (dropL h.cs (marks.map (!·))) c.r = true
      rw [← keep_refs hl c4]
      refine hc k c d2 ?_
      rw [Bm.wordN_bit, decide_eq_true_eq]
      have hm := List.getElem?_eq_getElem (show k < marks.length by omega)
      rw [hm]
      cases hb : marks[k]
      · exact absurd (not_at.2 (by rw [hm, hb])) d1
      · rfl
    · simp [okCell, zeroCl, okRefs]
  · show okRefs (dropL h.cs (marks.map (!·))) h.rt = true
    rw [← keep_refs hl h4]
    exact hr
end
/-! steps with a list of free cells -/
end Hps
end Go.Proofs.YthmddmddcdofaaaDoor

namespace Go.Proofs.YthmddmddcdofaaaDoor
open Go.RowKit
set_option maxRecDepth 100000
/-- the value v owns the numbers xs: a row that begins somewhere in a block, from block 'base' on -/
def OwnQ (w : World) (base : Nat) (v : Value) (xs : List Int) : Prop :=
  (v = .slice none 0 0 ∧ xs = []) ∨ ∃ g o cap cur, v = .slice (some ⟨g, o, none⟩) xs.length cap ∧ base ≤ g ∧ w.heap[g]? = some (.cells cur 3 (0, 0)) ∧ xs.length ≤ cap ∧ o + cap ≤ cur.size ∧ cap ≤ 9223372036854775807 ∧ ∀ (k : Nat) (u : Int), xs[k]? = some u → cur[o + k]? = some (.int .i64 u)
section
variable {w w' : World} {bs bs' B : Nat} {v : Value} {xs ys : List Int}
theorem OwnI.queue (h : OwnI w bs v xs) : OwnQ w bs v xs := by
  rcases h.2 with ⟨rfl, h0⟩ | ⟨g, cap, cur, rfl, hb, hh, hnc, hcap, hsz, hx⟩
  · exact .inl ⟨rfl, List.eq_nil_of_length_eq_zero h0⟩
  · refine .inr ⟨g, 0, cap, cur, rfl, hb, hh, hnc, by omega, by unfold maxLen at hcap; omega, fun k u hk => ?_⟩
    have h1 : (xs.map (Value.int .i64))[k]? = some (.int .i64 u) := by rw [List.getElem?_map, hk]; rfl
    rw [← hx, List.getElem?_take] at h1
    split at h1
    · rw [Nat.zero_add]; simpa using h1
    · cases h1
theorem OwnQ.lt (h : OwnQ w bs v xs) : ∀ k, v.ownBlock = some k → bs ≤ k ∧ k < w.heap.size := by
  intro k hk
  rcases h with ⟨rfl, _⟩ | ⟨g, o, cap, cur, rfl, hb, hh, _⟩
  · cases hk
  · obtain rfl : g = k := Option.some.inj hk
    exact ⟨hb, (Array.getElem?_eq_some_iff.1 hh).1⟩
theorem OwnQ.kept {row : Option Nat} (h : OwnQ w bs v xs) (hg : w.grownBy w' row) (hne : v.ownBlock = none ∨ v.ownBlock ≠ row) : OwnQ w' bs v xs := by
  rcases h with h0 | ⟨g, o, cap, cur, rfl, hb, hh, hr⟩
  · exact .inl h0
  · refine .inr ⟨g, o, cap, cur, rfl, hb, (hg.block g (Array.getElem?_eq_some_iff.1 hh).1 fun e => ?_).trans hh, hr⟩
    rcases hne with h1 | h1
    · cases h1
    · exact h1 e
theorem OwnQ.below (h : OwnQ w bs v xs) (hb : Below B w w') (hB : w.heap.size ≤ B) : OwnQ w' bs v xs := by
  rcases h with h0 | ⟨g, o, cap, cur, e, hb', hh, hr⟩
  · exact .inl h0
  · exact .inr ⟨g, o, cap, cur, e, hb', (hb.block g (Nat.lt_of_lt_of_le (Array.getElem?_eq_some_iff.1 hh).1 hB)).trans hh, hr⟩
theorem OwnQ.base (h : OwnQ w bs v xs) (hb : bs' ≤ bs) : OwnQ w bs' v xs := by
  rcases h with h0 | ⟨g, o, cap, cur, e, hb', hr⟩
  · exact .inl h0
  · exact .inr ⟨g, o, cap, cur, e, by omega, hr⟩
theorem OwnQ.form (h : OwnQ w bs v xs) : ∃ A c, v = .slice A xs.length c := by
  rcases h with ⟨rfl, rfl⟩ | ⟨g, o, cap, cur, rfl, _⟩
  · exact ⟨none, 0, rfl⟩
  · exact ⟨_, _, rfl⟩
end
end Go.Proofs.YthmddmddcdofaaaDoor

namespace Go.Proofs.YthmddmddcdofaaaDoor
open Go.RowKit
set_option maxRecDepth 100000
/-- what lies beside a heap in its box: nothing, or a row of numbers of the call's own, and blocks that stay as they are -/
abbrev Beside := Option (Value × List Int × List (Nat × TypeId × Array Value))
def Beside.cells (K : Beside) (vc vr : Value) : Array Value := match K with
  | none => #[vc, vr]
  | some p => #[vc, vr, p.1]
/-- a block is one of those -/
def Beside.Has (K : Beside) (g : Nat) : Prop := ∃ p, K = some p ∧ (p.1.ownBlock = some g ∨ ∃ e ∈ p.2.2, e.1 = g)
structure Beside.Ok (K : Beside) (w0 wr : World) (b : Nat) (vs : List Value) : Prop where
  row : ∀ p, K = some p → OwnQ wr w0.heap.size p.1 p.2.1
  kept : ∀ p, K = some p → ∀ e ∈ p.2.2, Rw wr e.1 e.2.1 e.2.2 ∧ p.1.ownBlock ≠ some e.1
  apart : ∀ g, K.Has g → g ≠ b ∧ ∀ v ∈ vs, v.ownBlock ≠ some g
theorem Beside.ok_none (w0 wr : World) (b : Nat) (vs : List Value) : Beside.Ok none w0 wr b vs := ⟨fun _ e => (nomatch e), fun _ e => (nomatch e), fun _ ⟨_, e, _⟩ => (nomatch e)⟩
/-- a heap of the call's own in the box b, a block of type T -/
structure BoxX (T : TypeId) (K : Beside) (w0 wr : World) (b : Nat) (vc vr : Value) (rvs : List Value) (h : Hp) : Prop where
  own : OwnHx wr w0.heap.size vc vr rvs h
  apart : Apart (some b) (vc :: vr :: rvs)
  box : Rw wr b T (K.cells vc vr)
  low : Below w0.heap.size w0 wr
  lo : w0.heap.size ≤ b
  side : K.Ok w0 wr b (vc :: vr :: rvs)
section
variable {T : TypeId} {K : Beside} {w0 wr w1 : World} {b g c d i k : Nat} {vc vr : Value} {rvs : List Value} {h : Hp} {cl : Cl}
theorem Beside.Ok.lt {vs : List Value} (S : K.Ok w0 wr b vs) (hg : K.Has g) : g < wr.heap.size := by
  obtain ⟨p, e, h1 | ⟨x, hx, rfl⟩⟩ := hg
  · exact ((S.row p e).lt g h1).2
  · exact (S.kept p e x hx).1.lt
theorem Beside.Ok.up {vs : List Value} (S : K.Ok w0 wr b vs) (hw : Below wr.heap.size wr w1) : K.Ok w0 w1 b vs :=
  ⟨fun p e => (S.row p e).below hw (Nat.le_refl _), fun p e x hx => ⟨(S.kept p e x hx).1.keep hw (S.kept p e x hx).1.lt, (S.kept p e x hx).2⟩, S.apart⟩
theorem Beside.Ok.far {vs : List Value} {row : Option Nat} (S : K.Ok w0 wr b vs) (hG : wr.grownBy w1 row) (hne : ∀ g, K.Has g → row ≠ some g) : K.Ok w0 w1 b vs :=
  ⟨fun p e => (S.row p e).kept hG (by
      cases e1 : p.1.ownBlock with
      | none => exact .inl rfl
      | some g => exact .inr fun e2 => hne g ⟨p, e, .inl e1⟩ e2.symm),
    fun p e x hx => ⟨Rw.far (S.kept p e x hx).1 hG (fun e2 => hne x.1 ⟨p, e, .inr ⟨x, hx, rfl⟩⟩ e2.symm), (S.kept p e x hx).2⟩, S.apart⟩
theorem Beside.Ok.rows {vs vs' : List Value} (S : K.Ok w0 wr b vs) (hs : ∀ v ∈ vs', v ∈ vs ∨ ∀ g, K.Has g → v.ownBlock ≠ some g) : K.Ok w0 wr b vs' :=
  ⟨S.row, S.kept, fun g hg => ⟨(S.apart g hg).1, fun v hv => by
    rcases hs v hv with h1 | h1
    · exact (S.apart g hg).2 v h1
    · exact h1 g hg⟩⟩
theorem BoxSt.toX (S : BoxSt w0 wr b vc vr rvs h) : BoxX 26 none w0 wr b vc vr rvs h := ⟨S.own, S.apart, S.box, S.low, S.lo, Beside.ok_none _ _ _ _⟩
theorem BoxX.toSt (S : BoxX 26 none w0 wr b vc vr rvs h) : BoxSt w0 wr b vc vr rvs h := ⟨S.own, S.apart, S.box, S.low, S.lo⟩
theorem BoxX.c0 (S : BoxX T K w0 wr b vc vr rvs h) : wr.cell? ⟨b, 0, none⟩ = some vc := (S.box.cell 0).trans (by cases K <;> rfl)
theorem BoxX.c1 (S : BoxX T K w0 wr b vc vr rvs h) : wr.cell? ⟨b, 1, none⟩ = some vr := (S.box.cell 1).trans (by cases K <;> rfl)
theorem BoxX.up (S : BoxX T K w0 wr b vc vr rvs h) (hw : Below wr.heap.size wr w1) : BoxX T K w0 w1 b vc vr rvs h :=
  ⟨S.own.below hw (Nat.le_refl _), S.apart, S.box.keep hw S.box.lt, S.low.trans (hw.mono S.low.size), S.lo, S.side.up hw⟩
theorem BoxX.drew (S : BoxX T K w0 wr b vc vr rvs h) : BoxX T K w0 wr.drew b vc vr rvs h := S.up (Below.refl _ _).drew
theorem BoxX.form (S : BoxX T K w0 wr b vc vr rvs h) (hl : 0 < h.rt.length) : ∃ A c gr d, vc = .slice A h.cs.length c ∧ vr = .slice (some ⟨gr, 0, none⟩) h.rt.length d ∧ (0 < h.cs.length → ∃ g, A = some ⟨g, 0, none⟩) := by
  obtain ⟨A, c, R, d, e1, e2, _, _, fA, fR⟩ := S.own.form
  obtain ⟨gr, rfl, _, _⟩ := fR hl
  exact ⟨A, c, gr, d, e1, e2, fun h => by obtain ⟨g, e, _⟩ := fA h; exact ⟨g, e⟩⟩
theorem BoxSt.form (S : BoxSt w0 wr b vc vr rvs h) (hl : 0 < h.rt.length) : ∃ A c gr d, vc = .slice A h.cs.length c ∧ vr = .slice (some ⟨gr, 0, none⟩) h.rt.length d ∧ (0 < h.cs.length → ∃ g, A = some ⟨g, 0, none⟩) := S.toX.form hl
/-- a block of the heap is none of those beside it, nor the box -/
theorem BoxX.beside (S : BoxX T K w0 wr b vc vr rvs h) {v : Value} (hv : v ∈ vc :: vr :: rvs) (hg : v.ownBlock = some g) (g' : Nat) (hk : K.Has g') : some g ≠ some g' := fun e => (S.side.apart g' hk).2 v hv (hg.trans e)
theorem BoxX.boxNe (S : BoxX T K w0 wr b vc vr rvs h) {v : Value} (hv : v ∈ vc :: vr :: rvs) (hg : v.ownBlock = some g) : b ≠ g := by
  rcases S.apart v hv with e | e
  · rw [hg] at e; cases e
  · intro e'; rw [hg] at e; exact e (by rw [e'])
theorem BoxX.into (S : BoxX T K w0 wr b vc vr rvs h) {v : Value} (hv : v ∈ vc :: vr :: rvs) (hg : v.ownBlock = some g) {h' : Hp} (u : Value)
    (ho : OwnHx (wr.setCell ⟨g, i, none⟩ u) w0.heap.size vc vr rvs h') : BoxX T K w0 (wr.setCell ⟨g, i, none⟩ u) b vc vr rvs h' := by
  have h1 := S.own.blocks hv hg
  exact ⟨ho, S.apart, S.box.other (S.boxNe hv hg) u, S.low.setCell (p := ⟨g, i, none⟩) (by show w0.heap.size ≤ g; omega) u, S.lo, S.side.far (put_any wr g i u) (S.beside hv hg)⟩
theorem BoxX.root {m : Nat} (S : BoxX T K w0 wr b vc (.slice (some ⟨g, 0, none⟩) m d) rvs h) (hm : h.rt.length = m) (x : Int) : BoxX T K w0 (wr.setCell ⟨g, i, none⟩ (.int .i64 x)) b vc (.slice (some ⟨g, 0, none⟩) m d) rvs ⟨h.cs, h.rt.set i x⟩ := by
  subst hm
  exact S.into (v := .slice (some ⟨g, 0, none⟩) h.rt.length d) (by simp) rfl _ (S.own.root x)
theorem BoxX.data {n : Nat} (S : BoxX T K w0 wr b (.slice (some ⟨g, 0, none⟩) n d) vr rvs h) (hn : h.cs.length = n) (hc : h.cs[k]? = some cl) (x : Int) : BoxX T K w0 (wr.setCell ⟨g, k * 3 + 1, none⟩ (.int .i64 x)) b (.slice (some ⟨g, 0, none⟩) n d) vr rvs ⟨h.cs.set k ⟨cl.u, x, cl.r⟩, h.rt⟩ := by
  subst hn
  exact S.into (v := .slice (some ⟨g, 0, none⟩) h.cs.length d) (by simp) rfl _ (S.own.data hc x)
theorem BoxX.ref1 {m : Nat} (S : BoxX T K w0 wr b vc vr rvs h) (hc : h.cs[k]? = some cl) (hv : rvs[k]? = some (.slice (some ⟨g, 0, none⟩) m d)) (hm : cl.r.length = m) (x : Int) : BoxX T K w0 (wr.setCell ⟨g, i, none⟩ (.int .i64 x)) b vc vr rvs ⟨h.cs.set k ⟨cl.u, cl.d, cl.r.set i x⟩, h.rt⟩ := by
  subst hm
  exact S.into (v := .slice (some ⟨g, 0, none⟩) cl.r.length d) (by simp [List.mem_of_getElem? hv]) rfl _ (S.own.ref1 hc hv x)
theorem BoxX.snoc {v9 v8 : Value} (S : BoxX T K w0 wr b vc vr rvs h) (hG : wr.grownBy w1 vc.ownBlock)
    (o9 : w1.ownsRow w0.heap.size 40 3 v9 (h.cs.length + 1) (flatC h.cs rvs ++ [.bool cl.u, .int .i64 cl.d, v8])) (q : v9.ownBlock = vc.ownBlock ∨ v9.ownBlock = some wr.heap.size)
    (o8 : OwnI wr w0.heap.size v8 cl.r) (hap : ∀ v ∈ vc :: vr :: rvs, v8.ownBlock = none ∨ v8.ownBlock ≠ v.ownBlock) (h8b : v8.ownBlock ≠ some b) (h8k : ∀ g, K.Has g → v8.ownBlock ≠ some g) :
    BoxX T K w0 (w1.setCell ⟨b, 0, none⟩ v9) b v9 vr (rvs ++ [v8]) ⟨h.cs ++ [cl], h.rt⟩ := by
  have hn := S.own.snoc hG o9 q o8 hap
  have hlo := S.lo
  have hbl := S.box.lt
  have hvcb : some b ≠ vc.ownBlock := by
    rcases S.apart vc (by simp) with e | e
    · rw [e]; simp
    · exact fun h => e h.symm
  have ap : Apart (some b) (v9 :: vr :: (rvs ++ [v8])) := by
    intro v hv
    simp only [List.mem_cons, List.mem_append, List.not_mem_nil, or_false] at hv
    rcases hv with rfl | rfl | hv | rfl
    · right
      rcases q with e | e
      · rw [e]; exact fun h => hvcb h.symm
      · rw [e]; intro e'; injection e' with e'; omega
    · exact S.apart v (by simp)
    · exact S.apart v (by simp [hv])
    · exact .inr h8b
  have sd : K.Ok w0 wr b (v9 :: vr :: (rvs ++ [v8])) := S.side.rows fun v hv => by
    simp only [List.mem_cons, List.mem_append, List.not_mem_nil, or_false] at hv
    rcases hv with rfl | rfl | hv | rfl
    · right
      intro g hg
      rcases q with e9 | e9
      · rw [e9]
        exact (S.side.apart g hg).2 vc (by simp)
      · rw [e9]
        intro e'
        injection e' with e'
        have := S.side.lt hg
        omega
    · exact .inl (by simp)
    · exact .inl (by simp [hv])
    · exact .inr h8k
  refine ⟨hn.far (put_any w1 b 0 v9) ap, ap, ?_, ?_, hlo, (sd.far hG fun g hg => (S.side.apart g hg).2 vc (by simp)).far (put_any w1 b 0 v9) fun g hg e => (S.side.apart g hg).1 (Option.some.inj e).symm⟩
  · have := (Rw.far S.box hG hvcb).put 0 v9
    cases K with
    | none => exact this
    | some p => exact this
  · exact (S.low.grown hG S.low.size (fun kk hk => (S.own.blocks (v := vc) (by simp) hk).1)).setCell (p := ⟨b, 0, none⟩) (by show w0.heap.size ≤ b; omega) _
theorem BoxX.cell {n : Nat} {rv : Value} {old : Cl} (S : BoxX T K w0 wr b (.slice (some ⟨g, 0, none⟩) n c) vr rvs h) (hn : h.cs.length = n) (hc : h.cs[k]? = some old) (o : OwnI wr w0.heap.size rv cl.r) (hap : ∀ v ∈ (Value.slice (some ⟨g, 0, none⟩) n c) :: vr :: rvs, rv.ownBlock = none ∨ rv.ownBlock ≠ v.ownBlock) (h8b : rv.ownBlock = none ∨ rv.ownBlock ≠ some b) (h8k : ∀ g, K.Has g → rv.ownBlock ≠ some g) :
    BoxX T K w0 (((wr.setCell ⟨g, k * 3, none⟩ (.bool cl.u)).setCell ⟨g, k * 3 + 1, none⟩ (.int .i64 cl.d)).setCell ⟨g, k * 3 + 2, none⟩ rv) b (.slice (some ⟨g, 0, none⟩) n c) vr (rvs.set k rv) ⟨h.cs.set k cl, h.rt⟩ := by
  subst hn
  have hm : (Value.slice (some ⟨g, 0, none⟩) h.cs.length c) ∈ (Value.slice (some ⟨g, 0, none⟩) h.cs.length c) :: vr :: rvs := by simp
  have h1 : w0.heap.size ≤ g ∧ g < wr.heap.size := S.own.blocks hm rfl
  have h2 : b ≠ g := S.boxNe hm rfl
  have sn := S.beside hm rfl
  refine ⟨S.own.cell hc o hap, ?_, ((S.box.other h2 _).other h2 _).other h2 _, ?_, S.lo, (((S.side.far (put_any wr g _ _) sn).far (put_any _ g _ _) sn).far (put_any _ g _ _) sn).rows fun x hx => ?_⟩
  · intro x hx
    simp only [List.mem_cons] at hx
    rcases hx with rfl | rfl | hx
    · exact S.apart _ (by simp)
    · exact S.apart x (by simp)
    · rcases List.mem_or_eq_of_mem_set hx with hx | rfl
      · exact S.apart x (by simp [hx])
      · exact h8b
  · exact ((S.low.setCell (p := ⟨g, k * 3, none⟩) (by show w0.heap.size ≤ g; omega) _).setCell (p := ⟨g, k * 3 + 1, none⟩) (by show w0.heap.size ≤ g; omega) _).setCell (p := ⟨g, k * 3 + 2, none⟩) (by show w0.heap.size ≤ g; omega) _
  · simp only [List.mem_cons] at hx
    rcases hx with rfl | rfl | hx
    · exact .inl (by simp)
    · exact .inl (by simp)
    · rcases List.mem_or_eq_of_mem_set hx with hx | rfl
      · exact .inl (by simp [hx])
      · exact .inr h8k
/-- another row beside the heap -/
theorem BoxX.beside3 {v : Value} {xs fs : List Int} {ve : Value} {E : List (Nat × TypeId × Array Value)} (S : BoxX T (some (ve, fs, E)) w0 wr b vc vr rvs h) (hq : OwnQ wr w0.heap.size v xs) (ha : ∀ u ∈ vc :: vr :: rvs, u.ownBlock = none ∨ u.ownBlock ≠ v.ownBlock) (hb : v.ownBlock ≠ some b) (hE : ∀ e ∈ E, v.ownBlock ≠ some e.1) : BoxX T (some (v, xs, E)) w0 (wr.setCell ⟨b, 2, none⟩ v) b vc vr rvs h := by
  have hk : ∀ e ∈ E, e.1 ≠ b ∧ ∀ u ∈ vc :: vr :: rvs, u.ownBlock ≠ some e.1 := fun e he => S.side.apart e.1 ⟨_, rfl, .inr ⟨e, he, rfl⟩⟩
  refine ⟨S.own.far (put_any wr b 2 v) S.apart, S.apart, S.box.put 2 v, S.low.setCell (p := ⟨b, 2, none⟩) S.lo _, S.lo, ⟨fun p e => ?_, fun p e x hx => ?_, fun g' hg => ?_⟩⟩
  · cases e
    exact hq.kept (put_any wr b 2 v) (.inr hb)
  · cases e
    exact ⟨Rw.far (S.side.kept _ rfl x hx).1 (put_any wr b 2 v) (fun e => (hk x hx).1 (Option.some.inj e)), hE x hx⟩
  · obtain ⟨p, e, h1 | ⟨x, hx, rfl⟩⟩ := hg
    · cases e
      simp only at h1
      refine ⟨fun e => hb (by rw [h1, e]), fun u hu e => ?_⟩
      rcases ha u hu with h2 | h2
      · rw [e] at h2; cases h2
      · exact h2 (by rw [e, h1])
    · cases e
      exact hk x hx
/-- a further block that stays -/
theorem BoxX.more {ve : Value} {fs : List Int} {E : List (Nat × TypeId × Array Value)} {t : TypeId} {cs : Array Value} (S : BoxX T (some (ve, fs, E)) w0 wr b vc vr rvs h) (hr : Rw wr g t cs) (hb : g ≠ b) (hv : ∀ u ∈ vc :: vr :: rvs, u.ownBlock ≠ some g) (he : ve.ownBlock ≠ some g) : BoxX T (some (ve, fs, (g, t, cs) :: E)) w0 wr b vc vr rvs h := by
  refine ⟨S.own, S.apart, S.box, S.low, S.lo, ⟨fun p e => ?_, fun p e x hx => ?_, fun g' hg => ?_⟩⟩
  · cases e
    exact S.side.row (ve, fs, E) rfl
  · cases e
    rcases List.mem_cons.1 hx with rfl | hx
    · exact ⟨hr, he⟩
    · exact S.side.kept _ rfl x hx
  · obtain ⟨p, e, h1 | ⟨x, hx, rfl⟩⟩ := hg
    · cases e
      exact S.side.apart g' ⟨_, rfl, .inl h1⟩
    · cases e
      rcases List.mem_cons.1 hx with rfl | hx
      · exact ⟨hb, hv⟩
      · exact S.side.apart _ ⟨_, rfl, .inr ⟨x, hx, rfl⟩⟩
theorem BoxX.ownH (S : BoxX T K w0 wr b vc vr rvs h) : OwnH wr w0.heap.size vc vr h := ⟨rvs, S.own⟩
end
end Go.Proofs.YthmddmddcdofaaaDoor

namespace Go.Proofs.YthmddmddcdofaaaDoor
open Go.RowKit
set_option maxRecDepth 100000
theorem take_snocZ {xs : List Int} {j : Nat} {y : Int} (h : xs[j]? = some y) : xs.take (j + 1) = xs.take j ++ [y] := by
  rw [List.take_add_one, h]
  rfl
set_option maxHeartbeats 2000000 in
theorem freeCells_any (T : TypeId) (K : Beside) (w0 w : World) (b : Nat) (vc vr : Value) (rvs : List Value) (h : Hp) (V : Nat) (hT : TzT w) (S0 : BoxX T K w0 w b vc vr rvs h) (hV : V < 18446744073709551616) (hB : ∀ i, V.testBit i = true → i < h.cs.length) :
    Calls Tryd.prog 96 #[.pointer (some ⟨b, 0, none⟩), .int .u64 V] w fun e w' => (∃ v, e = .returned v) ∧ ∃ rvs', BoxX T K w0 w' b vc vr rvs' ⟨Hps.zapL h.cs (Hps.numsB V), h.rt⟩ := by
  obtain ⟨n, hn⟩ : ∃ n, h.cs.length = n := ⟨_, rfl⟩
  rw [hn] at hB
  have HB := Lib.hid hB
  have HNB := Lib.hid (fun (y : Int) (hy : y ∈ Hps.numsB V) => Hps.mem_nums.1 hy)
  have HM := Lib.hid (numbers_any V w hT hV)
  have hnl := Hps.nums_len V
  obtain ⟨A, c, R, d, rfl, rfl, -, -, fA, -⟩ := S0.own.form
  rw [hn] at S0 fA ⊢
  obtain ⟨m, hm⟩ : ∃ m, h.rt.length = m := ⟨_, rfl⟩
  rw [hm] at S0 ⊢
  have FA := Lib.hid fA
  have HN := Lib.hid hn
  obtain ⟨N, hNe⟩ : ∃ N, Hps.numsB V = N := ⟨_, rfl⟩
  rw [hNe] at HM HNB hnl ⊢
  clear hNe hT hB hn hm fA
  go_enter Tryd.func96, Tryd.ntmps96
  go_wp2_with fail
  refine HM.out.mono ?_
  rintro e w8 ⟨nv, rfl, on, b8⟩
  obtain ⟨A7, c7, e7, _⟩ := on.form
  subst e7
  obtain ⟨pp, hpp⟩ : ∃ pp, N.length = pp := ⟨_, rfl⟩
  have HP := Lib.hid hpp
  rw [hpp] at on hnl
  rw [hpp]
  have HLT := Lib.hid (fun v (hv : v ∈ (Value.slice A n c) :: (Value.slice R m d) :: rvs) k (hk : v.ownBlock = some k) => (S0.own.blocks hv hk).2)
  have S := S0.up b8
  have b8s := b8.size
  clear HM hpp b8 S0
  go_wp2_with fail
  go_loopw [9] (fun i wr => ∃ (j : Nat) (rvs : List Value), j ≤ pp ∧ i = .int .i64 j ∧ BoxX T K w0 wr b (.slice A n c) (.slice R m d) rvs ⟨Hps.zapL h.cs (N.take j), h.rt⟩ ∧ OwnI wr w.heap.size (.slice A7 pp c7) N) (fun i _ => pp - (intOf i).toNat)
  case atStart => exact ⟨0, rvs, Nat.zero_le _, rfl, S, on⟩
  case round =>
    clear S on
    obtain ⟨j, rv, hj, rfl, S, on⟩ := hrel
    have x0 : wr.cell? ⟨b, 0, none⟩ = some (.slice A n c) := S.c0
    by_cases hlj : j < pp
    · obtain ⟨g7, o7, y, rfl, hg7, hy, d7⟩ := on.reads.at_ hlj
      obtain ⟨z, rfl, _, hzb⟩ := HNB.out y (List.mem_of_getElem? hy)
      have hzn := HB.out z hzb
      obtain ⟨gc, hgce, hgc⟩ : ∃ gc, A = some ⟨gc, 0, none⟩ ∧ gc < w.heap.size := by
        obtain ⟨gc, e, _⟩ := FA.out (by omega)
        subst e
        exact ⟨gc, rfl, HLT.out (.slice (some ⟨gc, 0, none⟩) n c) (by simp) gc rfl⟩
      subst hgce
      have hne : (Value.slice (some ⟨g7, o7, none⟩) pp c7).ownBlock = none ∨ (Value.slice (some ⟨g7, o7, none⟩) pp c7).ownBlock ≠ some gc := .inr fun e => by have := (World.ownsRow.lt on gc e).1; omega
      have HNE := Lib.hid hne
      have hzl : (Hps.zapL h.cs (N.take j)).length = n := by rw [Hps.zapL_len]; exact HN.out
      obtain ⟨old, hold⟩ : ∃ old, (Hps.zapL h.cs (N.take j))[z]? = some old := ⟨_, List.getElem?_eq_getElem (show z < _ by rw [hzl]; exact hzn)⟩
      obtain ⟨g9, v, e9, _, _, -, -, y0, y1, y2, fz⟩ := S.own.cell_at hold
      injection e9 with e9
      injection e9 with e9
      subst e9
      have f0 := fz (z * 3)
      have f1 := fz (z * 3 + 1)
      have f2 := fz (z * 3 + 2)
      have SN := S.cell (cl := Hps.zeroCl) (rv := .slice none 0 0) hzl hold (World.ownsRow_nil _ _ _ _) (fun _ _ => .inl rfl) (.inl rfl) (fun _ _ => by simp [Value.ownBlock])
      have HTS := Lib.hid (show Hps.zapL h.cs (N.take (j + 1)) = (Hps.zapL h.cs (N.take j)).set z Hps.zeroCl by rw [take_snocZ hy, Hps.zapL_snoc]; rfl)
      rw [← HTS.out] at SN
      have SH := Lib.hid SN
      have on2 := Lib.hid (((on.far (put_any wr gc (z * 3) (.bool false)) HNE.out).far (put_any _ gc (z * 3 + 1) (.int .i64 0)) HNE.out).far (put_any _ gc (z * 3 + 2) (.slice none 0 0)) HNE.out)
      have hlj' : (j : Int) < pp := by omega
      have hzn' : (z : Int) < n := by omega
      clear hy hzb hold hzl S SN fz on hne
      go_wp2_with fail
      go_roundw
      case rel => exact ⟨j + 1, _, by omega, by go_num, SH.out, on2.out⟩
      case measure => simp [intOf]; omega
    · obtain rfl : j = pp := by omega
      rw [List.take_of_length_le (by rw [HP.out]; omega)] at S
      have SH := Lib.hid S
      clear S
      go_wp2_with fail
      go_end0
      exact ⟨⟨_, rfl⟩, rv, SH.out⟩
set_option maxHeartbeats 1000000 in
theorem freeList_any (A : Option Addr) (n c : Nat) (cs : List Cl) (w : World) (h : CS w w.heap.size A n cs) (hn : n ≤ 64) :
    Calls Tryd.prog 125 #[.slice A n c] w (GaveI w (Hps.gapsL cs)) := by
  have hlc := h.1
  have HF := Lib.hid (show Hps.gapsL cs = Hps.gapsTo cs n by rw [Hps.gapsL, hlc])
  have o0 : OwnI w w.heap.size (.slice none 0 0) [] := World.ownsRow_nil _ _ _ _
  have HO0 := Lib.hid o0
  clear o0
  go_enter Tryd.func125, Tryd.ntmps125
  go_wp2_with fail
  go_loopw [3, 8] (fun v i wr => ∃ k : Nat, k ≤ n ∧ i = .int .i64 k ∧ OwnI wr w.heap.size v (Hps.gapsTo cs k) ∧ Below w.heap.size w wr) (fun _ i _ => n - (intOf i).toNat)
  case atStart => exact ⟨0, Nat.zero_le _, rfl, HO0.out, Below.refl _ _⟩
  case round =>
    obtain ⟨k, hk, rfl, ow, bb⟩ := hrel
    by_cases hlt : k < n
    · obtain ⟨g, o, cl, A', m', cc, rfl, hg, hcl, d1, d2, d3, hmc, hi⟩ := (h.below bb).at_ hlt
      have hlt' : (k : Int) < n := by omega
      have hU : Hps.usedAt cs k = cl.u := by rw [Hps.usedAt, hcl]
      have hyn : (Hps.gapsTo cs k).length + 1 ≤ 1099511627776 := by have := Hps.gapsTo_len cs k; omega
      clear hcl
      cases hu : cl.u
      · rw [hu] at d1 hU
        have HY := Lib.hid (show Hps.gapsTo cs (k + 1) = Hps.gapsTo cs k ++ [(k : Int)] by rw [Hps.gapsTo, hU, if_neg (by decide)])
        have bW := bb.alloc bb.size (.cells #[.bool false, .int .i64 cl.d, .slice A' m' cc] 40)
        have ow1 := World.ownsRow.alloc (World.ownsRow.alloc ow (.cells #[.bool false, .int .i64 cl.d, .slice A' m' cc] 40)) (.cells #[.int .i64 k] 3)
        have bW2 := bW.alloc bW.size (.cells #[.int .i64 k] 3)
        have r1 : IS ((wr.alloc (.cells #[.bool false, .int .i64 cl.d, .slice A' m' cc] 40)).alloc (.cells #[.int .i64 k] 3)) ((wr.alloc (.cells #[.bool false, .int .i64 cl.d, .slice A' m' cc] 40)).alloc (.cells #[.int .i64 k] 3)).heap.size (some ⟨(wr.alloc (.cells #[.bool false, .int .i64 cl.d, .slice A' m' cc] 40)).heap.size, 0, none⟩) 1 [(k : Int)] := (own_oneI _ _ 0 (Nat.zero_le _)).reads
        simp only [World.size_alloc] at r1
        have hba := bW2.size
        clear hu hU
        go_wp2_with (at_builtin; refine wpList_appendI rfl (.tmp 16) (.tmp 18) rfl w.heap.size _ (Hps.gapsTo cs k) rfl ow1 (some ⟨wr.heap.size + 1, 0, none⟩) 1 1 _ [(k : Int)] rfl r1 hyn hba ?_; intro v5 w5 o5 g5 s5)
        have b5 : Below w.heap.size w w5 := bW2.grown g5 bW2.size (fun kk hkk => (World.ownsRow.lt ow1 kk hkk).1)
        go_roundw
        case rel => exact ⟨k + 1, by omega, by go_num, by rw [HY.out]; exact o5, b5⟩
        case measure => simp [intOf]; omega
      · rw [hu] at d1 hU
        have HY := Lib.hid (show Hps.gapsTo cs (k + 1) = Hps.gapsTo cs k by rw [Hps.gapsTo, if_pos hU, List.append_nil])
        have bW := bb.alloc bb.size (.cells #[.bool true, .int .i64 cl.d, .slice A' m' cc] 40)
        have ow1 := World.ownsRow.alloc ow (.cells #[.bool true, .int .i64 cl.d, .slice A' m' cc] 40)
        clear hu hU
        go_wp2_with fail
        go_roundw
        case rel => exact ⟨k + 1, by omega, by go_num, by rw [HY.out]; exact ow1, bW⟩
        case measure => simp [intOf]; omega
    · obtain rfl : k = n := by omega
      go_wp2_with fail
      go_ret
      exact ⟨_, rfl, by rw [HF.out]; exact ow, bb⟩
end Go.Proofs.YthmddmddcdofaaaDoor

namespace Go.Proofs.YthmddmddcdofaaaDoor
open Go.RowKit
set_option maxRecDepth 100000
/-- blocks that stay -/
abbrev KeptL := List (Nat × TypeId × Array Value)
/-- a heap in a sweeper of the call's own, with a list of numbers, beside blocks that stay -/
def SwFs (E : KeptL) (w0 wr : World) (b : Nat) (vc vr : Value) (rvs : List Value) (h : Hp) (fs : List Int) : Prop := ∃ ve, BoxX 104 (some (ve, fs, E)) w0 wr b vc vr rvs h
section
variable {E : KeptL} {w0 wr w1 : World} {b : Nat} {vc vr : Value} {rvs : List Value} {h : Hp} {fs : List Int}
theorem SwFs.up (S : SwFs E w0 wr b vc vr rvs h fs) (hw : Below wr.heap.size wr w1) : SwFs E w0 w1 b vc vr rvs h fs := by
  obtain ⟨ve, B⟩ := S
  exact ⟨ve, B.up hw⟩
theorem SwFs.c0 (S : SwFs E w0 wr b vc vr rvs h fs) : wr.cell? ⟨b, 0, none⟩ = some vc := by
  obtain ⟨ve, B⟩ := S
  exact B.c0
theorem SwFs.c1 (S : SwFs E w0 wr b vc vr rvs h fs) : wr.cell? ⟨b, 1, none⟩ = some vr := by
  obtain ⟨ve, B⟩ := S
  exact B.c1
theorem SwFs.fz (S : SwFs E w0 wr b vc vr rvs h fs) (i : Nat) : wr.frozen? ⟨b, i, none⟩ = false := by
  obtain ⟨ve, B⟩ := S
  exact B.box.frozen i
theorem SwFs.own (S : SwFs E w0 wr b vc vr rvs h fs) : OwnHx wr w0.heap.size vc vr rvs h := by
  obtain ⟨ve, B⟩ := S
  exact B.own
theorem SwFs.low (S : SwFs E w0 wr b vc vr rvs h fs) : Below w0.heap.size w0 wr := by
  obtain ⟨ve, B⟩ := S
  exact B.low
theorem SwFs.lo (S : SwFs E w0 wr b vc vr rvs h fs) : w0.heap.size ≤ b := by
  obtain ⟨ve, B⟩ := S
  exact B.lo
theorem SwFs.lt (S : SwFs E w0 wr b vc vr rvs h fs) : b < wr.heap.size := by
  obtain ⟨ve, B⟩ := S
  exact B.box.lt
/-- another row beside the heap -/
theorem SwFs.free {v : Value} {xs : List Int} (S : SwFs E w0 wr b vc vr rvs h fs) (hq : OwnI wr w0.heap.size v xs) (ha : ∀ u ∈ vc :: vr :: rvs, u.ownBlock = none ∨ u.ownBlock ≠ v.ownBlock) (hb : v.ownBlock ≠ some b) (hE : ∀ e ∈ E, v.ownBlock ≠ some e.1) : SwFs E w0 (wr.setCell ⟨b, 2, none⟩ v) b vc vr rvs h xs := by
  obtain ⟨ve, B⟩ := S
  exact ⟨v, B.beside3 hq.queue ha hb hE⟩
theorem SwFs.keptLt (S : SwFs E w0 wr b vc vr rvs h fs) : ∀ e ∈ E, e.1 < wr.heap.size := fun e he => by
  obtain ⟨ve, B⟩ := S
  exact (B.side.kept _ rfl e he).1.lt
/-- a block that has just been made stays -/
theorem SwFs.more {t : TypeId} {cs : Array Value} (S : SwFs E w0 wr b vc vr rvs h fs) : SwFs ((wr.heap.size, t, cs) :: E) w0 (wr.alloc (.cells cs t)) b vc vr rvs h fs := by
  obtain ⟨ve, B⟩ := S
  have hb := B.box.lt
  refine ⟨ve, (B.up ((Below.refl _ _).alloc (Nat.le_refl _) _)).more (Rw.new wr t cs) (by omega) (fun u hu e => ?_) fun e => ?_⟩
  · have := (B.own.blocks hu e).2
    omega
  · have := ((B.side.row _ rfl).lt _ e).2
    omega
end
/-- the list is that of the cells that are not used -/
abbrev SwSt (E : KeptL) (w0 wr : World) (b : Nat) (vc vr : Value) (rvs : List Value) (h : Hp) : Prop := SwFs E w0 wr b vc vr rvs h (Hps.gapsL h.cs)
end Go.Proofs.YthmddmddcdofaaaDoor

namespace Go.Proofs.YthmddmddcdofaaaDoor
open Go.RowKit
set_option maxRecDepth 100000
namespace Hps
theorem pc_succ (V k : Nat) : pcN V (k + 1) = pcN V k + (if V.testBit k = true then 1 else 0) := by
  unfold pcN
  rw [List.range_succ, List.countP_append, List.countP_singleton]
theorem pc_same {V W n : Nat} (h : ∀ i, i < n → V.testBit i = W.testBit i) : pcN V n = pcN W n := by
  unfold pcN
  apply List.countP_congr
  intro i hi
  rw [h i (List.mem_range.1 hi)]
theorem or_bit (V k i : Nat) : (V ||| 2 ^ k).testBit i = (V.testBit i || decide (k = i)) := by rw [Nat.testBit_or, Nat.testBit_two_pow]
theorem pc_mark {V k : Nat} (h : V.testBit k = false) : ∀ {n : Nat}, k < n → pcN (V ||| 2 ^ k) n = pcN V n + 1
  | 0, hn => by omega
  | n + 1, hn => by
    rw [pc_succ, pc_succ, or_bit]
    by_cases e : k = n
    · subst e
      rw [h, pc_same (W := V) fun i hi => by rw [or_bit, decide_eq_false (show ¬ k = i by omega), Bool.or_false]]
      simp
    · rw [pc_mark h (show k < n by omega), decide_eq_false e, Bool.or_false]
      omega
theorem pc_word (xs : List Bool) : ∀ m, pcN (Bm.wordN xs true) m = (xs.take m).count true
  | 0 => rfl
  | m + 1 => by
    rw [pc_succ, pc_word xs m, Bm.wordN_bit, List.take_add_one, List.count_append]
    cases h : xs[m]? with
    | none => simp
    | some b => cases b <;> simp
theorem live_count {bs : List Bool} {n : Nat} (h : bs.length = n) (hn : n ≤ 64) : pcN (Bm.wordN bs true) 64 = liveTo bs n := by
  unfold liveTo
  rw [pc_word, List.take_of_length_le (by omega), List.take_of_length_le (by omega)]
/-- cells and references into them: small, and each -1 or the number of a used cell -/
structure OkG (h : Hp) : Prop where
  len : h.cs.length ≤ 40
  few : h.rt.length ≤ 40
  small : ∀ c ∈ h.cs, c.r.length ≤ 3
  rts : okRefs h.cs h.rt = true
  rfs : ∀ c ∈ h.cs, okRefs h.cs c.r = true
theorem OkG.valid {h : Hp} (hv : validH h = true) : OkG h := ⟨(valid_small hv).1, by rw [(valid_small hv).2.1]; omega, (valid_small hv).2.2, (valid_iff.1 hv).2.2.2, valid_refs hv⟩
theorem OkG.one {h : Hp} (hv : OkG h) {k : Nat} (hk : usedAt h.cs k = true) : OkG ⟨h.cs, [(k : Int)]⟩ :=
  ⟨hv.len, by simp, hv.small, okRefs_iff.2 fun x hx => by rw [List.mem_singleton] at hx; subst hx; exact okRef_iff.2 (.inr ⟨by omega, by simpa using hk⟩), hv.rfs⟩
/-- a work list beside the set of what has been reached -/
structure Stk (h : Hp) (V : Nat) (l : List Int) : Prop where
  lo : V < 2 ^ h.cs.length
  rch : ∀ k : Nat, V.testBit k = true → Rch h.cs h.rt k
  lst : ∀ x ∈ l, x = -1 ∨ ∃ k : Nat, x = k ∧ Rch h.cs h.rt k
  roots : ∀ k : Nat, (k : Int) ∈ h.rt → V.testBit k = true ∨ (k : Int) ∈ l
  step : ∀ (k m : Nat) (c : Cl), V.testBit k = true → h.cs[k]? = some c → (m : Int) ∈ c.r → V.testBit m = true ∨ (m : Int) ∈ l
  len : l.length ≤ 40 + 4 * pcN V h.cs.length
theorem Stk.start {h : Hp} (hv : OkG h) : Stk h 0 h.rt := by
  refine ⟨Nat.pow_pos (by omega), fun k hk => by simp at hk, fun x hx => ?_, fun k hk => .inr hk, fun k m c hk => by simp at hk, by have := hv.few; omega⟩
  rcases okRef_iff.1 (okRefs_iff.1 hv.rts x hx) with h1 | ⟨h1, _⟩
  · exact .inl h1
  · exact .inr ⟨x.toNat, by omega, .root (by rwa [show ((x.toNat : Nat) : Int) = x by omega])⟩
/-- the last of the list is nothing new -/
theorem Stk.pop {h : Hp} {V : Nat} {l : List Int} {x : Int} (s : Stk h V (l ++ [x])) (hx : x = -1 ∨ hasB V x = true) : Stk h V l := by
  have hm : ∀ k : Nat, (k : Int) ∈ l ++ [x] → V.testBit k = true ∨ (k : Int) ∈ l := fun k hk => by
    rw [List.mem_append, List.mem_singleton] at hk
    rcases hk with hk | hk
    · exact .inr hk
    · left
      rcases hx with h1 | h1
      · omega
      · subst hk
        simpa [hasB] using h1
  refine ⟨s.lo, s.rch, fun y hy => s.lst y (by simp [hy]), fun k hk => ?_, fun k m c h1 h2 h3 => ?_, by have := s.len; simp at this; omega⟩
  · rcases s.roots k hk with h1 | h1
    · exact .inl h1
    · exact hm k h1
  · rcases s.step k m c h1 h2 h3 with h1 | h1
    · exact .inl h1
    · exact hm m h1
/-- the last of the list is a cell that had not been reached -/
theorem Stk.mark {h : Hp} (hv : OkG h) {V k : Nat} {l : List Int} {c : Cl} (s : Stk h V (l ++ [(k : Int)])) (hk : V.testBit k = false) (hc : h.cs[k]? = some c) : Stk h (V ||| 2 ^ k) (l ++ c.r) := by
  have hlt : k < h.cs.length := (List.getElem?_eq_some_iff.1 hc).1
  have hr : Rch h.cs h.rt k := by
    rcases s.lst (k : Int) (by simp) with h1 | ⟨j, h1, h2⟩
    · omega
    · rwa [show k = j by omega]
  have hm : ∀ j : Nat, V.testBit j = true ∨ (j : Int) ∈ l ++ [(k : Int)] → (V ||| 2 ^ k).testBit j = true ∨ (j : Int) ∈ l ++ c.r := fun j hj => by
    rw [or_bit]
    rcases hj with hj | hj
    · left; rw [hj]; rfl
    · rw [List.mem_append, List.mem_singleton] at hj
      rcases hj with hj | hj
      · right; simp [hj]
      · left; simp; right; omega
  refine ⟨Nat.or_lt_two_pow s.lo (Nat.pow_lt_pow_right (by omega) hlt), fun j hj => ?_, fun x hx => ?_, fun j hj => hm j (s.roots j hj), fun j m c' h1 h2 h3 => ?_, ?_⟩
  · rw [or_bit] at hj
    rw [Bool.or_eq_true, decide_eq_true_eq] at hj
    rcases hj with hj | hj
    · exact s.rch j hj
    · rwa [← hj]
  · rw [List.mem_append] at hx
    rcases hx with hx | hx
    · exact s.lst x (by simp [hx])
    · rcases okRef_iff.1 (okRefs_iff.1 (hv.rfs c (List.mem_of_getElem? hc)) x hx) with h1 | ⟨h1, _⟩
      · exact .inl h1
      · exact .inr ⟨x.toNat, by omega, .step hr hc (by rwa [show ((x.toNat : Nat) : Int) = x by omega])⟩
  · rw [or_bit, Bool.or_eq_true, decide_eq_true_eq] at h1
    rcases h1 with h1 | h1
    · exact hm m (s.step j m c' h1 h2 h3)
    · subst h1
      rw [hc] at h2
      injection h2 with h2
      subst h2
      right
      simp [h3]
  · rw [pc_mark hk hlt]
    have := s.len
    have h3 := hv.small c (List.mem_of_getElem? hc)
    simp at this
    simp
    omega
/-- a cell of the list is there -/
theorem Stk.at_ {h : Hp} (hv : OkG h) {V : Nat} {l : List Int} {x : Int} (s : Stk h V (l ++ [x])) (h1 : x ≠ -1) : ∃ k : Nat, x = k ∧ k < h.cs.length := by
  rcases s.lst x (by simp) with h2 | ⟨k, h2, h3⟩
  · exact absurd h2 h1
  · exact ⟨k, h2, usedAt_lt (h3.used hv.rts hv.rfs)⟩
/-- the set of what can be reached -/
noncomputable def reachW (h : Hp) : Nat := Bm.wordN (reachL h.cs h.rt) true
theorem reachW_lt {h : Hp} (hn : h.cs.length ≤ 64) : reachW h < 18446744073709551616 := Bm.wordN_lt _ _ (by rw [reachL_len]; exact hn)
theorem Stk.fin {h : Hp} {V : Nat} (s : Stk h V []) : V = reachW h := by
  apply Nat.eq_of_testBit_eq
  intro k
  unfold reachW
  rw [Bm.wordN_bit, Bool.eq_iff_iff, decide_eq_true_eq]
  rcases Nat.lt_or_ge k h.cs.length with hk | hk
  · rw [reachL_true hk]
    refine ⟨s.rch k, fun hr => Rch.inside (S := fun k => V.testBit k = true) (fun j hj => ?_) (fun j m c h1 h2 h3 => ?_) hr⟩
    · simpa using s.roots j hj
    · simpa using s.step j m c h1 h2 h3
  · have e1 : V.testBit k = false := Nat.testBit_lt_two_pow (Nat.lt_of_lt_of_le s.lo (Nat.pow_le_pow_right (by omega) hk))
    rw [e1, List.getElem?_eq_none (by rw [reachL_len]; exact hk)]
    simp
theorem reach_flags {h : Hp} {n : Nat} (hn : h.cs.length = n) : (List.range n).map (reachW h).testBit = reachL h.cs h.rt :=
  Bm.word_list _ (by rw [reachL_len, hn]) _ fun i _ => by unfold reachW; rw [Bm.wordN_bit]
end Hps
namespace Pc
theorem i64_and127 (x : Nat) (h : x < 9223372036854775808) : bits .and .i64 (x : Int) 127 = ((x % 128 : Nat) : Int) := by
  show IntKind.i64.wrap ((BitVec.ofInt 64 (x : Int) &&& BitVec.ofInt 64 ((127 : Nat) : Int)).toNat : Int) = _
  rw [BitVec.toNat_and, ofInt_u64 x (by omega), ofInt_u64 127 (by omega), nat_mask7]
  exact IntWalk.i64_in _ (by omega)
theorem walk {V : Nat} (hV : V < 18446744073709551616) : ∃ y1 y2 y3 z z2 : Nat,
    IntKind.u64.wrap (bits .and .u64 ((V : Int) / 2) 6148914691236517205 + bits .and .u64 (V : Int) 6148914691236517205) = (y1 : Int) ∧
    IntKind.u64.wrap (bits .and .u64 ((y1 : Int) / 4) 3689348814741910323 + bits .and .u64 (y1 : Int) 3689348814741910323) = (y2 : Int) ∧
    bits .and .u64 (IntKind.u64.wrap ((y2 : Int) / 16 + (y2 : Int))) 1085102592571150095 = (y3 : Int) ∧
    IntKind.u64.wrap ((y3 : Int) + (y3 : Int) / 256) = (z : Int) ∧
    IntKind.u64.wrap ((z : Int) + (z : Int) / 65536) = (z2 : Int) ∧
    bits .and .i64 (wrap64 (IntKind.u64.wrap ((z2 : Int) + (z2 : Int) / 4294967296))) 127 = (pcN V 64 : Nat) := by
  obtain ⟨y1, h1⟩ : ∃ y, y = s1 V 6148914691236517205 := ⟨_, rfl⟩
  obtain ⟨y2, h2⟩ : ∃ y, y = s2 y1 3689348814741910323 := ⟨_, rfl⟩
  obtain ⟨y3, h3⟩ : ∃ y, y = s3 y2 1085102592571150095 := ⟨_, rfl⟩
  obtain ⟨z, hz⟩ : ∃ z, z = y3 + y3 / 256 := ⟨_, rfl⟩
  obtain ⟨z2, hz2⟩ : ∃ z2, z2 = z + z / 65536 := ⟨_, rfl⟩
  have hall := sums V hV y3 z z2 (by rw [h3, h2, h1]) hz hz2
  obtain ⟨q1, q2, q3, q4⟩ := hall
  have a1 : V / 2 &&& 6148914691236517205 ≤ 6148914691236517205 := Nat.and_le_right
  have a2 : V &&& 6148914691236517205 ≤ 6148914691236517205 := Nat.and_le_right
  have b1 : y1 / 4 &&& 3689348814741910323 ≤ 3689348814741910323 := Nat.and_le_right
  have b2 : y1 &&& 3689348814741910323 ≤ 3689348814741910323 := Nat.and_le_right
  refine ⟨y1, y2, y3, z, z2, ?_, ?_, ?_, ?_, ?_, ?_⟩
  · have e1 := u64_and_nat (V / 2) 6148914691236517205 (by omega) (by omega)
    have e2 := u64_and_nat V 6148914691236517205 hV (by omega)
    rw [show (V : Int) / 2 = ((V / 2 : Nat) : Int) by omega, show (6148914691236517205 : Int) = ((6148914691236517205 : Nat) : Int) from rfl, e1, e2, IntKind.wrap_u64, h1]
    unfold s1
    omega
  · have hy1 : y1 < 18446744073709551616 := by rw [h1]; unfold s1; omega
    have e1 := u64_and_nat (y1 / 4) 3689348814741910323 (by omega) (by omega)
    have e2 := u64_and_nat y1 3689348814741910323 hy1 (by omega)
    rw [show (y1 : Int) / 4 = ((y1 / 4 : Nat) : Int) by omega, show (3689348814741910323 : Int) = ((3689348814741910323 : Nat) : Int) from rfl, e1, e2, IntKind.wrap_u64, h2]
    unfold s2
    omega
  · have hy2 : y2 ≤ 7378697629483820646 := by rw [h2]; unfold s2; omega
    have e0 : IntKind.u64.wrap ((y2 : Int) / 16 + (y2 : Int)) = ((y2 / 16 + y2 : Nat) : Int) := by rw [IntKind.wrap_u64]; omega
    have e1 := u64_and_nat (y2 / 16 + y2) 1085102592571150095 (by omega) (by omega)
    rw [e0, show (1085102592571150095 : Int) = ((1085102592571150095 : Nat) : Int) from rfl, e1, h3]
    rfl
  · rw [IntKind.wrap_u64]; omega
  · rw [IntKind.wrap_u64]; omega
  · have e0 : IntKind.u64.wrap ((z2 : Int) + (z2 : Int) / 4294967296) = ((z2 + z2 / 4294967296 : Nat) : Int) := by rw [IntKind.wrap_u64]; omega
    rw [e0, show wrap64 ((z2 + z2 / 4294967296 : Nat) : Int) = ((z2 + z2 / 4294967296 : Nat) : Int) by unfold wrap64; omega, i64_and127 _ q3, q4]
end Pc
set_option maxHeartbeats 1000000 in
theorem onesCount_any (V : Nat) (w : World) (hV : V < 18446744073709551616) :
    Calls Tryd.prog 126 #[.int .u64 V] w fun e w' => e = .returned (.int .i64 (pcN V 64 : Nat)) ∧ w = w' := by
  obtain ⟨y1, y2, y3, z, z2, E1, E2, E3, E4, E5, E6⟩ := Pc.walk hV
  have H := Lib.hid (And.intro E1 (And.intro E2 (And.intro E3 (And.intro E4 (And.intro E5 E6)))))
  clear E1 E2 E3 E4 E5 E6
  go_enter Tryd.func126, Tryd.ntmps126
  go_wp2_with fail
  go_ret
  obtain ⟨E1, E2, E3, E4, E5, E6⟩ := H.out
  simp only [E1, E2, E3, E4, E5, E6]
  exact ⟨rfl, trivial⟩
theorem count_any (V : Nat) (w : World) (hV : V < 18446744073709551616) :
    Calls Tryd.prog 80 #[.int .u64 V] w fun e w' => e = .returned (.int .i64 (pcN V 64 : Nat)) ∧ w = w' := by
  go_enter Tryd.func80, Tryd.ntmps80
  go_wp2_with fail
  refine (onesCount_any V _ hV).mono ?_
  rintro e w1 ⟨rfl, rfl⟩
  go_wp2_with fail
  go_ret
  exact ⟨rfl, rfl⟩
end Go.Proofs.YthmddmddcdofaaaDoor

namespace Go.Proofs.YthmddmddcdofaaaDoor
open Go.RowKit
set_option maxRecDepth 100000
theorem cloneI_any (A : Option Addr) (n c : Nat) (xs : List Int) (w : World) (h : IS w w.heap.size A n xs) (hn : n ≤ 1099511627776) :
    Calls Tryd.prog 119 #[.slice A n c] w (GaveI w xs) := by
  have q : ∀ (w : World) (a : Option Addr) (n c n' c' : Nat), (binOp .eql 24 (.slice a n c) (.slice none n' c')).run Tryd.prog w = .ok (.bool a.isNone) w := fun w a n c n' c' => Lib.run_eql_slice_nil w _ _ a n c n' c' Tryd.underlying24
  cases A with
  | none =>
    have h0 : n = 0 := by
      rcases Nat.eq_zero_or_pos n with h0 | h0
      · exact h0
      · obtain ⟨g, o, e, _⟩ := h.2 h0
        cases e
    have : xs = [] := List.eq_nil_of_length_eq_zero (h.1.trans h0)
    subst this h0
    go_enter Tryd.func119, Tryd.ntmps119
    go_wp2
    go_ret
    exact ⟨_, rfl, World.ownsRow_nil _ _ _ _, Below.refl _ _⟩
  | some a =>
    have o0 := own_noneI w w.heap.size (Nat.le_refl _)
    have bl0 : Below w.heap.size w (w.alloc (.cells #[] 3)) := (Below.refl _ _).alloc (Nat.le_refl _) _
    have r0 := h.below bl0
    go_enter Tryd.func119, Tryd.ntmps119
    go_wp2_with (at_builtin; refine wpList_appendI rfl (.tmp 5) (.tmp 6) rfl w.heap.size _ [] rfl o0 (some a) n c w.heap.size xs rfl r0 (by simp <;> omega) (by simp) ?_; intro v1 w1 o1 g1 s1)
    go_ret
    exact ⟨_, rfl, OwnI.cast (by simp) o1, bl0.grown g1 (by simp) (fun k hk => (World.ownsRow.lt o0 k hk).1)⟩
/-- a slice of the call's own is cut short -/
theorem OwnI.cut {w : World} {base n c k : Nat} {A : Option Addr} {xs : List Int} (h : OwnI w base (.slice A n c) xs) (hk : k ≤ n) : OwnI w base (.slice A k c) (xs.take k) := by
  have hl : (xs.take k).length = k := by rw [List.length_take, ← h.cap.1]; omega
  unfold OwnI
  rw [hl]
  refine ⟨by rw [List.length_map, hl, Nat.mul_one], ?_⟩
  rcases h.2 with ⟨e, h0⟩ | ⟨g, cap, cur, e, hb, hh, hnc, hcap, hsz, hx⟩
  · injection e with e1 e2 e3
    subst e1 e3
    left
    have : k = 0 := by omega
    rw [this]
    exact ⟨rfl, rfl⟩
  · injection e with e1 e2 e3
    subst e1 e3
    right
    refine ⟨g, c, cur, rfl, hb, hh, by omega, hcap, hsz, ?_⟩
    rw [List.map_take, ← hx, Nat.mul_one, Nat.mul_one, List.take_take, Nat.min_eq_left (by omega)]
namespace Hps
/-- the first k of n cells as bools, the others false -/
def flagL (V n k : Nat) : List Bool := (List.range k).map V.testBit ++ List.replicate (n - k) false
theorem flagL_len {V n k : Nat} (h : k ≤ n) : (flagL V n k).length = n := by simp [flagL]; omega
theorem flagL_zero (V n : Nat) : flagL V n 0 = List.replicate n false := by simp [flagL]
theorem flagL_end (V n : Nat) : flagL V n n = (List.range n).map V.testBit := by simp [flagL]
theorem flagL_succ {V n k : Nat} (h : k < n) : (flagL V n k).set k (V.testBit k) = flagL V n (k + 1) := by
  apply List.ext_getElem?
  intro i
  unfold flagL
  rw [List.getElem?_set, List.length_append, List.length_map, List.length_range, List.length_replicate]
  rcases Nat.lt_trichotomy i k with h1 | h1 | h1
  · rw [if_neg (by omega), List.getElem?_append_left (by simp; omega), List.getElem?_append_left (by simp; omega), List.getElem?_map, List.getElem?_map, List.getElem?_range h1, List.getElem?_range (by omega)]
  · subst h1
    rw [if_pos rfl, if_pos (by omega), List.getElem?_append_left (by simp), List.getElem?_map, List.getElem?_range (by omega)]
    rfl
  · rw [if_neg (by omega), List.getElem?_append_right (by simp; omega), List.getElem?_append_right (by simp; omega)]
    simp only [List.length_map, List.length_range, List.getElem?_replicate]
    congr 1
    apply propext
    omega
end Hps
set_option maxHeartbeats 1000000 in
theorem cflags_any (V n : Nat) (w : World) (hV : V < 18446744073709551616) (hn : n ≤ 64) :
    Calls Tryd.prog 70 #[.int .u64 V, .int .i64 n] w (GaveO w ((List.range n).map V.testBit)) := by
  have hmk := makeO w n (by omega)
  have o2 := own_madeO w n (by omega)
  have b2 : Below w.heap.size w (w.alloc (.cells (Array.replicate n (.bool false)) 4)) := (Below.refl _ _).alloc (Nat.le_refl _) _
  obtain ⟨w2, hw2⟩ : ∃ w2, w.alloc (.cells (Array.replicate n (.bool false)) 4) = w2 := ⟨_, rfl⟩
  rw [hw2] at hmk o2 b2
  rw [← Hps.flagL_zero V n] at o2
  have HE := Lib.hid (Hps.flagL_end V n)
  clear hw2
  go_enter Tryd.func70, Tryd.ntmps70
  go_wp2
  clear hmk
  go_loopw [11] (fun i wr => ∃ k : Nat, k ≤ n ∧ i = .int .i64 k ∧ OwnO wr w.heap.size (.slice (some ⟨w.heap.size, 0, none⟩) n n) (Hps.flagL V n k) ∧ Below w.heap.size w wr) (fun i _ => n - (intOf i).toNat)
  case atStart => exact ⟨0, Nat.zero_le _, rfl, o2, b2⟩
  case round =>
    clear o2 b2
    obtain ⟨k, hk, rfl, ho, hb⟩ := hrel
    have hlen := Hps.flagL_len (V := V) hk
    by_cases hlt : k < n
    · have fz : wr.frozen? ⟨w.heap.size, k, none⟩ = false := ho.frozen hlen k
      obtain ⟨g', o', x, e', _, _, c1⟩ := ho.reads.at_ (k := k) (by omega)
      injection e' with e'
      injection e' with e1 e2
      subst e1 e2
      rw [Nat.zero_add] at c1
      have t1 : (k : Int) < n := by omega
      have on := OwnO.cast (Hps.flagL_succ (V := V) hlt) (ho.put' (j := k) hlen (V.testBit k))
      have bn := hb.setCell (p := ⟨w.heap.size, k, none⟩) (Nat.le_refl _) (.bool (V.testBit k))
      have HB := Lib.hid (show Hps.hasB V (k : Int) = V.testBit k by simp [Hps.hasB])
      clear ho hlen
      go_wp2_with fail
      refine (has_any V k _ hV).mono ?_
      rw [HB.out]
      obtain ⟨b, hbe⟩ : ∃ b, V.testBit k = b := ⟨_, rfl⟩
      rw [hbe] at on bn ⊢
      clear hbe HB
      rintro e w3 ⟨rfl, rfl⟩
      go_wp2_with fail
      go_roundw
      case rel => exact ⟨k + 1, by omega, by go_num, on, bn⟩
      case measure => simp [intOf]; omega
    · obtain rfl : k = n := by omega
      clear hlen
      go_wp2_with fail
      go_ret
      exact ⟨_, rfl, OwnO.cast HE.out ho, hb⟩
/-- what a round of the work list leaves to do -/
def stkLeft (n : Nat) : Value → Value → Nat
  | .int _ V, .slice _ m _ => m + 4 * (n - pcN V.toNat n)
  | _, _ => 0
set_option maxHeartbeats 2000000 in
theorem ledTo_any (A R : Option Addr) (n c m d : Nat) (h : Hp) (w : World) (hcs : CS w w.heap.size A n h.cs) (hrs : IS w w.heap.size R m h.rt) (hv : Hps.OkG h) :
    Calls Tryd.prog 121 #[.slice A n c, .slice R m d] w fun e w' => e = .returned (.int .u64 (Hps.reachW h : Nat)) ∧ Below w.heap.size w w' := by
  have hlc := hcs.1
  have s1 := hv.len
  have hmf := hv.few
  have hm4 := hrs.1
  have HV := Lib.hid hv
  have HS3 := Lib.hid hv.small
  have HS := Lib.hid (Hps.Stk.start hv)
  clear hv
  go_enter Tryd.func121, Tryd.ntmps121
  go_wp2_with fail
  refine (cloneI_any _ _ _ h.rt _ hrs (by omega)).mono ?_
  rintro e w1 ⟨v1, rfl, o1, b1⟩
  go_wp2_with fail
  go_loopw [5, 6] (fun v lv wr => ∃ (V : Nat) (l : List Int), v = .int .u64 V ∧ Hid (Hps.Stk h V l) ∧ OwnI wr w.heap.size lv l ∧ Below w.heap.size w wr) (fun v lv _ => stkLeft n v lv)
  case atStart => exact ⟨0, h.rt, rfl, HS, o1, b1⟩
  case round =>
    clear HS o1 b1
    obtain ⟨V, l, rfl, HST, ow, bb⟩ := hrel
    have hz := bb.size
    have hpc := Pc.pc_le V n
    have hll := HST.out.len
    rw [hlc] at hll
    have hV : V < 18446744073709551616 := Nat.lt_of_lt_of_le HST.out.lo (Bm.pow64 (by omega))
    obtain ⟨A1, c1, e1, _⟩ := ow.form
    subst e1
    have hcap := ow.cap.2
    rcases List.eq_nil_or_concat l with hl | ⟨l', x, hl⟩
    · subst hl
      have HF := Lib.hid HST.out.fin
      go_wp2_with fail
      go_ret
      exact ⟨by rw [← HF.out]; rfl, bb⟩
    · rw [List.concat_eq_append] at hl
      subst hl
      have hlen : (l' ++ [x]).length = l'.length + 1 := by simp
      rw [hlen] at ow hcap hll ⊢
      obtain ⟨g6, o6, y, e6, hg6, hy, d6⟩ := ow.reads.at_ (k := l'.length) (by omega)
      subst e6
      have hyx : y = x := by simpa using hy.symm
      subst hyx
      have hL : ((l'.length + 1 : Nat) : Int) = (l'.length : Int) + 1 := by omega
      have oc := OwnI.cast (show (l' ++ [y]).take l'.length = l' by simp) (ow.cut (k := l'.length) (by omega))
      obtain ⟨q, hq⟩ : ∃ q, l'.length = q := ⟨_, rfl⟩
      have HQ := Lib.hid hq
      rw [hq] at d6 hcap hll hL oc ⊢
      have hqc : (q : Int) ≤ c1 := by omega
      have hq0 : (q : Int) + 1 > 0 := by omega
      have hw64 : IntKind.i64.wrap ((q : Int) + 1 - 1) = q := by rw [IntWalk.i64_in _ (by omega)]; omega
      clear hlen hy hq ow
      by_cases hm1 : y = -1
      · subst hm1
        have HP := Lib.hid (HST.out.pop (.inl rfl))
        go_wp2_with fail
        go_roundw
        case rel => exact ⟨V, l', rfl, HP, oc, bb⟩
        case measure => simp [stkLeft]
      · have hne : (y == -1) = false := by rw [beq_eq_false_iff_ne]; exact hm1
        obtain ⟨k, hk, hkn⟩ := HST.out.at_ HV.out hm1
        rw [hlc] at hkn
        subst hk
        have HB := Lib.hid (show Hps.hasB V (k : Int) = V.testBit k by simp [Hps.hasB])
        clear hm1
        cases hbit : V.testBit k
        · obtain ⟨g, o, cl, A', m', cc, e1, hg, hcl, _, _, d3, hmc, hi⟩ := hcs.at_ hkn
          subst e1
          have d3' := (bb.cell (p := ⟨g, o + k * 3 + 2, none⟩) hg).trans d3
          have hm3 : m' ≤ 3 := by have := HS3.out cl (List.mem_of_getElem? hcl); have := hi.1; omega
          have rr := (hi.below bb).more bb.size
          have HM := Lib.hid (HST.out.mark HV.out hbit hcl)
          have HPC := Lib.hid (Hps.pc_mark hbit hkn)
          have hpc1 : pcN (V ||| 2 ^ k) n ≤ n := Pc.pc_le _ _
          rw [HPC.out] at hpc1
          have hkn' : (k : Int) < n := by omega
          have hkneg : ¬ ((k : Int) < 0) := by omega
          obtain ⟨p1, p2, p3⟩ := Hps.pow_in (k := k) (by omega)
          have hor := Hps.or_in (V := V) (k := k) hV (by omega)
          have HBF := Lib.hid (HB.out.trans hbit)
          have hqm : l'.length + m' ≤ 1099511627776 := by rw [HQ.out]; omega
          have HI := Lib.hid hi.1
          clear hcl d3 hbit HB HST
          go_wp2_with fail
          refine (has_any V k _ hV).mono ?_
          rw [HBF.out]
          rintro e w3 ⟨rfl, rfl⟩
          go_wp2_with (at_builtin; refine wpList_appendI rfl (.tmp 35) (.tmp 40) rfl w.heap.size _ l' rfl oc A' m' cc _ cl.r rfl rr hqm hz ?_; intro v5 w5 o5 g5 s5)
          have b5 := bb.grown g5 (by omega) (fun kk hk => by have := (World.ownsRow.lt oc kk hk).1; omega)
          obtain ⟨A5, c5, e5, _⟩ := o5.form
          subst e5
          go_roundw
          case rel => exact ⟨V ||| 2 ^ k, _, rfl, HM, o5, b5⟩
          case measure =>
            have hL5 : (l' ++ cl.r).length = q + m' := by rw [List.length_append, HQ.out, HI.out]
            simp [stkLeft, HPC.out, HQ.out, HI.out]
            omega
        · have HP := Lib.hid (HST.out.pop (.inr (HB.out.trans hbit)))
          have HBT := Lib.hid (HB.out.trans hbit)
          clear hbit HB HST
          go_wp2_with fail
          refine (has_any V k _ hV).mono ?_
          rw [HBT.out]
          rintro e w3 ⟨rfl, rfl⟩
          go_wp2_with fail
          go_roundw
          case rel => exact ⟨V, l', rfl, HP, oc, bb⟩
          case measure => simp [stkLeft]
theorem reachedSet_any (A R : Option Addr) (n c m d : Nat) (h : Hp) (w : World) (hs : HS w w.heap.size A n R m h) (hv : Hps.validH h = true) :
    Calls Tryd.prog 67 #[heapV A n c R m d] w fun e w' => e = .returned (.int .u64 (Hps.reachW h : Nat)) ∧ Below w.heap.size w w' := by
  have HV := Lib.hid (Hps.OkG.valid hv)
  have b0 : Below w.heap.size w (w.alloc (.cells #[.slice A n c, .slice R m d] 26)) := (Below.refl _ _).alloc (Nat.le_refl _) _
  have r0 := hs.up b0
  clear hv
  go_enter Tryd.func67, Tryd.ntmps67
  go_wp2_with fail
  refine (ledTo_any A R n c m d h _ r0.cells r0.roots HV.out).mono ?_
  rintro e w1 ⟨rfl, b1⟩
  have bb1 := b0.trans (b1.mono b0.size)
  go_wp2_with fail
  go_ret
  exact ⟨rfl, bb1⟩
set_option maxHeartbeats 1000000 in
theorem reachable_any (A R : Option Addr) (n c m d : Nat) (h : Hp) (w : World) (hs : HS w w.heap.size A n R m h) (hn : n ≤ 1099511627776) (hm : m ≤ 1099511627776) (hc : n ≤ c) (hd : m ≤ d) :
    Calls Tryd.prog 24 #[heapV A n c R m d] w (GaveO w (Hps.reachH h)) := by
  have hlc := hs.cells.1
  have b0 : Below w.heap.size w (w.alloc (.cells #[.slice A n c, .slice R m d] 26)) := (Below.refl _ _).alloc (Nat.le_refl _) _
  have r0 := hs.up b0
  have hw0 := Rw.new w 26 #[.slice A n c, .slice R m d]
  cases hv : Hps.validH h
  · have HR := Lib.hid (show Hps.reachH h = [] by rw [Hps.reachH, hv]; rfl)
    have HV := Lib.hid hv
    clear hv
    go_enter Tryd.func24, Tryd.ntmps24
    go_wp2_with fail
    refine (heapValid_any _ _ _ _ _ _ h _ r0 hn hm hc hd).mono ?_
    rw [HV.out]
    rintro e w1 ⟨rfl, b1⟩
    have bb1 := b0.trans (b1.mono b0.size)
    go_wp2_with fail
    go_ret
    exact ⟨_, rfl, by rw [HR.out]; exact World.ownsRow_nil _ _ _ _, bb1⟩
  · have HR := Lib.hid (show Hps.reachH h = Hps.reachL h.cs h.rt by rw [Hps.reachH, hv]; rfl)
    obtain ⟨s1, s2, s3⟩ := Hps.valid_small hv
    have HV := Lib.hid hv
    have hWlt := Hps.reachW_lt (h := h) (by omega)
    have HFL := Lib.hid (Hps.reach_flags hlc)
    obtain ⟨W, hW⟩ : ∃ W, Hps.reachW h = W := ⟨_, rfl⟩
    have HW := Lib.hid hW
    rw [hW] at hWlt HFL
    clear hv s3 hW
    go_enter Tryd.func24, Tryd.ntmps24
    go_wp2_with fail
    refine (heapValid_any _ _ _ _ _ _ h _ r0 hn hm hc hd).mono ?_
    rw [HV.out]
    rintro e w1 ⟨rfl, b1⟩
    have bb1 := b0.trans (b1.mono b0.size)
    have r1 := r0.up b1
    have hw1 := hw0.keep b1 (by simp)
    have z0 : w1.cell? ⟨w.heap.size, 0, none⟩ = some (.slice A n c) := hw1.cell 0
    have z1 : w1.cell? ⟨w.heap.size, 1, none⟩ = some (.slice R m d) := hw1.cell 1
    clear r0 hw0
    have hwl := hw1.lt
    go_wp2_with fail
    refine wp_region_inv (by kernel_rfl) (by kernel_rfl) (fun L ac ww => ∃ t2 t6 t7 t8 t9 t10 t11 : Value, ac = { tmps := #[heapV A n c R m d, .pointer (some ⟨w.heap.size, 0, none⟩), t2, .agg #[.slice A n c, .slice R m d], .bool true, .bool false, t6, t7, t8, t9, t10, t11], defers := [] } ∧ (Below w1.heap.size w1 ww) ∧ (L 0 = true → t6 = heapV A n c R m d) ∧ (L 1 = true → t7 = .int .u64 (W : Nat)) ∧ (L 2 = true → t8 = (.pointer (some ⟨w.heap.size, 0, none⟩))) ∧ (L 3 = true → t9 = .slice A n c) ∧ (L 4 = true → t10 = .int .i64 (n : Nat)) ∧ (L 5 = true → OwnO ww w1.heap.size t11 (Hps.reachL h.cs h.rt)) ∧ (L 6 = true → OwnO ww w1.heap.size t2 (Hps.reachL h.cs h.rt))) ?h0 ?hstep ?hdone
    case h0 => exact ⟨_, _, _, _, _, _, _, rfl, (Below.refl _ _).drew, (fun h => absurd h Bool.false_ne_true), (fun h => absurd h Bool.false_ne_true), (fun h => absurd h Bool.false_ne_true), (fun h => absurd h Bool.false_ne_true), (fun h => absurd h Bool.false_ne_true), (fun h => absurd h Bool.false_ne_true), (fun h => absurd h Bool.false_ne_true)⟩
    case hstep =>
      rintro L ac ww i o ho hL hd ⟨t2, t6, t7, t8, t9, t10, t11, rfl, I0, f0, f1, f2, f3, f4, f5, f6⟩
      have hi : i < 7 := (Array.getElem?_eq_some_iff.1 ho).1
      obtain rfl | rfl | rfl | rfl | rfl | rfl | rfl : i = 0 ∨ i = 1 ∨ i = 2 ∨ i = 3 ∨ i = 4 ∨ i = 5 ∨ i = 6 := by omega
      · obtain rfl := Option.some.inj ho
        have y0 : ww.cell? ⟨w.heap.size, 0, none⟩ = some (.slice A n c) := (I0.cell (p := ⟨w.heap.size, 0, none⟩) hwl).trans z0
        have y1 : ww.cell? ⟨w.heap.size, 1, none⟩ = some (.slice R m d) := (I0.cell (p := ⟨w.heap.size, 1, none⟩) hwl).trans z1
        refine wpOp_step rfl (fun K' hK => ?_)
        go_simp
        refine hK _ _ ?_
        exact ⟨_, _, _, _, _, _, _, rfl, (I0), (fun _ => rfl), (kp f1), (kp f2), (kp f3), (kp f4), (kp f5), (kp f6)⟩
      · obtain rfl := Option.some.inj ho
        have g0 := f0 (hd ⟨0, .data⟩ (by simp) rfl)
        subst g0
        refine wpOp_step rfl (fun K' hK => ?_)
        go_simp
        refine (reachedSet_any _ _ _ _ _ _ h ww (r1.up I0) HV.out).mono ?_
        rw [HW.out]
        rintro e w' ⟨rfl, b5⟩
        refine hK _ _ ?_
        exact ⟨_, _, _, _, _, _, _, rfl, (I0.trans (b5.mono I0.size)), (kp f0), (fun _ => rfl), (kp f2), (kp f3), (kp f4), (fun h => (f5 (upd_ne h (by decide))).below b5 (Nat.le_refl _)), (fun h => (f6 (upd_ne h (by decide))).below b5 (Nat.le_refl _))⟩
      · obtain rfl := Option.some.inj ho
        refine wpOp_step rfl (fun K' hK => ?_)
        go_simp
        refine hK _ _ ?_
        exact ⟨_, _, _, _, _, _, _, rfl, (I0), (kp f0), (kp f1), (fun _ => rfl), (kp f3), (kp f4), (kp f5), (kp f6)⟩
      · obtain rfl := Option.some.inj ho
        have g2 := f2 (hd ⟨2, .data⟩ (by simp) rfl)
        subst g2
        have y0 : ww.cell? ⟨w.heap.size, 0, none⟩ = some (.slice A n c) := (I0.cell (p := ⟨w.heap.size, 0, none⟩) hwl).trans z0
        have y1 : ww.cell? ⟨w.heap.size, 1, none⟩ = some (.slice R m d) := (I0.cell (p := ⟨w.heap.size, 1, none⟩) hwl).trans z1
        refine wpOp_step rfl (fun K' hK => ?_)
        go_simp
        refine hK _ _ ?_
        exact ⟨_, _, _, _, _, _, _, rfl, (I0), (kp f0), (kp f1), (kp f2), (fun _ => rfl), (kp f4), (kp f5), (kp f6)⟩
      · obtain rfl := Option.some.inj ho
        have g3 := f3 (hd ⟨3, .data⟩ (by simp) rfl)
        subst g3
        refine wpOp_step rfl (fun K' hK => ?_)
        go_simp
        refine hK _ _ ?_
        exact ⟨_, _, _, _, _, _, _, rfl, (I0), (kp f0), (kp f1), (kp f2), (kp f3), (fun _ => rfl), (kp f5), (kp f6)⟩
      · obtain rfl := Option.some.inj ho
        have g1 := f1 (hd ⟨1, .data⟩ (by simp) rfl)
        have g4 := f4 (hd ⟨4, .data⟩ (by simp) rfl)
        subst g1
        subst g4
        refine wpOp_step rfl (fun K' hK => ?_)
        go_simp
        refine (cflags_any W n ww hWlt (by omega)).mono ?_
        rw [HFL.out]
        rintro e w' ⟨v5, rfl, o5, b5⟩
        refine hK _ _ ?_
        exact ⟨_, _, _, _, _, _, _, rfl, (I0.trans (b5.mono I0.size)), (kp f0), (kp f1), (kp f2), (kp f3), (kp f4), (fun _ => o5.base I0.size), (fun h => (f6 (upd_ne h (by decide))).below b5 (Nat.le_refl _))⟩
      · obtain rfl := Option.some.inj ho
        have g5 := f5 (hd ⟨5, .data⟩ (by simp) rfl)
        refine wpOp_step rfl (fun K' hK => ?_)
        go_simp
        refine hK _ _ ?_
        exact ⟨_, _, _, _, _, _, _, rfl, (I0), (kp f0), (kp f1), (kp f2), (kp f3), (kp f4), (kp f5), (fun _ => g5)⟩
    case hdone =>
      rintro L ac ww hall ⟨t2, t6, t7, t8, t9, t10, t11, rfl, I0, f0, f1, f2, f3, f4, f5, f6⟩
      have e0 := f0 (hall 0 (by decide))
      have e1 := f1 (hall 1 (by decide))
      have e2 := f2 (hall 2 (by decide))
      have e3 := f3 (hall 3 (by decide))
      have e4 := f4 (hall 4 (by decide))
      have e5 := f5 (hall 5 (by decide))
      have e6 := f6 (hall 6 (by decide))
      clear f0 f1 f2 f3 f4 f5 f6
      go_wp2
      go_ret
      exact ⟨_, rfl, by rw [HR.out]; exact e6.base bb1.size, bb1.trans (I0.mono bb1.size)⟩
end Go.Proofs.YthmddmddcdofaaaDoor

namespace Go.Proofs.YthmddmddcdofaaaDoor
open Go.RowKit
set_option maxRecDepth 100000
theorem own_noneC (w : World) (base : Nat) (hb : base ≤ w.heap.size) : (w.alloc (.cells #[] 40)).ownsRow base 40 3 (.slice (some ⟨w.heap.size, 0, none⟩) 0 0) 0 [] :=
  World.ownsRow_lit (base := base) (e := 40) (size := 3) w #[] 0 hb (by unfold maxLen; omega) rfl
theorem wpList_appendCs {w : World} {ops : Array Oper} {rest : List Oper} {o : Oper} {a : Act} {Q : Exit → Act → World → Prop} (hgd : o.guard = none) (s x : Operand)
    (ho : o.op = .call { callee := .builtin .append, args := #[s, x], argTypes := #[23, 23] })
    (base : Nat) (v : Value) (n : Nat) (vs : List Value) (hs : a.eval s = v) (hown : w.ownsRow base 40 3 v n vs) (A : Option Addr) (m c : Nat) (ys : List Value) (hx : a.eval x = .slice A m c) (hl : ys.length = m * 3)
    (hA : 0 < m → ∃ ad, A = some ad ∧ ∀ j u, ys[j]? = some u → w.cell? (ad.add j) = some u) (h1 : ∀ u ∈ ys, u.oneCell' = true) (hn : n + m ≤ 1099511627776) (hbase : base ≤ w.heap.size)
    (h : ∀ v' w', w'.ownsRow base 40 3 v' (n + m) (vs ++ ys) → w.grownBy w' v.ownBlock → (v'.ownBlock = v.ownBlock ∨ v'.ownBlock = some w.heap.size) → wpList Tryd.prog ops Q rest (a.put o.dst v') w') : wpList Tryd.prog ops Q (o :: rest) a w :=
  wpList_plain hgd fun _ hK => app_stepCs hgd s x ho base v n vs hs hown A m c ys hx hl hA h1 hn hbase fun v' w' e1 e2 e3 => hK _ _ (h v' w' e1 e2 e3)
/-- cells, copied whole -/
theorem cloneC_any (A : Option Addr) (n c : Nat) (cs : List Cl) (rvs : List Value) (w : World) (hl : cs.length = n) (hr : RefsAt w w.heap.size cs rvs)
    (hA : 0 < n → ∃ g o, A = some ⟨g, o, none⟩ ∧ g < w.heap.size ∧ ∀ (j : Nat) (u : Value), (flatC cs rvs)[j]? = some u → w.cell? ⟨g, o + j, none⟩ = some u) (hn : n ≤ 1099511627776) :
    Calls Tryd.prog 131 #[.slice A n c] w fun e w' => ∃ v, e = .returned v ∧ w'.ownsRow w.heap.size 40 3 v n (flatC cs rvs) ∧ Below w.heap.size w w' := by
  have q : ∀ (w : World) (a : Option Addr) (n c n' c' : Nat), (binOp .eql 23 (.slice a n c) (.slice none n' c')).run Tryd.prog w = .ok (.bool a.isNone) w := fun w a n c n' c' => Lib.run_eql_slice_nil w _ _ a n c n' c' Tryd.underlying23
  have hfl := flatC_length _ _ hr.1
  rw [hl] at hfl
  cases A with
  | none =>
    have h0 : n = 0 := by
      rcases Nat.eq_zero_or_pos n with h0 | h0
      · exact h0
      · obtain ⟨g, o, e, _⟩ := hA h0
        cases e
    subst h0
    have hnil : flatC cs rvs = [] := List.eq_nil_of_length_eq_zero (by omega)
    rw [hnil]
    clear hfl hA hr
    go_enter Tryd.func131, Tryd.ntmps131
    go_wp2
    go_ret
    exact ⟨_, rfl, World.ownsRow_nil _ _ _ _, Below.refl _ _⟩
  | some a =>
    have o0 := own_noneC w w.heap.size (Nat.le_refl _)
    have bl0 : Below w.heap.size w (w.alloc (.cells #[] 40)) := (Below.refl _ _).alloc (Nat.le_refl _) _
    have hone := hr.one
    obtain ⟨ys, hys⟩ : ∃ ys, flatC cs rvs = ys := ⟨_, rfl⟩
    rw [hys] at hA hfl hone ⊢
    have hA2 : 0 < n → ∃ ad, some a = some ad ∧ ∀ (j : Nat) (u : Value), ys[j]? = some u → (w.alloc (.cells #[] 40)).cell? (ad.add j) = some u := fun h0 => by
      obtain ⟨g, o, e, hg, hc⟩ := hA h0
      refine ⟨a, rfl, fun j u hu => ?_⟩
      rw [Option.some.inj e, add_lit]
      exact (bl0.cell (p := ⟨g, o + j, none⟩) hg).trans (hc j u hu)
    clear hr hA hys hl
    go_enter Tryd.func131, Tryd.ntmps131
    go_wp2_with (at_builtin; refine wpList_appendCs rfl (.tmp 5) (.tmp 6) rfl w.heap.size _ 0 [] rfl o0 (some a) n c ys rfl hfl hA2 hone (by omega) (by simp) ?_; intro v1 w1 o1 g1 s1)
    go_ret
    refine ⟨_, rfl, ?_, bl0.grown g1 (by simp) (fun k hk => (World.ownsRow.lt o0 k hk).1)⟩
    simpa using o1
/-- a copy of which the first k cells have references of their own; the others share theirs still -/
structure MidH (w : World) (base : Nat) (vc vr : Value) (ovs rvs : List Value) (k : Nat) (h : Hp) : Prop where
  len : ovs.length = k
  le : k ≤ h.cs.length
  all : rvs.length = h.cs.length
  row : w.ownsRow base 40 3 vc h.cs.length (flatC h.cs (ovs ++ rvs.drop k))
  refs : ∀ (j : Nat) (c : Cl) (v : Value), h.cs[j]? = some c → ovs[j]? = some v → OwnI w base v c.r
  roots : OwnI w base vr h.rt
  sep : Sep (vc :: vr :: ovs)
section
variable {w w' : World} {base k : Nat} {vc vr v : Value} {ovs rvs : List Value} {h : Hp}
theorem MidH.below (S : MidH w base vc vr ovs rvs k h) {B : Nat} (hb : Below B w w') (hB : w.heap.size ≤ B) : MidH w' base vc vr ovs rvs k h :=
  ⟨S.len, S.le, S.all, row_below S.row hb hB, fun j c v hc hv => (S.refs j c v hc hv).below hb hB, S.roots.below hb hB, S.sep⟩
theorem MidH.blocks (S : MidH w base vc vr ovs rvs k h) {v : Value} (hv : v ∈ vc :: vr :: ovs) {b : Nat} (hb : v.ownBlock = some b) : base ≤ b ∧ b < w.heap.size := by
  simp only [List.mem_cons] at hv
  rcases hv with rfl | rfl | hv
  · exact World.ownsRow.lt S.row b hb
  · exact World.ownsRow.lt S.roots b hb
  · obtain ⟨i, hi⟩ := List.mem_iff_getElem?.1 hv
    have hlt := (List.getElem?_eq_some_iff.1 hi).1
    have hc := List.getElem?_eq_getElem (show i < h.cs.length by have := S.len; have := S.le; omega)
    exact World.ownsRow.lt (S.refs i _ v hc hi) b hb
/-- what lies in no block of the copy's is apart from it -/
theorem MidH.apart_new (S : MidH w base vc vr ovs rvs k h) {b : Nat} (hb : w.heap.size ≤ b) : Apart (some b) (vc :: vr :: ovs) := fun v hv => by
  cases e : v.ownBlock with
  | none => exact .inl rfl
  | some q =>
    right
    have := (S.blocks hv e).2
    intro he
    have he := Option.some.inj he
    omega
theorem MidH.far (S : MidH w base vc vr ovs rvs k h) {row : Option Nat} (hg : w.grownBy w' row) (ha : Apart row (vc :: vr :: ovs)) : MidH w' base vc vr ovs rvs k h :=
  ⟨S.len, S.le, S.all, World.ownsRow.kept S.row hg (ha vc (by simp)), fun j c v hc hv => (S.refs j c v hc hv).far hg (ha v (by simp [List.mem_of_getElem? hv])), S.roots.far hg (ha vr (by simp)), S.sep⟩
theorem MidH.base' (S : MidH w base vc vr ovs rvs k h) {b : Nat} (hb : b ≤ base) : MidH w b vc vr ovs rvs k h :=
  ⟨S.len, S.le, S.all, row_base S.row hb, fun j c v hc hv => (S.refs j c v hc hv).base hb, S.roots.base hb, S.sep⟩
/-- the next cell gets references of its own -/
theorem MidH.next {g n c : Nat} {cl : Cl} (S : MidH w base (.slice (some ⟨g, 0, none⟩) n c) vr ovs rvs k h) (hn : h.cs.length = n) (hc : h.cs[k]? = some cl) (o : OwnI w base v cl.r)
    (hap : ∀ u ∈ (Value.slice (some ⟨g, 0, none⟩) n c) :: vr :: ovs, v.ownBlock = none ∨ v.ownBlock ≠ u.ownBlock) : MidH (w.setCell ⟨g, k * 3 + 2, none⟩ v) base (.slice (some ⟨g, 0, none⟩) n c) vr (ovs ++ [v]) rvs (k + 1) h := by
  have hk : k < h.cs.length := (List.getElem?_eq_some_iff.1 hc).1
  have hsp := S.sep
  unfold Sep at hsp
  rw [List.pairwise_cons, List.pairwise_cons] at hsp
  have ap : ∀ u ∈ vr :: ovs, u.ownBlock = none ∨ u.ownBlock ≠ some g := fun u hu => sep_back (hsp.1 u hu)
  have hvg : v.ownBlock = none ∨ v.ownBlock ≠ some g := hap (.slice (some ⟨g, 0, none⟩) n c) (by simp)
  refine ⟨by simp [S.len], by omega, S.all, ?_, fun j c' u hc' hu => ?_, S.roots.far (put_any w g _ _) (ap vr (by simp)), ?_⟩
  · have hrow : w.ownsRow base 40 3 (.slice (some ⟨g, 0, none⟩) h.cs.length c) h.cs.length (flatC h.cs (ovs ++ rvs.drop k)) := by
      have := S.row
      rwa [hn] at this ⊢
    have q := (World.ownsRow.stored hrow (k * 3 + 2) v).1
    rw [flatC_set_r _ _ _ _ _ cl.r (by simp [S.len, S.all]; omega) hc] at q
    have e1 : h.cs.set k ⟨cl.u, cl.d, cl.r⟩ = h.cs := by
      obtain ⟨h1, h2⟩ := List.getElem?_eq_some_iff.1 hc
      show h.cs.set k cl = h.cs
      rw [← h2]
      exact List.set_getElem_self h1
    have e2 : (ovs ++ rvs.drop k).set k v = (ovs ++ [v]) ++ rvs.drop (k + 1) := by
      rw [List.set_append_right _ _ (by rw [S.len]; exact Nat.le_refl _), S.len, Nat.sub_self, List.append_assoc]
      congr 1
      rw [List.drop_eq_getElem_cons (by rw [S.all]; exact hk)]
      rfl
    rw [e1, e2] at q
    rw [hn] at q ⊢
    exact q
  · rcases Nat.lt_or_ge j k with hj | hj
    · rw [List.getElem?_append_left (by rw [S.len]; exact hj)] at hu
      exact (S.refs j c' u hc' hu).far (put_any w g _ _) (ap u (by simp [List.mem_of_getElem? hu]))
    · have hjk : j = k := by
        have := (List.getElem?_eq_some_iff.1 hu).1
        simp [S.len] at this
        omega
      subst hjk
      rw [hc] at hc'
      rw [List.getElem?_append_right (by rw [S.len]; exact Nat.le_refl _), S.len, Nat.sub_self] at hu
      have hu : v = u := by simpa using hu
      rw [← hu, ← Option.some.inj hc']
      exact o.far (put_any w g _ _) hvg
  · unfold Sep
    rw [List.pairwise_cons, List.pairwise_cons]
    refine ⟨fun u hu => ?_, fun u hu => ?_, ?_⟩
    · rw [List.mem_cons, List.mem_append, List.mem_singleton] at hu
      rcases hu with rfl | hu | rfl
      · exact hsp.1 u (by simp)
      · exact hsp.1 u (by simp [hu])
      · exact sep_back (hap _ (by simp))
    · rw [List.mem_append, List.mem_singleton] at hu
      rcases hu with hu | rfl
      · exact hsp.2.1 u hu
      · exact sep_back (hap _ (by simp))
    · rw [List.pairwise_append]
      refine ⟨hsp.2.2, List.pairwise_singleton _ _, fun a ha b hb => ?_⟩
      rw [List.mem_singleton] at hb
      subst hb
      exact sep_back (hap a (by simp [ha]))
theorem MidH.done (S : MidH w base vc vr ovs rvs k h) (hk : k = h.cs.length) : OwnHx w base vc vr ovs h := by
  refine ⟨by rw [S.len, hk], ?_, S.refs, S.roots, S.sep⟩
  have := S.row
  rwa [hk, List.drop_of_length_le (by rw [S.all]; exact Nat.le_refl _), List.append_nil] at this
theorem MidH.form (S : MidH w base vc vr ovs rvs k h) : ∃ A c R d, vc = .slice A h.cs.length c ∧ vr = .slice R h.rt.length d ∧ h.cs.length ≤ c ∧ (0 < h.cs.length → ∃ g, A = some ⟨g, 0, none⟩ ∧ base ≤ g ∧ g < w.heap.size) := by
  obtain ⟨R, d, rfl, hR⟩ := S.roots.form
  rcases S.row.2 with ⟨e, h0⟩ | ⟨g, cap, cur, e, hb, hh, hc, _⟩
  · exact ⟨none, 0, R, d, by rw [e, h0], rfl, by omega, fun h => by omega⟩
  · exact ⟨some ⟨g, 0, none⟩, cap, R, d, e, rfl, hc, fun _ => ⟨g, rfl, hb, (Array.getElem?_eq_some_iff.1 hh).1⟩⟩
/-- the references that the next cell still shares -/
theorem MidH.ref {g n c : Nat} {cl : Cl} {B : Nat} (S : MidH w base (.slice (some ⟨g, 0, none⟩) n c) vr ovs rvs k h) (hn : h.cs.length = n) (hc : h.cs[k]? = some cl) (hr : RefsAt w B h.cs rvs) :
    ∃ A m cc, w.cell? ⟨g, k * 3 + 2, none⟩ = some (.slice A m cc) ∧ m ≤ cc ∧ IS w B A m cl.r ∧ ∀ i, w.frozen? ⟨g, i, none⟩ = false := by
  have hk : k < h.cs.length := (List.getElem?_eq_some_iff.1 hc).1
  have hv := List.getElem?_eq_getElem (show k < rvs.length by rw [S.all]; exact hk)
  obtain ⟨A, m, cc, e, hm, hi⟩ := hr.2 k cl _ hc hv
  have hv2 : (ovs ++ rvs.drop k)[k]? = some (.slice A m cc) := by
    rw [List.getElem?_append_right (by rw [S.len]; exact Nat.le_refl _), S.len, Nat.sub_self, List.getElem?_drop, Nat.add_zero, hv, e]
  obtain ⟨_, _, f3⟩ := flatC_at _ _ _ _ _ hc hv2
  have hrow : w.ownsRow base 40 3 (.slice (some ⟨g, 0, none⟩) h.cs.length c) h.cs.length (flatC h.cs (ovs ++ rvs.drop k)) := by
    have := S.row
    rwa [hn] at this ⊢
  exact ⟨A, m, cc, (World.ownsRow.cellAt hrow _ (by omega)).trans f3, hm, hi, fun i => World.ownsRow.frozenAt hrow i⟩
end
end Go.Proofs.YthmddmddcdofaaaDoor

namespace Go.Proofs.YthmddmddcdofaaaDoor
open Go.RowKit
set_option maxRecDepth 100000
theorem row_form {w : World} {base n s : Nat} {e : TypeId} {v : Value} {xs : List Value} (h : w.ownsRow base e s v n xs) : ∃ A c, v = .slice A n c := by
  rcases h.2 with ⟨rfl, h0⟩ | ⟨g, cap, cur, rfl, _⟩
  · exact ⟨none, 0, by rw [h0]⟩
  · exact ⟨_, _, rfl⟩
set_option maxHeartbeats 4000000 in
theorem cloneHeap_any (A R : Option Addr) (n c m d : Nat) (h : Hp) (w : World) (hs : HS w w.heap.size A n R m h) (hn : n ≤ 1099511627776) (hm : m ≤ 1099511627776) (h3 : ∀ cl ∈ h.cs, cl.r.length ≤ 1000000) :
    Calls Tryd.prog 92 #[heapV A n c R m d] w (GaveH w h) := by
  have hlc := hs.cells.1
  obtain ⟨rvs, hrv, hrA⟩ := hs.cells.refs
  have B2 : Below w.heap.size w ((w.alloc (.cells #[.slice A n c, .slice R m d] 26)).alloc (.cells #[.slice none 0 0, .slice none 0 0] 26)) := ((Below.refl _ _).alloc (Nat.le_refl _) _).alloc (by simp) _
  have Q1 := (Rw.new w 26 #[.slice A n c, .slice R m d]).alloc (.cells #[.slice none 0 0, .slice none 0 0] 26)
  have Q2 := Rw.new (w.alloc (.cells #[.slice A n c, .slice R m d] 26)) 26 #[.slice none 0 0, .slice none 0 0]
  simp only [World.size_alloc] at Q2
  have H3 := Lib.hid h3
  have HLC := Lib.hid hlc
  have HRV := Lib.hid hrv
  have HRA := Lib.hid hrA
  clear h3 hlc hrv hrA
  go_enter Tryd.func92, Tryd.ntmps92
  go_upto_region 1 with fail
  generalize ((w.alloc (.cells #[.slice A n c, .slice R m d] 26)).alloc (.cells #[.slice none 0 0, .slice none 0 0] 26)) = w2 at B2 Q1 Q2 ⊢
  have hz := Q2.lt
  refine wp_region_inv (by kernel_rfl) (by kernel_rfl) (fun L ac ww => ∃ t3 t5 t6 t7 t8 t9 t10 t11 : Value, ac = { tmps := #[heapV A n c R m d, Value.pointer (some { block := w.heap.size, off := 0 }), Value.pointer (some { block := w.heap.size + 1, off := 0 }), t3, undef, t5, t6, t7, t8, t9, t10, t11, undef, undef, undef, undef, undef, undef, undef, undef, undef, undef, undef, undef, undef, undef, undef, undef, undef, undef, undef, undef], defers := [] } ∧ (Below w2.heap.size w2 ww) ∧ (L 0 = true → t5 = .pointer (some ⟨w.heap.size, 0, none⟩)) ∧ (L 1 = true → t6 = .slice A n c) ∧ (L 2 = true → ww.ownsRow w2.heap.size 40 3 t7 n (flatC h.cs rvs)) ∧ (L 3 = true → t8 = .pointer (some ⟨w.heap.size, 1, none⟩)) ∧ (L 4 = true → t9 = .slice R m d) ∧ (L 5 = true → OwnI ww w2.heap.size t10 h.rt ∧ (t7.ownBlock = none ∨ t7.ownBlock ≠ t10.ownBlock) ∧ L 2 = true) ∧ (L 6 = true → t11 = .agg #[t7, t10] ∧ L 5 = true ∧ L 2 = true) ∧ (L 7 = true → ∃ g3, t3 = .pointer (some ⟨g3, 0, none⟩) ∧ w2.heap.size ≤ g3 ∧ ∃ cs, Rw ww g3 26 cs ∧ cs = (if L 8 = true then #[t7, t10] else #[.slice none 0 0, .slice none 0 0])) ∧ (L 8 = true → L 7 = true ∧ L 5 = true ∧ L 2 = true)) ?h0 ?hstep ?hdone
  case h0 => exact ⟨_, _, _, _, _, _, _, _, rfl, (Below.refl _ _).drew, (fun h => absurd h Bool.false_ne_true), (fun h => absurd h Bool.false_ne_true), (fun h => absurd h Bool.false_ne_true), (fun h => absurd h Bool.false_ne_true), (fun h => absurd h Bool.false_ne_true), (fun h => absurd h Bool.false_ne_true), (fun h => absurd h Bool.false_ne_true), (fun h => absurd h Bool.false_ne_true), (fun h => absurd h Bool.false_ne_true)⟩
  case hstep =>
    rintro L ac ww i o ho hL hd ⟨t3, t5, t6, t7, t8, t9, t10, t11, rfl, I0, f0, f1, f2, f3, f4, f5, f6, f7, f8⟩
    have hi : i < 9 := (Array.getElem?_eq_some_iff.1 ho).1
    obtain rfl | rfl | rfl | rfl | rfl | rfl | rfl | rfl | rfl : i = 0 ∨ i = 1 ∨ i = 2 ∨ i = 3 ∨ i = 4 ∨ i = 5 ∨ i = 6 ∨ i = 7 ∨ i = 8 := by omega
    · obtain rfl := Option.some.inj ho
      refine wpOp_step rfl (fun K' hK => ?_)
      go_simp
      refine hK _ _ ?_
      exact ⟨_, _, _, _, _, _, _, _, rfl, (I0), (fun _ => rfl), (kp f1), (kp f2), (kp f3), (kp f4), (fun h => ⟨(f5 (upd_ne h (by decide))).1, (f5 (upd_ne h (by decide))).2.1, upd_mono (f5 (upd_ne h (by decide))).2.2⟩), (fun h => ⟨(f6 (upd_ne h (by decide))).1, upd_mono (f6 (upd_ne h (by decide))).2.1, upd_mono (f6 (upd_ne h (by decide))).2.2⟩), (fun h => by
        obtain ⟨g3, e3, h3, cs, h5, h6⟩ := f7 (upd_ne h (by decide))
        exact ⟨g3, e3, h3, cs, h5, by rw [h6, upd_other (by decide)]⟩), (fun h => ⟨upd_mono (f8 (upd_ne h (by decide))).1, upd_mono (f8 (upd_ne h (by decide))).2.1, upd_mono (f8 (upd_ne h (by decide))).2.2⟩)⟩
    · obtain rfl := Option.some.inj ho
      have g0 := f0 (hd ⟨0, .data⟩ (by simp) rfl)
      subst g0
      have z0 : ww.cell? ⟨w.heap.size, 0, none⟩ = some (.slice A n c) := (I0.cell (p := ⟨w.heap.size, 0, none⟩) (by show w.heap.size < w2.heap.size; omega)).trans (Q1.cell 0)
      refine wpOp_step rfl (fun K' hK => ?_)
      go_simp
      refine hK _ _ ?_
      exact ⟨_, _, _, _, _, _, _, _, rfl, (I0), (kp f0), (fun _ => rfl), (kp f2), (kp f3), (kp f4), (fun h => ⟨(f5 (upd_ne h (by decide))).1, (f5 (upd_ne h (by decide))).2.1, upd_mono (f5 (upd_ne h (by decide))).2.2⟩), (fun h => ⟨(f6 (upd_ne h (by decide))).1, upd_mono (f6 (upd_ne h (by decide))).2.1, upd_mono (f6 (upd_ne h (by decide))).2.2⟩), (fun h => by
        obtain ⟨g3, e3, h3, cs, h5, h6⟩ := f7 (upd_ne h (by decide))
        exact ⟨g3, e3, h3, cs, h5, by rw [h6, upd_other (by decide)]⟩), (fun h => ⟨upd_mono (f8 (upd_ne h (by decide))).1, upd_mono (f8 (upd_ne h (by decide))).2.1, upd_mono (f8 (upd_ne h (by decide))).2.2⟩)⟩
    · obtain rfl := Option.some.inj ho
      have g1 := f1 (hd ⟨1, .data⟩ (by simp) rfl)
      subst g1
      refine wpOp_step rfl (fun K' hK => ?_)
      go_simp
      have bw := B2.trans (I0.mono B2.size)
      have hrv := (hs.up bw)
      obtain ⟨rvs2, hr2, hA2⟩ := (hs.below bw).cells.refs
      refine (cloneC_any A n c h.cs rvs ww HLC.out (by have := HRV.out.below bw; exact ⟨this.1, fun k c v hc hv => by obtain ⟨A1, m1, c1, e, h1, h2⟩ := this.2 k c v hc hv; exact ⟨A1, m1, c1, e, h1, h2.more bw.size⟩⟩) (fun h0 => by obtain ⟨g, o, e, hg, hc⟩ := HRA.out h0; exact ⟨g, o, e, Nat.lt_of_lt_of_le hg bw.size, fun j u hu => (bw.cell (p := ⟨g, o + j, none⟩) hg).trans (hc j u hu)⟩) hn).mono ?_
      rintro e w' ⟨v1, rfl, o1, b5⟩
      refine hK _ _ ?_
      exact ⟨_, _, _, _, _, _, _, _, rfl, (I0.trans (b5.mono I0.size)), (kp f0), (kp f1), (fun _ => row_base o1 I0.size), (kp f3), (kp f4), (fun h => by
        have h1 := upd_ne h (by decide)
        exact absurd (f5 h1).2.2 (by rw [hL]; decide)), (fun h => absurd (f6 (upd_ne h (by decide))).2.2 (by rw [hL]; decide)), (fun h => by
        have hL7 := upd_ne h (by decide)
        obtain ⟨g3, e3, h3, cs, h5, h6⟩ := f7 hL7
        have hL8 : L 8 = false := by
          cases e : L 8
          · rfl
          · have := (f8 e).2.2
            rw [hL] at this
            cases this
        rw [if_neg (by rw [hL8]; decide)] at h6
        exact ⟨g3, e3, h3, cs, h5.keep b5 h5.lt, by rw [h6, upd_other (by decide), if_neg (by rw [hL8]; decide)]⟩), (fun h => ⟨upd_mono (f8 (upd_ne h (by decide))).1, upd_mono (f8 (upd_ne h (by decide))).2.1, upd_mono (f8 (upd_ne h (by decide))).2.2⟩)⟩
    · obtain rfl := Option.some.inj ho
      refine wpOp_step rfl (fun K' hK => ?_)
      go_simp
      refine hK _ _ ?_
      exact ⟨_, _, _, _, _, _, _, _, rfl, (I0), (kp f0), (kp f1), (kp f2), (fun _ => rfl), (kp f4), (fun h => ⟨(f5 (upd_ne h (by decide))).1, (f5 (upd_ne h (by decide))).2.1, upd_mono (f5 (upd_ne h (by decide))).2.2⟩), (fun h => ⟨(f6 (upd_ne h (by decide))).1, upd_mono (f6 (upd_ne h (by decide))).2.1, upd_mono (f6 (upd_ne h (by decide))).2.2⟩), (fun h => by
        obtain ⟨g3, e3, h3, cs, h5, h6⟩ := f7 (upd_ne h (by decide))
        exact ⟨g3, e3, h3, cs, h5, by rw [h6, upd_other (by decide)]⟩), (fun h => ⟨upd_mono (f8 (upd_ne h (by decide))).1, upd_mono (f8 (upd_ne h (by decide))).2.1, upd_mono (f8 (upd_ne h (by decide))).2.2⟩)⟩
    · obtain rfl := Option.some.inj ho
      have g3 := f3 (hd ⟨3, .data⟩ (by simp) rfl)
      subst g3
      have z1 : ww.cell? ⟨w.heap.size, 1, none⟩ = some (.slice R m d) := (I0.cell (p := ⟨w.heap.size, 1, none⟩) (by show w.heap.size < w2.heap.size; omega)).trans (Q1.cell 1)
      refine wpOp_step rfl (fun K' hK => ?_)
      go_simp
      refine hK _ _ ?_
      exact ⟨_, _, _, _, _, _, _, _, rfl, (I0), (kp f0), (kp f1), (kp f2), (kp f3), (fun _ => rfl), (fun h => ⟨(f5 (upd_ne h (by decide))).1, (f5 (upd_ne h (by decide))).2.1, upd_mono (f5 (upd_ne h (by decide))).2.2⟩), (fun h => ⟨(f6 (upd_ne h (by decide))).1, upd_mono (f6 (upd_ne h (by decide))).2.1, upd_mono (f6 (upd_ne h (by decide))).2.2⟩), (fun h => by
        obtain ⟨g3, e3, h3, cs, h5, h6⟩ := f7 (upd_ne h (by decide))
        exact ⟨g3, e3, h3, cs, h5, by rw [h6, upd_other (by decide)]⟩), (fun h => ⟨upd_mono (f8 (upd_ne h (by decide))).1, upd_mono (f8 (upd_ne h (by decide))).2.1, upd_mono (f8 (upd_ne h (by decide))).2.2⟩)⟩
    · obtain rfl := Option.some.inj ho
      have g4 := f4 (hd ⟨4, .data⟩ (by simp) rfl)
      subst g4
      have g2 := f2 (hd ⟨2, .chain⟩ (by simp) rfl)
      refine wpOp_step rfl (fun K' hK => ?_)
      go_simp
      have bw := B2.trans (I0.mono B2.size)
      refine (cloneI_any R m d h.rt ww ((hs.up bw).roots) hm).mono ?_
      rintro e w' ⟨v1, rfl, o1, b5⟩
      refine hK _ _ ?_
      exact ⟨_, _, _, _, _, _, _, _, rfl, (I0.trans (b5.mono I0.size)), (kp f0), (kp f1), (fun h => row_below (f2 (upd_ne h (by decide))) b5 (Nat.le_refl _)), (kp f3), (kp f4), (fun _ => ⟨o1.base I0.size, by
        cases e7 : t7.ownBlock with
        | none => exact .inl rfl
        | some q =>
          right
          intro e
          have a1 := (World.ownsRow.lt g2 q e7).2
          have a2 := (World.ownsRow.lt o1 q e.symm).1
          omega, by rw [upd_other (by decide)]; exact hd ⟨2, .chain⟩ (by simp) rfl⟩), (fun h => absurd (f6 (upd_ne h (by decide))).2.1 (by rw [hL]; decide)), (fun h => by
        have hL7 := upd_ne h (by decide)
        obtain ⟨g3, e3, h3, cs, h5, h6⟩ := f7 hL7
        have hL8 : L 8 = false := by
          cases e : L 8
          · rfl
          · have := (f8 e).2.1
            rw [hL] at this
            cases this
        rw [if_neg (by rw [hL8]; decide)] at h6
        exact ⟨g3, e3, h3, cs, h5.keep b5 h5.lt, by rw [h6, upd_other (by decide), if_neg (by rw [hL8]; decide)]⟩), (fun h => ⟨upd_mono (f8 (upd_ne h (by decide))).1, upd_mono (f8 (upd_ne h (by decide))).2.1, upd_mono (f8 (upd_ne h (by decide))).2.2⟩)⟩
    · obtain rfl := Option.some.inj ho
      have g2 := f2 (hd ⟨2, .data⟩ (by simp) rfl)
      have g5 := f5 (hd ⟨5, .data⟩ (by simp) rfl)
      have l5 := hd ⟨5, .data⟩ (by simp) rfl
      have l2 := hd ⟨2, .data⟩ (by simp) rfl
      obtain ⟨A7, c7, rfl⟩ := row_form g2
      obtain ⟨A9, d9, rfl, -⟩ := g5.1.form
      refine wpOp_step rfl (fun K' hK => ?_)
      go_simp
      refine hK _ _ ?_
      exact ⟨_, _, _, _, _, _, _, _, rfl, (I0), (kp f0), (kp f1), (kp f2), (kp f3), (kp f4), (fun h => ⟨(f5 (upd_ne h (by decide))).1, (f5 (upd_ne h (by decide))).2.1, upd_mono (f5 (upd_ne h (by decide))).2.2⟩), (fun _ => ⟨rfl, upd_mono l5, upd_mono l2⟩), (fun h => by
        obtain ⟨g3, e3, h3, cs, h5, h6⟩ := f7 (upd_ne h (by decide))
        exact ⟨g3, e3, h3, cs, h5, by rw [h6, upd_other (by decide)]⟩), (fun h => ⟨upd_mono (f8 (upd_ne h (by decide))).1, upd_mono (f8 (upd_ne h (by decide))).2.1, upd_mono (f8 (upd_ne h (by decide))).2.2⟩)⟩
    · obtain rfl := Option.some.inj ho
      have hL8 : L 8 = false := by
        cases e : L 8
        · rfl
        · exact absurd (f8 e).1 (by rw [hL]; decide)
      refine wpOp_step rfl (fun K' hK => ?_)
      go_simp
      have b5 : Below ww.heap.size ww (ww.alloc (.cells #[.slice none 0 0, .slice none 0 0] 26)) := (Below.refl _ _).alloc (Nat.le_refl _) _
      refine hK _ _ ?_
      exact ⟨_, _, _, _, _, _, _, _, rfl, (I0.alloc I0.size _), (kp f0), (kp f1), (fun h => row_below (f2 (upd_ne h (by decide))) b5 (Nat.le_refl _)), (kp f3), (kp f4), (fun h => ⟨(f5 (upd_ne h (by decide))).1.below b5 (Nat.le_refl _), (f5 (upd_ne h (by decide))).2.1, upd_mono (f5 (upd_ne h (by decide))).2.2⟩), (fun h => ⟨(f6 (upd_ne h (by decide))).1, upd_mono (f6 (upd_ne h (by decide))).2.1, upd_mono (f6 (upd_ne h (by decide))).2.2⟩), (fun _ => ⟨_, rfl, I0.size, _, Rw.new _ _ _, by rw [upd_other (by decide), hL8, if_neg (by decide)]⟩), (fun h => ⟨upd_mono (f8 (upd_ne h (by decide))).1, upd_mono (f8 (upd_ne h (by decide))).2.1, upd_mono (f8 (upd_ne h (by decide))).2.2⟩)⟩
    · obtain rfl := Option.some.inj ho
      have g6 := f6 (hd ⟨6, .data⟩ (by simp) rfl)
      have g7 := f7 (hd ⟨7, .data⟩ (by simp) rfl)
      have l5 := hd ⟨5, .chain⟩ (by simp) rfl
      have l7 := hd ⟨7, .data⟩ (by simp) rfl
      have g5 := f5 l5
      have g2 := f2 g5.2.2
      have l2 := g5.2.2
      obtain ⟨g6, -, -⟩ := g6
      subst g6
      obtain ⟨g3, e3, h3, cs, h5, h6⟩ := g7
      rw [hL, if_neg (by decide)] at h6
      subst h6
      subst e3
      obtain ⟨A7, c7, rfl⟩ := row_form g2
      obtain ⟨A9, d9, rfl, -⟩ := g5.1.form
      have a7 : (Value.slice A7 n c7).ownBlock = none ∨ (Value.slice A7 n c7).ownBlock ≠ some g3 := .inr (row_type g2 h5 (by decide)).symm
      have a9 : (Value.slice A9 h.rt.length d9).ownBlock = none ∨ (Value.slice A9 h.rt.length d9).ownBlock ≠ some g3 := .inr (row_type g5.1 h5 (by decide)).symm
      have c0 := h5.cell 0
      have c1 := h5.cell 1
      simp only [List.getElem?_toArray, List.getElem?_cons_zero, List.getElem?_cons_succ] at c0 c1
      have z0 := h5.frozen 0
      have z1 := h5.frozen 1
      have hput := (h5.put 0 (.slice A7 n c7)).put 1 (.slice A9 h.rt.length d9)
      refine wpOp_step rfl (fun K' hK => ?_)
      go_simp
      refine hK _ _ ?_
      exact ⟨_, _, _, _, _, _, _, _, rfl, ((I0.setCell (p := ⟨g3, 0, none⟩) (by show w2.heap.size ≤ g3; omega) _).setCell (p := ⟨g3, 1, none⟩) (by show w2.heap.size ≤ g3; omega) _), (kp f0), (kp f1), (fun _ => World.ownsRow.kept (World.ownsRow.kept g2 (put_any ww g3 0 _) a7) (put_any _ g3 1 _) a7), (kp f3), (kp f4), (fun _ => ⟨(g5.1.far (put_any ww g3 0 _) a9).far (put_any _ g3 1 _) a9, g5.2.1, upd_mono l2⟩), (fun h => ⟨(f6 (upd_ne h (by decide))).1, upd_mono (f6 (upd_ne h (by decide))).2.1, upd_mono (f6 (upd_ne h (by decide))).2.2⟩), (fun _ => ⟨g3, rfl, h3, _, hput, by rw [upd_self, if_pos rfl]; rfl⟩), (fun _ => ⟨upd_mono l7, upd_mono l5, upd_mono l2⟩)⟩
  case hdone =>
    rintro L ac ww hall ⟨t3, t5, t6, t7, t8, t9, t10, t11, rfl, I0, f0, f1, f2, f3, f4, f5, f6, f7, f8⟩
    have e0 := f0 (hall 0 (by decide))
    have e1 := f1 (hall 1 (by decide))
    have e2 := f2 (hall 2 (by decide))
    have e3 := f3 (hall 3 (by decide))
    have e4 := f4 (hall 4 (by decide))
    have e5 := f5 (hall 5 (by decide))
    have e6 := f6 (hall 6 (by decide))
    have e7 := f7 (hall 7 (by decide))
    have e8 := f8 (hall 8 (by decide))
    clear f0 f1 f2 f3 f4 f5 f6 f7 f8
    obtain ⟨g3, rfl, hg3, cs, BX, e9⟩ := e7
    rw [hall 8 (by decide), if_pos rfl] at e9
    subst e9
    obtain ⟨e6, -, -⟩ := e6
    subst e0 e1 e3 e4 e6
    obtain ⟨A7, c7, rfl⟩ := row_form e2
    have OR := e5.1
    obtain ⟨A9, d9, rfl, -⟩ := OR.form
    have SP := e5.2.1
    clear e5 e8 hall
    have S0 : MidH ww w2.heap.size (.slice A7 n c7) (.slice A9 h.rt.length d9) [] rvs 0 h :=
      ⟨rfl, Nat.zero_le _, HRV.out.1, by rw [HLC.out]; exact e2, fun j cl v hc hv => by simp at hv, OR, by simp [Sep]; exact SP⟩
    have AP : Apart (some g3) (Value.slice A7 n c7 :: Value.slice A9 h.rt.length d9 :: []) := by
      intro u hu
      simp only [List.mem_cons, List.not_mem_nil, or_false] at hu
      rcases hu with rfl | rfl
      · exact .inr (row_type e2 BX (by decide)).symm
      · exact .inr (row_type OR BX (by decide)).symm
    clear e2 OR SP
    have c0 := BX.cell 0
    have c1 := BX.cell 1
    simp only [List.getElem?_toArray, List.getElem?_cons_zero, List.getElem?_cons_succ] at c0 c1
    go_wp2_with fail
    go_loopw [15] (fun i wr => ∃ (k : Nat) (ovs : List Value), k ≤ n ∧ i = .int .i64 k ∧ MidH wr w2.heap.size (.slice A7 n c7) (.slice A9 h.rt.length d9) ovs rvs k h ∧ Apart (some g3) (Value.slice A7 n c7 :: Value.slice A9 h.rt.length d9 :: ovs) ∧ Rw wr g3 26 #[.slice A7 n c7, .slice A9 h.rt.length d9] ∧ Below w2.heap.size w2 wr) (fun i _ => n - (intOf i).toNat)
    case atStart => exact ⟨0, [], Nat.zero_le _, rfl, S0, AP, BX, I0⟩
    case round =>
      clear S0 AP BX I0 c0 c1
      obtain ⟨k, ovs, hk, rfl, S, AP, BX, IW⟩ := hrel
      have bw := B2.trans (IW.mono B2.size)
      by_cases hlt : k < n
      · have hck := List.getElem?_eq_getElem (show k < h.cs.length by rw [HLC.out]; exact hlt)
        generalize h.cs[k]'(by rw [HLC.out]; exact hlt) = cl at hck
        obtain ⟨A8, c8, R8, d8, q1, -, -, fA⟩ := S.form
        obtain ⟨g, hg0, hg1, hg2⟩ := fA (by rw [HLC.out]; omega)
        have hA7 : A7 = some ⟨g, 0, none⟩ := by
          have q1 := q1
          injection q1 with q1 _ _
          exact q1.trans hg0
        subst hA7
        clear q1 fA hg0
        obtain ⟨A1, m1, c1, x2, hm1, is1, fz⟩ := S.ref HLC.out hck (HRV.out.below bw)
        have is2 := is1.more bw.size
        have hm3 : m1 ≤ 1099511627776 := by
          have := is1.1
          have := H3.out cl (List.mem_of_getElem? hck)
          omega
        have x0 := BX.cell 0
        simp only [List.getElem?_toArray, List.getElem?_cons_zero] at x0
        have hlt' : (k : Int) < n := by omega
        have hbx := BX.lt
        have fzg := fz (k * 3 + 2)
        clear is1 fz hm1
        have HCK := Lib.hid hck
        have SS := Lib.hid S
        have AA := Lib.hid AP
        have BB := Lib.hid BX
        clear hck S AP BX
        go_upto_region 5 with fail
        refine wp_region_inv (by kernel_rfl) (by kernel_rfl) (fun L ac ww => ∃ t18 t19 t20 t21 t22 t23 t24 t25 t26 t27 t28 t29 : Value, ac = { tmps := #[heapV A n c R m d, Value.pointer (some { block := w.heap.size, off := 0 }), Value.pointer (some { block := w.heap.size + 1, off := 0 }), Value.pointer (some { block := g3, off := 0 }), Value.int IntKind.i64 ↑k, Value.pointer (some { block := w.heap.size, off := 0 }), Value.slice A n c, Value.slice (some { block := g, off := 0 }) n c7, Value.pointer (some { block := w.heap.size, off := 1 }), Value.slice R m d, Value.slice A9 h.rt.length d9, Value.agg #[Value.slice (some { block := g, off := 0 }) n c7, Value.slice A9 h.rt.length d9], Value.pointer (some { block := g3, off := 0 }), Value.slice (some { block := g, off := 0 }) n c7, Value.int IntKind.i64 ↑n, Value.int IntKind.i64 ↑k, Value.bool true, Value.int IntKind.i64 ↑k, t18, t19, t20, t21, t22, t23, t24, t25, t26, t27, t28, t29, u30, undef], defers := [] } ∧ (L 12 = false → Below wr.heap.size wr ww) ∧ (L 0 = true → t18 = .pointer (some ⟨g3, 0, none⟩)) ∧ (L 1 = true → t19 = .slice (some ⟨g, 0, none⟩) n c7) ∧ (L 2 = true → t20 = .int .i64 k) ∧ (L 3 = true → t21 = .pointer (some ⟨g3, 0, none⟩)) ∧ (L 4 = true → t22 = .slice (some ⟨g, 0, none⟩) n c7) ∧ (L 5 = true → t23 = .int .i64 k) ∧ (L 6 = true → t24 = .pointer (some ⟨g, k * 3, none⟩)) ∧ (L 7 = true → t25 = .pointer (some ⟨g, k * 3 + 2, none⟩)) ∧ (L 8 = true → t26 = .slice A1 m1 c1) ∧ (L 9 = true → L 12 = false → OwnI ww wr.heap.size t27 cl.r) ∧ (L 10 = true → t28 = .pointer (some ⟨g, k * 3, none⟩)) ∧ (L 11 = true → t29 = .pointer (some ⟨g, k * 3 + 2, none⟩) ∧ L 10 = true) ∧ (L 12 = true → (∀ q, q < 12 → L q = true) ∧ ∃ w5, Below wr.heap.size wr w5 ∧ OwnI w5 wr.heap.size t27 cl.r ∧ ww = w5.setCell ⟨g, k * 3 + 2, none⟩ t27)) ?h0 ?hstep ?hdone
        case h0 => exact ⟨_, _, _, _, _, _, _, _, _, _, _, _, rfl, fun _ => (Below.refl _ _).drew, (fun h => absurd h Bool.false_ne_true), (fun h => absurd h Bool.false_ne_true), (fun h => absurd h Bool.false_ne_true), (fun h => absurd h Bool.false_ne_true), (fun h => absurd h Bool.false_ne_true), (fun h => absurd h Bool.false_ne_true), (fun h => absurd h Bool.false_ne_true), (fun h => absurd h Bool.false_ne_true), (fun h => absurd h Bool.false_ne_true), (fun h => absurd h Bool.false_ne_true), (fun h => absurd h Bool.false_ne_true), (fun h => absurd h Bool.false_ne_true), (fun h => absurd h Bool.false_ne_true)⟩
        case hstep =>
          rintro L ac ww i o ho hL hd ⟨t18, t19, t20, t21, t22, t23, t24, t25, t26, t27, t28, t29, rfl, I0, f0, f1, f2, f3, f4, f5, f6, f7, f8, f9, f10, f11, f12⟩
          have hi : i < 13 := (Array.getElem?_eq_some_iff.1 ho).1
          obtain rfl | rfl | rfl | rfl | rfl | rfl | rfl | rfl | rfl | rfl | rfl | rfl | rfl : i = 0 ∨ i = 1 ∨ i = 2 ∨ i = 3 ∨ i = 4 ∨ i = 5 ∨ i = 6 ∨ i = 7 ∨ i = 8 ∨ i = 9 ∨ i = 10 ∨ i = 11 ∨ i = 12 := by omega
          · obtain rfl := Option.some.inj ho
            have hL12 : L 12 = false := by
              cases e : L 12
              · rfl
              · exact absurd ((f12 e).1 0 (by omega)) (by rw [hL]; decide)
            have J := I0 hL12
            refine wpOp_step rfl (fun K' hK => ?_)
            go_simp
            refine hK _ _ ?_
            exact ⟨_, _, _, _, _, _, _, _, _, _, _, _, rfl, (fun _ => J), (fun _ => rfl), (kp f1), (kp f2), (kp f3), (kp f4), (kp f5), (kp f6), (kp f7), (kp f8), (fun h _ => f9 (upd_ne h (by decide)) hL12), (kp f10), (fun h => ⟨(f11 (upd_ne h (by decide))).1, upd_mono (f11 (upd_ne h (by decide))).2⟩), (fun h => absurd ((f12 (upd_ne h (by decide))).1 0 (by omega)) (by rw [hL]; decide))⟩
          · obtain rfl := Option.some.inj ho
            have g0 := f0 (hd ⟨0, .data⟩ (by simp) rfl)
            subst g0
            have hL12 : L 12 = false := by
              cases e : L 12
              · rfl
              · exact absurd ((f12 e).1 1 (by omega)) (by rw [hL]; decide)
            have J := I0 hL12
            have z0 : ww.cell? ⟨g3, 0, none⟩ = some (.slice (some ⟨g, 0, none⟩) n c7) := (J.cell (p := ⟨g3, 0, none⟩) hbx).trans x0
            refine wpOp_step rfl (fun K' hK => ?_)
            go_simp
            refine hK _ _ ?_
            exact ⟨_, _, _, _, _, _, _, _, _, _, _, _, rfl, (fun _ => J), (kp f0), (fun _ => rfl), (kp f2), (kp f3), (kp f4), (kp f5), (kp f6), (kp f7), (kp f8), (fun h _ => f9 (upd_ne h (by decide)) hL12), (kp f10), (fun h => ⟨(f11 (upd_ne h (by decide))).1, upd_mono (f11 (upd_ne h (by decide))).2⟩), (fun h => absurd ((f12 (upd_ne h (by decide))).1 1 (by omega)) (by rw [hL]; decide))⟩
          · obtain rfl := Option.some.inj ho
            have hL12 : L 12 = false := by
              cases e : L 12
              · rfl
              · exact absurd ((f12 e).1 2 (by omega)) (by rw [hL]; decide)
            have J := I0 hL12
            refine wpOp_step rfl (fun K' hK => ?_)
            go_simp
            refine hK _ _ ?_
            exact ⟨_, _, _, _, _, _, _, _, _, _, _, _, rfl, (fun _ => J), (kp f0), (kp f1), (fun _ => rfl), (kp f3), (kp f4), (kp f5), (kp f6), (kp f7), (kp f8), (fun h _ => f9 (upd_ne h (by decide)) hL12), (kp f10), (fun h => ⟨(f11 (upd_ne h (by decide))).1, upd_mono (f11 (upd_ne h (by decide))).2⟩), (fun h => absurd ((f12 (upd_ne h (by decide))).1 2 (by omega)) (by rw [hL]; decide))⟩
          · obtain rfl := Option.some.inj ho
            have hL12 : L 12 = false := by
              cases e : L 12
              · rfl
              · exact absurd ((f12 e).1 3 (by omega)) (by rw [hL]; decide)
            have J := I0 hL12
            refine wpOp_step rfl (fun K' hK => ?_)
            go_simp
            refine hK _ _ ?_
            exact ⟨_, _, _, _, _, _, _, _, _, _, _, _, rfl, (fun _ => J), (kp f0), (kp f1), (kp f2), (fun _ => rfl), (kp f4), (kp f5), (kp f6), (kp f7), (kp f8), (fun h _ => f9 (upd_ne h (by decide)) hL12), (kp f10), (fun h => ⟨(f11 (upd_ne h (by decide))).1, upd_mono (f11 (upd_ne h (by decide))).2⟩), (fun h => absurd ((f12 (upd_ne h (by decide))).1 3 (by omega)) (by rw [hL]; decide))⟩
          · obtain rfl := Option.some.inj ho
            have g3 := f3 (hd ⟨3, .data⟩ (by simp) rfl)
            subst g3
            have hL12 : L 12 = false := by
              cases e : L 12
              · rfl
              · exact absurd ((f12 e).1 4 (by omega)) (by rw [hL]; decide)
            have J := I0 hL12
            have z0 : ww.cell? ⟨g3, 0, none⟩ = some (.slice (some ⟨g, 0, none⟩) n c7) := (J.cell (p := ⟨g3, 0, none⟩) hbx).trans x0
            refine wpOp_step rfl (fun K' hK => ?_)
            go_simp
            refine hK _ _ ?_
            exact ⟨_, _, _, _, _, _, _, _, _, _, _, _, rfl, (fun _ => J), (kp f0), (kp f1), (kp f2), (kp f3), (fun _ => rfl), (kp f5), (kp f6), (kp f7), (kp f8), (fun h _ => f9 (upd_ne h (by decide)) hL12), (kp f10), (fun h => ⟨(f11 (upd_ne h (by decide))).1, upd_mono (f11 (upd_ne h (by decide))).2⟩), (fun h => absurd ((f12 (upd_ne h (by decide))).1 4 (by omega)) (by rw [hL]; decide))⟩
          · obtain rfl := Option.some.inj ho
            have hL12 : L 12 = false := by
              cases e : L 12
              · rfl
              · exact absurd ((f12 e).1 5 (by omega)) (by rw [hL]; decide)
            have J := I0 hL12
            refine wpOp_step rfl (fun K' hK => ?_)
            go_simp
            refine hK _ _ ?_
            exact ⟨_, _, _, _, _, _, _, _, _, _, _, _, rfl, (fun _ => J), (kp f0), (kp f1), (kp f2), (kp f3), (kp f4), (fun _ => rfl), (kp f6), (kp f7), (kp f8), (fun h _ => f9 (upd_ne h (by decide)) hL12), (kp f10), (fun h => ⟨(f11 (upd_ne h (by decide))).1, upd_mono (f11 (upd_ne h (by decide))).2⟩), (fun h => absurd ((f12 (upd_ne h (by decide))).1 5 (by omega)) (by rw [hL]; decide))⟩
          · obtain rfl := Option.some.inj ho
            have g4 := f4 (hd ⟨4, .data⟩ (by simp) rfl)
            have g5 := f5 (hd ⟨5, .data⟩ (by simp) rfl)
            subst g4
            subst g5
            have hL12 : L 12 = false := by
              cases e : L 12
              · rfl
              · exact absurd ((f12 e).1 6 (by omega)) (by rw [hL]; decide)
            have J := I0 hL12
            refine wpOp_step rfl (fun K' hK => ?_)
            go_simp
            refine hK _ _ ?_
            exact ⟨_, _, _, _, _, _, _, _, _, _, _, _, rfl, (fun _ => J), (kp f0), (kp f1), (kp f2), (kp f3), (kp f4), (kp f5), (fun _ => rfl), (kp f7), (kp f8), (fun h _ => f9 (upd_ne h (by decide)) hL12), (kp f10), (fun h => ⟨(f11 (upd_ne h (by decide))).1, upd_mono (f11 (upd_ne h (by decide))).2⟩), (fun h => absurd ((f12 (upd_ne h (by decide))).1 6 (by omega)) (by rw [hL]; decide))⟩
          · obtain rfl := Option.some.inj ho
            have g6 := f6 (hd ⟨6, .data⟩ (by simp) rfl)
            subst g6
            have hL12 : L 12 = false := by
              cases e : L 12
              · rfl
              · exact absurd ((f12 e).1 7 (by omega)) (by rw [hL]; decide)
            have J := I0 hL12
            refine wpOp_step rfl (fun K' hK => ?_)
            go_simp
            refine hK _ _ ?_
            exact ⟨_, _, _, _, _, _, _, _, _, _, _, _, rfl, (fun _ => J), (kp f0), (kp f1), (kp f2), (kp f3), (kp f4), (kp f5), (kp f6), (fun _ => rfl), (kp f8), (fun h _ => f9 (upd_ne h (by decide)) hL12), (kp f10), (fun h => ⟨(f11 (upd_ne h (by decide))).1, upd_mono (f11 (upd_ne h (by decide))).2⟩), (fun h => absurd ((f12 (upd_ne h (by decide))).1 7 (by omega)) (by rw [hL]; decide))⟩
          · obtain rfl := Option.some.inj ho
            have g7 := f7 (hd ⟨7, .data⟩ (by simp) rfl)
            subst g7
            have hL12 : L 12 = false := by
              cases e : L 12
              · rfl
              · exact absurd ((f12 e).1 8 (by omega)) (by rw [hL]; decide)
            have J := I0 hL12
            have z0 : ww.cell? ⟨g, k * 3 + 2, none⟩ = some (.slice A1 m1 c1) := (J.cell (p := ⟨g, k * 3 + 2, none⟩) hg2).trans x2
            refine wpOp_step rfl (fun K' hK => ?_)
            go_simp
            refine hK _ _ ?_
            exact ⟨_, _, _, _, _, _, _, _, _, _, _, _, rfl, (fun _ => J), (kp f0), (kp f1), (kp f2), (kp f3), (kp f4), (kp f5), (kp f6), (kp f7), (fun _ => rfl), (fun h _ => f9 (upd_ne h (by decide)) hL12), (kp f10), (fun h => ⟨(f11 (upd_ne h (by decide))).1, upd_mono (f11 (upd_ne h (by decide))).2⟩), (fun h => absurd ((f12 (upd_ne h (by decide))).1 8 (by omega)) (by rw [hL]; decide))⟩
          · obtain rfl := Option.some.inj ho
            have g8 := f8 (hd ⟨8, .data⟩ (by simp) rfl)
            subst g8
            have hL12 : L 12 = false := by
              cases e : L 12
              · rfl
              · exact absurd ((f12 e).1 9 (by omega)) (by rw [hL]; decide)
            have J := I0 hL12
            refine wpOp_step rfl (fun K' hK => ?_)
            go_simp
            refine (cloneI_any A1 m1 c1 cl.r ww (is2.up J) hm3).mono ?_
            rintro e w' ⟨v1, rfl, o1, b5⟩
            refine hK _ _ ?_
            exact ⟨_, _, _, _, _, _, _, _, _, _, _, _, rfl, (fun _ => J.trans (b5.mono J.size)), (kp f0), (kp f1), (kp f2), (kp f3), (kp f4), (kp f5), (kp f6), (kp f7), (kp f8), (fun _ _ => o1.base J.size), (kp f10), (fun h => ⟨(f11 (upd_ne h (by decide))).1, upd_mono (f11 (upd_ne h (by decide))).2⟩), (fun h => absurd ((f12 (upd_ne h (by decide))).1 9 (by omega)) (by rw [hL]; decide))⟩
          · obtain rfl := Option.some.inj ho
            have g1 := f1 (hd ⟨1, .data⟩ (by simp) rfl)
            have g2 := f2 (hd ⟨2, .data⟩ (by simp) rfl)
            subst g1
            subst g2
            have hL12 : L 12 = false := by
              cases e : L 12
              · rfl
              · exact absurd ((f12 e).1 10 (by omega)) (by rw [hL]; decide)
            have J := I0 hL12
            refine wpOp_step rfl (fun K' hK => ?_)
            go_simp
            refine hK _ _ ?_
            exact ⟨_, _, _, _, _, _, _, _, _, _, _, _, rfl, (fun _ => J), (kp f0), (kp f1), (kp f2), (kp f3), (kp f4), (kp f5), (kp f6), (kp f7), (kp f8), (fun h _ => f9 (upd_ne h (by decide)) hL12), (fun _ => rfl), (fun h => ⟨(f11 (upd_ne h (by decide))).1, upd_mono (f11 (upd_ne h (by decide))).2⟩), (fun h => absurd ((f12 (upd_ne h (by decide))).1 10 (by omega)) (by rw [hL]; decide))⟩
          · obtain rfl := Option.some.inj ho
            have g10 := f10 (hd ⟨10, .data⟩ (by simp) rfl)
            subst g10
            have hL12 : L 12 = false := by
              cases e : L 12
              · rfl
              · exact absurd ((f12 e).1 11 (by omega)) (by rw [hL]; decide)
            have J := I0 hL12
            refine wpOp_step rfl (fun K' hK => ?_)
            go_simp
            refine hK _ _ ?_
            exact ⟨_, _, _, _, _, _, _, _, _, _, _, _, rfl, (fun _ => J), (kp f0), (kp f1), (kp f2), (kp f3), (kp f4), (kp f5), (kp f6), (kp f7), (kp f8), (fun h _ => f9 (upd_ne h (by decide)) hL12), (kp f10), (fun _ => ⟨rfl, upd_mono (hd ⟨10, .data⟩ (by simp) rfl)⟩), (fun h => absurd ((f12 (upd_ne h (by decide))).1 11 (by omega)) (by rw [hL]; decide))⟩
          · obtain rfl := Option.some.inj ho
            have g9 := f9 (hd ⟨9, .data⟩ (by simp) rfl)
            have g11 := f11 (hd ⟨11, .data⟩ (by simp) rfl)
            have l11 := Lib.hid (hd ⟨11, .data⟩ (by simp) rfl)
            have l10 := Lib.hid g11.2
            obtain ⟨g11, -⟩ := g11
            subst g11
            have J := I0 hL
            have o9 := g9 hL
            have hfz : ww.frozen? ⟨g, k * 3 + 2, none⟩ = false := (World.frozen?_of_block (J.block g hg2)).trans fzg
            have hcl : ww.cell? ⟨g, k * 3 + 2, none⟩ = some (.slice A1 m1 c1) := (J.cell (p := ⟨g, k * 3 + 2, none⟩) hg2).trans x2
            obtain ⟨A2, c2, rfl⟩ := row_form o9
            refine wpOp_step rfl (fun K' hK => ?_)
            go_simp
            refine hK _ _ ?_
            exact ⟨_, _, _, _, _, _, _, _, _, _, _, _, rfl, (fun h => absurd h (by rw [upd_self]; decide)), (kp f0), (kp f1), (kp f2), (kp f3), (kp f4), (kp f5), (kp f6), (kp f7), (kp f8), (fun _ h => absurd h (by rw [upd_self]; decide)), (kp f10), (fun h => ⟨(f11 (upd_ne h (by decide))).1, upd_mono (f11 (upd_ne h (by decide))).2⟩), (fun _ => ⟨fun q hq => by
              obtain rfl | rfl | rfl | rfl | rfl | rfl | rfl | rfl | rfl | rfl | rfl | rfl : q = 0 ∨ q = 1 ∨ q = 2 ∨ q = 3 ∨ q = 4 ∨ q = 5 ∨ q = 6 ∨ q = 7 ∨ q = 8 ∨ q = 9 ∨ q = 10 ∨ q = 11 := by omega
              all_goals first | exact upd_mono l10.out | exact upd_mono l11.out | exact upd_mono (hd ⟨_, .phase⟩ (by simp) rfl), ww, J, o9, rfl⟩)⟩
        case hdone =>
          rintro L ac ww hall ⟨t18, t19, t20, t21, t22, t23, t24, t25, t26, t27, t28, t29, rfl, I0, f0, f1, f2, f3, f4, f5, f6, f7, f8, f9, f10, f11, f12⟩
          have e0 := f0 (hall 0 (by decide))
          have e1 := f1 (hall 1 (by decide))
          have e2 := f2 (hall 2 (by decide))
          have e3 := f3 (hall 3 (by decide))
          have e4 := f4 (hall 4 (by decide))
          have e5 := f5 (hall 5 (by decide))
          have e6 := f6 (hall 6 (by decide))
          have e7 := f7 (hall 7 (by decide))
          have e8 := f8 (hall 8 (by decide))
          have e9 := f9 (hall 9 (by decide))
          have e10 := f10 (hall 10 (by decide))
          have e11 := f11 (hall 11 (by decide))
          have e12 := f12 (hall 12 (by decide))
          clear f0 f1 f2 f3 f4 f5 f6 f7 f8 f9 f10 f11 f12
          obtain ⟨-, w5, b5, o5, rfl⟩ := e12
          have hb1 : (⟨g, k * 3 + 2, none⟩ : Addr).block = g := rfl
          have hI : Below w2.heap.size w2 (w5.setCell ⟨g, k * 3 + 2, none⟩ t27) := (IW.trans (b5.mono IW.size)).setCell (p := ⟨g, k * 3 + 2, none⟩) hg1 _
          have hnew : ∀ u : Value, (∀ q, u.ownBlock = some q → q < wr.heap.size) → t27.ownBlock = none ∨ t27.ownBlock ≠ u.ownBlock := fun u hu => by
            cases e : t27.ownBlock with
            | none => exact .inl rfl
            | some q =>
              right
              intro e2
              have a1 := (World.ownsRow.lt o5 q e).1
              have a2 := hu q e2.symm
              omega
          have hS := (SS.out.below b5 (Nat.le_refl _)).next HLC.out HCK.out (o5.base (by have := IW.size; omega)) (fun u hu => hnew u (fun q hq => (SS.out.blocks hu hq).2))
          have hg3g : g3 ≠ g := fun e => by
            rcases AA.out _ (List.mem_cons_self ..) with h1 | h1
            · cases h1
            · exact h1 (by rw [e]; rfl)
          have hAP : Apart (some g3) (Value.slice (some ⟨g, 0, none⟩) n c7 :: Value.slice A9 h.rt.length d9 :: (ovs ++ [t27])) := by
            intro u hu
            rw [List.mem_cons, List.mem_cons, List.mem_append, List.mem_singleton] at hu
            rcases hu with rfl | rfl | hu | rfl
            · exact AA.out _ (by simp)
            · exact AA.out _ (by simp)
            · exact AA.out _ (by simp [hu])
            · cases e : u.ownBlock with
              | none => exact .inl rfl
              | some q =>
                right
                intro e2
                have a1 := (World.ownsRow.lt o5 q e).1
                have a2 := Option.some.inj e2
                omega
          have hBX : Rw (w5.setCell ⟨g, k * 3 + 2, none⟩ t27) g3 26 #[.slice (some ⟨g, 0, none⟩) n c7, .slice A9 h.rt.length d9] := (BB.out.keep b5 hbx).other hg3g t27
          obtain ⟨e11, -⟩ := e11
          clear e0 e1 e2 e3 e4 e5 e6 e7 e8 e9 e10 e11 hall I0 IW bw SS AA BB hnew b5 o5 hb1
          go_wp2_with fail
          go_roundw
          case rel => exact ⟨k + 1, ovs ++ [t27], by omega, by go_num, hS, hAP, hBX, hI⟩
          case measure => simp [intOf]; omega
      · obtain rfl : k = n := by omega
        have own := S.done HLC.out.symm
        have x0 := BX.cell 0
        have x1 := BX.cell 1
        simp only [List.getElem?_toArray, List.getElem?_cons_zero, List.getElem?_cons_succ] at x0 x1
        have q3 := Q2.keep IW hz
        have r2 : wr.frozen? ⟨w.heap.size + 1, 0, none⟩ = false := q3.frozen 0
        have r3 : wr.frozen? ⟨w.heap.size + 1, 1, none⟩ = false := q3.frozen 1
        have r4 : wr.cell? ⟨w.heap.size + 1, 0, none⟩ = some (.slice none 0 0) := q3.cell 0
        have r5 : wr.cell? ⟨w.heap.size + 1, 1, none⟩ = some (.slice none 0 0) := q3.cell 1
        have r6 : ((wr.setCell ⟨w.heap.size + 1, 0, none⟩ (.slice A7 k c7)).setCell ⟨w.heap.size + 1, 1, none⟩ (.slice A9 h.rt.length d9)).cell? ⟨w.heap.size + 1, 0, none⟩ = some (.slice A7 k c7) := ((q3.put 0 (.slice A7 k c7)).put 1 (.slice A9 h.rt.length d9)).cell 0
        have r7 : ((wr.setCell ⟨w.heap.size + 1, 0, none⟩ (.slice A7 k c7)).setCell ⟨w.heap.size + 1, 1, none⟩ (.slice A9 h.rt.length d9)).cell? ⟨w.heap.size + 1, 1, none⟩ = some (.slice A9 h.rt.length d9) := ((q3.put 0 (.slice A7 k c7)).put 1 (.slice A9 h.rt.length d9)).cell 1
        have D := Lib.hid (OwnH.out (w := w) (g := w.heap.size + 1) ⟨ovs, own⟩ (by omega) bw (by omega))
        clear own S AP BX q3 bw IW B2 Q1 Q2
        go_wp2_with fail
        exact bodyPost_ret (v := .agg #[.slice A7 k c7, .slice A9 h.rt.length d9]) (by simp [results, Tryd.results92, go_sem, *]) rfl ⟨_, _, rfl, D.out.1, D.out.2⟩
end Go.Proofs.YthmddmddcdofaaaDoor

namespace Go.Proofs.YthmddmddcdofaaaDoor
open Go.RowKit
set_option maxRecDepth 100000
set_option maxHeartbeats 4000000 in
theorem sweeperOf_any (A R : Option Addr) (n c m d : Nat) (h : Hp) (w : World) (hs : HS w w.heap.size A n R m h) (hn : n ≤ 64) (hm : m ≤ 1000000) (h3 : ∀ cl ∈ h.cs, cl.r.length ≤ 1000000) :
    Calls Tryd.prog 75 #[heapV A n c R m d] w (GaveCt w h (Hps.gapsL h.cs)) := by
  have B2 : Below w.heap.size w ((w.alloc (.cells #[.slice A n c, .slice R m d] 26)).alloc (.cells #[.slice none 0 0, .slice none 0 0, .slice none 0 0] 104)) := ((Below.refl _ _).alloc (Nat.le_refl _) _).alloc (by simp) _
  have q1 := (Rw.new w 26 #[.slice A n c, .slice R m d]).alloc (.cells #[.slice none 0 0, .slice none 0 0, .slice none 0 0] 104)
  have q2 := Rw.new (w.alloc (.cells #[.slice A n c, .slice R m d] 26)) 104 #[.slice none 0 0, .slice none 0 0, .slice none 0 0]
  simp only [World.size_alloc] at q2
  have s2 := hs.up B2
  have H3 := Lib.hid h3
  clear h3 hs
  go_enter Tryd.func75, Tryd.ntmps75
  go_upto_region 1 with fail
  generalize (w.alloc (.cells #[.slice A n c, .slice R m d] 26)).alloc (.cells #[.slice none 0 0, .slice none 0 0, .slice none 0 0] 104) = w2 at B2 q1 q2 s2 ⊢
  obtain ⟨q, hq⟩ : ∃ q, w.heap.size = q := ⟨_, rfl⟩
  rw [hq] at B2 q1 q2 ⊢
  have HQ := Lib.hid hq
  clear hq
  have hql := q1.lt
  have hrl := q2.lt
  have x0 : w2.cell? ⟨q, 0, none⟩ = some (.slice A n c) := q1.cell 0
  have x1 : w2.cell? ⟨q, 1, none⟩ = some (.slice R m d) := q1.cell 1
  have SS := Lib.hid s2
  clear s2 q1
  refine wp_region_inv (by kernel_rfl) (by kernel_rfl) (fun L ac ww => ∃ t3 t4 t5 t6 t7 t8 : Value, ac = { tmps := #[heapV A n c R m d, Value.pointer (some { block := q, off := 0 }), Value.pointer (some { block := q + 1, off := 0 }), t3, t4, t5, t6, t7, t8], defers := [] } ∧ (L 6 = false → Below w2.heap.size w2 ww) ∧ (L 0 = true → t3 = .agg #[.slice A n c, .slice R m d]) ∧ (L 1 = true → ∃ (A5 : Option Addr) (n5 c5 : Nat) (R5 : Option Addr) (m5 d5 : Nat), t4 = .agg #[.slice A5 n5 c5, .slice R5 m5 d5] ∧ (L 4 = false → OwnH ww w2.heap.size (.slice A5 n5 c5) (.slice R5 m5 d5) h)) ∧ (L 2 = true → t5 = .pointer (some ⟨q, 0, none⟩)) ∧ (L 3 = true → t6 = .slice A n c) ∧ (L 4 = true → ∃ (A5 : Option Addr) (n5 c5 : Nat) (R5 : Option Addr) (m5 d5 : Nat) (K5 : Option Addr) (p5 q5 : Nat), t4 = .agg #[.slice A5 n5 c5, .slice R5 m5 d5] ∧ t7 = .slice K5 p5 q5 ∧ L 1 = true ∧ (L 6 = false → OwnC ww w2.heap.size (.slice A5 n5 c5) (.slice R5 m5 d5) (.slice K5 p5 q5) h (Hps.gapsL h.cs))) ∧ (L 5 = true → L 1 = true ∧ L 4 = true ∧ ∃ (A5 : Option Addr) (n5 c5 : Nat) (R5 : Option Addr) (m5 d5 : Nat) (K5 : Option Addr) (p5 q5 : Nat), t4 = .agg #[.slice A5 n5 c5, .slice R5 m5 d5] ∧ t7 = .slice K5 p5 q5 ∧ t8 = .agg #[.slice A5 n5 c5, .slice R5 m5 d5, .slice K5 p5 q5]) ∧ (L 6 = true → (∀ q, q < 6 → L q = true) ∧ ∃ (A5 : Option Addr) (n5 c5 : Nat) (R5 : Option Addr) (m5 d5 : Nat) (K5 : Option Addr) (p5 q5 : Nat) (wp : World), ww = (((wp).setCell ⟨q + 1, 0, none⟩ (.slice A5 n5 c5)).setCell ⟨q + 1, 1, none⟩ (.slice R5 m5 d5)).setCell ⟨q + 1, 2, none⟩ (.slice K5 p5 q5) ∧ Below w2.heap.size w2 wp ∧ OwnC wp w2.heap.size (.slice A5 n5 c5) (.slice R5 m5 d5) (.slice K5 p5 q5) h (Hps.gapsL h.cs))) ?h0 ?hstep ?hdone
  case h0 => exact ⟨_, _, _, _, _, _, rfl, fun _ => (Below.refl _ _).drew, (fun h => absurd h Bool.false_ne_true), (fun h => absurd h Bool.false_ne_true), (fun h => absurd h Bool.false_ne_true), (fun h => absurd h Bool.false_ne_true), (fun h => absurd h Bool.false_ne_true), (fun h => absurd h Bool.false_ne_true), (fun h => absurd h Bool.false_ne_true)⟩
  case hstep =>
    rintro L ac ww i o ho hL hd ⟨t3, t4, t5, t6, t7, t8, rfl, I0, f0, f1, f2, f3, f4, f5, f6⟩
    have hi : i < 7 := (Array.getElem?_eq_some_iff.1 ho).1
    obtain rfl | rfl | rfl | rfl | rfl | rfl | rfl : i = 0 ∨ i = 1 ∨ i = 2 ∨ i = 3 ∨ i = 4 ∨ i = 5 ∨ i = 6 := by omega
    · obtain rfl := Option.some.inj ho
      have hL6 : L 6 = false := by
        cases e : L 6
        · rfl
        · exact absurd ((f6 e).1 0 (by decide)) (by rw [hL]; decide)
      have J := I0 hL6
      have z0 : ww.cell? ⟨q, 0, none⟩ = some (.slice A n c) := (J.cell (p := ⟨q, 0, none⟩) hql).trans x0
      have z1 : ww.cell? ⟨q, 1, none⟩ = some (.slice R m d) := (J.cell (p := ⟨q, 1, none⟩) hql).trans x1
      refine wpOp_step rfl (fun K' hK => ?_)
      go_simp
      refine hK _ _ ?_
      exact ⟨_, _, _, _, _, _, rfl, (fun _ => J), (fun _ => rfl), (fun h => by
        obtain ⟨A5, n5, c5, R5, m5, d5, e, r⟩ := f1 (upd_ne h (by decide))
        exact ⟨A5, n5, c5, R5, m5, d5, e, fun h4 => r (by rw [upd_other (by decide)] at h4; exact h4)⟩), (kp f2), (kp f3), (fun h => by
        obtain ⟨A5, n5, c5, R5, m5, d5, K5, p5, q5, e, e7, l1, r⟩ := f4 (upd_ne h (by decide))
        exact ⟨A5, n5, c5, R5, m5, d5, K5, p5, q5, e, e7, upd_mono l1, fun h6 => r (by rw [upd_other (by decide)] at h6; exact h6)⟩), (fun h => by
        obtain ⟨l1, l4, r⟩ := f5 (upd_ne h (by decide))
        exact ⟨upd_mono l1, upd_mono l4, r⟩), (fun h => absurd hL6 (by rw [upd_ne h (by decide)]; decide))⟩
    · obtain rfl := Option.some.inj ho
      have g0 := f0 (hd ⟨0, .data⟩ (by simp) rfl)
      subst g0
      have hL6 : L 6 = false := by
        cases e : L 6
        · rfl
        · exact absurd ((f6 e).1 1 (by decide)) (by rw [hL]; decide)
      have J := I0 hL6
      refine wpOp_step rfl (fun K' hK => ?_)
      go_simp
      refine (cloneHeap_any A R n c m d h ww (SS.out.up J) (by omega) (by omega) H3.out).mono ?_
      rintro e w' ⟨vc, vr, rfl, ow, b5⟩
      obtain ⟨A5, n5, c5, R5, m5, d5, rfl, rfl⟩ := ow.slices
      refine hK _ _ ?_
      exact ⟨_, _, _, _, _, _, rfl, (fun _ => J.trans (b5.mono J.size)), (kp f0), (fun _ => ⟨A5, n5, c5, R5, m5, d5, rfl, fun _ => ow.base J.size⟩), (kp f2), (kp f3), (fun h => by
        obtain ⟨_, _, _, _, _, _, _, _, _, _, _, l1, _⟩ := f4 (upd_ne h (by decide))
        exact absurd l1 (by rw [hL]; decide)), (fun h => absurd (f5 (upd_ne h (by decide))).1 (by rw [hL]; decide)), (fun h => absurd hL6 (by rw [upd_ne h (by decide)]; decide))⟩
    · obtain rfl := Option.some.inj ho
      have hL6 : L 6 = false := by
        cases e : L 6
        · rfl
        · exact absurd ((f6 e).1 2 (by decide)) (by rw [hL]; decide)
      have J := I0 hL6
      refine wpOp_step rfl (fun K' hK => ?_)
      go_simp
      refine hK _ _ ?_
      exact ⟨_, _, _, _, _, _, rfl, (fun _ => J), (kp f0), (fun h => by
        obtain ⟨A5, n5, c5, R5, m5, d5, e, r⟩ := f1 (upd_ne h (by decide))
        exact ⟨A5, n5, c5, R5, m5, d5, e, fun h4 => r (by rw [upd_other (by decide)] at h4; exact h4)⟩), (fun _ => rfl), (kp f3), (fun h => by
        obtain ⟨A5, n5, c5, R5, m5, d5, K5, p5, q5, e, e7, l1, r⟩ := f4 (upd_ne h (by decide))
        exact ⟨A5, n5, c5, R5, m5, d5, K5, p5, q5, e, e7, upd_mono l1, fun h6 => r (by rw [upd_other (by decide)] at h6; exact h6)⟩), (fun h => by
        obtain ⟨l1, l4, r⟩ := f5 (upd_ne h (by decide))
        exact ⟨upd_mono l1, upd_mono l4, r⟩), (fun h => absurd hL6 (by rw [upd_ne h (by decide)]; decide))⟩
    · obtain rfl := Option.some.inj ho
      have g2 := f2 (hd ⟨2, .data⟩ (by simp) rfl)
      subst g2
      have hL6 : L 6 = false := by
        cases e : L 6
        · rfl
        · exact absurd ((f6 e).1 3 (by decide)) (by rw [hL]; decide)
      have J := I0 hL6
      have z0 : ww.cell? ⟨q, 0, none⟩ = some (.slice A n c) := (J.cell (p := ⟨q, 0, none⟩) hql).trans x0
      refine wpOp_step rfl (fun K' hK => ?_)
      go_simp
      refine hK _ _ ?_
      exact ⟨_, _, _, _, _, _, rfl, (fun _ => J), (kp f0), (fun h => by
        obtain ⟨A5, n5, c5, R5, m5, d5, e, r⟩ := f1 (upd_ne h (by decide))
        exact ⟨A5, n5, c5, R5, m5, d5, e, fun h4 => r (by rw [upd_other (by decide)] at h4; exact h4)⟩), (kp f2), (fun _ => rfl), (fun h => by
        obtain ⟨A5, n5, c5, R5, m5, d5, K5, p5, q5, e, e7, l1, r⟩ := f4 (upd_ne h (by decide))
        exact ⟨A5, n5, c5, R5, m5, d5, K5, p5, q5, e, e7, upd_mono l1, fun h6 => r (by rw [upd_other (by decide)] at h6; exact h6)⟩), (fun h => by
        obtain ⟨l1, l4, r⟩ := f5 (upd_ne h (by decide))
        exact ⟨upd_mono l1, upd_mono l4, r⟩), (fun h => absurd hL6 (by rw [upd_ne h (by decide)]; decide))⟩
    · obtain rfl := Option.some.inj ho
      have g3 := f3 (hd ⟨3, .data⟩ (by simp) rfl)
      subst g3
      have hL6 : L 6 = false := by
        cases e : L 6
        · rfl
        · exact absurd ((f6 e).1 4 (by decide)) (by rw [hL]; decide)
      have J := I0 hL6
      have l1 := Lib.hid (hd ⟨1, .chain⟩ (by simp) rfl)
      obtain ⟨A5, n5, c5, R5, m5, d5, e4, r4⟩ := f1 l1.out
      subst e4
      have oh := r4 hL
      refine wpOp_step rfl (fun K' hK => ?_)
      go_simp
      refine (freeList_any A n c h.cs ww (SS.out.up J).cells hn).mono ?_
      rintro e w' ⟨vk, rfl, ok, b5⟩
      obtain ⟨K5, q5, e8, -⟩ := ok.form
      refine hK _ _ ?_
      exact ⟨_, _, _, _, _, _, rfl, (fun _ => J.trans (b5.mono J.size)), (kp f0), (fun _ => ⟨A5, n5, c5, R5, m5, d5, rfl, fun h => absurd h (by rw [upd_self]; decide)⟩), (kp f2), (kp f3), (fun _ => ⟨A5, n5, c5, R5, m5, d5, K5, _, q5, rfl, e8, upd_mono l1.out, fun _ => by
        rw [← e8]
        exact OwnC.of oh b5 ok J.size⟩), (fun h => absurd (f5 (upd_ne h (by decide))).2.1 (by rw [hL]; decide)), (fun h => absurd hL6 (by rw [upd_ne h (by decide)]; decide))⟩
    · obtain rfl := Option.some.inj ho
      have g1 := f1 (hd ⟨1, .data⟩ (by simp) rfl)
      have g4 := f4 (hd ⟨4, .data⟩ (by simp) rfl)
      have hL6 : L 6 = false := by
        cases e : L 6
        · rfl
        · exact absurd ((f6 e).1 5 (by decide)) (by rw [hL]; decide)
      have J := I0 hL6
      have l4 := Lib.hid (hd ⟨4, .data⟩ (by simp) rfl)
      obtain ⟨A5, n5, c5, R5, m5, d5, K5, p5, q5, e4, e7, l1, r4⟩ := g4
      have L1 := Lib.hid l1
      clear l1
      subst e4
      subst e7
      clear g1
      refine wpOp_step rfl (fun K' hK => ?_)
      go_simp
      refine hK _ _ ?_
      exact ⟨_, _, _, _, _, _, rfl, (fun _ => J), (kp f0), (fun _ => ⟨A5, n5, c5, R5, m5, d5, rfl, fun h => absurd l4.out (by rw [upd_other (by decide)] at h; rw [h]; decide)⟩), (kp f2), (kp f3), (fun _ => ⟨A5, n5, c5, R5, m5, d5, K5, p5, q5, rfl, rfl, upd_mono L1.out, fun h => r4 (by rw [upd_other (by decide)] at h; exact h)⟩), (fun _ => ⟨upd_mono L1.out, upd_mono l4.out, A5, n5, c5, R5, m5, d5, K5, p5, q5, rfl, rfl, rfl⟩), (fun h => absurd hL6 (by rw [upd_ne h (by decide)]; decide))⟩
    · obtain rfl := Option.some.inj ho
      have g5 := f5 (hd ⟨5, .data⟩ (by simp) rfl)
      have lq : Hid (∀ q, q < 6 → L q = true) := Lib.hid (by
        intro q hq
        obtain rfl | rfl | rfl | rfl | rfl | rfl : q = 0 ∨ q = 1 ∨ q = 2 ∨ q = 3 ∨ q = 4 ∨ q = 5 := by omega
        · exact hd ⟨0, .phase⟩ (by simp) rfl
        · exact hd ⟨1, .phase⟩ (by simp) rfl
        · exact hd ⟨2, .phase⟩ (by simp) rfl
        · exact hd ⟨3, .phase⟩ (by simp) rfl
        · exact hd ⟨4, .phase⟩ (by simp) rfl
        · exact hd ⟨5, .phase⟩ (by simp) rfl)
      have J := I0 hL
      obtain ⟨-, -, A5, n5, c5, R5, m5, d5, K5, p5, q5, e4, e7, e8⟩ := g5
      subst e8
      obtain ⟨A6, n6, c6, R6, m6, d6, K6, p6, q6, e4b, e7b, -, r4⟩ := f4 (lq.out 4 (by decide))
      have oc := r4 hL
      rw [e4] at e4b
      rw [e7] at e7b
      injection e4b with e4b
      simp at e4b
      obtain ⟨⟨rfl, rfl, rfl⟩, rfl, rfl, rfl⟩ := e4b
      injection e7b with h1 h2 h3
      subst h1
      subst h2
      subst h3
      subst e4
      subst e7
      have P := q2.keep J hrl
      have zf0 : ww.frozen? ⟨q + 1, 0, none⟩ = false := P.frozen 0
      have zf1 : ww.frozen? ⟨q + 1, 1, none⟩ = false := P.frozen 1
      have zf2 : ww.frozen? ⟨q + 1, 2, none⟩ = false := P.frozen 2
      have zc0 : ww.cell? ⟨q + 1, 0, none⟩ = some (.slice none 0 0) := P.cell 0
      have zc1 : ww.cell? ⟨q + 1, 1, none⟩ = some (.slice none 0 0) := P.cell 1
      have zc2 : ww.cell? ⟨q + 1, 2, none⟩ = some (.slice none 0 0) := P.cell 2
      refine wpOp_step rfl (fun K' hK => ?_)
      go_simp
      refine hK _ _ ?_
      exact ⟨_, _, _, _, _, _, rfl, (fun h => absurd h (by rw [upd_self]; decide)), (kp f0), (fun _ => ⟨A5, n5, c5, R5, m5, d5, rfl, fun h => absurd (lq.out 4 (by decide)) (by rw [upd_other (by decide)] at h; rw [h]; decide)⟩), (kp f2), (kp f3), (fun _ => ⟨A5, n5, c5, R5, m5, d5, K5, p5, q5, rfl, rfl, upd_mono (lq.out 1 (by decide)), fun h => absurd h (by rw [upd_self]; decide)⟩), (fun _ => ⟨upd_mono (lq.out 1 (by decide)), upd_mono (lq.out 4 (by decide)), A5, n5, c5, R5, m5, d5, K5, p5, q5, rfl, rfl, rfl⟩), (fun _ => ⟨fun q hq => upd_mono (lq.out q hq), A5, n5, c5, R5, m5, d5, K5, p5, q5, ww, rfl, J, oc⟩)⟩
  case hdone =>
    rintro L ac ww hall ⟨t3, t4, t5, t6, t7, t8, rfl, I0, f0, f1, f2, f3, f4, f5, f6⟩
    have e0 := f0 (hall 0 (by decide))
    have e1 := f1 (hall 1 (by decide))
    have e2 := f2 (hall 2 (by decide))
    have e3 := f3 (hall 3 (by decide))
    have e4 := f4 (hall 4 (by decide))
    have e5 := f5 (hall 5 (by decide))
    have e6 := f6 (hall 6 (by decide))
    clear f0 f1 f2 f3 f4 f5 f6
    obtain ⟨-, A5, n5, c5, R5, m5, d5, K5, p5, q5, wp, rfl, r1, r9⟩ := e6
    have P := q2.keep r1 hrl
    have P4 := ((P.put 0 (.slice A5 n5 c5)).put 1 (.slice R5 m5 d5)).put 2 (.slice K5 p5 q5)
    have s8 : ((((wp).setCell ⟨q + 1, 0, none⟩ (.slice A5 n5 c5)).setCell ⟨q + 1, 1, none⟩ (.slice R5 m5 d5)).setCell ⟨q + 1, 2, none⟩ (.slice K5 p5 q5)).cell? ⟨q + 1, 0, none⟩ = some (.slice A5 n5 c5) := P4.cell 0
    have s9 : ((((wp).setCell ⟨q + 1, 0, none⟩ (.slice A5 n5 c5)).setCell ⟨q + 1, 1, none⟩ (.slice R5 m5 d5)).setCell ⟨q + 1, 2, none⟩ (.slice K5 p5 q5)).cell? ⟨q + 1, 1, none⟩ = some (.slice R5 m5 d5) := P4.cell 1
    have s10 : ((((wp).setCell ⟨q + 1, 0, none⟩ (.slice A5 n5 c5)).setCell ⟨q + 1, 1, none⟩ (.slice R5 m5 d5)).setCell ⟨q + 1, 2, none⟩ (.slice K5 p5 q5)).cell? ⟨q + 1, 2, none⟩ = some (.slice K5 p5 q5) := P4.cell 2
    have HW := HQ.out
    have D := Lib.hid (OwnC.out (w := w) (g := q + 1) r9 (by omega) (by rw [HW]; exact B2.trans (r1.mono (by have := B2.size; omega))) (by omega))
    clear I0 e0 e1 e2 e3 e4 e5 hall r1 r9 P P4
    go_wp2_with fail
    exact bodyPost_ret (v := .agg #[.slice A5 n5 c5, .slice R5 m5 d5, .slice K5 p5 q5]) (by simp [results, Tryd.results75, go_sem, *]) rfl ⟨_, _, _, rfl, D.out.1, D.out.2⟩
theorem SwSt.of {w w1 : World} {vc vr vk : Value} {h : Hp} (o : OwnC w1 w.heap.size vc vr vk h (Hps.gapsL h.cs)) (hb : Below w.heap.size w w1) : ∃ rvs, SwSt [] w (w1.alloc (.cells #[vc, vr, vk] 104)) w1.heap.size vc vr rvs h := by
  obtain ⟨rvs, o⟩ := o
  have bA : Below w1.heap.size w1 (w1.alloc (.cells #[vc, vr, vk] 104)) := (Below.refl _ _).alloc (Nat.le_refl _) _
  refine ⟨rvs, vk, o.heap.below bA (Nat.le_refl _), o.heap.apart_new (Nat.le_refl _), Rw.new _ _ _, hb.alloc hb.size _, hb.size, ⟨fun p e => ?_, fun p e x hx => ?_, fun g hg => ?_⟩⟩
  · cases e
    exact (o.cnts.below bA (Nat.le_refl _)).queue
  · cases e
    cases hx
  · obtain ⟨p, e, h1 | ⟨x, hx, _⟩⟩ := hg
    · cases e
      have h2 := (World.ownsRow.lt o.cnts g h1).2
      refine ⟨by omega, fun v hv e => ?_⟩
      rcases o.sep v hv with h3 | h3
      · rw [e] at h3; cases h3
      · exact h3 (by rw [e]; exact h1.symm)
    · cases e
      cases hx
/-- the heap in a sweeper, as a heap of the call's own -/
theorem SwFs.ownH {w0 wr : World} {b : Nat} {vc vr : Value} {rvs : List Value} {h : Hp} {fs : List Int} {E : KeptL} (S : SwFs E w0 wr b vc vr rvs h fs) : OwnH wr w0.heap.size vc vr h := ⟨rvs, S.own⟩
set_option maxHeartbeats 2000000 in
theorem sweep_any (E : KeptL) (w0 w : World) (b : Nat) (vc vr : Value) (rvs : List Value) (h : Hp) (fs : List Int) (marks : List Bool) (hT : TzT w0) (S : SwFs E w0 w b vc vr rvs h fs) (hl : marks.length = h.cs.length) (h40 : h.cs.length ≤ 40) (hz : ∀ c ∈ h.cs, c.u = false → c = Hps.zeroCl) :
    Calls Tryd.prog 76 #[.pointer (some ⟨b, 0, none⟩), .int .u64 (Bm.wordN marks true : Nat)] w fun e w' => e = .returned (.int .i64 (Hps.freedTo h.cs marks marks.length : Nat)) ∧ ∃ rvs', SwSt E w0 w' b vc vr rvs' (Hps.dropH h (marks.map (!·))) := by
  have hU := Hps.usedW_lt (cs := h.cs) (by omega)
  have hM := Bm.wordN_lt marks true (by omega)
  have HAN := Lib.hid (u64_andNot_nat (Hps.usedW h.cs) (Bm.wordN marks true) hU hM)
  have hVl := Hps.lostW_lt marks (cs := h.cs) (by omega)
  have HPC := Lib.hid (Hps.pc_lost hl (by omega))
  have HZ := Lib.hid (Hps.zap_lost hl (by omega) hz)
  have HBT := Lib.hid (fun i (hi : (Hps.lostW h.cs marks).testBit i = true) => show i < h.cs.length by
    rw [Hps.lostW_bit hl (by omega), Bool.and_eq_true] at hi
    exact Hps.usedAt_lt hi.1)
  rw [← Hps.lostW] at HAN
  obtain ⟨V, hV⟩ : ∃ V, Hps.lostW h.cs marks = V := ⟨_, rfl⟩
  rw [hV] at HAN hVl HPC HZ HBT
  have HDL := Lib.hid (Hps.drop_len h (marks.map (!·)))
  obtain ⟨X, hX⟩ : ∃ X, Hps.dropH h (marks.map (!·)) = X := ⟨_, rfl⟩
  rw [hX] at HDL ⊢
  have HXE := Lib.hid (show (⟨Hps.dropL h.cs (marks.map (!·)), h.rt⟩ : Hp) = X from hX)
  obtain ⟨M, hMe⟩ : ∃ M, Bm.wordN marks true = M := ⟨_, rfl⟩
  rw [hMe] at hM HAN ⊢
  obtain ⟨U, hUe⟩ : ∃ U, Hps.usedW h.cs = U := ⟨_, rfl⟩
  rw [hUe] at hU HAN
  have HUE := Lib.hid hUe
  obtain ⟨A, c, R, d, rfl, rfl, -⟩ := S.own.form
  obtain ⟨n, hn⟩ : ∃ n, h.cs.length = n := ⟨_, rfl⟩
  obtain ⟨m, hm⟩ : ∃ m, h.rt.length = m := ⟨_, rfl⟩
  rw [hn, hm] at S ⊢
  rw [hn] at h40 HDL
  have HT := Lib.hid (fun w1 (hb : Below w0.heap.size w0 w1) => hT.below hb)
  have HC := Lib.hid S.own.reads.cells
  have x0 : w.cell? ⟨b, 0, none⟩ = some (.slice A n c) := S.c0
  have HCNT := Lib.hid (fun ww => count_any V ww hVl)
  rw [HPC.out] at HCNT
  have HN := Lib.hid hn
  obtain ⟨fr, hfr⟩ : ∃ fr, Hps.freedTo h.cs marks marks.length = fr := ⟨_, rfl⟩
  rw [hfr] at HCNT ⊢
  clear hV hMe hUe hl hz hT hn hm hfr HPC hX
  go_enter Tryd.func76, Tryd.ntmps76
  go_wp2_with fail
  refine (usedSet_any A n c h.cs _ HC.out (by omega)).mono ?_
  rw [HUE.out]
  rintro e w1 ⟨rfl, b1⟩
  replace S := S.up b1
  have hand := HAN.out
  clear b1 x0 HC
  go_wp2_with fail
  obtain ⟨ve, B⟩ := S
  refine (freeCells_any _ _ w0 _ b _ _ rvs h V (HT.out _ B.low) B hVl HBT.out).mono ?_
  rintro e w2 ⟨⟨ev, rfl⟩, rv2, B2⟩
  rw [HZ.out, HXE.out] at B2
  have S2 : SwFs E w0 w2 b (.slice A n c) (.slice R m d) rv2 X fs := ⟨ve, B2⟩
  have x0 : w2.cell? ⟨b, 0, none⟩ = some (.slice A n c) := S2.c0
  have HC := Lib.hid (show CS w2 w2.heap.size A n X.cs from S2.own.reads.cells)
  clear B B2 hand
  go_wp2_with fail
  refine (freeList_any A n c X.cs _ HC.out (by omega)).mono ?_
  rintro e w3 ⟨vk, rfl, ok, b3⟩
  obtain ⟨Ak, ck, ek, -⟩ := ok.form
  obtain ⟨nk, hnk⟩ : ∃ nk, (Hps.gapsL X.cs).length = nk := ⟨_, rfl⟩
  rw [hnk] at ek
  subst ek
  clear hnk
  have hlo2 := S2.low.size
  have hlb := S2.lt
  have HAP := Lib.hid (fun v (hv : v ∈ (Value.slice A n c) :: (.slice R m d) :: rv2) => show v.ownBlock = none ∨ v.ownBlock ≠ (Value.slice Ak nk ck).ownBlock by
    cases e : v.ownBlock with
    | none => exact .inl rfl
    | some k =>
      right
      intro e'
      have a1 := (S2.own.blocks hv e).2
      have a2 := (World.ownsRow.lt ok k e'.symm).1
      omega)
  have HNB := Lib.hid (show (Value.slice Ak nk ck).ownBlock ≠ some b from fun e => by
    have := (World.ownsRow.lt ok b e).1
    omega)
  have HNE := Lib.hid (fun e (he : e ∈ E) => show (Value.slice Ak nk ck).ownBlock ≠ some e.1 from fun e2 => by
    have a1 := S2.keptLt e he
    have a2 := (World.ownsRow.lt ok _ e2).1
    omega)
  replace S2 := S2.up b3
  have fz := S2.fz 2
  obtain ⟨ve3, B3⟩ := S2
  have c2 : w3.cell? ⟨b, 2, none⟩ = some ve3 := B3.box.cell 2
  have S4 := Lib.hid (SwFs.free ⟨ve3, B3⟩ (ok.base hlo2) HAP.out HNB.out HNE.out)
  clear x0 HC HAP HNB HNE ok b3 B3
  go_wp2_with fail
  refine (HCNT.out _).mono ?_
  rintro e w5 ⟨rfl, rfl⟩
  go_wp2_with fail
  go_ret
  exact ⟨rfl, _, S4.out⟩
end Go.Proofs.YthmddmddcdofaaaDoor

namespace Go.Proofs.YthmddmddcdofaaaDoor
open Go.RowKit
set_option maxRecDepth 100000
end Go.Proofs.YthmddmddcdofaaaDoor

namespace Go.Proofs.YthmddmddcdofaaaDoor
open Go.RowKit
set_option maxRecDepth 100000
end Go.Proofs.YthmddmddcdofaaaDoor

namespace Go.Proofs.YthmddmddcdofaaaDoor
open Go.RowKit
set_option maxRecDepth 100000
end Go.Proofs.YthmddmddcdofaaaDoor

namespace Go.Proofs.YthmddmddcdofaaaDoor
open Go.RowKit
set_option maxRecDepth 100000
end Go.Proofs.YthmddmddcdofaaaDoor

namespace Go.Proofs.YthmddmddcdofaaaDoor
open Go.RowKit
set_option maxRecDepth 100000
/-- k times -1, then 0 up to N -/
def repN (N k : Nat) : List Value := List.replicate k (.int .i64 (-1)) ++ List.replicate (N - k) (.int .i64 0)
def RowN (w : World) (g N k : Nat) : Prop := w.heap[g]? = some (.cells (repN N k).toArray 3 (0, 0))
theorem RowN.cell {w : World} {g N k j : Nat} (h : RowN w g N k) (hj : j < k) : w.cell? ⟨g, j, none⟩ = some (.int .i64 (-1)) := by
  have : (repN N k)[j]? = some (.int .i64 (-1)) := by
    unfold repN
    rw [List.getElem?_append_left (by simpa using hj)]
    simp [hj]
  have e : w.cell? ⟨g, j, none⟩ = (repN N k).toArray[j]? := Rw.cell (cs := (repN N k).toArray) h j
  rw [e]
  simpa using this
theorem RowN.put {w : World} {g N k : Nat} (h : RowN w g N k) (j : Nat) : RowN (w.setRow g (repN N j).toArray) g N j := setRow_heap w g _ _ _ _ h
end Go.Proofs.YthmddmddcdofaaaDoor

namespace Go.Proofs.YthmddmddcdofaaaDoor
open Go.RowKit
set_option maxRecDepth 100000
end Go.Proofs.YthmddmddcdofaaaDoor

namespace Go.Proofs.YthmddmddcdofaaaDoor
open Go.RowKit
set_option maxRecDepth 100000
end Go.Proofs.YthmddmddcdofaaaDoor

namespace Go.Proofs.YthmddmddcdofaaaDoor
open Go.RowKit
set_option maxRecDepth 100000
end Go.Proofs.YthmddmddcdofaaaDoor

namespace Go.Proofs.YthmddmddcdofaaaDoor
open Go.RowKit
set_option maxRecDepth 100000
/-- k times -1, then 0 -/
def rep4 (k : Nat) : List Value := List.replicate k (.int .i64 (-1)) ++ List.replicate (4 - k) (.int .i64 0)
def RowK (w : World) (g k : Nat) : Prop := w.heap[g]? = some (.cells (rep4 k).toArray 3 (0, 0))
theorem RowK.cell {w : World} {g k j : Nat} (h : RowK w g k) (hj : j < k) : w.cell? ⟨g, j, none⟩ = some (.int .i64 (-1)) := by
  have : (rep4 k)[j]? = some (.int .i64 (-1)) := by
    unfold rep4
    rw [List.getElem?_append_left (by simpa using hj)]
    simp [hj]
  have e : w.cell? ⟨g, j, none⟩ = (rep4 k).toArray[j]? := Rw.cell (cs := (rep4 k).toArray) h j
  rw [e]
  simpa using this
theorem RowK.put {w : World} {g k : Nat} (h : RowK w g k) (j : Nat) : RowK (w.setRow g (rep4 j).toArray) g j := setRow_heap w g _ _ _ _ h
end Go.Proofs.YthmddmddcdofaaaDoor

namespace Go.Proofs.YthmddmddcdofaaaDoor
open Go.RowKit
set_option maxRecDepth 100000
set_option maxHeartbeats 1000000 in
/-- one more list of references is counted -/
theorem countTargetsC_any (g n cn q cq : Nat) (F : Option Addr) (cs : List Cl) (xs rs : List Int) (w : World) (B : Nat) (hcs : cs.length = n) (ho : OwnI w B (.slice (some ⟨g, 0, none⟩) n cn) (Hps.cntN n xs)) (hf : IS w B F q rs) (hok : Hps.okRefs cs rs = true)
    (_hn : n ≤ 1000000) (hq : q ≤ 1000000) (hx : xs.length ≤ 1000000000) (hg : B ≤ g) (_hB : B ≤ w.heap.size) :
    Calls Tryd.prog 134 #[.slice (some ⟨g, 0, none⟩) n cn, .slice F q cq] w fun e w' => e = .returned (.tuple #[]) ∧ OwnI w' B (.slice (some ⟨g, 0, none⟩) n cn) (Hps.cntN n (xs ++ rs)) ∧ Below B w w' ∧ World.grownBy w w' (some g) := by
  have hG := World.grownBy.refl w (some g)
  have hlr := hf.1
  have HO := Lib.hid hok
  clear hok
  go_enter Tryd.func134, Tryd.ntmps134
  go_wp2_with fail
  go_loopw [8] (fun i wr => ∃ k : Nat, k ≤ q ∧ i = .int .i64 k ∧ OwnI wr B (.slice (some ⟨g, 0, none⟩) n cn) (Hps.cntN n (xs ++ rs.take k)) ∧ Below B w wr ∧ World.grownBy w wr (some g)) (fun i _ => q - (intOf i).toNat)
  case atStart => exact ⟨0, Nat.zero_le _, rfl, by rw [List.take_zero, List.append_nil]; exact ho, Below.refl _ _, hG⟩
  case round =>
    clear ho hG
    obtain ⟨k, hk, rfl, ho, bb, hG⟩ := hrel
    by_cases hlt : k < q
    · obtain ⟨gr, or, x, e2, hgr, hx1, d0⟩ := hf.at_ hlt
      subst e2
      have d1 := (bb.cell (p := ⟨gr, or + k, none⟩) hgr).trans d0
      have hltk : (k : Int) < q := by omega
      have HT := Lib.hid (take_snocI hx1)
      have hok := Hps.okRefs_at HO.out hx1
      clear d0
      by_cases hm1 : x = -1
      · subst hm1
        have HTN := Lib.hid (show Hps.cntN n (xs ++ rs.take (k + 1)) = Hps.cntN n (xs ++ rs.take k) by rw [HT.out, ← List.append_assoc]; exact Hps.cntN_neg (by omega))
        clear hok hx1
        go_wp2_with fail
        go_roundw
        case rel => exact ⟨k + 1, by omega, by go_num, by rw [HTN.out]; exact ho, bb, hG⟩
        case measure => simp [intOf]; omega
      · have hne : (x != -1) = true := by rw [bne_iff_ne]; exact hm1
        have hx0 : 0 ≤ x := by have := Hps.okRef_lo hok; omega
        obtain ⟨y, rfl, hy, _⟩ := Hps.okRef_nat hok hx0
        rw [hcs] at hy
        obtain ⟨g', o', v, e1, _, hv, c1⟩ := ho.reads.at_ (k := y) hy
        injection e1 with e1
        injection e1 with e2 e3
        subst e2 e3
        rw [Nat.zero_add] at c1
        rw [Hps.cntN_at _ hy] at hv
        injection hv with hv
        have hvl := Hps.count_le_len (xs ++ rs.take k) (y : Int)
        rw [List.length_append, List.length_take] at hvl
        have hv0 : 0 ≤ v := by omega
        have hv1 : v ≤ 10000000000000 := by omega
        have fz : wr.frozen? ⟨g, y, none⟩ = false := ho.frozen (Hps.cntN_len _ _) y
        have hy' : (y : Int) < n := by omega
        have HV := Lib.hid hv
        have hu : IntKind.i64.wrap (v + 1) = v + 1 := IntWalk.i64_in _ (by omega)
        have on : OwnI (wr.setCell ⟨g, y, none⟩ (.int .i64 (v + 1))) B (.slice (some ⟨g, 0, none⟩) n cn) (Hps.cntN n (xs ++ rs.take (k + 1))) := by
          rw [HT.out, ← List.append_assoc, ← Hps.cntN_set hy, HV.out]
          exact ho.put' (Hps.cntN_len _ _) (v + 1)
        have bn := bb.setCell (p := ⟨g, y, none⟩) hg (.int .i64 (v + 1))
        have gn := only_put hG y (.int .i64 (v + 1))
        clear hx1 hok hv hvl hm1
        go_wp2_with fail
        go_roundw
        case rel => exact ⟨k + 1, by omega, by go_num, on, bn, gn⟩
        case measure => simp [intOf]; omega
    · obtain rfl : k = q := by omega
      rw [List.take_of_length_le (by omega)] at ho
      go_wp2_with fail
      exact bodyPost_end (results_none rfl _ _ _) rfl ⟨rfl, ho, bb, hG⟩
theorem countTargets_any (g n q cq : Nat) (F : Option Addr) (cs : List Cl) (xs rs : List Int) (w : World) (B : Nat) (hcs : cs.length = n) (ho : OwnI w B (.slice (some ⟨g, 0, none⟩) n n) (Hps.cntN n xs)) (hf : IS w B F q rs) (hok : Hps.okRefs cs rs = true)
    (hn : n ≤ 1000000) (hq : q ≤ 1000000) (hx : xs.length ≤ 1000000000) (hg : B ≤ g) (hB : B ≤ w.heap.size) :
    Calls Tryd.prog 134 #[.slice (some ⟨g, 0, none⟩) n n, .slice F q cq] w fun e w' => e = .returned (.tuple #[]) ∧ OwnI w' B (.slice (some ⟨g, 0, none⟩) n n) (Hps.cntN n (xs ++ rs)) ∧ Below B w w' :=
  (countTargetsC_any g n n q cq F cs xs rs w B hcs ho hf hok hn hq hx hg hB).mono fun _ _ h => ⟨h.1, h.2.1, h.2.2.1⟩
namespace Hps
/-- the references of the roots and of those of the first i cells that are not in the set -/
def outW (h : Hp) (V : Nat) : Nat → List Int
  | 0 => h.rt
  | i + 1 => outW h V i ++ (if V.testBit i = true then [] else match h.cs[i]? with | some c => c.r | none => [])
theorem outW_in {h : Hp} {V i : Nat} (hs : V.testBit i = true) : outW h V (i + 1) = outW h V i := by rw [outW, if_pos hs, List.append_nil]
theorem outW_out {h : Hp} {V i : Nat} {c : Cl} (hs : V.testBit i = false) (hc : h.cs[i]? = some c) : outW h V (i + 1) = outW h V i ++ c.r := by rw [outW, if_neg (by rw [hs]; decide), hc]
theorem outW_zero (h : Hp) : ∀ i, i ≤ h.cs.length → outW h 0 i = refsTo h i
  | 0, _ => by rw [refsTo_zero]; rfl
  | i + 1, hi => by
    have hc := List.getElem?_eq_getElem (show i < h.cs.length by omega)
    rw [outW_out (by simp) hc, refsTo_succ hc, outW_zero h i (by omega)]
theorem outW_len (h : Hp) (V : Nat) : ∀ i, i ≤ h.cs.length → (outW h V i).length ≤ (refsTo h i).length
  | 0, _ => by rw [refsTo_zero]; exact Nat.le_refl _
  | i + 1, hi => by
    have ih := outW_len h V i (by omega)
    have hc := List.getElem?_eq_getElem (show i < h.cs.length by omega)
    rw [refsTo_succ hc, List.length_append]
    cases e : V.testBit i
    · rw [outW_out e hc, List.length_append]
      omega
    · rw [outW_in e]
      omega
end Hps
set_option maxHeartbeats 2000000 in
theorem countsWithout_any (A R : Option Addr) (n c m d V : Nat) (h : Hp) (w : World) (hs : HS w w.heap.size A n R m h) (hv : Hps.validH h = true) (hVl : V < 18446744073709551616) :
    Calls Tryd.prog 97 #[heapV A n c R m d, .int .u64 V] w (GaveI w (Hps.cntN n (Hps.outW h V n))) := by
  have hlc := hs.cells.1
  have hlr := hs.roots.1
  obtain ⟨s1, s2, s3⟩ := Hps.valid_small hv
  have HRF := Lib.hid (Hps.valid_refs hv)
  have HRO := Lib.hid (Hps.valid_iff.1 hv).2.2.2
  have HS3 := Lib.hid s3
  have HTO := Lib.hid (fun i hi => Nat.le_trans (Hps.outW_len h V i hi) (Hps.refsTo_len (h := h) (fun cl hcl => by have := HS3.out cl hcl; omega) (k := i) hi))
  have b0 : Below w.heap.size w (w.alloc (.cells #[.slice A n c, .slice R m d] 26)) := (Below.refl _ _).alloc (Nat.le_refl _) _
  have hw1 := Rw.new w 26 #[.slice A n c, .slice R m d]
  clear hv s3
  obtain ⟨w1, hw1e⟩ : ∃ w1, w.alloc (.cells #[.slice A n c, .slice R m d] 26) = w1 := ⟨_, rfl⟩
  have r1 := hs.up b0
  rw [hw1e] at b0 hw1 r1
  have z0 : w1.cell? ⟨w.heap.size, 0, none⟩ = some (.slice A n c) := hw1.cell 0
  have z1 : w1.cell? ⟨w.heap.size, 1, none⟩ = some (.slice R m d) := hw1.cell 1
  have hwl := hw1.lt
  have hmk := makeI w1 n (by omega)
  have b2 : Below w1.heap.size w1 (w1.alloc (.cells (Array.replicate n (.int .i64 0)) 3)) := (Below.refl _ _).alloc (Nat.le_refl _) _
  have o2 := own_madeI w1 n (by omega)
  rw [← Hps.cntN_nil] at o2
  obtain ⟨w2, hw2⟩ : ∃ w2, w1.alloc (.cells (Array.replicate n (.int .i64 0)) 3) = w2 := ⟨_, rfl⟩
  rw [hw2] at hmk b2 o2
  obtain ⟨B, hB⟩ : ∃ B, w1.heap.size = B := ⟨_, rfl⟩
  have hB2 : B ≤ w2.heap.size := by have := b2.size; omega
  have f2 := r1.roots.below b2
  have hbw : w.heap.size ≤ B := by omega
  have C1 := r1.cells
  rw [hB] at hmk b2 o2 f2 hwl C1
  have y0 : w2.cell? ⟨w.heap.size, 0, none⟩ = some (.slice A n c) := (b2.cell (p := ⟨w.heap.size, 0, none⟩) hwl).trans z0
  have y1 : w2.cell? ⟨w.heap.size, 1, none⟩ = some (.slice R m d) := (b2.cell (p := ⟨w.heap.size, 1, none⟩) hwl).trans z1
  clear hw2
  go_enter Tryd.func97, Tryd.ntmps97
  go_wp2_with fail
  refine (countTargets_any B n m d R h.cs [] h.rt _ B hlc o2 f2 HRO.out (by omega) (by omega) (by simp) (Nat.le_refl _) hB2).mono ?_
  rintro e w3 ⟨rfl, o3, b3⟩
  rw [List.nil_append] at o3
  have bb3 := b2.trans b3
  clear o2 f2 b3 y0 y1 hmk
  have y0 : w3.cell? ⟨w.heap.size, 0, none⟩ = some (.slice A n c) := (bb3.cell (p := ⟨w.heap.size, 0, none⟩) hwl).trans z0
  go_wp2_with fail
  go_loopw [19] (fun i wr => ∃ k : Nat, k ≤ n ∧ i = .int .i64 k ∧ OwnI wr B (.slice (some ⟨B, 0, none⟩) n n) (Hps.cntN n (Hps.outW h V k)) ∧ Below B w1 wr) (fun i _ => n - (intOf i).toNat)
  case atStart => exact ⟨0, Nat.zero_le _, rfl, o3, bb3⟩
  case round =>
    clear o3 bb3 y0
    obtain ⟨k, hk, rfl, ho, bb⟩ := hrel
    by_cases hlt : k < n
    · obtain ⟨g, o, cl, A', m', cc, e1, hg, hcl, d1, d2, d3, hmc, hi⟩ := C1.at_ hlt
      subst e1
      replace d1 := (bb.cell (p := ⟨g, o + k * 3, none⟩) hg).trans d1
      replace d2 := (bb.cell (p := ⟨g, o + k * 3 + 1, none⟩) hg).trans d2
      replace d3 := (bb.cell (p := ⟨g, o + k * 3 + 2, none⟩) hg).trans d3
      have hlt' : (k : Int) < n := by omega
      have hsz : B ≤ wr.heap.size := by have := bb.size; omega
      have bW := bb.alloc hsz (.cells #[.bool cl.u, .int .i64 cl.d, .slice A' m' cc] 40)
      have oW := World.ownsRow.alloc ho (.cells #[.bool cl.u, .int .i64 cl.d, .slice A' m' cc] 40)
      have fW := hi.below bW
      have hm3 : m' ≤ 3 := by have := HS3.out cl (List.mem_of_getElem? hcl); have := hi.1; omega
      have hok := HRF.out cl (List.mem_of_getElem? hcl)
      have HOK := Lib.hid hok
      have HB := Lib.hid (show Hps.hasB V (k : Int) = V.testBit k by simp [Hps.hasB])
      cases hbit : V.testBit k
      · have HSU := Lib.hid (Hps.outW_out hbit hcl)
        have HBF := Lib.hid (HB.out.trans hbit)
        have hrl : (Hps.outW h V k).length ≤ 1000000000 := by have := HTO.out k (by omega); omega
        clear hcl hok hbit HB
        go_wp2_with fail
        refine (has_any V k _ hVl).mono ?_
        rw [HBF.out]
        rintro e w4 ⟨rfl, rfl⟩
        go_wp2_with fail
        refine (countTargets_any B n m' cc A' h.cs (Hps.outW h V k) cl.r _ B hlc oW fW HOK.out (by omega) (by omega) hrl (Nat.le_refl _) (by simp; omega)).mono ?_
        rintro e w5 ⟨rfl, o5, b5⟩
        rw [← HSU.out] at o5
        have bn := bW.trans b5
        go_wp2_with fail
        go_roundw
        case rel => exact ⟨k + 1, by omega, by go_num, o5, bn⟩
        case measure => simp [intOf]; omega
      · have HSU := Lib.hid (Hps.outW_in (h := h) hbit)
        have HBF := Lib.hid (HB.out.trans hbit)
        clear hcl hok hbit HB
        go_wp2_with fail
        refine (has_any V k _ hVl).mono ?_
        rw [HBF.out]
        rintro e w4 ⟨rfl, rfl⟩
        go_wp2_with fail
        go_roundw
        case rel => exact ⟨k + 1, by omega, by go_num, by rw [HSU.out]; exact oW, bW⟩
        case measure => simp [intOf]; omega
    · obtain rfl : k = n := by omega
      go_wp2_with fail
      go_ret
      exact ⟨_, rfl, ho.base (by omega), b0.trans (bb.mono (by omega))⟩
set_option maxHeartbeats 1000000 in
theorem refCounts_any (A R : Option Addr) (n c m d : Nat) (h : Hp) (w : World) (hs : HS w w.heap.size A n R m h) (hn : n ≤ 1099511627776) (hm : m ≤ 1099511627776) (hc : n ≤ c) (hd : m ≤ d) :
    Calls Tryd.prog 40 #[heapV A n c R m d] w (GaveI w (Hps.countsH h)) := by
  have hlc := hs.cells.1
  have b0 : Below w.heap.size w (w.alloc (.cells #[.slice A n c, .slice R m d] 26)) := (Below.refl _ _).alloc (Nat.le_refl _) _
  have r0 := hs.up b0
  have hw0 := Rw.new w 26 #[.slice A n c, .slice R m d]
  cases hv : Hps.validH h
  · have HR := Lib.hid (show Hps.countsH h = [] by rw [Hps.countsH, hv]; rfl)
    have HV := Lib.hid hv
    clear hv
    go_enter Tryd.func40, Tryd.ntmps40
    go_wp2_with fail
    refine (heapValid_any _ _ _ _ _ _ h _ r0 hn hm hc hd).mono ?_
    rw [HV.out]
    rintro e w1 ⟨rfl, b1⟩
    have bb1 := b0.trans (b1.mono b0.size)
    go_wp2_with fail
    go_ret
    exact ⟨_, rfl, by rw [HR.out]; exact World.ownsRow_nil _ _ _ _, bb1⟩
  · have HR := Lib.hid (show Hps.cntN n (Hps.outW h 0 n) = Hps.countsH h by rw [Hps.countsH, hv, if_pos rfl, Hps.outW_zero h n (by omega), Hps.countsL_eq, hlc, ← Hps.refsTo_all, hlc])
    have HV := Lib.hid hv
    clear hv
    go_enter Tryd.func40, Tryd.ntmps40
    go_wp2_with fail
    refine (heapValid_any _ _ _ _ _ _ h _ r0 hn hm hc hd).mono ?_
    rw [HV.out]
    rintro e w1 ⟨rfl, b1⟩
    have bb1 := b0.trans (b1.mono b0.size)
    have r1 := r0.up b1
    have hw1 := hw0.keep b1 (by simp)
    have z0 : w1.cell? ⟨w.heap.size, 0, none⟩ = some (.slice A n c) := hw1.cell 0
    have z1 : w1.cell? ⟨w.heap.size, 1, none⟩ = some (.slice R m d) := hw1.cell 1
    clear r0 hw0
    go_wp2_with fail
    refine (countsWithout_any A R n c m d 0 h _ r1 HV.out (by omega)).mono ?_
    rintro e w2 ⟨v2, rfl, o2, b2⟩
    rw [HR.out] at o2
    go_wp2_with fail
    go_ret
    exact ⟨_, rfl, o2.base bb1.size, bb1.trans (b2.mono bb1.size)⟩
end Go.Proofs.YthmddmddcdofaaaDoor

namespace Go.Proofs.YthmddmddcdofaaaDoor
open Go.RowKit
set_option maxRecDepth 100000
namespace Hps
theorem outW_eq {h : Hp} {V : Nat} {s : List Bool} (hb : ∀ i, V.testBit i = decide (s[i]? = some true)) : ∀ i, outW h V i = outTo h s i
  | 0 => rfl
  | i + 1 => by
    rw [outW, outTo, outW_eq hb i, hb i]
    by_cases q : s[i]? = some true
    · rw [if_pos q, if_pos (decide_eq_true q)]
    · rw [if_neg q, if_neg (by rw [decide_eq_false q]; decide)]
      all_goals (cases h.cs[i]? <;> rfl)
end Hps
end Go.Proofs.YthmddmddcdofaaaDoor

namespace Go.Proofs.YthmddmddcdofaaaDoor
open Go.RowKit
set_option maxRecDepth 100000
namespace Hps
end Hps
set_option maxHeartbeats 1000000 in
theorem flaggedSet_any (A : Option Addr) (n c : Nat) (bs : List Bool) (w : World) (h : OS w w.heap.size A n bs) (hn : n ≤ 64) :
    Calls Tryd.prog 73 #[.slice A n c] w fun e w' => e = .returned (.int .u64 (Bm.wordN bs true : Nat)) ∧ w = w' := by
  have hlb := h.1
  have HW := Lib.hid (show Bm.wordN bs true = Bm.setN bs true n by rw [Bm.wordN, hlb])
  go_enter Tryd.func73, Tryd.ntmps73
  go_wp2_with fail
  go_loopw [3, 8] (fun v i wr => ∃ k : Nat, k ≤ n ∧ i = .int .i64 k ∧ v = .int .u64 (Bm.setN bs true k : Nat) ∧ wr = w) (fun _ i _ => n - (intOf i).toNat)
  case atStart => exact ⟨0, Nat.zero_le _, rfl, rfl, rfl⟩
  case round =>
    obtain ⟨k, hk, rfl, rfl, rfl⟩ := hrel
    by_cases hlt : k < n
    · obtain ⟨g, o, b, rfl, hg, hb, d1⟩ := h.at_ hlt
      have hlt' : (k : Int) < n := by omega
      have hV := Bm.setN_64 bs true (k := k) (by omega)
      obtain ⟨p1, p2, p3⟩ := Hps.pow_in (k := k) (by omega)
      have hor := Hps.or_in (V := Bm.setN bs true k) (k := k) hV (by omega)
      have hkneg : ¬ ((k : Int) < 0) := by omega
      cases b
      · have HN := Lib.hid (show Bm.setN bs true (k + 1) = Bm.setN bs true k by rw [Bm.setN, if_neg (by rw [hb]; decide)])
        clear hb
        go_wp2_with fail
        go_roundw
        case rel => exact ⟨k + 1, by omega, by go_num, by rw [HN.out], trivial⟩
        case measure => simp [intOf]; omega
      · have HN := Lib.hid (show Bm.setN bs true (k + 1) = Bm.setN bs true k ||| 2 ^ k by rw [Bm.setN, if_pos hb])
        clear hb
        go_wp2_with fail
        go_roundw
        case rel => exact ⟨k + 1, by omega, by go_num, by rw [HN.out], trivial⟩
        case measure => simp [intOf]; omega
    · obtain rfl : k = n := by omega
      go_wp2_with fail
      go_ret
      exact ⟨by rw [HW.out]; rfl, rfl⟩
end Go.Proofs.YthmddmddcdofaaaDoor

namespace Go.Proofs.YthmddmddcdofaaaDoor
open Go.RowKit
set_option maxRecDepth 100000
set_option maxHeartbeats 2000000 in
theorem keepsTargets_any (A R : Option Addr) (n c m d : Nat) (h : Hp) (marks : List Bool) (w : World) (hs : HS w w.heap.size A n R m h) (hv : Hps.validH h = true) (hl : marks.length = h.cs.length) :
    Calls Tryd.prog 74 #[.int .u64 (Bm.wordN marks true : Nat), heapV A n c R m d] w fun e w' => e = .returned (.bool (Hps.validH (Hps.dropH h (marks.map (!·))))) ∧ Below w.heap.size w w' := by
  have hlc := hs.cells.1
  obtain ⟨h40, hr4, h3⟩ := Hps.valid_small hv
  have hM := Bm.wordN_lt marks true (by omega)
  have HNR := Lib.hid (Hps.keep_no_root hv hl)
  have HNC := Lib.hid (fun k cl hc => Hps.keep_no_cell (k := k) (c := cl) hv hl hc)
  have HALL := Lib.hid (Hps.keep_all hv hl)
  obtain ⟨M, hMe⟩ : ∃ M, Bm.wordN marks true = M := ⟨_, rfl⟩
  rw [hMe] at hM HNR HNC HALL ⊢
  obtain ⟨r, hr⟩ : ∃ r, Hps.validH (Hps.dropH h (marks.map (!·))) = r := ⟨_, rfl⟩
  rw [hr] at HNR HNC HALL ⊢
  have hlr := hs.roots.1
  rw [hlc] at h40
  rw [hlr] at hr4
  have hm4 : m ≤ 4 := by omega
  clear hr4
  have b0 : Below w.heap.size w (w.alloc (.cells #[.slice A n c, .slice R m d] 26)) := (Below.refl _ _).alloc (Nat.le_refl _) _
  have q1 := Rw.new w 26 #[.slice A n c, .slice R m d]
  have s0 := hs.up b0
  have HS3 := Lib.hid h3
  clear hMe hr hs hv hl h3 hlc hlr
  go_enter Tryd.func74, Tryd.ntmps74
  go_upto_region 1 with fail
  generalize w.alloc (.cells #[.slice A n c, .slice R m d] 26) = w2 at b0 q1 s0 ⊢
  obtain ⟨q, hq⟩ : ∃ q, w.heap.size = q := ⟨_, rfl⟩
  rw [hq] at q1 ⊢
  have HQ := Lib.hid hq
  have hql := q1.lt
  have hqe := hq
  clear hq
  have x0 : w2.cell? ⟨q, 0, none⟩ = some (.slice A n c) := q1.cell 0
  have x1 : w2.cell? ⟨q, 1, none⟩ = some (.slice R m d) := q1.cell 1
  have HQE := Lib.hid hqe
  clear hqe
  go_wp2_with fail
  refine (hasTargets_any R m d M h.rt w2 s0.roots hM (by omega)).mono ?_
  obtain ⟨k0, hk0⟩ : ∃ k0, Hps.okVs M h.rt = k0 := ⟨_, rfl⟩
  rw [hk0] at HNR HALL ⊢
  clear hk0
  rintro e w3 ⟨rfl, rfl⟩
  cases k0
  · obtain rfl := HNR.out rfl
    clear x0 x1
    go_wp2_with fail
    go_ret
    exact ⟨rfl, b0⟩
  have HK := Lib.hid (show ∀ (k : Nat) (cl : Cl), k < 0 → h.cs[k]? = some cl → M.testBit k = true → Hps.okVs M cl.r = true from fun k cl hk => absurd hk (Nat.not_lt_zero k))
  go_wp2_with fail
  go_loopw [15] (fun i wr => ∃ k : Nat, k ≤ n ∧ i = .int .i64 k ∧ Below w2.heap.size w2 wr ∧ Hid (∀ (j : Nat) (cl : Cl), j < k → h.cs[j]? = some cl → M.testBit j = true → Hps.okVs M cl.r = true)) (fun i _ => n - (intOf i).toNat)
  case atStart => exact ⟨0, Nat.zero_le _, rfl, Below.refl _ _, HK⟩
  case round =>
    clear HK x0 x1
    obtain ⟨k, hk, rfl, bb, HK⟩ := hrel
    by_cases hlt : k < n
    · obtain ⟨g, o, cl, A', m', cc, rfl, hg, hcl, d1, d2, d3, hmc, hi⟩ := (s0.cells.below bb).at_ hlt
      have hlt' : (k : Int) < n := by omega
      have hB : Hps.hasB M (k : Int) = M.testBit k := by simp [Hps.hasB]
      have hm3 : m' ≤ 3 := by have := HS3.out cl (List.mem_of_getElem? hcl); have := hi.1; omega
      have HCL := Lib.hid hcl
      have bA := bb.alloc bb.size (.cells #[.bool cl.u, .int .i64 cl.d, .slice A' m' cc] 40)
      have QC := Rw.new wr 40 #[.bool cl.u, .int .i64 cl.d, .slice A' m' cc]
      have hi2 : IS (wr.alloc (.cells #[.bool cl.u, .int .i64 cl.d, .slice A' m' cc] 40)) (wr.alloc (.cells #[.bool cl.u, .int .i64 cl.d, .slice A' m' cc] 40)).heap.size A' m' cl.r := ((hi.more bb.size).below ((Below.refl _ _).alloc (Nat.le_refl _) _)).more (by simp)
      have HB := Lib.hid hB
      clear hcl hB
      go_upto_region 6 with fail
      generalize wr.alloc (.cells #[.bool cl.u, .int .i64 cl.d, .slice A' m' cc] 40) = w4 at bA QC hi2 ⊢
      generalize wr.heap.size = gq at QC ⊢
      have z2 : w4.cell? ⟨gq, 2, none⟩ = some (.slice A' m' cc) := QC.cell 2
      clear d1 d2 d3
      go_wp2_with fail
      refine (has_any M (k : Int) w4 hM).mono ?_
      rw [HB.out]
      cases hbit : M.testBit k
      · have HN := Lib.hid (show ∀ (j : Nat) (cl : Cl), j < k + 1 → h.cs[j]? = some cl → M.testBit j = true → Hps.okVs M cl.r = true from fun j cl hj hc hb => by
          by_cases e : j = k
          · subst e
            rw [hbit] at hb
            cases hb
          · exact HK.out j cl (by omega) hc hb)
        clear hbit
        rintro e w5 ⟨rfl, rfl⟩
        go_wp2_with fail
        go_roundw
        case rel => exact ⟨k + 1, by omega, by go_num, bA, HN⟩
        case measure => simp [intOf]; omega
      · have HBT := Lib.hid hbit
        clear hbit
        rintro e w5 ⟨rfl, rfl⟩
        go_wp2_with fail
        refine (hasTargets_any A' m' cc M cl.r w4 hi2 hM (by omega)).mono ?_
        obtain ⟨k1, hk1⟩ : ∃ k1, Hps.okVs M cl.r = k1 := ⟨_, rfl⟩
        rw [hk1]
        rintro e w6 ⟨rfl, rfl⟩
        cases k1
        · obtain rfl := HNC.out k cl HCL.out HBT.out hk1
          have bF := b0.trans (bA.mono b0.size)
          clear hk1
          go_wp2_with fail
          go_ret
          exact ⟨rfl, bF⟩
        · have HN := Lib.hid (show ∀ (j : Nat) (cl : Cl), j < k + 1 → h.cs[j]? = some cl → M.testBit j = true → Hps.okVs M cl.r = true from fun j cl2 hj hc hb => by
            by_cases e : j = k
            · subst e
              rw [HCL.out] at hc
              obtain rfl := Option.some.inj hc
              exact hk1
            · exact HK.out j cl2 (by omega) hc hb)
          clear hk1
          go_wp2_with fail
          go_roundw
          case rel => exact ⟨k + 1, by omega, by go_num, bA, HN⟩
          case measure => simp [intOf]; omega
    · obtain rfl : k = n := by omega
      have hlc := s0.cells.1
      obtain rfl := HALL.out (by simp) fun j cl hc hb => HK.out j cl (by have := (List.getElem?_eq_some_iff.1 hc).1; omega) hc hb
      have bF := b0.trans (bb.mono b0.size)
      clear hlc
      go_wp2_with fail
      go_ret
      exact ⟨rfl, bF⟩
set_option maxHeartbeats 4000000 in
theorem sweepCells_any (A R D : Option Addr) (n c m d q e : Nat) (h : Hp) (bs : List Bool) (w : World) (hT : TzT w) (hs : HS w w.heap.size A n R m h) (ho : OS w w.heap.size D q bs) (hn : n ≤ 1099511627776) (hm : m ≤ 1099511627776) (hq : q ≤ 1099511627776) (hnc : n ≤ c) (hmd : m ≤ d) :
    Calls Tryd.prog 26 #[heapV A n c R m d, .slice D q e] w (GaveHN w (Hps.sweepH h bs).1 (Hps.sweepH h bs).2) := by
  have hlc := hs.cells.1
  have hlr := hs.roots.1
  have hlb := ho.1
  have b2 : Below w.heap.size w ((w.alloc (.cells #[.slice A n c, .slice R m d] 26)).alloc (.cells #[.slice none 0 0, .slice none 0 0] 26)) := ((Below.refl _ _).alloc (Nat.le_refl _) _).alloc (by simp) _
  have q1 := (Rw.new w 26 #[.slice A n c, .slice R m d]).alloc (.cells #[.slice none 0 0, .slice none 0 0] 26)
  have q3 := Rw.new (w.alloc (.cells #[.slice A n c, .slice R m d] 26)) 26 #[.slice none 0 0, .slice none 0 0]
  simp only [World.size_alloc] at q3
  have s2 := hs.up b2
  have o2 := ho.up b2
  have hT2 := hT.below b2
  have HLC := Lib.hid hlc
  clear hs ho hT
  go_enter Tryd.func26, Tryd.ntmps26
  go_upto_region 1 with fail
  generalize (w.alloc (.cells #[.slice A n c, .slice R m d] 26)).alloc (.cells #[.slice none 0 0, .slice none 0 0] 26) = w2 at b2 q1 q3 s2 o2 hT2 ⊢
  have x0 : w2.cell? ⟨w.heap.size, 0, none⟩ = some (.slice A n c) := q1.cell 0
  have x1 : w2.cell? ⟨w.heap.size, 1, none⟩ = some (.slice R m d) := q1.cell 1
  go_wp2_with fail
  refine (heapValid_any _ _ _ _ _ _ h _ s2 hn hm hnc hmd).mono ?_
  obtain ⟨r, hv⟩ : ∃ r, Hps.validH h = r := ⟨_, rfl⟩
  rw [hv]
  rintro e w3 ⟨rfl, b1⟩
  replace q1 := q1.keep b1 q1.lt
  replace q3 := q3.keep b1 q3.lt
  replace s2 := s2.up b1
  replace o2 := o2.up b1
  replace hT2 := hT2.below b1
  replace b2 := b2.trans (b1.mono b2.size)
  clear b1 x0 x1
  cases r
  · have HF := Lib.hid (Hps.sweepH_no (h := h) (bs := bs) (.inl hv))
    have r2 : (w3).frozen? ⟨w.heap.size + 1, 0, none⟩ = false := q3.frozen 0
    have r3 : (w3).frozen? ⟨w.heap.size + 1, 1, none⟩ = false := q3.frozen 1
    have r4 : (w3).cell? ⟨w.heap.size + 1, 0, none⟩ = some (.slice none 0 0) := q3.cell 0
    have r5 : (w3).cell? ⟨w.heap.size + 1, 1, none⟩ = some (.slice none 0 0) := q3.cell 1
    have r6 : (((w3).setCell ⟨w.heap.size + 1, 0, none⟩ (.slice none 0 0)).setCell ⟨w.heap.size + 1, 1, none⟩ (.slice none 0 0)).cell? ⟨w.heap.size + 1, 0, none⟩ = some (.slice none 0 0) := ((q3.put 0 (.slice none 0 0)).put 1 (.slice none 0 0)).cell 0
    have r7 : (((w3).setCell ⟨w.heap.size + 1, 0, none⟩ (.slice none 0 0)).setCell ⟨w.heap.size + 1, 1, none⟩ (.slice none 0 0)).cell? ⟨w.heap.size + 1, 1, none⟩ = some (.slice none 0 0) := ((q3.put 0 (.slice none 0 0)).put 1 (.slice none 0 0)).cell 1
    have D := Lib.hid (OwnH.out (w := w) (g := w.heap.size + 1) (own_zeroH w3 w3.heap.size (Nat.le_refl _)) (by exact q3.lt) (b2) (by omega))
    clear q1 q3 s2 o2 hT2 b2 hv
    go_wp2_with fail
    exact bodyPost_ret (v := .tuple #[.agg #[.slice none 0 0, .slice none 0 0], .int .i64 (-1)]) (by simp [results, Tryd.results26, go_sem, *]) rfl ⟨_, _, by rw [HF.out], by rw [HF.out]; exact D.out.1, D.out.2⟩
  have x0 : w3.cell? ⟨w.heap.size, 0, none⟩ = some (.slice A n c) := q1.cell 0
  have x1 : w3.cell? ⟨w.heap.size, 1, none⟩ = some (.slice R m d) := q1.cell 1
  by_cases hqn : q = n
  case neg =>
    have HF := Lib.hid (Hps.sweepH_no (h := h) (bs := bs) (.inr (by omega)))
    have hne : ((q : Int) != (n : Int)) = true := by rw [bne_iff_ne]; omega
    have r2 : (w3).frozen? ⟨w.heap.size + 1, 0, none⟩ = false := q3.frozen 0
    have r3 : (w3).frozen? ⟨w.heap.size + 1, 1, none⟩ = false := q3.frozen 1
    have r4 : (w3).cell? ⟨w.heap.size + 1, 0, none⟩ = some (.slice none 0 0) := q3.cell 0
    have r5 : (w3).cell? ⟨w.heap.size + 1, 1, none⟩ = some (.slice none 0 0) := q3.cell 1
    have r6 : (((w3).setCell ⟨w.heap.size + 1, 0, none⟩ (.slice none 0 0)).setCell ⟨w.heap.size + 1, 1, none⟩ (.slice none 0 0)).cell? ⟨w.heap.size + 1, 0, none⟩ = some (.slice none 0 0) := ((q3.put 0 (.slice none 0 0)).put 1 (.slice none 0 0)).cell 0
    have r7 : (((w3).setCell ⟨w.heap.size + 1, 0, none⟩ (.slice none 0 0)).setCell ⟨w.heap.size + 1, 1, none⟩ (.slice none 0 0)).cell? ⟨w.heap.size + 1, 1, none⟩ = some (.slice none 0 0) := ((q3.put 0 (.slice none 0 0)).put 1 (.slice none 0 0)).cell 1
    have D := Lib.hid (OwnH.out (w := w) (g := w.heap.size + 1) (own_zeroH w3 w3.heap.size (Nat.le_refl _)) (by exact q3.lt) (b2) (by omega))
    clear q1 q3 s2 o2 hT2 b2 hv hqn
    go_wp2_with fail
    exact bodyPost_ret (v := .tuple #[.agg #[.slice none 0 0, .slice none 0 0], .int .i64 (-1)]) (by simp [results, Tryd.results26, go_sem, *]) rfl ⟨_, _, by rw [HF.out], by rw [HF.out]; exact D.out.1, D.out.2⟩
  have hbl : bs.length = h.cs.length := by omega
  have hne : ((q : Int) != (n : Int)) = false := by rw [bne_eq_false_iff_eq]; omega
  obtain ⟨h40, hr4, h3⟩ := Hps.valid_small hv
  have hKT := fun (w1 : World) (hs : HS w1 w1.heap.size A n R m h) => keepsTargets_any A R n c m d h bs w1 hs hv hbl
  have HFL := Lib.hid (flaggedSet_any D q e bs w3 o2 (by omega))
  obtain ⟨r, hr⟩ : ∃ r, Hps.validH (Hps.dropH h (bs.map (!·))) = r := ⟨_, rfl⟩
  rw [hr] at hKT
  have HKT := Lib.hid hKT
  obtain ⟨M, hM⟩ : ∃ M, Bm.wordN bs true = M := ⟨_, rfl⟩
  rw [hM] at HFL HKT
  have HM := Lib.hid hM
  have HV := Lib.hid hv
  have HR := Lib.hid hr
  have HBL := Lib.hid hbl
  have H3 := Lib.hid (fun cl (hcl : cl ∈ h.cs) => show cl.r.length ≤ 1000000 by have := h3 cl hcl; omega)
  rw [hlc] at h40
  rw [hlr] at hr4
  have hm4 : m ≤ 4 := by omega
  clear hr4
  clear hv hr hbl hM h3 hKT hqn
  go_wp2_with fail
  refine HFL.out.mono ?_
  rintro e w4 ⟨rfl, rfl⟩
  clear HFL
  go_wp2_with fail
  refine (HKT.out _ s2).mono ?_
  rintro e w4 ⟨rfl, b1⟩
  replace q1 := q1.keep b1 q1.lt
  replace q3 := q3.keep b1 q3.lt
  replace s2 := s2.up b1
  replace hT2 := hT2.below b1
  replace b2 := b2.trans (b1.mono b2.size)
  clear b1 x0 x1 HKT o2
  cases r
  · have HF := Lib.hid (Hps.sweepH_bad HV.out HBL.out HR.out)
    have r2 : (w4).frozen? ⟨w.heap.size + 1, 0, none⟩ = false := q3.frozen 0
    have r3 : (w4).frozen? ⟨w.heap.size + 1, 1, none⟩ = false := q3.frozen 1
    have r4 : (w4).cell? ⟨w.heap.size + 1, 0, none⟩ = some (.slice none 0 0) := q3.cell 0
    have r5 : (w4).cell? ⟨w.heap.size + 1, 1, none⟩ = some (.slice none 0 0) := q3.cell 1
    have r6 : (((w4).setCell ⟨w.heap.size + 1, 0, none⟩ (.slice none 0 0)).setCell ⟨w.heap.size + 1, 1, none⟩ (.slice none 0 0)).cell? ⟨w.heap.size + 1, 0, none⟩ = some (.slice none 0 0) := ((q3.put 0 (.slice none 0 0)).put 1 (.slice none 0 0)).cell 0
    have r7 : (((w4).setCell ⟨w.heap.size + 1, 0, none⟩ (.slice none 0 0)).setCell ⟨w.heap.size + 1, 1, none⟩ (.slice none 0 0)).cell? ⟨w.heap.size + 1, 1, none⟩ = some (.slice none 0 0) := ((q3.put 0 (.slice none 0 0)).put 1 (.slice none 0 0)).cell 1
    have D := Lib.hid (OwnH.out (w := w) (g := w.heap.size + 1) (own_zeroH w4 w4.heap.size (Nat.le_refl _)) (by exact q3.lt) (b2) (by omega))
    clear q1 q3 s2 hT2 b2
    go_wp2_with fail
    exact bodyPost_ret (v := .tuple #[.agg #[.slice none 0 0, .slice none 0 0], .int .i64 (-1)]) (by simp [results, Tryd.results26, go_sem, *]) rfl ⟨_, _, by rw [HF.out], by rw [HF.out]; exact D.out.1, D.out.2⟩
  have HF := Lib.hid (Hps.sweepH_ok HV.out HBL.out HR.out)
  have x0 : w4.cell? ⟨w.heap.size, 0, none⟩ = some (.slice A n c) := q1.cell 0
  have x1 : w4.cell? ⟨w.heap.size, 1, none⟩ = some (.slice R m d) := q1.cell 1
  have hrl := q3.lt
  go_wp2_with fail
  refine (sweeperOf_any A R n c m d h w4 s2 (by omega) (by omega) H3.out).mono ?_
  rintro e w5 ⟨vc, vr, vk, rfl, oc, b5⟩
  obtain ⟨rv, S⟩ := SwSt.of oc b5
  obtain ⟨A5, n5, c5, R5, m5, d5, K5, p5, q5, rfl, rfl, rfl⟩ := oc.slices
  have Q3 := Lib.hid q3
  have B2 := Lib.hid b2
  have HT := Lib.hid hT2
  clear oc b5 x0 x1 q1 q3 b2 s2 hT2
  go_upto_region 7 with fail
  generalize w5.alloc (.cells #[.slice A5 n5 c5, .slice R5 m5 d5, .slice K5 p5 q5] 104) = w6 at S ⊢
  generalize w5.heap.size = b at S ⊢
  have HSW := Lib.hid (sweep_any [] w4 w6 b _ _ rv h _ bs HT.out S HBL.out (by have := HLC.out; omega) (Hps.valid_zero HV.out))
  rw [HM.out, HBL.out] at HSW
  obtain ⟨fr, hfr⟩ : ∃ fr, Hps.freedTo h.cs bs h.cs.length = fr := ⟨_, rfl⟩
  rw [hfr] at HF HSW
  clear S hfr
  go_wp2_with fail
  refine HSW.out.mono ?_
  rintro e w7 ⟨rfl, rv2, S7⟩
  have z0 : w7.cell? ⟨b, 0, none⟩ = some (.slice A5 n5 c5) := S7.c0
  have z1 : w7.cell? ⟨b, 1, none⟩ = some (.slice R5 m5 d5) := S7.c1
  have q3 := Q3.out.keep S7.low hrl
  have b2 := B2.out.trans (S7.low.mono B2.out.size)
  have hw4 := B2.out.size
  have OH := S7.ownH
  clear S7 HSW
  have r2 : (w7).frozen? ⟨w.heap.size + 1, 0, none⟩ = false := q3.frozen 0
  have r3 : (w7).frozen? ⟨w.heap.size + 1, 1, none⟩ = false := q3.frozen 1
  have r4 : (w7).cell? ⟨w.heap.size + 1, 0, none⟩ = some (.slice none 0 0) := q3.cell 0
  have r5 : (w7).cell? ⟨w.heap.size + 1, 1, none⟩ = some (.slice none 0 0) := q3.cell 1
  have r6 : (((w7).setCell ⟨w.heap.size + 1, 0, none⟩ (.slice A5 n5 c5)).setCell ⟨w.heap.size + 1, 1, none⟩ (.slice R5 m5 d5)).cell? ⟨w.heap.size + 1, 0, none⟩ = some (.slice A5 n5 c5) := ((q3.put 0 (.slice A5 n5 c5)).put 1 (.slice R5 m5 d5)).cell 0
  have r7 : (((w7).setCell ⟨w.heap.size + 1, 0, none⟩ (.slice A5 n5 c5)).setCell ⟨w.heap.size + 1, 1, none⟩ (.slice R5 m5 d5)).cell? ⟨w.heap.size + 1, 1, none⟩ = some (.slice R5 m5 d5) := ((q3.put 0 (.slice A5 n5 c5)).put 1 (.slice R5 m5 d5)).cell 1
  have D := Lib.hid (OwnH.out (w := w) (g := w.heap.size + 1) (OH) (by omega) (b2) (by omega))
  clear q3 b2 OH
  go_wp2_with fail
  exact bodyPost_ret (v := .tuple #[.agg #[.slice A5 n5 c5, .slice R5 m5 d5], .int .i64 fr]) (by simp [results, Tryd.results26, go_sem, *]) rfl ⟨_, _, by rw [HF.out], by rw [HF.out]; exact D.out.1, D.out.2⟩
end Go.Proofs.YthmddmddcdofaaaDoor

namespace Go.Proofs.YthmddmddcdofaaaDoor
open Go.RowKit
set_option maxRecDepth 100000
set_option maxHeartbeats 4000000 in
theorem collectSweep_any (A R : Option Addr) (n c m d : Nat) (h : Hp) (w : World) (hT : TzT w) (hs : HS w w.heap.size A n R m h) (hn : n ≤ 1099511627776) (hm : m ≤ 1099511627776) (hnc : n ≤ c) (hmd : m ≤ d) :
    Calls Tryd.prog 20 #[heapV A n c R m d] w (GaveHN w (Hps.collectH h).1 (Hps.collectH h).2) := by
  have B2 : Below w.heap.size w ((w.alloc (.cells #[.slice A n c, .slice R m d] 26)).alloc (.cells #[.slice none 0 0, .slice none 0 0] 26)) := ((Below.refl _ _).alloc (Nat.le_refl _) _).alloc (by simp) _
  have q1 := (Rw.new w 26 #[.slice A n c, .slice R m d]).alloc (.cells #[.slice none 0 0, .slice none 0 0] 26)
  have q2 := Rw.new (w.alloc (.cells #[.slice A n c, .slice R m d] 26)) 26 #[.slice none 0 0, .slice none 0 0]
  simp only [World.size_alloc] at q2
  have s2 := hs.up B2
  have hT2 := hT.below B2
  have hlc := hs.cells.1
  obtain ⟨bs, hbs⟩ : ∃ bs, Hps.reachH h = bs := ⟨_, rfl⟩
  have hbq : bs.length ≤ 1099511627776 := by
    rw [← hbs, Hps.reachH]
    split
    · rw [Hps.reachL_len, hlc]; exact hn
    · simp
  have HBS := Lib.hid hbs
  have HSW := Lib.hid (show Hps.sweepH h bs = Hps.collectH h by rw [← hbs]; rfl)
  obtain ⟨X, hX⟩ : ∃ X, (Hps.collectH h).1 = X := ⟨_, rfl⟩
  obtain ⟨y, hy⟩ : ∃ y, (Hps.collectH h).2 = y := ⟨_, rfl⟩
  have HX := Lib.hid hX
  have HY := Lib.hid hy
  rw [hX, hy]
  clear hs hT hbs hX hy hlc
  go_enter Tryd.func20, Tryd.ntmps20
  go_upto_region 1 with fail
  generalize (w.alloc (.cells #[.slice A n c, .slice R m d] 26)).alloc (.cells #[.slice none 0 0, .slice none 0 0] 26) = w2 at B2 q1 q2 s2 hT2 ⊢
  obtain ⟨q, hq⟩ : ∃ q, w.heap.size = q := ⟨_, rfl⟩
  rw [hq] at B2 q1 q2 ⊢
  have HQ := Lib.hid hq
  clear hq
  have hql := q1.lt
  have hrl := q2.lt
  have x0 : w2.cell? ⟨q, 0, none⟩ = some (.slice A n c) := q1.cell 0
  have x1 : w2.cell? ⟨q, 1, none⟩ = some (.slice R m d) := q1.cell 1
  have SS := Lib.hid s2
  have TT := Lib.hid hT2
  clear s2 q1 hT2
  refine wp_region_inv (by kernel_rfl) (by kernel_rfl) (fun L ac ww => ∃ t3 t4 t5 t6 t7 t8 t9 : Value, ac = { tmps := #[heapV A n c R m d, Value.pointer (some { block := q, off := 0 }), Value.pointer (some { block := q + 1, off := 0 }), t3, t4, t5, t6, t7, t8, t9], defers := [] } ∧ (L 6 = false → Below w2.heap.size w2 ww) ∧ (L 0 = true → t4 = .agg #[.slice A n c, .slice R m d]) ∧ (L 1 = true → t5 = .agg #[.slice A n c, .slice R m d]) ∧ (L 2 = true → ∃ (D : Option Addr) (e5 : Nat), t6 = .slice D bs.length e5 ∧ (L 3 = false → OS ww ww.heap.size D bs.length bs)) ∧ (L 3 = true → L 0 = true ∧ L 2 = true ∧ ∃ (A5 : Option Addr) (n5 c5 : Nat) (R5 : Option Addr) (m5 d5 : Nat), t7 = .tuple #[.agg #[.slice A5 n5 c5, .slice R5 m5 d5], .int .i64 y] ∧ (L 6 = false → OwnH ww w2.heap.size (.slice A5 n5 c5) (.slice R5 m5 d5) X)) ∧ (L 4 = true → L 3 = true ∧ ∃ (A5 : Option Addr) (n5 c5 : Nat) (R5 : Option Addr) (m5 d5 : Nat), t7 = .tuple #[.agg #[.slice A5 n5 c5, .slice R5 m5 d5], .int .i64 y] ∧ t8 = .agg #[.slice A5 n5 c5, .slice R5 m5 d5]) ∧ (L 5 = true → L 3 = true ∧ t9 = .int .i64 y) ∧ (L 6 = true → (∀ q, q < 6 → L q = true) ∧ ∃ (A5 : Option Addr) (n5 c5 : Nat) (R5 : Option Addr) (m5 d5 : Nat) (wp : World), ww = ((wp).setCell ⟨q + 1, 0, none⟩ (.slice A5 n5 c5)).setCell ⟨q + 1, 1, none⟩ (.slice R5 m5 d5) ∧ Below w2.heap.size w2 wp ∧ OwnH wp w2.heap.size (.slice A5 n5 c5) (.slice R5 m5 d5) X) ∧ (L 7 = true → L 6 = true ∧ t3 = .int .i64 y)) ?h0 ?hstep ?hdone
  case h0 => exact ⟨_, _, _, _, _, _, _, rfl, fun _ => (Below.refl _ _).drew, (fun h => absurd h Bool.false_ne_true), (fun h => absurd h Bool.false_ne_true), (fun h => absurd h Bool.false_ne_true), (fun h => absurd h Bool.false_ne_true), (fun h => absurd h Bool.false_ne_true), (fun h => absurd h Bool.false_ne_true), (fun h => absurd h Bool.false_ne_true), (fun h => absurd h Bool.false_ne_true)⟩
  case hstep =>
    rintro L ac ww i o ho hL hd ⟨t3, t4, t5, t6, t7, t8, t9, rfl, I0, f0, f1, f2, f3, f4, f5, f6, f7⟩
    have hi : i < 8 := (Array.getElem?_eq_some_iff.1 ho).1
    obtain rfl | rfl | rfl | rfl | rfl | rfl | rfl | rfl : i = 0 ∨ i = 1 ∨ i = 2 ∨ i = 3 ∨ i = 4 ∨ i = 5 ∨ i = 6 ∨ i = 7 := by omega
    · obtain rfl := Option.some.inj ho
      have hL6 : L 6 = false := by
        cases e : L 6
        · rfl
        · exact absurd ((f6 e).1 0 (by decide)) (by rw [hL]; decide)
      have J := I0 hL6
      have z0 : ww.cell? ⟨q, 0, none⟩ = some (.slice A n c) := (J.cell (p := ⟨q, 0, none⟩) hql).trans x0
      have z1 : ww.cell? ⟨q, 1, none⟩ = some (.slice R m d) := (J.cell (p := ⟨q, 1, none⟩) hql).trans x1
      refine wpOp_step rfl (fun K' hK => ?_)
      go_simp
      refine hK _ _ ?_
      exact ⟨_, _, _, _, _, _, _, rfl, (fun _ => J), (fun _ => rfl), (kp f1), (fun h => by
        obtain ⟨D, e5, e, r⟩ := f2 (upd_ne h (by decide))
        exact ⟨D, e5, e, fun h3 => r (by rw [upd_other (by decide)] at h3; exact h3)⟩), (fun h => by
        obtain ⟨l0, l2, A5, n5, c5, R5, m5, d5, e, r⟩ := f3 (upd_ne h (by decide))
        exact ⟨upd_mono l0, upd_mono l2, A5, n5, c5, R5, m5, d5, e, fun h6 => r (by rw [upd_other (by decide)] at h6; exact h6)⟩), (fun h => by
        obtain ⟨l3, r⟩ := f4 (upd_ne h (by decide))
        exact ⟨upd_mono l3, r⟩), (fun h => ⟨upd_mono (f5 (upd_ne h (by decide))).1, (f5 (upd_ne h (by decide))).2⟩), (fun h => absurd hL6 (by rw [upd_ne h (by decide)]; decide)), (fun h => absurd (f7 (upd_ne h (by decide))).1 (by rw [hL6]; decide))⟩
    · obtain rfl := Option.some.inj ho
      have hL6 : L 6 = false := by
        cases e : L 6
        · rfl
        · exact absurd ((f6 e).1 1 (by decide)) (by rw [hL]; decide)
      have J := I0 hL6
      have z0 : ww.cell? ⟨q, 0, none⟩ = some (.slice A n c) := (J.cell (p := ⟨q, 0, none⟩) hql).trans x0
      have z1 : ww.cell? ⟨q, 1, none⟩ = some (.slice R m d) := (J.cell (p := ⟨q, 1, none⟩) hql).trans x1
      refine wpOp_step rfl (fun K' hK => ?_)
      go_simp
      refine hK _ _ ?_
      exact ⟨_, _, _, _, _, _, _, rfl, (fun _ => J), (kp f0), (fun _ => rfl), (fun h => by
        obtain ⟨D, e5, e, r⟩ := f2 (upd_ne h (by decide))
        exact ⟨D, e5, e, fun h3 => r (by rw [upd_other (by decide)] at h3; exact h3)⟩), (fun h => by
        obtain ⟨l0, l2, A5, n5, c5, R5, m5, d5, e, r⟩ := f3 (upd_ne h (by decide))
        exact ⟨upd_mono l0, upd_mono l2, A5, n5, c5, R5, m5, d5, e, fun h6 => r (by rw [upd_other (by decide)] at h6; exact h6)⟩), (fun h => by
        obtain ⟨l3, r⟩ := f4 (upd_ne h (by decide))
        exact ⟨upd_mono l3, r⟩), (fun h => ⟨upd_mono (f5 (upd_ne h (by decide))).1, (f5 (upd_ne h (by decide))).2⟩), (fun h => absurd hL6 (by rw [upd_ne h (by decide)]; decide)), (fun h => absurd (f7 (upd_ne h (by decide))).1 (by rw [hL6]; decide))⟩
    · obtain rfl := Option.some.inj ho
      have g1 := f1 (hd ⟨1, .data⟩ (by simp) rfl)
      subst g1
      have hL6 : L 6 = false := by
        cases e : L 6
        · rfl
        · exact absurd ((f6 e).1 2 (by decide)) (by rw [hL]; decide)
      have J := I0 hL6
      refine wpOp_step rfl (fun K' hK => ?_)
      go_simp
      refine (reachable_any A R n c m d h ww (SS.out.up J) hn hm hnc hmd).mono ?_
      rw [HBS.out]
      rintro e w' ⟨vo, rfl, oo, b5⟩
      obtain ⟨D, e5, rfl, -⟩ := oo.form
      refine hK _ _ ?_
      exact ⟨_, _, _, _, _, _, _, rfl, (fun _ => J.trans (b5.mono J.size)), (kp f0), (kp f1), (fun _ => ⟨D, e5, rfl, fun _ => oo.reads⟩), (fun h => absurd (f3 (upd_ne h (by decide))).2.1 (by rw [hL]; decide)), (fun h => by
        obtain ⟨l3, r⟩ := f4 (upd_ne h (by decide))
        exact ⟨upd_mono l3, r⟩), (fun h => ⟨upd_mono (f5 (upd_ne h (by decide))).1, (f5 (upd_ne h (by decide))).2⟩), (fun h => absurd hL6 (by rw [upd_ne h (by decide)]; decide)), (fun h => absurd (f7 (upd_ne h (by decide))).1 (by rw [hL6]; decide))⟩
    · obtain rfl := Option.some.inj ho
      have g0 := f0 (hd ⟨0, .data⟩ (by simp) rfl)
      have g2 := f2 (hd ⟨2, .data⟩ (by simp) rfl)
      subst g0
      have hL6 : L 6 = false := by
        cases e : L 6
        · rfl
        · exact absurd ((f6 e).1 3 (by decide)) (by rw [hL]; decide)
      have J := I0 hL6
      have l0 := Lib.hid (hd ⟨0, .data⟩ (by simp) rfl)
      have l2 := Lib.hid (hd ⟨2, .data⟩ (by simp) rfl)
      obtain ⟨D, e5, rfl, r2⟩ := g2
      have ho := r2 hL
      refine wpOp_step rfl (fun K' hK => ?_)
      go_simp
      refine (sweepCells_any A R D n c m d bs.length e5 h bs ww (TT.out.below J) (SS.out.up J) ho hn hm hbq hnc hmd).mono ?_
      rw [HSW.out, HX.out, HY.out]
      rintro e w' ⟨vc, vr, rfl, ow, b5⟩
      obtain ⟨A5, n5, c5, R5, m5, d5, rfl, rfl⟩ := ow.slices
      refine hK _ _ ?_
      exact ⟨_, _, _, _, _, _, _, rfl, (fun _ => J.trans (b5.mono J.size)), (kp f0), (kp f1), (fun _ => ⟨D, e5, rfl, fun h => absurd h (by rw [upd_self]; decide)⟩), (fun _ => ⟨upd_mono l0.out, upd_mono l2.out, A5, n5, c5, R5, m5, d5, rfl, fun _ => ow.base J.size⟩), (fun h => absurd (f4 (upd_ne h (by decide))).1 (by rw [hL]; decide)), (fun h => absurd (f5 (upd_ne h (by decide))).1 (by rw [hL]; decide)), (fun h => absurd hL6 (by rw [upd_ne h (by decide)]; decide)), (fun h => absurd (f7 (upd_ne h (by decide))).1 (by rw [hL6]; decide))⟩
    · obtain rfl := Option.some.inj ho
      have g3 := f3 (hd ⟨3, .data⟩ (by simp) rfl)
      have hL6 : L 6 = false := by
        cases e : L 6
        · rfl
        · exact absurd ((f6 e).1 4 (by decide)) (by rw [hL]; decide)
      have J := I0 hL6
      have l3 := Lib.hid (hd ⟨3, .data⟩ (by simp) rfl)
      obtain ⟨l0, l2, A5, n5, c5, R5, m5, d5, rfl, r3⟩ := g3
      have L0 := Lib.hid l0
      have L2 := Lib.hid l2
      clear l0 l2
      refine wpOp_step rfl (fun K' hK => ?_)
      go_simp
      refine hK _ _ ?_
      exact ⟨_, _, _, _, _, _, _, rfl, (fun _ => J), (kp f0), (kp f1), (fun h => by
        obtain ⟨D, e5, e, r⟩ := f2 (upd_ne h (by decide))
        exact ⟨D, e5, e, fun h3 => r (by rw [upd_other (by decide)] at h3; exact h3)⟩), (fun _ => ⟨upd_mono L0.out, upd_mono L2.out, A5, n5, c5, R5, m5, d5, rfl, fun h6 => r3 (by rw [upd_other (by decide)] at h6; exact h6)⟩), (fun _ => ⟨upd_mono l3.out, A5, n5, c5, R5, m5, d5, rfl, rfl⟩), (fun h => ⟨upd_mono (f5 (upd_ne h (by decide))).1, (f5 (upd_ne h (by decide))).2⟩), (fun h => absurd hL6 (by rw [upd_ne h (by decide)]; decide)), (fun h => absurd (f7 (upd_ne h (by decide))).1 (by rw [hL6]; decide))⟩
    · obtain rfl := Option.some.inj ho
      have g3 := f3 (hd ⟨3, .data⟩ (by simp) rfl)
      have hL6 : L 6 = false := by
        cases e : L 6
        · rfl
        · exact absurd ((f6 e).1 5 (by decide)) (by rw [hL]; decide)
      have J := I0 hL6
      have l3 := Lib.hid (hd ⟨3, .data⟩ (by simp) rfl)
      obtain ⟨l0, l2, A5, n5, c5, R5, m5, d5, rfl, r3⟩ := g3
      have L0 := Lib.hid l0
      have L2 := Lib.hid l2
      clear l0 l2
      refine wpOp_step rfl (fun K' hK => ?_)
      go_simp
      refine hK _ _ ?_
      exact ⟨_, _, _, _, _, _, _, rfl, (fun _ => J), (kp f0), (kp f1), (fun h => by
        obtain ⟨D, e5, e, r⟩ := f2 (upd_ne h (by decide))
        exact ⟨D, e5, e, fun h3 => r (by rw [upd_other (by decide)] at h3; exact h3)⟩), (fun _ => ⟨upd_mono L0.out, upd_mono L2.out, A5, n5, c5, R5, m5, d5, rfl, fun h6 => r3 (by rw [upd_other (by decide)] at h6; exact h6)⟩), (fun h => by
        obtain ⟨l3, r⟩ := f4 (upd_ne h (by decide))
        exact ⟨upd_mono l3, r⟩), (fun _ => ⟨upd_mono l3.out, rfl⟩), (fun h => absurd hL6 (by rw [upd_ne h (by decide)]; decide)), (fun h => absurd (f7 (upd_ne h (by decide))).1 (by rw [hL6]; decide))⟩
    · obtain rfl := Option.some.inj ho
      have g4 := f4 (hd ⟨4, .data⟩ (by simp) rfl)
      have lq : Hid (∀ q, q < 6 → L q = true) := Lib.hid (by
        intro q hq
        obtain rfl | rfl | rfl | rfl | rfl | rfl : q = 0 ∨ q = 1 ∨ q = 2 ∨ q = 3 ∨ q = 4 ∨ q = 5 := by omega
        · exact hd ⟨0, .phase⟩ (by simp) rfl
        · exact hd ⟨1, .phase⟩ (by simp) rfl
        · exact hd ⟨2, .phase⟩ (by simp) rfl
        · exact hd ⟨3, .phase⟩ (by simp) rfl
        · exact hd ⟨4, .phase⟩ (by simp) rfl
        · exact hd ⟨5, .phase⟩ (by simp) rfl)
      have J := I0 hL
      obtain ⟨-, A5, n5, c5, R5, m5, d5, e7, e8⟩ := g4
      subst e8
      obtain ⟨l0, l2, A6, n6, c6, R6, m6, d6, e7b, r3⟩ := f3 (lq.out 3 (by decide))
      have L0 := Lib.hid l0
      have L2 := Lib.hid l2
      clear l0 l2
      have oc := r3 hL
      rw [e7] at e7b
      injection e7b with e7b
      simp at e7b
      obtain ⟨⟨rfl, rfl, rfl⟩, rfl, rfl, rfl⟩ := e7b
      subst e7
      have P := q2.keep J hrl
      have zf0 : ww.frozen? ⟨q + 1, 0, none⟩ = false := P.frozen 0
      have zf1 : ww.frozen? ⟨q + 1, 1, none⟩ = false := P.frozen 1
      have zc0 : ww.cell? ⟨q + 1, 0, none⟩ = some (.slice none 0 0) := P.cell 0
      have zc1 : ww.cell? ⟨q + 1, 1, none⟩ = some (.slice none 0 0) := P.cell 1
      refine wpOp_step rfl (fun K' hK => ?_)
      go_simp
      refine hK _ _ ?_
      exact ⟨_, _, _, _, _, _, _, rfl, (fun h => absurd h (by rw [upd_self]; decide)), (kp f0), (kp f1), (fun h => by
        obtain ⟨D, e5, e, r⟩ := f2 (upd_ne h (by decide))
        exact ⟨D, e5, e, fun h3 => absurd (lq.out 3 (by decide)) (by rw [upd_other (by decide)] at h3; rw [h3]; decide)⟩), (fun _ => ⟨upd_mono L0.out, upd_mono L2.out, A5, n5, c5, R5, m5, d5, rfl, fun h => absurd h (by rw [upd_self]; decide)⟩), (fun _ => ⟨upd_mono (lq.out 3 (by decide)), A5, n5, c5, R5, m5, d5, rfl, rfl⟩), (fun h => ⟨upd_mono (f5 (upd_ne h (by decide))).1, (f5 (upd_ne h (by decide))).2⟩), (fun _ => ⟨fun q hq => upd_mono (lq.out q hq), A5, n5, c5, R5, m5, d5, ww, rfl, J, oc⟩), (fun h => absurd (f7 (upd_ne h (by decide))).1 (by rw [hL]; decide))⟩
    · obtain rfl := Option.some.inj ho
      have g5 := f5 (hd ⟨5, .data⟩ (by simp) rfl)
      have l6 := Lib.hid (hd ⟨6, .chain⟩ (by simp) rfl)
      obtain ⟨-, rfl⟩ := g5
      refine wpOp_step rfl (fun K' hK => ?_)
      go_simp
      refine hK _ _ ?_
      exact ⟨_, _, _, _, _, _, _, rfl, (fun h => absurd l6.out (by rw [upd_other (by decide)] at h; rw [h]; decide)), (kp f0), (kp f1), (fun h => by
        obtain ⟨D, e5, e, r⟩ := f2 (upd_ne h (by decide))
        exact ⟨D, e5, e, fun h3 => r (by rw [upd_other (by decide)] at h3; exact h3)⟩), (fun h => by
        obtain ⟨l0, l2, A5, n5, c5, R5, m5, d5, e, r⟩ := f3 (upd_ne h (by decide))
        exact ⟨upd_mono l0, upd_mono l2, A5, n5, c5, R5, m5, d5, e, fun h6 => r (by rw [upd_other (by decide)] at h6; exact h6)⟩), (fun h => by
        obtain ⟨l3, r⟩ := f4 (upd_ne h (by decide))
        exact ⟨upd_mono l3, r⟩), (fun _ => ⟨upd_mono (f5 (hd ⟨5, .data⟩ (by simp) rfl)).1, rfl⟩), (fun h => by
        obtain ⟨a1, a2⟩ := f6 (upd_ne h (by decide))
        exact ⟨fun q hq => upd_mono (a1 q hq), a2⟩), (fun _ => ⟨upd_mono l6.out, rfl⟩)⟩
  case hdone =>
    rintro L ac ww hall ⟨t3, t4, t5, t6, t7, t8, t9, rfl, I0, f0, f1, f2, f3, f4, f5, f6, f7⟩
    have e0 := f0 (hall 0 (by decide))
    have e1 := f1 (hall 1 (by decide))
    have e2 := f2 (hall 2 (by decide))
    have e3 := f3 (hall 3 (by decide))
    have e4 := f4 (hall 4 (by decide))
    have e5 := f5 (hall 5 (by decide))
    have e6 := f6 (hall 6 (by decide))
    have e7 := f7 (hall 7 (by decide))
    clear f0 f1 f2 f3 f4 f5 f6 f7
    obtain ⟨-, A5, n5, c5, R5, m5, d5, wp, rfl, r1, r9⟩ := e6
    obtain ⟨-, rfl⟩ := e7
    have P := q2.keep r1 hrl
    have P4 := (P.put 0 (.slice A5 n5 c5)).put 1 (.slice R5 m5 d5)
    have s8 : (((wp).setCell ⟨q + 1, 0, none⟩ (.slice A5 n5 c5)).setCell ⟨q + 1, 1, none⟩ (.slice R5 m5 d5)).cell? ⟨q + 1, 0, none⟩ = some (.slice A5 n5 c5) := P4.cell 0
    have s9 : (((wp).setCell ⟨q + 1, 0, none⟩ (.slice A5 n5 c5)).setCell ⟨q + 1, 1, none⟩ (.slice R5 m5 d5)).cell? ⟨q + 1, 1, none⟩ = some (.slice R5 m5 d5) := P4.cell 1
    have HW := HQ.out
    have D := Lib.hid (OwnH.out (w := w) (g := q + 1) r9 (by omega) (by rw [HW]; exact B2.trans (r1.mono (by have := B2.size; omega))) (by omega))
    clear I0 e0 e1 e2 e3 e4 e5 hall r1 r9 P P4
    go_wp2_with fail
    exact bodyPost_ret (v := .tuple #[.agg #[.slice A5 n5 c5, .slice R5 m5 d5], .int .i64 y]) (by simp [results, Tryd.results20, go_sem, *]) rfl ⟨_, _, rfl, D.out.1, D.out.2⟩
end Go.Proofs.YthmddmddcdofaaaDoor

namespace Go.Proofs.YthmddmddcdofaaaDoor
open Go.RowKit
set_option maxRecDepth 100000
namespace Hps
theorem okCt_eq (h : Hp) (l : List Int) : okCt h l = (validH h && decide (countsH h = l)) := by
  rw [Bool.eq_iff_iff, okCt_iff, Bool.and_eq_true, decide_eq_true_iff]
  constructor
  · rintro ⟨h1, rfl⟩
    exact ⟨h1, by rw [countsH, if_pos h1]⟩
  · rintro ⟨h1, h2⟩
    rw [countsH, if_pos h1] at h2
    exact ⟨h1, h2.symm⟩
theorem countsH_len (h : Hp) : (countsH h).length ≤ h.cs.length := by
  unfold countsH
  split
  · simp [countsL]
  · simp
end Hps
end Go.Proofs.YthmddmddcdofaaaDoor

namespace Go.Proofs.YthmddmddcdofaaaDoor
open Go.RowKit
set_option maxRecDepth 100000
end Go.Proofs.YthmddmddcdofaaaDoor

namespace Go.Proofs.YthmddmddcdofaaaDoor
open Go.RowKit
set_option maxRecDepth 100000
end Go.Proofs.YthmddmddcdofaaaDoor

namespace Go.Proofs.YthmddmddcdofaaaDoor
open Go.RowKit
set_option maxRecDepth 100000
namespace Hps
end Hps
end Go.Proofs.YthmddmddcdofaaaDoor

namespace Go.Proofs.YthmddmddcdofaaaDoor
open Go.RowKit
set_option maxRecDepth 100000
theorem upd_keep {L : Nat → Bool} {i k : Nat} (h : L k = true) : upd L i k = true := by
  unfold upd
  split
  · rfl
  · exact h
abbrev cmCs (o : Cm) : Array Value := #[.int .i64 o.op, .int .i64 o.a, .int .i64 o.b, .int .i64 o.c]
/-- what is known while an instruction is drawn: it lies in the box b, the reader in gr -/
structure CmSt (w wr : World) (gr N b : Nat) (o : Cm) : Prop where
  rd : Rd wr gr N
  grown : w.grownBy wr (some gr)
  box : Rw wr b 49 (cmCs o)
  res : Rw wr w.heap.size 49 (cmCs ⟨0, 0, 0, 0⟩)
  lo : w.heap.size < b
  old : gr < w.heap.size
section
variable {w wr w' : World} {gr N b : Nat} {o : Cm}
theorem CmSt.pick (S : CmSt w wr gr N b o) (hr : Rd w' gr (N + 1)) (hg : wr.grownBy w' (some gr)) : CmSt w w' gr (N + 1) b o := by
  have h1 := S.lo
  have h2 := S.old
  exact ⟨hr, World.grownBy.trans S.grown hg, S.box.far hg (fun e => by injection e with e; omega), S.res.far hg (fun e => by injection e with e; omega), h1, h2⟩
theorem CmSt.alloc (S : CmSt w wr gr N b o) (ob : Obj) : CmSt w (wr.alloc ob) gr N b o :=
  ⟨S.rd.below ((Below.refl wr.heap.size wr).alloc (Nat.le_refl _) ob) S.rd.lt, World.grownBy.trans S.grown (World.grownBy_alloc wr ob _), S.box.alloc ob, S.res.alloc ob, S.lo, S.old⟩
theorem CmSt.more {N' : Nat} (S : CmSt w wr gr N b o) (h : N ≤ N') : CmSt w wr gr N' b o := ⟨S.rd.more h, S.grown, S.box, S.res, S.lo, S.old⟩
theorem CmSt.put (S : CmSt w wr gr N b o) (i : Nat) (u : Value) {o' : Cm} (h : (cmCs o).setIfInBounds i u = cmCs o') : CmSt w (wr.setCell ⟨b, i, none⟩ u) gr N b o' := by
  have h1 := S.lo
  have h2 := S.old
  have hb : Below b wr (wr.setCell ⟨b, i, none⟩ u) := (Below.refl b wr).setCell (p := ⟨b, i, none⟩) (Nat.le_refl _) u
  exact ⟨S.rd.below hb (by omega), grown_below S.grown (hb.mono (by omega)), h ▸ S.box.put i u, S.res.other (by omega) u, h1, h2⟩
end
/-- numbers of an instruction that is drawn -/
def SmallCm (o : Cm) : Prop := (0 ≤ o.op ∧ o.op ≤ 7) ∧ (-1 ≤ o.a ∧ o.a ≤ 4) ∧ (-1 ≤ o.b ∧ o.b ≤ 100) ∧ (-1 ≤ o.c ∧ o.c ≤ 100)
theorem small_of_ok {o : Cm} (h : Hps.okCm o = true) : SmallCm o := by
  have ha := Hps.okCm_a h
  rcases Hps.okCm_op h with e | e | e | e | e | e
  · have := (Hps.okCm_new e).1 h; exact ⟨by omega, by omega, by omega, by omega⟩
  · have := (Hps.okCm_get (.inl e)).1 h; exact ⟨by omega, by omega, by omega, by omega⟩
  · have := (Hps.okCm_get (.inr e)).1 h; exact ⟨by omega, by omega, by omega, by omega⟩
  · have := (Hps.okCm_copy e).1 h; exact ⟨by omega, by omega, by omega, by omega⟩
  · have := (Hps.okCm_drop e).1 h; exact ⟨by omega, by omega, by omega, by omega⟩
  · have := (Hps.okCm_data e).1 h; exact ⟨by omega, by omega, by omega, by omega⟩
/-- an instruction has been drawn -/
def DrewC (w : World) (gr N : Nat) (n : Int) (e : Ending) (w' : World) : Prop :=
  ∃ o : Cm, e = .returned (cmV o) ∧ (n = 0 → Hps.okCm o = true) ∧ SmallCm o ∧ Rd w' gr (N + 12) ∧ w.grownBy w' (some gr)
theorem odd_zero' (g N : Nat) (w : World) (_h : Rd w g N) : Calls Tryd.prog 72 #[.pointer (some ⟨g, 0, none⟩), .int .i64 0] w fun e w' => e = .returned (.bool false) ∧ w = w' := by
  go_enter Tryd.func72, Tryd.ntmps72
  go_wp2_with fail
  go_ret
  exact ⟨rfl, rfl⟩
/-- a number out of a table, at any index -/
theorem Tbl.two (w : World) (_gr : Nat) (t : TypeId) (x y : Int) : Rw (w.alloc (.cells #[.int .i64 x, .int .i64 y] t)) w.heap.size t #[.int .i64 x, .int .i64 y] := Rw.new _ _ _
set_option maxRecDepth 100000 in
set_option maxHeartbeats 8000000 in
theorem l20Command_any (gr N : Nat) (n : Int) (w : World) (h : Rd w gr N) (hN : N ≤ 1000000) (hn0 : 0 ≤ n) (hn : n ≤ 1000000) :
    Calls Tryd.prog 82 #[.pointer (some ⟨gr, 0, none⟩), .int .i64 n] w (DrewC w gr N n) := by
  have hgl := h.lt
  have h0 : Rd (w.alloc (.cells (cmCs ⟨0, 0, 0, 0⟩) 49)) gr N := h.below ((Below.refl w.heap.size w).alloc (Nat.le_refl _) _) hgl
  have r0 := Rw.new w 49 (cmCs ⟨0, 0, 0, 0⟩)
  have g0 : w.grownBy (w.alloc (.cells (cmCs ⟨0, 0, 0, 0⟩) 49)) (some gr) := World.grownBy_alloc _ _ _
  have z0 : w.heap.size + 1 = (w.alloc (.cells (cmCs ⟨0, 0, 0, 0⟩) 49)).heap.size := by simp
  go_enter Tryd.func82, Tryd.ntmps82
  go_upto_region 1 with fail
  generalize w.alloc (.cells (cmCs ⟨0, 0, 0, 0⟩) 49) = w0 at h0 r0 g0 z0 ⊢
  have HZ := Lib.hid z0
  clear z0
  refine wp_region_inv (by kernel_rfl) (by kernel_rfl) (fun L ac ww => ∃ t5 t6 t7 t8 t9 t10 t11 t12 t13 : Value, ac = { tmps := #[Value.pointer (some { block := gr, off := 0 }), Value.int IntKind.i64 n, undef, undef, Value.pointer (some { block := w.heap.size, off := 0 }), t5, t6, t7, t8, t9, t10, t11, t12, t13, undef, undef, undef, undef, undef, undef, undef, undef, undef, undef, undef, undef, undef, undef, undef, undef, undef, undef, undef, undef, undef, undef, undef, undef, undef, undef, undef, undef, undef, undef, undef, undef, undef, undef, undef, undef, undef, undef, undef, undef, undef, undef, undef, undef, undef, undef, undef, undef, undef, undef, undef, undef, undef, undef, undef, undef, undef, undef, undef, undef, undef, undef, undef, undef, undef, undef, undef, undef, undef, undef, undef, undef, undef, undef, undef, undef], defers := [] } ∧ (Rd ww gr (N + (L 2).toNat + (L 6).toNat)) ∧ (w0.grownBy ww (some gr)) ∧ (L 9 = true → L 6 = true) ∧ (L 9 = true → L 2 = true) ∧ (L 9 = true → L 8 = true) ∧ (L 9 = true → L 3 = true) ∧ (L 9 = true → L 4 = true) ∧ (L 0 = true → L 9 = true ∨ TblOf ww gr 10 1 6 t6) ∧ (L 1 = true → t7 = .pointer (some ⟨gr, 0, none⟩)) ∧ (L 2 = true → IntIn 0 9 t8) ∧ (L 3 = true → L 9 = true ∨ PtrOf ww gr 10 1 6 t9) ∧ (L 4 = true → IntIn 1 6 t10) ∧ (L 5 = true → t11 = .pointer (some ⟨gr, 0, none⟩)) ∧ (L 6 = true → IntIn 0 3 t12) ∧ (L 7 = true → ∃ op a : Int, t13 = .agg #[.int .i64 op, .int .i64 a, .int .i64 0, .int .i64 0] ∧ 1 ≤ op ∧ op ≤ 6 ∧ 0 ≤ a ∧ a ≤ 3) ∧ (L 8 = true → ∃ (g5 : Nat) (z0 z1 z2 z3 : Value), t5 = .pointer (some ⟨g5, 0, none⟩) ∧ w.heap.size < g5 ∧ Rw ww g5 49 #[z0, z1, z2, z3]) ∧ (L 9 = true → ∃ (g5 : Nat) (op a : Int), t5 = .pointer (some ⟨g5, 0, none⟩) ∧ CmSt w ww gr (N + 2) g5 ⟨op, a, 0, 0⟩ ∧ 1 ≤ op ∧ op ≤ 6 ∧ 0 ≤ a ∧ a ≤ 3)) ?h0 ?hstep ?hdone
  case h0 => exact ⟨_, _, _, _, _, _, _, _, _, rfl, by simpa using h0.below (Below.refl _ _).drew h0.lt, grown_below (World.grownBy.refl _ _) (Below.refl _ _).drew, fun h => absurd h Bool.false_ne_true, fun h => absurd h Bool.false_ne_true, fun h => absurd h Bool.false_ne_true, fun h => absurd h Bool.false_ne_true, fun h => absurd h Bool.false_ne_true, (fun h => absurd h Bool.false_ne_true), (fun h => absurd h Bool.false_ne_true), (fun h => absurd h Bool.false_ne_true), (fun h => absurd h Bool.false_ne_true), (fun h => absurd h Bool.false_ne_true), (fun h => absurd h Bool.false_ne_true), (fun h => absurd h Bool.false_ne_true), (fun h => absurd h Bool.false_ne_true), (fun h => absurd h Bool.false_ne_true), (fun h => absurd h Bool.false_ne_true)⟩
  case hstep =>
    rintro L ac ww i o ho hL hd ⟨t5, t6, t7, t8, t9, t10, t11, t12, t13, rfl, I0, I1, I2, I3, I4, I5, I6, f0, f1, f2, f3, f4, f5, f6, f7, f8, f9⟩
    have hi : i < 10 := (Array.getElem?_eq_some_iff.1 ho).1
    obtain rfl | rfl | rfl | rfl | rfl | rfl | rfl | rfl | rfl | rfl : i = 0 ∨ i = 1 ∨ i = 2 ∨ i = 3 ∨ i = 4 ∨ i = 5 ∨ i = 6 ∨ i = 7 ∨ i = 8 ∨ i = 9 := by omega
    · obtain rfl := Option.some.inj ho
      refine wpOp_step rfl (fun K' hK => ?_)
      go_simp
      refine hK _ _ ?_
      exact ⟨_, _, _, _, _, _, _, _, _, rfl, (by rw [upd_other (by decide), upd_other (by decide)]; exact I0.below ((Below.refl ww.heap.size ww).alloc (Nat.le_refl _) _) I0.lt), (World.grownBy.trans I1 (World.grownBy_alloc _ _ _)), (fun h => upd_keep (I2 (upd_ne h (by decide)))), (fun h => upd_keep (I3 (upd_ne h (by decide)))), (fun h => upd_keep (I4 (upd_ne h (by decide)))), (fun h => upd_keep (I5 (upd_ne h (by decide)))), (fun h => upd_keep (I6 (upd_ne h (by decide)))), (fun _ => .inr ⟨_, rfl, Tbl.new ww gr _ [1, 1, 1, 2, 3, 3, 3, 4, 5, 6] 1 6 I0.lt (by intro q hq; simp at hq; omega) _ rfl⟩), (kp f1), (kp f2), (fun h => (f3 (upd_ne h (by decide))).imp (fun e => upd_keep e) (fun T => T.alloc _)), (kp f4), (kp f5), (kp f6), (kp f7), (fun h => by
        obtain ⟨g5, z0, z1, z2, z3, e, hg5, hz⟩ := f8 (upd_ne h (by decide))
        exact ⟨g5, z0, z1, z2, z3, e, hg5, hz.alloc _⟩), (fun h => by
        obtain ⟨g5, op, a, e, S, q⟩ := f9 (upd_ne h (by decide))
        exact ⟨g5, op, a, e, S.alloc _, q⟩)⟩
    · obtain rfl := Option.some.inj ho
      refine wpOp_step rfl (fun K' hK => ?_)
      go_simp
      refine hK _ _ ?_
      exact ⟨_, _, _, _, _, _, _, _, _, rfl, (by rw [upd_other (by decide), upd_other (by decide)]; exact I0), (I1), (fun h => upd_keep (I2 (upd_ne h (by decide)))), (fun h => upd_keep (I3 (upd_ne h (by decide)))), (fun h => upd_keep (I4 (upd_ne h (by decide)))), (fun h => upd_keep (I5 (upd_ne h (by decide)))), (fun h => upd_keep (I6 (upd_ne h (by decide)))), (fun h => (f0 (upd_ne h (by decide))).imp (fun e => upd_keep e) id), (fun _ => rfl), (kp f2), (fun h => (f3 (upd_ne h (by decide))).imp (fun e => upd_keep e) id), (kp f4), (kp f5), (kp f6), (kp f7), (kp f8), (kp f9)⟩
    · obtain rfl := Option.some.inj ho
      have g1 := f1 (hd ⟨1, .data⟩ (by simp) rfl)
      subst g1
      refine wpOp_step rfl (fun K' hK => ?_)
      go_simp
      refine (pick_any gr (N + (L 2).toNat + (L 6).toNat) 10 ww I0 (by have := Bool.toNat_le (L 2); have := Bool.toNat_le (L 6); omega) (by omega)).mono ?_
      rintro e w' ⟨r, rfl, r0', r1', hr, G⟩
      refine hK _ _ ?_
      exact ⟨_, _, _, _, _, _, _, _, _, rfl, (by rw [upd_self, upd_other (by decide)]; rw [hL] at hr; exact hr.more (by simp; omega)), (World.grownBy.trans I1 G), (fun h => upd_keep (I2 (upd_ne h (by decide)))), (fun h => upd_keep (I3 (upd_ne h (by decide)))), (fun h => upd_keep (I4 (upd_ne h (by decide)))), (fun h => upd_keep (I5 (upd_ne h (by decide)))), (fun h => upd_keep (I6 (upd_ne h (by decide)))), (fun h => (f0 (upd_ne h (by decide))).imp (fun e => upd_keep e) (fun T => T.pick G)), (kp f1), (fun _ => ⟨r, rfl, r0', by omega⟩), (fun h => (f3 (upd_ne h (by decide))).imp (fun e => upd_keep e) (fun T => T.pick G)), (kp f4), (kp f5), (kp f6), (kp f7), (fun h => by
        obtain ⟨g5, z0, z1, z2, z3, e, hg5, hz⟩ := f8 (upd_ne h (by decide))
        exact ⟨g5, z0, z1, z2, z3, e, hg5, hz.far G (fun e => by injection e with e; omega)⟩), (fun h => absurd (I3 (upd_ne h (by decide))) (by rw [hL]; simp))⟩
    · obtain rfl := Option.some.inj ho
      have g0 := f0 (hd ⟨0, .data⟩ (by simp) rfl)
      have g2 := f2 (hd ⟨2, .data⟩ (by simp) rfl)
      have g0' := g0.resolve_left (fun e => absurd (I5 e) (by rw [hL]; simp))
      clear g0
      obtain ⟨g6, rfl, T6⟩ := g0'
      obtain ⟨q8, rfl, q81, q82⟩ := g2
      obtain ⟨n8, rfl⟩ := Int.eq_ofNat_of_zero_le (show 0 ≤ q8 by omega)
      have l8 : n8 < 10 := by omega
      have l8' : (n8 : Int) < 10 := by omega
      refine wpOp_step rfl (fun K' hK => ?_)
      go_simp
      refine hK _ _ ?_
      exact ⟨_, _, _, _, _, _, _, _, _, rfl, (by rw [upd_other (by decide), upd_other (by decide)]; exact I0), (I1), (fun h => upd_keep (I2 (upd_ne h (by decide)))), (fun h => upd_keep (I3 (upd_ne h (by decide)))), (fun h => upd_keep (I4 (upd_ne h (by decide)))), (fun h => upd_keep (I5 (upd_ne h (by decide)))), (fun h => upd_keep (I6 (upd_ne h (by decide)))), (fun _ => .inr ⟨g6, rfl, T6⟩), (kp f1), (fun _ => ⟨(n8 : Int), rfl, by omega, by omega⟩), (fun _ => .inr ⟨g6, n8, by simp, l8, T6⟩), (kp f4), (kp f5), (kp f6), (kp f7), (kp f8), (kp f9)⟩
    · obtain rfl := Option.some.inj ho
      have g3 := f3 (hd ⟨3, .data⟩ (by simp) rfl)
      have g3' := g3.resolve_left (fun e => absurd (I6 e) (by rw [hL]; simp))
      clear g3
      obtain ⟨g9, n9, rfl, l9, T9⟩ := g3'
      obtain ⟨q9, hq9, q91, q92⟩ := T9.2.2 n9 l9
      refine wpOp_step rfl (fun K' hK => ?_)
      go_simp
      refine hK _ _ ?_
      exact ⟨_, _, _, _, _, _, _, _, _, rfl, (by rw [upd_other (by decide), upd_other (by decide)]; exact I0), (I1), (fun h => upd_keep (I2 (upd_ne h (by decide)))), (fun h => upd_keep (I3 (upd_ne h (by decide)))), (fun h => upd_keep (I4 (upd_ne h (by decide)))), (fun h => upd_keep (I5 (upd_ne h (by decide)))), (fun h => upd_keep (I6 (upd_ne h (by decide)))), (fun h => (f0 (upd_ne h (by decide))).imp (fun e => upd_keep e) id), (kp f1), (kp f2), (fun _ => .inr ⟨g9, n9, rfl, l9, T9⟩), (fun _ => ⟨q9, rfl, q91, q92⟩), (kp f5), (kp f6), (kp f7), (kp f8), (kp f9)⟩
    · obtain rfl := Option.some.inj ho
      refine wpOp_step rfl (fun K' hK => ?_)
      go_simp
      refine hK _ _ ?_
      exact ⟨_, _, _, _, _, _, _, _, _, rfl, (by rw [upd_other (by decide), upd_other (by decide)]; exact I0), (I1), (fun h => upd_keep (I2 (upd_ne h (by decide)))), (fun h => upd_keep (I3 (upd_ne h (by decide)))), (fun h => upd_keep (I4 (upd_ne h (by decide)))), (fun h => upd_keep (I5 (upd_ne h (by decide)))), (fun h => upd_keep (I6 (upd_ne h (by decide)))), (fun h => (f0 (upd_ne h (by decide))).imp (fun e => upd_keep e) id), (kp f1), (kp f2), (fun h => (f3 (upd_ne h (by decide))).imp (fun e => upd_keep e) id), (kp f4), (fun _ => rfl), (kp f6), (kp f7), (kp f8), (kp f9)⟩
    · obtain rfl := Option.some.inj ho
      have g5 := f5 (hd ⟨5, .data⟩ (by simp) rfl)
      subst g5
      refine wpOp_step rfl (fun K' hK => ?_)
      go_simp
      refine (pick_any gr (N + (L 2).toNat + (L 6).toNat) 4 ww I0 (by have := Bool.toNat_le (L 2); have := Bool.toNat_le (L 6); omega) (by omega)).mono ?_
      rintro e w' ⟨r, rfl, r0', r1', hr, G⟩
      refine hK _ _ ?_
      exact ⟨_, _, _, _, _, _, _, _, _, rfl, (by rw [upd_self, upd_other (by decide)]; rw [hL] at hr; exact hr.more (by simp)), (World.grownBy.trans I1 G), (fun h => upd_keep (I2 (upd_ne h (by decide)))), (fun h => upd_keep (I3 (upd_ne h (by decide)))), (fun h => upd_keep (I4 (upd_ne h (by decide)))), (fun h => upd_keep (I5 (upd_ne h (by decide)))), (fun h => upd_keep (I6 (upd_ne h (by decide)))), (fun h => (f0 (upd_ne h (by decide))).imp (fun e => upd_keep e) (fun T => T.pick G)), (kp f1), (kp f2), (fun h => (f3 (upd_ne h (by decide))).imp (fun e => upd_keep e) (fun T => T.pick G)), (kp f4), (kp f5), (fun _ => ⟨r, rfl, r0', by omega⟩), (kp f7), (fun h => by
        obtain ⟨g5, z0, z1, z2, z3, e, hg5, hz⟩ := f8 (upd_ne h (by decide))
        exact ⟨g5, z0, z1, z2, z3, e, hg5, hz.far G (fun e => by injection e with e; omega)⟩), (fun h => absurd (I2 (upd_ne h (by decide))) (by rw [hL]; simp))⟩
    · obtain rfl := Option.some.inj ho
      have g4 := f4 (hd ⟨4, .data⟩ (by simp) rfl)
      have g6 := f6 (hd ⟨6, .data⟩ (by simp) rfl)
      obtain ⟨op, rfl, p1, p2⟩ := g4
      obtain ⟨aa, rfl, p3, p4⟩ := g6
      refine wpOp_step rfl (fun K' hK => ?_)
      go_simp
      refine hK _ _ ?_
      exact ⟨_, _, _, _, _, _, _, _, _, rfl, (by rw [upd_other (by decide), upd_other (by decide)]; exact I0), (I1), (fun h => upd_keep (I2 (upd_ne h (by decide)))), (fun h => upd_keep (I3 (upd_ne h (by decide)))), (fun h => upd_keep (I4 (upd_ne h (by decide)))), (fun h => upd_keep (I5 (upd_ne h (by decide)))), (fun h => upd_keep (I6 (upd_ne h (by decide)))), (fun h => (f0 (upd_ne h (by decide))).imp (fun e => upd_keep e) id), (kp f1), (kp f2), (fun h => (f3 (upd_ne h (by decide))).imp (fun e => upd_keep e) id), (fun _ => ⟨op, rfl, p1, p2⟩), (kp f5), (fun _ => ⟨aa, rfl, p3, p4⟩), (fun _ => ⟨op, aa, rfl, p1, p2, p3, p4⟩), (kp f8), (kp f9)⟩
    · obtain rfl := Option.some.inj ho
      refine wpOp_step rfl (fun K' hK => ?_)
      go_simp
      refine hK _ _ ?_
      exact ⟨_, _, _, _, _, _, _, _, _, rfl, (by rw [upd_other (by decide), upd_other (by decide)]; exact I0.below ((Below.refl ww.heap.size ww).alloc (Nat.le_refl _) _) I0.lt), (World.grownBy.trans I1 (World.grownBy_alloc _ _ _)), (fun h => upd_keep (I2 (upd_ne h (by decide)))), (fun h => upd_keep (I3 (upd_ne h (by decide)))), (fun h => upd_keep (I4 (upd_ne h (by decide)))), (fun h => upd_keep (I5 (upd_ne h (by decide)))), (fun h => upd_keep (I6 (upd_ne h (by decide)))), (fun h => (f0 (upd_ne h (by decide))).imp (fun e => upd_keep e) (fun T => T.alloc _)), (kp f1), (kp f2), (fun h => (f3 (upd_ne h (by decide))).imp (fun e => upd_keep e) (fun T => T.alloc _)), (kp f4), (kp f5), (kp f6), (kp f7), (fun _ => ⟨ww.heap.size, _, _, _, _, rfl, by have := I1.size; have := HZ.out; omega, Rw.new _ _ _⟩), (fun h => absurd (I4 (upd_ne h (by decide))) (by rw [hL]; simp))⟩
    · obtain rfl := Option.some.inj ho
      have g7 := f7 (hd ⟨7, .data⟩ (by simp) rfl)
      have g8 := f8 (hd ⟨8, .data⟩ (by simp) rfl)
      obtain ⟨g5, z0, z1, z2, z3, rfl, hg5, hz⟩ := g8
      obtain ⟨op, aa, rfl, p1, p2, p3, p4⟩ := g7
      have u0 := hz.cell 0
      have u1 := hz.cell 1
      have u2 := hz.cell 2
      have u3 := hz.cell 3
      have v0 := hz.frozen 0
      have v1 := hz.frozen 1
      have v2 := hz.frozen 2
      have v3 := hz.frozen 3
      simp at u0 u1 u2 u3
      have L2 := hd ⟨2, .phase⟩ (by simp) rfl
      have L6 := hd ⟨6, .chain⟩ (by simp) rfl
      have hgo : gr < w.heap.size := hgl
      have hB : Below g5 ww ((((ww.setCell ⟨g5, 0, none⟩ (.int .i64 op)).setCell ⟨g5, 1, none⟩ (.int .i64 aa)).setCell ⟨g5, 2, none⟩ (.int .i64 0)).setCell ⟨g5, 3, none⟩ (.int .i64 0)) := ((((Below.refl g5 ww).setCell (p := ⟨g5, 0, none⟩) (Nat.le_refl _) _).setCell (p := ⟨g5, 1, none⟩) (Nat.le_refl _) _).setCell (p := ⟨g5, 2, none⟩) (Nat.le_refl _) _).setCell (p := ⟨g5, 3, none⟩) (Nat.le_refl _) _
      have RDN := I0.below hB (by omega)
      have G1 := World.grownBy.trans g0 I1
      have RES := (r0.far I1 (fun e => by injection e with e; omega)).keep hB hg5
      have HB0 := hB
      refine wpOp_step rfl (fun K' hK => ?_)
      go_simp
      refine hK _ _ ?_
      exact ⟨_, _, _, _, _, _, _, _, _, rfl, (by rw [upd_other (by decide), upd_other (by decide)]; exact RDN), (grown_below I1 (hB.mono (by have := HZ.out; omega))), (fun _ => upd_keep (hd ⟨6, .chain⟩ (by simp) rfl)), (fun _ => upd_keep (hd ⟨2, .phase⟩ (by simp) rfl)), (fun _ => upd_keep (hd ⟨8, .data⟩ (by simp) rfl)), (fun _ => upd_keep (hd ⟨3, .phase⟩ (by simp) rfl)), (fun _ => upd_keep (hd ⟨4, .phase⟩ (by simp) rfl)), (fun _ => .inl upd_self), (kp f1), (kp f2), (fun _ => .inl upd_self), (kp f4), (kp f5), (kp f6), (kp f7), (fun _ => ⟨g5, _, _, _, _, rfl, hg5, (((hz.put 0 _).put 1 _).put 2 _).put 3 _⟩), (fun _ => ⟨g5, op, aa, rfl, ⟨RDN.more (by rw [L2, L6]; simp), grown_below G1 (hB.mono (by omega)), (((hz.put 0 _).put 1 _).put 2 _).put 3 _, RES, hg5, hgo⟩, p1, p2, p3, p4⟩)⟩
  case hdone =>
    rintro L ac ww hall ⟨t5, t6, t7, t8, t9, t10, t11, t12, t13, rfl, I0, I1, I2, I3, I4, I5, I6, f0, f1, f2, f3, f4, f5, f6, f7, f8, f9⟩
    have e0 := f0 (hall 0 (by decide))
    have e1 := f1 (hall 1 (by decide))
    have e2 := f2 (hall 2 (by decide))
    have e3 := f3 (hall 3 (by decide))
    have e4 := f4 (hall 4 (by decide))
    have e5 := f5 (hall 5 (by decide))
    have e6 := f6 (hall 6 (by decide))
    have e7 := f7 (hall 7 (by decide))
    have e8 := f8 (hall 8 (by decide))
    have e9 := f9 (hall 9 (by decide))
    clear f0 f1 f2 f3 f4 f5 f6 f7 f8 f9
    obtain ⟨b, op, aa, rfl, S, p1, p2, p3, p4⟩ := e9
    clear e0 e1 e2 e3 e4 e5 e6 e7 e8 I0 I1 I2 I3 I4 I5 I6 h0 r0 g0 HZ
    have y0 : ww.cell? ⟨b, 0, none⟩ = some (.int .i64 op) := S.box.cell 0
    have hlo := S.lo
    have hold := S.old
    clear hgl h
    go_upto_block 0 with fail
    go_cut [] from 14 (fun wc => ∃ o : Cm, Hps.okCm o = true ∧ CmSt w wc gr (N + 7) b o)
    case first =>
      have hcases : op = 1 ∨ op = 2 ∨ op = 3 ∨ op = 4 ∨ op = 5 ∨ op = 6 := by omega
      rcases hcases with rfl | rfl | rfl | rfl | rfl | rfl
      · go_wp2_with fail
        refine (pick_any _ _ _ _ S.rd (by omega) (by omega)).mono ?_
        rintro e w1 ⟨x1, rfl, ax1, cx1, hrx1, gx1⟩
        replace S := S.pick hrx1 gx1
        have cx1' : x1 < 4 := by omega
        clear cx1 hrx1 gx1
        go_wp2_with fail
        refine (pick_any _ _ _ _ S.rd (by omega) (by omega)).mono ?_
        rintro e w2 ⟨x2, rfl, ax2, cx2, hrx2, gx2⟩
        replace S := S.pick hrx2 gx2
        have cx2' : x2 < 3 := by omega
        clear cx2 hrx2 gx2
        have hsz := S.box.lt
        have T := Rw.new w2 3 #[.int .i64 x1, .int .i64 (1 + x2)]
        replace S := S.alloc (.cells #[.int .i64 x1, .int .i64 (1 + x2)] 3)
        go_wp2_with fail
        refine (pick_any _ _ _ _ S.rd (by omega) (by omega)).mono ?_
        rintro e w3 ⟨j, rfl, aj, cj, hrj, gj⟩
        have T3 := T.far gj (fun e => by injection e with e; omega)
        have t0 := T3.cell 0
        have t1 := T3.cell 1
        simp at t0 t1
        replace S := S.pick hrj gj
        have hjj : j = 0 ∨ j = 1 := by omega
        clear aj cj hrj gj T T3 hsz
        rcases hjj with rfl | rfl
        · have v2 := S.box.cell 2
          have fz2 := S.box.frozen 2
          replace S := S.put 2 (.int .i64 x1) (o' := ⟨1, aa, x1, 0⟩) rfl
          go_wp2_with fail
          refine (pick_any _ _ _ _ S.rd (by omega) (by omega)).mono ?_
          rintro e w4 ⟨x4, rfl, ax4, cx4, hrx4, gx4⟩
          replace S := S.pick hrx4 gx4
          have cx4' : x4 < 100 := by omega
          clear cx4 hrx4 gx4
          have v3 := S.box.cell 3
          have fz3 := S.box.frozen 3
          replace S := S.put 3 (.int .i64 x4) (o' := ⟨1, aa, x1, x4⟩) rfl
          go_wp2_with fail
          go_meet
          case rel => exact ⟨⟨1, aa, x1, x4⟩, (Hps.okCm_new rfl).2 ⟨⟨p3, p4⟩, ⟨by show (0 : Int) ≤ x1; omega, by show x1 ≤ (3 : Int); omega⟩, ⟨ax4, by show x4 ≤ 99; omega⟩⟩, S.more (by omega)⟩
        · have v2 := S.box.cell 2
          have fz2 := S.box.frozen 2
          replace S := S.put 2 (.int .i64 (1 + x2)) (o' := ⟨1, aa, (1 + x2), 0⟩) rfl
          go_wp2_with fail
          refine (pick_any _ _ _ _ S.rd (by omega) (by omega)).mono ?_
          rintro e w4 ⟨x4, rfl, ax4, cx4, hrx4, gx4⟩
          replace S := S.pick hrx4 gx4
          have cx4' : x4 < 100 := by omega
          clear cx4 hrx4 gx4
          have v3 := S.box.cell 3
          have fz3 := S.box.frozen 3
          replace S := S.put 3 (.int .i64 x4) (o' := ⟨1, aa, (1 + x2), x4⟩) rfl
          go_wp2_with fail
          go_meet
          case rel => exact ⟨⟨1, aa, (1 + x2), x4⟩, (Hps.okCm_new rfl).2 ⟨⟨p3, p4⟩, ⟨by show (0 : Int) ≤ (1 + x2); omega, by show (1 + x2) ≤ (3 : Int); omega⟩, ⟨ax4, by show x4 ≤ 99; omega⟩⟩, S.more (by omega)⟩
      · go_wp2_with fail
        refine (pick_any _ _ _ _ S.rd (by omega) (by omega)).mono ?_
        rintro e w1 ⟨x1, rfl, ax1, cx1, hrx1, gx1⟩
        replace S := S.pick hrx1 gx1
        have cx1' : x1 < 4 := by omega
        clear cx1 hrx1 gx1
        have v2 := S.box.cell 2
        have fz2 := S.box.frozen 2
        replace S := S.put 2 (.int .i64 x1) (o' := ⟨2, aa, x1, 0⟩) rfl
        go_wp2_with fail
        refine (pick_any _ _ _ _ S.rd (by omega) (by omega)).mono ?_
        rintro e w2 ⟨x2, rfl, ax2, cx2, hrx2, gx2⟩
        replace S := S.pick hrx2 gx2
        have cx2' : x2 < 3 := by omega
        clear cx2 hrx2 gx2
        have hw : IntKind.i64.wrap (1 + x2) = 1 + x2 := IntWalk.i64_in _ (by omega)
        go_wp2_with fail
        refine (pick_any _ _ _ _ S.rd (by omega) (by omega)).mono ?_
        rintro e w3 ⟨x3, rfl, ax3, cx3, hrx3, gx3⟩
        replace S := S.pick hrx3 gx3
        have cx3' : x3 < 3 := by omega
        clear cx3 hrx3 gx3
        have v3 := S.box.cell 3
        have fz3 := S.box.frozen 3
        replace S := S.put 3 (.int .i64 x3) (o' := ⟨2, aa, x1, x3⟩) rfl
        go_wp2_with fail
        go_meet
        case rel => exact ⟨⟨2, aa, x1, x3⟩, (Hps.okCm_get (.inl rfl)).2 ⟨⟨p3, p4⟩, ⟨ax1, by show x1 ≤ 3; omega⟩, ⟨ax3, by show x3 ≤ 2; omega⟩⟩, S.more (by omega)⟩
      · go_wp2_with fail
        refine (pick_any _ _ _ _ S.rd (by omega) (by omega)).mono ?_
        rintro e w1 ⟨x1, rfl, ax1, cx1, hrx1, gx1⟩
        replace S := S.pick hrx1 gx1
        have cx1' : x1 < 4 := by omega
        clear cx1 hrx1 gx1
        have v2 := S.box.cell 2
        have fz2 := S.box.frozen 2
        replace S := S.put 2 (.int .i64 x1) (o' := ⟨3, aa, x1, 0⟩) rfl
        go_wp2_with fail
        refine (pick_any _ _ _ _ S.rd (by omega) (by omega)).mono ?_
        rintro e w2 ⟨x2, rfl, ax2, cx2, hrx2, gx2⟩
        replace S := S.pick hrx2 gx2
        have cx2' : x2 < 3 := by omega
        clear cx2 hrx2 gx2
        have hw : IntKind.i64.wrap (1 + x2) = 1 + x2 := IntWalk.i64_in _ (by omega)
        go_wp2_with fail
        refine (pick_any _ _ _ _ S.rd (by omega) (by omega)).mono ?_
        rintro e w3 ⟨x3, rfl, ax3, cx3, hrx3, gx3⟩
        replace S := S.pick hrx3 gx3
        have cx3' : x3 < 3 := by omega
        clear cx3 hrx3 gx3
        have v3 := S.box.cell 3
        have fz3 := S.box.frozen 3
        replace S := S.put 3 (.int .i64 x3) (o' := ⟨3, aa, x1, x3⟩) rfl
        go_wp2_with fail
        go_meet
        case rel => exact ⟨⟨3, aa, x1, x3⟩, (Hps.okCm_get (.inr rfl)).2 ⟨⟨p3, p4⟩, ⟨ax1, by show x1 ≤ 3; omega⟩, ⟨ax3, by show x3 ≤ 2; omega⟩⟩, S.more (by omega)⟩
      · go_wp2_with fail
        refine (pick_any _ _ _ _ S.rd (by omega) (by omega)).mono ?_
        rintro e w1 ⟨x1, rfl, ax1, cx1, hrx1, gx1⟩
        replace S := S.pick hrx1 gx1
        have cx1' : x1 < 4 := by omega
        clear cx1 hrx1 gx1
        have v2 := S.box.cell 2
        have fz2 := S.box.frozen 2
        replace S := S.put 2 (.int .i64 x1) (o' := ⟨4, aa, x1, 0⟩) rfl
        go_wp2_with fail
        go_meet
        case rel => exact ⟨⟨4, aa, x1, 0⟩, (Hps.okCm_copy rfl).2 ⟨⟨p3, p4⟩, ⟨ax1, by show x1 ≤ 3; omega⟩, rfl⟩, S.more (by omega)⟩
      · go_wp2_with fail
        go_meet
        case rel => exact ⟨⟨5, aa, 0, 0⟩, (Hps.okCm_drop rfl).2 ⟨⟨p3, p4⟩, rfl, rfl⟩, S.more (by omega)⟩
      · go_wp2_with fail
        refine (pick_any _ _ _ _ S.rd (by omega) (by omega)).mono ?_
        rintro e w1 ⟨x1, rfl, ax1, cx1, hrx1, gx1⟩
        replace S := S.pick hrx1 gx1
        have cx1' : x1 < 100 := by omega
        clear cx1 hrx1 gx1
        have v2 := S.box.cell 2
        have fz2 := S.box.frozen 2
        replace S := S.put 2 (.int .i64 x1) (o' := ⟨6, aa, x1, 0⟩) rfl
        go_wp2_with fail
        go_meet
        case rel => exact ⟨⟨6, aa, x1, 0⟩, (Hps.okCm_data rfl).2 ⟨⟨p3, p4⟩, ⟨ax1, by show x1 ≤ 99; omega⟩, rfl⟩, S.more (by omega)⟩
    case rest =>
      clear y0 S p1 p2 p3 p4
      obtain ⟨o, ho, S⟩ := hcut
      have so := small_of_ok ho
      by_cases hn1 : n = 0
      · subst hn1
        have SS := Lib.hid S
        have HO := Lib.hid ho
        have SO := Lib.hid so
        have b0 : wc.cell? ⟨b, 0, none⟩ = some (.int .i64 o.op) := S.box.cell 0
        have b1 : wc.cell? ⟨b, 1, none⟩ = some (.int .i64 o.a) := S.box.cell 1
        have b2 : wc.cell? ⟨b, 2, none⟩ = some (.int .i64 o.b) := S.box.cell 2
        have b3 : wc.cell? ⟨b, 3, none⟩ = some (.int .i64 o.c) := S.box.cell 3
        have R := Lib.hid S.rd
        clear S ho so
        go_wp2_with fail
        refine (odd_zero' _ _ _ R.out).mono ?_
        rintro e w' ⟨rfl, rfl⟩
        have S9 := SS.out
        have rr := S9.res
        have r2 : (wc).frozen? ⟨w.heap.size, 0, none⟩ = false := rr.frozen 0
        have r3 : (wc).frozen? ⟨w.heap.size, 1, none⟩ = false := rr.frozen 1
        have r4 : (wc).frozen? ⟨w.heap.size, 2, none⟩ = false := rr.frozen 2
        have r5 : (wc).frozen? ⟨w.heap.size, 3, none⟩ = false := rr.frozen 3
        have s2 : (wc).cell? ⟨w.heap.size, 0, none⟩ = some (.int .i64 0) := rr.cell 0
        have s3 : (wc).cell? ⟨w.heap.size, 1, none⟩ = some (.int .i64 0) := rr.cell 1
        have s4 : (wc).cell? ⟨w.heap.size, 2, none⟩ = some (.int .i64 0) := rr.cell 2
        have s5 : (wc).cell? ⟨w.heap.size, 3, none⟩ = some (.int .i64 0) := rr.cell 3
        have bN : Below w.heap.size (wc) (((((wc).setCell ⟨w.heap.size, 0, none⟩ (.int .i64 (o.op))).setCell ⟨w.heap.size, 1, none⟩ (.int .i64 (o.a))).setCell ⟨w.heap.size, 2, none⟩ (.int .i64 (o.b))).setCell ⟨w.heap.size, 3, none⟩ (.int .i64 (o.c))) := ((((Below.refl _ _).setCell (p := ⟨w.heap.size, 0, none⟩) (Nat.le_refl _) _).setCell (p := ⟨w.heap.size, 1, none⟩) (Nat.le_refl _) _).setCell (p := ⟨w.heap.size, 2, none⟩) (Nat.le_refl _) _).setCell (p := ⟨w.heap.size, 3, none⟩) (Nat.le_refl _) _
        have RN := (((rr.put 0 (.int .i64 (o.op))).put 1 (.int .i64 (o.a))).put 2 (.int .i64 (o.b))).put 3 (.int .i64 (o.c))
        have n0 := RN.cell 0
        have n1 := RN.cell 1
        have n2 := RN.cell 2
        have n3 := RN.cell 3
        simp at n0 n1 n2 n3
        have rdN := (S9.rd.below bN hold).more (N' := N + 12) (by omega)
        have gN := grown_below S9.grown bN
        clear rr RN bN
        clear S9
        go_wp2_with fail
        exact bodyPost_ret (v := cmV o) (by simp [results, Tryd.results82, go_sem, *]) rfl ⟨o, rfl, (fun _ => HO.out), SO.out, rdN, gN⟩
      · have hn2 : 1 ≤ n := by omega
        have SO := Lib.hid so
        have R := Lib.hid S.rd
        clear ho so
        go_wp2_with fail
        refine (odd_any _ _ _ _ R.out (by omega) hn2 (by omega)).mono ?_
        rintro e w1 ⟨bb, rfl, hr1, g1⟩
        replace S := S.pick hr1 g1
        clear hr1 g1 R wc
        cases bb
        · have SS := Lib.hid S
          have b0 : w1.cell? ⟨b, 0, none⟩ = some (.int .i64 o.op) := S.box.cell 0
          have b1 : w1.cell? ⟨b, 1, none⟩ = some (.int .i64 o.a) := S.box.cell 1
          have b2 : w1.cell? ⟨b, 2, none⟩ = some (.int .i64 o.b) := S.box.cell 2
          have b3 : w1.cell? ⟨b, 3, none⟩ = some (.int .i64 o.c) := S.box.cell 3
          clear S
          have S9 := SS.out
          have rr := S9.res
          have r2 : (w1).frozen? ⟨w.heap.size, 0, none⟩ = false := rr.frozen 0
          have r3 : (w1).frozen? ⟨w.heap.size, 1, none⟩ = false := rr.frozen 1
          have r4 : (w1).frozen? ⟨w.heap.size, 2, none⟩ = false := rr.frozen 2
          have r5 : (w1).frozen? ⟨w.heap.size, 3, none⟩ = false := rr.frozen 3
          have s2 : (w1).cell? ⟨w.heap.size, 0, none⟩ = some (.int .i64 0) := rr.cell 0
          have s3 : (w1).cell? ⟨w.heap.size, 1, none⟩ = some (.int .i64 0) := rr.cell 1
          have s4 : (w1).cell? ⟨w.heap.size, 2, none⟩ = some (.int .i64 0) := rr.cell 2
          have s5 : (w1).cell? ⟨w.heap.size, 3, none⟩ = some (.int .i64 0) := rr.cell 3
          have bN : Below w.heap.size (w1) (((((w1).setCell ⟨w.heap.size, 0, none⟩ (.int .i64 (o.op))).setCell ⟨w.heap.size, 1, none⟩ (.int .i64 (o.a))).setCell ⟨w.heap.size, 2, none⟩ (.int .i64 (o.b))).setCell ⟨w.heap.size, 3, none⟩ (.int .i64 (o.c))) := ((((Below.refl _ _).setCell (p := ⟨w.heap.size, 0, none⟩) (Nat.le_refl _) _).setCell (p := ⟨w.heap.size, 1, none⟩) (Nat.le_refl _) _).setCell (p := ⟨w.heap.size, 2, none⟩) (Nat.le_refl _) _).setCell (p := ⟨w.heap.size, 3, none⟩) (Nat.le_refl _) _
          have RN := (((rr.put 0 (.int .i64 (o.op))).put 1 (.int .i64 (o.a))).put 2 (.int .i64 (o.b))).put 3 (.int .i64 (o.c))
          have n0 := RN.cell 0
          have n1 := RN.cell 1
          have n2 := RN.cell 2
          have n3 := RN.cell 3
          simp at n0 n1 n2 n3
          have rdN := (S9.rd.below bN hold).more (N' := N + 12) (by omega)
          have gN := grown_below S9.grown bN
          clear rr RN bN
          clear S9
          go_wp2_with fail
          exact bodyPost_ret (v := cmV o) (by simp [results, Tryd.results82, go_sem, *]) rfl ⟨o, rfl, (fun h => absurd h hn1), SO.out, rdN, gN⟩
        · go_wp2_with fail
          refine (pick_any _ _ _ _ S.rd (by omega) (by omega)).mono ?_
          rintro e w2 ⟨j, rfl, a2, c2, hr2, g2⟩
          replace S := S.pick hr2 g2
          clear hr2 g2
          have hj : j = 0 ∨ j = 1 ∨ j = 2 ∨ j = 3 := by omega
          clear a2 c2
          rcases hj with rfl | rfl | rfl | rfl
          · have hsz := S.box.lt
            have T := Rw.new w2 3 #[.int .i64 0, .int .i64 7]
            replace S := S.alloc (.cells #[.int .i64 0, .int .i64 7] 3)
            go_wp2_with fail
            refine (pick_any _ _ _ _ S.rd (by omega) (by omega)).mono ?_
            rintro e w3 ⟨j, rfl, aj, cj, hrj, gj⟩
            have T3 := T.far gj (fun e => by injection e with e; omega)
            have t0 := T3.cell 0
            have t1 := T3.cell 1
            simp at t0 t1
            replace S := S.pick hrj gj
            have hjj : j = 0 ∨ j = 1 := by omega
            clear aj cj hrj gj T T3 hsz
            obtain ⟨q, hq, q1, q2⟩ : ∃ q : Int, (j = 0 ∧ q = 0 ∨ j = 1 ∧ q = 7) ∧ -1 ≤ q ∧ q ≤ 100 := by
              rcases hjj with e | e
              · exact ⟨_, .inl ⟨e, rfl⟩, by omega, by omega⟩
              · exact ⟨_, .inr ⟨e, rfl⟩, by omega, by omega⟩
            have S8 := S.put 0 (.int .i64 q) (o' := ⟨q, o.a, o.b, o.c⟩) rfl
            have v0 := S.box.cell 0
            have fz0 := S.box.frozen 0
            have sm : SmallCm ⟨q, o.a, o.b, o.c⟩ := by
              obtain ⟨k1, k2, k3, k4⟩ := SO.out
              refine ⟨?_, ?_, ?_, ?_⟩ <;> first | assumption | (simp only; omega)
            obtain ⟨o', ho'⟩ : ∃ o' : Cm, o' = ⟨q, o.a, o.b, o.c⟩ := ⟨_, rfl⟩
            have W8 : ∃ w8, w3.setCell ⟨b, 0, none⟩ (.int .i64 q) = w8 := ⟨_, rfl⟩
            rw [← ho'] at S8 sm
            have b0 : (w3.setCell ⟨b, 0, none⟩ (.int .i64 q)).cell? ⟨b, 0, none⟩ = some (.int .i64 o'.op) := S8.box.cell 0
            have b1 : (w3.setCell ⟨b, 0, none⟩ (.int .i64 q)).cell? ⟨b, 1, none⟩ = some (.int .i64 o'.a) := S8.box.cell 1
            have b2 : (w3.setCell ⟨b, 0, none⟩ (.int .i64 q)).cell? ⟨b, 2, none⟩ = some (.int .i64 o'.b) := S8.box.cell 2
            have b3 : (w3.setCell ⟨b, 0, none⟩ (.int .i64 q)).cell? ⟨b, 3, none⟩ = some (.int .i64 o'.c) := S8.box.cell 3
            have S9 := S8
            have rr := S9.res
            have r2 : (w3.setCell ⟨b, 0, none⟩ (.int .i64 q)).frozen? ⟨w.heap.size, 0, none⟩ = false := rr.frozen 0
            have r3 : (w3.setCell ⟨b, 0, none⟩ (.int .i64 q)).frozen? ⟨w.heap.size, 1, none⟩ = false := rr.frozen 1
            have r4 : (w3.setCell ⟨b, 0, none⟩ (.int .i64 q)).frozen? ⟨w.heap.size, 2, none⟩ = false := rr.frozen 2
            have r5 : (w3.setCell ⟨b, 0, none⟩ (.int .i64 q)).frozen? ⟨w.heap.size, 3, none⟩ = false := rr.frozen 3
            have s2 : (w3.setCell ⟨b, 0, none⟩ (.int .i64 q)).cell? ⟨w.heap.size, 0, none⟩ = some (.int .i64 0) := rr.cell 0
            have s3 : (w3.setCell ⟨b, 0, none⟩ (.int .i64 q)).cell? ⟨w.heap.size, 1, none⟩ = some (.int .i64 0) := rr.cell 1
            have s4 : (w3.setCell ⟨b, 0, none⟩ (.int .i64 q)).cell? ⟨w.heap.size, 2, none⟩ = some (.int .i64 0) := rr.cell 2
            have s5 : (w3.setCell ⟨b, 0, none⟩ (.int .i64 q)).cell? ⟨w.heap.size, 3, none⟩ = some (.int .i64 0) := rr.cell 3
            have bN : Below w.heap.size (w3.setCell ⟨b, 0, none⟩ (.int .i64 q)) (((((w3.setCell ⟨b, 0, none⟩ (.int .i64 q)).setCell ⟨w.heap.size, 0, none⟩ (.int .i64 (o'.op))).setCell ⟨w.heap.size, 1, none⟩ (.int .i64 (o'.a))).setCell ⟨w.heap.size, 2, none⟩ (.int .i64 (o'.b))).setCell ⟨w.heap.size, 3, none⟩ (.int .i64 (o'.c))) := ((((Below.refl _ _).setCell (p := ⟨w.heap.size, 0, none⟩) (Nat.le_refl _) _).setCell (p := ⟨w.heap.size, 1, none⟩) (Nat.le_refl _) _).setCell (p := ⟨w.heap.size, 2, none⟩) (Nat.le_refl _) _).setCell (p := ⟨w.heap.size, 3, none⟩) (Nat.le_refl _) _
            have RN := (((rr.put 0 (.int .i64 (o'.op))).put 1 (.int .i64 (o'.a))).put 2 (.int .i64 (o'.b))).put 3 (.int .i64 (o'.c))
            have n0 := RN.cell 0
            have n1 := RN.cell 1
            have n2 := RN.cell 2
            have n3 := RN.cell 3
            simp at n0 n1 n2 n3
            have rdN := (S9.rd.below bN hold).more (N' := N + 12) (by omega)
            have gN := grown_below S9.grown bN
            clear rr RN bN
            have SM := Lib.hid sm
            clear S9 S8 S sm W8 ho' hjj
            rcases hq with ⟨rfl, rfl⟩ | ⟨rfl, rfl⟩ <;>
            · go_wp2_with fail
              exact bodyPost_ret (v := cmV o') (by simp [results, Tryd.results82, go_sem, *]) rfl ⟨o', rfl, fun h => absurd h hn1, SM.out, rdN, gN⟩
          · have hsz := S.box.lt
            have T := Rw.new w2 3 #[.int .i64 (-1), .int .i64 4]
            replace S := S.alloc (.cells #[.int .i64 (-1), .int .i64 4] 3)
            go_wp2_with fail
            refine (pick_any _ _ _ _ S.rd (by omega) (by omega)).mono ?_
            rintro e w3 ⟨j, rfl, aj, cj, hrj, gj⟩
            have T3 := T.far gj (fun e => by injection e with e; omega)
            have t0 := T3.cell 0
            have t1 := T3.cell 1
            simp at t0 t1
            replace S := S.pick hrj gj
            have hjj : j = 0 ∨ j = 1 := by omega
            clear aj cj hrj gj T T3 hsz
            obtain ⟨q, hq, q1, q2⟩ : ∃ q : Int, (j = 0 ∧ q = (-1) ∨ j = 1 ∧ q = 4) ∧ -1 ≤ q ∧ q ≤ 100 := by
              rcases hjj with e | e
              · exact ⟨_, .inl ⟨e, rfl⟩, by omega, by omega⟩
              · exact ⟨_, .inr ⟨e, rfl⟩, by omega, by omega⟩
            have S8 := S.put 1 (.int .i64 q) (o' := ⟨o.op, q, o.b, o.c⟩) rfl
            have v1 := S.box.cell 1
            have fz1 := S.box.frozen 1
            have sm : SmallCm ⟨o.op, q, o.b, o.c⟩ := by
              obtain ⟨k1, k2, k3, k4⟩ := SO.out
              refine ⟨?_, ?_, ?_, ?_⟩ <;> first | assumption | (simp only; omega)
            obtain ⟨o', ho'⟩ : ∃ o' : Cm, o' = ⟨o.op, q, o.b, o.c⟩ := ⟨_, rfl⟩
            have W8 : ∃ w8, w3.setCell ⟨b, 1, none⟩ (.int .i64 q) = w8 := ⟨_, rfl⟩
            rw [← ho'] at S8 sm
            have b0 : (w3.setCell ⟨b, 1, none⟩ (.int .i64 q)).cell? ⟨b, 0, none⟩ = some (.int .i64 o'.op) := S8.box.cell 0
            have b1 : (w3.setCell ⟨b, 1, none⟩ (.int .i64 q)).cell? ⟨b, 1, none⟩ = some (.int .i64 o'.a) := S8.box.cell 1
            have b2 : (w3.setCell ⟨b, 1, none⟩ (.int .i64 q)).cell? ⟨b, 2, none⟩ = some (.int .i64 o'.b) := S8.box.cell 2
            have b3 : (w3.setCell ⟨b, 1, none⟩ (.int .i64 q)).cell? ⟨b, 3, none⟩ = some (.int .i64 o'.c) := S8.box.cell 3
            have S9 := S8
            have rr := S9.res
            have r2 : (w3.setCell ⟨b, 1, none⟩ (.int .i64 q)).frozen? ⟨w.heap.size, 0, none⟩ = false := rr.frozen 0
            have r3 : (w3.setCell ⟨b, 1, none⟩ (.int .i64 q)).frozen? ⟨w.heap.size, 1, none⟩ = false := rr.frozen 1
            have r4 : (w3.setCell ⟨b, 1, none⟩ (.int .i64 q)).frozen? ⟨w.heap.size, 2, none⟩ = false := rr.frozen 2
            have r5 : (w3.setCell ⟨b, 1, none⟩ (.int .i64 q)).frozen? ⟨w.heap.size, 3, none⟩ = false := rr.frozen 3
            have s2 : (w3.setCell ⟨b, 1, none⟩ (.int .i64 q)).cell? ⟨w.heap.size, 0, none⟩ = some (.int .i64 0) := rr.cell 0
            have s3 : (w3.setCell ⟨b, 1, none⟩ (.int .i64 q)).cell? ⟨w.heap.size, 1, none⟩ = some (.int .i64 0) := rr.cell 1
            have s4 : (w3.setCell ⟨b, 1, none⟩ (.int .i64 q)).cell? ⟨w.heap.size, 2, none⟩ = some (.int .i64 0) := rr.cell 2
            have s5 : (w3.setCell ⟨b, 1, none⟩ (.int .i64 q)).cell? ⟨w.heap.size, 3, none⟩ = some (.int .i64 0) := rr.cell 3
            have bN : Below w.heap.size (w3.setCell ⟨b, 1, none⟩ (.int .i64 q)) (((((w3.setCell ⟨b, 1, none⟩ (.int .i64 q)).setCell ⟨w.heap.size, 0, none⟩ (.int .i64 (o'.op))).setCell ⟨w.heap.size, 1, none⟩ (.int .i64 (o'.a))).setCell ⟨w.heap.size, 2, none⟩ (.int .i64 (o'.b))).setCell ⟨w.heap.size, 3, none⟩ (.int .i64 (o'.c))) := ((((Below.refl _ _).setCell (p := ⟨w.heap.size, 0, none⟩) (Nat.le_refl _) _).setCell (p := ⟨w.heap.size, 1, none⟩) (Nat.le_refl _) _).setCell (p := ⟨w.heap.size, 2, none⟩) (Nat.le_refl _) _).setCell (p := ⟨w.heap.size, 3, none⟩) (Nat.le_refl _) _
            have RN := (((rr.put 0 (.int .i64 (o'.op))).put 1 (.int .i64 (o'.a))).put 2 (.int .i64 (o'.b))).put 3 (.int .i64 (o'.c))
            have n0 := RN.cell 0
            have n1 := RN.cell 1
            have n2 := RN.cell 2
            have n3 := RN.cell 3
            simp at n0 n1 n2 n3
            have rdN := (S9.rd.below bN hold).more (N' := N + 12) (by omega)
            have gN := grown_below S9.grown bN
            clear rr RN bN
            have SM := Lib.hid sm
            clear S9 S8 S sm W8 ho' hjj
            rcases hq with ⟨rfl, rfl⟩ | ⟨rfl, rfl⟩ <;>
            · go_wp2_with fail
              exact bodyPost_ret (v := cmV o') (by simp [results, Tryd.results82, go_sem, *]) rfl ⟨o', rfl, fun h => absurd h hn1, SM.out, rdN, gN⟩
          · have hsz := S.box.lt
            have T := Rw.new w2 3 #[.int .i64 (-1), .int .i64 100]
            replace S := S.alloc (.cells #[.int .i64 (-1), .int .i64 100] 3)
            go_wp2_with fail
            refine (pick_any _ _ _ _ S.rd (by omega) (by omega)).mono ?_
            rintro e w3 ⟨j, rfl, aj, cj, hrj, gj⟩
            have T3 := T.far gj (fun e => by injection e with e; omega)
            have t0 := T3.cell 0
            have t1 := T3.cell 1
            simp at t0 t1
            replace S := S.pick hrj gj
            have hjj : j = 0 ∨ j = 1 := by omega
            clear aj cj hrj gj T T3 hsz
            obtain ⟨q, hq, q1, q2⟩ : ∃ q : Int, (j = 0 ∧ q = (-1) ∨ j = 1 ∧ q = 100) ∧ -1 ≤ q ∧ q ≤ 100 := by
              rcases hjj with e | e
              · exact ⟨_, .inl ⟨e, rfl⟩, by omega, by omega⟩
              · exact ⟨_, .inr ⟨e, rfl⟩, by omega, by omega⟩
            have S8 := S.put 2 (.int .i64 q) (o' := ⟨o.op, o.a, q, o.c⟩) rfl
            have v2 := S.box.cell 2
            have fz2 := S.box.frozen 2
            have sm : SmallCm ⟨o.op, o.a, q, o.c⟩ := by
              obtain ⟨k1, k2, k3, k4⟩ := SO.out
              refine ⟨?_, ?_, ?_, ?_⟩ <;> first | assumption | (simp only; omega)
            obtain ⟨o', ho'⟩ : ∃ o' : Cm, o' = ⟨o.op, o.a, q, o.c⟩ := ⟨_, rfl⟩
            have W8 : ∃ w8, w3.setCell ⟨b, 2, none⟩ (.int .i64 q) = w8 := ⟨_, rfl⟩
            rw [← ho'] at S8 sm
            have b0 : (w3.setCell ⟨b, 2, none⟩ (.int .i64 q)).cell? ⟨b, 0, none⟩ = some (.int .i64 o'.op) := S8.box.cell 0
            have b1 : (w3.setCell ⟨b, 2, none⟩ (.int .i64 q)).cell? ⟨b, 1, none⟩ = some (.int .i64 o'.a) := S8.box.cell 1
            have b2 : (w3.setCell ⟨b, 2, none⟩ (.int .i64 q)).cell? ⟨b, 2, none⟩ = some (.int .i64 o'.b) := S8.box.cell 2
            have b3 : (w3.setCell ⟨b, 2, none⟩ (.int .i64 q)).cell? ⟨b, 3, none⟩ = some (.int .i64 o'.c) := S8.box.cell 3
            have S9 := S8
            have rr := S9.res
            have r2 : (w3.setCell ⟨b, 2, none⟩ (.int .i64 q)).frozen? ⟨w.heap.size, 0, none⟩ = false := rr.frozen 0
            have r3 : (w3.setCell ⟨b, 2, none⟩ (.int .i64 q)).frozen? ⟨w.heap.size, 1, none⟩ = false := rr.frozen 1
            have r4 : (w3.setCell ⟨b, 2, none⟩ (.int .i64 q)).frozen? ⟨w.heap.size, 2, none⟩ = false := rr.frozen 2
            have r5 : (w3.setCell ⟨b, 2, none⟩ (.int .i64 q)).frozen? ⟨w.heap.size, 3, none⟩ = false := rr.frozen 3
            have s2 : (w3.setCell ⟨b, 2, none⟩ (.int .i64 q)).cell? ⟨w.heap.size, 0, none⟩ = some (.int .i64 0) := rr.cell 0
            have s3 : (w3.setCell ⟨b, 2, none⟩ (.int .i64 q)).cell? ⟨w.heap.size, 1, none⟩ = some (.int .i64 0) := rr.cell 1
            have s4 : (w3.setCell ⟨b, 2, none⟩ (.int .i64 q)).cell? ⟨w.heap.size, 2, none⟩ = some (.int .i64 0) := rr.cell 2
            have s5 : (w3.setCell ⟨b, 2, none⟩ (.int .i64 q)).cell? ⟨w.heap.size, 3, none⟩ = some (.int .i64 0) := rr.cell 3
            have bN : Below w.heap.size (w3.setCell ⟨b, 2, none⟩ (.int .i64 q)) (((((w3.setCell ⟨b, 2, none⟩ (.int .i64 q)).setCell ⟨w.heap.size, 0, none⟩ (.int .i64 (o'.op))).setCell ⟨w.heap.size, 1, none⟩ (.int .i64 (o'.a))).setCell ⟨w.heap.size, 2, none⟩ (.int .i64 (o'.b))).setCell ⟨w.heap.size, 3, none⟩ (.int .i64 (o'.c))) := ((((Below.refl _ _).setCell (p := ⟨w.heap.size, 0, none⟩) (Nat.le_refl _) _).setCell (p := ⟨w.heap.size, 1, none⟩) (Nat.le_refl _) _).setCell (p := ⟨w.heap.size, 2, none⟩) (Nat.le_refl _) _).setCell (p := ⟨w.heap.size, 3, none⟩) (Nat.le_refl _) _
            have RN := (((rr.put 0 (.int .i64 (o'.op))).put 1 (.int .i64 (o'.a))).put 2 (.int .i64 (o'.b))).put 3 (.int .i64 (o'.c))
            have n0 := RN.cell 0
            have n1 := RN.cell 1
            have n2 := RN.cell 2
            have n3 := RN.cell 3
            simp at n0 n1 n2 n3
            have rdN := (S9.rd.below bN hold).more (N' := N + 12) (by omega)
            have gN := grown_below S9.grown bN
            clear rr RN bN
            have SM := Lib.hid sm
            clear S9 S8 S sm W8 ho' hjj
            rcases hq with ⟨rfl, rfl⟩ | ⟨rfl, rfl⟩ <;>
            · go_wp2_with fail
              exact bodyPost_ret (v := cmV o') (by simp [results, Tryd.results82, go_sem, *]) rfl ⟨o', rfl, fun h => absurd h hn1, SM.out, rdN, gN⟩
          · have hsz := S.box.lt
            have T := Rw.new w2 3 #[.int .i64 (-1), .int .i64 100]
            replace S := S.alloc (.cells #[.int .i64 (-1), .int .i64 100] 3)
            go_wp2_with fail
            refine (pick_any _ _ _ _ S.rd (by omega) (by omega)).mono ?_
            rintro e w3 ⟨j, rfl, aj, cj, hrj, gj⟩
            have T3 := T.far gj (fun e => by injection e with e; omega)
            have t0 := T3.cell 0
            have t1 := T3.cell 1
            simp at t0 t1
            replace S := S.pick hrj gj
            have hjj : j = 0 ∨ j = 1 := by omega
            clear aj cj hrj gj T T3 hsz
            obtain ⟨q, hq, q1, q2⟩ : ∃ q : Int, (j = 0 ∧ q = (-1) ∨ j = 1 ∧ q = 100) ∧ -1 ≤ q ∧ q ≤ 100 := by
              rcases hjj with e | e
              · exact ⟨_, .inl ⟨e, rfl⟩, by omega, by omega⟩
              · exact ⟨_, .inr ⟨e, rfl⟩, by omega, by omega⟩
            have S8 := S.put 3 (.int .i64 q) (o' := ⟨o.op, o.a, o.b, q⟩) rfl
            have v3 := S.box.cell 3
            have fz3 := S.box.frozen 3
            have sm : SmallCm ⟨o.op, o.a, o.b, q⟩ := by
              obtain ⟨k1, k2, k3, k4⟩ := SO.out
              refine ⟨?_, ?_, ?_, ?_⟩ <;> first | assumption | (simp only; omega)
            obtain ⟨o', ho'⟩ : ∃ o' : Cm, o' = ⟨o.op, o.a, o.b, q⟩ := ⟨_, rfl⟩
            have W8 : ∃ w8, w3.setCell ⟨b, 3, none⟩ (.int .i64 q) = w8 := ⟨_, rfl⟩
            rw [← ho'] at S8 sm
            have b0 : (w3.setCell ⟨b, 3, none⟩ (.int .i64 q)).cell? ⟨b, 0, none⟩ = some (.int .i64 o'.op) := S8.box.cell 0
            have b1 : (w3.setCell ⟨b, 3, none⟩ (.int .i64 q)).cell? ⟨b, 1, none⟩ = some (.int .i64 o'.a) := S8.box.cell 1
            have b2 : (w3.setCell ⟨b, 3, none⟩ (.int .i64 q)).cell? ⟨b, 2, none⟩ = some (.int .i64 o'.b) := S8.box.cell 2
            have b3 : (w3.setCell ⟨b, 3, none⟩ (.int .i64 q)).cell? ⟨b, 3, none⟩ = some (.int .i64 o'.c) := S8.box.cell 3
            have S9 := S8
            have rr := S9.res
            have r2 : (w3.setCell ⟨b, 3, none⟩ (.int .i64 q)).frozen? ⟨w.heap.size, 0, none⟩ = false := rr.frozen 0
            have r3 : (w3.setCell ⟨b, 3, none⟩ (.int .i64 q)).frozen? ⟨w.heap.size, 1, none⟩ = false := rr.frozen 1
            have r4 : (w3.setCell ⟨b, 3, none⟩ (.int .i64 q)).frozen? ⟨w.heap.size, 2, none⟩ = false := rr.frozen 2
            have r5 : (w3.setCell ⟨b, 3, none⟩ (.int .i64 q)).frozen? ⟨w.heap.size, 3, none⟩ = false := rr.frozen 3
            have s2 : (w3.setCell ⟨b, 3, none⟩ (.int .i64 q)).cell? ⟨w.heap.size, 0, none⟩ = some (.int .i64 0) := rr.cell 0
            have s3 : (w3.setCell ⟨b, 3, none⟩ (.int .i64 q)).cell? ⟨w.heap.size, 1, none⟩ = some (.int .i64 0) := rr.cell 1
            have s4 : (w3.setCell ⟨b, 3, none⟩ (.int .i64 q)).cell? ⟨w.heap.size, 2, none⟩ = some (.int .i64 0) := rr.cell 2
            have s5 : (w3.setCell ⟨b, 3, none⟩ (.int .i64 q)).cell? ⟨w.heap.size, 3, none⟩ = some (.int .i64 0) := rr.cell 3
            have bN : Below w.heap.size (w3.setCell ⟨b, 3, none⟩ (.int .i64 q)) (((((w3.setCell ⟨b, 3, none⟩ (.int .i64 q)).setCell ⟨w.heap.size, 0, none⟩ (.int .i64 (o'.op))).setCell ⟨w.heap.size, 1, none⟩ (.int .i64 (o'.a))).setCell ⟨w.heap.size, 2, none⟩ (.int .i64 (o'.b))).setCell ⟨w.heap.size, 3, none⟩ (.int .i64 (o'.c))) := ((((Below.refl _ _).setCell (p := ⟨w.heap.size, 0, none⟩) (Nat.le_refl _) _).setCell (p := ⟨w.heap.size, 1, none⟩) (Nat.le_refl _) _).setCell (p := ⟨w.heap.size, 2, none⟩) (Nat.le_refl _) _).setCell (p := ⟨w.heap.size, 3, none⟩) (Nat.le_refl _) _
            have RN := (((rr.put 0 (.int .i64 (o'.op))).put 1 (.int .i64 (o'.a))).put 2 (.int .i64 (o'.b))).put 3 (.int .i64 (o'.c))
            have n0 := RN.cell 0
            have n1 := RN.cell 1
            have n2 := RN.cell 2
            have n3 := RN.cell 3
            simp at n0 n1 n2 n3
            have rdN := (S9.rd.below bN hold).more (N' := N + 12) (by omega)
            have gN := grown_below S9.grown bN
            clear rr RN bN
            have SM := Lib.hid sm
            clear S9 S8 S sm W8 ho' hjj
            rcases hq with ⟨rfl, rfl⟩ | ⟨rfl, rfl⟩ <;>
            · go_wp2_with fail
              exact bodyPost_ret (v := cmV o') (by simp [results, Tryd.results82, go_sem, *]) rfl ⟨o', rfl, fun h => absurd h hn1, SM.out, rdN, gN⟩
end Go.Proofs.YthmddmddcdofaaaDoor

