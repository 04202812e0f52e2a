/- How many bits of a word are set, in plain mathematics: bytes side by side. No program, no conditions. -/
import Derived.Below
namespace Go.Proofs.Ytkdoolilggkjpaa
/-- the bits of a number below k that are set -/
def pcN (V k : Nat) : Nat := (List.range k).countP V.testBit
namespace Pc
def val : List Nat → Nat
  | [] => 0
  | b :: bs => b + 256 * val bs
theorem and_split (b r c d : Nat) (hb : b < 256) (hc : c < 256) : (b + 256 * r) &&& (c + 256 * d) = (b &&& c) + 256 * (r &&& d) := by
  have h1 : ((b + 256 * r) &&& (c + 256 * d)) % 256 = b &&& c := by
    have := Nat.and_mod_two_pow (a := b + 256 * r) (b := c + 256 * d) (n := 8)
    rw [show (2 : Nat) ^ 8 = 256 by decide] at this
    rw [this, show (b + 256 * r) % 256 = b by omega, show (c + 256 * d) % 256 = c by omega]
  have h2 : ((b + 256 * r) &&& (c + 256 * d)) / 256 = r &&& d := by
    have := Nat.and_div_two_pow (a := b + 256 * r) (b := c + 256 * d) (n := 8)
    rw [show (2 : Nat) ^ 8 = 256 by decide] at this
    rw [this, show (b + 256 * r) / 256 = r by omega, show (c + 256 * d) / 256 = d by omega]
  omega
def s1 (x m : Nat) : Nat := (x / 2 &&& m) + (x &&& m)
def s2 (x m : Nat) : Nat := (x / 4 &&& m) + (x &&& m)
def s3 (x m : Nat) : Nat := (x / 16 + x) &&& m
theorem m1 : ∀ b : Fin 256, ∀ j : Fin 2, (b.val / 2 + 128 * j.val) &&& 85 = b.val / 2 &&& 85 := by decide +kernel
theorem m2 : ∀ b : Fin 256, ∀ j : Fin 4, (b.val / 4 + 64 * j.val) &&& 51 = b.val / 4 &&& 51 := by decide +kernel
theorem s1_split (b r d : Nat) (hb : b < 256) : s1 (b + 256 * r) (85 + 256 * d) = s1 b 85 + 256 * s1 r d := by
  unfold s1
  rw [show (b + 256 * r) / 2 = (b / 2 + 128 * (r % 2)) + 256 * (r / 2) by omega, and_split _ _ _ _ (by omega) (by omega), and_split _ _ _ _ hb (by omega)]
  have := m1 ⟨b, hb⟩ ⟨r % 2, by omega⟩
  simp only at this
  rw [this]
  omega
theorem s2_split (b r d : Nat) (hb : b < 256) : s2 (b + 256 * r) (51 + 256 * d) = s2 b 51 + 256 * s2 r d := by
  unfold s2
  rw [show (b + 256 * r) / 4 = (b / 4 + 64 * (r % 4)) + 256 * (r / 4) by omega, and_split _ _ _ _ (by omega) (by omega), and_split _ _ _ _ hb (by omega)]
  have := m2 ⟨b, hb⟩ ⟨r % 4, by omega⟩
  simp only at this
  rw [this]
  omega
theorem and15 (x : Nat) : x &&& 15 = x % 16 := Nat.and_two_pow_sub_one_eq_mod x 4
theorem s3_split (b r d : Nat) (hb : b / 16 ≤ 4) (hb2 : b % 16 ≤ 4) (hr : r % 16 ≤ 4) : s3 (b + 256 * r) (15 + 256 * d) = s3 b 15 + 256 * s3 r d := by
  unfold s3
  rw [show (b + 256 * r) / 16 + (b + 256 * r) = (b / 16 + b + 16 * (r % 16)) + 256 * (r / 16 + r) by omega, and_split _ _ _ _ (by omega) (by omega), and15, and15, show (b / 16 + b + 16 * (r % 16)) % 16 = (b / 16 + b) % 16 by omega]
theorem s1_lt : ∀ b : Fin 256, s1 b.val 85 < 256 := by decide +kernel
theorem s2_ok : ∀ b : Fin 256, s2 (s1 b.val 85) 51 / 16 ≤ 4 ∧ s2 (s1 b.val 85) 51 % 16 ≤ 4 := by decide +kernel
def g (b : Nat) : Nat := s3 (s2 (s1 b 85) 51) 15
theorem g_eq : ∀ b : Fin 256, g b.val = pcN b.val 8 := by decide +kernel
theorem pc_le (V k : Nat) : pcN V k ≤ k := Nat.le_trans List.countP_le_length (by simp)
theorem s1_val : ∀ bs : List Nat, (∀ b ∈ bs, b < 256) → s1 (val bs) (val (bs.map fun _ => 85)) = val (bs.map (s1 · 85))
  | [], _ => by decide
  | b :: bs, h => by
    have ih := s1_val bs fun x hx => h x (by simp [hx])
    simp only [List.map_cons, val]
    rw [s1_split _ _ _ (h b (by simp)), ih]
theorem s2_val : ∀ bs : List Nat, (∀ b ∈ bs, b < 256) → s2 (val bs) (val (bs.map fun _ => 51)) = val (bs.map (s2 · 51))
  | [], _ => by decide
  | b :: bs, h => by
    have ih := s2_val bs fun x hx => h x (by simp [hx])
    simp only [List.map_cons, val]
    rw [s2_split _ _ _ (h b (by simp)), ih]
theorem s3_val : ∀ bs : List Nat, (∀ b ∈ bs, b / 16 ≤ 4 ∧ b % 16 ≤ 4) → s3 (val bs) (val (bs.map fun _ => 15)) = val (bs.map (s3 · 15))
  | [], _ => by decide
  | b :: bs, h => by
    have ih := s3_val bs fun x hx => h x (by simp [hx])
    simp only [List.map_cons, val]
    have hb := h b (by simp)
    have hr : val bs % 16 ≤ 4 := by
      cases bs with
      | nil => simp [val]
      | cons c cs =>
        have := h c (by simp)
        simp only [val]
        omega
    rw [s3_split _ _ _ hb.1 hb.2 hr, ih]
/-- the bytes' counts side by side -/
theorem g_val (bs : List Nat) (h : ∀ b ∈ bs, b < 256) : s3 (s2 (s1 (val bs) (val (bs.map fun _ => 85))) (val (bs.map fun _ => 51))) (val (bs.map fun _ => 15)) = val (bs.map g) := by
  have e : ∀ (c : Nat) (f : Nat → Nat), (bs.map f).map (fun _ => c) = bs.map fun _ => c := fun c f => by rw [List.map_map]; rfl
  have h1 : ∀ b ∈ bs.map (s1 · 85), b < 256 := fun b hb => by
    obtain ⟨a, ha, rfl⟩ := List.mem_map.1 hb
    exact s1_lt ⟨a, h a ha⟩
  have h2 : ∀ b ∈ (bs.map (s1 · 85)).map (s2 · 51), b / 16 ≤ 4 ∧ b % 16 ≤ 4 := fun b hb => by
    obtain ⟨a', ha', rfl⟩ := List.mem_map.1 hb
    obtain ⟨a, ha, rfl⟩ := List.mem_map.1 ha'
    exact s2_ok ⟨a, h a ha⟩
  have e2 : ((bs.map (s1 · 85)).map (s2 · 51)).map (fun _ => 15) = bs.map fun _ => 15 := by
    rw [List.map_map, List.map_map]
    rfl
  rw [s1_val _ h, ← e 51 (s1 · 85), s2_val _ h1, ← e2, s3_val _ h2, List.map_map, List.map_map]
  rfl
theorem pc_byte {V : Nat} (j : Nat) : (List.range 8).countP (fun i => V.testBit (8 * j + i)) = pcN (V / 2 ^ (8 * j) % 256) 8 := by
  unfold pcN
  apply List.countP_congr
  intro i hi
  rw [List.mem_range] at hi
  rw [show (256 : Nat) = 2 ^ 8 by decide, Nat.testBit_mod_two_pow, decide_eq_true hi, Bool.true_and, Nat.testBit_div_two_pow, Nat.add_comm]
theorem pc64 (V : Nat) : pcN V 64 = pcN (V % 256) 8 + pcN (V / 256 % 256) 8 + pcN (V / 65536 % 256) 8 + pcN (V / 16777216 % 256) 8 + pcN (V / 4294967296 % 256) 8 + pcN (V / 1099511627776 % 256) 8 + pcN (V / 281474976710656 % 256) 8 + pcN (V / 72057594037927936 % 256) 8 := by
  have e : pcN V 64 = ((List.range 8).map fun j => (List.range 8).countP (fun i => V.testBit (8 * j + i))).sum := by
    unfold pcN
    rw [show List.range 64 = (List.range 8).flatMap fun j => (List.range 8).map fun i => 8 * j + i by decide +kernel, List.countP_flatMap]
    congr 1
  rw [e, show (List.range 8) = [0, 1, 2, 3, 4, 5, 6, 7] by decide]
  have q : ∀ j, ([0, 1, 2, 3, 4, 5, 6, 7] : List Nat).countP (fun i => V.testBit (8 * j + i)) = pcN (V / 2 ^ (8 * j) % 256) 8 := fun j => pc_byte j
  simp only [q, List.map_cons, List.map_nil, List.sum_cons, List.sum_nil]
  simp only [Nat.reduceMul, Nat.reducePow, Nat.pow_zero, Nat.div_one]
  omega
/-- OnesCount64's sums -/
theorem sums (V : Nat) (h : V < 18446744073709551616) (y z z2 : Nat) (hy : y = s3 (s2 (s1 V 6148914691236517205) 3689348814741910323) 1085102592571150095) (hz : z = y + y / 256) (hz2 : z2 = z + z / 65536) :
    z < 18446744073709551616 ∧ z2 < 18446744073709551616 ∧ z2 + z2 / 4294967296 < 9223372036854775808 ∧ (z2 + z2 / 4294967296) % 128 = pcN V 64 := by
  have hv : V = val [V % 256, V / 256 % 256, V / 65536 % 256, V / 16777216 % 256, V / 4294967296 % 256, V / 1099511627776 % 256, V / 281474976710656 % 256, V / 72057594037927936 % 256] := by
    simp only [val]
    omega
  have hp := pc64 V
  have hb : ∀ b ∈ [V % 256, V / 256 % 256, V / 65536 % 256, V / 16777216 % 256, V / 4294967296 % 256, V / 1099511627776 % 256, V / 281474976710656 % 256, V / 72057594037927936 % 256], b < 256 := by
    intro b hb
    simp only [List.mem_cons, List.not_mem_nil, or_false] at hb
    omega
  have hg := g_val _ hb
  have l0 := g_eq ⟨V % 256, by omega⟩
  have l1 := g_eq ⟨V / 256 % 256, by omega⟩
  have l2 := g_eq ⟨V / 65536 % 256, by omega⟩
  have l3 := g_eq ⟨V / 16777216 % 256, by omega⟩
  have l4 := g_eq ⟨V / 4294967296 % 256, by omega⟩
  have l5 := g_eq ⟨V / 1099511627776 % 256, by omega⟩
  have l6 := g_eq ⟨V / 281474976710656 % 256, by omega⟩
  have l7 := g_eq ⟨V / 72057594037927936 % 256, by omega⟩
  simp only at l0 l1 l2 l3 l4 l5 l6 l7
  rw [← hv] at hg
  simp only [List.map_cons, List.map_nil, l0, l1, l2, l3, l4, l5, l6, l7] at hg
  rw [show val [85, 85, 85, 85, 85, 85, 85, 85] = 6148914691236517205 by decide, show val [51, 51, 51, 51, 51, 51, 51, 51] = 3689348814741910323 by decide, show val [15, 15, 15, 15, 15, 15, 15, 15] = 1085102592571150095 by decide, ← hy] at hg
  rw [hp]
  clear hv hb hp l0 l1 l2 l3 l4 l5 l6 l7 hy h
  have q0 := pc_le (V % 256) 8
  have q1 := pc_le (V / 256 % 256) 8
  have q2 := pc_le (V / 65536 % 256) 8
  have q3 := pc_le (V / 16777216 % 256) 8
  have q4 := pc_le (V / 4294967296 % 256) 8
  have q5 := pc_le (V / 1099511627776 % 256) 8
  have q6 := pc_le (V / 281474976710656 % 256) 8
  have q7 := pc_le (V / 72057594037927936 % 256) 8
  generalize pcN (V % 256) 8 = p0 at *
  generalize pcN (V / 256 % 256) 8 = p1 at *
  generalize pcN (V / 65536 % 256) 8 = p2 at *
  generalize pcN (V / 16777216 % 256) 8 = p3 at *
  generalize pcN (V / 4294967296 % 256) 8 = p4 at *
  generalize pcN (V / 1099511627776 % 256) 8 = p5 at *
  generalize pcN (V / 281474976710656 % 256) 8 = p6 at *
  generalize pcN (V / 72057594037927936 % 256) 8 = p7 at *
  simp only [val] at hg
  subst hg
  have e1 : z = (p0 + p1) + 256 * (p1 + p2) + 65536 * (p2 + p3) + 16777216 * (p3 + p4) + 4294967296 * (p4 + p5) + 1099511627776 * (p5 + p6) + 281474976710656 * (p6 + p7) + 72057594037927936 * p7 := by omega
  clear hz
  have e2 : z2 = (p0 + p1 + p2 + p3) + 256 * (p1 + p2 + p3 + p4) + 65536 * (p2 + p3 + p4 + p5) + 16777216 * (p3 + p4 + p5 + p6) + 4294967296 * (p4 + p5 + p6 + p7) + 1099511627776 * (p5 + p6 + p7) + 281474976710656 * (p6 + p7) + 72057594037927936 * p7 := by omega
  clear hz2
  have e3 : z2 / 4294967296 = (p4 + p5 + p6 + p7) + 256 * (p5 + p6 + p7) + 65536 * (p6 + p7) + 16777216 * p7 := by omega
  rw [e3]
  have hzl : z < 18446744073709551616 := by omega
  clear e1
  exact ⟨hzl, by omega, by omega, by omega⟩
end Pc
end Go.Proofs.Ytkdoolilggkjpaa
