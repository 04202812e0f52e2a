/- What the program's numbers and firstOutside of a set of cells return: for every word of bits, in every memory in which the table of math/bits lies as laid. -/
import Derived.Test.YtiojoailjiojjaaDoorTz
import Derived.Test.YtiojoailjiojjaaDoorGg
namespace Go.Proofs.YtiojoailjiojjaaDoor
open Go.RowKit
set_option maxRecDepth 100000

namespace Hps
/-- the numbers of the bits that are set, ascending -/
def numsB (V : Nat) : List Int := ((List.range 64).filter V.testBit).map fun (k : Nat) => (k : Int)
theorem filter_first {p : Nat → Bool} {k : Nat} (hp : p k = true) (hb : ∀ j, j < k → p j = false) : ∀ n, k < n → (List.range n).filter p = k :: (List.range n).filter (fun i => p i && decide (i ≠ k))
  | 0, h => by omega
  | n + 1, h => by
    have hnil : ∀ m, m ≤ k → ∀ q : Nat → Bool, (∀ j, j < k → q j = false) → (List.range m).filter q = [] := fun m hm q hq => by
      rw [List.filter_eq_nil_iff]
      intro a ha
      rw [hq a (by have := List.mem_range.1 ha; omega)]
      simp
    rw [List.range_succ, List.filter_append, List.filter_append]
    by_cases hk : k < n
    · rw [filter_first hp hb n hk]
      have e : (p n && decide (n ≠ k)) = p n := by rw [decide_eq_true (show n ≠ k by omega), Bool.and_true]
      rw [List.cons_append]
      congr 2
      rw [List.filter_cons, List.filter_cons, e, List.filter_nil, List.filter_nil]
    · obtain rfl : n = k := by omega
      rw [hnil n (Nat.le_refl _) p hb, hnil n (Nat.le_refl _) _ (fun j hj => by rw [hb j hj]; rfl)]
      simp [hp]
theorem clear_low {x : Nat} (h0 : x ≠ 0) (h : x < 18446744073709551616) (i : Nat) : (x &&& (x - 1)).testBit i = (x.testBit i && decide (i ≠ Lib.ctz 64 x)) := by
  obtain ⟨m, hm, hk⟩ := Lib.ctzFrom_spec 64 x (by omega) h
  have e : Lib.ctz 64 x = Lib.ctzFrom 64 x := by simp [Lib.ctz, h0]
  rw [e]
  obtain ⟨k, hkk⟩ : ∃ k, Lib.ctzFrom 64 x = k := ⟨_, rfl⟩
  rw [hkk] at hm ⊢
  have hp : 0 < 2 ^ k := Nat.two_pow_pos k
  have hx1 : x - 1 = (2 * m) * 2 ^ k + (2 ^ k - 1) := by
    have : 2 ^ k * (2 * m + 1) = (2 * m) * 2 ^ k + 2 ^ k := by rw [Nat.mul_add, Nat.mul_one, Nat.mul_comm]
    omega
  have hx : x = (2 * m + 1) * 2 ^ k := by rw [hm, Nat.mul_comm]
  have hdiv : (x - 1) / 2 ^ k = 2 * m := by
    rw [hx1, Nat.mul_comm, Nat.mul_add_div hp, Nat.div_eq_of_lt (show 2 ^ k - 1 < 2 ^ k by omega)]
    omega
  rw [Nat.testBit_and]
  rcases Nat.lt_trichotomy i k with h1 | h1 | h1
  · have : x.testBit i = false := by
      rw [hx, Nat.testBit_mul_two_pow]
      simp
      omega
    rw [this]
    rfl
  · subst h1
    have : (x - 1).testBit i = false := by
      rw [Nat.testBit, Nat.shiftRight_eq_div_pow, hdiv]
      simp
    rw [this]
    simp
  · have e1 : ∀ y, y.testBit i = (y / 2 ^ k).testBit (i - k) := fun y => by
      rw [← Nat.shiftRight_eq_div_pow, Nat.testBit_shiftRight]
      congr 1
      omega
    have e2 : x / 2 ^ k = 2 * m + 1 := by rw [hx, Nat.mul_div_cancel _ hp]
    obtain ⟨j, hj⟩ : ∃ j, i - k = j + 1 := ⟨i - k - 1, by omega⟩
    rw [e1 x, e1 (x - 1), hdiv, e2, hj, Nat.testBit_succ, Nat.testBit_succ, show (2 * m + 1) / 2 = m by omega, show 2 * m / 2 = m by omega, decide_eq_true (show i ≠ k by omega)]
    simp
theorem nums_zero : numsB 0 = [] := by simp [numsB]
theorem nums_next {x : Nat} (h0 : x ≠ 0) (h : x < 18446744073709551616) : numsB x = (Lib.ctz 64 x : Int) :: numsB (x &&& (x - 1)) := by
  obtain ⟨h1, h2⟩ := Bm.ctz_bit h0 h
  have h3 := (Lib.lowest_bit 64 x h0 h).2
  unfold numsB
  rw [filter_first h1 h2 64 h3, List.map_cons]
  congr 2
  exact List.filter_congr fun i _ => (clear_low h0 h i).symm
theorem nums_len (x : Nat) : (numsB x).length ≤ 64 := by
  unfold numsB
  rw [List.length_map]
  exact Nat.le_trans (List.length_filter_le _ _) (by simp)
end Hps

set_option maxHeartbeats 1000000 in
theorem numbers_any (S : Nat) (w : World) (hT : TzT w) (hS : S < 18446744073709551616) :
    Calls Tryd.prog 55 #[.int .u64 S] w (GaveI w (Hps.numsB S)) := by
  go_enter Tryd.func55, Tryd.ntmps55
  go_wp2_with fail
  go_loopw [3, 4] (fun xs rest wr => ∃ (ys : List Int) (V : Nat), rest = .int .u64 V ∧ V < 18446744073709551616 ∧ OwnI wr w.heap.size xs ys ∧ ys ++ Hps.numsB V = Hps.numsB S ∧ Below w.heap.size w wr) (fun _ rest _ => match rest with | .int _ V => V.toNat | _ => 0)
  case atStart => exact ⟨[], S, rfl, hS, World.ownsRow_nil _ _ _ _, rfl, Below.refl _ _⟩
  case round =>
    obtain ⟨ys, V, rfl, hV, ho, hnum, hb⟩ := hrel
    obtain ⟨A, c, rfl, -⟩ := ho.form
    by_cases h0 : V = 0
    · subst h0
      rw [Hps.nums_zero, List.append_nil] at hnum
      go_wp2_with fail
      go_ret
      exact ⟨_, rfl, OwnI.cast hnum ho, hb⟩
    · have hV0 : ((V : Int) == 0) = false := by rw [beq_eq_false_iff_ne]; omega
      have hlen : ys.length ≤ 64 := by
        have := congrArg List.length hnum
        rw [List.length_append] at this
        have := Hps.nums_len S
        omega
      have hand : bits .and .u64 (V : Int) ((V : Int) - 1) = ((V &&& (V - 1) : Nat) : Int) := by
        rw [show (V : Int) - 1 = ((V - 1 : Nat) : Int) by omega]
        exact u64_and_nat _ _ hV (by omega)
      have hle : V &&& (V - 1) ≤ V - 1 := Nat.and_le_right
      have HN := Lib.hid (show (ys ++ [(Lib.ctz 64 V : Int)]) ++ Hps.numsB (V &&& (V - 1)) = Hps.numsB S by rw [← hnum, Hps.nums_next h0 hV]; simp)
      obtain ⟨kk, hkk⟩ : ∃ kk, Lib.ctz 64 V = kk := ⟨_, rfl⟩
      have TZ := tz64_any V wr (hT.below hb) h0 hV
      rw [hkk] at TZ HN
      clear hnum hkk
      go_wp2_with fail
      refine TZ.mono ?_
      rintro e w1 ⟨rfl, rfl⟩
      have ow := World.ownsRow.alloc ho (.cells #[.int .i64 kk] 3)
      have rr : IS (wr.alloc (.cells #[.int .i64 kk] 3)) (wr.alloc (.cells #[.int .i64 kk] 3)).heap.size (some ⟨wr.heap.size, 0, none⟩) 1 [(kk : Int)] := (own_oneI wr kk 0 (Nat.zero_le _)).reads
      have hsz := hb.size
      have hw1 : w.heap.size ≤ (wr.alloc (.cells #[.int .i64 kk] 3)).heap.size := by simp; omega
      clear TZ
      go_wp2_with (at_builtin; refine wpList_appendI rfl (.tmp 12) (.tmp 15) rfl w.heap.size _ ys rfl ow (some ⟨wr.heap.size, 0, none⟩) 1 1 _ [(kk : Int)] rfl rr (by simp; omega) hw1 ?_; intro v5 w5 o5 g5 s5)
      have bn : Below w.heap.size w w5 := (hb.alloc hb.size _).grown g5 (by simp; omega) (fun k hk => (World.ownsRow.lt ho k hk).1)
      clear ow rr g5 s5 ho
      go_roundw
      case rel => exact ⟨ys ++ [(kk : Int)], V &&& (V - 1), rfl, by omega, o5, HN.out, bn⟩
      case measure => simp; omega

set_option maxHeartbeats 1000000 in
theorem firstOutside_any (S : Nat) (w : World) (hT : TzT w) (hS : S < 18446744073709551615) :
    Calls Tryd.prog 128 #[.int .u64 S] w fun e w' => e = .returned (.int .i64 (Lib.ctz 64 (18446744073709551615 - S))) ∧ w = w' := by
  have hx : bits .xor .u64 IntKind.u64.max (S : Int) = ((18446744073709551615 - S : Nat) : Int) := by
    rw [show IntKind.u64.max = ((18446744073709551615 : Nat) : Int) from rfl, u64_xor_nat _ _ (by omega) (by omega)]
    congr 1
    apply Nat.eq_of_testBit_eq
    intro i
    rw [Nat.testBit_xor, show 18446744073709551615 - S = 2 ^ 64 - (S + 1) by omega, Nat.testBit_two_pow_sub_succ (by omega), show (18446744073709551615 : Nat) = 2 ^ 64 - 1 from rfl, Nat.testBit_two_pow_sub_one]
    by_cases hi : i < 64
    · simp [hi]
    · have : S.testBit i = false := Nat.testBit_lt_two_pow (Nat.lt_of_lt_of_le hS (Nat.le_trans (by decide : 18446744073709551615 ≤ 2 ^ 64) (Nat.pow_le_pow_right (by decide) (by omega))))
      simp [hi, this]
  have hX := Lib.hid hx
  clear hx
  go_enter Tryd.func128, Tryd.ntmps128
  go_wp2_with fail
  rw [hX.out]
  refine (tz64_any _ w hT (by omega) (by omega)).mono ?_
  rintro e w1 ⟨rfl, rfl⟩
  go_wp2_with fail
  go_ret
  exact ⟨rfl, rfl⟩
end Go.Proofs.YtiojoailjiojjaaDoor
