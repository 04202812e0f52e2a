/- What the program's flaggedSet and TrialCounts return: for every heap and every set. No conditions. -/
import Derived.Test.YtakdjiojahlnmaaRo
import Derived.Test.YtakdjiojahlnmaaGb
namespace Go.Proofs.Ytakdjiojahlnmaa
open Go.RowKit
set_option maxRecDepth 100000

namespace Hps
theorem not_bit {U i : Nat} (hU : U < 18446744073709551616) (hi : i < 64) : (18446744073709551615 - U).testBit i = !U.testBit i := by
  rw [show 18446744073709551615 - U = 2 ^ 64 - (U + 1) by omega, Nat.testBit_two_pow_sub_succ (by omega)]
  simp [hi]
/-- a set of used cells: no bit is outside -/
theorem okSet_word {h : Hp} {s : List Bool} (hl : s.length = h.cs.length) (h40 : h.cs.length ≤ 40) : okSet h s = decide (Bm.wordN s true &&& (18446744073709551615 - usedW h.cs) = 0) := by
  have hU := usedW_lt (cs := h.cs) (by omega)
  rw [Bool.eq_iff_iff, okSet_iff, decide_eq_true_eq]
  constructor
  · rintro ⟨_, h2⟩
    apply Bm.zero_bits
    intro i
    rw [Nat.testBit_and, Bm.wordN_bit]
    by_cases q : s[i]? = some true
    · have := (List.getElem?_eq_some_iff.1 q).1
      rw [not_bit hU (by omega), usedW_bit, h2 i q]
      simp
    · simp [q]
  · intro h2
    refine ⟨hl, fun k hk => ?_⟩
    have := (List.getElem?_eq_some_iff.1 hk).1
    have h3 : (Bm.wordN s true &&& (18446744073709551615 - usedW h.cs)).testBit k = false := by rw [h2]; simp
    rw [Nat.testBit_and, Bm.wordN_bit, not_bit hU (by omega), usedW_bit] at h3
    simpa [hk] using h3
/-- counts, the first k of them with -1 for what is not in the set -/
def mixL (V : Nat) (L : List Int) (n k : Nat) : List Int := (List.range n).map fun i => if i < k ∧ V.testBit i = false then -1 else ((L.count (i : Int) : Nat) : Int)
theorem mixL_len (V : Nat) (L : List Int) (n k : Nat) : (mixL V L n k).length = n := by simp [mixL]
theorem mixL_zero (V : Nat) (L : List Int) (n : Nat) : mixL V L n 0 = cntN n L := by simp [mixL, cntN]
theorem mixL_yes {V : Nat} {L : List Int} {n k : Nat} (h : V.testBit k = true) : mixL V L n (k + 1) = mixL V L n k := by
  unfold mixL
  apply List.map_congr_left
  intro i _
  by_cases e : i = k
  · subst e
    simp [h]
  · by_cases q : i < k ∧ V.testBit i = false
    · rw [if_pos q, if_pos ⟨by omega, q.2⟩]
    · rw [if_neg q, if_neg fun w => q ⟨by omega, w.2⟩]
theorem mixL_no {V : Nat} {L : List Int} {n k : Nat} (h : V.testBit k = false) (hk : k < n) : (mixL V L n k).set k (-1) = mixL V L n (k + 1) := by
  apply List.ext_getElem?
  intro i
  rw [List.getElem?_set, mixL_len]
  unfold mixL
  rw [List.getElem?_map, List.getElem?_map]
  by_cases e : k = i
  · subst e
    rw [if_pos rfl, if_pos hk, List.getElem?_range hk]
    simp [h]
  · rw [if_neg e]
    rcases Nat.lt_or_ge i n with hi | hi
    · rw [List.getElem?_range hi]
      simp only [Option.map_some, Option.some.injEq]
      by_cases q : i < k ∧ V.testBit i = false
      · rw [if_pos q, if_pos ⟨by omega, q.2⟩]
      · rw [if_neg q, if_neg fun w => q ⟨by omega, w.2⟩]
    · rw [List.getElem?_eq_none (by simpa using hi)]
      rfl
theorem mixL_fin {h : Hp} {s : List Bool} {n : Nat} (hn : h.cs.length = n) : mixL (Bm.wordN s true) (outOf h s) n n = trialL h s := by
  unfold mixL trialL
  rw [hn]
  apply List.map_congr_left
  intro i hi
  have hi := List.mem_range.1 hi
  unfold trialAt
  rw [Bm.wordN_bit]
  by_cases q : s[i]? = some true
  · rw [if_pos q, if_neg (by simp [q])]
  · rw [if_neg q, if_pos ⟨hi, by simp [q]⟩]
end Hps

set_option maxHeartbeats 1000000 in
theorem flaggedSet_any (A : Option Addr) (n c : Nat) (bs : List Bool) (w : World) (h : OS w w.heap.size A n bs) (hn : n ≤ 64) :
    Calls Try.prog 51 #[.slice A n c] w fun e w' => e = .returned (.int .u64 (Bm.wordN bs true : Nat)) ∧ w = w' := by
  have hlb := h.1
  have HW := Lib.hid (show Bm.wordN bs true = Bm.setN bs true n by rw [Bm.wordN, hlb])
  go_enter Try.func51, Try.ntmps51
  go_wp2_with fail
  go_loopw [3, 8] (fun v i wr => ∃ k : Nat, k ≤ n ∧ i = .int .i64 k ∧ v = .int .u64 (Bm.setN bs true k : Nat) ∧ wr = w) (fun _ i _ => n - (intOf i).toNat)
  case atStart => exact ⟨0, Nat.zero_le _, rfl, rfl, rfl⟩
  case round =>
    obtain ⟨k, hk, rfl, rfl, rfl⟩ := hrel
    by_cases hlt : k < n
    · obtain ⟨g, o, b, rfl, hg, hb, d1⟩ := h.at_ hlt
      have hlt' : (k : Int) < n := by omega
      have hV := Bm.setN_64 bs true (k := k) (by omega)
      obtain ⟨p1, p2, p3⟩ := Hps.pow_in (k := k) (by omega)
      have hor := Hps.or_in (V := Bm.setN bs true k) (k := k) hV (by omega)
      have hkneg : ¬ ((k : Int) < 0) := by omega
      cases b
      · have HN := Lib.hid (show Bm.setN bs true (k + 1) = Bm.setN bs true k by rw [Bm.setN, if_neg (by rw [hb]; decide)])
        clear hb
        go_wp2_with fail
        go_roundw
        case rel => exact ⟨k + 1, by omega, by go_num, by rw [HN.out], trivial⟩
        case measure => simp [intOf]; omega
      · have HN := Lib.hid (show Bm.setN bs true (k + 1) = Bm.setN bs true k ||| 2 ^ k by rw [Bm.setN, if_pos hb])
        clear hb
        go_wp2_with fail
        go_roundw
        case rel => exact ⟨k + 1, by omega, by go_num, by rw [HN.out], trivial⟩
        case measure => simp [intOf]; omega
    · obtain rfl : k = n := by omega
      go_wp2_with fail
      go_ret
      exact ⟨by rw [HW.out]; rfl, rfl⟩

end Go.Proofs.Ytakdjiojahlnmaa
